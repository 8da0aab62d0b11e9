import PyProof.Rows.All
import Wide.All
import OpenK.AllK
import Wide.FinOn
import Lean
import PyProof.EqAt
import PyProof.EqKinds
import PyProof.TupleCall
import PySem.Challenge.RW_weirwatch_k13_turns_refused
set_option Elab.async false
set_option linter.all false
set_option maxRecDepth 100000
namespace L2
open PySem PySem.Spec PyProof.Rows
abbrev Key := Sum Int Str
def Jwy : Key → Value → Bool
 | .inl k, v => Value.isInt k v
 | .inr x, v => Value.isStrOf x v
def keyH (w : World) : Key → Int
 | .inl k => hashInt k
 | .inr x => hashStr w x
theorem Jm2 : ∀ {k : Key} {v : Value}, Jwy k v = true → (∃ i t, k = Sum.inl i ∧ v = Value.int i t) ∨ (∃ x t, k = Sum.inr x ∧ v = Value.str x t)
 | .inl i, v, h => by
  obtain ⟨t, e⟩ := Value.isInt_shape (k := i) (v := v) h
  exact .inl ⟨i, t, rfl, e⟩
 | .inr x, v, h => by
  obtain ⟨t, e⟩ := Value.isStrOf_shape (x := x) (v := v) h
  exact .inr ⟨x, t, rfl, e⟩
theorem Jxr (x : Str) (t : Tok) : Jwy (.inr x) (.str x t) = true := by simp [Jwy, Value.isStrOf]
theorem key_ll (a b : Int) : decide ((Sum.inl a : Key) = Sum.inl b) = (a == b) := by
 by_cases e : a = b
 ·subst e; simp
 ·have h : ¬ (Sum.inl a : Key) = Sum.inl b := fun q => e (Sum.inl.inj q)
  rw [decide_eq_false h]
  exact (beq_eq_false_iff_ne.mpr e).symm
theorem key_rr (a b : Str) : decide ((Sum.inr a : Key) = Sum.inr b) = decide (a = b) := by
 by_cases e : a = b
 ·subst e; simp
 ·have h : ¬ (Sum.inr a : Key) = Sum.inr b := fun q => e (Sum.inr.inj q)
  rw [decide_eq_false h, decide_eq_false e]
theorem key_lr (a : Int) (b : Str) : decide ((Sum.inl a : Key) = Sum.inr b) = false := decide_eq_false (fun q => nomatch q)
theorem key_rl (a : Str) (b : Int) : decide ((Sum.inr a : Key) = Sum.inl b) = false := decide_eq_false (fun q => nomatch q)
def Jmi (prog : Program) (w : World) : PySem.KeyKind prog w Key where
 is := Jwy
 hash := keyH w
 inj := fun v a b ha hb => by
  rcases Jm2 ha with ⟨i, t, rfl, rfl⟩ | ⟨x, t, rfl, rfl⟩
  ·rcases Jm2 hb with ⟨j, u, rfl, e⟩ | ⟨y, u, rfl, e⟩
   ·injection e with e1 _; rw [e1]
   ·exact nomatch e
  ·rcases Jm2 hb with ⟨j, u, rfl, e⟩ | ⟨y, u, rfl, e⟩
   ·exact nomatch e
   ·injection e with e1 _; rw [e1]
 byValue := fun k v h => by
  rcases Jm2 h with ⟨i, t, rfl, rfl⟩ | ⟨x, t, rfl, rfl⟩ <;> rfl
 pyHash := fun hv h => by
  rcases Jm2 hv with ⟨i, t, rfl, rfl⟩ | ⟨x, t, rfl, rfl⟩
  ·exact wpAny_pyHash_int h
  ·exact wpAny_pyHash_str h
 eqBool := fun hu hv h => by
  rcases Jm2 hu with ⟨i, t, rfl, rfl⟩ | ⟨x, t, rfl, rfl⟩
  ·rcases Jm2 hv with ⟨j, u, rfl, rfl⟩ | ⟨y, u, rfl, rfl⟩
   ·rw [key_ll] at h; exact wpAny_eqBool_int h
   ·rw [key_lr] at h; exact SeqAt.EqAt.int_str i t y u _ _ _ _ h
  ·rcases Jm2 hv with ⟨j, u, rfl, rfl⟩ | ⟨y, u, rfl, rfl⟩
   ·rw [key_rl] at h; exact SeqAt.EqAt.str_int x t j u _ _ _ _ h
   ·rw [key_rr] at h; exact wpAny_eqBool_str h
 «strs» := fun k x t v h => by
  rcases Jm2 h with ⟨i, u, rfl, e⟩ | ⟨y, u, rfl, e⟩
  ·exact nomatch e
  ·injection e with e1 _
   subst e1
   cases v <;> rfl
theorem Jr0 (prog : Program) (w : World) (x : Str) (t : Tok) : (Jmi prog w).is (.inr x) (.str x t) = true := Jxr x t
end L2
namespace L2
open PySem PySem.Spec PyProof.Rows
inductive V where
 | non | bl (b : Bool) | int (i : Int) | str (x : Str) | byt (b : Array UInt8) | flt (b : UInt64) | ref (a : Addr) | ty (n : String)
 deriving DecidableEq
def RelV : V → Value → Prop
 | .non, u => u = Value.none
 | .bl b, u => u = Value.bool b
 | .int i, u => ∃ t, u = Value.int i t
 | .str x, u => ∃ t, u = Value.str x t
 | .byt b, u => ∃ t, u = Value.bytes b t
 | .flt b, u => ∃ t, u = Value.float b t
 | .ref a, u => u = Value.ref a
 | .ty n, u => u = Value.type n
abbrev Vals : List V → List Value → Prop := Paired RelV
theorem Vals.length {xs : List V} {us : List Value} (r : Vals xs us) : xs.length = us.length := Paired.length r
theorem Vals.get : ∀ {xs : List V} {us : List Value} {i : Nat} {x : V}, Vals xs us → xs[i]? = some x → ∃ u, us[i]? = some u ∧ RelV x u
 | _, _, _, _, .nil, e => by simp at e
 | _, _, 0, _, .cons r _, e => by simp at e; subst e; exact ⟨_, rfl, r⟩
 | _, _, i + 1, x, .cons _ t, e => by
  obtain ⟨u, h1, h2⟩ := Vals.get (i := i) (x := x) t (by simpa using e)
  exact ⟨u, by simpa using h1, h2⟩
theorem Vals.set {x : V} {u : Value} (r : RelV x u) : ∀ {xs : List V} {us : List Value} (i : Nat), Vals xs us → Vals (xs.set i x) (us.set i u)
 | _, _, _, .nil => .nil
 | _, _, 0, .cons _ t => .cons r t
 | _, _, i + 1, .cons q t => .cons q (Vals.set r i t)
theorem Vals.append : ∀ {xs ys : List V} {us ws : List Value}, Vals xs us → Vals ys ws → Vals (xs ++ ys) (us ++ ws)
 | _, _, _, _, .nil, s => s
 | _, _, _, _, .cons r t, s => .cons r (Vals.append t s)
theorem Vals.take : ∀ {xs : List V} {us : List Value} (n : Nat), Vals xs us → Vals (xs.take n) (us.take n)
 | _, _, 0, _ => .nil
 | _, _, _ + 1, .nil => .nil
 | _, _, n + 1, .cons r t => .cons r (Vals.take n t)
theorem Vals.drop : ∀ {xs : List V} {us : List Value} (n : Nat), Vals xs us → Vals (xs.drop n) (us.drop n)
 | _, _, 0, r => r
 | _, _, _ + 1, .nil => .nil
 | _, _, n + 1, .cons _ t => Vals.drop n t
def RelO : Option V → Option Value → Prop
 | some v, some u => RelV v u
 | none, none => True
 | _, _ => False
def KV {κ : Type} : List (κ × V) → List (κ × Value) → Prop := Paired fun (p : κ × V) (q : κ × Value) => p.1 = q.1 ∧ RelV p.2 q.2
def kV : Key → V
 | .inl i => .int i
 | .inr x => .str x
inductive HO where
 | lst (xs : List V)
 | tup (xs : List V)
 | dK (kvs : List (Key × V)) | dT (kvs : List (List Key × V))
 | set (S : Int → Bool) (n : Nat)
 | ins (C dx : Addr) (fs : List (Str × V))
 | own (x : Addr)
 | xd (fs : List (Str × V))
 | met (f x : Addr)
 | rng (lo hi : Int)
 | frz (o : Obj) (u : HO)
 | tbl (ps : Array Value)
 | ext (φ : Heap → Prop)
abbrev Hp := Addr → Option HO
def upd (H : Hp) (a : Addr) (o : HO) : Hp := fun b => if b = a then some o else H b
theorem Jko {H : Hp} {a : Addr} {o : HO} : upd H a o a = some o := by unfold upd; rw [if_pos rfl]
theorem Jkv {H : Hp} {a b : Addr} {o : HO} (h : b ≠ a) : upd H a o b = H b := by unfold upd; rw [if_neg h]
theorem Jmp {H : Hp} {a : Addr} {o u : HO} : upd (upd H a o) a u = upd H a u := by
 funext b; unfold upd; split <;> rfl
theorem ne_of {H : Hp} {a b : Addr} {o u : HO} (h : H a = some o) (h' : H b = some u) (d : o ≠ u) : a ≠ b := by
 intro e; subst e; rw [h] at h'; exact d (Option.some.inj h')
theorem Jkw {H : Hp} {a b : Addr} {o : HO} (h : H a = some o) (h' : H b = none) : a ≠ b := by
 intro e; subst e; rw [h] at h'; cases h'
section
variable (P : Program) (w : World)
def ObjOk (H : Hp) (h : Heap) (a : Addr) : HO → Prop
 | .lst xs => xs.length ≤ sizeLine ∧ ∃ (its : List Value) (n : Nat), Vals xs its ∧ h.get? a = some { cls := .type "list", data := .seq its.toArray n }
 | .tup xs => xs.length ≤ sizeLine ∧ ∃ its : List Value, Vals xs its ∧ IsTup h a its.toArray
 | .dK kvs => kvs.length ≤ sizeLine ∧ (a == sysModules) = false ∧ ∃ vs, KV kvs vs ∧ h.DictOf (Jmi P w) a vs
 | .dT kvs => kvs.length ≤ sizeLine ∧ (a == sysModules) = false ∧ ∃ xs : List (List Key × Addr × Value),
   Paired (fun (p : List Key × V) (q : List Key × Addr × Value) => p.1 = q.1 ∧ H q.2.1 = some (.tup (p.1.map kV)) ∧ RelV p.2 q.2.2) kvs xs ∧
   ∃ o es ep, h.get? a = some o ∧ o.ExactDict ∧ o.data = .dict es ep ∧ es.toList = xs.map (entryOfKey (tupleKind (Jmi P w))) ∧ (xs.map (·.1)).Nodup
 | .set S n => h.SetOf (intKind P w) a S n
 | .ins C dx fs => H dx = some (.own a) ∧ fs.length ≤ 1000 ∧ dx ≠ a ∧ h.get? a = some (PySem.W.instObj C dx) ∧
   ∃ mA, h.Ns1 dx mA ∧ (∀ f, RelO (fs.lookup f) (mA f)) ∧ PySem.Within mA (fs.map (·.1))
 | .own _ => ∃ o, h.get? a = some o
 | .xd fs => ∃ mA, h.Ns1 a mA ∧ ∀ f, RelO (fs.lookup f) (mA f)
 | .rng lo hi => ∃ t u v, h.get? a = some { cls := .type "range", data := .fields #[.int lo t, .int hi u, .int 1 v] }
 | .frz o u => h.get? a = some o ∧ ObjOk H h a u
 | .tbl ps => h.get? a = some { cls := .none, data := .fields ps }
 | .met f x => h.get? a = some (PySem.W.methodObj (.ref f) (.ref x))
 | .ext φ => φ h ∧ (∃ o, h.get? a = some o) ∧ ∀ h1 h2 : Heap, φ h1 → (∀ o, h1.get? a = some o → h2.get? a = some o) → φ h2
def HOk (H : Hp) (h : Heap) : Prop := ∀ a o, H a = some o → ObjOk P w H h a o
end
section
variable {P : Program} {w : World} {H H' : Hp} {h h' : Heap} {a : Addr} {o : HO}
theorem ObjOk.lt (x : ObjOk P w H h a o) : a < h.objs.size := by
 cases o with
 | lst xs => obtain ⟨_, _, _, _, e⟩ := x; exact Heap.lt_size e
 | tup xs => obtain ⟨_, _, _, p⟩ := x; exact p.lt
 | dK kvs => obtain ⟨_, _, _, _, o, _, _, e, _⟩ := x; exact Heap.lt_size e
 | dT kvs => obtain ⟨_, _, _, _, o, _, _, e, _⟩ := x; exact Heap.lt_size e
 | set S n => obtain ⟨o, _, _, _, e, _⟩ := x; exact Heap.lt_size e
 | ins C dx fs => obtain ⟨_, _, _, e, _⟩ := x; exact Heap.lt_size e
 | own y => obtain ⟨_, e⟩ := x; exact Heap.lt_size e
 | xd fs => obtain ⟨_, ⟨_, _, _, e, _⟩, _⟩ := x; exact Heap.lt_size e
 | rng lo hi => obtain ⟨_, _, _, e⟩ := x; exact Heap.lt_size e
 | frz ob u => obtain ⟨e, _⟩ := x; exact Heap.lt_size e
 | tbl ps => exact Heap.lt_size (show h.get? a = some _ from x)
 | met f y => exact Heap.lt_size (show h.get? a = some _ from x)
 | ext φ => obtain ⟨_, ⟨_, e⟩, _⟩ := x; exact Heap.lt_size e
theorem Paired.mapP {α β : Type} {F G : α → β → Prop} : ∀ {l₁ : List α} {l₂ : List β}, Paired F l₁ l₂ → (∀ a b, F a b → G a b) → Paired G l₁ l₂
 | _, _, .nil, _ => .nil
 | _, _, .cons r t, f => .cons (f _ _ r) (Paired.mapP t f)
theorem ObjOk.stay (x : ObjOk P w H h a o) (k : ∀ b u, (b = a ∨ H b = some (.own a)) → h.get? b = some u → h'.get? b = some u)
  (ho : ∀ b, H b = some (.own a) → H' b = some (.own a)) (ht : ∀ b xs, H b = some (.tup xs) → H' b = some (.tup xs)) : ObjOk P w H' h' a o := by
 induction o with
 | lst xs => obtain ⟨z, its, n, r, e⟩ := x; exact ⟨z, its, n, r, k _ _ (.inl rfl) e⟩
 | tup xs => obtain ⟨z, its, r, ob, e, c⟩ := x; exact ⟨z, its, r, ob, k _ _ (.inl rfl) e, c⟩
 | dK kvs => obtain ⟨z, y, vs, r, ob, es, ep, e, c⟩ := x; exact ⟨z, y, vs, r, ob, es, ep, k _ _ (.inl rfl) e, c⟩
 | dT kvs =>
  obtain ⟨z, y, xs, r, ob, es, ep, e, c⟩ := x
  exact ⟨z, y, xs, Paired.mapP r fun p q z => ⟨z.1, ht _ _ z.2.1, z.2.2⟩, ob, es, ep, k _ _ (.inl rfl) e, c⟩
 | set S n => obtain ⟨ob, es, ep, t, e, c⟩ := x; exact ⟨ob, es, ep, t, k _ _ (.inl rfl) e, c⟩
 | ins C dx fs =>
  obtain ⟨d, z, ne, e, mA, ⟨od, es, ep, e2, c⟩, r⟩ := x
  exact ⟨ho _ d, z, ne, k _ _ (.inl rfl) e, mA, ⟨od, es, ep, k _ _ (.inr d) e2, c⟩, r⟩
 | own y => obtain ⟨ob, e⟩ := x; exact ⟨ob, k _ _ (.inl rfl) e⟩
 | xd fs => obtain ⟨mA, ⟨od, es, ep, e, c⟩, r⟩ := x; exact ⟨mA, ⟨od, es, ep, k _ _ (.inl rfl) e, c⟩, r⟩
 | rng lo hi => obtain ⟨t, u, v, e⟩ := x; exact ⟨t, u, v, k _ _ (.inl rfl) e⟩
 | frz ob u ih => obtain ⟨e, q⟩ := x; exact ⟨k _ _ (.inl rfl) e, ih q⟩
 | tbl ps =>
  have e : h.get? a = some { cls := .none, data := .fields ps } := x
  show h'.get? a = some { cls := .none, data := .fields ps }
  exact k a _ (.inl rfl) e
 | met f y =>
  have e : h.get? a = some (PySem.W.methodObj (.ref f) (.ref y)) := x
  show h'.get? a = some (PySem.W.methodObj (.ref f) (.ref y))
  exact k a _ (.inl rfl) e
 | ext φ => obtain ⟨p, ⟨o, e⟩, st⟩ := x; exact ⟨st _ _ p fun o q => k _ _ (.inl rfl) q, ⟨o, k _ _ (.inl rfl) e⟩, st⟩
theorem HOk.lt (x : HOk P w H h) (e : H a = some o) : a < h.objs.size := (x a o e).lt
theorem HOk.fresh (x : HOk P w H h) (e : h.objs.size ≤ a) : H a = none := by
 cases q : H a with
 | none => rfl
 | some u => exact absurd (Nat.lt_of_lt_of_le (x.lt q) e) (Nat.lt_irrefl _)
theorem HOk.kept (x : HOk P w H h) (k : ∀ b u, h.get? b = some u → h'.get? b = some u) : HOk P w H h' := fun a o e =>
 (x a o e).stay (fun b u _ q => k b u q) (fun _ q => q) fun _ _ q => q
theorem HOk.laid (x : HOk P w H h) (k : ∀ b u, h.get? b = some u → h'.get? b = some u) (hp : h.objs.size ≤ a) (new : ObjOk P w (upd H a o) h' a o) : HOk P w (upd H a o) h' := fun b u e => by
 have hn := x.fresh hp
 by_cases hb : b = a
 ·subst hb; rw [Jko] at e; cases e; exact new
 ·rw [Jkv hb] at e
  exact (x b u e).stay (fun c v _ q => k c v q) (fun c q => by rw [Jkv (Jkw q hn)]; exact q) fun c xs q => by rw [Jkv (Jkw q hn)]; exact q
end
def Rd (H : Hp) (a : Addr) (u : HO) : Prop := H a = some u ∨ ∃ o, H a = some (.frz o u)
theorem Rd.ok {P : Program} {w : World} {H : Hp} {h : Heap} {a : Addr} {u : HO} (r : Rd H a u) (x : HOk P w H h) : ObjOk P w H h a u := by
 rcases r with r | ⟨o, r⟩
 ·exact x a u r
 ·obtain ⟨_, q⟩ := x a _ r
  exact q
def Mut : Option HO → Prop
 | some (.lst _) => True
 | some (.dK _) => True
 | some (.dT _) => True
 | some (.set _ _) => True
 | some (.ins _ _ _) => True
 | some (.ext _) => True
 | _ => False
section
variable {P : Program} {w : World} {H : Hp} {h h' : Heap} {x e : Addr} {o' : HO}
theorem HOk.write (ok : HOk P w H h) (mu : Mut (H x)) (he : e = x ∨ H e = some (.own x)) (k : ∀ b u, b ≠ e → h.get? b = some u → h'.get? b = some u) (heo : ∃ u, h'.get? e = some u)
  (new : ObjOk P w (upd H x o') h' x o') : HOk P w (upd H x o') h' := fun b u q => by
 have nown : ∀ c y, H c = some (.own y) → c ≠ x := fun c y r z => by subst z; rw [r] at mu; exact mu
 have ntup : ∀ c xs, H c = some (.tup xs) → c ≠ x := fun c xs r z => by subst z; rw [r] at mu; exact mu
 by_cases hb : b = x
 ·subst hb; rw [Jko] at q; cases q; exact new
 ·rw [Jkv hb] at q
  by_cases hbe : b = e
  ·have q' : H b = some (.own x) := by
    rcases he with z | z
    ·exact absurd (hbe.trans z) hb
    ·rw [hbe]; exact z
   rw [q] at q'; cases q'
   obtain ⟨v, hv⟩ := heo
   exact ⟨v, by rw [hbe]; exact hv⟩
  ·refine (ok b u q).stay (fun c v hc r => k c v ?_ r) (fun c r => by rw [Jkv (nown c b r)]; exact r) fun c xs r => by rw [Jkv (ntup c xs r)]; exact r
   rcases hc with rfl | hc
   ·exact hbe
   ·rintro rfl
    rcases he with z | z
    ·exact nown c b hc z
    ·rw [hc] at z; cases z; exact hb rfl
end
structure Un (fs ex : List Addr) (H H' : Hp) (h h' : Heap) : Prop where
 keep : ∀ b o, h.get? b = some o → H b = none → b ∉ fs → b ∉ ex → h'.get? b = some o
 slot : ∀ b o, h.get? b = some o → H b = none → b ∈ fs → b ∉ ex → ∃ sl, h'.get? b = some { o with slots := sl }
 free : ∀ b o, h.get? b = some o → H b = none → b ∉ ex → H' b = none
 there : ∀ b o, h.get? b = some o → b ∉ ex → ∃ o', h'.get? b = some o'
 tups : ∀ b xs, H b = some (.tup xs) → H' b = some (.tup xs)
 frzs : ∀ b o u, H b = some (.frz o u) → H' b = some (.frz o u)
 tbls : ∀ b ps, H b = some (.tbl ps) → ∃ more, H' b = some (.tbl (ps ++ more))
section
variable {fs fs' ex ex' : List Addr} {H H1 H2 : Hp} {h h1 h2 h' : Heap} {a x e : Addr} {o : HO}
theorem Un.any (u : Un fs ex H H1 h h1) {b : Addr} {ob : Obj} (q : h.get? b = some ob) (n : H b = none) (hx : b ∉ ex) : ∃ sl, h1.get? b = some { ob with slots := sl } := by
 by_cases hb : b ∈ fs
 ·exact u.slot b ob q n hb hx
 ·exact ⟨ob.slots, u.keep b ob q n hb hx⟩
theorem Un.trans (a : Un fs ex H H1 h h1) (b : Un fs ex H1 H2 h1 h2) : Un fs ex H H2 h h2 where
 keep := fun c ob q n hc hx => b.keep c ob (a.keep c ob q n hc hx) (a.free c ob q n hx) hc hx
 slot := fun c ob q n hc hx => by
  obtain ⟨sl, e1⟩ := a.slot c ob q n hc hx
  obtain ⟨sl', e2⟩ := b.slot c _ e1 (a.free c ob q n hx) hc hx
  exact ⟨sl', e2⟩
 free := fun c ob q n hx => by
  obtain ⟨o', e1⟩ := a.there c ob q hx
  exact b.free c o' e1 (a.free c ob q n hx) hx
 there := fun c ob q hx => by
  obtain ⟨o', e1⟩ := a.there c ob q hx
  exact b.there c o' e1 hx
 tups := fun c xs q => b.tups c xs (a.tups c xs q)
 frzs := fun c ob xs q => b.frzs c ob xs (a.frzs c ob xs q)
 tbls := fun c ps q => by
  obtain ⟨m1, e1⟩ := a.tbls c ps q
  obtain ⟨m2, e2⟩ := b.tbls c _ e1
  exact ⟨m1 ++ m2, by rw [e2, Array.append_assoc]⟩
theorem Un.kept (k : ∀ b u, h.get? b = some u → h'.get? b = some u) : Un fs ex H H h h' :=
 ⟨fun b ob q _ _ _ => k b ob q, fun b ob q _ _ _ => ⟨ob.slots, k b ob q⟩, fun _ _ _ n _ => n, fun b ob q _ => ⟨ob, k b ob q⟩, fun _ _ q => q, fun _ _ _ q => q, fun _ ps q => ⟨#[], by rw [q]; simp⟩⟩
theorem Un.refl : Un fs ex H H h h := Un.kept fun _ _ q => q
theorem Un.laid (k : ∀ b u, h.get? b = some u → h'.get? b = some u) (hp : h.objs.size ≤ a) (hn : H a = none) : Un fs ex H (upd H a o) h h' where
 keep := fun b u q _ _ _ => k b u q
 slot := fun b u q _ _ _ => ⟨u.slots, k b u q⟩
 free := fun b u q n _ => by rw [Jkv (Nat.ne_of_lt (Nat.lt_of_lt_of_le (Heap.lt_size q) hp))]; exact n
 there := fun b u q _ => ⟨u, k b u q⟩
 tups := fun b xs q => by rw [Jkv (Jkw q hn)]; exact q
 frzs := fun b u xs q => by rw [Jkv (Jkw q hn)]; exact q
 tbls := fun b ps q => ⟨#[], by rw [Jkv (Jkw q hn), q]; simp⟩
theorem Un.write (mu : Mut (H x)) (he : e = x ∨ H e = some (.own x)) (k : ∀ b u, b ≠ e → h.get? b = some u → h'.get? b = some u) (heo : ∃ u, h'.get? e = some u) : Un fs ex H (upd H x o) h h' := by
 have hx : ∀ b, H b = none → b ≠ x := fun b n z => by subst z; rw [n] at mu; exact mu
 have hb : ∀ b, H b = none → b ≠ e := fun b n z => by
  subst z
  rcases he with r | r
  ·exact hx b n r
  ·rw [n] at r; cases r
 have hm : ∀ b u, H b = some u → ¬ Mut (some u) → b ≠ x := fun b u q nm z => by subst z; rw [q] at mu; exact nm mu
 refine ⟨fun b u q n _ _ => k b u (hb b n) q, fun b u q n _ _ => ⟨u.slots, k b u (hb b n) q⟩, fun b u q n _ => by rw [Jkv (hx b n)]; exact n, fun b u q _ => ?_,
  fun b xs q => by rw [Jkv (hm b _ q fun z => z)]; exact q, fun b u xs q => by rw [Jkv (hm b _ q fun z => z)]; exact q, fun b ps q => ⟨#[], by rw [Jkv (hm b _ q fun z => z), q]; simp⟩⟩
 by_cases hbe : b = e
 ·subst hbe; exact heo
 ·exact ⟨u, k b u hbe q⟩
end
def trk (h : Heap) (H : Hp) : List Addr := (List.range h.objs.size).filter fun a => (H a).isSome
def Ju4 (h : Heap) (H : Hp) : Heap := PySem.W.hideAll h (trk h H)
theorem Jxp (h : Heap) (H : Hp) : (Ju4 h H).objs.size = h.objs.size := PySem.W.hideAll_size _ _
theorem Jyw {h : Heap} {H : Hp} {b : Addr} {o : Obj} (e : h.get? b = some o) (n : H b = none) : (Ju4 h H).get? b = some o :=
 PySem.W.hideAll_get _ e fun hm => by
  have q : (H b).isSome = true := (List.mem_filter.mp hm).2
  rw [n] at q; simp at q
theorem Yr {h : Heap} {H : Hp} {b : Addr} {o : Obj} (e : (Ju4 h H).get? b = some o) : h.get? b = some o ∧ H b = none := by
 have e' : h.get? b = some o := PySem.W.of_hideAll (trk h H) e
 refine ⟨e', ?_⟩
 cases q : H b with
 | none => rfl
 | some x =>
  have hm : b ∈ trk h H := List.mem_filter.mpr ⟨List.mem_range.mpr (Heap.lt_size e'), by simp [q]⟩
  have z : (Ju4 h H).get? b = none := PySem.W.hideAll_none (trk h H) hm
  rw [z] at e; cases e
end L2
namespace L2
open PySem PySem.Spec PyProof.Rows
structure Mod (K : PySem.W.Frag) (mg : Str → Option Value) (base : Heap) : Prop where
 kin : K.In base
 glob : base.Ns mainGlobals mg
 blt : ∃ mb, base.Ns builtinsNs mb ∧ ∀ x : Str, x ≠ "__name__" → mb x = bootBuiltins x
 nolimit : base.NoLimit
structure Cx where
 prog : Program
 w : World
 K : PySem.W.Frag
 mg : Str → Option Value
 base : Heap
 A : Around
 N : List Str
 s₀ : Shared
 H₀ : Hp
 env : Env
 outer : List Env
 stack : List Env
 ex : List Addr
 fn : Str → Bool
 calm : Bool
 pn : List (Addr × Obj)
 xe : Value → Shared → Prop
def frs (l : List Env) : List Addr := l.filterMap (·.frame)
abbrev Cx.fs (X : Cx) : List Addr := frs X.outer
def Vis (sc : Scope) (x : Str) : Prop := sc.names.lookup x = some .local ∨ sc.names.lookup x = some .cell ∨ sc.names.lookup x = some .free
def Loc (sc : Scope) (x : Str) : Prop := sc.names.lookup x = some .local ∨ sc.names.lookup x = some .cell
def Look (env : Env) (h : Heap) (m : Str → Option Value) (x : Str) (u : Value) : Prop :=
 (env.kindOf x = some .local ∧ m x = some u) ∨ ((env.kindOf x = some .cell ∨ env.kindOf x = some .free) ∧ ∃ c, env.cells.lookup x = some c ∧ h.IsCell c (some u))
structure Cx.Ok (X : Cx) : Prop where
 mod : Mod X.K X.mg X.base
 kind : X.env.scope.kind = .function
 glob : X.env.globals = mainGlobals
 blt : X.env.builtins = builtinsNs
 above : X.s₀.heap.objs.size ≤ X.env.locals
 inj : ∀ x y c, X.env.cells.lookup x = some c → X.env.cells.lookup y = some c → x = y
 has : ∀ x, (X.env.kindOf x = some .cell ∨ X.env.kindOf x = some .free) → ∃ c, X.env.cells.lookup x = some c
 cab : ∀ x c, X.fn x = true → X.env.cells.lookup x = some c → X.s₀.heap.objs.size ≤ c
 hd : X.calm = true → X.A.handled = none
 frames : X.A.frames = some X.stack
 stk : X.stack = X.outer ∨ (X.stack = X.env :: X.outer ∧ X.env.frame = some X.env.locals)
 exf : ∀ b ∈ X.ex, b ≠ X.env.locals ∧ ∀ x c, X.env.cells.lookup x = some c → c ≠ b
 bs : ∀ b o, X.base.get? b = some o → X.s₀.heap.get? b = some o ∧ X.H₀ b = none
 bsz : X.base.objs.size ≤ X.s₀.heap.objs.size
 noex : ∀ b o, X.base.get? b = some o → b ∉ X.ex
 exfs : ∀ b ∈ X.ex, b ∉ X.fs
 funs : X.s₀.heap.FunFrames X.base X.outer
 frf : ∀ b ∈ X.fs, X.H₀ b = none
structure Inv (X : Cx) (pins : List (Addr × Obj)) (σ : List (Option V)) (H : Hp) (s : Shared) : Prop where
 ok : X.Ok
 os : s.os = X.s₀.os
 bare : AllBare s.gens
 base : Un X.fs X.ex X.H₀ H X.s₀.heap s.heap
 loc : ∃ m, s.heap.Ns X.env.locals m ∧ ∀ (i : Nat) (x : Str) (v : V), X.N[i]? = some x → σ[i]? = some (some v) → Vis X.env.scope x → ∃ u, RelV v u ∧ Look X.env s.heap m x u
 cell : ∀ x c, X.env.cells.lookup x = some c → ∃ v, s.heap.IsCell c v
 free : H X.env.locals = none
 freeC : ∀ x c, X.env.cells.lookup x = some c → H c = none
 pin : ∀ p ∈ X.pn ++ pins, s.heap.get? p.1 = some p.2 ∧ H p.1 = none ∧ p.1 ≠ X.env.locals ∧ p.1 ∉ X.fs ∧ ∀ v, p.2.data ≠ .cell v
 hok : HOk X.prog X.w H s.heap
 len : σ.length = X.N.length
section
variable {X : Cx} {pins : List (Addr × Obj)} {σ : List (Option V)} {H H' : Hp} {s : Shared} {h' : Heap}
theorem Cx.Ok.nofr (ok : X.Ok) {b : Addr} {o : Obj} (e : X.base.get? b = some o) : b ∉ X.fs := fun hb => by
 have := (ok.funs.mem hb).1
 rw [e] at this; cases this
theorem Inv.bs (I : Inv X pins σ H s) : ∀ b o, X.base.get? b = some o → s.heap.get? b = some o ∧ H b = none := fun b o e =>
 ⟨I.base.keep b o (I.ok.bs b o e).1 (I.ok.bs b o e).2 (I.ok.nofr e) (I.ok.noex b o e), I.base.free b o (I.ok.bs b o e).1 (I.ok.bs b o e).2 (I.ok.noex b o e)⟩
theorem Inv.bk (I : Inv X pins σ H s) : ∀ b o, X.base.get? b = some o → s.heap.get? b = some o := fun b o e => (I.bs b o e).1
theorem Inv.mod (I : Inv X pins σ H s) : Mod X.K X.mg X.base := I.ok.mod
theorem Inv.kIn (I : Inv X pins σ H s) : X.K.In s.heap := I.ok.mod.kin.keeps I.bk
theorem Inv.lt (I : Inv X pins σ H s) : X.env.locals < s.heap.objs.size := let ⟨_, hn, _⟩ := I.loc; hn.lt
theorem Inv.sz (I : Inv X pins σ H s) : X.s₀.heap.objs.size ≤ s.heap.objs.size := Nat.le_trans I.ok.above (Nat.le_of_lt I.lt)
theorem Inv.nofs (I : Inv X pins σ H s) {a : Addr} (h : s.heap.objs.size ≤ a) : a ∉ X.fs := fun hb => by
 obtain ⟨_, o, ho, _⟩ := I.ok.funs.mem hb
 exact absurd (Nat.lt_of_lt_of_le (Heap.lt_size ho) (Nat.le_trans I.sz h)) (Nat.lt_irrefl _)
theorem Inv.cne (I : Inv X pins σ H s) : ∀ x c, X.env.cells.lookup x = some c → c ≠ X.env.locals := fun x c e z => by
 obtain ⟨v, o, ho, hd⟩ := I.cell x c e
 obtain ⟨m, ⟨o', es, ep, ho', hd', _⟩, _⟩ := I.loc
 rw [z, ho'] at ho; cases ho; rw [hd'] at hd; cases hd
theorem Inv.funs (I : Inv X pins σ H s) : s.heap.FunFrames X.base X.outer := by
 have all : ∀ (l : List Env), (∀ b ∈ frs l, b ∈ X.fs) → X.s₀.heap.FunFrames X.base l → s.heap.FunFrames X.base l := by
  intro l
  induction l with
  | nil => intro _ _; trivial
  | cons env r ih =>
   intro hs hl
   obtain ⟨hk, ⟨L, o, hf, hn, ho, hd⟩, hr⟩ := hl
   have hL : L ∈ X.fs := hs L (by unfold frs; rw [List.filterMap_cons, hf]; exact List.mem_cons_self)
   obtain ⟨sl, e⟩ := I.base.slot L o ho (I.ok.frf L hL) hL fun z => I.ok.exfs L z hL
   exact ⟨hk, ⟨L, _, hf, hn, e, hd⟩, ih (fun b hb => hs b (by unfold frs; rw [List.filterMap_cons, hf]; exact List.mem_cons_of_mem _ hb)) hr⟩
 exact all X.outer (fun _ hb => hb) I.ok.funs
theorem Inv.stack (I : Inv X pins σ H s) : s.heap.FunFrames X.base X.stack := by
 rcases I.ok.stk with e | ⟨e, hf⟩
 ·rw [e]; exact I.funs
 ·rw [e]
  obtain ⟨m, hn, _⟩ := I.loc
  refine .cons (by rw [I.ok.kind]; decide) hf hn ?_ I.funs
  exact Heap.get?_none_of_le (Nat.le_trans I.ok.bsz I.ok.above)
theorem Inv.stkSub (I : Inv X pins σ H s) : ∀ b ∈ frs X.stack, b ∈ X.env.locals :: X.fs := fun b hb => by
 rcases I.ok.stk with e | ⟨e, hf⟩
 ·rw [e] at hb; exact List.mem_cons_of_mem _ hb
 ·rw [e] at hb
  unfold frs at hb
  rw [List.filterMap_cons, hf] at hb
  exact hb
theorem Inv.stkFree (I : Inv X pins σ H s) : ∀ b ∈ frs X.stack, H b = none := fun b hb => by
 rcases List.mem_cons.mp (I.stkSub b hb) with e | hb
 ·rw [e]; exact I.free
 ·obtain ⟨_, o, ho, _⟩ := I.ok.funs.mem hb
  exact I.base.free b o ho (I.ok.frf b hb) fun z => I.ok.exfs b z hb
theorem Inv.step {g' : Array GenState} {t' : Nat} {d' : Drawn} {ch : List Addr} (I : Inv X pins σ H s)
  (hch : ∀ b ∈ ch, (b ∈ X.ex ∨ X.s₀.heap.objs.size ≤ b) ∧ b ≠ X.env.locals ∧ (∀ x c, X.env.cells.lookup x = some c → c ≠ b) ∧ ∀ p ∈ X.pn ++ pins, p.1 ≠ b)
  (keep : ∀ b o, b ≠ X.env.locals → b ∉ X.fs → b ∉ ch → s.heap.get? b = some o → H b = none → h'.get? b = some o)
  (slot : ∀ b o, b ≠ X.env.locals → b ∈ X.fs → b ∉ ch → s.heap.get? b = some o → H b = none → ∃ sl, h'.get? b = some { o with slots := sl }) (free : ∀ b o, b ∉ ch → s.heap.get? b = some o → H b = none → H' b = none)
  (there : ∀ b o, b ∉ ch → s.heap.get? b = some o → ∃ o', h'.get? b = some o')
  (tups : ∀ b xs, H b = some (.tup xs) → H' b = some (.tup xs)) (frzs : ∀ b o u, H b = some (.frz o u) → H' b = some (.frz o u)) (tbls : ∀ b ps, H b = some (.tbl ps) → ∃ more, H' b = some (.tbl (ps ++ more)))
  (ns : ∀ m, s.heap.Ns X.env.locals m → h'.Ns X.env.locals m) (hok : HOk X.prog X.w H' h') (hg : AllBare g') :
  Inv X pins σ H' { s with heap := h', gens := g', drawn := d', toks := t' } := by
 have neL : ∀ b o, X.s₀.heap.get? b = some o → b ≠ X.env.locals := fun b o e => Nat.ne_of_lt (Nat.lt_of_lt_of_le (Heap.lt_size e) I.ok.above)
 have neC : ∀ b o, X.s₀.heap.get? b = some o → b ∉ X.ex → b ∉ ch := fun b o e hx hb => by
  rcases (hch b hb).1 with z | z
  ·exact hx z
  ·exact absurd (Nat.lt_of_lt_of_le (Heap.lt_size e) z) (Nat.lt_irrefl _)
 have cellK : ∀ x c, X.env.cells.lookup x = some c → ∀ v, s.heap.IsCell c v → h'.IsCell c v := fun x c e v ⟨o, ho, hd⟩ => by
  have nch : c ∉ ch := fun z => (hch c z).2.2.1 x c e rfl
  by_cases hc : c ∈ X.fs
  ·obtain ⟨sl, q⟩ := slot c o (I.cne x c e) hc nch ho (I.freeC x c e)
   exact ⟨_, q, hd⟩
  ·exact ⟨o, keep c o (I.cne x c e) hc nch ho (I.freeC x c e), hd⟩
 refine ⟨I.ok, I.os, hg, ⟨fun b o e n hb hx => ?_, fun b o e n hb hx => ?_, fun b o e n hx => ?_, fun b o e hx => ?_, fun b xs e => tups b xs (I.base.tups b xs e), fun b o xs e => frzs b o xs (I.base.frzs b o xs e), fun b ps e => ?_⟩, ?_, fun x c e => ?_, ?_, fun x c e => ?_, fun p hp => ?_, hok, I.len⟩
 ·exact keep b o (neL b o e) hb (neC b o e hx) (I.base.keep b o e n hb hx) (I.base.free b o e n hx)
 ·obtain ⟨sl, e1⟩ := I.base.slot b o e n hb hx
  obtain ⟨sl', e2⟩ := slot b _ (neL b o e) hb (neC b o e hx) e1 (I.base.free b o e n hx)
  exact ⟨sl', e2⟩
 ·obtain ⟨o', e1⟩ := I.base.there b o e hx
  exact free b o' (neC b o e hx) e1 (I.base.free b o e n hx)
 ·obtain ⟨o', e1⟩ := I.base.there b o e hx
  exact there b o' (neC b o e hx) e1
 ·obtain ⟨m1, e1⟩ := I.base.tbls b ps e
  obtain ⟨m2, e2⟩ := tbls b _ e1
  exact ⟨m1 ++ m2, by rw [e2, Array.append_assoc]⟩
 ·obtain ⟨m, hn, hl⟩ := I.loc
  refine ⟨m, ns m hn, fun i x v e1 e2 e3 => ?_⟩
  obtain ⟨u, r, l⟩ := hl i x v e1 e2 e3
  refine ⟨u, r, ?_⟩
  rcases l with l | ⟨k, c, e, z⟩
  ·exact .inl l
  ·exact .inr ⟨k, c, e, cellK x c e _ z⟩
 ·obtain ⟨v, z⟩ := I.cell x c e
  exact ⟨v, cellK x c e v z⟩
 ·obtain ⟨m, ⟨o, _, _, ho, _⟩, _⟩ := I.loc
  exact free _ o (fun z => (hch _ z).2.1 rfl) ho I.free
 ·obtain ⟨v, o, ho, hd⟩ := I.cell x c e
  exact free c o (fun z => (hch c z).2.2.1 x c e rfl) ho (I.freeC x c e)
 ·obtain ⟨e, n, ne, nf, d⟩ := I.pin p hp
  have nch : p.1 ∉ ch := fun z => (hch p.1 z).2.2.2 p hp rfl
  exact ⟨keep p.1 p.2 ne nf nch e n, free p.1 p.2 nch e n, ne, nf, d⟩
theorem Inv.un {t' : Nat} (I : Inv X pins σ H s) (u : Un X.fs [] H H' s.heap h') (hok : HOk X.prog X.w H' h') : Inv X pins σ H' { s with heap := h', toks := t' } := by
 obtain ⟨m, ⟨o, es, ep, ho, r⟩, _⟩ := id I.loc
 obtain ⟨sl, hL⟩ := u.any ho I.free (by simp)
 exact I.step (g' := s.gens) (d' := s.drawn) (ch := []) (fun _ z => nomatch z) (fun b o _ hb _ e n => u.keep b o e n hb (by simp)) (fun b o _ hb _ e n => u.slot b o e n hb (by simp)) (fun b o _ e n => u.free b o e n (by simp)) (fun b o _ e => u.there b o e (by simp)) u.tups u.frzs u.tbls (fun m' hm => by
  obtain ⟨o', es', ep', ho', r'⟩ := hm
  rw [ho] at ho'; cases ho'
  exact ⟨_, es', ep', hL, r'⟩) hok I.bare
theorem Inv.call {g' : Array GenState} {t' : Nat} {d' : Drawn} {ch : List Addr} (I : Inv X pins σ H s) (u : Un (frs X.stack) ch H H' s.heap h') (hok : HOk X.prog X.w H' h') (hg : AllBare g')
  (hch : ∀ b ∈ ch, (b ∈ X.ex ∨ X.s₀.heap.objs.size ≤ b) ∧ b ≠ X.env.locals ∧ (∀ x c, X.env.cells.lookup x = some c → c ≠ b) ∧ ∀ p ∈ X.pn ++ pins, p.1 ≠ b) :
  Inv X pins σ H' { s with heap := h', gens := g', drawn := d', toks := t' } := by
 obtain ⟨m, ⟨o, es, ep, ho, r⟩, _⟩ := id I.loc
 obtain ⟨sl, hL⟩ := u.any ho I.free fun z => (hch _ z).2.1 rfl
 exact I.step (ch := ch) hch (fun b o hL hb hc e n => u.keep b o e n (fun z => (List.mem_cons.mp (I.stkSub b z)).elim hL hb) hc) (fun b o _ _ hc e n => u.any e n hc) (fun b o hc e n => u.free b o e n hc) (fun b o hc e => u.there b o e hc) u.tups u.frzs u.tbls (fun m' hm => by
  obtain ⟨o', es', ep', ho', r'⟩ := hm
  rw [ho] at ho'; cases ho'
  exact ⟨_, es', ep', hL, r'⟩) hok hg
theorem Inv.turned {t' : Nat} {it : Addr} (I : Inv X pins σ H s) (k : ∀ b o, b ≠ it → s.heap.get? b = some o → h'.get? b = some o) (hn : H it = none) (hL : it ≠ X.env.locals)
  (h1 : it ∈ X.ex ∨ X.s₀.heap.objs.size ≤ it) (h2 : ∀ x c, X.env.cells.lookup x = some c → c ≠ it) (h3 : ∀ p ∈ X.pn ++ pins, p.1 ≠ it) : Inv X pins σ H { s with heap := h', toks := t' } := by
 have nit : ∀ b u, H b = some u → b ≠ it := fun b u e z => by rw [z, hn] at e; cases e
 refine I.step (g' := s.gens) (d' := s.drawn) (ch := [it]) (fun b hb => ?_) (fun b o _ _ hc e _ => k b o (fun z => hc (by simp [z])) e) (fun b o _ _ hc e _ => ⟨o.slots, k b o (fun z => hc (by simp [z])) e⟩) (fun _ _ _ _ n => n)
  (fun b o hc e => ⟨o, k b o (fun z => hc (by simp [z])) e⟩) (fun _ _ e => e) (fun _ _ _ e => e) (fun b ps e => ⟨#[], by rw [e]; simp⟩) (fun m hm => ?_) (fun b u e => ?_) I.bare
 ·have e : b = it := by simpa using hb
  subst e
  exact ⟨h1, hL, h2, h3⟩
 ·obtain ⟨o, es, ep, ho, r⟩ := hm
  exact ⟨o, es, ep, k _ o (Ne.symm hL) ho, r⟩
 ·refine (I.hok b u e).stay (fun c v hc q => k c v ?_ q) (fun _ q => q) fun _ _ q => q
  rcases hc with z | z
  ·rw [z]; exact nit b u e
  ·exact nit c _ z
theorem Inv.tok (I : Inv X pins σ H s) (t : Nat) : Inv X pins σ H { s with toks := t } := I.un (h' := s.heap) (t' := t) Un.refl I.hok
theorem Inv.kept {t' : Nat} (I : Inv X pins σ H s) (k : ∀ b u, s.heap.get? b = some u → h'.get? b = some u) : Inv X pins σ H { s with heap := h', toks := t' } := I.un (Un.kept k) (I.hok.kept k)
theorem Inv.laid {a : Addr} {o : HO} {t' : Nat} (I : Inv X pins σ H s) (k : ∀ b u, s.heap.get? b = some u → h'.get? b = some u) (hp : s.heap.objs.size ≤ a) (new : ObjOk X.prog X.w (upd H a o) h' a o) :
  Inv X pins σ (upd H a o) { s with heap := h', toks := t' } := I.un (Un.laid k hp (I.hok.fresh hp)) (I.hok.laid k hp new)
theorem Inv.write {x e : Addr} {o : HO} {t' : Nat} (I : Inv X pins σ H s) (mu : Mut (H x)) (he : e = x ∨ H e = some (.own x)) (k : ∀ b u, b ≠ e → s.heap.get? b = some u → h'.get? b = some u) (heo : ∃ u, h'.get? e = some u)
  (new : ObjOk X.prog X.w (upd H x o) h' x o) : Inv X pins σ (upd H x o) { s with heap := h', toks := t' } := I.un (Un.write mu he k heo) (I.hok.write mu he k heo new)
theorem Inv.pins_of {pins' : List (Addr × Obj)} (I : Inv X pins σ H s) (h : ∀ p ∈ pins', s.heap.get? p.1 = some p.2 ∧ H p.1 = none ∧ p.1 ≠ X.env.locals ∧ p.1 ∉ X.fs ∧ ∀ v, p.2.data ≠ .cell v) : Inv X pins' σ H s :=
 ⟨I.ok, I.os, I.bare, I.base, I.loc, I.cell, I.free, I.freeC, fun p hp => (List.mem_append.mp hp).elim (fun z => I.pin p (List.mem_append_left _ z)) (h p), I.hok, I.len⟩
theorem Jrv {N : List Str} (hN : N.Nodup) {i j : Nat} {x : Str} (a : N[i]? = some x) (b : N[j]? = some x) : i = j := by
 obtain ⟨h1, e1⟩ := List.getElem?_eq_some_iff.mp a
 obtain ⟨h2, e2⟩ := List.getElem?_eq_some_iff.mp b
 exact (List.getElem_inj hN).mp (e1.trans e2.symm)
theorem Jtw {M : Model} {A : Around} {E : Value → Shared → Prop} {i : Nat} {x : Str} {v : V} {u : Value} {Q : Unit → Shared → Prop} (I : Inv X pins σ H s) (hN : X.N.Nodup) (hi : X.N[i]? = some x) (hx : Loc X.env.scope x) (r : RelV v u)
  (h : ∀ s', Inv X pins (σ.set i (some v)) H s' → (∃ a, Heap.SameBut a s.heap s'.heap ∧ (a = X.env.locals ∨ X.env.cells.lookup x = some a)) → Q () s') (hf : X.fn x = true ∨ X.env.scope.names.lookup x = some .local := by first | exact .inl rfl | exact .inr rfl | assumption) : wpAny M A (storeName X.env x u) Q E s := by
 obtain ⟨m, hn, hl⟩ := id I.loc
 have hcls : (X.env.scope.kind == .class || (X.env.scope.kind == .module && X.env.locals != X.env.globals)) = false := by rw [I.ok.kind]; rfl
 have hiσ : i < σ.length := by rw [I.len]; exact (List.getElem?_eq_some_iff.mp hi).1
 have cne := I.cne
 have tracked : ∀ {a : Addr} {h' : Heap}, (∃ o, s.heap.get? a = some o ∧ H a = none) → Heap.SameBut a s.heap h' → HOk X.prog X.w H h' := fun {a h'} ha hs b ob e => by
  obtain ⟨_, _, hfree⟩ := ha
  refine (I.hok b ob e).stay (fun c w' hc q => (hs.2 c ?_).trans q) (fun _ q => q) fun _ _ q => q
  rintro rfl
  rcases hc with rfl | hc
  ·rw [hfree] at e; cases e
  ·rw [hfree] at hc; cases hc
 rcases hx with hk | hk
 ·refine wpAny_storeName_local hk hn (fun h' hn' hs => ?_) hcls
  obtain ⟨oL, _, _, hoL, _⟩ := id hn
  refine h _ ⟨I.ok, I.os, I.bare, ⟨fun b o e n hb hx => ?_, fun b o e n hb hx => ?_, I.base.free, fun b o e hx => ?_, I.base.tups, I.base.frzs, I.base.tbls⟩, ⟨_, hn', fun j y v' e1 e2 e3 => ?_⟩, fun y c e => ?_, I.free, I.freeC, fun p hp => ?_, tracked ⟨oL, hoL, I.free⟩ hs, by simpa using I.len⟩ ⟨_, hs, .inl rfl⟩
  ·exact (hs.2 b (Nat.ne_of_lt (Nat.lt_of_lt_of_le (Heap.lt_size e) I.ok.above))).trans (I.base.keep b o e n hb hx)
  ·obtain ⟨sl, e1⟩ := I.base.slot b o e n hb hx
   exact ⟨sl, (hs.2 b (Nat.ne_of_lt (Nat.lt_of_lt_of_le (Heap.lt_size e) I.ok.above))).trans e1⟩
  ·obtain ⟨o', e1⟩ := I.base.there b o e hx
   exact ⟨o', (hs.2 b (Nat.ne_of_lt (Nat.lt_of_lt_of_le (Heap.lt_size e) I.ok.above))).trans e1⟩
  ·by_cases hj : j = i
   ·subst hj
    rw [hi] at e1; cases e1
    rw [List.getElem?_set_self hiσ] at e2
    cases e2
    exact ⟨u, r, .inl ⟨hk, by simp⟩⟩
   ·rw [List.getElem?_set_ne (Ne.symm hj)] at e2
    obtain ⟨u', r', q⟩ := hl j y v' e1 e2 e3
    refine ⟨u', r', ?_⟩
    rcases q with ⟨k, e⟩ | ⟨k, c, e, z⟩
    ·refine .inl ⟨k, ?_⟩
     have : y ≠ x := fun e => hj (Jrv hN e1 (e ▸ hi))
     simp [this, e]
    ·exact .inr ⟨k, c, e, z.sameBut hs (cne y c e)⟩
  ·obtain ⟨w', z⟩ := I.cell y c e
   exact ⟨w', z.sameBut hs (cne y c e)⟩
  ·obtain ⟨e, n, ne, nf, d⟩ := I.pin p hp
   exact ⟨(hs.2 p.1 ne).trans e, n, ne, nf, d⟩
 ·have hfn : X.fn x = true := by
   rcases hf with z | z
   ·exact z
   ·rw [z] at hk; cases hk
  obtain ⟨c, hc⟩ := I.ok.has x (.inl hk)
  obtain ⟨w', z⟩ := I.cell x c hc
  refine wpAny_storeName_cell I.ok.kind hk hc z (fun h' hc' hs => ?_)
  obtain ⟨oc, hoc, hocd⟩ := id z
  refine h { s with heap := h' } ⟨I.ok, I.os, I.bare, ⟨fun b o e n hb hx => ?_, fun b o e n hb hx => ?_, I.base.free, fun b o e hx => ?_, I.base.tups, I.base.frzs, I.base.tbls⟩, ⟨m, hn.sameBut hs (Ne.symm (cne x c hc)), fun j y v' e1 e2 e3 => ?_⟩, fun y c' e => ?_, I.free, I.freeC, fun p hp => ?_, tracked ⟨oc, hoc, I.freeC x c hc⟩ hs, by simpa using I.len⟩ ⟨c, hs, .inr hc⟩
  ·exact (hs.2 b (Nat.ne_of_lt (Nat.lt_of_lt_of_le (Heap.lt_size e) (I.ok.cab x c hfn hc)))).trans (I.base.keep b o e n hb hx)
  ·obtain ⟨sl, e1⟩ := I.base.slot b o e n hb hx
   exact ⟨sl, (hs.2 b (Nat.ne_of_lt (Nat.lt_of_lt_of_le (Heap.lt_size e) (I.ok.cab x c hfn hc)))).trans e1⟩
  ·obtain ⟨o', e1⟩ := I.base.there b o e hx
   exact ⟨o', (hs.2 b (Nat.ne_of_lt (Nat.lt_of_lt_of_le (Heap.lt_size e) (I.ok.cab x c hfn hc)))).trans e1⟩
  ·by_cases hj : j = i
   ·subst hj
    rw [hi] at e1; cases e1
    rw [List.getElem?_set_self hiσ] at e2
    cases e2
    exact ⟨u, r, .inr ⟨.inl hk, c, hc, hc'⟩⟩
   ·rw [List.getElem?_set_ne (Ne.symm hj)] at e2
    obtain ⟨u', r', q⟩ := hl j y v' e1 e2 e3
    refine ⟨u', r', ?_⟩
    rcases q with q | ⟨k, c', e, z'⟩
    ·exact .inl q
    ·refine .inr ⟨k, c', e, z'.sameBut hs ?_⟩
     rintro rfl
     exact hj (Jrv hN e1 (I.ok.inj _ _ _ e hc ▸ hi))
  ·by_cases hcc : c' = c
   ·subst hcc; exact ⟨_, hc'⟩
   ·obtain ⟨w2, z2⟩ := I.cell y c' e
    exact ⟨w2, z2.sameBut hs hcc⟩
  ·obtain ⟨e, n, ne, nf, d⟩ := I.pin p hp
   refine ⟨(hs.2 p.1 ?_).trans e, n, ne, nf, d⟩
   intro q
   rw [q, hoc] at e
   have q' : oc = p.2 := Option.some.inj e
   exact d w' (by rw [← q']; exact hocd)
theorem Jsj {M : Model} {A : Around} {E : Value → Shared → Prop} {i : Nat} {x : Str} {v : V} {u : Value} {Q : Unit → Shared → Prop} (I : Inv X pins σ H s) (hN : X.N.Nodup) (hi : X.N[i]? = some x) (hx : Loc X.env.scope x) (r : RelV v u)
  (h : ∀ s', Inv X pins (σ.set i (some v)) H s' → Q () s') (hf : X.fn x = true ∨ X.env.scope.names.lookup x = some .local := by first | exact .inl rfl | exact .inr rfl | assumption) : wpAny M A (storeName X.env x u) Q E s :=
 Jtw I hN hi hx r (fun s' I' _ => h s' I') hf
theorem Inv.call' {s' : Shared} {ch : List Addr} (I : Inv X pins σ H s) (ho : s'.os = s.os) (u : Un (frs X.stack) ch H H' s.heap s'.heap) (hok : HOk X.prog X.w H' s'.heap) (hg : AllBare s'.gens)
  (hch : ∀ b ∈ ch, (b ∈ X.ex ∨ X.s₀.heap.objs.size ≤ b) ∧ b ≠ X.env.locals ∧ (∀ x c, X.env.cells.lookup x = some c → c ≠ b) ∧ ∀ p ∈ X.pn ++ pins, p.1 ≠ b) : Inv X pins σ H' s' := by
 obtain ⟨h', g', d', t', o'⟩ := s'
 have e : o' = s.os := ho
 subst e
 exact I.call (g' := g') (t' := t') (d' := d') u hok hg hch
end
abbrev XK := Value → Option Addr → Hp → Prop
abbrev St := List (Option V)
abbrev VK := V → Hp → Prop
abbrev TE := St → Hp → VK → Prop
abbrev TT := St → Hp → (Bool → Hp → Prop) → Prop
abbrev TA := St → Hp → (List V → Hp → Prop) → Prop
structure Ends where
 nx : St → Hp → Prop
 rt : VK
 bk : St → Hp → Prop := fun _ _ => False
 ct : St → Hp → Prop := fun _ _ => False
abbrev TS := Ends → St → Hp → Prop
def EP (X : Cx) (pins : List (Addr × Obj)) (σ : St) (Q : VK) (u : Value) (s' : Shared) : Prop := ∃ v H', Inv X pins σ H' s' ∧ RelV v u ∧ Q v H'
def TP (X : Cx) (pins : List (Addr × Obj)) (σ : St) (Q : Bool → Hp → Prop) (b : Bool) (s' : Shared) : Prop := ∃ H', Inv X pins σ H' s' ∧ Q b H'
def AP (X : Cx) (pins : List (Addr × Obj)) (σ : St) (Q : List V → Hp → Prop) (us : List Value) (s' : Shared) : Prop := ∃ vs H', Inv X pins σ H' s' ∧ Vals vs us ∧ Q vs H'
def SP (X : Cx) (pins : List (Addr × Obj)) (D : Ends) (f : Flow) (s' : Shared) : Prop :=
 match f with
 | .next => ∃ σ' H', Inv X pins σ' H' s' ∧ D.nx σ' H'
 | .brk => ∃ σ' H', Inv X pins σ' H' s' ∧ D.bk σ' H'
 | .cont => ∃ σ' H', Inv X pins σ' H' s' ∧ D.ct σ' H'
 | .ret u => ∃ v σ' H', Inv X pins σ' H' s' ∧ RelV v u ∧ D.rt v H'
def PE (X : Cx) (e : Expr) (t : TE) : Prop :=
 ∀ (pins : List (Addr × Obj)) (s : Shared) (σ : St) (H : Hp) (Q : VK), Inv X pins σ H s → t σ H Q → wpAny (model X.prog X.w) X.A (eval e X.env) (EP X pins σ Q) X.xe s
def PT (X : Cx) (e : Expr) (t : TT) : Prop :=
 ∀ (pins : List (Addr × Obj)) (s : Shared) (σ : St) (H : Hp) (Q : Bool → Hp → Prop), Inv X pins σ H s → t σ H Q → wpAny (model X.prog X.w) X.A (isTrue e X.env (eval e X.env)) (TP X pins σ Q) X.xe s
def PW (X : Cx) (e : Expr) (t : TT) : Prop :=
 ∀ (whole : Sem Value) (pins : List (Addr × Obj)) (s : Shared) (σ : St) (H : Hp) (Q : Bool → Hp → Prop), Inv X pins σ H s → t σ H Q → wpAny (model X.prog X.w) X.A (isTrue e X.env whole) (TP X pins σ Q) X.xe s
theorem PW.pt {X : Cx} {e : Expr} {t : TT} (h : PW X e t) : PT X e t := h _
def PA (X : Cx) (es : List Expr) (t : TA) : Prop :=
 ∀ (pos : Pos) (pins : List (Addr × Obj)) (s : Shared) (σ : St) (H : Hp) (Q : List V → Hp → Prop), Inv X pins σ H s → t σ H Q → wpAny (model X.prog X.w) X.A (spliced (backTo pos (starEach es X.env))) (AP X pins σ Q) X.xe s
def PS (X : Cx) (st : Stmt) (t : TS) : Prop :=
 ∀ (pins : List (Addr × Obj)) (s : Shared) (σ : St) (H : Hp) (D : Ends), Inv X pins σ H s → t D σ H → wpAny (model X.prog X.w) X.A (exec st X.env) (SP X pins D) X.xe s
def PSs (X : Cx) (st : List Stmt) (t : TS) : Prop :=
 ∀ (pins : List (Addr × Obj)) (s : Shared) (σ : St) (H : Hp) (D : Ends), Inv X pins σ H s → t D σ H → wpAny (model X.prog X.w) X.A (execs st X.env) (SP X pins D) X.xe s
theorem thn {α : Type} {t : Sem α} {Q Q' : α → Shared → Prop} {M : Model} {A : Around} {E : Value → Shared → Prop} {s : Shared} (h : wpAny M A t Q E s) (hQ : ∀ a s, Q a s → Q' a s) : wpAny M A t Q' E s := wpAny_mono h hQ fun _ _ x => x
end L2
namespace L2
open PySem PySem.Spec PyProof.Rows
section
variable {X : Cx}
def tVar (i : Nat) : TE := fun σ H Q => ∃ v, σ[i]? = some (some v) ∧ Q v H
def tC (v : V) : TE := fun _ H Q => Q v H
theorem pe_var {i : Nat} {x : Str} {pos : Pos} (hN : X.N[i]? = some x) (hv : Vis X.env.scope x) (hd : (x == ("__debug__" : Str)) = false := by decide) (hcd : (x == ("__classdict__" : Str)) = false := by decide) : PE X (.Name x pos) (tVar i) := by
 intro pins s σ H Q I h
 obtain ⟨v, e, h⟩ := h
 obtain ⟨m, hn, hl⟩ := I.loc
 obtain ⟨u, r, l⟩ := hl i x v hN e hv
 have fin : EP X pins σ Q u s := ⟨v, H, I, r, h⟩
 rcases l with ⟨hk, hm⟩ | ⟨hk, c, hc, hcell⟩
 ·exact wpAny_Name (wpAny_loadName_local I.ok.kind hk hn hm fin) hd
 ·rcases hk with hk | hk
  ·exact wpAny_Name (wpAny_loadName_cell I.ok.kind hk hc hcell fin) hd
  ·exact wpAny_Name (wpAny_loadName_free I.ok.kind hk hc hcell fin hcd) hd
theorem Jks {i j pos} : PE X (.Constant (.int i) j pos) (tC (.int i)) := fun _ _ _ H _ I h => wpAny_Constant_int ⟨.int i, H, I.tok _, ⟨_, rfl⟩, h⟩
theorem Jly {b j pos} : PE X (.Constant (.bool b) j pos) (tC (.bl b)) := fun _ _ _ H _ I h => Constant_bool ⟨.bl b, H, I, rfl, h⟩
theorem Jmv {j pos} : PE X (.Constant .none j pos) (tC .non) := fun _ _ _ H _ I h => Constant_none ⟨.non, H, I, rfl, h⟩
theorem Jnn {x j pos} : PE X (.Constant (.str x) j pos) (tC (.str x)) := fun _ _ _ H _ I h => Calls.Constant_str ⟨.str x, H, I.tok _, ⟨_, rfl⟩, h⟩
def Gl (X : Cx) (x : Str) : Prop := X.env.kindOf x = some .globalImplicit
theorem Jny {E : Value → Shared → Prop} {pins : List (Addr × Obj)} {s : Shared} {σ : St} {H : Hp} {x : Str} {u : Value} {pos : Pos} {Q : Value → Shared → Prop} (I : Inv X pins σ H s) (hg : Gl X x) (hm : X.mg x = some u) (h : Q u s)
  (hd : (x == ("__debug__" : Str)) = false := by decide) : wpAny (model X.prog X.w) X.A (eval (.Name x pos) X.env) Q E s :=
 Calls.Name_function_global I.ok.kind hg (Calls.loadGlobal_global (by rw [I.ok.glob]; exact I.mod.glob.keeps I.bk) hm h) hd
theorem Jnx {E : Value → Shared → Prop} {pins : List (Addr × Obj)} {s : Shared} {σ : St} {H : Hp} {x : Str} {u : Value} {pos : Pos} {Q : Value → Shared → Prop} (I : Inv X pins σ H s) (hg : Gl X x) (hm : X.mg x = none) (hv : bootBuiltins x = some u) (h : Q u s)
  (hn : x ≠ "__name__" := by decide) (hd : (x == ("__debug__" : Str)) = false := by decide) : wpAny (model X.prog X.w) X.A (eval (.Name x pos) X.env) Q E s := by
 obtain ⟨mb, h1, h2⟩ := I.mod.blt
 exact Calls.Name_function_global I.ok.kind hg (Calls.loadGlobal_builtin (by rw [I.ok.glob]; exact I.mod.glob.keeps I.bk) hm (by rw [I.ok.blt]; exact h1.keeps I.bk) ((h2 x hn).trans hv) h) hd
theorem Jls {x : Str} {v : V} {u : Value} {pos : Pos} (hg : Gl X x) (hm : X.mg x = some u) (r : RelV v u) (hd : (x == ("__debug__" : Str)) = false := by decide) : PE X (.Name x pos) (tC v) :=
 fun _ _ _ H _ I h => Jny I hg hm ⟨v, H, I, r, h⟩ hd
theorem Jmj {x : Str} {v : V} {u : Value} {pos : Pos} (hg : Gl X x) (hm : X.mg x = none) (hv : bootBuiltins x = some u) (r : RelV v u) (hn : x ≠ "__name__" := by decide) (hd : (x == ("__debug__" : Str)) = false := by decide) : PE X (.Name x pos) (tC v) :=
 fun _ _ _ H _ I h => Jnx I hg hm hv ⟨v, H, I, r, h⟩ hn hd
variable {a b : Expr} {ta tb : TE} {pos : Pos}
def tB (t : TE) : TT := fun σ H Q => t σ H fun x H1 => ∃ c, x = .bl c ∧ Q c H1
theorem Jld {e : Expr} {t : TE} (h : PE X e t) (he : ∀ whole, isTrue e X.env whole = (do let v ← whole; standAt e.pos; holding [v] (truthy v)) := by intro _; rfl) : PT X e (tB t) := by
 intro pins s σ H Q I hw
 refine isTrue_plain (thn (h pins s σ H _ I hw) fun v s1 ⟨x, H1, I1, r1, q1⟩ => ?_) (he _)
 obtain ⟨d, rfl, q⟩ := q1
 cases r1
 exact wpAny_truthy_bool ⟨H1, I1, q⟩
variable {tA tB' : TT} {rest : List Expr}
def tAnd (t u : TT) : TT := fun σ H Q => t σ H fun c H1 => if c = true then u σ H1 Q else Q false H1
def tOr (t u : TT) : TT := fun σ H Q => t σ H fun c H1 => if c = true then Q true H1 else u σ H1 Q
def tNot (t : TT) : TT := fun σ H Q => t σ H fun c H1 => Q (!c) H1
theorem Jx7 (ha : PT X a tA) : PW X (.BoolOp .And [a] pos) tA := by
 intro wh pins s σ H Q I h
 refine isTrue_and (thn (ha pins s σ H Q I h) fun c s1 e => ?_)
 cases c with
 | true => exact isTrue_and_nil e
 | false => exact e
theorem Jqq (ha : PT X a tA) : PW X (.BoolOp .Or [a] pos) tA := by
 intro wh pins s σ H Q I h
 refine isTrue_or (thn (ha pins s σ H Q I h) fun c s1 e => ?_)
 cases c with
 | false => exact isTrue_or_nil e
 | true => exact e
theorem Jze (ha : PT X a tA) (hb : PW X (.BoolOp .And (b :: rest) pos) tB') : PW X (.BoolOp .And (a :: b :: rest) pos) (tAnd tA tB') := by
 intro wh pins s σ H Q I h
 refine isTrue_and (thn (ha pins s σ H _ I h) fun c s1 ⟨H1, I1, q1⟩ => ?_)
 cases c with
 | true => exact hb wh pins s1 σ H1 Q I1 q1
 | false => exact ⟨H1, I1, q1⟩
theorem Jtv (ha : PT X a tA) (hb : PW X (.BoolOp .Or (b :: rest) pos) tB') : PW X (.BoolOp .Or (a :: b :: rest) pos) (tOr tA tB') := by
 intro wh pins s σ H Q I h
 refine isTrue_or (thn (ha pins s σ H _ I h) fun c s1 ⟨H1, I1, q1⟩ => ?_)
 cases c with
 | true => exact ⟨H1, I1, q1⟩
 | false => exact hb wh pins s1 σ H1 Q I1 q1
theorem Jlc (ha : PT X a tA) : PT X (.UnaryOp .Not a pos) (tNot tA) := by
 intro pins s σ H Q I h
 exact isTrue_not (ha pins s σ H (fun c H1 => Q (!c) H1) I h)
def tAndV (ta tb : TE) : TE := fun σ H Q => ta σ H fun x H1 => ∃ c, x = .bl c ∧ if c = true then tb σ H1 Q else Q (.bl false) H1
theorem Jsc {op} {t : TE} (h : PE X a t) : PE X (.BoolOp op [a] pos) t := fun pins s σ H Q I hw => BoolOp_one (h pins s σ H Q I hw)
theorem Js9 (ha : PE X a ta) (hb : PE X (.BoolOp .And (b :: rest) pos) tb) : PE X (.BoolOp .And (a :: b :: rest) pos) (tAndV ta tb) := by
 intro pins s σ H Q I h
 refine BoolOp_and (thn (ha pins s σ H _ I h) fun v s1 ⟨x, H1, I1, r1, q1⟩ => ?_)
 obtain ⟨c, rfl, q1⟩ := q1
 cases r1
 refine wpAny_truthy_bool ?_
 cases c with
 | true => exact hb pins s1 σ H1 Q I1 q1
 | false => exact ⟨.bl false, H1, I1, rfl, q1⟩
def tIf (t : TT) (ta tb : TE) : TE := fun σ H Q => t σ H fun c H1 => if c = true then ta σ H1 Q else tb σ H1 Q
theorem Jz8 {c : Expr} (hc : PT X c tA) (ha : PE X a ta) (hb : PE X b tb) : PE X (.IfExp c a b pos) (tIf tA ta tb) := by
 intro pins s σ H Q I h
 refine wpAny_IfExp (thn (hc pins s σ H _ I h) fun d s1 ⟨H1, I1, q1⟩ => ?_)
 cases d with
 | true => exact ha pins s1 σ H1 Q I1 q1
 | false => exact hb pins s1 σ H1 Q I1 q1
end
end L2
namespace L2
open PySem PySem.Spec PyProof.Rows
def SqL (K : PySem.W.Frag) (H : Hp) (a : Addr) (xs : List V) : Prop :=
 Rd H a (.lst xs) ∨
  ∃ (o : Obj) (its : Array Value) (n : Nat), K.lookup a = some o ∧ o.cls = .type "list" ∧ o.dict = none ∧ o.data = .seq its n ∧ its.size ≤ sizeLine ∧ Vals xs its.toList
def SqT (K : PySem.W.Frag) (H : Hp) (a : Addr) (xs : List V) : Prop :=
 Rd H a (.tup xs) ∨
  ∃ (o : Obj) (its : Array Value) (n : Nat), K.lookup a = some o ∧ o.cls = .type "tuple" ∧ o.data = .seq its n ∧ its.size ≤ sizeLine ∧ Vals xs its.toList
def absV : Value → Option V
 | .none => some .non
 | .bool b => some (.bl b)
 | .int i _ => some (.int i)
 | .str x _ => some (.str x)
 | .bytes b _ => some (.byt b)
 | .float b _ => some (.flt b)
 | .ref a => some (.ref a)
 | .type n => some (.ty n)
 | _ => none
theorem RelV.abs {x : V} {u : Value} (r : RelV x u) : absV u = some x := by
 cases x with
 | non => cases r; rfl
 | bl _ => cases r; rfl
 | int _ => obtain ⟨t, rfl⟩ := r; rfl
 | str _ => obtain ⟨t, rfl⟩ := r; rfl
 | byt _ => obtain ⟨t, rfl⟩ := r; rfl
 | flt _ => obtain ⟨t, rfl⟩ := r; rfl
 | ref _ => cases r; rfl
 | ty _ => cases r; rfl
theorem RelV.inj {x y : V} {u : Value} (r : RelV x u) (q : RelV y u) : x = y := Option.some.inj (r.abs.symm.trans q.abs)
theorem Vals.inj : ∀ {xs ys : List V} {us : List Value}, Vals xs us → Vals ys us → xs = ys
 | _, _, _, .nil, .nil => rfl
 | _, _, _, .cons r t, .cons r' t' => by rw [r.inj r', Vals.inj t t']
section
variable {X : Cx} {pins : List (Addr × Obj)} {σ : St} {H : Hp} {s : Shared} {a : Addr} {xs ys : List V}
theorem SqL.of {K : PySem.W.Frag} (h : H a = some (.lst xs)) : SqL K H a xs := .inl (.inl h)
theorem SqT.of {K : PySem.W.Frag} (h : H a = some (.tup xs)) : SqT K H a xs := .inl (.inl h)
theorem Inv.list (I : Inv X pins σ H s) (h : SqL X.K H a xs) : ∃ its : List Value, Vals xs its ∧ PlainL s.heap a its.toArray ∧ xs.length ≤ sizeLine := by
 rcases h with h | ⟨o, its, n, hk, hc, hd, hs, hz, r⟩
 ·obtain ⟨z, its, n, r, e⟩ := h.ok I.hok
  exact ⟨its, r, ⟨_, n, e, rfl, rfl, rfl⟩, z⟩
 ·refine ⟨its.toList, r, ⟨o, n, I.kIn a o hk, hc, hd, by simpa using hs⟩, ?_⟩
  have e := r.length
  simp only [Array.length_toList] at e
  omega
theorem Inv.tuple (I : Inv X pins σ H s) (h : SqT X.K H a xs) : ∃ its : List Value, Vals xs its ∧ IsTup s.heap a its.toArray ∧ xs.length ≤ sizeLine := by
 rcases h with h | ⟨o, its, n, hk, hc, hs, hz, r⟩
 ·obtain ⟨z, its, r, p⟩ := h.ok I.hok
  exact ⟨its, r, p, z⟩
 ·refine ⟨its.toList, r, ⟨o, I.kIn a o hk, hc, n, by simpa using hs⟩, ?_⟩
  have e := r.length
  simp only [Array.length_toList] at e
  omega
theorem Inv.list_inj (I : Inv X pins σ H s) (h : SqL X.K H a xs) (h' : SqL X.K H a ys) : xs = ys := by
 obtain ⟨its, r, ⟨o, n, e, _, _, d⟩, _⟩ := I.list h
 obtain ⟨its', r', ⟨o', n', e', _, _, d'⟩, _⟩ := I.list h'
 rw [e] at e'; cases e'
 rw [d] at d'
 injection d' with d1 _
 have : its = its' := by simpa using congrArg Array.toList d1
 subst this
 exact r.inj r'
theorem Inv.tuple_inj (I : Inv X pins σ H s) (h : SqT X.K H a xs) (h' : SqT X.K H a ys) : xs = ys := by
 obtain ⟨its, r, ⟨o, e, _, n, d⟩, _⟩ := I.tuple h
 obtain ⟨its', r', ⟨o', e', _, n', d'⟩, _⟩ := I.tuple h'
 rw [e] at e'; cases e'
 rw [d] at d'
 injection d' with d1 _
 have : its = its' := by simpa using congrArg Array.toList d1
 subst this
 exact r.inj r'
end
abbrev Cx.wish (X : Cx) (E : Value → Shared → Prop) : Cx := { X with xe := E }
abbrev Cx.nox (X : Cx) : Cx := X.wish fun _ _ => False
theorem Cx.Ok.wish {X : Cx} (ok : X.Ok) (E : Value → Shared → Prop) : (X.wish E).Ok :=
 ⟨ok.mod, ok.kind, ok.glob, ok.blt, ok.above, ok.inj, ok.has, ok.cab, ok.hd, ok.frames, ok.stk, ok.exf, ok.bs, ok.bsz, ok.noex, ok.exfs, ok.funs, ok.frf⟩
theorem Cx.Ok.unwish {X : Cx} {E : Value → Shared → Prop} (ok : (X.wish E).Ok) : X.Ok :=
 ⟨ok.mod, ok.kind, ok.glob, ok.blt, ok.above, ok.inj, ok.has, ok.cab, ok.hd, ok.frames, ok.stk, ok.exf, ok.bs, ok.bsz, ok.noex, ok.exfs, ok.funs, ok.frf⟩
section
variable {X : Cx} {pins : List (Addr × Obj)} {σ : St} {H : Hp} {s : Shared} {E : Value → Shared → Prop}
theorem Inv.wish (I : Inv X pins σ H s) (E : Value → Shared → Prop) : Inv (X.wish E) pins σ H s := ⟨I.ok.wish E, I.os, I.bare, I.base, I.loc, I.cell, I.free, I.freeC, I.pin, I.hok, I.len⟩
theorem Inv.unwish (I : Inv (X.wish E) pins σ H s) : Inv X pins σ H s := ⟨I.ok.unwish, I.os, I.bare, I.base, I.loc, I.cell, I.free, I.freeC, I.pin, I.hok, I.len⟩
theorem SP.unwish {D : Ends} {f : Flow} {s' : Shared} (h : SP (X.wish E) pins D f s') : SP X pins D f s' := by
 cases f with
 | next => obtain ⟨σ', H', I, q⟩ := h; exact ⟨σ', H', I.unwish, q⟩
 | brk => obtain ⟨σ', H', I, q⟩ := h; exact ⟨σ', H', I.unwish, q⟩
 | cont => obtain ⟨σ', H', I, q⟩ := h; exact ⟨σ', H', I.unwish, q⟩
 | ret u => obtain ⟨v, σ', H', I, r, q⟩ := h; exact ⟨v, σ', H', I.unwish, r, q⟩
theorem PSs.nox {st : List Stmt} {t : TS} (h : PSs X.nox st t) : PSs X st t := fun pins s σ H D I hw =>
 wpAny_mono (h pins s σ H D (I.wish _) hw) (fun _ _ q => q.unwish) fun _ _ z => False.elim z
end
section
variable {X : Cx} {st : Stmt} {rest : List Stmt} {t u : TS} {e : Expr} {te : TE} {pos : Pos}
def tNext : TS := fun D σ H => D.nx σ H
def tSeq (t u : TS) : TS := fun D σ H => t { D with nx := u D } σ H
theorem Jl2 : PSs X [] tNext := fun _ _ σ H _ I h => wpAny_execs_nil ⟨σ, H, I, h⟩
theorem Jkq (h1 : PS X st t) (h2 : PSs X rest u) : PSs X (st :: rest) (tSeq t u) := by
 intro pins s σ H D I h
 refine wpAny_execs_cons (thn (h1 pins s σ H { D with nx := u D } I h) fun f s1 q => ?_)
 cases f with
 | next =>
  obtain ⟨σ', H', I', q⟩ := q
  exact h2 pins s1 σ' H' D I' q
 | ret v => exact q
 | brk => exact q
 | cont => exact q
theorem Jkr (h1 : PS X st t) : PSs X [st] t := by
 intro pins s σ H D I h
 refine wpAny_execs_cons (thn (h1 pins s σ H D I h) fun f s1 q => ?_)
 cases f with
 | next => exact wpAny_execs_nil q
 | ret v => exact q
 | brk => exact q
 | cont => exact q
theorem Inv.quiet {pins : List (Addr × Obj)} {σ : St} {H : Hp} {s : Shared} (I : Inv X pins σ H s) : interactive X.env = false := by simp [interactive, I.ok.kind]
def tDrop (te : TE) : TS := fun D σ H => te σ H fun _ H1 => D.nx σ H1
theorem Jmu (he : PE X e te) (hs : swapsWith e none pos.line X.env = pure false := by rfl) : PS X (.Expr e pos) (tDrop te) := by
 intro pins s σ H D I h
 exact wpAny_Expr_any (thn (he pins s σ H _ I h) fun v s1 ⟨x, H1, I1, r1, q1⟩ => ⟨σ, H1, I1, q1⟩) I.quiet hs
def tRet (te : TE) : TS := fun D σ H => te σ H D.rt
theorem Jl0 (he : PE X e te) : PS X (.Return (some e) pos) (tRet te) := by
 intro pins s σ H D I h
 exact wpAny_Return_some (thn (he pins s σ H _ I h) fun v s1 ⟨x, H1, I1, r1, q1⟩ => ⟨x, σ, H1, I1, r1, q1⟩)
def tIfS (c : TT) (t u : TS) : TS := fun D σ H => c σ H fun b H1 => if b = true then t D σ H1 else u D σ H1
theorem Jle {c : Expr} {a b : List Stmt} {tc : TT} (hc : PT X c tc) (ha : PSs X a t) (hb : PSs X b u) : PS X (.If c a b pos) (tIfS tc t u) := by
 intro pins s σ H D I h
 refine wpAny_If (thn (hc pins s σ H _ I h) fun d s1 ⟨H1, I1, q1⟩ => ?_)
 cases d with
 | true => exact ha pins s1 σ H1 D I1 q1
 | false => exact hb pins s1 σ H1 D I1 q1
end
abbrev TG := V → St → Hp → (St → Hp → Prop) → Prop
abbrev TGs := List V → St → Hp → (St → Hp → Prop) → Prop
def PG (X : Cx) (target : Expr) (t : TG) : Prop :=
 ∀ (pins : List (Addr × Obj)) (s : Shared) (σ : St) (H : Hp) (v : V) (u : Value) (Q : St → Hp → Prop), Inv X pins σ H s → RelV v u → t v σ H Q →
  wpAny (model X.prog X.w) X.A (assign target X.env u) (fun _ s' => ∃ σ' H', Inv X pins σ' H' s' ∧ Q σ' H') X.xe s
def PGs (X : Cx) (ts : List Expr) (t : TGs) : Prop :=
 ∀ (pins : List (Addr × Obj)) (s : Shared) (σ : St) (H : Hp) (vs : List V) (us : List Value) (Q : St → Hp → Prop), Inv X pins σ H s → Vals vs us → t vs σ H Q →
  wpAny (model X.prog X.w) X.A (assignInOrder ((assignEach ts X.env).map (·.2)) us) (fun _ s' => ∃ σ' H', Inv X pins σ' H' s' ∧ Q σ' H') X.xe s
abbrev TSet := V → V → V → Hp → (Hp → Prop) → Prop
def PSet (X : Cx) (t : TSet) : Prop :=
 ∀ (pins : List (Addr × Obj)) (s : Shared) (σ : St) (H : Hp) (o i v : V) (ov iv u : Value) (Q : Hp → Prop), Inv X pins σ H s → RelV o ov → RelV i iv → RelV v u → t o i v H Q →
  wpAny (model X.prog X.w) X.A (setItem ov iv u) (fun _ s' => ∃ H', Inv X pins σ H' s' ∧ Q H') X.xe s
abbrev TIp := V → V → Hp → VK → Prop
def PIp (X : Cx) (op : Operator) (t : TIp) : Prop :=
 ∀ (pins : List (Addr × Obj)) (s : Shared) (σ : St) (H : Hp) (x y : V) (v u : Value) (Q : VK), Inv X pins σ H s → RelV x v → RelV y u → t x y H Q →
  wpAny (model X.prog X.w) X.A (inplaceOp op v u) (EP X pins σ Q) X.xe s
section
variable {X : Cx} {pos : Pos}
def Jnr (i : Nat) : TG := fun v σ H Q => Q (σ.set i (some v)) H
theorem Jl1 {i : Nat} {x : Str} (hN : X.N.Nodup) (hi : X.N[i]? = some x) (hx : Loc X.env.scope x) (hf : X.fn x = true ∨ X.env.scope.names.lookup x = some .local := by first | exact .inl rfl | exact .inr rfl | assumption) : PG X (.Name x pos) (Jnr i) := by
 intro pins s σ H v u Q I r h
 exact wpAny_assign_Name (Jsj I hN hi hx r (fun s' I' => ⟨_, H, I', h⟩) hf)
def gNil : TGs := fun vs σ H Q => vs = [] ∧ Q σ H
def Jqu (t : TG) (u : TGs) : TGs := fun vs σ H Q => ∃ v r, vs = v :: r ∧ t v σ H fun σ' H' => u r σ' H' Q
theorem Jnb : PGs X [] gNil := by
 intro pins s σ H vs us Q I r h
 obtain ⟨e, h⟩ := h
 subst e
 cases r
 exact assignInOrder_nil ⟨σ, H, I, h⟩
theorem Jla {e : Expr} {es : List Expr} {t : TG} {u : TGs} (h1 : PG X e t) (h2 : PGs X es u)
  (hs : (assignEach (e :: es) X.env).map (·.2) = assign e X.env :: (assignEach es X.env).map (·.2) := by rfl) : PGs X (e :: es) (Jqu t u) := by
 intro pins s σ H vs us Q I r h
 obtain ⟨v, vr, e1, h⟩ := h
 subst e1
 cases r with
 | cons r rr =>
  rw [hs]
  refine assignInOrder_cons (thn (h1 pins s σ H _ _ _ I r h) fun _ s1 ⟨σ1, H1, I1, q1⟩ => ?_)
  exact h2 pins s1 σ1 H1 _ _ Q I1 rr q1
def gTup (K : PySem.W.Frag) (n : Nat) (t : TGs) : TG := fun v σ H Q => ∃ a xs, v = .ref a ∧ SqT K H a xs ∧ xs.length = n ∧ t xs σ H Q
theorem Jsd {es : List Expr} {k : Nat} {t : TGs} {n : Nat} (hc : X.calm = true) (h : PGs X es t)
  (hn : (assignEach es X.env).length = n := by rfl) (hst : (assignEach es X.env).findIdx? (·.1) = none := by rfl) : PG X (.Tuple es k pos) (gTup X.K n t) := by
 intro pins s σ H v u Q I r hw
 obtain ⟨a, xs, e1, hq, hl, hw⟩ := hw
 subst e1
 cases r
 obtain ⟨its, rv, ht, hz⟩ := I.tuple hq
 refine assign_Tuple_tuple (I.ok.hd hc) ht (by simp [hn, ← hl, rv.length]) hst fun h' hx => ?_
 have I1 : Inv X pins σ H { s with heap := h' } := I.kept (t' := s.toks) fun b o e => hx b o (Nat.ne_of_lt (Heap.lt_size e)) e
 exact h pins _ σ H xs _ Q I1 (by simpa using rv) hw
def gSub (to ti : TE) (t : TSet) : TG := fun v σ H Q => to σ H fun o H1 => ti σ H1 fun i H2 => t o i v H2 fun H3 => Q σ H3
theorem Jw5 {o i : Expr} {to ti : TE} {t : TSet} (ho : PE X o to) (hi : PE X i ti) (hs : PSet X t)
  (ha : ∀ v, assign (.Subscript o i pos) X.env v = (do
   let ov ← holding [v] (eval o X.env)
   let iv ← holding [v, ov] (eval i X.env)
   standAt pos
   holding [v, ov, iv] (setItem ov iv v)
   release [v, ov, iv] []) := by intro _; rfl) : PG X (.Subscript o i pos) (gSub to ti t) := by
 intro pins s σ H v u Q I r h
 rw [ha]
 refine wpAny_bind (wpAny_holding (thn (ho pins s σ H _ I h) fun ov s1 ⟨x, H1, I1, r1, q1⟩ => ?_))
 refine wpAny_bind (wpAny_holding (thn (hi pins s1 σ H1 _ I1 q1) fun iv s2 ⟨y, H2, I2, r2, q2⟩ => ?_))
 refine wpAny_bind (wpAny_standAt (wpAny_bind (wpAny_holding (thn (hs pins s2 σ H2 x y v ov iv u _ I2 r1 r2 r q2) fun _ s3 ⟨H3, I3, q3⟩ => ?_))))
 exact wpAny_release ⟨σ, H3, I3, q3⟩
def tAsg (te : TE) (g : TG) : TS := fun D σ H => te σ H fun x H1 => g x σ H1 D.nx
theorem Jui {tg e : Expr} {te : TE} {g : TG} (he : PE X e te) (hg : PG X tg g) (hs : swapsWithSole [tg] e pos.line X.env = pure false := by rfl) (hw : swappedStores [tg] e X.env = pure none := by rfl)
  (h1 : (assignEach [tg] X.env).map (·.2) = [assign tg X.env] := by rfl) : PS X (.Assign [tg] e pos) (tAsg te g) := by
 intro pins s σ H D I h
 refine wpAny_Assign_stores (thn (he pins s σ H _ I h) fun v s1 ⟨x, H1, I1, r1, q1⟩ => ?_) hs hw
 rw [h1]
 exact thn (hg pins s1 σ H1 x v _ I1 r1 q1) fun _ s2 q => q
theorem Jl3 {i : Nat} {x : Str} {e : Expr} {te : TE} {pos' : Pos} (hN : X.N.Nodup) (hi : X.N[i]? = some x) (hx : Loc X.env.scope x) (he : PE X e te) (hs : swapsWith e (some (.Name x pos')) pos.line X.env = pure false := by rfl) (hf : X.fn x = true ∨ X.env.scope.names.lookup x = some .local := by first | exact .inl rfl | exact .inr rfl | assumption) :
  PS X (.Assign [.Name x pos'] e pos) (tAsg te (Jnr i)) := by
 intro pins s σ H D I h
 refine wpAny_Assign_Name (thn (he pins s σ H _ I h) fun v s1 ⟨y, H1, I1, r1, q1⟩ => ?_) hs
 exact Jsj I1 hN hi hx r1 (fun s2 I2 => ⟨_, H1, I2, q1⟩) hf
def tAugS (to ti te : TE) (tget : V → V → Hp → VK → Prop) (tip : TIp) (tset : TSet) : TS := fun D σ H => to σ H fun o H1 => ti σ H1 fun i H2 => tget o i H2 fun x H3 => te σ H3 fun y H4 => tip x y H4 fun z H5 => tset o i z H5 fun H6 => D.nx σ H6
def PGet (X : Cx) (t : V → V → Hp → VK → Prop) : Prop :=
 ∀ (pins : List (Addr × Obj)) (s : Shared) (σ : St) (H : Hp) (o i : V) (ov iv : Value) (Q : VK), Inv X pins σ H s → RelV o ov → RelV i iv → t o i H Q →
  wpAny (model X.prog X.w) X.A (getItem ov iv) (EP X pins σ Q) X.xe s
theorem Ya0 {o i e : Expr} {to ti te : TE} {tget : V → V → Hp → VK → Prop} {tip : TIp} {tset : TSet} {op : Operator} {tpos : Pos} (ho : PE X o to) (hi : PE X i ti) (hg : PGet X tget) (he : PE X e te) (hp : PIp X op tip) (hs : PSet X tset)
  (ha : ∀ ov iv new, augStore i ov iv new = (do holding [new, ov, iv] (setItem ov iv new); release [new, ov, iv] []; pure .next) := by intros; rfl) : PS X (.AugAssign (.Subscript o i tpos) op e pos) (tAugS to ti te tget tip tset) := by
 intro pins s σ H D I h
 refine wpAny_AugAssign_SubscriptAny (thn (ho pins s σ H _ I h) fun ov s1 ⟨x1, H1, I1, r1, q1⟩ => ?_) ha
 refine thn (hi pins s1 σ H1 _ I1 q1) fun iv s2 ⟨x2, H2, I2, r2, q2⟩ => ?_
 refine thn (hg pins s2 σ H2 x1 x2 ov iv _ I2 r1 r2 q2) fun old s3 ⟨x3, H3, I3, r3, q3⟩ => ?_
 refine thn (he pins s3 σ H3 _ I3 q3) fun v s4 ⟨x4, H4, I4, r4, q4⟩ => ?_
 refine thn (hp pins s4 σ H4 x3 x4 old v _ I4 r3 r4 q4) fun new s5 ⟨x5, H5, I5, r5, q5⟩ => ?_
 exact thn (hs pins s5 σ H5 x1 x2 x5 ov iv new _ I5 r1 r2 r5 q5) fun _ s6 ⟨H6, I6, q6⟩ => ⟨σ, H6, I6, q6⟩
def ipI (f : Int → Int → Int) : TIp := fun x y H Q => ∃ i j, x = .int i ∧ y = .int j ∧ Q (.int (f i j)) H
theorem ip_sub : PIp X .Sub (ipI fun i j => i - j) := by
 intro pins s σ H x y v u Q I r1 r2 h
 obtain ⟨i, j, e1, e2, q⟩ := h
 subst e1; subst e2
 obtain ⟨t, rfl⟩ := r1
 obtain ⟨t', rfl⟩ := r2
 exact isub_int ⟨.int _, H, I.tok _, ⟨_, rfl⟩, q⟩
end
section
variable {X : Cx} {pos : Pos}
def tWhile (c : TT) (tb : TS) : TS := fun D σ H => ∃ W : Nat → St → Hp → Prop, (∃ m, W m σ H) ∧ ∀ m σ H, W m σ H →
 c σ H fun b H1 => if b = true then ∃ N : St → Hp → Prop, (∀ σ' H', N σ' H' → ∃ m', m' < m ∧ W m' σ' H') ∧ tb { D with nx := N, ct := N, bk := D.nx } σ H1 else D.nx σ H1
theorem Jzd {c : Expr} {body : List Stmt} {tc : TT} {tb : TS} (hp : PassesOwn (model X.prog X.w) X.A X.env X.xe) (hc : PT X c tc) (hb : PSs X body tb) : PS X (.While c body [] pos) (tWhile tc tb) := by
 intro pins s σ H D I h
 obtain ⟨W, ⟨m0, w0⟩, turn⟩ := h
 refine wpAny_While (codeAny_whileLoop (fun n s' => ∃ σ' H', Inv X pins σ' H' s' ∧ W n σ' H') ?_ m0 ⟨σ, H, I, w0⟩)
 rintro n s1 ⟨σ1, H1, I1, w1⟩
 refine wpAny_passesOwn hp (thn (hc pins s1 σ1 H1 _ I1 (turn n σ1 H1 w1)) fun b s2 ⟨H2, I2, q2⟩ => ?_)
 cases b with
 | true =>
  obtain ⟨N, hN, q2⟩ := q2
  rw [if_pos rfl]
  refine wpAny_passesOwn hp (thn (hb pins s2 σ1 H2 _ I2 q2) fun f s3 q3 => ?_)
  cases f with
  | next =>
   obtain ⟨σ3, H3, I3, n3⟩ := q3
   obtain ⟨m', hm, w3⟩ := hN σ3 H3 n3
   exact ⟨m', hm, σ3, H3, I3, w3⟩
  | cont =>
   obtain ⟨σ3, H3, I3, n3⟩ := q3
   obtain ⟨m', hm, w3⟩ := hN σ3 H3 n3
   exact ⟨m', hm, σ3, H3, I3, w3⟩
  | brk => exact q3
  | ret v => exact q3
 | false =>
  rw [if_neg Bool.false_ne_true]
  exact wpAny_execs_nil ⟨σ1, H2, I2, q2⟩
end
structure It where
 go : Nat → Hp → Prop
 yld : Nat → Hp → V → Hp → Prop
 stop : Nat → Hp → Prop
def Jq6 (X : Cx) (pins : List (Addr × Obj)) (H : Hp) (b : Addr) : Prop :=
 H b = none ∧ b ≠ X.env.locals ∧ b ∉ X.fs ∧ (b ∈ X.ex ∨ X.s₀.heap.objs.size ≤ b) ∧ (∀ x c, X.env.cells.lookup x = some c → c ≠ b) ∧ ∀ p ∈ X.pn ++ pins, p.1 ≠ b
theorem Inv.fpOk {X : Cx} {pins : List (Addr × Obj)} {σ : St} {H H' : Hp} {s : Shared} {b : Addr} (I : Inv X pins σ H s) (hb : s.heap.objs.size ≤ b) (hn : H' b = none) : Jq6 X pins H' b := by
 refine ⟨hn, Nat.ne_of_gt (Nat.lt_of_lt_of_le I.lt hb), I.nofs hb, .inr (Nat.le_trans I.sz hb), fun x c e z => ?_, fun p hp z => ?_⟩
 ·obtain ⟨v, q⟩ := I.cell x c e
  exact absurd (Nat.lt_of_lt_of_le q.lt (by rw [z]; exact hb)) (Nat.lt_irrefl _)
 ·exact absurd (Nat.lt_of_lt_of_le (Heap.lt_size (I.pin p hp).1) (by rw [z]; exact hb)) (Nat.lt_irrefl _)
structure Turn (P : Program) (w : World) (K : PySem.W.Frag) (tg : Expr) (J : It) (fp : List Addr) (it : Addr) (tn : Nat → Heap → Prop) : Prop where
 mem : it ∈ fp
 obj : ∀ i h, tn i h → ∀ b ∈ fp, ∃ o, h.get? b = some o ∧ ∀ v, o.data ≠ .cell v
 keep : ∀ i h h', tn i h → (∀ b ∈ fp, ∀ o, h.get? b = some o → h'.get? b = some o) → tn i h'
 item : ∀ (X : Cx), X.prog = P → X.w = w → X.K = K → X.calm = true → ∀ (i : Nat) (pins : List (Addr × Obj)) (s : Shared) (σ : St) (H : Hp) (E : Value → Shared → Prop), Inv X pins σ H s → (∀ b ∈ fp, Jq6 X pins H b) → tn i s.heap → J.go i H →
  wpAny (model P w) X.A (pyNext (.ref it)) (fun r s1 => ∃ u, r = some u ∧
   wpAny (model P w) X.A (letOwnedTupleGo tg (.ref it) u) (fun _ s2 => ∃ x H', Inv X pins σ H' s2 ∧ RelV x u ∧ J.yld i H x H' ∧ tn (i + 1) s2.heap ∧ ∀ b ∈ fp, H' b = none) E s1) E s
 done : ∀ (X : Cx), X.prog = P → X.w = w → X.K = K → X.calm = true → ∀ (i : Nat) (pins : List (Addr × Obj)) (s : Shared) (σ : St) (H : Hp) (E : Value → Shared → Prop), Inv X pins σ H s → (∀ b ∈ fp, Jq6 X pins H b) → tn i s.heap → J.stop i H →
  wpAny (model P w) X.A (pyNext (.ref it)) (fun r s1 => r = none ∧ Inv X pins σ H s1) E s
 self : ∀ (A : Around) (i : Nat) (s : Shared) (Q : Value → Shared → Prop) (E : Value → Shared → Prop), tn i s.heap → Q (.ref it) s → wpAny (model P w) A (pyIter (.ref it)) Q E s
abbrev TI := St → Hp → (It → Hp → Prop) → Prop
def PIE (X : Cx) (pins : List (Addr × Obj)) (σ : St) (tg : Expr) (R : It → Hp → Prop) (itv : Value) (s2 : Shared) : Prop :=
 ∃ (it : Addr) (fp : List Addr) (tn : Nat → Heap → Prop) (J : It) (H' : Hp), itv = .ref it ∧ Inv X pins σ H' s2 ∧ Turn X.prog X.w X.K tg J fp it tn ∧ tn 0 s2.heap ∧ (∀ b ∈ fp, Jq6 X pins H' b) ∧ R J H'
def PI (X : Cx) (tg iter : Expr) (wi : TI) : Prop :=
 ∀ (pins : List (Addr × Obj)) (s : Shared) (σ : St) (H : Hp) (R : It → Hp → Prop), Inv X pins σ H s → wi σ H R →
  wpAny (model X.prog X.w) X.A (eval iter X.env) (fun v s1 => wpAny (model X.prog X.w) X.A (pyIter v) (PIE X pins σ tg R) X.xe s1) X.xe s
theorem Jwv {M : Model} {A : Around} {E : Value → Shared → Prop} {s : Shared} {tg : Expr} {it : Addr} {u : Value} {o : Obj} {n : String} {vs : Array Value} {Q : Unit → Shared → Prop} (ho : s.heap.get? it = some o) (hc : o.cls = .type n) (hd : o.data = .fields vs)
  (hn : ["enumerate", "zip", "dict_itemiterator", "dict_reverseitemiterator", "odict_iterator", "itertools.zip_longest", "itertools.pairwise"].contains n = false) (hQ : Q () s) : wpAny M A (letOwnedTupleGo tg (.ref it) u) Q E s := by
 unfold letOwnedTupleGo
 cases tg <;> first
  | exact wpAny_pure hQ
  | (cases u <;> first
    | exact wpAny_pure hQ
    | (refine wpAny_bind (wpAny_load ho ?_)
       rw [hc, hd]
       show wpAny M A (if (["enumerate", "zip", "dict_itemiterator", "dict_reverseitemiterator", "odict_iterator", "itertools.zip_longest", "itertools.pairwise"].contains n && vs[0]? == some (rawInt _)) = true then _ else _) Q E s
       rw [if_neg (by intro h; rw [hn, Bool.false_and] at h; cases h)]
       exact wpAny_pure hQ))
def Itl (K : PySem.W.Frag) (a : Addr) : It :=
 ⟨fun i H => ∃ xs x, SqL K H a xs ∧ xs[i]? = some x, fun i H x H' => H' = H ∧ ∀ xs, SqL K H a xs → xs[i]? = some x, fun i H => ∃ xs, SqL K H a xs ∧ xs.length ≤ i⟩
def Itt (K : PySem.W.Frag) (a : Addr) : It :=
 ⟨fun i H => ∃ xs x, SqT K H a xs ∧ xs[i]? = some x, fun i H x H' => H' = H ∧ ∀ xs, SqT K H a xs → xs[i]? = some x, fun i H => ∃ xs, SqT K H a xs ∧ xs.length ≤ i⟩
def Itr (lo : Int) (n : Nat) : It := ⟨fun i _ => i < n, fun i H x H' => H' = H ∧ x = .int (lo + i), fun i _ => n ≤ i⟩
theorem Jtx {P : Program} {w : World} {K : PySem.W.Frag} {tg : Expr} (a it : Addr) : Turn P w K tg (Itl K a) [it] it (fun i h => h.IsListIter it a i) where
 mem := by simp
 obj := fun i h st b hb => by
  have e : b = it := by simpa using hb
  subst e
  obtain ⟨o, e, c, d⟩ := st
  exact ⟨o, e, fun v z => by rw [d] at z; cases z⟩
 keep := fun i h h' st k => st.at fun o e => k it (by simp) o e
 item := by
  intro X hP hw hK hc i pins s σ H E I hf st hg
  subst hP hw hK
  obtain ⟨xs, x, hq, hx⟩ := hg
  obtain ⟨its, rv, p, hz⟩ := I.list hq
  obtain ⟨u, hu, ru⟩ := rv.get hx
  obtain ⟨f0, f1, f2, f3, f4, f5⟩ := hf it (by simp)
  refine wpAny_pyNext_list_item st p.isList (x := u) (by simpa using hu) fun h' st' sb => ?_
  have I1 : Inv X pins σ H { s with heap := h' } := I.turned (t' := s.toks) (fun b o hb e => (sb.2 b hb).trans e) f0 f1 f3 f4 f5
  obtain ⟨o, e, c, d⟩ := id st'
  exact ⟨u, rfl, Jwv (s := { s with heap := h' }) e c d (by decide) ⟨x, H, I1, ru, ⟨rfl, fun ys hy => by rw [I.list_inj hy hq]; exact hx⟩, st', fun b hb => (hf b hb).1⟩⟩
 done := by
  intro X hP hw hK hc i pins s σ H E I hf st hg
  subst hP hw hK
  obtain ⟨xs, hq, hx⟩ := hg
  obtain ⟨its, rv, p, hz⟩ := I.list hq
  obtain ⟨f0, f1, f2, f3, f4, f5⟩ := hf it (by simp)
  have hl := rv.length
  exact wpAny_pyNext_list_end (I.ok.hd hc) st p.isList (by simp; omega) fun h' eb => ⟨rfl, I.turned (t' := s.toks) (fun b o hb e => eb b o hb e) f0 f1 f3 f4 f5⟩
 self := fun _ _ _ _ _ st h => wpAny_pyIter_listiter st h
theorem Jsk {P : Program} {w : World} {K : PySem.W.Frag} {tg : Expr} (a it : Addr) : Turn P w K tg (Itt K a) [it] it (fun i h => h.IsTupleIter it a i) where
 mem := by simp
 obj := fun i h st b hb => by
  have e : b = it := by simpa using hb
  subst e
  obtain ⟨o, e, c, d⟩ := st
  exact ⟨o, e, fun v z => by rw [d] at z; cases z⟩
 keep := fun i h h' st k => st.at fun o e => k it (by simp) o e
 item := by
  intro X hP hw hK hc i pins s σ H E I hf st hg
  subst hP hw hK
  obtain ⟨xs, x, hq, hx⟩ := hg
  obtain ⟨its, rv, p, hz⟩ := I.tuple hq
  obtain ⟨u, hu, ru⟩ := rv.get hx
  obtain ⟨f0, f1, f2, f3, f4, f5⟩ := hf it (by simp)
  refine wpAny_pyNext_tuple_item st (show s.heap.IsTuple a its.toArray from p) (x := u) (by simpa using hu) fun h' st' sb => ?_
  have I1 : Inv X pins σ H { s with heap := h' } := I.turned (t' := s.toks) (fun b o hb e => (sb.2 b hb).trans e) f0 f1 f3 f4 f5
  obtain ⟨o, e, c, d⟩ := id st'
  exact ⟨u, rfl, Jwv (s := { s with heap := h' }) e c d (by decide) ⟨x, H, I1, ru, ⟨rfl, fun ys hy => by rw [I.tuple_inj hy hq]; exact hx⟩, st', fun b hb => (hf b hb).1⟩⟩
 done := by
  intro X hP hw hK hc i pins s σ H E I hf st hg
  subst hP hw hK
  obtain ⟨xs, hq, hx⟩ := hg
  obtain ⟨its, rv, p, hz⟩ := I.tuple hq
  obtain ⟨f0, f1, f2, f3, f4, f5⟩ := hf it (by simp)
  have hl := rv.length
  exact wpAny_pyNext_tuple_end (I.ok.hd hc) st (show s.heap.IsTuple a its.toArray from p) (by simp; omega) fun h' eb => ⟨rfl, I.turned (t' := s.toks) (fun b o hb e => eb b o hb e) f0 f1 f3 f4 f5⟩
 self := fun _ _ _ _ _ st h => wpAny_pyIter_tupleiter st h
theorem Jwl {P : Program} {w : World} {K : PySem.W.Frag} {tg : Expr} (it : Addr) (lo : Int) (n : Nat) : Turn P w K tg (Itr lo n) [it] it (fun i h => IsRangeIter h it (lo + (i : Nat) * 1) ((n : Int) - (i : Nat)) 1) where
 mem := by simp
 obj := fun i h st b hb => by
  have e : b = it := by simpa using hb
  subst e
  exact ⟨_, st, fun v z => by
   have z' : Data.fields _ = Data.cell v := z
   cases z'⟩
 keep := fun i h h' st k => k it (by simp) _ st
 item := by
  intro X hP hw hK hc i pins s σ H E I hf st hg
  subst hP hw hK
  obtain ⟨f0, f1, f2, f3, f4, f5⟩ := hf it (by simp)
  have W := Walks.range (prog := X.prog) (w := X.w) (I.ok.hd hc) it lo 1 n
  refine W.item i s _ _ hg st fun v h' tk hv st' kk => ?_
  obtain ⟨t, rfl⟩ := hv
  have I1 : Inv X pins σ H { s with heap := h', toks := tk } := I.turned (fun b o hb e => kk b o (by simpa using hb) e) f0 f1 f3 f4 f5
  refine ⟨_, rfl, Jwv (s := { s with heap := h', toks := tk }) (n := "range_iterator") st' rfl rfl (by decide) ⟨.int (lo + i), H, I1, ⟨t, ?_⟩, ⟨rfl, rfl⟩, st', fun b hb => (hf b hb).1⟩⟩
  rw [Int.mul_one]
 done := by
  intro X hP hw hK hc i pins s σ H E I hf st hg
  subst hP hw hK
  obtain ⟨f0, f1, f2, f3, f4, f5⟩ := hf it (by simp)
  exact wpAny_pyNext_range_end (I.ok.hd hc) st (by have : n ≤ i := hg; omega) fun h' eb => ⟨rfl, I.turned (t' := s.toks) (fun b o hb e => eb b o hb e) f0 f1 f3 f4 f5⟩
 self := fun _ _ _ _ _ st h => wpAny_pyIter_rangeiter st h
end L2
namespace L2
open PySem PySem.Spec PyProof.Rows
section
variable {X : Cx} {tg : Expr}
def iList (K : PySem.W.Frag) (tl : TE) : TI := fun σ H R => tl σ H fun x H1 => ∃ a, x = .ref a ∧ (∃ xs, SqL K H1 a xs) ∧ R (Itl K a) H1
def iTup (K : PySem.W.Frag) (tl : TE) : TI := fun σ H R => tl σ H fun x H1 => ∃ a, x = .ref a ∧ (∃ xs, SqT K H1 a xs) ∧ R (Itt K a) H1
theorem Jm7 {l : Expr} {tl : TE} (hl : PE X l tl) : PI X tg l (iList X.K tl) := by
 intro pins s σ H R I h
 refine thn (hl pins s σ H _ I h) fun v s1 ⟨x, H1, I1, r1, q1⟩ => ?_
 obtain ⟨a, e, ⟨xs, hq⟩, q⟩ := q1
 subst e
 cases r1
 obtain ⟨its, rv, p, hz⟩ := I1.list hq
 refine wpAny_pyIter_list p.isList ?_
 refine ⟨s1.heap.objs.size, [s1.heap.objs.size], _, _, H1, rfl, I1.kept (t' := s1.toks) fun b o e => Heap.get?_push_of_some _ e, Jtx a _, ⟨_, Heap.get?_push_size _ rfl, rfl, rfl⟩, fun b hb => ?_, q⟩
 have e : b = s1.heap.objs.size := by simpa using hb
 subst e
 exact I1.fpOk (Nat.le_refl _) (I1.hok.fresh (Nat.le_refl _))
theorem Jse {l : Expr} {tl : TE} (hl : PE X l tl) : PI X tg l (iTup X.K tl) := by
 intro pins s σ H R I h
 refine thn (hl pins s σ H _ I h) fun v s1 ⟨x, H1, I1, r1, q1⟩ => ?_
 obtain ⟨a, e, ⟨xs, hq⟩, q⟩ := q1
 subst e
 cases r1
 obtain ⟨its, rv, p, hz⟩ := I1.tuple hq
 refine wpAny_pyIter_tuple (show s1.heap.IsTuple a its.toArray from p) ?_
 refine ⟨s1.heap.objs.size, [s1.heap.objs.size], _, _, H1, rfl, I1.kept (t' := s1.toks) fun b o e => Heap.get?_push_of_some _ e, Jsk a _, ⟨_, Heap.get?_push_size _ rfl, rfl, rfl⟩, fun b hb => ?_, q⟩
 have e : b = s1.heap.objs.size := by simpa using hb
 subst e
 exact I1.fpOk (Nat.le_refl _) (I1.hok.fresh (Nat.le_refl _))
theorem Jvc {pins : List (Addr × Obj)} {σ : St} {H : Hp} {s : Shared} {R : It → Hp → Prop} {E : Value → Shared → Prop} {lo hi : Int} {t u v : Tok} {tk : Nat} (I : Inv X pins σ H s) (h1 : -(2 ^ 62) ≤ lo) (h2 : lo < 2 ^ 62) (h3 : -(2 ^ 62) ≤ hi) (h4 : hi < 2 ^ 62)
  (q : R (Itr lo (hi - lo).toNat) H) : wpAny (model X.prog X.w) X.A (pyIter (.ref s.heap.objs.size)) (PIE X pins σ tg R) E { s with heap := s.heap.push { cls := .type "range", data := .fields #[.int lo t, .int hi u, .int 1 v] }, toks := tk } := by
 refine wpAny_pyIter_range (IsRange.new ..) (small_one h1 h2 h3 h4) ?_
 have I1 : Inv X pins σ H { s with heap := s.heap.push { cls := .type "range", data := .fields #[.int lo t, .int hi u, .int 1 v] }, toks := tk } := I.kept fun b o e => Heap.get?_push_of_some _ e
 refine ⟨(s.heap.push { cls := .type "range", data := .fields #[.int lo t, .int hi u, .int 1 v] }).objs.size, [(s.heap.push { cls := .type "range", data := .fields #[.int lo t, .int hi u, .int 1 v] }).objs.size], _, _, H, rfl,
  I1.kept (t' := tk) fun b o e => Heap.get?_push_of_some _ e, Jwl _ lo (hi - lo).toNat, ?_, fun b hb => ?_, q⟩
 ·have e1 : lo + ((0 : Nat) : Int) * 1 = lo := by simp
  have e2 : (((hi - lo).toNat : Nat) : Int) - ((0 : Nat) : Int) = Builtin.Range.rangeSize lo hi 1 := by rw [rangeSize_one]; split <;> omega
  show IsRangeIter _ _ (lo + ((0 : Nat) : Int) * 1) ((((hi - lo).toNat : Nat) : Int) - ((0 : Nat) : Int)) 1
  rw [e1, e2]
  exact Heap.get?_push_size _ rfl
 ·have e : b = (s.heap.push { cls := .type "range", data := .fields #[.int lo t, .int hi u, .int 1 v] }).objs.size := by simpa using hb
  subst e
  exact I1.fpOk (Nat.le_refl _) (I1.hok.fresh (Nat.le_refl _))
def iRng1 (ta : TA) : TI := fun σ H R => ta σ H fun vs H1 => ∃ j : Int, vs = [.int j] ∧ -(2 ^ 62) ≤ j ∧ j < 2 ^ 62 ∧ R (Itr 0 j.toNat) H1
def iRng2 (ta : TA) : TI := fun σ H R => ta σ H fun vs H1 => ∃ i j : Int, vs = [.int i, .int j] ∧ (-(2 ^ 62) ≤ i ∧ i < 2 ^ 62 ∧ -(2 ^ 62) ≤ j ∧ j < 2 ^ 62) ∧ R (Itr i (j - i).toNat) H1
theorem Jqp {a : Expr} {ta : TA} {p pos : Pos} (hg : Gl X "range") (hm : X.mg "range" = none) (ha : PA X [a] ta) (hs : starEach [a] X.env = [(false, eval a X.env)] := by rfl) : PI X tg (.Call (.Name "range" p) [a] [] pos) (iRng1 ta) := by
 intro pins s σ H R I h
 refine Call_ (Jnx I hg hm boot_range (PyProof.Rows.callWith_type1 (thn (ha pos pins s σ H _ I h) fun us s1 ⟨vs, H1, I1, r1, q1⟩ => ?_) hs rfl))
 obtain ⟨j, e, q1, q2, q⟩ := q1
 subst e
 cases r1 with
 | cons r rr =>
  cases rr
  obtain ⟨t, rfl⟩ := r
  exact call_range_1 (Jvc I1 (by omega) (by omega) q1 q2 (by simpa using q))
theorem Jxy {a b : Expr} {ta : TA} {p pos : Pos} (hg : Gl X "range") (hm : X.mg "range" = none) (ha : PA X [a, b] ta) (hs : starEach [a, b] X.env = [(false, eval a X.env), (false, eval b X.env)] := by rfl) (hs2 : starEach [b] X.env = [(false, eval b X.env)] := by rfl) :
  PI X tg (.Call (.Name "range" p) [a, b] [] pos) (iRng2 ta) := by
 intro pins s σ H R I h
 refine Call_ (Jnx I hg hm boot_range (PyProof.Rows.callWith_type1 (thn (ha pos pins s σ H _ I h) fun us s1 ⟨vs, H1, I1, r1, q1⟩ => ?_) (by rw [hs, hs2]) (by rw [hs2]; rfl)))
 obtain ⟨i, j, e, ⟨q1, q2, q3, q4⟩, q⟩ := q1
 subst e
 cases r1 with
 | cons r rr =>
  cases rr with
  | cons r' rr =>
   cases rr
   obtain ⟨t, rfl⟩ := r
   obtain ⟨t', rfl⟩ := r'
   exact call_range_2 (Jvc I1 q1 q2 q3 q4 q)
def tFor (wi : TI) (g : TG) (tb : TS) : TS := fun D σ H => wi σ H fun J H1 => ∃ W : Nat → Nat → St → Hp → Prop, (∃ m, W 0 m σ H1) ∧ ∀ i m σ H, W i m σ H →
 (J.stop i H ∧ D.nx σ H) ∨ (J.go i H ∧ ∃ N : St → Hp → Prop, (∀ σ' H', N σ' H' → ∃ m', m' < m ∧ W (i + 1) m' σ' H') ∧ ∀ x H', J.yld i H x H' → g x σ H' fun σ2 H2 => tb { D with nx := N, ct := N, bk := D.nx } σ2 H2)
def Jsf (fp : List Addr) (h : Heap) : List (Addr × Obj) := fp.filterMap fun b => (h.get? b).map fun o => (b, o)
theorem Jnz {fp : List Addr} {h : Heap} {b : Addr} {o : Obj} (hb : b ∈ fp) (e : h.get? b = some o) : (b, o) ∈ Jsf fp h := List.mem_filterMap.mpr ⟨b, hb, by rw [e]; rfl⟩
theorem Jxt {fp : List Addr} {h : Heap} {p : Addr × Obj} (hp : p ∈ Jsf fp h) : p.1 ∈ fp ∧ h.get? p.1 = some p.2 := by
 obtain ⟨b, hb, e⟩ := List.mem_filterMap.mp hp
 cases q : h.get? b with
 | none => rw [q] at e; cases e
 | some o =>
  rw [q] at e
  have e' : (b, o) = p := Option.some.inj e
  subst e'
  exact ⟨hb, q⟩
theorem Inv.pinned {pins : List (Addr × Obj)} {σ : St} {H : Hp} {s : Shared} {fp : List Addr} (I : Inv X pins σ H s) (hf : ∀ b ∈ fp, Jq6 X pins H b) (ho : ∀ b ∈ fp, ∃ o, s.heap.get? b = some o ∧ ∀ v, o.data ≠ .cell v) : Inv X (pins ++ Jsf fp s.heap) σ H s :=
 I.pins_of fun p hp => (List.mem_append.mp hp).elim (fun z => I.pin p (List.mem_append_right _ z)) fun z => by
  obtain ⟨hb, e⟩ := Jxt z
  obtain ⟨f0, f1, f2, _⟩ := hf p.1 hb
  obtain ⟨o, e', d⟩ := ho p.1 hb
  rw [e] at e'; cases e'
  exact ⟨e, f0, f1, f2, d⟩
theorem Inv.unpinned {pins pl : List (Addr × Obj)} {σ : St} {H : Hp} {s : Shared} (I : Inv X (pins ++ pl) σ H s) : Inv X pins σ H s := I.pins_of fun p hp => I.pin p (List.mem_append_right _ (List.mem_append_left _ hp))
theorem Jo0 {iter : Expr} {body : List Stmt} {wi : TI} {g : TG} {tb : TS} {pos : Pos} (hp : PassesOwn (model X.prog X.w) X.A X.env X.xe) (hc : X.calm = true) (hi : PI X tg iter wi) (hg : PG X tg g) (hb : PSs X body tb)
  (hs : ∀ x, foldedSetIterable iter X.env x = pure x := by intro _; rfl) : PS X (.For tg iter body [] pos) (tFor wi g tb) := by
 intro pins s σ H D I h
 refine wpAny_For (thn (hi pins s σ H _ I h) fun v s1 h1 => thn h1 fun itv s2 h2 => ?_) hs
 obtain ⟨it, fp, tn, J, H2, e, I2, T, st2, f2, W, ⟨m0, w0⟩, turn⟩ := h2
 subst e
 have stat : ∀ {H' : Hp}, (∀ b ∈ fp, H' b = none) → ∀ b ∈ fp, Jq6 X pins H' b := fun hn b hb => ⟨hn b hb, (f2 b hb).2⟩
 refine codeAny_forLoop_any (fun n s' => ∃ i σ' H', Inv X pins σ' H' s' ∧ tn i s'.heap ∧ (∀ b ∈ fp, H' b = none) ∧ W i n σ' H') ?_ m0 ⟨0, σ, H2, I2, st2, fun b hb => (f2 b hb).1, w0⟩
 rintro n s3 ⟨i, σ3, H3, I3, st3, fr3, w3⟩
 rcases turn i n σ3 H3 w3 with ⟨stop, qn⟩ | ⟨go, N, hN, step⟩
 ·refine wpAny_passesOwn hp (thn (T.done X rfl rfl rfl hc i pins s3 σ3 H3 X.xe I3 (stat fr3) st3 stop) fun r s4 ⟨hr, I4⟩ => ?_)
  subst hr
  exact wpAny_execs_nil ⟨σ3, H3, I4, qn⟩
 ·refine wpAny_passesOwn hp (thn (T.item X rfl rfl rfl hc i pins s3 σ3 H3 X.xe I3 (stat fr3) st3 go) fun r s4 ⟨u, hr, h4⟩ => ?_)
  subst hr
  refine wpAny_passesOwn hp (thn h4 fun _ s5 ⟨x, H5, I5, r5, y5, st5, fr5⟩ => ?_)
  have I5' := I5.pinned (stat fr5) (T.obj _ _ st5)
  refine wpAny_passesOwn hp (thn (hg _ s5 σ3 H5 x u _ I5' r5 (step x H5 y5)) fun _ s6 ⟨σ6, H6, I6, q6⟩ => ?_)
  refine wpAny_passesOwn hp (thn (hb _ s6 σ6 H6 _ I6 q6) fun f s7 q7 => ?_)
  have again : ∀ {σ7 : St} {H7 : Hp}, Inv X (pins ++ Jsf fp s5.heap) σ7 H7 s7 → N σ7 H7 → ∃ m, m < n ∧ ∃ i σ' H', Inv X pins σ' H' s7 ∧ tn i s7.heap ∧ (∀ b ∈ fp, H' b = none) ∧ W i m σ' H' := fun {σ7 H7} I7 n7 => by
   obtain ⟨m', hm, w7⟩ := hN σ7 H7 n7
   refine ⟨m', hm, i + 1, σ7, H7, I7.unpinned, T.keep _ _ _ st5 fun b hb o e => (I7.pin (b, o) (List.mem_append_right _ (List.mem_append_right _ (Jnz hb e)))).1, fun b hb => ?_, w7⟩
   obtain ⟨o, e, d⟩ := T.obj _ _ st5 b hb
   exact (I7.pin (b, o) (List.mem_append_right _ (List.mem_append_right _ (Jnz hb e)))).2.1
  cases f with
  | next => obtain ⟨σ7, H7, I7, n7⟩ := q7; exact again I7 n7
  | cont => obtain ⟨σ7, H7, I7, n7⟩ := q7; exact again I7 n7
  | brk => obtain ⟨σ7, H7, I7, q7⟩ := q7; exact ⟨σ7, H7, I7.unpinned, q7⟩
  | ret v => obtain ⟨x7, σ7, H7, I7, r7, q7⟩ := q7; exact ⟨x7, σ7, H7, I7.unpinned, r7, q7⟩
end
theorem Jod {K : PySem.W.Frag} {a : Addr} {xs : List V} {g : TG} {tb : TS} {D : Ends} {σ : St} {H : Hp} (Pv : Nat → St → Hp → Prop) (h0 : Pv 0 σ H) (hl : ∀ i σ H, i ≤ xs.length → Pv i σ H → SqL K H a xs)
  (hs : ∀ i x σ H, xs[i]? = some x → Pv i σ H → g x σ H fun σ2 H2 => tb { D with nx := Pv (i + 1), ct := Pv (i + 1), bk := D.nx } σ2 H2) (hd : ∀ σ H, Pv xs.length σ H → D.nx σ H) :
  ∃ W : Nat → Nat → St → Hp → Prop, (∃ m, W 0 m σ H) ∧ ∀ i m σ H, W i m σ H →
   ((Itl K a).stop i H ∧ D.nx σ H) ∨ ((Itl K a).go i H ∧ ∃ N : St → Hp → Prop, (∀ σ' H', N σ' H' → ∃ m', m' < m ∧ W (i + 1) m' σ' H') ∧ ∀ x H', (Itl K a).yld i H x H' → g x σ H' fun σ2 H2 => tb { D with nx := N, ct := N, bk := D.nx } σ2 H2) := by
 refine ⟨fun i m σ H => m = xs.length - i ∧ i ≤ xs.length ∧ Pv i σ H, ⟨xs.length, by simp, Nat.zero_le _, h0⟩, ?_⟩
 rintro i m σ H ⟨rfl, hi, p⟩
 have q := hl i σ H hi p
 by_cases hlt : i < xs.length
 ·refine .inr ⟨⟨xs, xs[i], q, by simp [hlt]⟩, Pv (i + 1), fun σ' H' p' => ⟨xs.length - (i + 1), by omega, rfl, hlt, p'⟩, fun x H' y => ?_⟩
  obtain ⟨e, y⟩ := y
  subst e
  exact hs i x σ _ (y xs q) p
 ·have e : i = xs.length := by omega
  subst e
  exact .inl ⟨⟨xs, q, Nat.le_refl _⟩, hd σ H p⟩
theorem Yl {K : PySem.W.Frag} {a : Addr} {xs : List V} {g : TG} {tb : TS} {D : Ends} {σ : St} {H : Hp} (Pv : Nat → St → Hp → Prop) (h0 : Pv 0 σ H) (hl : ∀ i σ H, i ≤ xs.length → Pv i σ H → SqT K H a xs)
  (hs : ∀ i x σ H, xs[i]? = some x → Pv i σ H → g x σ H fun σ2 H2 => tb { D with nx := Pv (i + 1), ct := Pv (i + 1), bk := D.nx } σ2 H2) (hd : ∀ σ H, Pv xs.length σ H → D.nx σ H) :
  ∃ W : Nat → Nat → St → Hp → Prop, (∃ m, W 0 m σ H) ∧ ∀ i m σ H, W i m σ H →
   ((Itt K a).stop i H ∧ D.nx σ H) ∨ ((Itt K a).go i H ∧ ∃ N : St → Hp → Prop, (∀ σ' H', N σ' H' → ∃ m', m' < m ∧ W (i + 1) m' σ' H') ∧ ∀ x H', (Itt K a).yld i H x H' → g x σ H' fun σ2 H2 => tb { D with nx := N, ct := N, bk := D.nx } σ2 H2) := by
 refine ⟨fun i m σ H => m = xs.length - i ∧ i ≤ xs.length ∧ Pv i σ H, ⟨xs.length, by simp, Nat.zero_le _, h0⟩, ?_⟩
 rintro i m σ H ⟨rfl, hi, p⟩
 have q := hl i σ H hi p
 by_cases hlt : i < xs.length
 ·refine .inr ⟨⟨xs, xs[i], q, by simp [hlt]⟩, Pv (i + 1), fun σ' H' p' => ⟨xs.length - (i + 1), by omega, rfl, hlt, p'⟩, fun x H' y => ?_⟩
  obtain ⟨e, y⟩ := y
  subst e
  exact hs i x σ _ (y xs q) p
 ·have e : i = xs.length := by omega
  subst e
  exact .inl ⟨⟨xs, q, Nat.le_refl _⟩, hd σ H p⟩
theorem Jth {lo : Int} {n : Nat} {g : TG} {tb : TS} {D : Ends} {σ : St} {H : Hp} (Pv : Nat → St → Hp → Prop) (h0 : Pv 0 σ H)
  (hs : ∀ i σ H, i < n → Pv i σ H → g (.int (lo + i)) σ H fun σ2 H2 => tb { D with nx := Pv (i + 1), ct := Pv (i + 1), bk := D.nx } σ2 H2) (hd : ∀ σ H, Pv n σ H → D.nx σ H) :
  ∃ W : Nat → Nat → St → Hp → Prop, (∃ m, W 0 m σ H) ∧ ∀ i m σ H, W i m σ H →
   ((Itr lo n).stop i H ∧ D.nx σ H) ∨ ((Itr lo n).go i H ∧ ∃ N : St → Hp → Prop, (∀ σ' H', N σ' H' → ∃ m', m' < m ∧ W (i + 1) m' σ' H') ∧ ∀ x H', (Itr lo n).yld i H x H' → g x σ H' fun σ2 H2 => tb { D with nx := N, ct := N, bk := D.nx } σ2 H2) := by
 refine ⟨fun i m σ H => m = n - i ∧ i ≤ n ∧ Pv i σ H, ⟨n, by simp, Nat.zero_le _, h0⟩, ?_⟩
 rintro i m σ H ⟨rfl, hi, p⟩
 by_cases hlt : i < n
 ·refine .inr ⟨hlt, Pv (i + 1), fun σ' H' p' => ⟨n - (i + 1), by omega, rfl, hlt, p'⟩, fun x H' y => ?_⟩
  obtain ⟨e, y⟩ := y
  subst e y
  exact hs i σ _ hlt p
 ·have e : i = n := by omega
  subst e
  exact .inl ⟨Nat.le_refl _, hd σ H p⟩
end L2
namespace L2
open PySem PySem.Spec PyProof.Rows
abbrev R2 := V → V → Hp → VK → Prop
def OpR (X : Cx) (f : Value → Value → Sem Value) (r : R2) : Prop :=
 ∀ (pins : List (Addr × Obj)) (s : Shared) (σ : St) (H : Hp) (x y : V) (v u : Value) (Q : VK), Inv X pins σ H s → RelV x v → RelV y u → r x y H Q →
  wpAny (model X.prog X.w) X.A (f v u) (EP X pins σ Q) X.xe s
def UnR (X : Cx) (f : Value → Sem Value) (r : V → Hp → VK → Prop) : Prop :=
 ∀ (pins : List (Addr × Obj)) (s : Shared) (σ : St) (H : Hp) (x : V) (v : Value) (Q : VK), Inv X pins σ H s → RelV x v → r x H Q →
  wpAny (model X.prog X.w) X.A (f v) (EP X pins σ Q) X.xe s
def Jn3 (X : Cx) (f : Value) (r : List V → Hp → VK → Prop) : Prop :=
 ∀ (pins : List (Addr × Obj)) (s : Shared) (σ : St) (H : Hp) (xs : List V) (us : List Value) (Q : VK), Inv X pins σ H s → Vals xs us → r xs H Q →
  wpAny (model X.prog X.w) X.A (call f us) (EP X pins σ Q) X.xe s
def tOp (r : R2) (ta tb : TE) : TE := fun σ H Q => ta σ H fun x H1 => tb σ H1 fun y H2 => r x y H2 Q
def tUn (r : V → Hp → VK → Prop) (ta : TE) : TE := fun σ H Q => ta σ H fun x H1 => r x H1 Q
def rI (C : Int → Int → Prop) (g : Int → Int → V) : R2 := fun x y H Q => ∃ i j, x = .int i ∧ y = .int j ∧ C i j ∧ Q (g i j) H
def rI0 (g : Int → Int → V) : R2 := fun x y H Q => ∃ i j, x = .int i ∧ y = .int j ∧ Q (g i j) H
def rU (g : Int → V) : V → Hp → VK → Prop := fun x H Q => ∃ i, x = .int i ∧ Q (g i) H
section
variable {X : Cx} {a b c : Expr} {ta tb tc : TE} {pos : Pos}
theorem binT (ha : PE X a ta) (hb : PE X b tb) {pins : List (Addr × Obj)} {s : Shared} {σ : St} {H : Hp} {R : V → V → Hp → Prop} (I : Inv X pins σ H s)
  (h : ta σ H fun x H1 => tb σ H1 fun y H2 => R x y H2) {Q : Value → Shared → Prop} {f : Value → Value → Sem Value}
  (hf : ∀ v u s2 x y H2, Inv X pins σ H2 s2 → RelV x v → RelV y u → R x y H2 → wpAny (model X.prog X.w) X.A (f v u) Q X.xe s2) :
  wpAny (model X.prog X.w) X.A (eval a X.env) (fun v s₁ => wpAny (model X.prog X.w) X.A (eval b X.env) (fun u s₂ => wpAny (model X.prog X.w) X.A (f v u) Q X.xe s₂) X.xe s₁) X.xe s := by
 refine thn (ha pins s σ H _ I h) fun v s1 ⟨x, H1, I1, r1, q1⟩ => ?_
 refine thn (hb pins s1 σ H1 _ I1 q1) fun u s2 ⟨y, H2, I2, r2, q2⟩ => ?_
 exact hf v u s2 x y H2 I2 r1 r2 q2
theorem Jl5 {op : Operator} {r : R2} (ho : OpR X (binaryOp op) r) (ha : PE X a ta) (hb : PE X b tb) : PE X (.BinOp a op b pos) (tOp r ta tb) := by
 intro pins s σ H Q I h
 exact wpAny_BinOp (binT ha hb I h fun v u s2 x y H2 I2 rx ry q => ho pins s2 σ H2 x y v u Q I2 rx ry q)
theorem pe_un {op : UnaryOp} {r : V → Hp → VK → Prop} (ho : UnR X (unaryOp op) r) (ha : PE X a ta) : PE X (.UnaryOp op a pos) (tUn r ta) := by
 intro pins s σ H Q I h
 exact UnaryOp_ (thn (ha pins s σ H _ I h) fun v s1 ⟨x, H1, I1, r1, q1⟩ => ho pins s1 σ H1 x v Q I1 r1 q1)
theorem opI {f : Value → Value → Sem Value} {C : Int → Int → Prop} {g : Int → Int → Int}
  (rule : ∀ (i j : Int) (t u : Tok) (s : Shared) (Q : Value → Shared → Prop) (E : Value → Shared → Prop), C i j → Q (.int (g i j) s.toks) { s with toks := s.toks + 1 } → wpAny (model X.prog X.w) X.A (f (.int i t) (.int j u)) Q E s) :
  OpR X f (rI C fun i j => .int (g i j)) := by
 intro pins s σ H x y v u Q I rx ry h
 obtain ⟨i, j, rfl, rfl, hc, q⟩ := h
 obtain ⟨t, rfl⟩ := rx
 obtain ⟨t', rfl⟩ := ry
 exact rule i j t t' s _ _ hc ⟨.int (g i j), H, I.tok _, ⟨_, rfl⟩, q⟩
theorem opI0 {f : Value → Value → Sem Value} {g : Int → Int → Int}
  (rule : ∀ (i j : Int) (t u : Tok) (s : Shared) (Q : Value → Shared → Prop) (E : Value → Shared → Prop), Q (.int (g i j) s.toks) { s with toks := s.toks + 1 } → wpAny (model X.prog X.w) X.A (f (.int i t) (.int j u)) Q E s) :
  OpR X f (rI0 fun i j => .int (g i j)) := by
 intro pins s σ H x y v u Q I rx ry h
 obtain ⟨i, j, rfl, rfl, q⟩ := h
 obtain ⟨t, rfl⟩ := rx
 obtain ⟨t', rfl⟩ := ry
 exact rule i j t t' s _ _ ⟨.int (g i j), H, I.tok _, ⟨_, rfl⟩, q⟩
theorem opB0 {f : Value → Value → Sem Value} {g : Int → Int → Bool}
  (rule : ∀ (i j : Int) (t u : Tok) (s : Shared) (Q : Value → Shared → Prop) (E : Value → Shared → Prop), Q (.bool (g i j)) s → wpAny (model X.prog X.w) X.A (f (.int i t) (.int j u)) Q E s) :
  OpR X f (rI0 fun i j => .bl (g i j)) := by
 intro pins s σ H x y v u Q I rx ry h
 obtain ⟨i, j, rfl, rfl, q⟩ := h
 obtain ⟨t, rfl⟩ := rx
 obtain ⟨t', rfl⟩ := ry
 exact rule i j t t' s _ _ ⟨.bl (g i j), H, I, rfl, q⟩
def CPow (i j : Int) : Prop := 0 ≤ j ∧ j ≤ 1000000 ∧ i.natAbs < 2 ^ 64
def CMul (i j : Int) : Prop := (-(2 ^ 64) < i ∧ i < 2 ^ 64) ∨ (-(2 ^ 64) < j ∧ j < 2 ^ 64)
theorem CMul.ok {i j : Int} (h : CMul i j) : IntMulOk i j := by
 rcases h with ⟨h1, h2⟩ | ⟨h1, h2⟩
 ·exact .of_left (intBits_le_64 h1 h2)
 ·exact .of_right (intBits_le_64 h1 h2)
theorem Jlk : OpR X (binaryOp .Add) (rI0 fun i j => .int (i + j)) := opI0 fun _ _ _ _ _ _ _ q => add_int q
theorem Jmd : OpR X (binaryOp .Sub) (rI0 fun i j => .int (i - j)) := opI0 fun _ _ _ _ _ _ _ q => sub_int q
theorem Jol : OpR X (binaryOp .Mult) (rI CMul fun i j => .int (i * j)) := opI fun _ _ _ _ _ _ _ hc q => mul_int q hc.ok
theorem Jok : OpR X (binaryOp .Mod) (rI (fun _ j => 0 < j) fun i j => .int (i % j)) := opI fun i j _ _ _ _ _ hc q => by
 have h1 : (0 : Int) < j := hc
 exact mod_int' (by omega) (by rw [Int.fmod_eq_emod_of_nonneg i (by omega)]; exact q)
theorem Jz7 : OpR X (binaryOp .Pow) (rI CPow fun i j => .int (i ^ j.toNat)) := opI fun _ _ _ _ _ _ _ hc q => pow_int_small hc.1 hc.2.1 hc.2.2 q
theorem unI {f : Value → Sem Value} {g : Int → Int}
  (rule : ∀ (i : Int) (t : Tok) (s : Shared) (Q : Value → Shared → Prop) (E : Value → Shared → Prop), Q (.int (g i) s.toks) { s with toks := s.toks + 1 } → wpAny (model X.prog X.w) X.A (f (.int i t)) Q E s) :
  UnR X f (rU fun i => .int (g i)) := by
 intro pins s σ H x v Q I rx h
 obtain ⟨i, rfl, q⟩ := h
 obtain ⟨t, rfl⟩ := rx
 exact rule i t s _ _ ⟨.int (g i), H, I.tok _, ⟨_, rfl⟩, q⟩
theorem Y5 : UnR X (unaryOp .USub) (rU fun i => .int (-i)) := unI fun _ _ _ _ _ q => neg_int q
end
def scal : V → V → Bool
 | .non, .non => true | .non, .int _ => true | .int _, .non => true | .non, .bl _ => true | .bl _, .non => true | .non, .str _ => true | .str _, .non => true
 | .int _, .int _ => true | .bl _, .bl _ => true | .str _, .str _ => true | .byt _, .byt _ => true
 | .int _, .str _ => true | .str _, .int _ => true | .bl _, .str _ => true | .str _, .bl _ => true
 | _, _ => false
def rEq : R2 := fun x y H Q => scal x y = true ∧ Q (.bl (decide (x = y))) H
def rNe : R2 := fun x y H Q => scal x y = true ∧ Q (.bl (!decide (x = y))) H
theorem Jwt {i j : Int} : decide (V.int i = V.int j) = (i == j) := by
 rw [Bool.eq_iff_iff]
 simp
theorem Jyo {i j : Bool} : decide (V.bl i = V.bl j) = (i == j) := by
 rw [Bool.eq_iff_iff]
 simp
theorem Jwu {i j : Str} : decide (V.str i = V.str j) = (i == j) := by
 rw [Bool.eq_iff_iff]
 simp
theorem Jws {i j : Array UInt8} : decide (V.byt i = V.byt j) = (i.toList == j.toList) := by
 rw [Bool.eq_iff_iff]
 cases i
 cases j
 simp
section
variable {X : Cx} {a b c : Expr} {ta tb tc : TE} {pos : Pos}
theorem Jlh {pins : List (Addr × Obj)} {σ : St} {H : Hp} {s : Shared} {Q : VK} {k k' : Bool} (I : Inv X pins σ H s) (q : Q (.bl k) H) (e : k = k') : EP X pins σ Q (.bool k') s := by
 subst e
 exact ⟨.bl k, H, I, rfl, q⟩
theorem Jo5 : OpR X (compareOp .Eq) rEq := by
 intro pins s σ H x y v u Q I rx ry h
 obtain ⟨hs, q⟩ := h
 cases x with
 | non =>
  cases rx
  cases y with
  | non => cases ry; exact PySem.EqNone.eq_none_none (Jlh I q (by simp))
  | bl j => cases ry; exact PySem.EqNone.eq_none_bool (Jlh I q (by simp))
  | int j => obtain ⟨t', rfl⟩ := ry; exact PySem.EqNone.eq_none_int (Jlh I q (by simp))
  | str j => obtain ⟨t', rfl⟩ := ry; exact PySem.EqNone.eq_none_str (Jlh I q (by simp))
  | _ => exact absurd (show false = true from hs) Bool.false_ne_true
 | bl i =>
  cases rx
  cases y with
  | non => cases ry; exact PySem.EqNone.eq_bool_none (Jlh I q (by simp))
  | bl j => cases ry; exact eq_bool (Jlh I q Jyo)
  | str j => obtain ⟨t', rfl⟩ := ry; exact PySem.EqMixed.eq_bool_str (Jlh I q (by simp))
  | _ => exact absurd (show false = true from hs) Bool.false_ne_true
 | int i =>
  obtain ⟨t, rfl⟩ := rx
  cases y with
  | non => cases ry; exact PySem.EqNone.eq_int_none (Jlh I q (by simp))
  | int j => obtain ⟨t', rfl⟩ := ry; exact eq_int (Jlh I q Jwt)
  | str j => obtain ⟨t', rfl⟩ := ry; exact PySem.EqMixed.eq_int_str (Jlh I q (by simp))
  | _ => exact absurd (show false = true from hs) Bool.false_ne_true
 | str i =>
  obtain ⟨t, rfl⟩ := rx
  cases y with
  | non => cases ry; exact PySem.EqNone.eq_str_none (Jlh I q (by simp))
  | bl j => cases ry; exact PySem.EqMixed.eq_str_bool (Jlh I q (by simp))
  | int j => obtain ⟨t', rfl⟩ := ry; exact PySem.EqMixed.eq_str_int (Jlh I q (by simp))
  | str j => obtain ⟨t', rfl⟩ := ry; exact eq_str (Jlh I q Jwu)
  | _ => exact absurd (show false = true from hs) Bool.false_ne_true
 | byt i =>
  obtain ⟨t, rfl⟩ := rx
  cases y with
  | byt j => obtain ⟨t', rfl⟩ := ry; exact PySem.W.eq_bytes (Jlh I q Jws)
  | _ => exact absurd (show false = true from hs) Bool.false_ne_true
 | _ => cases y <;> exact absurd (show false = true from hs) Bool.false_ne_true
theorem op_ne : OpR X (compareOp .NotEq) rNe := by
 intro pins s σ H x y v u Q I rx ry h
 obtain ⟨hs, q⟩ := h
 cases x with
 | non =>
  cases rx
  cases y with
  | non => cases ry; exact PySem.EqNone.ne_none_none (Jlh I q (by simp))
  | bl j => cases ry; exact PySem.EqNone.ne_none_bool (Jlh I q (by simp))
  | int j => obtain ⟨t', rfl⟩ := ry; exact PySem.EqNone.ne_none_int (Jlh I q (by simp))
  | str j => obtain ⟨t', rfl⟩ := ry; exact PySem.EqNone.ne_none_str (Jlh I q (by simp))
  | _ => exact absurd (show false = true from hs) Bool.false_ne_true
 | bl i =>
  cases rx
  cases y with
  | non => cases ry; exact PySem.EqNone.ne_bool_none (Jlh I q (by simp))
  | bl j => cases ry; exact ne_bool (Jlh I q (congrArg not Jyo))
  | str j => obtain ⟨t', rfl⟩ := ry; exact PySem.EqMixed.ne_bool_str (Jlh I q (by simp))
  | _ => exact absurd (show false = true from hs) Bool.false_ne_true
 | int i =>
  obtain ⟨t, rfl⟩ := rx
  cases y with
  | non => cases ry; exact PySem.EqNone.ne_int_none (Jlh I q (by simp))
  | int j => obtain ⟨t', rfl⟩ := ry; exact ne_int (Jlh I q (congrArg not Jwt))
  | str j => obtain ⟨t', rfl⟩ := ry; exact PySem.EqMixed.ne_int_str (Jlh I q (by simp))
  | _ => exact absurd (show false = true from hs) Bool.false_ne_true
 | str i =>
  obtain ⟨t, rfl⟩ := rx
  cases y with
  | non => cases ry; exact PySem.EqNone.ne_str_none (Jlh I q (by simp))
  | bl j => cases ry; exact PySem.EqMixed.ne_str_bool (Jlh I q (by simp))
  | int j => obtain ⟨t', rfl⟩ := ry; exact PySem.EqMixed.ne_str_int (Jlh I q (by simp))
  | str j => obtain ⟨t', rfl⟩ := ry; exact ne_str (Jlh I q (congrArg not Jwu))
  | _ => exact absurd (show false = true from hs) Bool.false_ne_true
 | byt i =>
  obtain ⟨t, rfl⟩ := rx
  cases y with
  | byt j => obtain ⟨t', rfl⟩ := ry; exact PySem.W.ne_bytes (Jlh I q (congrArg not Jws))
  | _ => exact absurd (show false = true from hs) Bool.false_ne_true
 | _ => cases y <;> exact absurd (show false = true from hs) Bool.false_ne_true
theorem Jx3 : OpR X (compareOp .Lt) (rI0 fun i j => .bl (decide (i < j))) := opB0 fun _ _ _ _ _ _ _ q => lt_int q
theorem Jo6 : OpR X (compareOp .LtE) (rI0 fun i j => .bl (decide (i ≤ j))) := opB0 fun _ _ _ _ _ _ _ q => le_int q
theorem Jv8 : OpR X (compareOp .Gt) (rI0 fun i j => .bl (decide (j < i))) := opB0 fun _ _ _ _ _ _ _ q => gt_int q
theorem op_ge : OpR X (compareOp .GtE) (rI0 fun i j => .bl (decide (j ≤ i))) := opB0 fun _ _ _ _ _ _ _ q => ge_int q
theorem Jxw : OpR X (compareOp .In) (fun x y H Q => ∃ i j, x = .str i ∧ y = .str j ∧ Q (.bl (!(Builtin.Str.occurrences j i 0 j.length 1).isEmpty)) H) := by
 intro pins s σ H x y v u Q I rx ry h
 obtain ⟨i, j, rfl, rfl, q⟩ := h
 obtain ⟨t, rfl⟩ := rx
 obtain ⟨t', rfl⟩ := ry
 exact in_str (Jlh I q rfl)
theorem Jqm : OpR X (compareOp .Is) (fun x y H Q => y = .non ∧ Q (.bl (decide (x = .non))) H) := by
 intro pins s σ H x y v u Q I rx ry h
 obtain ⟨rfl, q⟩ := h
 cases ry
 refine is_none_gen (Jlh I q ?_)
 cases x <;> first
  | (cases rx; rfl)
  | (obtain ⟨t, rfl⟩ := rx; rfl)
theorem Jx4 : OpR X (compareOp .IsNot) (fun x y H Q => y = .non ∧ Q (.bl (!decide (x = .non))) H) := by
 intro pins s σ H x y v u Q I rx ry h
 obtain ⟨rfl, q⟩ := h
 cases ry
 refine isnot_none_gen (Jlh I q ?_)
 cases x <;> first
  | (cases rx; rfl)
  | (obtain ⟨t, rfl⟩ := rx; rfl)
theorem Jli (b : Expr) {op : CmpOp} (h : op ≠ .In := by decide) (h2 : op ≠ .NotIn := by decide) : behindInMarks op b = false := by
 have e1 : (op == CmpOp.In) = false := by cases op <;> first | rfl | exact absurd rfl h
 have e2 : (op == CmpOp.NotIn) = false := by cases op <;> first | rfl | exact absurd rfl h2
 cases b <;> simp [behindInMarks, e1, e2]
theorem Jmk {op : CmpOp} {r : R2} (ho : OpR X (compareOp op) r) (ha : PE X a ta) (hb : PE X b tb) (hm : behindInMarks op b = false) : PE X (.Compare a [op] [b] pos) (tOp r ta tb) := by
 intro pins s σ H Q I h
 exact wpAny_Compare1 (binT ha hb I h fun v u s2 x y H2 I2 rx ry q => ho pins s2 σ H2 x y v u Q I2 rx ry q) hm
def tTest (t : TE) : TT := fun σ H Q => t σ H fun x H' => ∃ k, x = .bl k ∧ Q k H'
theorem Jlv {op : CmpOp} {r : R2} (ho : OpR X (compareOp op) r) (ha : PE X a ta) (hb : PE X b tb) (hm : behindInMarks op b = false) : PT X (.Compare a [op] [b] pos) (tTest (tOp r ta tb)) := by
 intro pins s σ H Q I h
 refine wpAny_isTrue_Compare1 (thn (ha pins s σ H _ I h) fun v s1 ⟨x, H1, I1, r1, q1⟩ => thn (hb pins s1 σ H1 _ I1 q1) fun u s2 ⟨y, H2, I2, r2, q2⟩ =>
  thn (ho pins s2 σ H2 x y v u _ I2 r1 r2 q2) fun c s3 ⟨z, H3, I3, r3, k, e, q3⟩ => ?_) hm
 subst e
 cases r3
 exact wpAny_truthy_bool ⟨H3, I3, q3⟩
def Y0 (r r' : R2) (ta tb tc : TE) : TE := fun σ H Q => ta σ H fun x H1 => tb σ H1 fun y H2 => r x y H2 fun z H3 => ∃ k, z = .bl k ∧
 (if k = true then tc σ H3 fun w' H4 => r' y w' H4 Q else Q (.bl false) H3)
theorem Jsb {op op' : CmpOp} {r r' : R2} (ho : OpR X (compareOp op) r) (ho' : OpR X (compareOp op') r') (ha : PE X a ta) (hb : PE X b tb) (hc : PE X c tc)
  (hm : lastMarks [op, op'] [b, c] = false := by with_unfolding_all rfl) : PE X (.Compare a [op, op'] [b, c] pos) (Y0 r r' ta tb tc) := by
 intro pins s σ H Q I h
 refine Compare_chain (thn (ha pins s σ H _ I h) fun v s1 ⟨x, H1, I1, r1, q1⟩ => chain_link (thn (hb pins s1 σ H1 _ I1 q1) fun u s2 ⟨y, H2, I2, r2, q2⟩ =>
  thn (ho pins s2 σ H2 x y v u _ I2 r1 r2 q2) fun d s3 ⟨z, H3, I3, r3, k, e, q3⟩ => ?_)) hm
 subst e
 cases r3
 refine wpAny_truthy_bool ?_
 cases k with
 | false => exact ite_ff ⟨.bl false, H3, I3, rfl, q3⟩
 | true => exact ite_tt (chain_last (thn (hc pins s3 σ H3 _ I3 q3) fun w' s4 ⟨z', H4, I4, r4, q4⟩ => ho' pins s4 σ H4 y z' u w' Q I4 r2 r4 q4))
theorem Jsg {op op' : CmpOp} {r r' : R2} (ho : OpR X (compareOp op) r) (ho' : OpR X (compareOp op') r') (ha : PE X a ta) (hb : PE X b tb) (hc : PE X c tc)
  (hm : lastMarks [op, op'] [b, c] = false := by with_unfolding_all rfl) : PT X (.Compare a [op, op'] [b, c] pos) (tTest (Y0 r r' ta tb tc)) := by
 intro pins s σ H Q I h
 refine isTrue_chain (thn (ha pins s σ H _ I h) fun v s1 ⟨x, H1, I1, r1, q1⟩ => test_link (thn (hb pins s1 σ H1 _ I1 q1) fun u s2 ⟨y, H2, I2, r2, q2⟩ =>
  thn (ho pins s2 σ H2 x y v u _ I2 r1 r2 q2) fun d s3 ⟨z, H3, I3, r3, k, e, q3⟩ => ?_)) hm
 subst e
 cases r3
 refine wpAny_truthy_bool ?_
 cases k with
 | false =>
  obtain ⟨k', e', q'⟩ := q3
  cases e'
  exact ite_ff ⟨H3, I3, q'⟩
 | true =>
  refine ite_tt (test_last (thn (hc pins s3 σ H3 _ I3 q3) fun w' s4 ⟨z', H4, I4, r4, q4⟩ => thn (ho' pins s4 σ H4 y z' u w' _ I4 r2 r4 q4) fun d' s5 ⟨z2, H5, I5, r5, k2, e2, q5⟩ => ?_))
  subst e2
  cases r5
  exact wpAny_truthy_bool ⟨H5, I5, q5⟩
theorem Jpb : (sizeLine : Nat) < 2 ^ 63 := by rw [sizeLine_eq]; decide
theorem Jw2 : OpR X (binaryOp .Add) (fun x y H Q => ∃ i j, x = .str i ∧ y = .str j ∧ i.length + j.length ≤ sizeLine ∧ Q (.str (i ++ j)) H) := by
 intro pins s σ H x y v u Q I rx ry h
 obtain ⟨i, j, rfl, rfl, hz, q⟩ := h
 obtain ⟨t, rfl⟩ := rx
 obtain ⟨t', rfl⟩ := ry
 exact add_str (fun t' tk => ⟨.str (i ++ j), H, I.tok _, ⟨_, rfl⟩, q⟩) hz
theorem Jnt {x : V} {us : List Value} (r : Vals [x] us) : ∃ u, us = [u] ∧ RelV x u := by
 cases r with
 | cons r1 r2 => cases r2; exact ⟨_, rfl, r1⟩
theorem Jxe {x y : V} {us : List Value} (r : Vals [x, y] us) : ∃ u w', us = [u, w'] ∧ RelV x u ∧ RelV y w' := by
 cases r with
 | cons r1 r2 =>
  cases r2 with
  | cons r3 r4 => cases r4; exact ⟨_, _, rfl, r1, r3⟩
theorem Jnc (hc : X.calm = true) : Jn3 X (.builtin "max") (fun xs H Q => ∃ i j, xs = [.int i, .int j] ∧ Q (.int (if j > i then j else i)) H) := by
 intro pins s σ H xs us Q I r h
 obtain ⟨i, j, rfl, q⟩ := h
 obtain ⟨u, w', rfl, ⟨t, rfl⟩, ⟨t', rfl⟩⟩ := Jxe r
 refine max_two_ints (I.ok.hd hc) fun h' tk k => ⟨_, H, I.kept k, ?_, q⟩
 by_cases hj : j > i
 ·rw [if_pos hj, if_pos hj]; exact ⟨_, rfl⟩
 ·rw [if_neg hj, if_neg hj]; exact ⟨_, rfl⟩
theorem Jmy (hc : X.calm = true) : Jn3 X (.builtin "min") (fun xs H Q => ∃ i j, xs = [.int i, .int j] ∧ Q (.int (if j < i then j else i)) H) := by
 intro pins s σ H xs us Q I r h
 obtain ⟨i, j, rfl, q⟩ := h
 obtain ⟨u, w', rfl, ⟨t, rfl⟩, ⟨t', rfl⟩⟩ := Jxe r
 refine min_two_ints (I.ok.hd hc) fun h' tk k => ⟨_, H, I.kept k, ?_, q⟩
 by_cases hj : j < i
 ·rw [if_pos hj, if_pos hj]; exact ⟨_, rfl⟩
 ·rw [if_neg hj, if_neg hj]; exact ⟨_, rfl⟩
theorem Joy : Jn3 X (.type "int") (fun xs H Q => (∃ i, xs = [.int i] ∧ Q (.int i) H) ∨ ∃ k, xs = [.bl k] ∧ Q (.int (if k then 1 else 0)) H) := by
 intro pins s σ H xs us Q I r h
 rcases h with ⟨i, rfl, q⟩ | ⟨k, rfl, q⟩
 ·obtain ⟨u, rfl, t, rfl⟩ := Jnt r
  exact call_int_int ⟨.int i, H, I, ⟨_, rfl⟩, q⟩
 ·obtain ⟨u, rfl, r1⟩ := Jnt r
  cases r1
  exact call_int_bool ⟨.int (if k then 1 else 0), H, I.tok _, ⟨_, rfl⟩, q⟩
end
end L2
namespace L2
open PySem PySem.Spec PyProof.Rows
structure ObjM (h : Heap) (x dx C : Addr) (mA : Str → Option Value) : Prop where
 obj : h.get? x = some (PySem.W.instObj C dx)
 ns : h.Ns1 dx mA
 ne : dx ≠ x
theorem Jtm {h : Heap} {dx : Addr} {mA : Str → Option Value} (n : h.Ns1 dx mA) : ∃ od, h.get? dx = some od ∧ ∀ name, PySem.W.lookIn name od = some (mA name) := by
 obtain ⟨o, es, ep, ho, hd, hk, _, hm⟩ := n
 refine ⟨o, ho, fun name => ?_⟩
 have e := hm name
 unfold nsFind findBy at e
 rw [← Array.find?_toList] at e
 unfold PySem.W.lookIn
 rw [hd]
 dsimp only
 split
 ·rename_i y q
  rw [q] at e
  exact congrArg some e
 ·rename_i q
  rw [q] at e
  have a : es.toList.any (·.refKey) = false := by
   rw [List.any_eq_false]
   intro y hy
   obtain ⟨z, t, hkey⟩ := hk y (Array.mem_toList_iff.mp hy)
   simp [DictEntry.refKey, hkey]
  have a' : ¬ es.toList.any (·.refKey) = true := by rw [a]; exact Bool.false_ne_true
  rw [if_neg a']
  exact congrArg some e
theorem ObjM.look {h : Heap} {x dx C : Addr} {mA : Str → Option Value} (I : ObjM h x dx C mA) : ∃ od, PySem.W.InstAt h x (PySem.W.instObj C dx) C (some od) ∧ ∀ name, PySem.W.lookIn name od = some (mA name) :=
 let ⟨od, ho, hl⟩ := Jtm I.ns
 ⟨od, ⟨I.obj, rfl, rfl, ho⟩, hl⟩
section
variable {prog : Program} {w : World} {A : Around} {E : Value → Shared → Prop} {s : Shared} {K : PySem.W.Frag} {x dx C f : Addr} {mA : Str → Option Value} {name : Str} {v : Value}
theorem Ym {expr : Bool} {Q : Value → Shared → Prop} (X : K.In s.heap) (I : ObjM s.heap x dx C mA) (hg : PySem.W.plainGet K C name = true) (hh : PySem.W.hasDictIn K C = true)
  (ha : PySem.W.findIn K (.ref C) name = some none) (hv : mA name = some v) (hv' : PySem.W.handedIn v = true) (h : Q v { s with toks := s.toks + 1 }) :
  wpAny (model prog w) A (getAttr (.ref x) name expr) Q E s := by
 obtain ⟨od, J, hl⟩ := I.look
 exact PySem.W.get_value X J (PySem.W.plainGet_of hg).1 (PySem.W.findObj_own hh ha rfl (by rw [hl, hv])) hv' h
theorem Jyv {pl : Sem Bool} {Q : Value × List Value → Shared → Prop} (X : K.In s.heap) (I : ObjM s.heap x dx C mA) (hg : PySem.W.plainGet K C name = true)
  (hf : PySem.W.findIn K (.ref C) name = some (some (.ref f))) (ht : PySem.W.isFn K (.ref f) = true) (hv : mA name = none) (h : Q (.ref f, [.ref x]) s) :
  wpAny (model prog w) A (getMethod (.ref x) name pl) Q E s := by
 obtain ⟨od, J, hl⟩ := I.look
 exact PySem.W.method_fn X J (PySem.W.plainGet_of hg).1 (PySem.W.plainGet_of hg).2 hf (beq_iff_eq.mp ht) (by show (PySem.W.lookIn name od).map (·.isSome) = some false; rw [hl, hv]; rfl) h
theorem Ya7 {ns : List Str} {Q : Unit → Shared → Prop} (X : K.In s.heap) (I : ObjM s.heap x dx C mA)
  (hs : PySem.W.findIn K (.ref C) "__setattr__" = some (some (.builtin "object.__setattr__"))) (hp : PySem.W.plainOver K C = true) (ht : PySem.W.takerIn K C name = some none) (hh : PySem.W.hasDictIn K C = true)
  (hw : PySem.Within mA ns) (hsz : ns.length ≤ sizeLine)
  (h : ∀ h', ObjM h' x dx C (fun y => if y = name then some v else mA y) → Heap.SameBut dx s.heap h' → Q () { s with heap := h', toks := s.toks + 2 }) :
  wpAny (model prog w) A (setAttr (.ref x) name v) Q E s := by
 obtain ⟨od, J, hl⟩ := I.look
 refine PySem.W.set_plain X J hs (PySem.W.osa_open (s := { s with toks := s.toks + 1 }) (r := none) X J hp ht fun b => ?_)
 obtain ⟨cd, hc, hd'⟩ := PySem.W.any_some hh
 have hx : s.heap.get? x = some ⟨.ref C, some dx, .plain, #[]⟩ := I.obj
 refine wpAny_bind (wpAny_pure (wpAny_bind (wpAny_bind (wpAny_loadPart hx (wpAny_bind (PySem.W.Looks.here (s := { s with toks := s.toks + 1 }) (PySem.W.looks_clsIn X hc) ?_))))))
 rw [hd']
 refine wpAny_pure (a := some dx) (wpAny_bind (wpAny_pure (wpAny_bind ?_)))
 refine wpAny_nsSet1 (s := { s with toks := s.toks + 1 }) I.ns fun h' hn2 hs2 => ?_
 obtain ⟨oD, esD, epD, hoD, hdD, hcD⟩ := hn2.count (PySem.Within.cons name v hw)
 refine wpAny_bind (wpAny_lookBehind hoD (by rw [hdD]; exact pastItsLine_dict (Nat.le_trans hcD (by rw [List.length_cons]; omega))) ?_)
 exact wpAny_pure (h _ ⟨(hs2.2 _ (Ne.symm I.ne)).trans I.obj, hn2, I.ne⟩ hs2)
theorem Jz5 {R : Result → Shared → Prop} {vs : List Value} {kw : List (Str × Value)} (X : K.In s.heap) (hm : PySem.W.makesIn K C = true)
  (hi : PySem.W.findIn K (.ref C) "__init__" = some (some (.ref f))) (hf : PySem.W.typeIn K (.ref f) = some (.type "function"))
  (h : codeAny (model prog w) (A.under (.builtin "type.__call__" ⟨.ref C :: vs, kw⟩)) (.call (.ref f) ⟨.ref (s.heap.objs.size + 1) :: vs, kw⟩) (PySem.W.InitBack (s.heap.objs.size + 1) R)
   { s with heap := (s.heap.push PySem.W.emptyDict).push (PySem.W.instObj C s.heap.objs.size) }) :
  codeAny (model prog w) A (.call (.ref C) ⟨vs, kw⟩) R s := by
 obtain ⟨hh, g, d, t, os⟩ := s
 exact PySem.W.make_core (PySem.W.makes_of X hm) (PySem.W.looks_findIn X hi) (fun self => PySem.W.bind_fn X self hf) (.inl rfl) h
end
def Jm6 (f : Str) (v : V) : List (Str × V) → List (Str × V)
 | [] => [(f, v)]
 | (g, x) :: r => if g = f then (g, v) :: r else (g, x) :: Jm6 f v r
theorem Jqw (f g : Str) (v : V) : ∀ fs : List (Str × V), (Jm6 f v fs).lookup g = if g = f then some v else fs.lookup g
 | [] => by
  show List.lookup g [(f, v)] = _
  by_cases h : g = f
  ·have hb : (g == f) = true := beq_iff_eq.mpr h
   simp only [List.lookup, hb, if_pos h]
  ·have hb : (g == f) = false := beq_eq_false_iff_ne.mpr h
   simp only [List.lookup, hb, if_neg h]
 | (k, x) :: r => by
  have ih := Jqw f g v r
  rw [show Jm6 f v ((k, x) :: r) = (if k = f then (k, v) :: r else (k, x) :: Jm6 f v r) from rfl]
  by_cases hk : k = f
  ·rw [if_pos hk]
   by_cases h : g = k
   ·have hb : (g == k) = true := beq_iff_eq.mpr h
    simp only [List.lookup, hb, if_pos (h.trans hk)]
   ·have hb : (g == k) = false := beq_eq_false_iff_ne.mpr h
    simp only [List.lookup, hb, if_neg (fun e : g = f => h (e.trans hk.symm))]
  ·rw [if_neg hk]
   by_cases h : g = k
   ·have hb : (g == k) = true := beq_iff_eq.mpr h
    simp only [List.lookup, hb, if_neg (fun e : g = f => hk (h.symm.trans e))]
   ·have hb : (g == k) = false := beq_eq_false_iff_ne.mpr h
    simp only [List.lookup, hb]
    exact ih
theorem Jqe (f : Str) (v : V) : ∀ fs : List (Str × V), f ∈ (Jm6 f v fs).map (·.1) ∧ ∀ g, g ∈ fs.map (·.1) → g ∈ (Jm6 f v fs).map (·.1)
 | [] => ⟨by simp [Jm6], fun g h => by simp at h⟩
 | (k, x) :: r => by
  obtain ⟨i1, i2⟩ := Jqe f v r
  rw [show Jm6 f v ((k, x) :: r) = (if k = f then (k, v) :: r else (k, x) :: Jm6 f v r) from rfl]
  by_cases hk : k = f
  ·rw [if_pos hk]
   subst hk
   exact ⟨by simp, fun g h => by simpa using h⟩
  ·rw [if_neg hk]
   refine ⟨?_, fun g h => ?_⟩
   ·rw [List.map_cons]
    exact List.mem_cons_of_mem _ i1
   ·rw [List.map_cons] at h ⊢
    rcases List.mem_cons.mp h with e | e
    ·exact List.mem_cons.mpr (.inl e)
    ·exact List.mem_cons_of_mem _ (i2 g e)
theorem Jqv (f : Str) (v : V) : ∀ fs : List (Str × V), (Jm6 f v fs).length ≤ fs.length + 1
 | [] => by simp [Jm6]
 | (k, x) :: r => by
  have ih := Jqv f v r
  rw [show Jm6 f v ((k, x) :: r) = (if k = f then (k, v) :: r else (k, x) :: Jm6 f v r) from rfl]
  by_cases hk : k = f
  ·rw [if_pos hk, List.length_cons, List.length_cons]; omega
  ·rw [if_neg hk, List.length_cons, List.length_cons]; omega
theorem RelO.some_of {v : V} {o : Option Value} (r : RelO (some v) o) : ∃ u, o = some u ∧ RelV v u := by
 cases o with
 | none => exact (show False from r).elim
 | some u => exact ⟨u, rfl, r⟩
theorem RelO.none_of {o : Option Value} (r : RelO none o) : o = none := by
 cases o with
 | none => rfl
 | some u => exact (show False from r).elim
theorem Jti {v : V} {u : Value} (r : RelV v u) : PySem.W.handedIn u = true := by
 cases v with
 | non => cases (show u = Value.none from r); rfl
 | bl b => cases (show u = Value.bool b from r); rfl
 | int i => obtain ⟨t, e⟩ := (show ∃ t, u = Value.int i t from r); cases e; rfl
 | str x => obtain ⟨t, e⟩ := (show ∃ t, u = Value.str x t from r); cases e; rfl
 | byt b => obtain ⟨t, e⟩ := (show ∃ t, u = Value.bytes b t from r); cases e; rfl
 | flt b => obtain ⟨t, e⟩ := (show ∃ t, u = Value.float b t from r); cases e; rfl
 | ref a => cases (show u = Value.ref a from r); rfl
 | ty n => cases (show u = Value.type n from r); rfl
section
variable {P : Program} {w : World} {H H' : Hp} {h h' : Heap} {a C dx : Addr} {fs fs' : List (Str × V)}
theorem Jrc (hok : HOk P w H h) (e : H a = some (.ins C dx fs)) : ∃ mA, ObjM h a dx C mA ∧ (∀ f, RelO (fs.lookup f) (mA f)) ∧ PySem.Within mA (fs.map (·.1)) ∧ fs.length ≤ 1000 ∧ H dx = some (.own a) := by
 obtain ⟨d, z, ne, ob, mA, n, r, q⟩ := (show ObjOk P w H h a (.ins C dx fs) from hok a _ e)
 exact ⟨mA, ⟨ob, n, ne⟩, r, q, z, d⟩
end
structure Cls (K : PySem.W.Frag) (C : Addr) : Prop where
 pg : PySem.W.plainGet K C Str.empty = true
 hd : PySem.W.hasDictIn K C = true
 po : PySem.W.plainOver K C = true
 sa : PySem.W.findIn K (.ref C) "__setattr__" = some (some (.builtin "object.__setattr__"))
theorem Cls.get {K : PySem.W.Frag} {C : Addr} (c : Cls K C) (f : Str) : PySem.W.plainGet K C f = true := c.pg
def NoAttr (K : PySem.W.Frag) (C : Addr) (f : Str) : Prop := PySem.W.findIn K (.ref C) f = some none
theorem NoAttr.taker {K : PySem.W.Frag} {C : Addr} {f : Str} (n : NoAttr K C f) : PySem.W.takerIn K C f = some none := by
 unfold PySem.W.takerIn
 rw [show PySem.W.findIn K (.ref C) f = some none from n]
 rfl
structure Con (K : PySem.W.Frag) (C : Addr) (f : Str) (v : V) (u : Value) : Prop where
 at_ : PySem.W.findIn K (.ref C) f = some (some u)
 rel : RelV v u
 get : PySem.W.specialIn K u "__get__" = some none
 cp : PySem.W.copiedNames.contains f = false
structure Jmr (K : PySem.W.Frag) (C : Addr) (m : Str) (f : Addr) : Prop where
 at_ : PySem.W.findIn K (.ref C) m = some (some (.ref f))
 fn : PySem.W.isFn K (.ref f) = true
 kp : PySem.W.keepIn K (.ref f) = true
section
variable {X : Cx} {pins : List (Addr × Obj)} {σ : St} {H : Hp} {s : Shared} {a C dx : Addr} {fs : List (Str × V)} {f : Str} {v : V} {A : Around} {E : Value → Shared → Prop}
theorem Jvr {b : Bool} {Q : Value → Shared → Prop} (I : Inv X pins σ H s) (e : H a = some (.ins C dx fs)) (c : Cls X.K C) (n : NoAttr X.K C f) (l : fs.lookup f = some v)
  (h : ∀ u s', Inv X pins σ H s' → RelV v u → Q u s') : wpAny (model X.prog X.w) A (getAttr (.ref a) f b) Q E s := by
 obtain ⟨mA, O, r, _, _, _⟩ := Jrc I.hok e
 obtain ⟨u, hu, ru⟩ := RelO.some_of (v := v) (o := mA f) (by rw [← l]; exact r f)
 exact Ym I.kIn O (c.get f) c.hd n hu (Jti ru) (h u _ (I.tok _) ru)
theorem Jrr {m : Str} {g : Addr} {pl : Sem Bool} {Q : Value × List Value → Shared → Prop} (I : Inv X pins σ H s) (e : H a = some (.ins C dx fs)) (c : Cls X.K C) (k : Jmr X.K C m g) (l : fs.lookup m = none)
  (h : Q (.ref g, [.ref a]) s) : wpAny (model X.prog X.w) A (getMethod (.ref a) m pl) Q E s := by
 obtain ⟨mA, O, r, _, _, _⟩ := Jrc I.hok e
 have hn : mA m = none := RelO.none_of (by rw [← l]; exact r m)
 exact Jyv I.kIn O (c.get m) k.at_ k.fn hn h
theorem Jwe {y : V} {u : Value} {Q : Unit → Shared → Prop} (I : Inv X pins σ H s) (e : H a = some (.ins C dx fs)) (c : Cls X.K C) (n : NoAttr X.K C f) (hl : fs.length < 1000) (ry : RelV y u)
  (h : ∀ s', Inv X pins σ (upd H a (.ins C dx (Jm6 f y fs))) s' → Q () s') : wpAny (model X.prog X.w) A (setAttr (.ref a) f u) Q E s := by
 obtain ⟨mA, O, r, wi, _, ho⟩ := Jrc I.hok e
 have hz : (fs.map (·.1)).length ≤ sizeLine := by rw [List.length_map, sizeLine_eq]; omega
 refine Ya7 I.kIn O c.sa c.po n.taker c.hd wi hz fun h' O' sb => h _ ?_
 have hd : ∃ o, h'.get? dx = some o := let ⟨o, _, _, e', _⟩ := O'.ns; ⟨o, e'⟩
 refine I.write (x := a) (e := dx) (by rw [e]; exact True.intro) (.inr ho) (fun b q hb z => (sb.2 b hb).trans z) hd ?_
 refine ⟨by rw [Jkv O.ne]; exact ho, ?_, O.ne, O'.obj, _, O'.ns, fun g => ?_, fun g hg => ?_⟩
 ·have := Jqv f y fs; omega
 ·show RelO ((Jm6 f y fs).lookup g) (if g = f then some u else mA g)
  rw [Jqw]
  by_cases q : g = f
  ·rw [if_pos q, if_pos q]; exact ry
  ·rw [if_neg q, if_neg q]; exact r g
 ·by_cases q : g = f
  ·rw [q]; exact (Jqe f y fs).1
  ·refine (Jqe f y fs).2 g (wi g fun z => hg ?_)
   show (if g = f then some u else mA g) = none
   rw [if_neg q]; exact z
theorem Inv.made (I : Inv X pins σ H s) : Inv X pins σ (upd (upd H s.heap.objs.size (.own (s.heap.objs.size + 1))) (s.heap.objs.size + 1) (.ins C s.heap.objs.size []))
  { s with heap := (s.heap.push PySem.W.emptyDict).push (PySem.W.instObj C s.heap.objs.size) } := by
 have e1 : (s.heap.push PySem.W.emptyDict).get? s.heap.objs.size = some PySem.W.emptyDict := Heap.get?_push_size s.heap rfl
 have e2 : ((s.heap.push PySem.W.emptyDict).push (PySem.W.instObj C s.heap.objs.size)).get? (s.heap.objs.size + 1) = some (PySem.W.instObj C s.heap.objs.size) := by
  have := Heap.get?_push_size (s.heap.push PySem.W.emptyDict) (o := PySem.W.instObj C s.heap.objs.size) rfl
  rwa [Heap.size_push] at this
 have e3 : (s.heap.push PySem.W.emptyDict).Ns s.heap.objs.size (fun _ => none) := ⟨PySem.W.emptyDict, #[], _, e1, rfl, (fun e he => absurd he (by simp)), fun _ => rfl⟩
 have I1 := I.laid (a := s.heap.objs.size) (o := .own (s.heap.objs.size + 1)) (h' := s.heap.push PySem.W.emptyDict) (t' := s.toks) (fun b u q => Heap.get?_push_of_some _ q) (Nat.le_refl _) ⟨_, e1⟩
 refine I1.laid (a := s.heap.objs.size + 1) (o := .ins C s.heap.objs.size []) (t' := s.toks) (fun b u q => Heap.get?_push_of_some _ q) (Nat.le_of_eq (Heap.size_push _ _)) ?_
 have ne : s.heap.objs.size ≠ s.heap.objs.size + 1 := Nat.ne_of_lt (Nat.lt_succ_self _)
 refine ⟨by rw [Jkv ne, Jko], Nat.zero_le _, ne, e2, fun _ => none, (Heap.Ns1.of_empty e3).at fun o q => Heap.get?_push_of_some _ q, fun _ => True.intro, fun y hy => absurd rfl hy⟩
theorem Jwq {prog : Program} {w : World} {env : Env} {e : Expr} {f : Str} {pos : Pos} {s : Shared} {Q : Value → Shared → Prop} (hb : attributeBase e f env (eval e env) = eval e env)
  (h : wpAny (model prog w) A (eval e env) (fun o s₁ => wpAny (model prog w) A (getAttr o f true) Q E s₁) E s) : wpAny (model prog w) A (eval (.Attribute e f pos) env) Q E s :=
 Attribute_any_ h (by rw [arm_eval_Attribute, hb])
end
def tFld (K : PySem.W.Frag) (ta : TE) (f : Str) : TE := fun σ H Q => ta σ H fun x H1 => ∃ a C dx fs v, x = .ref a ∧ H1 a = some (.ins C dx fs) ∧ Cls K C ∧ NoAttr K C f ∧ fs.lookup f = some v ∧ Q v H1
def sFld (K : PySem.W.Frag) (ta tv : TE) (f : Str) : TS := fun D σ H => tv σ H fun y H1 => ta σ H1 fun x H2 => ∃ a C dx fs, x = .ref a ∧ H2 a = some (.ins C dx fs) ∧ Cls K C ∧ NoAttr K C f ∧ fs.length < 1000 ∧
 D.nx σ (upd H2 a (.ins C dx (Jm6 f y fs)))
section
variable {X : Cx} {o e value : Expr} {f : Str} {pos pos' tpos : Pos} {ta tv : TE}
theorem Jlg (he : PE X e ta) (hb : attributeBase e f X.env (eval e X.env) = eval e X.env) : PE X (.Attribute e f pos) (tFld X.K ta f) := by
 intro pins s σ H Q I h
 refine Jwq hb (thn (he pins s σ H _ I h) fun u s1 ⟨x, H1, I1, rx, a, C, dx, fs, v, ex, ea, c, n, l, q⟩ => ?_)
 subst ex
 obtain rfl : u = Value.ref a := rx
 exact Jvr I1 ea c n l fun u' s2 I2 ru => ⟨v, H1, I2, ru, q⟩
theorem Jlu (ha : PE X o ta) (hv : PE X value tv) (hs : swapsWith value (some (.Attribute o f pos')) pos.line X.env = pure false) : PS X (.Assign [.Attribute o f pos'] value pos) (sFld X.K ta tv f) := by
 intro pins s σ H D I h
 refine plainObj_wpAny_Assign_Attribute (thn (hv pins s σ H _ I h) fun u s1 ⟨y, H1, I1, ry, q⟩ => thn (ha pins s1 σ H1 _ I1 q) fun ov s2 ⟨x, H2, I2, rx, a, C, dx, fs, ex, ea, c, n, l, q2⟩ => ?_) hs
 subst ex
 obtain rfl : ov = Value.ref a := rx
 exact Jwe I2 ea c n l ry fun s3 I3 => ⟨σ, _, I3, q2⟩
end
section
variable {X : Cx} {pins : List (Addr × Obj)} {σ : St} {H : Hp} {s : Shared} {A : Around} {E : Value → Shared → Prop} {Q : Value → Shared → Prop} {c : Value} {b : Bool}
inductive Jq7 (K : PySem.W.Frag) (H : Hp) : V → Value → Prop where
 | non : Jq7 K H .non (.type "NoneType")
 | bl (x : Bool) : Jq7 K H (.bl x) (.type "bool")
 | int (i : Int) : Jq7 K H (.int i) (.type "int")
 | str (x : Str) : Jq7 K H (.str x) (.type "str")
 | flt (x : UInt64) : Jq7 K H (.flt x) (.type "float")
 | lst {a : Addr} {xs : List V} (e : H a = some (.lst xs)) : Jq7 K H (.ref a) (.type "list")
 | frz {a : Addr} {o : Obj} {xs : List V} (e : H a = some (.frz o (.lst xs))) : Jq7 K H (.ref a) (.type "list")
 | tup {a : Addr} {xs : List V} (e : H a = some (.tup xs)) : Jq7 K H (.ref a) (.type "tuple")
 | dK {a : Addr} {kvs : List (Key × V)} (e : H a = some (.dK kvs)) : Jq7 K H (.ref a) (.type "dict")
 | dT {a : Addr} {kvs : List (List Key × V)} (e : H a = some (.dT kvs)) : Jq7 K H (.ref a) (.type "dict")
 | ins {a C dx : Addr} {fs : List (Str × V)} (e : H a = some (.ins C dx fs)) (cl : Cls K C) (ha : PySem.W.findIn K (.ref C) "__class__" = some (some (.builtin "object.__class__")))
   (hn : PySem.W.specialIn K (.builtin "object.__class__") "__get__" = some (some (.builtin "getset_descriptor.__get__"))) (htk : PySem.W.takesIn K (.builtin "object.__class__") = some true)
   (hm : PySem.W.mroIn K C (.type "object") = some true) : Jq7 K H (.ref a) (.ref C)
end
end L2
namespace L2
open PySem PySem.Spec PyProof.Rows
structure Room (k : Nat) (A : Around) : Prop where
 hd : A.handled = none
 dp : A.depth + 3 * k + 5 < recursionLimit
 un : A.units + 16 * k + 200 < cLine
theorem Room.mono {j k : Nat} {A : Around} (r : Room k A) (h : j ≤ k) : Room j A := ⟨r.hd, by have := r.dp; omega, by have := r.un; omega⟩
theorem Room.deeper {k : Nat} {A : Around} (r : Room (k + 1) A) (env : Env) : Room k (A.deeper env) :=
 ⟨r.hd, by have := r.dp; show A.depth + 1 + 3 * k + 5 < _; omega, by have := r.un; show A.units + 3 + 16 * k + 200 < _; omega⟩
theorem Jvt {A : Around} {C : Addr} {us : List Value} {kw : List (Str × Value)} : (A.under (.builtin "type.__call__" ⟨.ref C :: us, kw⟩)).depth = A.depth + 1 := by
 first | rfl | simp [Around.under, Code.weight, Code.isCreation, Code.isGuard, Code.isCaller, Code.frames, Code.isFrame, guardIds]
theorem Jvu {A : Around} {C : Addr} {us : List Value} {kw : List (Str × Value)} : (A.under (.builtin "type.__call__" ⟨.ref C :: us, kw⟩)).units = A.units + 1 := by
 first | rfl | simp [Around.under, Code.cUnits, Code.frames, Code.isFrame]
theorem Room.make {k : Nat} {A : Around} (r : Room (k + 1) A) (C : Addr) (us : List Value) (kw : List (Str × Value)) : Room k (A.under (.builtin "type.__call__" ⟨.ref C :: us, kw⟩)) :=
 ⟨r.hd, by have := r.dp; rw [Jvt]; omega, by have := r.un; rw [Jvu]; omega⟩
theorem Room.depth {k : Nat} {A : Around} (r : Room k A) : A.depth < recursionLimit := by have := r.dp; omega
def Jur : TA := fun _ H Q => Q [] H
def Jmb (ta : TE) (tr : TA) : TA := fun σ H Q => ta σ H fun x H1 => tr σ H1 fun xs H2 => Q (x :: xs) H2
section
variable {X : Cx} {e : Expr} {es : List Expr} {te : TE} {t : TA} {pos : Pos}
theorem Jkp : PA X [] Jur := fun _ _ _ _ H Q I h => Calls.spliced_nil ⟨[], H, I, .nil, h⟩
theorem Jkn (ha : PE X e te) (hr : PA X es t) (hs : starEach (e :: es) X.env = (false, eval e X.env) :: starEach es X.env := by rfl) : PA X (e :: es) (Jmb te t) := by
 intro pos pins s σ H Q I h
 rw [hs]
 show wpAny _ _ (spliced ((false, eval e X.env) :: backTo pos (starEach es X.env))) _ _ s
 refine Calls.spliced_cons (thn (ha pins s σ H _ I h) fun u s1 ⟨x, H1, I1, r1, q1⟩ => ?_)
 exact thn (hr pos pins s1 σ H1 _ I1 q1) fun us s2 ⟨xs, H2, I2, r2, q2⟩ => ⟨x :: xs, H2, I2, .cons r1 r2, q2⟩
def tTup (t : TA) : TE := fun σ H Q => t σ H fun xs H1 => xs.length ≤ sizeLine ∧ ∀ p, H1 p = none → Q (.ref p) (upd H1 p (.tup xs))
def tLst (t : TA) : TE := fun σ H Q => t σ H fun xs H1 => xs.length ≤ sizeLine ∧ ∀ p, H1 p = none → Q (.ref p) (upd H1 p (.lst xs))
theorem Jm8 {x1} (h : PA X es t) : PE X (.Tuple es x1 pos) (tTup t) := by
 intro pins s σ H Q I hq
 refine wpAny_Tuple_spliced (thn (h pos pins s σ H _ I hq) fun us s1 ⟨xs, H1, I1, r, z, q⟩ => ⟨by rw [← r.length]; exact z, ?_⟩)
 have hf : H1 s1.heap.objs.size = none := I1.hok.fresh (Nat.le_refl _)
 refine ⟨.ref s1.heap.objs.size, upd H1 s1.heap.objs.size (.tup xs), I1.laid (t' := s1.toks) (fun b u e => Heap.get?_push_of_some _ e) (Nat.le_refl _) ?_, rfl, q _ hf⟩
 exact ⟨z, us, r, ⟨_, Heap.get?_push_size _ rfl, rfl, _, rfl⟩⟩
theorem Jmh (h : PA X es t) : PE X (.List es pos) (tLst t) := by
 intro pins s σ H Q I hq
 refine wpAny_List_spliced (thn (h pos pins s σ H _ I hq) fun us s1 ⟨xs, H1, I1, r, z, q⟩ => ⟨by rw [← r.length]; exact z, ?_⟩)
 have hf : H1 s1.heap.objs.size = none := I1.hok.fresh (Nat.le_refl _)
 refine ⟨.ref s1.heap.objs.size, upd H1 s1.heap.objs.size (.lst xs), I1.laid (t' := s1.toks) (fun b u e => Heap.get?_push_of_some _ e) (Nat.le_refl _) ?_, rfl, q _ hf⟩
 exact ⟨z, us, 0, r, Heap.get?_push_size _ rfl⟩
end
abbrev Sp := List V → Hp → VK → XK → Prop
abbrev CXT := List Env → Hp → Shared → XK → Value → Shared → Prop
structure Env0 (P : Program) (w : World) (K : PySem.W.Frag) (mg : Str → Option Value) (base : Heap) (A : Around) (outer : List Env) (s : Shared) (H : Hp) : Prop where
 frames : A.frames = some outer
 mod : Mod K mg base
 bs : ∀ b o, base.get? b = some o → s.heap.get? b = some o ∧ H b = none
 bsz : base.objs.size ≤ s.heap.objs.size
 funs : s.heap.FunFrames base outer
 frf : ∀ b ∈ frs outer, H b = none
 hok : HOk P w H s.heap
 bare : AllBare s.gens
def CE (outer : List Env) (P : Program) (w : World) (H : Hp) (s : Shared) (Q : VK) (u : Value) (s' : Shared) : Prop :=
 ∃ v H', s'.os = s.os ∧ AllBare s'.gens ∧ Un (frs outer) [] H H' s.heap s'.heap ∧ HOk P w H' s'.heap ∧ RelV v u ∧ Q v H'
def CR (CX : CXT) (outer : List Env) (P : Program) (w : World) (H : Hp) (s : Shared) (Q : VK) (E : XK) (r : Result) (s' : Shared) : Prop :=
 match r with
 | .ok (.ret u) => CE outer P w H s Q u s'
 | .ok _ => False
 | .error e => CX outer H s E e s'
structure FnOk (P : Program) (w : World) (K : PySem.W.Frag) (mg : Str → Option Value) (base : Heap) (CX : CXT) (k : Nat) (f : Addr) (fd : FuncData) (ps : List Str) (sp : Sp) : Prop where
 len : ∀ vs H Q E, sp vs H Q E → vs.length = ps.length
 run : ∀ (A : Around) (outer : List Env) (s : Shared) (H : Hp) (args : Args) (us : List Value) (vs : List V) (Q : VK) (E : XK), Room k A → Env0 P w K mg base A outer s H → BindsTo s fd args (ps.zip us) → Vals vs us → sp vs H Q E →
  codeAny (model P w) A (.call (.ref f) args) (CR CX outer P w H s Q E) s
theorem Env0.make {P : Program} {w : World} {K : PySem.W.Frag} {mg : Str → Option Value} {base : Heap} {A : Around} {outer : List Env} {s : Shared} {H : Hp} (e : Env0 P w K mg base A outer s H) (C : Addr) (us : List Value) (kw : List (Str × Value)) :
  Env0 P w K mg base (A.under (.builtin "type.__call__" ⟨.ref C :: us, kw⟩)) outer s H := ⟨by first | exact e.frames | (simpa [Around.under, Code.envs, Code.isFrame, pushEnvs] using e.frames), e.mod, e.bs, e.bsz, e.funs, e.frf, e.hok, e.bare⟩
section
variable {X : Cx} {pins : List (Addr × Obj)} {σ : St} {H : Hp} {s s' : Shared}
theorem Inv.env0 (I : Inv X pins σ H s) : Env0 X.prog X.w X.K X.mg X.base X.A X.stack s H :=
 ⟨I.ok.frames, I.ok.mod, I.bs, Nat.le_trans I.ok.bsz I.sz, I.stack, I.stkFree, I.hok, I.bare⟩
theorem Inv.after {Q : VK} {u : Value} (I : Inv X pins σ H s) (h : CE X.stack X.prog X.w H s Q u s') : EP X pins σ Q u s' := by
 obtain ⟨v, H', os, bare, un, hok, r, q⟩ := h
 obtain ⟨hh, g, d, t, os'⟩ := s'
 obtain rfl : os' = s.os := os
 exact ⟨v, H', I.call (h' := hh) (g' := g) (d' := d) (t' := t) (ch := []) un hok bare (fun b z => absurd z (by simp)), r, q⟩
end
def Jzz (sp : Sp) (dvs : List V) (E : XK) (t : TA) : TE := fun σ H Q => t σ H fun vs H1 => sp (vs ++ dvs) H1 Q E
def tMake (C : Addr) (sp : Sp) (dvs : List V) (E : XK) (t : TA) : TE := fun σ H Q => t σ H fun vs H1 => ∀ x dx, H1 x = none → H1 dx = none → dx ≠ x →
 sp (.ref x :: (vs ++ dvs)) (upd (upd H1 dx (.own x)) x (.ins C dx [])) (fun v H2 => v = .non ∧ Q (.ref x) H2) E
def Binds (K : PySem.W.Frag) (fd : FuncData) (ps : List Str) (ds : List Value) : Prop :=
 ∀ (s : Shared) (us : List Value), K.In s.heap → (us ++ ds).length = ps.length → BindsTo s fd ⟨us, []⟩ (ps.zip (us ++ ds))
theorem Binds.all {K : PySem.W.Frag} {fd : FuncData} {ps : List Str} (h : ∀ us : List Value, us.length = ps.length → bindArgs fd ⟨us, []⟩ = pure (ps.zip us)) : Binds K fd ps [] := fun s us _ hl => by
 rw [List.append_nil] at hl ⊢
 exact .of_eq (h us hl)
def Jrf (CX : CXT) (X : Cx) (E : XK) : Prop := ∀ (pins : List (Addr × Obj)) (σ : St) (H : Hp) (s : Shared) (e : Value) (s' : Shared), Inv X pins σ H s → CX X.stack H s E e s' → X.xe e s'
section
variable {X : Cx} {CX : CXT} {k : Nat} {f C : Addr} {fd : FuncData} {ps : List Str} {sp : Sp} {dvs : List V} {ds : List Value} {E : XK} {x m : Str} {p pos apos : Pos} {e o : Expr} {es : List Expr} {ta : TE} {t : TA}
theorem Jw7 {pins : List (Addr × Obj)} {σ : St} {H : Hp} {s : Shared} {Q : VK} {us : List Value} {vs : List V} (F : FnOk X.prog X.w X.K X.mg X.base CX k f fd ps sp) (hr : Room k X.A) (hb : Binds X.K fd ps ds) (hd : Vals dvs ds) (hx : Jrf CX X E)
  (I : Inv X pins σ H s) (r : Vals vs us) (h : sp (vs ++ dvs) H Q E) : wpAny (model X.prog X.w) X.A (call (.ref f) us) (EP X pins σ Q) X.xe s := by
 have r2 : Vals (vs ++ dvs) (us ++ ds) := r.append hd
 have hl : (us ++ ds).length = ps.length := by rw [← r2.length]; exact F.len _ _ _ _ h
 refine wpAny_call (codeAny_mono (F.run X.A X.stack s H ⟨us, []⟩ (us ++ ds) (vs ++ dvs) Q E hr I.env0 (hb s us I.kIn hl) r2 h) fun r s' hq => ?_)
 cases r with
 | error e => exact hx pins σ H s e s' I hq
 | ok fl =>
  cases fl with
  | ret u => exact I.after hq
  | next => exact False.elim hq
  | brk => exact False.elim hq
  | cont => exact False.elim hq
theorem Yw (F : FnOk X.prog X.w X.K X.mg X.base CX k f fd ps sp) (hr : Room k X.A) (hg : Gl X x) (hm : X.mg x = some (.ref f)) (hk : PySem.W.keepIn X.K (.ref f) = true) (hb : Binds X.K fd ps ds) (hd : Vals dvs ds) (hx : Jrf CX X E)
  (ha : PA X (e :: es) t) (hdb : (x == ("__debug__" : Str)) = false := by decide) (he : starEach (e :: es) X.env = (false, eval e X.env) :: starEach es X.env := by rfl) (hpl : (backTo pos (starEach es X.env)).any (·.1) = false := by rfl) :
  PE X (.Call (.Name x p) (e :: es) [] pos) (Jzz sp dvs E t) := by
 intro pins s σ H Q I h
 refine wpAny_Call_Name_kw (Jny I hg hm ?_ hdb)
 refine PySem.W.callWith_K (h₀ := X.base) I.ok.mod.kin hk (thn (ha pos pins s σ H _ I h) fun us s1 ⟨vs, H1, I1, r, q⟩ => ⟨I1.kIn, ?_⟩) he hpl
 exact Jw7 F hr hb hd hx I1 r q
structure Mk (K : PySem.W.Frag) (C f : Addr) : Prop where
 makes : PySem.W.makesIn K C = true
 init : PySem.W.findIn K (.ref C) "__init__" = some (some (.ref f))
 fn : PySem.W.isFn K (.ref f) = true
 kp : PySem.W.keepIn K (.ref C) = true
theorem Jzf {pins : List (Addr × Obj)} {σ : St} {H : Hp} {s : Shared} {Q : VK} {us : List Value} {vs : List V} (M : Mk X.K C f) (F : FnOk X.prog X.w X.K X.mg X.base CX k f fd ps sp) (hr : Room (k + 1) X.A) (hb : Binds X.K fd ps ds) (hd : Vals dvs ds)
  (hx : Jrf CX X E) (I : Inv X pins σ H s) (r : Vals vs us)
  (h : ∀ x dx, H x = none → H dx = none → dx ≠ x → sp (.ref x :: (vs ++ dvs)) (upd (upd H dx (.own x)) x (.ins C dx [])) (fun v H2 => v = .non ∧ Q (.ref x) H2) E) :
  wpAny (model X.prog X.w) X.A (call (.ref C) us) (EP X pins σ Q) X.xe s := by
 have hq := h (s.heap.objs.size + 1) s.heap.objs.size (I.hok.fresh (Nat.le_succ _)) (I.hok.fresh (Nat.le_refl _)) (Nat.ne_of_lt (Nat.lt_succ_self _))
 have I2 := Inv.made (C := C) I
 have r2 : Vals (V.ref (s.heap.objs.size + 1) :: (vs ++ dvs)) (Value.ref (s.heap.objs.size + 1) :: (us ++ ds)) := .cons rfl (r.append hd)
 have hl : (Value.ref (s.heap.objs.size + 1) :: us ++ ds).length = ps.length := by
  have e := r2.length
  rw [F.len _ _ _ _ hq] at e
  exact e.symm
 refine wpAny_call (Jz5 (f := f) I.kIn M.makes M.init (beq_iff_eq.mp M.fn) (codeAny_mono (F.run _ X.stack _ _ ⟨Value.ref (s.heap.objs.size + 1) :: us, []⟩ (Value.ref (s.heap.objs.size + 1) :: (us ++ ds)) _ _ E (hr.make C us [])
  (I2.env0.make C us []) (hb _ (Value.ref (s.heap.objs.size + 1) :: us) I2.kIn hl) r2 hq) fun r s' hq' => ?_))
 cases r with
 | error e => exact hx pins σ _ _ e s' I2 hq'
 | ok fl =>
  cases fl with
  | ret u =>
   obtain ⟨v, H', I3, rv, ev, q3⟩ := I2.after hq'
   subst ev
   exact ⟨rv, ⟨V.ref (s.heap.objs.size + 1), H', I3, rfl, q3⟩⟩
  | next => exact False.elim hq'
  | brk => exact False.elim hq'
  | cont => exact False.elim hq'
theorem Jnl (M : Mk X.K C f) (F : FnOk X.prog X.w X.K X.mg X.base CX k f fd ps sp) (hr : Room (k + 1) X.A) (hg : Gl X x) (hm : X.mg x = some (.ref C)) (hb : Binds X.K fd ps ds) (hd : Vals dvs ds) (hx : Jrf CX X E)
  (ha : PA X (e :: es) t) (hdb : (x == ("__debug__" : Str)) = false := by decide) (he : starEach (e :: es) X.env = (false, eval e X.env) :: starEach es X.env := by rfl) (hpl : (backTo pos (starEach es X.env)).any (·.1) = false := by rfl) :
  PE X (.Call (.Name x p) (e :: es) [] pos) (tMake C sp dvs E t) := by
 intro pins s σ H Q I h
 refine wpAny_Call_Name_kw (Jny I hg hm ?_ hdb)
 refine PySem.W.callWith_K (h₀ := X.base) I.ok.mod.kin M.kp (thn (ha pos pins s σ H _ I h) fun us s1 ⟨vs, H1, I1, r, q⟩ => ⟨I1.kIn, ?_⟩) he hpl
 exact Jzf M F hr hb hd hx I1 r q
end
section
variable {X : Cx} {CX : CXT} {k : Nat} {f C : Addr} {fd : FuncData} {ps ks : List Str} {sp : Sp} {E : XK} {x m : Str} {p pos apos kpos : Pos} {e o : Expr} {es : List Expr} {kws : List Keyword} {te ta : TE} {t tk : TA} {nm : Option Str}
structure KBinds (K : PySem.W.Frag) (fd : FuncData) (ps ks : List Str) (g : List Value → List Value → List Value) (gV : List V → List V → List V) : Prop where
 to : ∀ (s : Shared) (us ws : List Value), K.In s.heap → (g us ws).length = ps.length → BindsTo s fd ⟨us, ks.zip ws⟩ (ps.zip (g us ws))
 rel : ∀ {vs : List V} {us : List Value} {zs : List V} {ws : List Value}, Vals vs us → Vals zs ws → Vals (gV vs zs) (g us ws)
variable {g : List Value → List Value → List Value} {gV : List V → List V → List V}
end
structure Jky (N P : List Str) (sc : Scope) : Prop where
 kind : sc.kind = .function
 co : sc.isCoroutine = false
 gen : sc.isGenerator = false
 nd : N.Nodup
 pre : N.take P.length = P
 par : ∀ x ∈ P, sc.names.lookup x = some .local ∨ sc.names.lookup x = some .cell
 nofree : ∀ y ∈ sc.names, y.2 ≠ .free
theorem Jtc {kindOf : Str → Option NameKind} {x : Str} : ∀ {binds : List (Str × Value)} {m : Str → Option Value}, (∀ v, (x, v) ∉ binds) → bindL kindOf binds m x = m x
 | [], _, _ => rfl
 | (n, v) :: r, m, h => by
  unfold bindL
  rw [Jtc fun w hw => h w (List.mem_cons_of_mem _ hw)]
  split
  ·have : x ≠ n := by rintro rfl; exact h v List.mem_cons_self
   simp [this]
  ·rfl
theorem Jta {kindOf : Str → Option NameKind} {x : Str} : ∀ {binds : List (Str × Value)} {m : Str → Option Value}, (∀ v, (x, v) ∉ binds) → bindC kindOf binds m x = m x
 | [], _, _ => rfl
 | (n, v) :: r, m, h => by
  unfold bindC
  rw [Jta fun w hw => h w (List.mem_cons_of_mem _ hw)]
  split
  ·rfl
  ·have : x ≠ n := by rintro rfl; exact h v List.mem_cons_self
   simp [this]
theorem Jtb {kindOf : Str → Option NameKind} {x : Str} {v : Value} : ∀ {P : List Str} {vs : List Value} {i : Nat} {m : Str → Option Value}, P.Nodup → P[i]? = some x → vs[i]? = some v → kindOf x = some .local →
  bindL kindOf (P.zip vs) m x = some v
 | [], _, _, _, _, h, _, _ => by simp at h
 | _ :: _, [], _, _, _, _, h, _ => by simp at h
 | p :: P, w :: vs, 0, m, nd, h1, h2, hk => by
  simp at h1 h2; subst h1; subst h2
  show bindL kindOf ((p, w) :: P.zip vs) m p = _
  unfold bindL
  rw [Jtc fun v hv => (List.nodup_cons.mp nd).1 (List.of_mem_zip hv).1, if_pos hk]
  simp
 | p :: P, w :: vs, i + 1, m, nd, h1, h2, hk => by
  show bindL kindOf ((p, w) :: P.zip vs) m x = _
  unfold bindL
  exact Jtb (i := i) (List.nodup_cons.mp nd).2 (by simpa using h1) (by simpa using h2) hk
theorem Jt9 {kindOf : Str → Option NameKind} {x : Str} {v : Value} : ∀ {P : List Str} {vs : List Value} {i : Nat} {m : Str → Option Value}, P.Nodup → P[i]? = some x → vs[i]? = some v → kindOf x ≠ some .local →
  bindC kindOf (P.zip vs) m x = some v
 | [], _, _, _, _, h, _, _ => by simp at h
 | _ :: _, [], _, _, _, _, h, _ => by simp at h
 | p :: P, w :: vs, 0, m, nd, h1, h2, hk => by
  simp at h1 h2; subst h1; subst h2
  show bindC kindOf ((p, w) :: P.zip vs) m p = _
  unfold bindC
  rw [Jta fun v hv => (List.nodup_cons.mp nd).1 (List.of_mem_zip hv).1, if_neg hk]
  simp
 | p :: P, w :: vs, i + 1, m, nd, h1, h2, hk => by
  show bindC kindOf ((p, w) :: P.zip vs) m x = _
  unfold bindC
  exact Jt9 (i := i) (List.nodup_cons.mp nd).2 (by simpa using h1) (by simpa using h2) hk
def start (N : List Str) (vs : List V) : St := vs.map some ++ List.replicate (N.length - vs.length) none
def Jrq (CX : CXT) (P : Program) (w : World) (K : PySem.W.Frag) (mg : Str → Option Value) (base : Heap) (N : List Str) (qual : Str) (scope : Scope) (f : Addr) (cd : Value) (A : Around) (outer : List Env) (s : Shared) (H : Hp) (E : XK) : Cx where
 prog := P
 w := w
 K := K
 mg := mg
 base := base
 A := A.deeper (envOfC qual scope s.heap.objs.size f cd)
 N := N
 s₀ := s
 H₀ := H
 env := envOfC qual scope s.heap.objs.size f cd
 outer := outer
 stack := envOfC qual scope s.heap.objs.size f cd :: outer
 ex := []
 calm := true
 fn := fun _ => true
 pn := []
 xe := fun e s' => wpAny (model P w) (A.deeper (envOfC qual scope s.heap.objs.size f cd)) (leaving (envOfC qual scope s.heap.objs.size f cd) e) (fun _ s'' => CX outer H s E e s'') (fun e' s'' => CX outer H s E e' s'') s'
theorem Juz {sc : Scope} {n : Nat} {x : Str} (h : sc.names.lookup x = some .cell) : ∃ c, (cellsFrom n sc.names []).lookup x = some c := by
 have q := PySem.W.cellsFrom_some sc.names n [] (.inl h)
 exact Option.isSome_iff_exists.mp q
theorem Jtl {CX : CXT} {P : Program} {w : World} {K : PySem.W.Frag} {mg : Str → Option Value} {base : Heap} {N ps : List Str} {qual : Str} {scope : Scope} {f : Addr} {cd : Value} {A : Around} {outer : List Env} {s s1 : Shared} {H : Hp} {E : XK} {us : List Value} {vs : List V}
  (S : Jky N ps scope) (hd : A.handled = none) (e0 : Env0 P w K mg base A outer s H) (hl : vs.length = ps.length) (r : Vals vs us)
  (x : InCallC s s.heap.objs.size (bindL (envOfC qual scope s.heap.objs.size f cd).kindOf (ps.zip us) fun _ => none) (cellsFrom (s.heap.objs.size + 1) scope.names []) (bindC (envOfC qual scope s.heap.objs.size f cd).kindOf (ps.zip us) fun _ => none) s1) :
  Inv (Jrq CX P w K mg base N qual scope f cd A outer s H E) [] (start N vs) H s1 := by
 have hpl : ps.length ≤ N.length := by have := congrArg List.length S.pre; rw [List.length_take] at this; omega
 obtain ⟨h1, tk, rfl, hk⟩ := x.done
 have noA : ∀ b : Addr, b ∉ (Jrq CX P w K mg base N qual scope f cd A outer s H E).ex := fun b z => absurd (show b ∈ ([] : List Addr) from z) (by simp)
 refine ⟨⟨e0.mod, S.kind, rfl, rfl, Nat.le_refl _, fun y z c h1 h2 => ?_, fun y hy => ?_, fun y c _ h => ?_, fun _ => hd, Around.frames_deeper e0.frames, .inr ⟨rfl, rfl⟩, fun b z => absurd z (noA b), e0.bs, e0.bsz, fun b _ _ => noA b, fun b z => absurd z (noA b), e0.funs, e0.frf⟩,
  rfl, e0.bare, Un.kept hk, ⟨_, x.toInCall.ns, fun i y v h1 h2 h3 => ?_⟩, fun y c h => ⟨_, x.cell y c h⟩, e0.hok.fresh (Nat.le_refl _), fun y c h => ?_, fun p hp => absurd (show p ∈ ([] : List (Addr × Obj)) from hp) (by simp), e0.hok.kept hk, ?_⟩
 ·exact name_of_addr x.apart (PySem.mem_of_lookup h1) (PySem.mem_of_lookup h2)
 ·have hy : scope.names.lookup y = some .cell ∨ scope.names.lookup y = some .free := hy
  rcases hy with hy | hy
  ·exact Juz hy
  ·exact absurd rfl (S.nofree _ (PySem.mem_of_lookup hy))
 ·exact Nat.le_of_lt (x.above y c (PySem.mem_of_lookup h))
 ·have hi : i < vs.length := by
   unfold start at h2
   by_cases hi : i < vs.length
   ·exact hi
   ·rw [List.getElem?_append_right (by simpa using hi)] at h2
    rw [List.getElem?_replicate] at h2
    split at h2 <;> cases h2
  have ha : vs[i]? = some v := by
   unfold start at h2
   rw [List.getElem?_append_left (by simpa using hi), List.getElem?_map] at h2
   cases e : vs[i]? with
   | none => rw [e] at h2; cases h2
   | some a => rw [e] at h2; cases h2; rfl
  obtain ⟨u, hu, rv⟩ := r.get ha
  have hp : ps[i]? = some y := by
   rw [← S.pre, List.getElem?_take_of_lt (by omega)]; exact h1
  have ndP : ps.Nodup := by rw [← S.pre]; exact S.nd.sublist (List.take_sublist _ _)
  refine ⟨u, rv, ?_⟩
  rcases S.par y (List.mem_of_getElem? hp) with k | k
  ·exact .inl ⟨k, Jtb ndP hp hu k⟩
  ·obtain ⟨c, e⟩ := Juz (n := s.heap.objs.size + 1) k
   refine .inr ⟨.inl k, c, e, ?_⟩
   have q := x.cell y c e
   rw [Jt9 ndP hp hu (by show scope.names.lookup y ≠ _; rw [k]; decide)] at q
   exact q
 ·exact e0.hok.fresh (Nat.le_of_lt (x.above y c (PySem.mem_of_lookup h)))
 ·unfold start
  show _ = N.length
  rw [List.length_append, List.length_map, List.length_replicate]
  omega
theorem fn_of {CX : CXT} {P : Program} {w : World} {K : PySem.W.Frag} {mg : Str → Option Value} {base : Heap} {k : Nat} {f : Addr} {name qual : Str} {params : Arguments} {body : List Stmt} {scope : Scope} {dV kV doc pm cdv ct oc : Value} {an od : Option Addr}
  {osl : Array (Option Value)} {N ps : List Str} {sp : Sp} (lk : K.lookup f = some ⟨oc, od, .func (PySem.W.fnOf name qual params body scope dV kV doc pm an cdv ct), osl⟩) (hcd : PySem.W.codeIn K cdv qual = true) (S : Jky N ps scope)
  (len : ∀ vs H Q E, sp vs H Q E → vs.length = ps.length)
  (hbody : ∀ (A : Around) (outer : List Env) (s : Shared) (H : Hp) (vs : List V) (Q : VK) (E : XK), Room k (A.deeper (envOfC qual scope s.heap.objs.size f cdv)) → sp vs H Q E →
   ∃ t, PSs (Jrq CX P w K mg base N qual scope f cdv A outer s H E) body t ∧ t { nx := fun _ H' => Q .non H', rt := Q } (start N vs) H) :
  FnOk P w K mg base CX (k + 1) f (PySem.W.fnOf name qual params body scope dV kV doc pm an cdv ct) ps sp := by
 refine ⟨len, fun A outer s H args us vs Q E hr e0 hb r hsp => ?_⟩
 have hl := len _ _ _ _ hsp
 have KX : K.In s.heap := e0.mod.kin.keeps fun b o e => (e0.bs b o e).1
 have lim : s.heap.NoLimit := e0.mod.nolimit.keeps fun b o e => (e0.bs b o e).1
 have hkind : ∀ y ∈ ps.zip us, scope.names.lookup y.1 = some .local ∨ (scope.names.lookup y.1 = some .cell ∧ ((cellsFrom (s.heap.objs.size + 1) scope.names []).lookup y.1).isSome = true) := fun ⟨n, v⟩ hy => by
  rcases S.par n (List.of_mem_zip hy).1 with q | q
  ·exact .inl q
  ·exact .inr ⟨q, PySem.W.cellsFrom_some _ _ _ (.inl q)⟩
 refine codeAny_call_function hr.depth (KX _ _ lk) rfl S.co S.gen rfl (PySem.W.codeRec_of KX hcd) (hb _ _ _ _ ?_)
 refine wpAny_newFunctionEnv_cells S.kind hkind fun env he s1 x => ?_
 subst he
 refine ⟨lim.keeps x.toInCall.keep, codeAny_func ?_⟩
 obtain ⟨t, ht, hq⟩ := hbody A outer s H vs Q E (hr.deeper _) hsp
 have I : Inv (Jrq CX P w K mg base N qual scope f cdv A outer s H E) [] (start N vs) H s1 := Jtl S hr.hd e0 hl r x
 refine wpAny_mono (ht [] s1 (start N vs) H _ I hq) (fun fl s' hs => ?_) fun e s' hs => hs
 have fin : ∀ {σ' : St} {H' : Hp} {v : V} {u : Value}, Inv (Jrq CX P w K mg base N qual scope f cdv A outer s H E) [] σ' H' s' → RelV v u → Q v H' → CE outer P w H s Q u s' :=
  fun {σ' H' v u} J rv q => ⟨v, H', J.os, J.bare, J.base, J.hok, rv, q⟩
 cases fl with
 | ret u =>
  obtain ⟨v, σ', H', J, rv, q⟩ := hs
  exact fin J rv q
 | next =>
  obtain ⟨σ', H', J, q⟩ := hs
  exact fin (v := V.non) (u := Value.none) J rfl q
 | brk =>
  obtain ⟨_, _, _, q⟩ := hs
  exact False.elim q
 | cont =>
  obtain ⟨_, _, _, q⟩ := hs
  exact False.elim q
end L2
namespace L2
open PySem PySem.Spec PyProof.Rows
section
variable {X : Cx} {x : Str} {p pos : Pos} {e : Expr} {es : List Expr} {t : TA} {id T : String} {r : List V → Hp → VK → Prop}
def tCB (r : List V → Hp → VK → Prop) (t : TA) : TE := fun σ H Q => t σ H fun vs H1 => r vs H1 Q
theorem Jkz (hc : Jn3 X (.builtin id) r) (hg : Gl X x) (hm : X.mg x = none) (hv : bootBuiltins x = some (.builtin id)) (ha : PA X (e :: es) t) (hn : x ≠ "__name__" := by decide) (hdb : (x == ("__debug__" : Str)) = false := by decide)
  (he : starEach (e :: es) X.env = (false, eval e X.env) :: starEach es X.env := by rfl) (hpl : (backTo pos (starEach es X.env)).any (·.1) = false := by rfl) : PE X (.Call (.Name x p) (e :: es) [] pos) (tCB r t) := by
 intro pins s σ H Q I h
 refine wpAny_Call_Name_kw (Jnx I hg hm hv ?_ hn hdb)
 exact PyProof.Rows.callWith_builtin1 (thn (ha pos pins s σ H _ I h) fun us s1 ⟨vs, H1, I1, r1, q1⟩ => hc pins s1 σ H1 vs us Q I1 r1 q1) he hpl
theorem Jlf (hc : Jn3 X (.type T) r) (hg : Gl X x) (hm : X.mg x = none) (hv : bootBuiltins x = some (.type T)) (ha : PA X (e :: es) t) (hn : x ≠ "__name__" := by decide) (hdb : (x == ("__debug__" : Str)) = false := by decide)
  (he : starEach (e :: es) X.env = (false, eval e X.env) :: starEach es X.env := by rfl) (hpl : (backTo pos (starEach es X.env)).any (·.1) = false := by rfl) : PE X (.Call (.Name x p) (e :: es) [] pos) (tCB r t) := by
 intro pins s σ H Q I h
 refine wpAny_Call_Name_kw (Jnx I hg hm hv ?_ hn hdb)
 exact PyProof.Rows.callWith_type1 (thn (ha pos pins s σ H _ I h) fun us s1 ⟨vs, H1, I1, r1, q1⟩ => hc pins s1 σ H1 vs us Q I1 r1 q1) he hpl
end
end L2
namespace HT
open PySem PyProof.Rows
section
open PySem.SeqAt
open PySem.AutoSeq1 (wpAny_loadPart')
open PySem.MeetsSeq PySem.MeetsSeq2 PySem.MeetsSeq3
end
section
variable {prog : Program} {w : World} {A : Around} {E : Value → Shared → Prop} {s : Shared}
theorem cat_tup {t b : Addr} {vs ws : List Value} {Q : Value → Shared → Prop} (ht : IsTup s.heap t vs.toArray) (hb : IsTup s.heap b ws.toArray) (hv : vs ≠ [])
  (h1 : ws = [] → Q (.ref t) s) (h2 : ws ≠ [] → Q (.ref s.heap.objs.size) { s with heap := s.heap.push { cls := .type "tuple", data := .seq (vs ++ ws).toArray } })
  (hsz : vs.length + ws.length ≤ sizeLine) : wpAny (model prog w) A (binaryOp .Add (.ref t) (.ref b)) Q E s := by
 obtain ⟨⟨cls, dd, data, sl⟩, ho, hc, n, hd⟩ := id ht
 obtain ⟨⟨cls2, dd2, data2, sl2⟩, ho2, hc2, n2, hd2⟩ := id hb
 simp only at hc hd hc2 hd2
 subst hc hd hc2 hd2
 have e : vs.toArray ++ ws.toArray = (vs ++ ws).toArray := by simp
 by_cases hw : ws = []
 ·exact concat_meets ⟨_, ho, rfl⟩ ⟨_, ho2, rfl⟩ noFill_tuple_add seq_tuple_add PySem.F.slot_tuple_add PySem.F.entry_tuple_add (PySem.F.args_tuple_add_2 _ _)
   (tuple_addW1 t b vs.toArray ws.toArray n n2 dd dd2 sl sl2 (by simpa using hv) (by simp [hw])) ⟨ho, ho2, h1 hw⟩
 ·refine concat_meets ⟨_, ho, rfl⟩ ⟨_, ho2, rfl⟩ noFill_tuple_add seq_tuple_add PySem.F.slot_tuple_add PySem.F.entry_tuple_add (PySem.F.args_tuple_add_2 _ _)
   (tuple_addW2 t b vs.toArray ws.toArray n n2 dd dd2 sl sl2 (by simpa using hv) (by simpa using hw) (by rw [List.size_toArray, List.size_toArray]; exact hsz)) ⟨ho, ho2, ?_⟩
  rw [e]
  exact h2 hw
def sIx (n d : Nat) : Option Int → Nat
 | none => d
 | some v => if v < 0 then (v + (n : Int)).toNat else min v.toNat n
theorem sIx_none (n d : Nat) : sIx n d none = d := rfl
theorem sIx_nat (n d k : Nat) : sIx n d (some (k : Int)) = min k n := by
 show (if (k : Int) < 0 then ((k : Int) + (n : Int)).toNat else min (k : Int).toNat n) = min k n
 rw [if_neg (by omega), Int.toNat_natCast]
theorem sIx_le (n d : Nat) (hd : d ≤ n) (o : Option Int) : sIx n d o ≤ n := by
 cases o with
 | none => exact hd
 | some v =>
  show (if v < 0 then (v + (n : Int)).toNat else min v.toNat n) ≤ n
  by_cases hv : v < 0
  ·rw [if_pos hv]; omega
  ·rw [if_neg hv]; exact Nat.min_le_right _ _
theorem Jwr (v : Int) (n d : Nat) : (if v < 0 then max (v + (n : Int)) 0 else min v (n : Int)) = ((sIx n d (some v) : Nat) : Int) := by
 show (if v < 0 then max (v + (n : Int)) 0 else min v (n : Int)) = (((if v < 0 then (v + (n : Int)).toNat else min v.toNat n) : Nat) : Int)
 by_cases hv : v < 0
 ·simp only [if_pos hv]; omega
 ·simp only [if_neg hv]; omega
theorem Jvn (lo hi : Option Int) (n : Nat) : Builtin.Slice.sliceAdjust lo hi 1 (n : Int) = (((sIx n 0 lo : Nat) : Int), ((sIx n n hi : Nat) : Int)) := by
 have h1 : ¬ ((1 : Int) < 0) := by omega
 unfold Builtin.Slice.sliceAdjust
 simp only [h1, if_false]
 refine Prod.ext ?_ ?_
 ·cases lo with
  | none => rfl
  | some v => exact Jwr v n 0
 ·cases hi with
  | none => rfl
  | some v => exact Jwr v n n
theorem Jw6 (i j : Nat) : Builtin.Slice.slicePlaces (i : Int) (j : Int) 1 = j - i := by
 unfold Builtin.Slice.slicePlaces
 have h1 : (1 : Int) > 0 := by omega
 simp only [h1, if_true, Int.ediv_one]
 split <;> omega
theorem Jsi {v : Value} {o : Option Int} {Q : Option Int → Shared → Prop} (p : IsPart v o) (h : Q o s) : wpAny (model prog w) A (Builtin.Slice.slicePartIndex v) Q E s := by
 cases p with
 | none => exact slicePart_none h
 | int i t => exact slicePart_int h
theorem Jqs {sl : Addr} {vl vu : Value} {lo hi : Option Int} {n : Nat} {Q : Int × Int × Nat → Shared → Prop} (hs : s.heap.IsSliceOf sl vl vu .none) (pl : IsPart vl lo) (pu : IsPart vu hi)
  (h : Q (((sIx n 0 lo : Nat) : Int), 1, sIx n n hi - sIx n 0 lo) s) : wpAny (model prog w) A (Builtin.Slice.sliceApplied (.ref sl) (pure (n : Int))) Q E s := by
 obtain ⟨os, hos, hcs, hds⟩ := id hs
 unfold Builtin.Slice.sliceApplied Builtin.Slice.sliceFields
 refine wpAny_bind (wpAny_bind (wpAny_field hos hds (x := vl) rfl (wpAny_bind (wpAny_field hos hds (x := vu) rfl (wpAny_bind (wpAny_field hos hds (x := .none) rfl (wpAny_pure ?_)))))))
 refine wpAny_bind (slicePart_none ?_)
 show wpAny _ _ (if ((1 : Int) == 0) = true then _ else _) _ _ s
 rw [if_neg (by decide)]
 refine wpAny_bind (Jsi pl (wpAny_bind (Jsi pu (wpAny_bind (wpAny_pure ?_)))))
 show wpAny _ _ (match Builtin.Slice.sliceAdjust lo hi 1 (n : Int) with | (lo, hi) => pure (lo, (1 : Int), Builtin.Slice.slicePlaces lo hi 1)) _ _ s
 rw [Jvn lo hi n]
 show wpAny _ _ (pure (((sIx n 0 lo : Nat) : Int), (1 : Int), Builtin.Slice.slicePlaces ((sIx n 0 lo : Nat) : Int) ((sIx n n hi : Nat) : Int) 1)) _ _ s
 rw [Jw6]
 exact wpAny_pure h
theorem Jza (xs : Array Value) (i k : Nat) : ((List.range k).filterMap fun (m : Nat) => xs[((i : Int) + (m : Int) * 1).toNat]?).toArray = ((xs.toList.drop i).take k).toArray := by
 have e : (fun (m : Nat) => xs[((i : Int) + (m : Int) * 1).toNat]?) = fun m => xs[i + m]? := by
  funext m
  have : ((i : Int) + (m : Int) * 1).toNat = i + m := by omega
  rw [this]
 rw [e]
 have := pick_run xs i k
 rw [List.filterMap_map] at this
 have e2 : ((fun x => xs[x]?) ∘ fun x => i + x) = fun m => xs[i + m]? := rfl
 rw [e2] at this
 rw [this]
theorem getItem_tuple_cut {t sl : Addr} {items : Array Value} {vl vu : Value} {lo hi : Option Int} {Q : Value → Shared → Prop} (ht : IsTup s.heap t items) (hs : s.heap.IsSliceOf sl vl vu .none) (pl : IsPart vl lo) (pu : IsPart vu hi)
  (hw : ¬ (sIx items.size 0 lo = 0 ∧ sIx items.size items.size hi = items.size))
  (h : Q (.ref s.heap.objs.size) { s with heap := s.heap.push { cls := .type "tuple", data := .seq ((items.toList.drop (sIx items.size 0 lo)).take (sIx items.size items.size hi - sIx items.size 0 lo)).toArray } })
  (hsz : items.size ≤ sizeLine) : wpAny (model prog w) A (getItem (.ref t) (.ref sl)) Q E s := by
 have htake : sizeOk (.seq ((items.toList.drop (sIx items.size 0 lo)).take (sIx items.size items.size hi - sIx items.size 0 lo)).toArray) := by
  show ((items.toList.drop (sIx items.size 0 lo)).take (sIx items.size items.size hi - sIx items.size 0 lo)).toArray.size ≤ sizeLine
  rw [List.size_toArray, List.length_take, List.length_drop, Array.length_toList]
  omega
 have hj : sIx items.size items.size hi ≤ items.size := sIx_le _ _ (Nat.le_refl _) hi
 obtain ⟨os, hos, hcs, hds⟩ := id hs
 have hTs : s.TypeIs (.ref sl) "slice" := ⟨os, hos, hcs⟩
 unfold getItem
 try with_reducible refine wpAny_holding ?_
 first | refine wpAny_bind (wpAny_pure ?_) | skip
 refine wpAny_bind (wpAny_sequenceKey ht.typeIs (by decide) ?_)
 refine wpAny_bind (wpAny_callSpecial?_slot (name := Str.ofString "__getitem__") ht.typeIs PyProof.Rows.slot_tuple_getitem
  (wpAny_call_entry PyProof.Rows.slot_tuple_getitem ht.typeIs entry_tuple_getitem ?_ (args_tuple_getitem _ _)))
 show wpAny _ _ (Builtin.Tuple.tupleItemsOf (.ref t) >>= _) _ _ s
 refine wpAny_bind (tupleItemsOf_ ht ?_)
 refine wpAny_bind (wpAny_typeOf hTs ?_)
 rw [if_pos (by decide)]
 refine wpAny_bind (Jqs hs pl pu ?_)
 have hno : ¬ ((((sIx items.size 0 lo : Nat) : Int) == 0 && (1 : Int) == 1 && (sIx items.size items.size hi - sIx items.size 0 lo) == items.size) = true) := by
  intro q
  rw [Bool.and_eq_true, Bool.and_eq_true] at q
  have q1 : ((sIx items.size 0 lo : Nat) : Int) = 0 := eq_of_beq q.1.1
  have q2 : sIx items.size items.size hi - sIx items.size 0 lo = items.size := eq_of_beq q.2
  exact hw ⟨by omega, by omega⟩
 show wpAny _ _ (if (((sIx items.size 0 lo : Nat) : Int) == 0 && (1 : Int) == 1 && (sIx items.size items.size hi - sIx items.size 0 lo) == items.size) = true then _ else _) _ _ s
 rw [if_neg hno, Jza]
 first
  | exact wpAny_bind (m := Builtin.Tuple.tupleExact _) (wpAny_newObj_type (wpAny_pure ⟨_, rfl, wpAny_pure h⟩) htake)
  | exact wpAny_bind (m := Builtin.Tuple.tupleExact _) (wpAny_newObj_type (wpAny_bind (wpAny_pure (wpAny_pure ⟨_, rfl, wpAny_pure h⟩))) htake)
  | exact wpAny_bind (wpAny_bind (m := Builtin.Tuple.tupleExact _) (wpAny_newObj_type (wpAny_pure (wpAny_pure ⟨_, rfl, wpAny_pure h⟩)) htake))
  | exact wpAny_bind (wpAny_bind (m := Builtin.Tuple.tupleExact _) (wpAny_newObj_type (wpAny_pure ⟨_, rfl, wpAny_pure h⟩) htake))
end
end HT
namespace L2
open PySem PySem.Spec PyProof.Rows
abbrev TO := St → Hp → (Option Int → Hp → Prop) → Prop
def PO (X : Cx) (e : Option Expr) (t : TO) : Prop :=
 ∀ (pins : List (Addr × Obj)) (s : Shared) (σ : St) (H : Hp) (Q : Option Int → Hp → Prop), Inv X pins σ H s → t σ H Q →
  wpAny (model X.prog X.w) X.A (evalPart e X.env) (fun u s' => ∃ o H', Inv X pins σ H' s' ∧ IsPart u o ∧ Q o H') X.xe s
def Yap : TO := fun _ H Q => Q none H
def tPart (t : TE) : TO := fun σ H Q => t σ H fun x H1 => ∃ i, x = .int i ∧ Q (some i) H1
section
variable {X : Cx} {e : Expr} {te : TE} {lo hi : Option Expr} {tl th : TO} {pos p2 : Pos}
theorem Jpy : PO X none Yap := by
 intro pins s σ H Q I h
 rw [evalPart_none]
 exact wpAny_pure ⟨none, H, I, .none, h⟩
theorem Jpz (h : PE X e te) : PO X (some e) (tPart te) := by
 intro pins s σ H Q I hw
 rw [evalPart_some]
 refine thn (h pins s σ H _ I hw) fun u s1 ⟨x, H1, I1, r1, q1⟩ => ?_
 obtain ⟨i, rfl, q⟩ := q1
 obtain ⟨t, rfl⟩ := r1
 exact ⟨some i, H1, I1, .int i t, q⟩
def SlR (X : Cx) (r : V → Option Int → Option Int → Hp → VK → Prop) : Prop :=
 ∀ (pins : List (Addr × Obj)) (s : Shared) (σ : St) (H : Hp) (x : V) (v vl vu : Value) (lo hi : Option Int) (sl : Addr) (Q : VK), Inv X pins σ H s → RelV x v → s.heap.IsSliceOf sl vl vu .none → IsPart vl lo → IsPart vu hi → r x lo hi H Q →
  ∃ T id, typeLookup (.type T) "__getitem__" = pure (some (.builtin id)) ∧ s.TypeIs v T ∧ wpAny (model X.prog X.w) X.A (getItem v (.ref sl)) (EP X pins σ Q) X.xe s
def tSl (r : V → Option Int → Option Int → Hp → VK → Prop) (te : TE) (tl th : TO) : TE := fun σ H Q => te σ H fun x H1 => tl σ H1 fun l H2 => th σ H2 fun u H3 => r x l u H3 Q
theorem Jon {r : V → Option Int → Option Int → Hp → VK → Prop} (hr : SlR X r) (he : PE X e te) (hl : PO X lo tl) (hu : PO X hi th) : PE X (.Subscript e (.Slice lo hi none p2) pos) (tSl r te tl th) := by
 intro pins s σ H Q I h
 refine Subscript_ (thn (he pins s σ H _ I h) fun v s1 ⟨x, H1, I1, r1, q1⟩ => ?_)
 refine wpAny_Slice (thn (hl pins s1 σ H1 _ I1 q1) fun vl s2 ⟨l, H2, I2, pl, q2⟩ => thn (hu pins s2 σ H2 _ I2 q2) fun vu s3 ⟨u, H3, I3, pu, q3⟩ => ?_)
 rw [evalPart_none]
 refine wpAny_pure ?_
 have I4 : Inv X pins σ H3 { s3 with heap := s3.heap.push { cls := .type "slice", data := .fields #[vl, vu, .none] } } := I3.kept (t' := s3.toks) fun b ob q => Heap.get?_push_of_some _ q
 obtain ⟨T, id, hT, ht, hg⟩ := hr pins { s3 with heap := s3.heap.push { cls := .type "slice", data := .fields #[vl, vu, .none] } } σ H3 x v vl vu l u s3.heap.objs.size Q I4 r1 (Heap.IsSliceOf.new ..) pl pu q3
 show wpAny (model X.prog X.w) X.A (subscriptTail e (.Slice lo hi none p2) v (.ref s3.heap.objs.size)) (EP X pins σ Q) X.xe { s3 with heap := s3.heap.push { cls := .type "slice", data := .fields #[vl, vu, .none] } }
 exact tail_any (ops := [.ref s3.heap.objs.size, v]) ht hT hg (by with_unfolding_all rfl)
def Jp0 (xs : List V) (lo hi : Option Int) : List V := (xs.drop (HT.sIx xs.length 0 lo)).take (HT.sIx xs.length xs.length hi - HT.sIx xs.length 0 lo)
theorem Jqt (xs : List V) (lo hi : Option Int) : (Jp0 xs lo hi).length ≤ xs.length := by
 unfold Jp0
 rw [List.length_take, List.length_drop]
 omega
def rSlT (K : PySem.W.Frag) : V → Option Int → Option Int → Hp → VK → Prop := fun x lo hi H Q => ∃ a xs, x = .ref a ∧ SqT K H a xs ∧
 ¬ (HT.sIx xs.length 0 lo = 0 ∧ HT.sIx xs.length xs.length hi = xs.length) ∧ ∀ p, H p = none → Q (.ref p) (upd H p (.tup (Jp0 xs lo hi)))
theorem Jwf : SlR X (rSlT X.K) := by
 intro pins s σ H x v vl vu lo hi sl Q I rx hs pl pu h
 obtain ⟨a, xs, rfl, hx, hw, q⟩ := h
 cases rx
 obtain ⟨its, r, ht, hz⟩ := I.tuple hx
 have hlen : its.toArray.size = xs.length := by rw [List.size_toArray]; exact r.length.symm
 refine ⟨"tuple", _, PyProof.Rows.slot_tuple_getitem.lookup, ht.typeIs, ?_⟩
 refine HT.getItem_tuple_cut ht hs pl pu (by rw [hlen]; exact hw) ?_ (by rw [hlen]; exact hz)
 rw [hlen]
 refine ⟨.ref s.heap.objs.size, _, I.laid (t' := s.toks) (o := .tup (Jp0 xs lo hi)) (fun b ob q => Heap.get?_push_of_some _ q) (Nat.le_refl _) ?_, rfl, q _ (I.hok.fresh (Nat.le_refl _))⟩
 exact ⟨Nat.le_trans (Jqt xs lo hi) hz, _, (r.drop (HT.sIx xs.length 0 lo)).take (HT.sIx xs.length xs.length hi - HT.sIx xs.length 0 lo), IsTup.new _ _⟩
def rCatT (K : PySem.W.Frag) : R2 := fun x y H Q => ∃ a b xs ys, x = .ref a ∧ y = .ref b ∧ SqT K H a xs ∧ SqT K H b ys ∧ xs ≠ [] ∧ xs.length + ys.length ≤ sizeLine ∧
 (ys = [] → Q (.ref a) H) ∧ (ys ≠ [] → ∀ p, H p = none → Q (.ref p) (upd H p (.tup (xs ++ ys))))
theorem Vals.nil_iff {xs : List V} {us : List Value} (r : Vals xs us) : us = [] ↔ xs = [] := by
 cases r with
 | nil => simp
 | cons _ _ => simp
theorem Ys : OpR X (binaryOp .Add) (rCatT X.K) := by
 intro pins s σ H x y v u Q I rx ry h
 obtain ⟨a, b, xs, ys, rfl, rfl, ha, hb, hx, hz, q1, q2⟩ := h
 cases rx
 cases ry
 obtain ⟨its, r1, p1, _⟩ := I.tuple ha
 obtain ⟨its2, r2, p2, _⟩ := I.tuple hb
 refine HT.cat_tup p1 p2 (fun z => hx (r1.nil_iff.mp z)) (fun z => ⟨.ref a, H, I, rfl, q1 (r2.nil_iff.mp z)⟩) (fun z => ?_) (by rw [← r1.length, ← r2.length]; exact hz)
 refine ⟨.ref s.heap.objs.size, _, I.laid (t' := s.toks) (o := .tup (xs ++ ys)) (fun b ob q => Heap.get?_push_of_some _ q) (Nat.le_refl _) ?_, rfl, q2 (fun w => z (r2.nil_iff.mpr w)) _ (I.hok.fresh (Nat.le_refl _))⟩
 exact ⟨by rw [List.length_append]; exact hz, _, r1.append r2, IsTup.new _ _⟩
end
end L2
namespace L2
open PySem PySem.Spec PyProof.Rows
def ixN (n : Nat) (i : Int) : Option Nat := if 0 ≤ i then (if i < n then some i.toNat else none) else if -(n : Int) ≤ i then some (i + n).toNat else none
def atI {α : Type} (xs : List α) (i : Int) : Option α := (ixN xs.length i).bind fun j => xs[j]?
theorem Jwx {n : Nat} {i : Int} {j : Nat} (h : ixN n i = some j) : seqIndex? i n = some j ∧ j < n ∧ -(n : Int) ≤ i ∧ i < n := by
 unfold ixN at h
 by_cases h0 : 0 ≤ i
 ·rw [if_pos h0] at h
  by_cases h1 : i < n
  ·rw [if_pos h1] at h
   have e : i.toNat = j := Option.some.inj h
   exact ⟨by rw [seqIndex_of h0 h1, e], by omega, by omega, h1⟩
  ·rw [if_neg h1] at h; cases h
 ·rw [if_neg h0] at h
  by_cases h1 : -(n : Int) ≤ i
  ·rw [if_pos h1] at h
   have e : (i + n).toNat = j := Option.some.inj h
   exact ⟨by rw [seqIndex_neg (by omega) h1, e], by omega, h1, by omega⟩
  ·rw [if_neg h1] at h; cases h
theorem Jrb {α : Type} {xs : List α} {i : Int} {v : α} (h : atI xs i = some v) : ∃ j, seqIndex? i xs.length = some j ∧ xs[j]? = some v ∧ j < xs.length ∧ -(xs.length : Int) ≤ i ∧ i < xs.length := by
 unfold atI at h
 cases e : ixN xs.length i with
 | none => rw [e] at h; cases h
 | some j =>
  rw [e] at h
  obtain ⟨h1, h2, h3, h4⟩ := Jwx e
  exact ⟨j, h1, h, h2, h3, h4⟩
theorem Jox {α : Type} {xs : List α} {j : Nat} {v : α} (h : xs[j]? = some v) : atI xs (j : Int) = some v := by
 have hj : j < xs.length := (List.getElem?_eq_some_iff.mp h).1
 have e : ixN xs.length (j : Int) = some j := by
  unfold ixN
  rw [if_pos (by omega), if_pos (by omega)]; simp
 unfold atI; rw [e]; exact h
def Yh (b : Expr) : Prop := ∀ o i, subscripted b false o i = operate [o, i] (getItem o i)
def IxR (X : Cx) (r : R2) : Prop :=
 ∀ (value slice : Expr) (pins : List (Addr × Obj)) (s : Shared) (σ : St) (H : Hp) (x y : V) (v u : Value) (Q : VK), Inv X pins σ H s → RelV x v → RelV y u → r x y H Q →
  subscripted slice false v u = operate [v, u] (getItem v u) → wpAny (model X.prog X.w) X.A (subscriptTail value slice v u) (EP X pins σ Q) X.xe s
def MtR (X : Cx) (id : String) (r : V → List V → Hp → VK → Prop) : Prop :=
 ∀ (pins : List (Addr × Obj)) (s : Shared) (σ : St) (H : Hp) (x : V) (xs : List V) (v : Value) (us : List Value) (Q : VK), Inv X pins σ H s → RelV x v → Vals xs us → r x xs H Q →
  wpAny (model X.prog X.w) X.A (call (.builtin id) (v :: us)) (EP X pins σ Q) X.xe s
section
variable {X : Cx} {a b : Expr} {ta tb : TE} {pos : Pos}
theorem Jl7 {r : R2} (hr : IxR X r) (ha : PE X a ta) (hb : PE X b tb) (hs : Yh b) : PE X (.Subscript a b pos) (tOp r ta tb) := by
 intro pins s σ H Q I h
 exact Subscript_ (binT ha hb I h fun v u s2 x y H2 I2 rx ry q => hr a b pins s2 σ H2 x y v u Q I2 rx ry q (hs _ _))
def rIxL (K : PySem.W.Frag) : R2 := fun x y H Q => ∃ p xs i v, x = .ref p ∧ y = .int i ∧ SqL K H p xs ∧ atI xs i = some v ∧ Q v H
def rIxT (K : PySem.W.Frag) : R2 := fun x y H Q => ∃ p xs i v, x = .ref p ∧ y = .int i ∧ SqT K H p xs ∧ atI xs i = some v ∧ Q v H
def rIxS : R2 := fun x y H Q => ∃ z i c, x = .str z ∧ y = .int i ∧ z.length ≤ sizeLine ∧ atI z.cps.toList i = some c ∧ Q (.str ⟨#[c]⟩) H
theorem Jm1 : IxR X (rIxL X.K) := by
 intro value slice pins s σ H x y v u Q I rx ry h hs
 obtain ⟨p, xs, i, z, rfl, rfl, hq, he, q⟩ := h
 cases rx
 obtain ⟨t, rfl⟩ := ry
 obtain ⟨its, r, pl, hz⟩ := I.list hq
 obtain ⟨j, h1, h2, h3, h4, h5⟩ := Jrb he
 obtain ⟨w, ew, rw'⟩ := r.get h2
 have hl := r.length
 have hn := Jpb
 have fin : EP X pins σ Q w s := ⟨z, H, I, rw', q⟩
 by_cases h0 : 0 ≤ i
 ·have hj : i.toNat = j := by
   rw [seqIndex_of h0 h5] at h1
   exact Option.some.inj h1
  exact item_listR pl.isList h0 (by omega) (by rw [hj]; simpa using ew) fin hs
 ·have hj : (i + (its.toArray.size : Int)).toNat = j := by
   rw [seqIndex_neg (by omega) h4] at h1
   rw [List.size_toArray, ← hl]
   exact Option.some.inj h1
  exact subscriptTail_builtinR (x := w) pl.isList.typeIs slot_list_getitem.lookup
   (wpAny_getItem_list_neg (Q := fun r s' => r = w ∧ EP X pins σ Q r s') pl.isList (by omega) (by rw [List.size_toArray] <;> omega) (by omega) (by rw [hj]; simpa using ew) ⟨rfl, fin⟩) hs
theorem Jlb : IxR X (rIxT X.K) := by
 intro value slice pins s σ H x y v u Q I rx ry h hs
 obtain ⟨p, xs, i, z, rfl, rfl, hq, he, q⟩ := h
 cases rx
 obtain ⟨t, rfl⟩ := ry
 obtain ⟨its, r, pl, hz⟩ := I.tuple hq
 obtain ⟨j, h1, h2, h3, h4, h5⟩ := Jrb he
 obtain ⟨w, ew, rw'⟩ := r.get h2
 have hl := r.length
 have hn := Jpb
 have fin : EP X pins σ Q w s := ⟨z, H, I, rw', q⟩
 exact subscriptTail_builtinR (x := w) pl.typeIs slot_tuple_getitem.lookup
  (getItem_tuple (j := j) (Q := fun r s' => r = w ∧ EP X pins σ Q r s') pl (by omega) (by omega) (by rw [List.size_toArray, ← hl]; exact h1) (by simpa using ew) ⟨rfl, fin⟩) hs
theorem Jz0 : IxR X rIxS := by
 intro value slice pins s σ H x y v u Q I rx ry h hs
 obtain ⟨z, i, c, rfl, rfl, hz, he, q⟩ := h
 obtain ⟨t, rfl⟩ := rx
 obtain ⟨t', rfl⟩ := ry
 obtain ⟨j, h1, h2, h3, h4, h5⟩ := Jrb he
 have hl : z.cps.toList.length = z.length := by simp [Str.length]
 rw [hl] at h1 h4 h5
 have hn := Jpb
 exact tail_any (typeIs_str s z t) slot_str_getitem.lookup (getItem_str (c := c) (by
  have e1 : decide (i < -(2 ^ 63 : Int)) = false := decide_eq_false (by omega)
  have e2 : decide (i ≥ 2 ^ 63) = false := decide_eq_false (by omega)
  rw [e1, e2, Bool.or_false]) (by rw [h1]; simpa using h2) ⟨.str ⟨#[c]⟩, H, I.tok _, ⟨_, rfl⟩, q⟩) hs
theorem Jvv (its : List Value) (n j : Nat) (u : Value) : Obj.mapSeq (·.setIfInBounds j u) { cls := .type "list", data := .seq its.toArray n } = { cls := .type "list", data := .seq (its.set j u).toArray n } := by
 simp [Obj.mapSeq]
theorem Inv.lst {pins : List (Addr × Obj)} {σ : St} {H : Hp} {s : Shared} {p : Addr} {xs : List V} (I : Inv X pins σ H s) (h : H p = some (.lst xs)) :
  ∃ (its : List Value) (n : Nat), Vals xs its ∧ s.heap.get? p = some { cls := .type "list", data := .seq its.toArray n } ∧ xs.length ≤ sizeLine := by
 obtain ⟨z, its, n, r, e⟩ := I.hok p _ h
 exact ⟨its, n, r, e, z⟩
theorem Inv.lstUpd {pins : List (Addr × Obj)} {σ : St} {H : Hp} {s : Shared} {p : Addr} {xs ys : List V} {its its' : List Value} {n n' : Nat} {f : Obj → Obj} (I : Inv X pins σ H s) (h : H p = some (.lst xs))
  (ho : s.heap.get? p = some { cls := .type "list", data := .seq its.toArray n }) (hf : f { cls := .type "list", data := .seq its.toArray n } = { cls := .type "list", data := .seq its'.toArray n' }) (r : Vals ys its') (hz : ys.length ≤ sizeLine) (t : Nat) :
  Inv X pins σ (upd H p (.lst ys)) { s with heap := s.heap.update p f, toks := t } := by
 have e : (s.heap.update p f).get? p = some { cls := .type "list", data := .seq its'.toArray n' } := by
  rw [Heap.get?_update_self f ho (by rw [hf] <;> rfl), hf]
 refine I.write (x := p) (e := p) (by rw [h]; trivial) (.inl rfl) (fun b u hb q => (Heap.get?_update_other _ _ (Ne.symm hb)).trans q) ⟨_, e⟩ ?_
 exact ⟨hz, its', n', r, e⟩
def rSetL : V → V → V → Hp → (Hp → Prop) → Prop := fun o i v H Q => ∃ p xs k j, o = .ref p ∧ i = .int k ∧ H p = some (.lst xs) ∧ ixN xs.length k = some j ∧ Q (upd H p (.lst (xs.set j v)))
theorem Jq3 : PSet X rSetL := by
 intro pins s σ H o i v ov iv u Q I ro ri rv h
 obtain ⟨p, xs, k, j, rfl, rfl, hp, hj, q⟩ := h
 cases ro
 obtain ⟨t, rfl⟩ := ri
 obtain ⟨its, n, r, ho, hz⟩ := I.lst hp
 obtain ⟨h1, h2, h3, h4⟩ := Jwx hj
 have hl := r.length
 have hn := Jpb
 have I' : Inv X pins σ (upd H p (.lst (xs.set j v))) { s with heap := s.heap.update p (Obj.mapSeq (·.setIfInBounds j u)) } :=
  I.lstUpd hp ho (Jvv its n j u) (r.set rv j) (by rw [List.length_set]; exact hz) s.toks
 by_cases h0 : 0 ≤ k
 ·have hk : k.toNat = j := by
   rw [seqIndex_of h0 h4] at h1
   exact Option.some.inj h1
  exact PySem.W.ki_setAt ho h0 (by omega) (by rw [List.size_toArray, ← hl]; exact h4) (by rw [hk]; exact ⟨_, I', q⟩)
 ·have hk : (k + (its.toArray.size : Int)).toNat = j := by
   rw [seqIndex_neg (by omega) h3] at h1
   rw [List.size_toArray, ← hl]
   exact Option.some.inj h1
  exact PySem.W.ki_setBack ho (by omega) (by rw [List.size_toArray, ← hl]; exact h3) (by omega) (by rw [hk]; exact ⟨_, I', q⟩)
theorem Juo (lo hi : Option Int) (n : Nat) : (sliceBounds lo hi none n).1 = ((HT.sIx n 0 lo : Nat) : Int) ∧ (sliceBounds lo hi none n).2.1 = ((HT.sIx n n hi : Nat) : Int) ∧ (sliceBounds lo hi none n).2.2 = 1 := by
 refine ⟨?_, ?_, rfl⟩
 ·cases lo with
  | none => simp [sliceBounds, HT.sIx]
  | some i =>
   simp only [sliceBounds, HT.sIx, Option.getD_none, show (1 : Int) > 0 by decide, if_true]
   by_cases h : i < 0
   ·simp only [h, if_true] <;> omega
   ·simp only [h, if_false] <;> omega
 ·cases hi with
  | none => simp [sliceBounds, HT.sIx]
  | some i =>
   simp only [sliceBounds, HT.sIx, Option.getD_none, show (1 : Int) > 0 by decide, if_true]
   by_cases h : i < 0
   ·simp only [h, if_true] <;> omega
   ·simp only [h, if_false] <;> omega
theorem Jt6 (its : List Value) (lo hi : Option Int) : slicePick its.toArray lo hi none = ((its.drop (HT.sIx its.length 0 lo)).take (HT.sIx its.length its.length hi - HT.sIx its.length 0 lo)).toArray := by
 obtain ⟨h1, h2, h3⟩ := Juo lo hi its.toArray.size
 unfold slicePick
 rw [h1, h2, h3]
 simp only [sliceRange_one, pick_run, List.size_toArray] <;> rfl
def rSlL (K : PySem.W.Frag) : V → Option Int → Option Int → Hp → VK → Prop := fun x lo hi H Q => ∃ a xs, x = .ref a ∧ SqL K H a xs ∧ ∀ p, H p = none → Q (.ref p) (upd H p (.lst (Jp0 xs lo hi)))
theorem Jx8 : SlR X (rSlL X.K) := by
 intro pins s σ H x v vl vu lo hi sl Q I rx hs pl pu h
 obtain ⟨a, xs, rfl, hx, q⟩ := h
 cases rx
 obtain ⟨its, r, ht, hz⟩ := I.list hx
 have hlen := r.length
 refine ⟨"list", _, slot_list_getitem.lookup, ht.isList.typeIs, ?_⟩
 refine wpAny_getItem_list_slice ht.isList hs pl pu .none (by simp) ?_ (by rw [List.size_toArray] <;> omega)
 rw [Jt6, ← hlen]
 refine ⟨.ref s.heap.objs.size, _, I.laid (t' := s.toks) (o := .lst (Jp0 xs lo hi)) (fun b ob q => Heap.get?_push_of_some _ q) (Nat.le_refl _) ?_, rfl, q _ (I.hok.fresh (Nat.le_refl _))⟩
 exact ⟨Nat.le_trans (Jqt xs lo hi) hz, _, 0, (r.drop (HT.sIx xs.length 0 lo)).take (HT.sIx xs.length xs.length hi - HT.sIx xs.length 0 lo), Heap.get?_push_size _ rfl⟩
def Jnf : V → Bool
 | .non => true
 | .bl _ => true
 | .int _ => true
 | .str _ => true
 | _ => false
def eqV : V → V → Bool
 | .non, .non => true
 | .bl a, .bl b => a == b
 | .bl a, .int b => (if a then 1 else 0) == b
 | .int a, .bl b => a == (if b then 1 else 0)
 | .int a, .int b => a == b
 | .str a, .str b => a == b
 | _, _ => false
theorem Jyq {A : Around} {s : Shared} {y x : V} {u v : Value} (ry : RelV y u) (rx : RelV x v) (fy : Jnf y = true) (fx : Jnf x = true) : SeqAt.EqAt A s u v (eqV y x) := by
 cases y with
 | non =>
  cases ry
  cases x with
  | non => cases rx; exact SeqAt.EqAt.same _
  | bl b => cases rx; exact SeqAt.EqAt.none_bool b
  | int b => obtain ⟨t, rfl⟩ := rx; exact SeqAt.EqAt.none_int b t
  | str b => obtain ⟨t, rfl⟩ := rx; exact SeqAt.EqAt.none_str b t
  | _ => exact absurd (show false = true from fx) Bool.false_ne_true
 | bl a =>
  cases ry
  cases x with
  | non => cases rx; exact SeqAt.EqAt.bool_none a
  | bl b => cases rx; exact SeqAt.EqAt.bool_bool a b
  | int b => obtain ⟨t, rfl⟩ := rx; exact SeqAt.EqAt.bool_int a b t
  | str b => obtain ⟨t, rfl⟩ := rx; exact SeqAt.EqAt.bool_str a b t
  | _ => exact absurd (show false = true from fx) Bool.false_ne_true
 | int a =>
  obtain ⟨t', rfl⟩ := ry
  cases x with
  | non => cases rx; exact SeqAt.EqAt.int_none a t'
  | bl b => cases rx; exact SeqAt.EqAt.int_bool a t' b
  | int b => obtain ⟨t, rfl⟩ := rx; exact SeqAt.EqAt.int_int a t' b t
  | str b => obtain ⟨t, rfl⟩ := rx; exact SeqAt.EqAt.int_str a t' b t
  | _ => exact absurd (show false = true from fx) Bool.false_ne_true
 | str a =>
  obtain ⟨t', rfl⟩ := ry
  cases x with
  | non => cases rx; exact SeqAt.EqAt.str_none a t'
  | bl b => cases rx; exact SeqAt.EqAt.str_bool a t' b
  | int b => obtain ⟨t, rfl⟩ := rx; exact SeqAt.EqAt.str_int a t' b t
  | str b => obtain ⟨t, rfl⟩ := rx; exact SeqAt.EqAt.str_str a t' b t
  | _ => exact absurd (show false = true from fx) Bool.false_ne_true
 | _ => exact absurd (show false = true from fy) Bool.false_ne_true
def eqU (x : V) (u : Value) : Bool := match u with
 | .none => eqV .non x
 | .bool b => eqV (.bl b) x
 | .int i _ => eqV (.int i) x
 | .str z _ => eqV (.str z) x
 | _ => false
theorem Jyr {x y : V} {u : Value} (r : RelV y u) (f : Jnf y = true) : eqU x u = eqV y x := by
 cases y with
 | non => cases r; rfl
 | bl b => cases r; rfl
 | int i => obtain ⟨t, rfl⟩ := r; rfl
 | str z => obtain ⟨t, rfl⟩ := r; rfl
 | _ => exact absurd (show false = true from f) Bool.false_ne_true
theorem Jtz {x : V} : ∀ {xs : List V} {us : List Value}, Vals xs us → xs.all Jnf = true → us.any (eqU x) = xs.any fun y => eqV y x
 | _, _, .nil, _ => rfl
 | y :: xs, u :: us, .cons r t, f => by
  rw [List.all_cons, Bool.and_eq_true] at f
  rw [List.any_cons, List.any_cons, Jyr r f.1, Jtz t f.2]
theorem Jru {A : Around} {s : Shared} {x : V} {v : Value} (rx : RelV x v) (fx : Jnf x = true) : ∀ {xs : List V} {us : List Value}, Vals xs us → xs.all Jnf = true → ∀ u ∈ us, SeqAt.EqAt A s u v (eqU x u)
 | _, _, .nil, _ => fun u hu => by cases hu
 | y :: xs, u :: us, .cons r t, f => fun u' hu => by
  rw [List.all_cons, Bool.and_eq_true] at f
  rcases List.mem_cons.mp hu with rfl | hu
  ·rw [Jyr r f.1]; exact Jyq r rx f.1 fx
  ·exact Jru rx fx t f.2 u' hu
def inV (x : V) (xs : List V) : Bool := xs.any fun y => eqV y x
def rIn (K : PySem.W.Frag) (neg : Bool) : R2 := fun x y H Q => ∃ p xs, y = .ref p ∧ (SqL K H p xs ∨ SqT K H p xs) ∧ Jnf x = true ∧ xs.all Jnf = true ∧ Q (.bl (if neg then !inV x xs else inV x xs)) H
theorem Jxv : OpR X (compareOp .In) (rIn X.K false) := by
 intro pins s σ H x y v u Q I rx ry h
 obtain ⟨p, xs, rfl, hq, fx, fs, q⟩ := h
 cases ry
 rcases hq with hq | hq
 ·obtain ⟨its, r, pl, hz⟩ := I.list hq
  refine SeqAt.in_listAt (eqU x) pl.isList (fun w hw => Jru rx fx r fs w (by simpa using hw)) ⟨.bl _, H, I, rfl, ?_⟩
  rw [show its.toArray.any (eqU x) = its.any (eqU x) by simp, Jtz r fs]
  exact q
 ·obtain ⟨its, r, pl, hz⟩ := I.tuple hq
  refine SeqAt.in_tupleAt (eqU x) pl (fun w hw => Jru rx fx r fs w (by simpa using hw)) ⟨.bl _, H, I, rfl, ?_⟩
  rw [show its.toArray.any (eqU x) = its.any (eqU x) by simp, Jtz r fs]
  exact q
theorem Jl8 : Jn3 X (.builtin "len") (fun xs H Q => ∃ p ys, xs = [.ref p] ∧ (SqL X.K H p ys ∨ SqT X.K H p ys) ∧ Q (.int ys.length) H) := by
 intro pins s σ H xs us Q I r h
 obtain ⟨p, ys, rfl, hq, q⟩ := h
 obtain ⟨u, rfl, rx⟩ := Jnt r
 cases rx
 have hn := Jpb
 rcases hq with hq | hq
 ·obtain ⟨its, r', pl, hz⟩ := I.list hq
  have hlen := r'.length
  exact Calls.call_len_list pl.isList (by simp only [List.size_toArray] <;> omega) ⟨.int ys.length, H, I.tok _, ⟨s.toks + 1, by rw [List.size_toArray, hlen]⟩, q⟩
 ·obtain ⟨its, r', pl, hz⟩ := I.tuple hq
  have hlen := r'.length
  exact len_tuple pl (by simp only [List.size_toArray] <;> omega) ⟨.int ys.length, H, I.tok _, ⟨s.toks + 1, by rw [List.size_toArray, hlen]⟩, q⟩
theorem Ju1 : Jn3 X (.builtin "len") (fun xs H Q => ∃ z, xs = [.str z] ∧ z.length ≤ sizeLine ∧ Q (.int z.length) H) := by
 intro pins s σ H xs us Q I r h
 obtain ⟨z, rfl, hz, q⟩ := h
 obtain ⟨u, rfl, t, rfl⟩ := Jnt r
 have hn := Jpb
 exact len_str (by omega) ⟨.int z.length, H, I.tok _, ⟨_, rfl⟩, q⟩
theorem Jml : Jn3 X (.type "list") (fun xs H Q => ∃ p ys, xs = [.ref p] ∧ (SqL X.K H p ys ∨ SqT X.K H p ys) ∧ ∀ l, H l = none → Q (.ref l) (upd H l (.lst ys))) := by
 intro pins s σ H xs us Q I r h
 obtain ⟨p, ys, rfl, hq, q⟩ := h
 obtain ⟨u, rfl, rx⟩ := Jnt r
 cases rx
 have fin : ∀ (its : List Value), Vals ys its → ys.length ≤ sizeLine → ∀ (h' : Heap) (c' : Nat), (∀ b o', s.heap.get? b = some o' → h'.get? b = some o') →
   h'.get? s.heap.objs.size = some { cls := .type "list", dict := none, data := .seq its.toArray c', slots := #[] } → EP X pins σ Q (.ref s.heap.objs.size) { s with heap := h' } := fun its r' hz h' c' kp e =>
  ⟨.ref s.heap.objs.size, _, I.laid (t' := s.toks) kp (Nat.le_refl _) (show ObjOk X.prog X.w _ h' _ (.lst ys) from ⟨hz, its, c', r', e⟩), rfl, q _ (I.hok.fresh (Nat.le_refl _))⟩
 rcases hq with hq | hq
 ·obtain ⟨its, r', pl, hz⟩ := I.list hq
  have hlen := r'.length
  obtain ⟨o, ho, hc, n, hd⟩ := pl.isList
  exact call_list_seq p (.inl rfl) ho hc hd (fun h' c' kp e => fin its r' hz h' c' kp e) (by simp only [List.size_toArray] <;> omega)
 ·obtain ⟨its, r', pl, hz⟩ := I.tuple hq
  have hlen := r'.length
  obtain ⟨o, ho, hc, n, hd⟩ := pl
  exact call_list_seq p (.inr rfl) ho hc hd (fun h' c' kp e => fin its r' hz h' c' kp e) (by simp only [List.size_toArray] <;> omega)
theorem Jlr : Jn3 X (.type "tuple") (fun xs H Q => ∃ p ys, xs = [.ref p] ∧ ((SqL X.K H p ys ∧ ∀ l, H l = none → Q (.ref l) (upd H l (.tup ys))) ∨ (SqT X.K H p ys ∧ Q (.ref p) H))) := by
 intro pins s σ H xs us Q I r h
 obtain ⟨p, ys, rfl, h⟩ := h
 obtain ⟨u, rfl, rx⟩ := Jnt r
 cases rx
 rcases h with ⟨hq, q⟩ | ⟨hq, q⟩
 ·obtain ⟨its, r', pl, hz⟩ := I.list hq
  have hlen := r'.length
  refine call_tuple_list pl.isList (fun h' kp => ?_) (by simp only [List.size_toArray] <;> omega)
  have I1 : Inv X pins σ H { s with heap := h' } := I.kept (t' := s.toks) kp
  have I2 : Inv X pins σ (upd H h'.objs.size (.tup ys)) { s with heap := h'.push { cls := .type "tuple", data := .seq its.toArray } } :=
   I1.laid (t' := s.toks) (fun b o e => Heap.get?_push_of_some _ e) (Nat.le_refl _) (show ObjOk X.prog X.w _ _ _ (.tup ys) from ⟨hz, its, r', IsTup.new _ _⟩)
  exact ⟨.ref h'.objs.size, _, I2, rfl, q _ (I1.hok.fresh (Nat.le_refl _))⟩
 ·obtain ⟨its, r', pl, hz⟩ := I.tuple hq
  exact call_tuple_same pl ⟨.ref p, H, I, rfl, q⟩
def tyV (K : PySem.W.Frag) (T : String) (x : V) (H : Hp) : Prop := match x with
 | .str _ => T = "str"
 | .int _ => T = "int"
 | .ref p => (T = "list" ∧ ∃ xs, SqL K H p xs) ∨ (T = "tuple" ∧ ∃ o, K.lookup p = some o ∧ o.cls = .type "tuple" ∧ o.dict = none) ∨
   (T = "dict" ∧ ((∃ kvs, H p = some (.dK kvs)) ∨ ∃ kvs, H p = some (.dT kvs))) ∨ (T = "set" ∧ ∃ S n, H p = some (.set S n))
 | _ => False
theorem tyV_is {pins : List (Addr × Obj)} {σ : St} {H : Hp} {s : Shared} {T : String} {x : V} {v : Value} (I : Inv X pins σ H s) (r : RelV x v) (ty : tyV X.K T x H) :
  s.TypeIs v T ∧ ∀ a, v = .ref a → ∃ ob, s.heap.get? a = some ob ∧ ob.dict = none := by
 cases x with
 | str z =>
  obtain ⟨t, rfl⟩ := r
  cases (show T = "str" from ty)
  exact ⟨typeIs_str s z t, fun _ e => nomatch e⟩
 | int i =>
  obtain ⟨t, rfl⟩ := r
  cases (show T = "int" from ty)
  exact ⟨typeIs_int s i t, fun _ e => nomatch e⟩
 | ref p =>
  cases r
  rcases ty with ⟨rfl, xs, hq⟩ | ⟨rfl, o, hk, hc, hd⟩ | ⟨rfl, hk⟩ | ⟨rfl, S, n, hk⟩
  ·obtain ⟨its, _, pl, _⟩ := I.list hq
   refine ⟨pl.isList.typeIs, fun a e => ?_⟩
   cases e
   obtain ⟨o, n, e, c, hd, _⟩ := pl
   exact ⟨o, e, hd⟩
  ·refine ⟨⟨o, I.kIn p o hk, hc⟩, fun a e => ?_⟩
   cases e
   exact ⟨o, I.kIn _ o hk, hd⟩
  ·have z : ∃ o, s.heap.get? p = some o ∧ o.ExactDict := by
    rcases hk with ⟨kvs, hk⟩ | ⟨kvs, hk⟩
    ·obtain ⟨_, _, _, _, o, _, _, e, ex, _⟩ := I.hok p _ hk
     exact ⟨o, e, ex⟩
    ·obtain ⟨_, _, _, _, o, _, _, e, ex, _⟩ := I.hok p _ hk
     exact ⟨o, e, ex⟩
   obtain ⟨o, e, ex⟩ := z
   refine ⟨⟨o, e, ex.1⟩, fun a e2 => ?_⟩
   cases e2
   exact ⟨o, e, ex.2.1⟩
  ·obtain ⟨o, _, _, _, e, ex, _⟩ := I.hok p _ hk
   refine ⟨⟨o, e, ex.1⟩, fun a e2 => ?_⟩
   cases e2
   exact ⟨o, e, ex.2.1⟩
 | _ => exact False.elim ty
def tBM (K : PySem.W.Frag) (T : String) (r : V → List V → Hp → VK → Prop) (to : TE) (t : TA) : TE := fun σ H Q => to σ H fun x H1 => tyV K T x H1 ∧ t σ H1 fun xs H2 => r x xs H2 Q
variable {o e : Expr} {es : List Expr} {to : TE} {t : TA} {name : Str} {apos cpos : Pos} {T id : String} {r : V → List V → Hp → VK → Prop}
theorem Jv9 (pa : PlainAttrs T) (slot : Slot T name id) (hty : typeOf (.builtin id) = pure (.type "method_descriptor")) (hm : MtR X id r) (ho : PE X o to) (ha : PA X (e :: es) t)
  (hbase : attributeBase o name X.env (eval o X.env) = eval o X.env := by rfl)
  (hfew : ((backTo cpos (starEach (e :: es) X.env)).all (fun x => !x.1) && (backToKw cpos (keywordEach [] X.env)).all (fun x => x.1.isSome)
   && decide ((e :: es).length + ([] : List Keyword).length + (if ([] : List Keyword).isEmpty then 0 else 1) < 30)) = true := by rfl)
  (hline : (apos.endLine == cpos.line) = true := by rfl) (hs : starEach (e :: es) X.env = (false, eval e X.env) :: starEach es X.env := by rfl) (hplain : (backTo cpos (starEach es X.env)).any (·.1) = false := by rfl) :
  PE X (.Call (.Attribute o name apos) (e :: es) [] cpos) (tBM X.K T r to t) := by
 intro pins s σ H Q I h
 refine wpAny_Call_method_late hbase hfew hline rfl (thn (ho pins s σ H _ I h) fun v s1 ⟨x, H1, I1, r1, ty, q1⟩ => ?_)
 obtain ⟨h1, h2⟩ := tyV_is I1 r1 ty
 refine ⟨T, id, pa, slot, hty, h1, h2, ?_⟩
 have hA := ha cpos pins s1 σ H1 _ I1 q1
 rw [hs] at hA ⊢
 refine Calls.callWith_builtin (by show (false || (backTo cpos (starEach es X.env)).any (·.1)) = false; rw [hplain] <;> rfl) (Calls.evalArgs_plain ?_)
 exact thn hA fun us s2 ⟨vs, H2, I2, r2, q2⟩ => hm pins s2 σ H2 x vs v us Q I2 r1 r2 q2
end
end L2
namespace L2
open PySem PySem.Spec PyProof.Rows
def MtM (X : Cx) (id : String) (r : V → List V → Hp → VK → Prop) : Prop :=
 ∀ (pins : List (Addr × Obj)) (s : Shared) (σ : St) (H : Hp) (x : V) (xs : List V) (v : Value) (us : List Value) (Q : VK), Inv X pins σ H s → RelV x v → Vals xs us → r x xs H Q →
  wpAny (model X.prog X.w) X.A (call (.builtin id) (v :: us)) (EP X pins σ Q) X.xe s
theorem Vals.one : ∀ {x : V} {us : List Value}, Vals [x] us → ∃ u, us = [u] ∧ RelV x u
 | _, _, .cons r .nil => ⟨_, rfl, r⟩
section
variable {X : Cx} {pins : List (Addr × Obj)} {σ : St} {H : Hp} {s : Shared} {l b : Addr} {xs ys zs : List V}
theorem Inv.lset {its its' : List Value} {n : Nat} {f : Array Value → Array Value} {t' : Nat} (I : Inv X pins σ H s) (hH : H l = some (.lst xs))
  (e : s.heap.get? l = some { cls := .type "list", data := .seq its.toArray n }) (hf : f its.toArray = its'.toArray) (hv : Vals ys its') (hz : ys.length ≤ sizeLine) :
  Inv X pins σ (upd H l (.lst ys)) { s with heap := s.heap.update l (Obj.mapSeq f), toks := t' } := by
 have q := PySem.IsL.update e f
 rw [hf] at q
 refine I.write (x := l) (e := l) (by rw [hH]; exact trivial) (.inl rfl) (fun b' u hb hu => (Heap.get?_update_other s.heap (Obj.mapSeq f) (Ne.symm hb)).trans hu) ⟨_, q⟩ ?_
 exact ⟨hz, its', _, hv, q⟩
theorem Inv.lnew {its : List Value} {t' : Nat} (I : Inv X pins σ H s) (hv : Vals ys its) (hz : ys.length ≤ sizeLine) :
  Inv X pins σ (upd H s.heap.objs.size (.lst ys)) { s with heap := s.heap.push { cls := .type "list", data := .seq its.toArray }, toks := t' } :=
 I.laid (fun _ _ q => Heap.get?_push_of_some _ q) (Nat.le_refl _) ⟨hz, its, 0, hv, Heap.get?_push_size _ rfl⟩
theorem Inv.fresh (I : Inv X pins σ H s) : H s.heap.objs.size = none := I.hok.fresh (Nat.le_refl _)
theorem Inv.lstM (I : Inv X pins σ H s) (hH : H l = some (.lst xs)) : xs.length ≤ sizeLine ∧ ∃ (its : List Value) (n : Nat), Vals xs its ∧ xs.length = its.length ∧ s.heap.get? l = some { cls := .type "list", data := .seq its.toArray n } := by
 obtain ⟨z, its, n, r, e⟩ := I.hok l _ hH
 exact ⟨z, its, n, r, r.length, e⟩
end
section
variable {X : Cx}
def Ya2 : V → List V → Hp → VK → Prop := fun x vs H Q => ∃ l xs y, x = .ref l ∧ vs = [y] ∧ H l = some (.lst xs) ∧ xs.length < sizeLine ∧ Q .non (upd H l (.lst (xs ++ [y])))
theorem Jns : MtM X "list.append" Ya2 := by
 intro pins s σ H x vs v us Q I rx rv h
 obtain ⟨l, xs, y, rfl, rfl, hH, hz, q⟩ := h
 cases rx
 obtain ⟨u, rfl, ru⟩ := rv.one
 obtain ⟨z, its, n, r, hl, e⟩ := I.lstM hH
 refine call_meets F.slot_list_append ⟨_, e, rfl⟩ F.entry_list_append (F.args_list_append_2 _ _) (PySem.list_append l its.toArray n u (by rw [List.size_toArray]; omega)) ⟨e, ?_⟩
 refine ⟨.non, _, I.lset (its' := its ++ [u]) hH e (by simp) (r.append (.cons ru .nil)) ?_, rfl, q⟩
 rw [List.length_append, List.length_singleton]
 omega
def rCat : R2 := fun x y H Q => ∃ l b xs zs, x = .ref l ∧ y = .ref b ∧ H l = some (.lst xs) ∧ H b = some (.lst zs) ∧ xs.length + zs.length ≤ sizeLine ∧ ∀ p, H p = none → Q (.ref p) (upd H p (.lst (xs ++ zs)))
theorem op_cat : OpR X (binaryOp .Add) rCat := by
 intro pins s σ H x y v u Q I rx ry h
 obtain ⟨l, b, xs, zs, rfl, rfl, hH, hB, hz, q⟩ := h
 cases rx
 cases ry
 obtain ⟨z, its, n, r, hl, e⟩ := I.lstM hH
 obtain ⟨z2, its2, n2, r2, hl2, e2⟩ := I.lstM hB
 refine PySem.P.add_list e e2 ?_ (by rw [List.size_toArray, List.size_toArray]; omega)
 have ea : its.toArray ++ its2.toArray = (its ++ its2).toArray := by simp
 rw [ea]
 exact ⟨.ref _, _, I.lnew (t' := s.toks) (r.append r2) (by rw [List.length_append]; omega), rfl, q _ I.fresh⟩
end
section
variable {prog : Program} {w : World} {A : Around} {E : Value → Shared → Prop} {s : Shared}
end
section
variable {X : Cx}
end
end L2
namespace L2
open PySem PySem.Spec PyProof.Rows
section
variable {κ : Type} [DecidableEq κ]
end
section
variable {P : Program} {w : World} {H : Hp} {h : Heap} {a : Addr}
end
section
variable {X : Cx} {pins : List (Addr × Obj)} {σ : St} {H : Hp} {s : Shared} {a : Addr} {y v : V} {u r : Value} {o : Option V} {A : Around} {E : Value → Shared → Prop}
end
section
variable {X : Cx} {pins : List (Addr × Obj)} {σ : St} {H : Hp} {s : Shared} {a : Addr} {kvs : List (Key × V)} {k : Key} {u : Value} {A : Around} {E : Value → Shared → Prop}
end
section
variable {X : Cx} {o i e value : Expr} {pos pos' tpos : Pos} {td ty tv : TE}
end
section
variable {X : Cx} {pos : Pos}
end
structure M1 (X : Cx) (o : Expr) (m : Str) (apos : Pos) (e : Expr) (cpos : Pos) : Prop where
 base : attributeBase o m X.env (eval o X.env) = eval o X.env
 few : ((backTo cpos (starEach [e] X.env)).all (fun x => !x.1) && (backToKw cpos (keywordEach [] X.env)).all (fun x => x.1.isSome)
  && decide (([e] : List Expr).length + ([] : List Keyword).length + (if ([] : List Keyword).isEmpty then 0 else 1) < 30)) = true
 line : (apos.endLine == cpos.line) = true
 trees : backTo cpos (starEach [e] X.env) = [(false, eval e X.env)]
structure M2 (X : Cx) (o : Expr) (m : Str) (apos : Pos) (e f : Expr) (cpos : Pos) : Prop where
 base : attributeBase o m X.env (eval o X.env) = eval o X.env
 few : ((backTo cpos (starEach [e, f] X.env)).all (fun x => !x.1) && (backToKw cpos (keywordEach [] X.env)).all (fun x => x.1.isSome)
  && decide (([e, f] : List Expr).length + ([] : List Keyword).length + (if ([] : List Keyword).isEmpty then 0 else 1) < 30)) = true
 line : (apos.endLine == cpos.line) = true
 trees : backTo cpos (starEach [e, f] X.env) = [(false, eval e X.env), (false, eval f X.env)]
section
variable {X : Cx} {pins : List (Addr × Obj)} {σ : St} {H : Hp} {s : Shared} {a : Addr} {y d : V} {u r : Value} {o : Option V} {A : Around} {E : Value → Shared → Prop}
end
section
variable {X : Cx} {o e f : Expr} {apos cpos : Pos} {td ty tx : TE}
end
section
variable {X : Cx} {pins : List (Addr × Obj)} {σ : St} {H : Hp} {s : Shared} {a : Addr} {kvs : List (Key × V)} {A : Around} {E : Value → Shared → Prop}
end
section
variable {X : Cx} {pins : List (Addr × Obj)} {σ : St} {H : Hp} {s : Shared} {a : Addr} {y : V} {u : Value} {A : Around} {E : Value → Shared → Prop}
end
end L2
namespace Att
open PySem PySem.W PySem.Calls PyProof.Rows
theorem Jr3 {P : Params} {h : Heap} : ∀ (ns : List Int) (vs : List Value), WellAll P h vs (ns.map WData.int) → IntsAre vs ns := by
 intro ns
 induction ns with
 | nil =>
  intro vs w
  rw [List.map_nil] at w
  cases w
  exact .nil
 | cons n ns ih =>
  intro vs w
  rw [List.map_cons] at w
  cases w with
  | cons a b =>
   cases a
   exact .cons _ _ (ih _ b)
theorem Jy2 {l : OpenLaw} {n : Nat} (hn : l.most = some n) {P : Params} {h : Heap} {args : List WData} {vals : List Value}
  (hpre : l.row.toRowW.claim.pre args = true) (hwl : WellAll P h vals args) :
  ∃ a vs ns, vals = [Value.ref a] ∧ args = [WData.list (ns.map WData.int)] ∧ h.get? a = some { cls := .type "list", data := .seq vs.toArray } ∧ IntsAre vs ns ∧ ns.length ≤ n := by
 have hsh : WShape.hasAll [] args [.list .int] = true := (pre_splitW hpre).1
 have hc : l.pre.holds [] { args := args } = true := (pre_splitW hpre).2
 obtain ⟨d, r, rfl, h1, h2⟩ := hasAllW_cons hsh
 obtain rfl := hasAllW_nil h2
 obtain ⟨xs, rfl, h3⟩ := hasW_list h1
 obtain ⟨ns, rfl⟩ := items_int h3
 have hlen : ns.length ≤ n := by
  unfold OpenLaw.pre at hc
  have h4 : (WTm.not (.lt (.lit (.int (n : Int))) (.len (.arg 0)))).holds [] { args := [.list (ns.map .int)] } = true := by
   have h4 := (holds_andW hc).1
   rw [hn] at h4
   exact h4
  have h5 := condW_of h4 (w_not (w_lt w_lit (w_len_list (w_arg rfl))))
  rw [List.length_map] at h5
  refine Nat.le_of_not_lt fun q => ?_
  have q' : (n : Int) < ((ns.length : Nat) : Int) := by omega
  first
   | (rw [decide_eq_true q'] at h5; exact absurd h5 (by decide))
   | (simp at h5; omega)
 cases hwl with
 | cons w1 w2 =>
  cases w2
  cases w1 with
  | list ho hall => exact ⟨_, _, ns, rfl, rfl, ho, Jr3 ns _ hall, hlen⟩
theorem Jxz (l : OpenLaw) (args : List WData) : l.row.toRowW.claim.post args (.bool true) args = true :=
 postW_of (r := l.row.toRowW) (X := (true == true))
  (show WShape.has [] (.bool true) .bool = true by first | rfl | decide | simp [WShape.has, WShape.arms, WShape.armsAll])
  (show (WTm.eq .res (.lit (.bool true))).value [] { args := args, res := some (.bool true), after := args } = some (.bool (true == true)) from w_eq_bool (w_res rfl) w_lit) rfl
theorem attach_call {l : OpenLaw} {n : Nat} {q : Program} {loose : List Str} {XP : (Str → Option Value) → Heap → Prop} {YP : World → Heap → Prop} {d : DefRec}
  (hn : l.most = some n) (hdf : d.params.defaults = [])
  (call : ∀ (w : World) (s₀ s₁ : Shared) (mg mb : Str → Option Value) (fa : Addr) (o : Obj) (pm cd doc : Value) (a : Addr) (vs : List Value) (ns : List Int),
   Ground q loose [] XP w s₀ mg mb s₁.heap → YP w s₁.heap →
   s₁.heap.get? fa = some o → o.data = .func (docDef d.name d.params d.body d.scope pm cd doc) → s₁.heap.CodeRec cd d.name → mg d.name = some (.ref fa) →
   s₁.heap.get? a = some { cls := .type "list", data := .seq vs.toArray } → IntsAre vs ns → ns.length ≤ n → s₁.gens = #[] →
   codeAny (model l.prog w) callerA (.call (.ref fa) ⟨[.ref a], []⟩) (fun r s' => r = .ok (.ret (.bool true)) ∧ OldK s₁.heap s'.heap ∧ s'.os = s₁.os ∧ AllBare s'.gens) s₁) :
  WalkO q loose XP YP l.row.toRowW d [] (fun f vs => PySem.call f vs) := by
 intro w s₀ s₁ mg mb G Y fa o pm cd doc dV kV ho hd hcd hD hmg hg args vals as hpre hlay hrd hwl hlo
 obtain rfl : dV = .none := Dflts.none hD hdf
 obtain rfl : kV = .none := Dflts.noKw hD
 obtain ⟨a, vs, ns, rfl, rfl, hobj, hints, hlen⟩ := Jy2 hn hpre hwl
 refine enter_call (codeAny_mono (call w s₀ s₁ mg mb fa o pm cd doc a vs ns G Y ho (fd_plain hd) hcd hmg hobj hints hlen hg) fun r s' hq => ?_)
 obtain ⟨rfl, h2, h3, h4⟩ := hq
 exact ⟨.inl ⟨.bool true, .bool true, [], rfl, fun _ => rfl, .bool true, Jxz l _, fun _ => ⟨List.Pairwise.nil, fun _ hm => (nomatch hm)⟩⟩, h2, h3, h4⟩
section
variable {prog : Program} {w : World} {A : Around} {E : Value → Shared → Prop} {s : Shared} {K : Frag}
end
end Att
namespace L2
open PySem PySem.Spec PyProof.Rows
theorem Jty : ∀ {vs : List Value} {ns : List Int}, IntsAre vs ns → Vals (ns.map V.int) vs
 | _, _, .nil => .nil
 | _, _, .cons n t h => .cons ⟨t, rfl⟩ (Jty h)
def Only (H : Hp) : Prop := ∀ b, H b = none ∨ ∃ o xs, H b = some (.frz o (.lst xs))
theorem Jz2 {P : Program} {w : World} {K : PySem.W.Frag} {mg mb : Str → Option Value} {CX : CXT} {k : Nat} {fa a : Addr} {fd : FuncData} {x : Str} {sp : Sp} {s₁ : Shared} {vs : List Value} {ns : List Int}
  (KX : K.In s₁.heap) (hns : s₁.heap.Ns mainGlobals mg) (hb : s₁.heap.Ns builtinsNs mb) (hbb : ∀ x : Str, x ≠ "__name__" → mb x = bootBuiltins x) (hlim : s₁.heap.NoLimit) (hg : s₁.gens = #[])
  (ha : s₁.heap.get? a = some { cls := .type "list", data := .seq vs.toArray }) (hi : IntsAre vs ns) (hl : ns.length ≤ sizeLine) (hr : Room k callerA)
  (F : ∀ base : Heap, K.In base → base.Ns mainGlobals mg → FnOk P w K mg base CX k fa fd [x] sp) (hbind : ∀ (s : Shared) (u : Value), BindsTo s fd ⟨[u], []⟩ [(x, u)])
  (hsp : ∀ H : Hp, Only H → SqL K H a (ns.map V.int) → sp [.ref a] H (fun v _ => v = .bl true) fun _ _ _ => False)
  (hCX : ∀ H e s', CX [] H s₁ (fun _ _ _ => False) e s' → False) :
  codeAny (model P w) callerA (.call (.ref fa) ⟨[.ref a], []⟩) (fun r s' => r = .ok (.ret (.bool true)) ∧ OldK s₁.heap s'.heap ∧ s'.os = s₁.os ∧ AllBare s'.gens) s₁ := by
 have rv := Jty hi
 have lenV := hi.length
 have core : ∀ H : Hp, Only H → SqL K H a (ns.map V.int) → HOk P w H s₁.heap → (∀ b, H b ≠ none → b = a) → (H a ≠ none → K.lookup a = none) →
   codeAny (model P w) callerA (.call (.ref fa) ⟨[.ref a], []⟩) (fun r s' => r = .ok (.ret (.bool true)) ∧ OldK s₁.heap s'.heap ∧ s'.os = s₁.os ∧ AllBare s'.gens) s₁ := by
  intro H hO hS hok hA hK
  have base_of : ∀ {b : Addr} {o : Obj}, s₁.heap.get? b = some o → H b = none → (Ju4 s₁.heap H).get? b = some o := fun e n => Jyw e n
  have noA : ∀ {b : Addr} {o : Obj} {es : Array DictEntry} {ep : Nat}, s₁.heap.get? b = some o → o.data = .dict es ep → H b = none := fun {b o es ep} e d => by
   cases q : H b with
   | none => rfl
   | some u =>
    have e' : b = a := hA b (by rw [q]; simp)
    subst e'
    rw [ha] at e; cases e
    have d' : Data.seq vs.toArray _ = Data.dict es ep := d
    cases d'
  have nsK : ∀ {b : Addr} {m : Str → Option Value}, s₁.heap.Ns b m → (Ju4 s₁.heap H).Ns b m := fun {b m} ⟨o, es, ep, e, d, r⟩ => ⟨o, es, ep, base_of e (noA e d), d, r⟩
  have hKb : K.In (Ju4 s₁.heap H) := fun b o e => base_of (KX b o e) (by
   cases q : H b with
   | none => rfl
   | some u =>
    have e' : b = a := hA b (by rw [q]; simp)
    subst e'
    rw [hK (by rw [q]; simp)] at e; cases e)
  have hM : Mod K mg (Ju4 s₁.heap H) := ⟨hKb, nsK hns, ⟨mb, nsK hb, hbb⟩, let ⟨mc, h1, h2⟩ := hlim; ⟨mc, nsK h1, h2⟩⟩
  have e0 : Env0 P w K mg (Ju4 s₁.heap H) callerA [] s₁ H := ⟨rfl, hM, fun b o e => Yr e, Nat.le_of_eq (Jxp _ _), trivial, fun b hb => absurd (show b ∈ ([] : List Addr) from hb) (by simp), hok, .of_eq hg⟩
  refine codeAny_mono ((F _ hKb (nsK hns)).run callerA [] s₁ H ⟨[.ref a], []⟩ [.ref a] [.ref a] _ _ hr e0 (hbind s₁ (.ref a)) (.cons rfl .nil) (hsp H hO hS)) fun r s' h => ?_
  cases r with
  | error e => exact (hCX H e s' h).elim
  | ok fl =>
   cases fl with
   | next => exact False.elim h
   | brk => exact False.elim h
   | cont => exact False.elim h
   | ret u =>
    obtain ⟨v, H', os, bare, un, hok', r', q⟩ := h
    have q' : v = .bl true := q
    subst q'
    obtain rfl : u = Value.bool true := r'
    refine ⟨rfl, OldK.of_keep fun b o e => ?_, os, bare⟩
    cases q : H b with
    | none => exact un.keep b o e q (by intro z; exact absurd (show b ∈ ([] : List Addr) from z) (by simp)) (by simp)
    | some u =>
     rcases hO b with z | ⟨ob, xs, z⟩
     ·rw [q] at z; cases z
     ·have z2 := un.frzs b ob _ z
      obtain ⟨e1, _⟩ := hok b _ z
      obtain ⟨e2, _⟩ := hok' b _ z2
      rw [e] at e1; cases e1
      exact e2
 cases hk : K.lookup a with
 | some o =>
  have e := KX a o hk
  rw [ha] at e
  cases e
  refine core (fun _ => none) (fun _ => .inl rfl) (.inr ⟨_, vs.toArray, _, hk, rfl, rfl, rfl, by rw [List.size_toArray, lenV]; exact hl, by simpa using rv⟩) (fun b u z => by have z' : (none : Option HO) = some u := z; cases z') (fun b z => absurd rfl z) fun z => absurd rfl z
 | none =>
  refine core (fun b => if b = a then some (.frz { cls := .type "list", data := .seq vs.toArray } (.lst (ns.map V.int))) else none) (fun b => ?_) (.inl (.inr ⟨{ cls := .type "list", data := .seq vs.toArray }, if_pos rfl⟩)) (fun b u z => ?_) (fun b z => ?_) fun _ => hk
  ·by_cases hb : b = a
   ·exact .inr ⟨_, _, if_pos hb⟩
   ·exact .inl (if_neg hb)
  ·by_cases hb : b = a
   ·have z' := (if_pos hb).symm.trans z
    cases z'
    subst hb
    exact ⟨ha, by rw [List.length_map]; exact hl, vs, _, rv, ha⟩
   ·have z' := (if_neg hb).symm.trans z
    cases z'
  ·by_cases hb : b = a
   ·exact hb
   ·exact absurd (if_neg hb) z
end L2
namespace L2
open PySem PySem.Spec PyProof.Rows
abbrev KOf {K : PySem.W.Frag} {h : Heap} (_ : K.In h) : PySem.W.Frag := K
theorem Yar {l : PySem.W.OpenLaw} {n k : Nat} {q : Program} {loose : List Str} {XP : (Str → Option Value) → Heap → Prop} {YP : World → Heap → Prop} {d : DefRec} {K : Params → PySem.W.Frag} {CX : World → CXT} {sp : World → Sp} {x : Str}
  (hn : l.most = some n) (hn2 : n ≤ sizeLine) (hdf : d.params.defaults = []) (hr : Room k callerA)
  (hY : ∀ (w : World) (h : Heap), YP w h → (K w.params).In h)
  (F : ∀ (w : World) (mg : Str → Option Value) (fa : Addr) (h : Heap), (K w.params).In h → h.Ns mainGlobals mg → mg d.name = some (.ref fa) →
   ∃ fd : FuncData, (∀ (s : Shared) (u : Value), BindsTo s fd ⟨[u], []⟩ [(x, u)]) ∧
    ∀ base : Heap, (K w.params).In base → base.Ns mainGlobals mg → FnOk l.prog w (K w.params) mg base (CX w) k fa fd [x] (sp w))
  (hsp : ∀ (w : World) (H : Hp) (a : Addr) (ns : List Int), ns.length ≤ n → Only H → SqL (K w.params) H a (ns.map V.int) → sp w [.ref a] H (fun v _ => v = .bl true) fun _ _ _ => False)
  (hCX : ∀ (w : World) (H : Hp) (s : Shared) (e : Value) (s' : Shared), CX w [] H s (fun _ _ _ => False) e s' → False) :
  PySem.W.WalkO q loose XP YP l.row.toRowW d [] (fun f vs => PySem.call f vs) := by
 refine Att.attach_call hn hdf fun w s₀ s₁ mg mb fa o pm cd doc a vs ns G Y ho hd hcd hmg hobj hints hlen hg => ?_
 have KX := hY w _ Y
 obtain ⟨fd, hb, hF⟩ := F w mg fa _ KX G.T.g hmg
 exact Jz2 KX G.T.g G.T.b G.T.builtins G.T.nolimit hg hobj hints (Nat.le_trans hlen hn2) hr hF hb (fun H hO hS => hsp w H a ns hlen hO hS) fun H e s' => hCX w H s₁ e s'
theorem walk_ofK {l : PySem.W.OpenLaw} {n k : Nat} {q : Program} {loose : List Str} {XP : (Str → Option Value) → Heap → Prop} {YP : World → Heap → Prop} {d : DefRec} {K : Params → PySem.W.Frag} {CX : CXT} {sp : PySem.W.Frag → Sp} {x : Str}
  (hn : l.most = some n) (hn2 : n ≤ sizeLine) (hdf : d.params.defaults = []) (hr : Room k callerA)
  (hY : ∀ (w : World) (h : Heap), YP w h → (K w.params).In h)
  (F : ∀ (w : World) (mg : Str → Option Value) (fa : Addr) (h : Heap), (K w.params).In h → h.Ns mainGlobals mg → mg d.name = some (.ref fa) →
   ∃ fd : FuncData, (∀ (s : Shared) (u : Value), BindsTo s fd ⟨[u], []⟩ [(x, u)]) ∧
    ∀ base : Heap, (K w.params).In base → base.Ns mainGlobals mg → FnOk l.prog w (K w.params) mg base CX k fa fd [x] (sp (K w.params)))
  (hsp : ∀ (K : PySem.W.Frag) (H : Hp) (a : Addr) (ns : List Int), ns.length ≤ n → Only H → SqL K H a (ns.map V.int) → sp K [.ref a] H (fun v _ => v = .bl true) fun _ _ _ => False)
  (hCX : ∀ (H : Hp) (s : Shared) (e : Value) (s' : Shared), CX [] H s (fun _ _ _ => False) e s' → False) :
  PySem.W.WalkO q loose XP YP l.row.toRowW d [] (fun f vs => PySem.call f vs) :=
 Yar (K := K) (CX := fun _ => CX) (sp := fun w => sp (K w.params)) hn hn2 hdf hr hY F (fun w H a ns h1 h2 h3 => hsp (K w.params) H a ns h1 h2 h3) fun _ H s e s' => hCX H s e s'
end L2
namespace L2
open PySem PySem.Spec PyProof.Rows
def Jkx (s : Stmt) (j : Nat) : Stmt := match s with
 | .ClassDef _ _ _ body _ _ _ _ _ _ _ => body.getD j (.Pass ⟨0, 0, 0, 0⟩)
 | _ => .Pass ⟨0, 0, 0, 0⟩
def Jmz (s : Stmt) : Arguments := match s with
 | .FunctionDef _ a _ _ _ _ _ _ _ _ => a
 | _ => { posonlyargs := [], args := [], vararg := none, kwonlyargs := [], kw_defaults := [], kwarg := none, defaults := [] }
def Jmm (s : Stmt) : List Stmt := match s with
 | .FunctionDef _ _ b _ _ _ _ _ _ _ => b
 | _ => []
def Jkt (s : Stmt) : Scope := match s with
 | .FunctionDef _ _ _ _ _ _ sc _ _ _ => sc
 | _ => { kind := .function, names := [], isGenerator := false, isCoroutine := false }
abbrev CX0 : CXT := fun _ _ _ _ _ _ => False
abbrev E0 : XK := fun _ _ _ => False
theorem Jom {X : Cx} : Jrf CX0 X E0 := fun _ _ _ _ _ _ _ h => h.elim
structure Fun (K : PySem.W.Frag) (x qual : Str) (st : Stmt) (f : Addr) (fd : FuncData) : Prop where
 ex : ∃ (oc : Value) (od : Option Addr) (kV doc pm : Value) (an : Option Addr) (cdv ct : Value) (osl : Array (Option Value)),
  fd = PySem.W.fnOf x qual (Jmz st) (Jmm st) (Jkt st) .none kV doc pm an cdv ct ∧ K.lookup f = some ⟨oc, od, .func fd, osl⟩ ∧ PySem.W.codeIn K cdv qual = true
 kp : PySem.W.keepIn K (.ref f) = true
section
variable {P : Program} {w : World} {K : PySem.W.Frag} {mg : Str → Option Value} {base : Heap}
theorem Fun.ok {x qual : Str} {st : Stmt} {f : Addr} {fd : FuncData} {N ps : List Str} {k : Nat} {sp : Sp} (F : Fun K x qual st f fd) (S : Jky N ps (Jkt st)) (len : ∀ vs H Q E, sp vs H Q E → vs.length = ps.length)
  (hbody : ∀ (cdv : Value) (A : Around) (outer : List Env) (s : Shared) (H : Hp) (vs : List V) (Q : VK) (E : XK), Room k (A.deeper (envOfC qual (Jkt st) s.heap.objs.size f cdv)) → sp vs H Q E →
   ∃ t, PSs (Jrq CX0 P w K mg base N qual (Jkt st) f cdv A outer s H E).nox (Jmm st) t ∧ t { nx := fun _ H' => Q .non H', rt := Q } (start N vs) H) : FnOk P w K mg base CX0 (k + 1) f fd ps sp := by
 obtain ⟨oc, od, kV, doc, pm, an, cdv, ct, osl, rfl, lk, hcd⟩ := F.ex
 refine fn_of lk hcd S len fun A outer s H vs Q E hr hsp => ?_
 obtain ⟨t, h, q⟩ := hbody cdv A outer s H vs Q E hr hsp
 exact ⟨t, h.nox, q⟩
theorem Fun.binds {x qual : Str} {st : Stmt} {f : Addr} {fd : FuncData} {ps : List Str} (F : Fun K x qual st f fd)
  (h : ∀ (kV doc pm : Value) (an : Option Addr) (cdv ct : Value) (us : List Value), us.length = ps.length → bindArgs (PySem.W.fnOf x qual (Jmz st) (Jmm st) (Jkt st) .none kV doc pm an cdv ct) ⟨us, []⟩ = pure (ps.zip us)) : Binds K fd ps [] := by
 obtain ⟨oc, od, kV, doc, pm, an, cdv, ct, osl, rfl, lk, hcd⟩ := F.ex
 exact .all (h kV doc pm an cdv ct)
theorem Ju3 {x qual : Str} {st : Stmt} {f : Addr} {oc : Value} {od an : Option Addr} {osl : Array (Option Value)} {kV doc pm cdv ct : Value} (l : K.lookup f = some ⟨oc, od, .func (PySem.W.fnOf x qual (Jmz st) (Jmm st) (Jkt st) .none kV doc pm an cdv ct), osl⟩)
  (c : PySem.W.codeIn K cdv qual = true) (k : PySem.W.keepIn K (.ref f) = true) : Fun K x qual st f (PySem.W.fnOf x qual (Jmz st) (Jmm st) (Jkt st) .none kV doc pm an cdv ct) := ⟨⟨oc, od, kV, doc, pm, an, cdv, ct, osl, rfl, l, c⟩, k⟩
end
section
variable {X : Cx}
theorem pv (i : Nat) {x : Str} {pos : Pos} (hN : X.N[i]? = some x := by rfl) (hv : Vis X.env.scope x := by first | exact Or.inl rfl | exact Or.inr (Or.inl rfl) | exact Or.inr (Or.inr rfl)) (hd : (x == ("__debug__" : Str)) = false := by decide)
  (hcd : (x == ("__classdict__" : Str)) = false := by decide) : PE X (.Name x pos) (tVar i) := pe_var hN hv hd hcd
end
theorem Jlj {A B : Prop} (h : B) : if false = true then A else B := by
 rw [if_neg Bool.false_ne_true]
 exact h
theorem Jlt {A B : Prop} (h : A) : if true = true then A else B := by
 rw [if_pos rfl]
 exact h
theorem ite2 {c A B : Prop} [Decidable c] (h1 : c → A) (h2 : ¬ c → B) : if c then A else B := by
 by_cases h : c
 ·rw [if_pos h]
  exact h1 h
 ·rw [if_neg h]
  exact h2 h
def Same (H H' : Hp) : Prop := ∀ b o, H b = some o → H' b = some o
theorem Same.refl (H : Hp) : Same H H := fun _ _ h => h
theorem Same.trans {H H1 H2 : Hp} (a : Same H H1) (b : Same H1 H2) : Same H H2 := fun c o h => b c o (a c o h)
theorem Same.seq {K : PySem.W.Frag} {H H' : Hp} {a : Addr} {xs : List V} (e : Same H H') (h : SqL K H a xs) : SqL K H' a xs := by
 rcases h with (h | ⟨o, h⟩) | h
 ·exact .inl (.inl (e _ _ h))
 ·exact .inl (.inr ⟨o, e _ _ h⟩)
 ·exact .inr h
section
variable {κ : Type} [DecidableEq κ]
end
end L2
set_option Elab.async false
set_option linter.all false
set_option maxRecDepth 100000
set_option maxHeartbeats 4000000
namespace L2
open PySem PySem.Spec PyProof.Rows
def Jn4 (cells : List (Str × Addr)) : List (Str × NameKind) → List (Str × Addr) → List (Str × Addr)
 | [], acc => acc
 | (n, k) :: r, acc => if (k == NameKind.free) = true then (match cells.lookup n with | some c => Jn4 cells r ((n, c) :: acc) | none => Jn4 cells r acc) else Jn4 cells r acc
theorem Jnq {cells : List (Str × Addr)} : ∀ (ns : List (Str × NameKind)) (acc : List (Str × Addr)), (∀ x c, acc.lookup x = some c → cells.lookup x = some c) → ∀ x c, (Jn4 cells ns acc).lookup x = some c → cells.lookup x = some c
 | [], _, h, x, c, e => h x c e
 | (n, k) :: r, acc, h, x, c, e => by
  unfold Jn4 at e
  by_cases hk : (k == NameKind.free) = true
  ·rw [if_pos hk] at e
   cases hc : cells.lookup n with
   | none => rw [hc] at e; exact Jnq r acc h x c e
   | some d =>
    rw [hc] at e
    refine Jnq r ((n, d) :: acc) (fun y b q => ?_) x c e
    rw [List.lookup_cons] at q
    by_cases hy : (y == n) = true
    ·rw [hy] at q
     have hy' : y = n := beq_iff_eq.mp hy
     rw [hy', hc]
     exact q
    ·have hy' : (y == n) = false := by simpa using hy
     rw [hy'] at q
     exact h y b q
  ·rw [if_neg hk] at e
   exact Jnq r acc h x c e
theorem Jnw {cells : List (Str × Addr)} : ∀ (ns : List (Str × NameKind)) (acc : List (Str × Addr)) (x : Str), (acc.lookup x).isSome = true → ((Jn4 cells ns acc).lookup x).isSome = true
 | [], _, _, h => h
 | (n, k) :: r, acc, x, h => by
  unfold Jn4
  by_cases hk : (k == NameKind.free) = true
  ·rw [if_pos hk]
   cases hc : cells.lookup n with
   | none => exact Jnw r acc x h
   | some d =>
    refine Jnw r ((n, d) :: acc) x ?_
    rw [List.lookup_cons]
    cases hy : x == n with
    | true => rfl
    | false => exact h
  ·rw [if_neg hk]
   exact Jnw r acc x h
theorem Jnp {cells : List (Str × Addr)} {x : Str} : ∀ (ns : List (Str × NameKind)) (acc : List (Str × Addr)), (x, NameKind.free) ∈ ns → (∃ c, cells.lookup x = some c) → ((Jn4 cells ns acc).lookup x).isSome = true
 | [], _, h, _ => by simp at h
 | (n, k) :: r, acc, h, hc => by
  unfold Jn4
  rcases List.mem_cons.mp h with e | e
  ·cases e
   obtain ⟨c, hc⟩ := hc
   rw [if_pos (by decide), hc]
   exact Jnw r _ x (by rw [List.lookup_cons, beq_self_eq_true]; rfl)
  ·by_cases hk : (k == NameKind.free) = true
   ·rw [if_pos hk]
    cases hd : cells.lookup n with
    | none => exact Jnp r acc e hc
    | some d => exact Jnp r _ e hc
   ·rw [if_neg hk]
    exact Jnp r acc e hc
theorem Jsq {sc : Scope} {env : Env} (h : ∀ y ∈ sc.names, y.2 = .free → ∃ c, env.cells.lookup y.1 = some c) : closureFor sc env = pure (Jn4 env.cells sc.names []) := by
 have key : ∀ (ns : List (Str × NameKind)) (acc : List (Str × Addr)), (∀ y ∈ ns, y.2 = .free → ∃ c, env.cells.lookup y.1 = some c) →
   (forIn ns acc fun (x : Str × NameKind) (r : List (Str × Addr)) => if (x.2 == NameKind.free) = true then (cellOf env x.1 >>= fun c => pure (ForInStep.yield ((x.1, c) :: r)) : Sem _) else pure (ForInStep.yield r)) = (pure (Jn4 env.cells ns acc) : Sem _) := by
  intro ns
  induction ns with
  | nil => intro acc _; rfl
  | cons y r ih =>
   intro acc hy
   obtain ⟨n, k⟩ := y
   rw [List.forIn_cons]
   unfold Jn4
   by_cases hk : (k == NameKind.free) = true
   ·have hk' : k = .free := by simpa using hk
    obtain ⟨c, hc⟩ := hy (n, k) List.mem_cons_self hk'
    have hc' : env.cells.lookup n = some c := hc
    simp only [hk, if_true]
    have e1 : cellOf env n = pure c := by unfold cellOf; rw [hc']
    rw [e1, hc']
    exact ih _ fun z hz => hy z (List.mem_cons_of_mem _ hz)
   ·simp only [hk, if_false]
    exact ih _ fun z hz => hy z (List.mem_cons_of_mem _ hz)
 have k0 := key sc.names [] h
 unfold closureFor
 first
  | exact k0
  | (refine Eq.trans ?_ (congrArg (fun m : Sem (List (Str × Addr)) => m >>= fun r => pure r) k0); rfl)
def blk (X : Cx) (sc : Scope) (N : List Str) (C : Addr) (s : Shared) (H : Hp) (fp : List Addr) (pn : List (Addr × Obj)) : Cx :=
 { X with N := N, s₀ := s, H₀ := H, env := compEnvC sc (Jn4 X.env.cells sc.names []) C X.env, outer := X.stack, ex := fp, fn := fun _ => false, pn := pn, xe := fun _ _ => False }
def Jxl (ini : List (Option Nat)) (σ : St) : St := ini.map fun o => match o with | none => none | some j => (σ[j]?).join
def scB (sc : Scope) : Bool := decide (sc.kind = .function) && sc.names.all (fun y => decide (y.2 ≠ .cell)) && sc.names.all (fun y => !decide (y.2 = .local) || decide (sc.names.lookup y.1 = some .local))
def frB (outer : List (Str × NameKind)) (sc : Scope) : Bool := sc.names.all fun y => !decide (y.2 = .free) || (decide (outer.lookup y.1 = some .cell) || decide (outer.lookup y.1 = some .free))
def iniB (No N : List Str) (ini : List (Option Nat)) (outer : List (Str × NameKind)) (sc : Scope) : Bool :=
 (N.zip ini).all fun y => match y.2 with | none => true | some j => decide (No[j]? = some y.1) && decide (sc.names.lookup y.1 = some .free) && (decide (outer.lookup y.1 = some .cell) || decide (outer.lookup y.1 = some .free))
def PIf (X : Cx) (ifs : List Expr) (t : TT) : Prop :=
 ∀ (pins : List (Addr × Obj)) (s : Shared) (σ : St) (H : Hp) (Q : Bool → Hp → Prop), Inv X pins σ H s → t σ H Q →
  wpAny (model X.prog X.w) X.A (forIn ifs true fun c r => if r = true then do let ok ← isTrue c X.env (eval c X.env); pure (ForInStep.yield ok) else pure (ForInStep.yield r)) (TP X pins σ Q) X.xe s
def Jwj : TT := fun _ H Q => Q true H
theorem Jlm {X : Cx} : PIf X [] Jwj := fun _ _ _ H _ I h => wpAny_tests_nil ⟨H, I, h⟩
theorem Yz {X : Cx} {c : Expr} {t : TT} (h : PT X c t) : PIf X [c] t := fun pins s σ H Q I q => wpAny_tests_one (h pins s σ H Q I q)
def Y1 (wi : TI) (ini : List (Option Nat)) (g : TG) (tt : TT) (te : TE) : TE := fun σ H Q => wi σ H fun J H1 => ∀ D, H1 D = none → ∃ W : Nat → Nat → St → Hp → Prop, (∃ m, W 0 m (Jxl ini σ) (upd H1 D (.lst []))) ∧
 ∀ i m σ' H', W i m σ' H' → (J.stop i H' ∧ Q (.ref D) H') ∨ (J.go i H' ∧ ∃ N : St → Hp → Prop, (∀ σ2 H2, N σ2 H2 → ∃ m', m' < m ∧ W (i + 1) m' σ2 H2) ∧
  ∀ x H2, J.yld i H' x H2 → g x σ' H2 fun σ3 H3 => tt σ3 H3 fun b H4 => if b = true then te σ3 H4 (fun v H5 => ∃ ys, H5 D = some (.lst ys) ∧ ys.length < sizeLine ∧ N σ3 (upd H5 D (.lst (ys ++ [v])))) else N σ3 H4)
section
variable {prog : Program} {w : World} {A : Around} {R : Result → Shared → Prop} {s : Shared}
theorem Ju2 {elt target iter : Expr} {ifs : List Expr} {scope : Scope} {pos : Pos} {it acc : Value} {env : Env} (I : Nat → Shared → Prop)
  (turn : ∀ n s, I n s → wpAny (model prog w) A (pyNext it) (fun r s1 => match r with
   | none => R (.ok .next) s1
   | some v => wpAny (model prog w) A (letOwnedTupleGo target it v) (fun _ s1' => wpAny (model prog w) A (assign target env v) (fun _ s2 =>
     wpAny (model prog w) A (forIn ifs true fun c r => if r = true then do let ok ← isTrue c env (eval c env); pure (ForInStep.yield ok) else pure (ForInStep.yield r)) (fun ok s3 =>
      if ok = true then wpAny (model prog w) A (eval elt env) (fun x s4 =>
       wpAny (model prog w) A (call (.builtin "list.append") [acc, x]) (fun _ s5 => ∃ m, m < n ∧ I m s5) (fun _ _ => False) s4) (fun _ _ => False) s3
      else ∃ m, m < n ∧ I m s3) (fun _ _ => False) s2) (fun _ _ => False) s1') (fun _ _ => False) s1) (fun _ _ => False) s)
  (n : Nat) (h : I n s) : codeAny (model prog w) A (.compLoop (.ListComp elt [⟨target, iter, ifs, 0⟩] scope pos) 0 it acc env) R s := by
 refine codeAny_loop rfl I (fun n s hI => ?_) n h
 show wpAny _ A ((compTurn (.ListComp elt [⟨target, iter, ifs, 0⟩] scope pos) 0 it acc env).onRaise (fun x => do noteFrame x env; theTreesLotGoes x)) _ _ s
 refine wpAny_noted (wpAny_noRaise ?_)
 rw [compTurn_list]
 refine wpAny_bind (wpAny_standAt (wpAny_bind (wpAny_mono (turn n s hI) (fun r s1 h1 => ?_) fun _ _ h' => h')))
 cases r with
 | none => exact wpAny_pure h1
 | some v =>
  refine wpAny_bind (wpAny_mono h1 (fun _ s1' h1' => ?_) fun _ _ h' => h')
  refine wpAny_bind (wpAny_mono h1' (fun _ s2 h2 => wpAny_bind (wpAny_mono h2 (fun ok s3 h3 => ?_) fun _ _ h' => h')) fun _ _ h' => h')
  cases ok with
  | false => exact wpAny_pure ⟨rfl, h3⟩
  | true =>
   exact wpAny_bind (wpAny_bind (wpAny_mono h3 (fun x s4 h4 => wpAny_bind (wpAny_mono h4 (fun _ s5 h5 => wpAny_pure (wpAny_pure ⟨rfl, h5⟩)) fun _ _ h' => h')) fun _ _ h' => h'))
end
section
variable {X : Cx} {pins : List (Addr × Obj)} {σ : St} {H : Hp} {s : Shared}
theorem blk_ok {sc : Scope} {N : List Str} {C : Addr} {fp : List Addr} {pn : List (Addr × Obj)} (I : Inv X pins σ H s) (hk : sc.kind = .function) (hcell : ∀ y ∈ sc.names, y.2 ≠ .cell)
  (hfr : ∀ y ∈ sc.names, y.2 = .free → X.env.kindOf y.1 = some .cell ∨ X.env.kindOf y.1 = some .free) (hC : C = s.heap.objs.size) (hf : ∀ b ∈ fp, Jq6 X pins H b ∧ b < s.heap.objs.size) : (blk X sc N C s H fp pn).Ok := by
 have hin : ∀ x c, (Jn4 X.env.cells sc.names []).lookup x = some c → X.env.cells.lookup x = some c := Jnq sc.names [] (fun x c e => by simp at e)
 refine ⟨I.ok.mod, hk, I.ok.glob, I.ok.blt, Nat.le_of_eq hC.symm, fun x y c h1 h2 => I.ok.inj x y c (hin _ _ h1) (hin _ _ h2), fun x hx => ?_, fun x c h _ => (by cases h), I.ok.hd, I.ok.frames, .inl rfl, fun b hb => ?_, I.bs, Nat.le_trans I.ok.bsz I.sz, fun b o e hb => ?_, fun b hb z => ?_, I.stack, I.stkFree⟩
 ·have hx' : (relabel sc X.env).names.lookup x = some .cell ∨ (relabel sc X.env).names.lookup x = some .free := hx
  have hm : (x, NameKind.free) ∈ sc.names := by
   have : ∀ k, (relabel sc X.env).names.lookup x = some k → (k = .cell ∨ k = .free) → (x, NameKind.free) ∈ sc.names := fun k e hkk => by
    have m := PySem.mem_of_lookup e
    obtain ⟨⟨n', k'⟩, m1, m2⟩ := List.mem_map.mp m
    dsimp only at m2
    by_cases hc : (k' == NameKind.free && X.env.scope.kind == .function && X.env.kindOf n' == some .cell) = true
    ·rw [if_pos hc] at m2
     have e1 : n' = x := congrArg Prod.fst m2
     have e2 : k' = NameKind.free := by simp at hc; exact hc.1.1
     rw [← e1, ← e2]
     exact m1
    ·rw [if_neg hc] at m2
     have e1 : n' = x := congrArg Prod.fst m2
     have e2 : k' = k := congrArg Prod.snd m2
     rcases hkk with z | z
     ·exact absurd (e2.trans z) (hcell _ m1)
     ·rw [← e1, ← z, ← e2]; exact m1
   rcases hx' with e | e
   ·exact this _ e (.inl rfl)
   ·exact this _ e (.inr rfl)
  have hh := Jnp (cells := X.env.cells) sc.names [] hm (I.ok.has x (hfr _ hm rfl))
  exact Option.isSome_iff_exists.mp hh
 ·obtain ⟨⟨f0, f1, f2, f3, f4, f5⟩, lt⟩ := hf b hb
  exact ⟨fun z => Nat.ne_of_lt lt (z.trans hC), fun x c e => f4 x c (hin _ _ e)⟩
 ·obtain ⟨⟨f0, f1, f2, f3, f4, f5⟩, lt⟩ := hf b hb
  rcases f3 with z | z
  ·exact I.ok.noex b o e z
  ·exact absurd (Nat.lt_of_lt_of_le (Heap.lt_size (I.ok.bs b o e).1) z) (Nat.lt_irrefl _)
 ·obtain ⟨⟨f0, f1, f2, f3, f4, f5⟩, lt⟩ := hf b hb
  rcases List.mem_cons.mp (I.stkSub b z) with e | e
  ·exact f1 e
  ·exact f2 e
theorem Yi {sc : Scope} {N : List Str} {ini : List (Option Nat)} {fp : List Addr} {h1 : Heap} {t' : Nat} (I : Inv X pins σ H s) (hk : sc.kind = .function) (hcell : ∀ y ∈ sc.names, y.2 ≠ .cell)
  (hfr : ∀ y ∈ sc.names, y.2 = .free → X.env.kindOf y.1 = some .cell ∨ X.env.kindOf y.1 = some .free) (hf : ∀ b ∈ fp, Jq6 X pins H b ∧ b < s.heap.objs.size) (hlen : N.length = ini.length)
  (hini : ∀ (i : Nat) (x : Str) (j : Nat), N[i]? = some x → ini[i]? = some (some j) → X.N[j]? = some x ∧ sc.names.lookup x = some .free ∧ (X.env.kindOf x = some .cell ∨ X.env.kindOf x = some .free))
  (hn : h1.Ns s.heap.objs.size (fun _ => none)) (kp : ∀ b o, s.heap.get? b = some o → h1.get? b = some o) :
  Inv (blk X sc N s.heap.objs.size s H fp (X.pn ++ pins)) [] (Jxl ini σ) H { s with heap := h1, toks := t' } := by
 have hin : ∀ x c, (Jn4 X.env.cells sc.names []).lookup x = some c → X.env.cells.lookup x = some c := Jnq sc.names [] (fun x c e => by simp at e)
 refine ⟨blk_ok I hk hcell hfr rfl hf, rfl, I.bare, Un.kept kp, ⟨_, hn, fun i x v e1 e2 e3 => ?_⟩, fun x c e => ?_, I.hok.fresh (Nat.le_refl _), fun x c e => I.freeC x c (hin _ _ e), fun p hp => ?_, I.hok.kept kp, ?_⟩
 ·have e1' : N[i]? = some x := e1
  have e2' : (Jxl ini σ)[i]? = some (some v) := e2
  unfold Jxl at e2'
  rw [List.getElem?_map] at e2'
  cases hi : ini[i]? with
  | none => rw [hi] at e2'; cases e2'
  | some o =>
   rw [hi] at e2'
   cases o with
   | none => cases e2'
   | some j =>
    have e4 : (σ[j]?).join = some v := Option.some.inj e2'
    have e5 : σ[j]? = some (some v) := by
     cases q : σ[j]? with
     | none => rw [q] at e4; cases e4
     | some z => rw [q] at e4; exact congrArg some e4
    obtain ⟨a1, a2, a3⟩ := hini i x j e1' hi
    obtain ⟨m, hm, hl⟩ := I.loc
    have hvis : Vis X.env.scope x := by
     rcases a3 with z | z
     ·exact .inr (.inl z)
     ·exact .inr (.inr z)
    obtain ⟨u, r, l⟩ := hl j x v a1 e5 hvis
    refine ⟨u, r, .inr ⟨?_, ?_⟩⟩
    ·have hm2 := PySem.mem_of_lookup a2
     have e3' : Vis (relabel sc X.env) x := e3
     rcases e3' with z | z | z
     ·exfalso
      have m1 := PySem.mem_of_lookup z
      obtain ⟨⟨n', k'⟩, m2, m3⟩ := List.mem_map.mp m1
      dsimp only at m3
      have key : ∀ {ns : List (Str × NameKind)}, ns.lookup x = some .free → (ns.map fun (n, k) => if (k == NameKind.free && X.env.scope.kind == .function && X.env.kindOf n == some .cell) then (n, NameKind.cell) else (n, k)).lookup x ≠ some .local := by
       intro ns
       induction ns with
       | nil => intro q; simp at q
       | cons y r ih =>
        obtain ⟨n, k⟩ := y
        intro q
        rw [List.lookup_cons] at q
        rw [List.map_cons]
        dsimp only
        cases hx : x == n with
        | true =>
         rw [hx] at q
         have q' : k = .free := Option.some.inj q
         subst q'
         split
         ·rw [List.lookup_cons, hx]; intro z; cases z
         ·rw [List.lookup_cons, hx]; intro z; cases z
        | false =>
         rw [hx] at q
         split
         ·rw [List.lookup_cons, hx]; exact ih q
         ·rw [List.lookup_cons, hx]; exact ih q
      exact key a2 z
     ·exact .inl z
     ·exact .inr z
    ·rcases l with ⟨k1, _⟩ | ⟨_, c, hc, hcl⟩
     ·exfalso
      rcases a3 with z | z
      ·rw [z] at k1; cases k1
      ·rw [z] at k1; cases k1
     ·have hh := Jnp (cells := X.env.cells) sc.names [] (PySem.mem_of_lookup a2) ⟨c, hc⟩
      obtain ⟨c', hc'⟩ := Option.isSome_iff_exists.mp hh
      have : c' = c := by
       have q := hin _ _ hc'
       rw [hc] at q
       exact (Option.some.inj q).symm
      subst this
      obtain ⟨oc, hoc, hod⟩ := hcl
      exact ⟨c', hc', oc, kp _ _ hoc, hod⟩
 ·obtain ⟨v, oc, hoc, hod⟩ := I.cell x c (hin _ _ e)
  exact ⟨v, oc, kp _ _ hoc, hod⟩
 ·have hp' : p ∈ X.pn ++ pins := by simpa [blk] using hp
  obtain ⟨e, n, ne, nf, d⟩ := I.pin p hp'
  refine ⟨kp _ _ e, n, Nat.ne_of_lt (Heap.lt_size e), fun z => ?_, d⟩
  rcases List.mem_cons.mp (I.stkSub p.1 z) with q | q
  ·exact ne q
  ·exact nf q
 ·unfold Jxl
  show (ini.map _).length = N.length
  rw [List.length_map]
  exact hlen.symm
end
end L2
namespace L2
open PySem PySem.Spec PyProof.Rows
section
variable {X : Cx} {elt iter tg : Expr} {ifs : List Expr} {sc : Scope} {pos : Pos} {N : List Str} {ini : List (Option Nat)} {wi : TI} {g : TG} {tt : TT} {te : TE}
theorem Jtf {pins : List (Addr × Obj)} {σ : St} {H : Hp} {s : Shared} {Q : VK} {use : Option (Value → Sem Unit)} {Q' : Value → Shared → Prop} {p : Pos} (hc : X.calm = true) (hi : PI X tg iter wi)
  (hsc : scB sc = true) (hfr : frB X.env.scope.names sc = true) (hlen : N.length = ini.length) (hini : iniB X.N N ini X.env.scope.names sc = true)
  (hg : ∀ C s H fp pn, PG (blk X sc N C s H fp pn) tg g) (ht : ∀ C s H fp pn, PIf (blk X sc N C s H fp pn) ifs tt) (he : ∀ C s H fp pn, PE (blk X sc N C s H fp pn) elt te)
  (hs : ∀ x, foldedSetIterable iter X.env x = pure x) (I : Inv X pins σ H s) (h : Y1 wi ini g tt te σ H Q)
  (hfin : ∀ (D : Addr) (H' : Hp) (s' : Shared) (C : Addr) (m : Str → Option Value), Inv X pins σ H' s' → Jq6 X pins H' C → s'.heap.Ns C m → Q (.ref D) H' → compPost (model X.prog X.w) X.A X.xe use Q' (.ref D) C (.ok .next) s') :
  wpAny (model X.prog X.w) X.A (comprehension (.ListComp elt [⟨tg, iter, ifs, 0⟩] sc pos) sc X.env p (newList []) false (eval iter X.env) use) Q' X.xe s := by
 have hsc' := hsc
 unfold scB at hsc'
 rw [Bool.and_eq_true, Bool.and_eq_true] at hsc'
 obtain ⟨⟨hk0, hcell0⟩, hnames0⟩ := hsc'
 have hk : sc.kind = .function := of_decide_eq_true hk0
 have hcell : ∀ y ∈ sc.names, y.2 ≠ .cell := fun y hy => of_decide_eq_true (List.all_eq_true.mp hcell0 y hy)
 have hnames : ∀ y ∈ sc.names, y.2 = .local → sc.names.lookup y.1 = some .local := fun y hy hl => by
  have q := List.all_eq_true.mp hnames0 y hy
  rw [decide_eq_true hl] at q
  exact of_decide_eq_true (by simpa using q)
 have hfrP : ∀ y ∈ sc.names, y.2 = .free → X.env.kindOf y.1 = some .cell ∨ X.env.kindOf y.1 = some .free := fun y hy hl => by
  have q := List.all_eq_true.mp hfr y hy
  rw [decide_eq_true hl] at q
  have q2 : decide (X.env.scope.names.lookup y.1 = some .cell) = true ∨ decide (X.env.scope.names.lookup y.1 = some .free) = true := by simpa using q
  rcases q2 with z | z
  ·exact .inl (of_decide_eq_true z)
  ·exact .inr (of_decide_eq_true z)
 have hiniP : ∀ (i : Nat) (x : Str) (j : Nat), N[i]? = some x → ini[i]? = some (some j) → X.N[j]? = some x ∧ sc.names.lookup x = some .free ∧ (X.env.kindOf x = some .cell ∨ X.env.kindOf x = some .free) := fun i x j e1 e2 => by
  have hm : (x, some j) ∈ N.zip ini := by
   refine List.mem_of_getElem? (i := i) ?_
   rw [List.getElem?_zip_eq_some]
   exact ⟨e1, e2⟩
  have q := List.all_eq_true.mp hini _ hm
  dsimp only at q
  rw [Bool.and_eq_true, Bool.and_eq_true, Bool.or_eq_true] at q
  obtain ⟨⟨q1, q2⟩, q3⟩ := q
  refine ⟨of_decide_eq_true q1, of_decide_eq_true q2, ?_⟩
  rcases q3 with z | z
  ·exact .inl (of_decide_eq_true z)
  ·exact .inr (of_decide_eq_true z)
 refine wpAny_comprehension_free (use := use) rfl hs (Jsq fun y hy hl => I.ok.has y.1 (hfrP y hy hl)) hk hnames ?_
 refine thn (hi pins s σ H _ I h) fun v s1 h1 => thn h1 fun itv s2 h2 => ?_
 obtain ⟨it, fp, tn, J, H2, e, I2, T, st2, f2, step⟩ := h2
 subst e
 refine wpAny_newObj_type (wpAny_newFunctionEnv hcell (by intro y hy; simp at hy) (fun h1 hns1 hsb1 => ?_) hk)
 dsimp only at hns1 hsb1 ⊢
 have hD : H2 s2.heap.objs.size = none := I2.hok.fresh (Nat.le_refl _)
 have kp3 : ∀ b o, s2.heap.get? b = some o → (s2.heap.push { cls := .type "list", dict := none, data := .seq ([] : List Value).toArray }).get? b = some o := fun b o e => Heap.get?_push_of_some _ e
 have I3 : Inv X pins σ (upd H2 s2.heap.objs.size (.lst [])) { s2 with heap := s2.heap.push { cls := .type "list", dict := none, data := .seq ([] : List Value).toArray } } :=
  I2.laid (t' := s2.toks) kp3 (Nat.le_refl _) ⟨Nat.zero_le _, [], 0, .nil, Heap.get?_push_size _ rfl⟩
 obtain ⟨W, ⟨m0, w0⟩, turn⟩ := step s2.heap.objs.size hD
 generalize hs3 : ({ s2 with heap := s2.heap.push { cls := .type "list", dict := none, data := .seq ([] : List Value).toArray } } : Shared) = s3 at I3
 have e3h : s3.heap = s2.heap.push { cls := .type "list", dict := none, data := .seq ([] : List Value).toArray } := by rw [← hs3]
 rw [← e3h] at hns1 hsb1 kp3 ⊢
 have sz3 : s2.heap.objs.size < s3.heap.objs.size := by rw [e3h, Heap.size_push]; exact Nat.lt_succ_self _
 have hf3 : ∀ b ∈ fp, Jq6 X pins (upd H2 s2.heap.objs.size (.lst [])) b ∧ b < s3.heap.objs.size := fun b hb => by
  obtain ⟨o, eo, _⟩ := T.obj 0 _ st2 b hb
  have lt := Heap.lt_size eo
  obtain ⟨f0, fr⟩ := f2 b hb
  exact ⟨⟨by rw [Jkv (Nat.ne_of_lt lt)]; exact f0, fr⟩, Nat.lt_trans lt sz3⟩
 have kp4 : ∀ b o, s3.heap.get? b = some o → h1.get? b = some o := fun b o e => (hsb1.2 b (Nat.ne_of_lt (Heap.lt_size e))).trans (Heap.get?_push_of_some _ e)
 have I4 : Inv (blk X sc N s3.heap.objs.size s3 (upd H2 s2.heap.objs.size (.lst [])) fp (X.pn ++ pins)) [] (Jxl ini σ) (upd H2 s2.heap.objs.size (.lst [])) { s3 with heap := h1, toks := s3.toks + ([] : List (Str × Value)).length } :=
  Yi I3 hk hcell hfrP hf3 hlen hiniP hns1 kp4
 have st4 : tn 0 h1 := T.keep 0 _ _ st2 fun b hb o e => kp4 b o (kp3 b o e)
 have e4s : ({ s2 with heap := h1, toks := s2.toks + ([] : List (Str × Value)).length } : Shared) = { s3 with heap := h1, toks := s3.toks + ([] : List (Str × Value)).length } := by rw [← hs3]
 have stat : ∀ {H' : Hp}, (∀ b ∈ fp, H' b = none) → ∀ b ∈ fp, Jq6 (blk X sc N s3.heap.objs.size s3 (upd H2 s2.heap.objs.size (.lst [])) fp (X.pn ++ pins)) [] H' b := fun {H'} hn b hb => by
  obtain ⟨⟨f0, f1, f2', f3, f4, f5⟩, lt⟩ := hf3 b hb
  refine ⟨hn b hb, Nat.ne_of_lt lt, fun z => ?_, .inl hb, fun x c e => f4 x c (Jnq sc.names [] (fun x c e => by simp at e) x c e), fun p hp => f5 p (by simpa [blk] using hp)⟩
  rcases List.mem_cons.mp (I3.stkSub b z) with q | q
  ·exact f1 q
  ·exact f2' q
 have loop : ∀ s4 : Shared, s4 = { s3 with heap := h1, toks := s3.toks + ([] : List (Str × Value)).length } → codeAny (model X.prog X.w) X.A (.compLoop (.ListComp elt [⟨tg, iter, ifs, 0⟩] sc pos) 0 (.ref it) (.ref s2.heap.objs.size) (compEnvC sc (Jn4 X.env.cells sc.names []) s3.heap.objs.size X.env))
   (compPost (model X.prog X.w) X.A X.xe use Q' (.ref s2.heap.objs.size) s3.heap.objs.size) s4 := by
  rintro s4 rfl
  refine Ju2 (fun n s' => ∃ i σ' H', Inv (blk X sc N s3.heap.objs.size s3 (upd H2 s2.heap.objs.size (.lst [])) fp (X.pn ++ pins)) [] σ' H' s' ∧ tn i s'.heap ∧ (∀ b ∈ fp, H' b = none) ∧ W i n σ' H') ?_ m0
   ⟨0, _, _, I4, st4, fun b hb => (hf3 b hb).1.1, w0⟩
  rintro n s5 ⟨i, σ5, H5, I5, st5, fr5, w5⟩
  rcases turn i n σ5 H5 w5 with ⟨stop, q⟩ | ⟨go, N', hN', step'⟩
  ·refine thn (T.done (blk X sc N s3.heap.objs.size s3 (upd H2 s2.heap.objs.size (.lst [])) fp (X.pn ++ pins)) rfl rfl rfl hc i [] s5 σ5 H5 _ I5 (stat fr5) st5 stop) fun r s6 ⟨hr, I6⟩ => ?_
   subst hr
   have un : Un (frs X.stack) fp H2 H5 s2.heap s6.heap := (Un.laid (fs := frs X.stack) (ex := fp) kp3 (Nat.le_refl _) hD).trans I6.base
   have os6 : s6.os = s2.os := I6.os.trans (show s3.os = s2.os by rw [← hs3])
   have IX : Inv X pins σ H5 s6 := I2.call' (ch := fp) os6 un I6.hok I6.bare fun b hb => by
    obtain ⟨⟨f0, f1, f2', f3, f4, f5⟩, lt⟩ := hf3 b hb
    exact ⟨f3, f1, f4, f5⟩
   obtain ⟨m, hm, _⟩ := I6.loc
   exact hfin _ H5 s6 s3.heap.objs.size m IX (I2.fpOk (Nat.le_of_lt sz3) I6.free) hm q
  ·refine thn (T.item (blk X sc N s3.heap.objs.size s3 (upd H2 s2.heap.objs.size (.lst [])) fp (X.pn ++ pins)) rfl rfl rfl hc i [] s5 σ5 H5 _ I5 (stat fr5) st5 go) fun r s6 ⟨u, hr, h6⟩ => ?_
   subst hr
   refine thn h6 fun _ s7 ⟨x, H7, I7, r7, y7, st7, fr7⟩ => ?_
   have I7' := I7.pinned (stat fr7) (T.obj _ _ st7)
   refine thn (hg _ _ _ _ _ _ s7 σ5 H7 x u _ I7' r7 (step' x H7 y7)) fun _ s8 ⟨σ8, H8, I8, q8⟩ => ?_
   refine thn (ht _ _ _ _ _ _ s8 σ8 H8 _ I8 q8) fun ok s9 ⟨H9, I9, q9⟩ => ?_
   have again : ∀ {σ' : St} {H' : Hp} {s' : Shared}, Inv (blk X sc N s3.heap.objs.size s3 (upd H2 s2.heap.objs.size (.lst [])) fp (X.pn ++ pins)) ([] ++ Jsf fp s7.heap) σ' H' s' → N' σ' H' →
     ∃ m, m < n ∧ ∃ i σ' H', Inv (blk X sc N s3.heap.objs.size s3 (upd H2 s2.heap.objs.size (.lst [])) fp (X.pn ++ pins)) [] σ' H' s' ∧ tn i s'.heap ∧ (∀ b ∈ fp, H' b = none) ∧ W i m σ' H' := fun {σ' H' s'} J n' => by
    obtain ⟨m', hm, w'⟩ := hN' σ' H' n'
    refine ⟨m', hm, i + 1, σ', H', J.unpinned, T.keep _ _ _ st7 fun b hb o e => (J.pin (b, o) (List.mem_append_right _ (List.mem_append_right _ (Jnz hb e)))).1, fun b hb => ?_, w'⟩
    obtain ⟨o, e, d⟩ := T.obj _ _ st7 b hb
    exact (J.pin (b, o) (List.mem_append_right _ (List.mem_append_right _ (Jnz hb e)))).2.1
   cases ok with
   | false =>
    rw [if_neg Bool.false_ne_true] at q9 ⊢
    exact again I9 q9
   | true =>
    rw [if_pos rfl] at q9 ⊢
    refine thn (he _ _ _ _ _ _ s9 σ8 H9 _ I9 q9) fun v10 s10 ⟨x10, H10, I10, r10, ys, hys, hyl, q10⟩ => ?_
    refine thn (Jns _ s10 σ8 H10 (.ref s2.heap.objs.size) [x10] _ [v10] (fun _ H' => N' σ8 H') I10 rfl (.cons r10 .nil) ⟨_, ys, x10, rfl, rfl, hys, hyl, q10⟩) fun _ s11 ⟨_, H11, I11, _, q11⟩ => ?_
    exact again I11 q11
 have fin := codeAny_compStart_list (R := compPost (model X.prog X.w) X.A X.xe use Q' (.ref s2.heap.objs.size) s3.heap.objs.size) (loop _ rfl) (T.self X.A 0 { s3 with heap := h1, toks := s3.toks + ([] : List (Str × Value)).length } _ _ st4 (loop _ rfl))
 rw [← e4s] at fin
 exact fin
theorem Jll (hc : X.calm = true) (hi : PI X tg iter wi) (hg : ∀ C s H fp pn, PG (blk X sc N C s H fp pn) tg g) (ht : ∀ C s H fp pn, PIf (blk X sc N C s H fp pn) ifs tt) (he : ∀ C s H fp pn, PE (blk X sc N C s H fp pn) elt te)
  (hsc : scB sc = true := by rfl) (hfr : frB X.env.scope.names sc = true := by rfl) (hlen : N.length = ini.length := by rfl) (hini : iniB X.N N ini X.env.scope.names sc = true := by rfl)
  (hs : ∀ x, foldedSetIterable iter X.env x = pure x := by intro _; rfl) : PE X (.ListComp elt [⟨tg, iter, ifs, 0⟩] sc pos) (Y1 wi ini g tt te) := by
 intro pins s σ H Q I h
 rw [eval_ListComp]
 refine Jtf (use := none) hc hi hsc hfr hlen hini hg ht he hs I h fun D H' s' C m I' f hn q => ?_
 obtain ⟨f0, f1, f2, f3, f4, f5⟩ := f
 exact ⟨m, hn, fun h' sb => ⟨.ref D, H', I'.turned (it := C) (t' := s'.toks) (fun b o hb e => (sb.2 b hb).trans e) f0 f1 f3 f4 f5, rfl, q⟩⟩
def tSetC (i : Nat) (te : TE) : TS := fun D σ H => te σ H fun v H1 => D.nx (σ.set i (some v)) H1
theorem Ya1 {i : Nat} {y : Str} {py spos : Pos} (hN : X.N.Nodup) (hiy : X.N[i]? = some y) (hx : Loc X.env.scope y) (hc : X.calm = true) (hi : PI X tg iter wi) (hg : ∀ C s H fp pn, PG (blk X sc N C s H fp pn) tg g) (ht : ∀ C s H fp pn, PIf (blk X sc N C s H fp pn) ifs tt) (he : ∀ C s H fp pn, PE (blk X sc N C s H fp pn) elt te)
  (hf : X.fn y = true ∨ X.env.scope.names.lookup y = some .local := by first | exact .inl rfl | exact .inr rfl | assumption)
  (hsw : swapsWith (.ListComp elt [⟨tg, iter, ifs, 0⟩] sc pos) (some (.Name y py)) spos.line X.env = pure true := by rfl)
  (hsc : scB sc = true := by rfl) (hfr : frB X.env.scope.names sc = true := by rfl) (hlen : N.length = ini.length := by rfl) (hini : iniB X.N N ini X.env.scope.names sc = true := by rfl)
  (hs : ∀ x, foldedSetIterable iter X.env x = pure x := by intro _; rfl) : PS X (.Assign [.Name y py] (.ListComp elt [⟨tg, iter, ifs, 0⟩] sc pos) spos) (tSetC i (Y1 wi ini g tt te)) := by
 intro pins s σ H D I h
 rw [exec_Assign_Name_used _ _ _ _ hsw]
 refine wpAny_bind (wpAny_standAt (wpAny_bind ?_))
 show wpAny _ X.A (do let _ ← comprehension (.ListComp elt [⟨tg, iter, ifs, 0⟩] sc pos) sc X.env _ (newList []) false (eval iter X.env) (some (assign (.Name y py) X.env))) _ _ s
 refine wpAny_bind (wpAny_mono (Jtf (use := some (assign (.Name y py) X.env)) (Q' := fun _ s' => SP X pins D .next s') hc hi hsc hfr hlen hini hg ht he hs I h fun D' H' s' C m I' f hn q => ?_) (fun _ s' hq => wpAny_pure (wpAny_pure hq)) fun _ _ e => e)
 obtain ⟨f0, f1, f2, f3, f4, f5⟩ := f
 show wpAny _ X.A (assign (.Name y py) X.env (.ref D')) _ _ _
 refine wpAny_assign_Name (Jtw I' hN hiy hx (v := .ref D') rfl (fun s'' I'' sb => ?_) hf)
 obtain ⟨a, sb, ha⟩ := sb
 have hCa : C ≠ a := by
  rcases ha with z | z
  ·rw [z]; exact f1
  ·exact fun e => f4 y a z e.symm
 refine ⟨m, hn.sameBut sb hCa, fun h' sb' => ⟨_, H', I''.turned (it := C) (t' := s''.toks) (fun b o hb e => (sb'.2 b hb).trans e) f0 f1 f3 f4 f5, q⟩⟩
end
section
variable {g : TG} {tt : TT} {te : TE} {H : Hp} {D : Addr} {σ : St} {R : Hp → Prop}
theorem Jrp {lo : Int} {n : Nat} (Pv : Nat → St → Hp → Prop) (h0 : Pv 0 σ H)
  (hs : ∀ i σ H, i < n → Pv i σ H → g (.int (lo + i)) σ H fun σ3 H3 => tt σ3 H3 fun b H4 => if b = true then te σ3 H4 (fun v H5 => ∃ ys, H5 D = some (.lst ys) ∧ ys.length < sizeLine ∧ Pv (i + 1) σ3 (upd H5 D (.lst (ys ++ [v])))) else Pv (i + 1) σ3 H4)
  (hd : ∀ σ H, Pv n σ H → R H) :
  ∃ W : Nat → Nat → St → Hp → Prop, (∃ m, W 0 m σ H) ∧ ∀ i m σ' H', W i m σ' H' → ((Itr lo n).stop i H' ∧ R H') ∨ ((Itr lo n).go i H' ∧ ∃ N : St → Hp → Prop, (∀ σ2 H2, N σ2 H2 → ∃ m', m' < m ∧ W (i + 1) m' σ2 H2) ∧
   ∀ x H2, (Itr lo n).yld i H' x H2 → g x σ' H2 fun σ3 H3 => tt σ3 H3 fun b H4 => if b = true then te σ3 H4 (fun v H5 => ∃ ys, H5 D = some (.lst ys) ∧ ys.length < sizeLine ∧ N σ3 (upd H5 D (.lst (ys ++ [v])))) else N σ3 H4) := by
 refine ⟨fun i m σ H => m = n - i ∧ i ≤ n ∧ Pv i σ H, ⟨n, by simp, Nat.zero_le _, h0⟩, ?_⟩
 rintro i m σ H ⟨rfl, hi, p⟩
 by_cases hlt : i < n
 ·refine .inr ⟨hlt, Pv (i + 1), fun σ' H' p' => ⟨n - (i + 1), by omega, rfl, hlt, p'⟩, fun x H' y => ?_⟩
  obtain ⟨e, y⟩ := y
  subst e y
  exact hs i σ _ hlt p
 ·have e : i = n := by omega
  subst e
  exact .inl ⟨Nat.le_refl _, hd σ H p⟩
theorem Jmg {K : PySem.W.Frag} {a : Addr} {xs : List V} (Pv : Nat → St → Hp → Prop) (h0 : Pv 0 σ H) (hl : ∀ i σ H, i ≤ xs.length → Pv i σ H → SqL K H a xs)
  (hs : ∀ i x σ H, xs[i]? = some x → Pv i σ H → g x σ H fun σ3 H3 => tt σ3 H3 fun b H4 => if b = true then te σ3 H4 (fun v H5 => ∃ ys, H5 D = some (.lst ys) ∧ ys.length < sizeLine ∧ Pv (i + 1) σ3 (upd H5 D (.lst (ys ++ [v])))) else Pv (i + 1) σ3 H4)
  (hd : ∀ σ H, Pv xs.length σ H → R H) :
  ∃ W : Nat → Nat → St → Hp → Prop, (∃ m, W 0 m σ H) ∧ ∀ i m σ' H', W i m σ' H' → ((Itl K a).stop i H' ∧ R H') ∨ ((Itl K a).go i H' ∧ ∃ N : St → Hp → Prop, (∀ σ2 H2, N σ2 H2 → ∃ m', m' < m ∧ W (i + 1) m' σ2 H2) ∧
   ∀ x H2, (Itl K a).yld i H' x H2 → g x σ' H2 fun σ3 H3 => tt σ3 H3 fun b H4 => if b = true then te σ3 H4 (fun v H5 => ∃ ys, H5 D = some (.lst ys) ∧ ys.length < sizeLine ∧ N σ3 (upd H5 D (.lst (ys ++ [v])))) else N σ3 H4) := by
 refine ⟨fun i m σ H => m = xs.length - i ∧ i ≤ xs.length ∧ Pv i σ H, ⟨xs.length, by simp, Nat.zero_le _, h0⟩, ?_⟩
 rintro i m σ H ⟨rfl, hi, p⟩
 have q := hl i σ H hi p
 by_cases hlt : i < xs.length
 ·refine .inr ⟨⟨xs, xs[i], q, by simp [hlt]⟩, Pv (i + 1), fun σ' H' p' => ⟨xs.length - (i + 1), by omega, rfl, hlt, p'⟩, fun x H' y => ?_⟩
  obtain ⟨e, y⟩ := y
  subst e
  exact hs i x σ _ (y xs q) p
 ·have e : i = xs.length := by omega
  subst e
  exact .inl ⟨⟨xs, q, Nat.le_refl _⟩, hd σ H p⟩
end
theorem Jma {i : Nat} {v : V} {σ : St} {H : Hp} {A B : St → Hp → Prop} (h : A (σ.set i (some v)) H) : Jnr i v σ H fun σ3 H3 => Jwj σ3 H3 fun b H4 => if b = true then A σ3 H4 else B σ3 H4 := by
 show if true = true then A (σ.set i (some v)) H else B (σ.set i (some v)) H
 rw [if_pos rfl]
 exact h
def sgn (c : Nat) : V := .str ⟨#[c]⟩
def Its (z : Str) : It := ⟨fun i _ => i < z.cps.size, fun i H x H' => H' = H ∧ ∃ c, z.cps[i]? = some c ∧ x = sgn c, fun i _ => z.cps.size = i⟩
def iStr (tl : TE) : TI := fun σ H R => tl σ H fun x H1 => ∃ z, x = .str z ∧ R (Its z) H1
theorem Jvi {P : Program} {w : World} {K : PySem.W.Frag} {tg : Expr} {z : Str} {it : Addr} {n : String} {fl : Nat → Array Value} {St : Nat → Heap → Prop}
  (Wk : ∀ A' : Around, A'.handled = none → Walks P w A' it [it] [it] z.cps.size (SignAt z) St) (hst : ∀ i h, St i h → ∃ o, h.get? it = some o ∧ o.cls = .type n ∧ ∃ a, o.data = .fields a)
  (hn : ["enumerate", "zip", "dict_itemiterator", "dict_reverseitemiterator", "odict_iterator", "itertools.zip_longest", "itertools.pairwise"].contains n = false)
  (hself : ∀ (A : Around) (i : Nat) (s : Shared) (Q : Value → Shared → Prop) (E : Value → Shared → Prop), St i s.heap → Q (.ref it) s → wpAny (model P w) A (pyIter (.ref it)) Q E s) : Turn P w K tg (Its z) [it] it St where
 mem := by simp
 obj := fun i h st b hb => by
  have e : b = it := by simpa using hb
  subst e
  obtain ⟨o, e, _, a, d⟩ := hst i h st
  exact ⟨o, e, fun v z => by rw [d] at z; cases z⟩
 keep := fun i h h' st k => by
  have W0 := Wk callerA rfl
  exact W0.frame i h h' st fun b hb o e => k b hb o e
 item := by
  intro X hP hw hK hc i pins s σ H E I hf st hg
  subst hP hw hK
  obtain ⟨f0, f1, f2, f3, f4, f5⟩ := hf it (by simp)
  have W := Wk X.A (I.ok.hd hc)
  refine W.item i s _ _ hg st fun v h' tk hv st' kk => ?_
  obtain ⟨c, u, hcp, rfl⟩ := hv
  have I1 : Inv X pins σ H { s with heap := h', toks := tk } := I.turned (fun b o hb e => kk b o (by simpa using hb) e) f0 f1 f3 f4 f5
  obtain ⟨o, e, cl, a, d⟩ := hst _ _ st'
  exact ⟨_, rfl, Jwv (s := { s with heap := h', toks := tk }) e cl d hn ⟨sgn c, H, I1, ⟨u, rfl⟩, ⟨rfl, c, hcp, rfl⟩, st', fun b hb => (hf b hb).1⟩⟩
 done := by
  intro X hP hw hK hc i pins s σ H E I hf st hg
  subst hP hw hK
  obtain ⟨f0, f1, f2, f3, f4, f5⟩ := hf it (by simp)
  have W := Wk X.A (I.ok.hd hc)
  have hg' : z.cps.size = i := hg
  subst hg'
  exact W.done s _ _ st fun h' tk kk => ⟨rfl, I.turned (fun b o hb e => kk b o (by simpa using hb) e) f0 f1 f3 f4 f5⟩
 self := hself
theorem pi_str {X : Cx} {tg l : Expr} {tl : TE} (hl : PE X l tl) : PI X tg l (iStr tl) := by
 intro pins s σ H R I h
 refine thn (hl pins s σ H _ I h) fun v s1 ⟨x, H1, I1, r1, z, e, q⟩ => ?_
 subst e
 obtain ⟨t, rfl⟩ := r1
 have fin : ∀ (o : Obj) (St : Nat → Heap → Prop) (n : String), Turn X.prog X.w X.K tg (Its z) [s1.heap.objs.size] s1.heap.objs.size St → St 0 (s1.heap.push o) → PIE X pins σ tg R (.ref s1.heap.objs.size) { s1 with heap := s1.heap.push o } := fun o St n T st0 => by
  refine ⟨s1.heap.objs.size, [s1.heap.objs.size], St, Its z, H1, rfl, I1.kept (t' := s1.toks) fun b o e => Heap.get?_push_of_some _ e, T, st0, fun b hb => ?_, q⟩
  have e : b = s1.heap.objs.size := by simpa using hb
  subst e
  exact I1.fpOk (Nat.le_refl _) (I1.hok.fresh (Nat.le_refl _))
 cases ha : z.cps.all (· < 128)
 ·refine wpAny_pyIter_wide ha (fin _ (fun i h => h.IsStrIter s1.heap.objs.size "str_iterator" z t i) "str_iterator" (Jvi (n := "str_iterator") (fl := fun _ => #[]) (fun A' hA => Walks.strWide hA _ z t) (fun i h st => ?_) (by decide) (fun A i s Q E st q => wpAny_pyIter_striter_wide st q)) ⟨_, Heap.get?_push_size _ rfl, rfl, rfl⟩)
  obtain ⟨o, e, c, d⟩ := st
  exact ⟨o, e, c, _, d⟩
 ·refine wpAny_pyIter_ascii ha (fin _ (fun i h => h.IsStrIter s1.heap.objs.size "str_ascii_iterator" z t i) "str_ascii_iterator" (Jvi (n := "str_ascii_iterator") (fl := fun _ => #[]) (fun A' hA => Walks.strAscii hA _ z t) (fun i h st => ?_) (by decide) (fun A i s Q E st q => wpAny_pyIter_striter_ascii st q)) ⟨_, Heap.get?_push_size _ rfl, rfl, rfl⟩)
  obtain ⟨o, e, c, d⟩ := st
  exact ⟨o, e, c, _, d⟩
theorem Jyk {z : Str} {g : TG} {tt : TT} {te : TE} {H : Hp} {D : Addr} {σ : St} {R : Hp → Prop} (Pv : Nat → St → Hp → Prop) (h0 : Pv 0 σ H)
  (hs : ∀ i c σ H, z.cps[i]? = some c → Pv i σ H → g (sgn c) σ H fun σ3 H3 => tt σ3 H3 fun b H4 => if b = true then te σ3 H4 (fun v H5 => ∃ ys, H5 D = some (.lst ys) ∧ ys.length < sizeLine ∧ Pv (i + 1) σ3 (upd H5 D (.lst (ys ++ [v])))) else Pv (i + 1) σ3 H4)
  (hd : ∀ σ H, Pv z.cps.size σ H → R H) :
  ∃ W : Nat → Nat → St → Hp → Prop, (∃ m, W 0 m σ H) ∧ ∀ i m σ' H', W i m σ' H' → ((Its z).stop i H' ∧ R H') ∨ ((Its z).go i H' ∧ ∃ N : St → Hp → Prop, (∀ σ2 H2, N σ2 H2 → ∃ m', m' < m ∧ W (i + 1) m' σ2 H2) ∧
   ∀ x H2, (Its z).yld i H' x H2 → g x σ' H2 fun σ3 H3 => tt σ3 H3 fun b H4 => if b = true then te σ3 H4 (fun v H5 => ∃ ys, H5 D = some (.lst ys) ∧ ys.length < sizeLine ∧ N σ3 (upd H5 D (.lst (ys ++ [v])))) else N σ3 H4) := by
 refine ⟨fun i m σ H => m = z.cps.size - i ∧ i ≤ z.cps.size ∧ Pv i σ H, ⟨z.cps.size, by simp, Nat.zero_le _, h0⟩, ?_⟩
 rintro i m σ H ⟨rfl, hi, p⟩
 by_cases hlt : i < z.cps.size
 ·refine .inr ⟨hlt, Pv (i + 1), fun σ' H' p' => ⟨z.cps.size - (i + 1), by omega, rfl, hlt, p'⟩, fun x H' y => ?_⟩
  obtain ⟨e, c, hcp, y⟩ := y
  subst e y
  exact hs i c σ _ hcp p
 ·have e : i = z.cps.size := by omega
  subst e
  exact .inl ⟨rfl, hd σ H p⟩
end L2
namespace L2
open PySem PySem.Spec PyProof.Rows
section
variable {X : Cx}
theorem Js6 : OpR X (binaryOp .FloorDiv) (rI (fun _ j => 0 < j ∧ j.natAbs.log2 < 9000) fun i j => .int (i / j)) := opI fun i j _ _ _ _ _ hc q => by
 have h1 : (0 : Int) < j := hc.1
 exact floordiv_int (by omega) (by rw [Int.fdiv_eq_ediv_of_nonneg i (by omega)]; exact q) (.inl (PyProof.noPylong_of_log2 hc.2))
def clsV : V → Option Value
 | .ty n => some (.type n)
 | .ref a => some (.ref a)
 | _ => none
theorem Jx9 : ∀ {ys : List Str} {us : List Value}, Vals (ys.map V.str) us → StrsAre us ys
 | [], _, .nil => .nil
 | _ :: _, _, .cons ⟨_, rfl⟩ t => .cons _ _ (Jx9 t)
def rJoin (K : PySem.W.Frag) : V → List V → Hp → VK → Prop := fun x xs H Q => ∃ (z : Str) (a : Addr) (ys : List Str), x = .str z ∧ xs = [.ref a] ∧ SqL K H a (ys.map V.str) ∧ (ys.map (·.length)).sum + ys.length * z.length ≤ 16777216 ∧ Q (.str (Txt.join z ys)) H
theorem Yo : MtR X "str.join" (rJoin X.K) := by
 intro pins s σ H x xs v us Q I rx rs h
 obtain ⟨z, a, ys, rfl, rfl, hq, hz, q⟩ := h
 obtain ⟨t, rfl⟩ := rx
 obtain ⟨u, rfl, ru⟩ := Jnt rs
 cases ru
 obtain ⟨its, r, pl, _⟩ := I.list hq
 exact join_list pl.isList (by simpa using Jx9 r) hz fun t' k => ⟨.str _, H, I.tok _, ⟨_, rfl⟩, q⟩
def rAll (K : PySem.W.Frag) : List V → Hp → VK → Prop := fun xs H Q => ∃ (a : Addr) (bs : List Bool), xs = [.ref a] ∧ SqL K H a (bs.map V.bl) ∧ Q (.bl (bs.all id)) H
theorem Joc (hc : X.calm = true) : Jn3 X (.builtin "all") (rAll X.K) := by
 intro pins s σ H xs us Q I r h
 obtain ⟨a, bs, rfl, hq, q⟩ := h
 obtain ⟨u, rfl, ru⟩ := Jnt r
 cases ru
 obtain ⟨its, rv, pl, hz⟩ := I.list hq
 have hlen := rv.length
 refine call_all_walk (wpAny_pyIter_list pl.isList ⟨s.heap.objs.size, [s.heap.objs.size, a], [s.heap.objs.size], its.toArray.size, _, _, fun i => bs.getD i true, rfl, Walks.list (prog := X.prog) (w := X.w) (A := X.A.in1) (show X.A.in1.handled = none from I.ok.hd hc) s.heap.objs.size a ?_ its.toArray, ⟨⟨_, Heap.get?_push_size _ rfl, rfl, rfl⟩, pl.isList.at fun o e => Heap.get?_push_of_some _ e⟩, ?_, fun h' tk k => ?_⟩)
 ·obtain ⟨o, _, e, _⟩ := pl
  exact Nat.ne_of_lt (Heap.lt_size e)
 ·intro i v s' Q' E' hv hq'
  have hv' : its[i]? = some v := by simpa using hv
  have hi : i < its.length := (List.getElem?_eq_some_iff.mp hv').1
  have hb : i < bs.length := by rw [List.length_map] at hlen; omega
  obtain ⟨u', hu', ru'⟩ := rv.get (i := i) (x := V.bl bs[i]) (by rw [List.getElem?_map, List.getElem?_eq_getElem hb]; rfl)
  rw [hv'] at hu'
  cases hu'
  cases ru'
  refine wpAny_truthy_bool ?_
  have : bs.getD i true = bs[i] := by rw [List.getD_eq_getElem?_getD, List.getElem?_eq_getElem hb]; rfl
  rw [← this]
  exact hq'
 ·have e : ((List.range its.toArray.size).all fun i => bs.getD i true) = bs.all id := by
   have hl2 : its.toArray.size = bs.length := by rw [List.length_map] at hlen; rw [List.size_toArray]; exact hlen.symm
   rw [hl2, Bool.eq_iff_iff, List.all_eq_true, List.all_eq_true]
   constructor
   ·intro hh b hb
    obtain ⟨i, hi, rfl⟩ := List.getElem_of_mem hb
    have := hh i (List.mem_range.mpr hi)
    rw [List.getD_eq_getElem?_getD, List.getElem?_eq_getElem hi] at this
    exact this
   ·intro hh i hi
    have hi' := List.mem_range.mp hi
    rw [List.getD_eq_getElem?_getD, List.getElem?_eq_getElem hi']
    exact hh _ (List.getElem_mem hi')
  rw [e]
  exact ⟨.bl _, H, I.kept fun b o e => k b o (fun z => by
   have z' : b = s.heap.objs.size := by simpa using z
   exact absurd (Heap.lt_size e) (by rw [z']; exact Nat.lt_irrefl _)) (Heap.get?_push_of_some _ e), rfl, q⟩
end
mutual
inductive DatV (K : PySem.W.Frag) (H : Hp) : V → PyData → Prop
 | non : DatV K H .non .none
 | bl (b : Bool) : DatV K H (.bl b) (.bool b)
 | int (i : Int) : DatV K H (.int i) (.int i)
 | str (z : Str) : DatV K H (.str z) (.str z)
 | lst {a : Addr} {xs : List V} {ds : List PyData} : SqL K H a xs → DatVs K H xs ds → DatV K H (.ref a) (.list ds)
 | tup {a : Addr} {xs : List V} {ds : List PyData} : SqT K H a xs → DatVs K H xs ds → DatV K H (.ref a) (.tuple ds)
inductive DatVs (K : PySem.W.Frag) (H : Hp) : List V → List PyData → Prop
 | nil : DatVs K H [] []
 | cons {x : V} {d : PyData} {xs : List V} {ds : List PyData} : DatV K H x d → DatVs K H xs ds → DatVs K H (x :: xs) (d :: ds)
end
section
variable {X : Cx} {pins : List (Addr × Obj)} {σ : St} {H : Hp} {s : Shared}
mutual
theorem DatV.reads (I : Inv X pins σ H s) : ∀ {x : V} {d : PyData}, DatV X.K H x d → ∀ {v : Value}, RelV x v → ∃ as, Reads s.heap v d as
 | _, _, .non, _, r => by cases r; exact ⟨_, .none⟩
 | _, _, .bl b, _, r => by cases r; exact ⟨_, .bool b⟩
 | _, _, .int i, _, r => by obtain ⟨t, rfl⟩ := r; exact ⟨_, .int i t⟩
 | _, _, .str z, _, r => by obtain ⟨t, rfl⟩ := r; exact ⟨_, .str z t⟩
 | _, _, .lst (a := a) hq hd, _, r => by
  cases r
  obtain ⟨its, rv, ⟨o, n, e, c, dd, dt⟩, _⟩ := I.list hq
  obtain ⟨as, ra⟩ := DatVs.reads I hd rv
  exact ⟨_, .list e c dt (by simpa using ra)⟩
 | _, _, .tup (a := a) hq hd, _, r => by
  cases r
  obtain ⟨its, rv, ⟨o, e, c, n, dt⟩, _⟩ := I.tuple hq
  obtain ⟨as, ra⟩ := DatVs.reads I hd rv
  exact ⟨_, .tuple e c dt (by simpa using ra)⟩
theorem DatVs.reads (I : Inv X pins σ H s) : ∀ {xs : List V} {ds : List PyData}, DatVs X.K H xs ds → ∀ {us : List Value}, Vals xs us → ∃ as, ReadsAll s.heap us ds as
 | _, _, .nil, _, r => by cases r; exact ⟨_, .nil⟩
 | _, _, .cons h t, _, r => by
  cases r with
  | cons r1 r2 =>
   obtain ⟨as, ra⟩ := DatV.reads I h r1
   obtain ⟨bs, rb⟩ := DatVs.reads I t r2
   exact ⟨_, .cons ra rb⟩
end
end
end L2
namespace L2
open PySem PySem.Spec PyProof.Rows
theorem Jl4 : bootBuiltins "isinstance" = some (.builtin "isinstance") := by decide +kernel
theorem Jmc : bootBuiltins "len" = some (.builtin "len") := by decide +kernel
theorem Jq8 : bootBuiltins "max" = some (.builtin "max") := by decide +kernel
theorem Jpa : bootBuiltins "min" = some (.builtin "min") := by decide +kernel
theorem Jri : bootBuiltins "all" = some (.builtin "all") := by decide +kernel
theorem Jrj : bootBuiltins "int" = some (.type "int") := by decide +kernel
theorem bt_str : bootBuiltins "str" = some (.type "str") := by decide +kernel
theorem Ju0 : bootBuiltins "bool" = some (.type "bool") := by decide +kernel
theorem Jn8 : bootBuiltins "list" = some (.type "list") := by decide +kernel
theorem Jm0 : bootBuiltins "tuple" = some (.type "tuple") := by decide +kernel
structure FT (K : PySem.W.Frag) (mg : Str → Option Value) (x : Str) (st : Stmt) (ps : List Str) (f : Addr) (fd : FuncData) : Prop where
 mgx : mg x = some (.ref f)
 fn : Fun K x x st f fd
 bd : Binds K fd ps []
section
variable {X : Cx} {x : Str} {st : Stmt} {ps : List Str} {f : Addr} {fd : FuncData} {sp : Sp} {k j : Nat} {p pos : Pos} {e : Expr} {es : List Expr} {t : TA}
theorem Jku (F : FT X.K X.mg x st ps f fd) (G : FnOk X.prog X.w X.K X.mg X.base CX0 k f fd ps sp) (hr : Room j X.A) (hk : k ≤ j) (ha : PA X (e :: es) t) (hg : Gl X x := by rfl) (hdb : (x == ("__debug__" : Str)) = false := by decide)
  (he : starEach (e :: es) X.env = (false, eval e X.env) :: starEach es X.env := by rfl) (hpl : (backTo pos (starEach es X.env)).any (·.1) = false := by rfl) : PE X (.Call (.Name x p) (e :: es) [] pos) (Jzz sp [] E0 t) :=
 Yw G (hr.mono hk) hg F.mgx F.fn.kp F.bd .nil Jom ha hdb he hpl
end
theorem Same.upd {H : Hp} {D : Addr} {o : HO} (h : H D = none) : Same H (upd H D o) := fun b u e => by rw [Jkv (Jkw e h)]; exact e
def Strm (H : Hp) (p : Addr) : Prop := ∃ a b c : Int, H p = some (.lst [.int a, .int b, .int c])
def But (p : Addr) (H H' : Hp) : Prop := (∀ b o, b ≠ p → H b = some o → H' b = some o) ∧ Strm H' p
theorem But.trans {p : Addr} {H H1 H2 : Hp} (a : But p H H1) (b : But p H1 H2) : But p H H2 := ⟨fun c o n e => b.1 c o n (a.1 c o n e), b.2⟩
theorem But.refl {p : Addr} {H : Hp} (s : Strm H p) : But p H H := ⟨fun _ _ _ e => e, s⟩
theorem But.same {p : Addr} {H H1 H2 : Hp} (a : But p H H1) (b : Same H1 H2) : But p H H2 := ⟨fun c o n e => b c o (a.1 c o n e), let ⟨x, y, z, e⟩ := a.2; ⟨x, y, z, b p _ e⟩⟩
theorem Strm.same {p : Addr} {H H1 : Hp} (a : Strm H p) (b : Same H H1) : Strm H1 p := let ⟨x, y, z, e⟩ := a; ⟨x, y, z, b p _ e⟩
theorem But.of {p : Addr} {H H1 : Hp} (a : Strm H p) (b : Same H H1) : But p H H1 := (But.refl a).same b
theorem But.free {p : Addr} {H H' : Hp} (s : Strm H p) (b : But p H H') {D : Addr} (h : H' D = none) : H D = none := by
 by_cases e : D = p
 ·obtain ⟨x, y, z, q⟩ := b.2
  rw [e, q] at h
  cases h
 ·cases q : H D with
  | none => rfl
  | some o =>
   rw [b.1 D o e q] at h
   cases h
theorem But.updD {p D : Addr} {H H' : Hp} {o : HO} (b : But p H H') (hD : H D = none) (ne : D ≠ p) : But p H (upd H' D o) := by
 refine ⟨fun c u n e => ?_, ?_⟩
 ·rw [Jkv (Jkw e hD)]
  exact b.1 c u n e
 ·obtain ⟨x, y, z, q⟩ := b.2
  exact ⟨x, y, z, by rw [Jkv (Ne.symm ne)]; exact q⟩
theorem Strm.ne {p D : Addr} {H : Hp} (s : Strm H p) (hD : H D = none) : D ≠ p := by
 obtain ⟨x, y, z, q⟩ := s
 exact (Jkw q hD).symm
theorem Jmn {p : Addr} {H : Hp} {a : Addr} {o : HO} (s : Strm H p) (h : H a = some o) (hn : ∀ x y z : Int, o ≠ .lst [.int x, .int y, .int z]) : a ≠ p := by
 intro e
 obtain ⟨x, y, z, q⟩ := s
 rw [e, q] at h
 exact hn x y z (Option.some.inj h).symm
def spTake : Sp := fun vs H Q _ => ∃ (p : Addr) (m : Int), vs = [.ref p, .int m] ∧ Strm H p ∧ 0 < m ∧ m.natAbs.log2 < 9000 ∧ ∀ (r : Int) (H' : Hp), 0 ≤ r → r < m → But p H H' → Q (.int r) H'
def Jzu : Sp := fun vs H Q _ => ∃ c : Int, vs = [.int c] ∧ ∀ (p : Addr) (H' : Hp), H p = none → Same H H' → Strm H' p → Q (.ref p) H'
def spCell (K : PySem.W.Frag) : Sp := fun vs H Q _ => ∃ (a : Addr) (ns : List Int) (k : Nat), vs = [.ref a, .int k] ∧ SqL K H a (ns.map V.int) ∧ ∀ n : Int, Q (.int n) H
theorem atI_of {xs : List V} {i : Int} {j : Nat} {v : V} (hi : i = j) (h : xs[j]? = some v) : atI xs i = some v := by rw [hi]; exact Jox h
theorem Jps {ns : List Int} {k : Nat} (h : k < ns.length) : atI (ns.map V.int) (k : Int) = some (.int ns[k]) := Jox (by rw [List.getElem?_map, List.getElem?_eq_getElem h]; rfl)
end L2
namespace L2
open PySem PySem.Spec PyProof.Rows Builtin Builtin.ObjectAttr
abbrev VEm : List Value := [.type "ValueError", .type "Exception", .type "BaseException", .type "object"]
def xcB (K : PySem.W.Frag) (C fI : Addr) : Bool :=
 PySem.W.findIn K (.ref C) "__getattribute__" == some (some (.builtin "BaseException.__getattribute__")) && PySem.W.findIn K (.ref C) "__getattr__" == some none && PySem.W.findIn K (.ref C) "__setattr__" == some (some (.builtin "object.__setattr__")) &&
 PySem.W.findIn K (.ref C) "__init__" == some (some (.ref fI)) && PySem.W.typeIn K (.ref fI) == some (.type "function") && PySem.W.keepIn K (.ref C) && PySem.W.hasDictIn K C && PySem.W.mroIn K C (.type "BaseException") == some true && PySem.W.mroIn K C (.type "object") == some true &&
 PySem.W.findIn K (.ref C) "__class__" == some (some (.builtin "object.__class__")) && PySem.W.specialIn K (.builtin "object.__class__") "__get__" == some (some (.builtin "getset_descriptor.__get__")) && PySem.W.takesIn K (.builtin "object.__class__") == some true
structure XCls (K : PySem.W.Frag) (C W fI : Addr) : Prop where
 obj : ∃ (nm q : Str) (N : Addr) (bs : List Value) (sn : List Str) (sub : List Value) (ab : Bool) (col : Option Bool) (dd : Option Addr) (k0 k1 k2 k3 k5 : Option Value),
  K.lookup C = some (excClassObj nm q C N bs (.ref W :: VEm) true sn sub ab col dd k0 k1 k2 k3 k5 "ValueError.__new__")
 tl : PySem.W.tailIn K VEm (.ref W :: VEm) = true
 all : xcB K C fI = true
theorem Jlz {K : PySem.W.Frag} {C fI : Addr} (h : xcB K C fI = true) :
  (PySem.W.findIn K (.ref C) "__getattribute__" = some (some (.builtin "BaseException.__getattribute__")) ∧ PySem.W.findIn K (.ref C) "__getattr__" = some none ∧ PySem.W.findIn K (.ref C) "__setattr__" = some (some (.builtin "object.__setattr__"))) ∧
  (PySem.W.findIn K (.ref C) "__init__" = some (some (.ref fI)) ∧ PySem.W.typeIn K (.ref fI) = some (.type "function") ∧ PySem.W.keepIn K (.ref C) = true ∧ PySem.W.hasDictIn K C = true) ∧ PySem.W.mroIn K C (.type "BaseException") = some true ∧ PySem.W.mroIn K C (.type "object") = some true ∧
  PySem.W.findIn K (.ref C) "__class__" = some (some (.builtin "object.__class__")) ∧ PySem.W.specialIn K (.builtin "object.__class__") "__get__" = some (some (.builtin "getset_descriptor.__get__")) ∧ PySem.W.takesIn K (.builtin "object.__class__") = some true := by
 unfold xcB at h
 simp only [Bool.and_eq_true, beq_iff_eq] at h
 obtain ⟨⟨⟨⟨⟨⟨⟨⟨⟨⟨⟨a, b⟩, c⟩, d⟩, e⟩, f⟩, g⟩, i⟩, j⟩, k⟩, l⟩, m⟩ := h
 exact ⟨⟨a, b, c⟩, ⟨d, e, f, g⟩, i, j, k, l, m⟩
section
variable {K : PySem.W.Frag} {C W fI : Addr} (c : XCls K C W fI)
include c
theorem XCls.ga : PySem.W.findIn K (.ref C) "__getattribute__" = some (some (.builtin "BaseException.__getattribute__")) := (Jlz c.all).1.1
theorem XCls.gh : PySem.W.findIn K (.ref C) "__getattr__" = some none := (Jlz c.all).1.2.1
theorem XCls.sa : PySem.W.findIn K (.ref C) "__setattr__" = some (some (.builtin "object.__setattr__")) := (Jlz c.all).1.2.2
theorem XCls.ini : PySem.W.findIn K (.ref C) "__init__" = some (some (.ref fI)) := (Jlz c.all).2.1.1
theorem XCls.fn : PySem.W.typeIn K (.ref fI) = some (.type "function") := (Jlz c.all).2.1.2.1
theorem XCls.kp : PySem.W.keepIn K (.ref C) = true := (Jlz c.all).2.1.2.2.1
theorem XCls.hd : PySem.W.hasDictIn K C = true := (Jlz c.all).2.1.2.2.2
theorem XCls.mb : PySem.W.mroIn K C (.type "BaseException") = some true := (Jlz c.all).2.2.1
theorem XCls.mo : PySem.W.mroIn K C (.type "object") = some true := (Jlz c.all).2.2.2.1
theorem XCls.cl : PySem.W.findIn K (.ref C) "__class__" = some (some (.builtin "object.__class__")) := (Jlz c.all).2.2.2.2.1
theorem XCls.cg : PySem.W.specialIn K (.builtin "object.__class__") "__get__" = some (some (.builtin "getset_descriptor.__get__")) := (Jlz c.all).2.2.2.2.2.1
theorem XCls.ct : PySem.W.takesIn K (.builtin "object.__class__") = some true := (Jlz c.all).2.2.2.2.2.2
end
theorem Jyf (self : Value) (C W : Addr) : refuseLoop self "__setattr__" (.ref C :: .ref W :: VEm) = pure () := by
 rw [refuseLoop_ref, refuseLoop_ref]
 exact PySem.F.store_ValueError.passes self
theorem XCls.mro {K : PySem.W.Frag} {C W fI : Addr} (c : XCls K C W fI) : ∃ cd, PySem.W.clsIn K C = some cd ∧ cd.mro = .ref C :: .ref W :: VEm ∧ cd.hasDict = true := by
 obtain ⟨nm, q, N, bs, sn, sub, ab, col, dd, k0, k1, k2, k3, k5, l⟩ := c.obj
 unfold PySem.W.clsIn
 rw [l]
 exact ⟨_, rfl, rfl, rfl⟩
section
variable {prog : Program} {w : World} {A : Around} {E : Value → Shared → Prop} {s : Shared} {K : PySem.W.Frag} {x C W fI : Addr} {ox : Obj} {od : Option Obj} {name : Str}
theorem Yas : builtinKind "BaseException.__getattribute__" = some .slot := by decide +kernel
theorem Yb : splitId "BaseException.__getattribute__" = some ("BaseException", "__getattribute__") := by decide +kernel
theorem Jxg {r : Found} {tk : Tok} {R : Result → Shared → Prop} (c : XCls K C W fI) (X : K.In s.heap) (I : PySem.W.InstAt s.heap x ox C od) (hf : PySem.W.findObj K C od name = some r)
  (h : wpAny (model prog w) A.in1 (match r with | .value v => ret v | .bind g b => bindTo g b (.ref x) (.ref C) | .missing => unsupported "none")
   (fun fin s' => match fin with | .done f => R (.ok f) s' | .again c' => c'.quiet = true ∧ codeAny (model prog w) A c' R s') (fun e s' => R (.error e) s') s) (hr : r ≠ .missing) :
  codeAny (model prog w) A (.call (.builtin "BaseException.__getattribute__") ⟨[.ref x, .str name tk], []⟩) R s := by
 have T0 := I.type (M := model prog w)
 have T3 := PySem.W.looks_find (M := model prog w) X I hf
 have T4 : PySem.W.Looks (model prog w) s.heap (isInstance (.ref x) (.type "BaseException")) true := T0.andThen (PySem.W.looks_mroIn X c.mb)
 have ck : ∀ {Q' : Unit → Shared → Prop} {E' : Value → Shared → Prop} {A' : Around}, Q' () s → wpAny (model prog w) A' (checkBuiltinCall "BaseException.__getattribute__" ⟨[.ref x, .str name tk], []⟩) Q' E' s := fun {Q' E' A'} q =>
  @PySem.W.check_slot (model prog w) A' E' s "BaseException.__getattribute__" "BaseException" "__getattribute__" (.ref x) [.str name tk] [] Q' Yas Yb T4 (F.args_bexc_ga (.ref x) (.str name tk)) q
 refine codeAny_call_builtin F.excAttr_ValueError.ga.plain F.entry_bexc_ga (ck ?_)
 unfold Builtin.«object.__getattribute__»
 refine wpAny_bind (wpAny_pure (wpAny_bind (wpAny_pure (wpAny_bind (T0.here (wpAny_bind (T3.here ?_)))))))
 cases r with
 | missing => exact absurd rfl hr
 | value v => exact h
 | bind gg b => exact h
theorem xc_get {v : Value} {expr : Bool} {Q : Value → Shared → Prop} (c : XCls K C W fI) (X : K.In s.heap) (I : PySem.W.InstAt s.heap x ox C od) (hf : PySem.W.findObj K C od name = some (.value v)) (hh : PySem.W.handedIn v = true)
  (q : Q v { s with toks := s.toks + 1 }) : wpAny (model prog w) A (getAttr (.ref x) name expr) Q E s := by
 obtain ⟨hp, g, d, t, os⟩ := s
 have T0 := I.type (M := model prog w)
 have T1 := PySem.W.looks_findIn (M := model prog w) X c.ga
 have T2 := PySem.W.looks_findIn (M := model prog w) X c.gh
 unfold getAttr getAttrBy
 refine wpAny_bind (wpAny_mkText (wpAny_holding (wpAny_bind (T0.at (wpAny_bind (T1.at ?_))))))
 show wpAny _ _ (getAttrByItsOwn (.ref x) _ (.ref C) _ _ _) _ _ _
 unfold getAttrByItsOwn
 refine wpAny_bind (show wpAny _ _ (typeLookup (.ref C) "__getattr__") _ _ _ from T2.at ?_)
 have e0 : callGetattribute (.ref x) (.str name t) (.builtin "BaseException.__getattribute__") expr = boundAndCalled (.builtin "BaseException.__getattribute__") (.ref x) (.str name t) := by cases expr <;> rfl
 rw [e0]
 unfold boundAndCalled
 rw [F.excAttr_ValueError.ga.bind]
 refine wpAny_bind (wpAny_attempt (wpAny_holding (wpAny_bind (wpAny_pure (wpAny_call (Jxg (s := ⟨hp, g, d, t + 1, os⟩) (r := .value v) c X I hf ?_ (fun z => nomatch z)))))))
 refine wpAny_pure ?_
 show wpAny _ _ (handedOut v) _ _ _
 rw [PySem.W.handedOut_of hh]
 exact wpAny_pure q
end
end L2
namespace L2
open PySem PySem.Spec PyProof.Rows Builtin Builtin.ObjectAttr
section
variable {prog : Program} {w : World} {A : Around} {E : Value → Shared → Prop} {s : Shared} {K : PySem.W.Frag} {x C W fI : Addr} {ox : Obj} {od : Option Obj} {name : Str} {v : Value}
theorem xc_osa {tk : Tok} {R : Result → Shared → Prop} (c : XCls K C W fI) (X : K.In s.heap) (I : PySem.W.InstAt s.heap x ox C od) (hn : PySem.W.findIn K (.ref C) name = some none)
  (h : wpAny (model prog w) A.in1 (storeInOwnDict (.ref x) (.ref C) (.str name tk) name v false)
   (fun fin s' => match fin with | .done f => R (.ok f) s' | .again c' => c'.quiet = true ∧ codeAny (model prog w) A c' R s') (fun e s' => R (.error e) s') s) :
  codeAny (model prog w) A (.call (.builtin "object.__setattr__") ⟨[.ref x, .str name tk, v], []⟩) R s := by
 have SF := PySem.F.store_object
 obtain ⟨cd, hc, hm, _⟩ := c.mro
 have T0 := I.type (M := model prog w)
 have sub : PySem.W.Looks (model prog w) s.heap (isInstance (.ref x) (.type "object")) true := T0.andThen (PySem.W.looks_mroIn X c.mo)
 have hmr : PySem.W.Looks (model prog w) s.heap (mroOf (.ref C)) cd.mro := (PySem.W.looks_clsIn X hc).andThen .now
 have T2 := PySem.W.looks_findIn (M := model prog w) X hn
 refine codeAny_call_builtin SF.slot.plain SF.entry (@PySem.W.check_slot (model prog w) _ _ s "object.__setattr__" "object" "__setattr__" (.ref x) [.str name tk, v] [] _ SF.kind SF.split sub (SF.args (.ref x) (.str name tk) v) ?_)
 rw [PySem.W.osa_eq, refuse_eq]
 refine wpAny_bind (wpAny_bind (T0.here (wpAny_bind (hmr.here ?_))))
 rw [hm, Jyf]
 exact wpAny_pure (wpAny_bind (T0.here (wpAny_bind (T2.here (wpAny_bind (wpAny_pure h))))))
theorem Jwn {vs : Array Value} {Q : Unit → Shared → Prop} (c : XCls K C W fI) (X : K.In s.heap) (hx : s.heap.get? x = some ox) (hcl : ox.cls = .ref C) (hdi : ox.dict = none) (hd : ox.data = .fields vs) (hn : PySem.W.findIn K (.ref C) name = some none)
  (h : ∀ h', (∀ b u, b ≠ x → s.heap.get? b = some u → h'.get? b = some u) → h'.get? x = some { ox with dict := some s.heap.objs.size } → h'.Ns1 s.heap.objs.size (fun y => if y = name then some v else none) → Q () { s with heap := h', toks := s.toks + 2 }) :
  wpAny (model prog w) A (setAttr (.ref x) name v) Q E s := by
 have I : PySem.W.InstAt s.heap x ox C none := ⟨hx, hcl, by unfold PySem.W.notCls; rw [hd], by rw [hdi]; trivial⟩
 obtain ⟨cd, hc, _, hdct⟩ := c.mro
 refine PySem.W.set_plain X I c.sa (xc_osa (s := { s with toks := s.toks + 1 }) c X I hn ?_)
 obtain ⟨oc, odi, oda, osl⟩ := ox
 dsimp only at hcl hdi hd
 subst hcl hdi hd
 refine wpAny_bind (wpAny_pure (wpAny_bind (wpAny_bind (wpAny_loadPart hx (wpAny_bind (PySem.W.Looks.here (s := { s with toks := s.toks + 1 }) (PySem.W.looks_clsIn X hc) ?_))))))
 rw [hdct]
 dsimp only
 simp only [Bool.not_true, Bool.false_eq_true, if_false, typeHasDict, Bool.or_false]
 have e1 : (s.heap.push { cls := .type "dict", data := .dict #[] }).get? x = some ⟨.ref C, none, .fields vs, osl⟩ := Heap.get?_push_of_some _ hx
 have nx : s.heap.objs.size ≠ x := Nat.ne_of_gt (Heap.lt_size hx)
 have n0 : (s.heap.push { cls := .type "dict", data := .dict #[] }).Ns s.heap.objs.size (fun _ => none) := ⟨_, #[], _, Heap.get?_push_size s.heap rfl, rfl, (fun e he => absurd he (by simp)), fun _ => rfl⟩
 refine wpAny_bind (wpAny_alloc (wpAny_bind (wpAny_update e1 ?_)))
 have e2 := Heap.get?_update_self (fun o => { o with dict := some s.heap.objs.size }) e1 rfl
 have n1 : ((s.heap.push { cls := .type "dict", data := .dict #[] }).update x fun o => { o with dict := some s.heap.objs.size }).Ns1 s.heap.objs.size (fun _ => none) :=
  (Heap.Ns1.of_empty n0).at fun o q => by rw [Heap.get?_update_other _ _ (Ne.symm nx)]; exact q
 refine wpAny_pure (wpAny_bind (wpAny_pure (wpAny_bind ?_)))
 refine wpAny_nsSet1 n1 fun h' n2 sb => ?_
 obtain ⟨oD, esD, epD, hoD, hdD, hcD⟩ := n2.count (PySem.Within.cons name v PySem.Within.nil)
 refine wpAny_bind (wpAny_lookBehind hoD (by rw [hdD]; exact pastItsLine_dict (Nat.le_trans hcD (Nat.le_add_left 1 sizeLine))) ?_)
 refine wpAny_pure (h h' (fun b u hb q => ?_) ((sb.2 _ (Ne.symm nx)).trans e2) n2)
 have nb : b ≠ s.heap.objs.size := Nat.ne_of_lt (Heap.lt_size q)
 rw [sb.2 b nb, Heap.get?_update_other _ _ (Ne.symm hb)]
 exact Heap.get?_push_of_some _ q
end
abbrev Jyg (us : List Value) : Obj := { cls := .type "tuple", data := .seq us.toArray }
abbrev xObj (C : Addr) (t : Addr) : Obj := { cls := .ref C, data := .fields #[.ref t, .none, .none, .none, .bool false, .none] }
section
variable {prog : Program} {w : World} {A : Around} {E : Value → Shared → Prop} {K : PySem.W.Frag} {C W fI : Addr} {us : List Value} {hp : Heap} {g : Array GenState} {d : Drawn} {t : Nat} {os : OsState}
theorem Yc {Q : PySem.Fin → Shared → Prop} (c : XCls K C W fI) (X : K.In hp) (hz : us.length ≤ sizeLine)
  (h : wpAny (model prog w) A (call (.ref fI) (.ref (hp.objs.size + 1) :: us)) (fun r s' => r = .none ∧ Q (.done (.ret (.ref (hp.objs.size + 1)))) s') E ⟨(hp.push (Jyg us)).push (xObj C hp.objs.size), g, d, t, os⟩) :
  wpAny (model prog w) A (Builtin.«type.__call__» ⟨.ref C :: us, []⟩) Q E ⟨hp, g, d, t, os⟩ := by
 obtain ⟨nm, q, N, bs, sn, sub, ab, col, dd, k0, k1, k2, k3, k5, l⟩ := c.obj
 have FV := F.excBase_ValueError
 have kC := X _ _ l
 have TL : OwnTail hp VEm (.ref W :: VEm) := PySem.W.tail_of_in X c.tl
 have up : ∀ b o, hp.get? b = some o → ((hp.push (Jyg us)).push (xObj C hp.objs.size)).get? b = some o := fun b o e => Heap.get?_push_of_some _ (Heap.get?_push_of_some _ e)
 have gE : ((hp.push (Jyg us)).push (xObj C hp.objs.size)).get? (hp.objs.size + 1) = some ({ cls := .ref C, data := .fields #[.ref hp.objs.size, .none, .none, .none, .bool false, .none] } : Obj) := Heap.get?_push_at (by simp only [Heap.size_push]) rfl
 have X2 := X.keeps up
 have kC2 := X2 _ _ l
 have hcC : (Value.ref C :: .ref W :: VEm).contains (.ref C) = true := by simp
 repeat (first | with_reducible refine wpAny_loadPart_at kC ?_ | with_reducible refine wpAny_madeBy_exc kC ?_ | wp_step)
 refine codeAny_call_builtin_code (Code.quiet_builtin _ FV.quiet) (wpAny_check_new_subT FV TL kC (codeAny_exc_new_subT FV TL kC ?_ hz))
 show wpAny _ _ _ _ _ _
 unfold isInstance
 repeat (first | with_reducible refine wpAny_loadPart_at gE ?_ | (with_reducible refine wpAny_isSubtype_exc kC2 ?_; rw [hcC]) | wp_step)
 show wpAny _ _ (typeLookup (.ref C) _) _ _ _
 refine (PySem.W.looks_findIn X2 c.ini).at (wpAny_holding (wpAny_bind ((PySem.W.bind_fn X2 _ c.fn).at ?_)))
 refine wpAny_bind (wpAny_mono h (fun r s' hr => ?_) fun _ _ z => z)
 obtain ⟨rfl, hQ⟩ := hr
 wp_walk
 exact hQ
theorem Yat {s : Shared} {Q : Value → Shared → Prop} (c : XCls K C W fI) (X : K.In s.heap) (hz : us.length ≤ sizeLine)
  (h : wpAny (model prog w) (A.under (.builtin "type.__call__" ⟨.ref C :: us, []⟩)) (call (.ref fI) (.ref (s.heap.objs.size + 1) :: us)) (fun r s' => r = .none ∧ Q (.ref (s.heap.objs.size + 1)) s') E { s with heap := (s.heap.push (Jyg us)).push (xObj C s.heap.objs.size) }) :
  wpAny (model prog w) A (call (.ref C) us) Q E s := by
 obtain ⟨hp, g, d, t, os⟩ := s
 obtain ⟨nm, q, N, bs, sn, sub, ab, col, dd, k0, k1, k2, k3, k5, l⟩ := c.obj
 have kC := X _ _ l
 have v1 := tc_lookup
 have v2 := tc_bind (.ref C)
 have hT : (⟨hp, g, d, t, os⟩ : Shared).TypeIs (.ref C) "type" := ⟨_, kC, rfl⟩
 refine wpAny_call (codeAny_of_tree ?_)
 show wpAny _ _ (callAny (.ref C) _) _ _ _
 repeat (any_goals (first | assumption | with_reducible refine wpAny_loadPart_at kC ?_ | wp_step))
 exact ⟨rfl, codeAny_call_builtin_at (Code.quiet_builtin _ (by decide +kernel)) entry_typeCall (wpAny_check_type_call_sub kC (Yc c X hz h))⟩
end
end L2
namespace L2
open PySem PySem.Spec PyProof.Rows
def XO (e C : Addr) (dx : Option Addr) (fr : Bool) : HO := .ext fun h => ∃ o vs, h.get? e = some o ∧ o.cls = .ref C ∧ o.dict = dx ∧ o.data = .fields vs ∧ (∃ t, vs[0]? = some (.ref t)) ∧ ∃ y, vs[1]? = some y ∧ (fr = true → y = .none)
def XD (dx : Addr) (fs : List (Str × V)) : HO := .ext fun h => ∃ mA, h.Ns1 dx mA ∧ (∀ f, RelO (fs.lookup f) (mA f)) ∧ PySem.Within mA (fs.map (·.1)) ∧ fs.length ≤ 1000
section
variable {P : Program} {w : World} {H : Hp} {h : Heap} {e C dx : Addr} {od : Option Addr} {fr : Bool} {fs : List (Str × V)}
theorem Yd {o : Obj} {vs : Array Value} (he : h.get? e = some o) (h1 : o.cls = .ref C) (h2 : o.dict = od) (h3 : o.data = .fields vs) (h4 : ∃ t, vs[0]? = some (.ref t)) (h5 : ∃ y, vs[1]? = some y ∧ (fr = true → y = .none)) : ObjOk P w H h e (XO e C od fr) :=
 ⟨⟨o, vs, he, h1, h2, h3, h4, h5⟩, ⟨o, he⟩, fun _ _ ⟨o, vs, a, r⟩ k => ⟨o, vs, k o a, r⟩⟩
theorem Jsn (hok : HOk P w H h) (q : H e = some (XO e C od fr)) : ∃ o vs, h.get? e = some o ∧ o.cls = .ref C ∧ o.dict = od ∧ o.data = .fields vs ∧ (∃ t, vs[0]? = some (.ref t)) ∧ ∃ y, vs[1]? = some y ∧ (fr = true → y = .none) := (hok e _ q).1
theorem xd_ok {mA : Str → Option Value} (n : h.Ns1 dx mA) (r : ∀ f, RelO (fs.lookup f) (mA f)) (w' : PySem.Within mA (fs.map (·.1))) (z : fs.length ≤ 1000) : ObjOk P w H h dx (XD dx fs) :=
 ⟨⟨mA, n, r, w', z⟩, (let ⟨o, _, _, q, _⟩ := n; ⟨o, q⟩), fun _ _ ⟨m, a, r⟩ k => ⟨m, a.at k, r⟩⟩
theorem xd_get (hok : HOk P w H h) (q : H dx = some (XD dx fs)) : ∃ mA, h.Ns1 dx mA ∧ (∀ f, RelO (fs.lookup f) (mA f)) ∧ PySem.Within mA (fs.map (·.1)) ∧ fs.length ≤ 1000 := (hok dx _ q).1
theorem Jxh (hok : HOk P w H h) (q : H e = some (XO e C (some dx) fr)) (qd : H dx = some (XD dx fs)) : ∃ (ox oD : Obj) (mA : Str → Option Value), PySem.W.InstAt h e ox C (some oD) ∧ (∀ n, PySem.W.lookIn n oD = some (mA n)) ∧ ∀ f, RelO (fs.lookup f) (mA f) := by
 obtain ⟨o, vs, he, hc, hd, hf, _⟩ := Jsn hok q
 obtain ⟨mA, n1, r, _⟩ := xd_get hok qd
 obtain ⟨oD, hD, hl⟩ := Jtm n1
 exact ⟨o, oD, mA, ⟨he, hc, by unfold PySem.W.notCls; rw [hf], by rw [hd]; exact hD⟩, hl, r⟩
end
section
variable {X : Cx} {pins : List (Addr × Obj)} {σ : St} {H : Hp} {s : Shared} {e C W fI dx : Addr} {fs : List (Str × V)} {fr : Bool} {f : Str} {v : V} {A : Around} {E : Value → Shared → Prop}
theorem Jvl {b : Bool} {Q : Value → Shared → Prop} (I : Inv X pins σ H s) (q : H e = some (XO e C (some dx) fr)) (qd : H dx = some (XD dx fs)) (c : XCls X.K C W fI) (n : NoAttr X.K C f) (l : fs.lookup f = some v)
  (h : ∀ u s', Inv X pins σ H s' → RelV v u → Q u s') : wpAny (model X.prog X.w) A (getAttr (.ref e) f b) Q E s := by
 obtain ⟨ox, oD, mA, J, hl, r⟩ := Jxh I.hok q qd
 obtain ⟨u, hu, ru⟩ := RelO.some_of (v := v) (o := mA f) (by rw [← l]; exact r f)
 exact xc_get c I.kIn J (PySem.W.findObj_own c.hd n rfl (by rw [hl, hu])) (Jti ru) (h u _ (I.tok _) ru)
theorem Ye {y : V} {u : Value} {Q : Unit → Shared → Prop} (I : Inv X pins σ H s) (q : H e = some (XO e C none fr)) (c : XCls X.K C W fI) (n : NoAttr X.K C f) (ry : RelV y u)
  (h : ∀ dx s', H dx = none → dx ≠ e → Inv X pins σ (upd (upd H dx (XD dx [(f, y)])) e (XO e C (some dx) fr)) s' → Q () s') : wpAny (model X.prog X.w) A (setAttr (.ref e) f u) Q E s := by
 obtain ⟨o, vs, he, hc, hd, hf, h0, h1⟩ := Jsn I.hok q
 have ne : s.heap.objs.size ≠ e := Nat.ne_of_gt (Heap.lt_size he)
 have hn : H s.heap.objs.size = none := I.hok.fresh (Nat.le_refl _)
 refine Jwn c I.kIn he hc hd hf n fun h' kp ke n1 => h s.heap.objs.size _ hn ne ?_
 have hD : h'.get? s.heap.objs.size ≠ none := by obtain ⟨oD, _, _, q1, _⟩ := n1; rw [q1]; exact fun z => nomatch z
 have qd : ∀ m : Hp, ObjOk X.prog X.w m h' s.heap.objs.size (XD s.heap.objs.size [(f, y)]) := fun m => xd_ok n1 (fun g => by
  by_cases z : g = f
  ·have zb : (g == f) = true := beq_iff_eq.mpr z
   simp only [List.lookup, zb, if_pos z]; exact ry
  ·have zb : (g == f) = false := beq_eq_false_iff_ne.mpr z
   simp only [List.lookup, zb, if_neg z]; exact True.intro) (fun g hg => by
  by_cases z : g = f
  ·rw [z]; simp
  ·exact absurd (if_neg z) hg) (by simp)
 have un1 : Un X.fs [] H (upd (upd H s.heap.objs.size (XD s.heap.objs.size [(f, y)])) e (XO e C (some s.heap.objs.size) fr)) s.heap h' := by
  have nb : ∀ b ob, s.heap.get? b = some ob → b ≠ s.heap.objs.size := fun b ob z => Nat.ne_of_lt (Heap.lt_size z)
  have sm : ∀ b u', H b = some u' → u' ≠ XO e C none fr → upd (upd H s.heap.objs.size (XD s.heap.objs.size [(f, y)])) e (XO e C (some s.heap.objs.size) fr) b = some u' := fun b u' z d => by
   rw [Jkv (fun w' : b = e => d (by rw [w', q] at z; exact (Option.some.inj z).symm)), Jkv (Jkw z hn)]; exact z
  refine ⟨fun b ob z n _ _ => kp b ob (fun w' => by rw [w', q] at n; cases n) z, fun b ob z n _ _ => ⟨ob.slots, kp b ob (fun w' => by rw [w', q] at n; cases n) z⟩, fun b ob z n _ => ?_, fun b ob z _ => ?_, fun b xs z => sm b _ z (fun w' => by cases w'), fun b ob u' z => sm b _ z (fun w' => by cases w'), fun b ps z => ⟨#[], by rw [sm b _ z (fun w' => by cases w')]; simp⟩⟩
  ·rw [Jkv (fun w' => by rw [w', q] at n; cases n), Jkv (nb b ob z)]; exact n
  ·by_cases w' : b = e
   ·exact ⟨_, by rw [w']; exact ke⟩
   ·exact ⟨ob, kp b ob w' z⟩
 refine I.un (t' := s.toks + 2) un1 fun b ob z => ?_
 by_cases w1 : b = e
 ·subst w1
  rw [Jko] at z; cases z
  exact Yd ke hc rfl hf h0 h1
 ·rw [Jkv w1] at z
  by_cases w2 : b = s.heap.objs.size
  ·subst w2
   rw [Jko] at z; cases z
   exact qd _
  ·rw [Jkv w2] at z
   have keep : ∀ c' u', H c' = some u' → u' ≠ XO e C none fr → upd (upd H s.heap.objs.size (XD s.heap.objs.size [(f, y)])) e (XO e C (some s.heap.objs.size) fr) c' = some u' := fun c' u' zz d => by
    rw [Jkv (fun w' : c' = e => d (by rw [w', q] at zz; exact (Option.some.inj zz).symm)), Jkv (Jkw zz hn)]; exact zz
   refine (I.hok b ob z).stay (fun c' v' hc' zz => kp c' v' ?_ zz) (fun c' zz => keep c' _ zz (fun w' => by cases w')) fun c' xs zz => keep c' _ zz (fun w' => by cases w')
   rcases hc' with rfl | hc'
   ·exact w1
   ·rintro rfl; rw [q] at hc'; cases hc'
theorem Inv.xmade {us : List Value} (I : Inv X pins σ H s) : Inv X pins σ (upd H (s.heap.objs.size + 1) (XO (s.heap.objs.size + 1) C none true)) { s with heap := (s.heap.push (Jyg us)).push (xObj C s.heap.objs.size) } := by
 have I1 := I.kept (h' := s.heap.push (Jyg us)) (t' := s.toks) fun b u q => Heap.get?_push_of_some _ q
 refine I1.laid (a := s.heap.objs.size + 1) (t' := s.toks) (fun b u q => Heap.get?_push_of_some _ q) (Nat.le_of_eq (Heap.size_push _ _)) ?_
 exact Yd (Heap.get?_push_at (by simp only [Heap.size_push]) rfl) rfl rfl rfl ⟨_, rfl⟩ ⟨_, rfl, fun _ => rfl⟩
end
def tFldX (K : PySem.W.Frag) (ta : TE) (f : Str) : TE := fun σ H Q => ta σ H fun x H1 => ∃ e C W fI dx fs v fr, x = .ref e ∧ H1 e = some (XO e C (some dx) fr) ∧ H1 dx = some (XD dx fs) ∧ XCls K C W fI ∧ NoAttr K C f ∧ fs.lookup f = some v ∧ Q v H1
def sFldN (K : PySem.W.Frag) (ta tv : TE) (f : Str) : TS := fun D σ H => tv σ H fun y H1 => ta σ H1 fun x H2 => ∃ e C W fI fr, x = .ref e ∧ H2 e = some (XO e C none fr) ∧ XCls K C W fI ∧ NoAttr K C f ∧ ∀ dx, H2 dx = none → dx ≠ e →
 D.nx σ (upd (upd H2 dx (XD dx [(f, y)])) e (XO e C (some dx) fr))
def tExc (C : Addr) (sp : Sp) (t : TA) : TE := fun σ H Q => t σ H fun vs H1 => vs.length ≤ 1000 ∧ ∀ e, H1 e = none → sp (.ref e :: vs) (upd H1 e (XO e C none true)) (fun v H2 => v = .non ∧ Q (.ref e) H2) E0
section
variable {X : Cx} {o e value : Expr} {f : Str} {pos pos' tpos p : Pos} {ta tv : TE} {C W fI : Addr} {fd : FuncData} {ps : List Str} {sp : Sp} {k j : Nat} {x : Str} {es : List Expr} {t : TA}
theorem Juh (he : PE X e ta) (hb : attributeBase e f X.env (eval e X.env) = eval e X.env) : PE X (.Attribute e f pos) (tFldX X.K ta f) := by
 intro pins s σ H Q I h
 refine Jwq hb (thn (he pins s σ H _ I h) fun u s1 ⟨x, H1, I1, rx, a, C, W, fI, dx, fs, v, fr, ex, q, qd, c, n, l, k⟩ => ?_)
 subst ex
 obtain rfl : u = Value.ref a := rx
 exact Jvl I1 q qd c n l fun u' s2 I2 ru => ⟨v, H1, I2, ru, k⟩
theorem Jn0 (ha : PE X o ta) (hv : PE X value tv) (hs : swapsWith value (some (.Attribute o f pos')) pos.line X.env = pure false) : PS X (.Assign [.Attribute o f pos'] value pos) (sFldN X.K ta tv f) := by
 intro pins s σ H D I h
 refine plainObj_wpAny_Assign_Attribute (thn (hv pins s σ H _ I h) fun u s1 ⟨y, H1, I1, ry, q⟩ => thn (ha pins s1 σ H1 _ I1 q) fun ov s2 ⟨x, H2, I2, rx, a, C, W, fI, fr, ex, ea, c, n, q2⟩ => ?_) hs
 subst ex
 obtain rfl : ov = Value.ref a := rx
 exact Ye I2 ea c n ry fun dx s3 h1 h2 I3 => ⟨σ, _, I3, q2 dx h1 h2⟩
theorem Ya4 {pins : List (Addr × Obj)} {σ : St} {H : Hp} {s : Shared} {Q : VK} {us : List Value} {vs : List V} (c : XCls X.K C W fI) (G : FnOk X.prog X.w X.K X.mg X.base CX0 k fI fd ps sp) (hr : Room (k + 1) X.A) (hb : Binds X.K fd ps []) (I : Inv X pins σ H s) (r : Vals vs us) (hz : vs.length ≤ 1000)
  (h : ∀ e, H e = none → sp (.ref e :: vs) (upd H e (XO e C none true)) (fun v H2 => v = .non ∧ Q (.ref e) H2) E0) : wpAny (model X.prog X.w) X.A (call (.ref C) us) (EP X pins σ Q) X.xe s := by
 have hq := h (s.heap.objs.size + 1) (I.hok.fresh (Nat.le_succ _))
 have I2 := Inv.xmade (C := C) (us := us) I
 have r2 : Vals (V.ref (s.heap.objs.size + 1) :: vs) (Value.ref (s.heap.objs.size + 1) :: us) := .cons rfl r
 have hl : (Value.ref (s.heap.objs.size + 1) :: us ++ []).length = ps.length := by
  rw [List.append_nil, ← r2.length, G.len _ _ _ _ hq]
 refine Yat c I.kIn (by rw [← r.length]; exact Nat.le_trans hz (by decide)) (wpAny_call (codeAny_mono (G.run _ X.stack _ _ ⟨Value.ref (s.heap.objs.size + 1) :: us, []⟩ (Value.ref (s.heap.objs.size + 1) :: us) _ _ E0 (hr.make C us [])
  (I2.env0.make C us []) (by have := hb _ (Value.ref (s.heap.objs.size + 1) :: us) I2.kIn hl; rw [List.append_nil] at this; exact this) r2 hq) fun r s' hq' => ?_))
 cases r with
 | error e => exact False.elim hq'
 | ok fl =>
  cases fl with
  | ret u =>
   obtain ⟨v, H', I3, rv, ev, q3⟩ := I2.after hq'
   subst ev
   exact ⟨rv, ⟨V.ref (s.heap.objs.size + 1), H', I3, rfl, q3⟩⟩
  | next => exact False.elim hq'
  | brk => exact False.elim hq'
  | cont => exact False.elim hq'
theorem Jme (c : XCls X.K C W fI) (G : FnOk X.prog X.w X.K X.mg X.base CX0 k fI fd ps sp) (hr : Room j X.A) (hk : k + 1 ≤ j) (hb : Binds X.K fd ps []) (hm : X.mg x = some (.ref C)) (ha : PA X (e :: es) t) (hg : Gl X x := by rfl)
  (hdb : (x == ("__debug__" : Str)) = false := by decide) (he : starEach (e :: es) X.env = (false, eval e X.env) :: starEach es X.env := by rfl) (hpl : (backTo pos (starEach es X.env)).any (·.1) = false := by rfl) :
  PE X (.Call (.Name x p) (e :: es) [] pos) (tExc C sp t) := by
 intro pins s σ H Q I h
 refine wpAny_Call_Name_kw (Jny I hg hm ?_ hdb)
 refine PySem.W.callWith_K (h₀ := X.base) I.ok.mod.kin c.kp (thn (ha pos pins s σ H _ I h) fun us s1 ⟨vs, H1, I1, r, z, q⟩ => ⟨I1.kIn, ?_⟩) he hpl
 exact Ya4 c G (hr.mono hk) hb I1 r z q
end
section
variable {K : PySem.W.Frag} {C W fI : Addr} {x : Addr}
theorem xkit (c : XCls K C W fI) : PySem.W.KitX K (.ref x) (.ref C) (fun h => ∃ ox od, PySem.W.InstAt h x ox C (some od)) where
 ty := fun _ _ _ ⟨_, _, I⟩ => I.type
 it := fun _ _ X _ => by
  obtain ⟨nm, q, N, bs, sn, sub, ab, col, dd, k0, k1, k2, k3, k5, l⟩ := c.obj
  intro A' Q' E' s' k q
  unfold isType loadHead
  exact wpAny_bind (wpAny_loadPart (k _ _ (X _ _ l)) (wpAny_pure q))
 ne := fun h tp dd its n sl X htp => by
  obtain ⟨nm, q, N, bs, sn, sub, ab, col, dd, k0, k1, k2, k3, k5, l⟩ := c.obj
  refine Bool.eq_false_iff.mpr fun z => ?_
  have e : C = tp := Value.ref.inj (beq_iff_eq.mp z)
  subst e
  have z := congrArg (Option.map (·.cls)) ((X _ _ l).symm.trans htp)
  simp at z
 ca := fun {prog w A E Q s} X ⟨ox, od, I⟩ kq => by
  have hf : PySem.W.findObj K C (some od) "__class__" = some (.bind (.builtin "getset_descriptor.__get__") (.builtin "object.__class__")) := PySem.W.findObj_data (by obtain ⟨cd, hc, _⟩ := c.mro; rw [hc]; rfl) c.cl c.cg c.ct
  obtain ⟨hp, g, d, t, os⟩ := s
  have T0 := I.type (M := model prog w)
  have T1 := PySem.W.looks_findIn (M := model prog w) X c.ga
  have T2 := PySem.W.looks_findIn (M := model prog w) X c.gh
  unfold getAttr? getAttrBy? getAttrBy
  refine wpAny_bind (wpAny_mkText (wpAny_bind (wpAny_attempt (wpAny_holding (wpAny_bind (T0.at (wpAny_bind (T1.at ?_))))))))
  show wpAny _ _ (getAttrByItsOwn (.ref x) _ (.ref C) _ _ _) _ _ _
  unfold getAttrByItsOwn
  refine wpAny_bind (show wpAny _ _ (typeLookup (.ref C) "__getattr__") _ _ _ from T2.at ?_)
  show wpAny _ _ ((holding _ (boundAndCalled (.builtin "BaseException.__getattribute__") (.ref x) (.str "__class__" t))).attempt >>= _) _ _ _
  unfold boundAndCalled
  rw [F.excAttr_ValueError.ga.bind]
  refine wpAny_bind (wpAny_attempt (wpAny_holding (wpAny_bind (wpAny_pure (wpAny_call (Jxg (s := ⟨hp, g, d, t + 1, os⟩) c X I hf ?_ (fun z => nomatch z)))))))
  show wpAny _ _ (holding [_] (call _ [_, .ref x, .ref C]) >>= ret) _ _ _
  refine wpAny_bind (wpAny_holding (wpAny_call (PySem.W.class_get (s := ⟨hp, g, d, t + 1, os⟩) X I c.mo (wpAny_pure ?_))))
  show wpAny _ _ (handedOut (.ref C)) _ _ _
  rw [PySem.W.handedOut_of rfl]
  exact wpAny_pure (wpAny_pure kq)
end
end L2
namespace L2
open PySem PySem.Spec PyProof.Rows
section
variable {M : Model} {A : Around} {E : Value → Shared → Prop} {s : Shared} {env : Env} {outer : List Env} {base : Heap} {L e T : Addr} {oe oT : Obj} {vs ts : Array Value} {Q : Unit → Shared → Prop}
theorem Jtr {head : Value} {hadNext : Bool} (hfr : A.frames = some (env :: outer)) (hl : s.heap.FunFrames base (env :: outer)) (hf : env.frame = some L) (he : s.heap.get? e = some oe) (hd : oe.data = .fields vs) (hz : 1 < vs.size)
  (hQ : ∀ h' T, (∀ b o, s.heap.get? b = some o → b ∉ frs (env :: outer) → b ≠ e → h'.get? b = some o) → (∀ b o, s.heap.get? b = some o → b ≠ e → ∃ sl, h'.get? b = some { o with slots := sl }) → s.heap.objs.size ≤ T →
   h'.get? e = some (oe.mapFields (·.setIfInBounds 1 (.ref T))) → (∃ oT ts, h'.get? T = some oT ∧ oT.data = .fields ts ∧ ts[3]? = some (rawInt L)) → Q () { s with heap := h' }) :
  wpAny M A (do let a ← frameOf env; let pl ← entryPlaceOf L hadNext; let b ← EntryCells.newEntry head a .none (rawInt L) .none pl; setField (.ref e) 1 b) Q E s := by
 have hen : e ∉ frs (env :: outer) := fun z => by
  obtain ⟨_, o, ho, nf⟩ := hl.mem z
  rw [he] at ho
  cases ho
  exact nf vs hd
 refine wpAny_bind (wpAny_frameOf_fun hfr hl hf fun h1 sl1 => wpAny_bind (wpAny_entryPlaceOf fun pl hpl => ?_))
 unfold EntryCells.newEntry newFields
 have he1 : h1.get? e = some oe := (sl1.2.1 e hen).trans he
 have nT : h1.objs.size ≠ e := Nat.ne_of_gt (Heap.lt_size he1)
 refine wpAny_bind (wpAny_newObj_type (wpAny_setField (Heap.get?_push_of_some _ he1) hd hz (hQ _ h1.objs.size (fun b o hb hn ne => ?_) (fun b o hb ne => ?_) (Nat.le_of_eq sl1.1.symm) (Heap.get?_update_self _ (Heap.get?_push_of_some _ he1) (Obj.isFreed_of_fields (Obj.data_mapFields hd _))) ?_)) (hpl.sizeOk5 _ _ _ _ _))
 ·rw [Heap.get?_update_other _ _ (Ne.symm ne)]
  exact Heap.get?_push_of_some _ ((sl1.2.1 b hn).trans hb)
 ·obtain ⟨sl, q⟩ := sl1.2.2 b o hb
  exact ⟨sl, by rw [Heap.get?_update_other _ _ (Ne.symm ne)]; exact Heap.get?_push_of_some _ q⟩
 ·refine ⟨_, _, (Heap.get?_update_other _ _ (Ne.symm nT)).trans (Heap.get?_push_size h1 rfl), rfl, ?_⟩
  first | (simp; done) | (rcases hpl with rfl | ⟨_, _, _, _, _, _, _, rfl⟩ <;> simp)
theorem Jvy (hfr : A.frames = some (env :: outer)) (hl : s.heap.FunFrames base (env :: outer)) (hf : env.frame = some L) (he : s.heap.get? e = some oe) (hd : oe.data = .fields vs) (h1 : vs[1]? = some .none)
  (hQ : ∀ h' T, (∀ b o, s.heap.get? b = some o → b ∉ frs (env :: outer) → b ≠ e → h'.get? b = some o) → (∀ b o, s.heap.get? b = some o → b ≠ e → ∃ sl, h'.get? b = some { o with slots := sl }) → s.heap.objs.size ≤ T →
   h'.get? e = some (oe.mapFields (·.setIfInBounds 1 (.ref T))) → (∃ oT ts, h'.get? T = some oT ∧ oT.data = .fields ts ∧ ts[3]? = some (rawInt L)) → Q () { s with heap := h' }) :
  wpAny M A (noteFrame (.ref e) env) Q E s := by
 unfold noteFrame
 simp only [hf]
 refine wpAny_bind (wpAny_field he hd h1 ?_)
 rw [if_neg (by decide : ¬ (Value.none != Value.none) = true)]
 exact Jtr hfr hl hf he hd (Array.getElem?_eq_some_iff.mp h1).1 hQ
theorem Jxs (hfr : A.frames = some (env :: outer)) (hl : s.heap.FunFrames base (env :: outer)) (hf : env.frame = some L) (he : s.heap.get? e = some oe) (hd : oe.data = .fields vs) (h1 : vs[1]? = some (.ref T))
  (hT : s.heap.get? T = some oT) (hdT : oT.data = .fields ts) (h3 : ts[3]? = some .none) (ne : T ≠ e)
  (hQ : ∀ h' T', (∀ b o, s.heap.get? b = some o → b ∉ frs (env :: outer) → b ≠ e → b ≠ T → h'.get? b = some o) → (∀ b o, s.heap.get? b = some o → b ≠ e → b ≠ T → ∃ sl, h'.get? b = some { o with slots := sl }) → s.heap.objs.size ≤ T' →
   h'.get? e = some (oe.mapFields (·.setIfInBounds 1 (.ref T'))) → (∃ oT ts, h'.get? T' = some oT ∧ oT.data = .fields ts ∧ ts[3]? = some (rawInt L)) → Q () { s with heap := h' }) :
  wpAny M A (noteFrame (.ref e) env) Q E s := by
 unfold noteFrame
 simp only [hf]
 refine wpAny_bind (wpAny_field he hd h1 ?_)
 rw [if_pos (by simp : (Value.ref T != Value.none) = true)]
 refine wpAny_bind (wpAny_field hT hdT h3 ?_)
 rw [if_neg (by simp [rawInt] : ¬ (Value.none == rawInt L) = true)]
 have ot : ∀ b, b ≠ T → (s.heap.update T (Obj.mapFields (·.setIfInBounds 3 Value.none))).get? b = s.heap.get? b := fun b hb => Heap.get?_update_other _ _ (Ne.symm hb)
 have nr : ∀ b o, s.heap.get? b = some o → (∀ ws, o.data ≠ .fields ws) → b ≠ T := fun b o hb nf z => by
  rw [z, hT] at hb
  cases hb
  exact nf ts hdT
 refine wpAny_bind (wpAny_setField hT hdT (Array.getElem?_eq_some_iff.mp h3).1 ?_)
 refine Jtr (s := { s with heap := s.heap.update T (Obj.mapFields (·.setIfInBounds 3 Value.none)) }) hfr (hl.of_keeps fun b o hb nf => ⟨o, (ot b (nr b o hb nf)).trans hb, rfl⟩) hf ((ot e (Ne.symm ne)).trans he) hd (Array.getElem?_eq_some_iff.mp h1).1 fun h' T' k1 k2 k3 k4 k5 => ?_
 refine hQ h' T' (fun b o hb hn h1 h2 => k1 b o ((ot b h2).trans hb) hn h1) (fun b o hb h1 h2 => k2 b o ((ot b h2).trans hb) h1) ?_ k4 k5
 have z : (s.heap.update T (Obj.mapFields (·.setIfInBounds 3 Value.none))).objs.size = s.heap.objs.size := Heap.size_after_update ..
 rw [← z]; exact k3
end
def Flt (X : Cx) (pins : List (Addr × Obj)) (H : Hp) (h : Heap) (e : Addr) (fl : Value) : Prop :=
 ∃ oe vs T oT ts, h.get? e = some oe ∧ oe.data = .fields vs ∧ vs[1]? = some (.ref T) ∧ H T = none ∧ h.get? T = some oT ∧ oT.data = .fields ts ∧ ts[3]? = some fl ∧ X.s₀.heap.objs.size ≤ T ∧ ∀ p ∈ X.pn ++ pins, p.1 ≠ T
def Jwo (X : Cx) : Prop := X.stack = X.env :: X.outer ∧ X.env.frame = some X.env.locals
section
variable {X : Cx} {pins : List (Addr × Obj)} {σ : St} {H : Hp} {s : Shared} {e C : Addr} {od : Option Addr} {fr fr' : Bool} {A : Around} {M : Model} {E : Value → Shared → Prop} {Q : Unit → Shared → Prop} {fl : Value} {h' : Heap}
theorem Inv.freeOf (I : Inv X pins σ H s) {b : Addr} {o : Obj} {ts : Array Value} (hb : s.heap.get? b = some o) (hd : o.data = .fields ts) : b ≠ X.env.locals ∧ ∀ x c, X.env.cells.lookup x = some c → c ≠ b := by
 refine ⟨fun z => ?_, fun x c e z => ?_⟩
 ·obtain ⟨m, ⟨o', es, ep, ho', hd', _⟩, _⟩ := I.loc
  rw [z, ho'] at hb; cases hb; rw [hd'] at hd; cases hd
 ·obtain ⟨v, o', ho', hd'⟩ := I.cell x c e
  rw [z, hb] at ho'; cases ho'; rw [hd] at hd'; cases hd'
theorem Inv.fly {ch : List Addr} (I : Inv X pins σ H s) (q : H e = some (XO e C od fr)) (hch : ∀ b ∈ ch, X.s₀.heap.objs.size ≤ b ∧ H b = none ∧ (∃ o ts, s.heap.get? b = some o ∧ o.data = .fields ts) ∧ ∀ p ∈ X.pn ++ pins, p.1 ≠ b)
  (k : ∀ b o, s.heap.get? b = some o → b ∉ frs X.stack → b ≠ e → b ∉ ch → h'.get? b = some o) (ks : ∀ b o, s.heap.get? b = some o → b ≠ e → b ∉ ch → ∃ sl, h'.get? b = some { o with slots := sl })
  (new : ObjOk X.prog X.w (upd H e (XO e C od fr')) h' e (XO e C od fr')) : Inv X pins σ (upd H e (XO e C od fr')) { s with heap := h' } := by
 have ne : ∀ b u, H b = some u → u ≠ XO e C od fr → b ≠ e := fun b u z d w' => d (by rw [w', q] at z; exact (Option.some.inj z).symm)
 have nn : ∀ b, H b = none → b ≠ e := fun b z w' => by rw [w', q] at z; cases z
 have u : Un (frs X.stack) ch H (upd H e (XO e C od fr')) s.heap h' := by
  refine ⟨fun b o hb n hs hc => k b o hb hs (nn b n) hc, fun b o hb n _ hc => ks b o hb (nn b n) hc, fun b o _ n _ => by rw [Jkv (nn b n)]; exact n, fun b o hb hc => ?_, fun b xs z => ?_, fun b o u z => ?_, fun b ps z => ⟨#[], ?_⟩⟩
  ·by_cases w' : b = e
   ·rw [w']; exact new.2.1
   ·obtain ⟨sl, z⟩ := ks b o hb w' hc
    exact ⟨_, z⟩
  ·rw [Jkv (ne b _ z (fun w' => by cases w'))]; exact z
  ·rw [Jkv (ne b _ z (fun w' => by cases w'))]; exact z
  ·rw [Jkv (ne b _ z (fun w' => by cases w')), z]; simp
 refine I.call (g' := s.gens) (d' := s.drawn) (t' := s.toks) (ch := ch) u (fun b o z => ?_) I.bare fun b hb => ?_
 ·by_cases w' : b = e
  ·subst w'
   rw [Jko] at z; cases z
   exact new
  ·rw [Jkv w'] at z
   refine (I.hok b o z).stay (fun c v hc zz => k c v zz ?_ ?_ ?_) (fun c zz => by rw [Jkv (ne c _ zz (fun w' => by cases w'))]; exact zz) fun c xs zz => by rw [Jkv (ne c _ zz (fun w' => by cases w'))]; exact zz
   ·intro hs
    have := I.stkFree c hs
    rcases hc with rfl | hc
    ·rw [this] at z; cases z
    ·rw [this] at hc; cases hc
   ·rcases hc with rfl | hc
    ·exact w'
    ·exact ne c _ hc (fun w' => by cases w')
   ·intro hb
    have := (hch c hb).2.1
    rcases hc with rfl | hc
    ·rw [this] at z; cases z
    ·rw [this] at hc; cases hc
 ·obtain ⟨h1, _, ⟨o, ts, ho, hd⟩, h4⟩ := hch b hb
  exact ⟨.inr h1, (I.freeOf ho hd).1, (I.freeOf ho hd).2, h4⟩
theorem Jx1 (I : Inv X pins σ H s) (hs : Jwo X) (hA : A.frames = some X.stack) (q : H e = some (XO e C od fr)) (hfl : fr = true ∨ Flt X pins H s.heap e .none)
  (h : ∀ s', Inv X pins σ (upd H e (XO e C od false)) s' → Flt X pins (upd H e (XO e C od false)) s'.heap e (rawInt X.env.locals) → Q () s') : wpAny M A (noteFrame (.ref e) X.env) Q E s := by
 obtain ⟨o, vs, he, hc, hd, hf, ⟨t0, h0⟩, y, h1, hy⟩ := Jsn I.hok q
 have hA' : A.frames = some (X.env :: X.outer) := by rw [hA, hs.1]
 have FF : s.heap.FunFrames X.base (X.env :: X.outer) := by rw [← hs.1]; exact I.stack
 have sub : ∀ b, b ∉ frs X.stack → b ∉ frs (X.env :: X.outer) := fun b z w' => z (by rw [hs.1]; exact w')
 have new : ∀ {h' : Heap} {T : Addr}, h'.get? e = some (o.mapFields (·.setIfInBounds 1 (.ref T))) → ObjOk X.prog X.w (upd H e (XO e C od false)) h' e (XO e C od false) := fun {h' T} z => by
  have hz : 1 < vs.size := (Array.getElem?_eq_some_iff.mp h1).1
  refine Yd z ((Obj.cls_mapFields _ _).trans hc) ?_ (Obj.data_mapFields hf _) ⟨t0, by rw [Array.getElem?_setIfInBounds_ne (by decide)]; exact h0⟩ ⟨.ref T, by simp [hz], fun z => nomatch z⟩
  obtain ⟨_, _, dt, _⟩ := o
  cases dt <;> first | exact hd | cases hf
 have fin : ∀ {h' : Heap} {T : Addr}, Inv X pins σ (upd H e (XO e C od false)) { s with heap := h' } → s.heap.objs.size ≤ T → h'.get? e = some (o.mapFields (·.setIfInBounds 1 (.ref T))) → (∃ oT ts, h'.get? T = some oT ∧ oT.data = .fields ts ∧ ts[3]? = some (rawInt X.env.locals)) → Q () { s with heap := h' } := fun {h' T} J k3 k4 ⟨oT, ts, k5, k6, k7⟩ => by
  have hz : 1 < vs.size := (Array.getElem?_eq_some_iff.mp h1).1
  refine h _ J ⟨_, _, T, oT, ts, k4, Obj.data_mapFields hf _, by simp [hz], ?_, k5, k6, k7, Nat.le_trans I.sz k3, fun p hp z => ?_⟩
  ·rw [Jkv (fun z => absurd (Heap.lt_size he) (by rw [← z]; exact Nat.not_lt.mpr k3))]
   exact I.hok.fresh k3
  ·obtain ⟨z1, _⟩ := I.pin p hp
   exact absurd (Heap.lt_size z1) (by rw [z]; exact Nat.not_lt.mpr k3)
 by_cases hfr : y = .none
 ·subst hfr
  refine Jvy hA' FF hs.2 he hf h1 fun h' T k1 k2 k3 k4 k5 => fin (I.fly (ch := []) q (fun b z => absurd z (by simp)) (fun b o hb hn ne _ => k1 b o hb (sub b hn) ne) (fun b o hb ne _ => k2 b o hb ne) (new k4)) k3 k4 k5
 ·rcases hfl with z | ⟨oe, ws, T, oT, ts, z1, z2, z3, z4, z5, z6, z7, z8, z9⟩
  ·exact absurd (hy z) hfr
  ·rw [he] at z1; cases z1
   rw [hf] at z2; cases z2
   have ne : T ≠ e := fun w' => by rw [w', q] at z4; cases z4
   refine Jxs hA' FF hs.2 he hf z3 z5 z6 z7 ne fun h' T' k1 k2 k3 k4 k5 => fin (I.fly (ch := [T]) q (fun b hb => ?_) (fun b o hb hn ne hc => k1 b o hb (sub b hn) ne (by simpa using hc)) (fun b o hb ne hc => k2 b o hb ne (by simpa using hc)) (new k4)) k3 k4 k5
   obtain rfl : b = T := by simpa using hb
   exact ⟨z8, z4, ⟨oT, ts, z5, z6⟩, z9⟩
theorem Jqc (I : Inv X pins σ H s) (q : H e = some (XO e C od fr)) (hfl : Flt X pins H s.heap e fl) (h : ∀ s', Inv X pins σ H s' → Flt X pins H s'.heap e .none → Q () s') : wpAny M A (setFlight (.ref e) none) Q E s := by
 obtain ⟨oe, vs, T, oT, ts, z1, z2, z3, z4, z5, z6, z7, z8, z9⟩ := hfl
 have hz : 3 < ts.size := (Array.getElem?_eq_some_iff.mp z7).1
 have ne : T ≠ e := fun w' => by rw [w', q] at z4; cases z4
 have ot : ∀ b, b ≠ T → (s.heap.update T (Obj.mapFields (·.setIfInBounds 3 Value.none))).get? b = s.heap.get? b := fun b hb => Heap.get?_update_other _ _ (Ne.symm hb)
 refine wpAny_setFlight_none z1 z2 z3 z5 z6 hz (h _ (I.turned (it := T) (t' := s.toks) (fun b o hb z => (ot b hb).trans z) z4 (I.freeOf z5 z6).1 (.inr z8) (I.freeOf z5 z6).2 z9) ?_)
 exact ⟨oe, vs, T, _, _, (ot e (Ne.symm ne)).trans z1, z2, z3, z4, Heap.get?_update_self _ z5 (Obj.isFreed_of_fields (Obj.data_mapFields z6 _)), Obj.data_mapFields z6 _, by simp [hz], z8, z9⟩
end
def CXX (P : Program) (w : World) : CXT := fun outer H s E ev s' => ∃ e C dx H', ev = .ref e ∧ s'.os = s.os ∧ AllBare s'.gens ∧ Un (frs outer) [] H H' s.heap s'.heap ∧ HOk P w H' s'.heap ∧ H' e = some (XO e C (some dx) false) ∧
 (∃ oe vs T oT ts, s'.heap.get? e = some oe ∧ oe.data = .fields vs ∧ vs[1]? = some (.ref T) ∧ H' T = none ∧ s'.heap.get? T = some oT ∧ oT.data = .fields ts ∧ ts[3]? = some .none ∧ s.heap.objs.size ≤ T) ∧ E (.ref C) (some e) H'
def Jrg (X : Cx) (R : St → XK) : Prop := ∀ pins σ H s e C dx fr, Inv X pins σ H s → H e = some (XO e C (some dx) fr) → (fr = true ∨ Flt X pins H s.heap e .none) → R σ (.ref C) (some e) (upd H e (XO e C (some dx) false)) → X.xe (.ref e) s
theorem Jlp {P : Program} {w : World} {K : PySem.W.Frag} {mg : Str → Option Value} {base : Heap} {N : List Str} {qual : Str} {scope : Scope} {f : Addr} {cd : Value} {A : Around} {outer : List Env} {s : Shared} {H : Hp} {E : XK} :
  Jrg (Jrq (CXX P w) P w K mg base N qual scope f cd A outer s H E) (fun _ => E) := by
 intro pins σ H1 s1 e C dx fr I q hfl hE
 show wpAny _ _ (leaving _ _) _ _ _
 unfold leaving
 refine wpAny_bind (Jx1 I ⟨rfl, rfl⟩ I.ok.frames q hfl fun s2 I2 f2 => Jqc I2 Jko f2 fun s3 I3 f3 => ?_)
 obtain ⟨oe, vs, T, oT, ts, z1, z2, z3, z4, z5, z6, z7, z8, _⟩ := f3
 exact ⟨e, C, dx, _, rfl, I3.os, I3.bare, I3.base, I3.hok, Jko, ⟨oe, vs, T, oT, ts, z1, z2, z3, z4, z5, z6, z7, z8⟩, hE⟩
theorem upd_id {H : Hp} {a : Addr} {o : HO} (h : H a = some o) : upd H a o = H := by
 funext b
 unfold upd
 split
 ·rename_i z; rw [z, h]
 ·rfl
section
variable {X : Cx} {pins : List (Addr × Obj)} {σ : St} {H : Hp} {s s' : Shared} {R : St → XK} {ev : Value}
theorem Yau (hw : Jrg X R) (I : Inv X pins σ H s) (h : CXX X.prog X.w X.stack H s (R σ) ev s') : X.xe ev s' := by
 obtain ⟨e, C, dx, H', rfl, ho, hg, un, hok, q, ⟨oe, vs, T, oT, ts, z1, z2, z3, z4, z5, z6, z7, z8⟩, hR⟩ := h
 have I' : Inv X pins σ H' s' := I.call' (ch := []) ho un hok hg fun b z => absurd z (by simp)
 refine hw pins σ H' s' e C dx false I' q (.inr ⟨oe, vs, T, oT, ts, z1, z2, z3, z4, z5, z6, z7, Nat.le_trans I.sz z8, fun p hp z => ?_⟩) (by rw [upd_id q]; exact hR)
 obtain ⟨y1, _⟩ := I.pin p hp
 exact absurd (Heap.lt_size y1) (by rw [z]; exact Nat.not_lt.mpr z8)
end
theorem FnOk.calm {P : Program} {w : World} {K : PySem.W.Frag} {mg : Str → Option Value} {base : Heap} {k : Nat} {f : Addr} {fd : FuncData} {ps : List Str} {sp : Sp} (G : FnOk P w K mg base (CXX P w) k f fd ps sp) : FnOk P w K mg base CX0 k f fd ps (fun vs H Q _ => sp vs H Q E0) :=
 ⟨fun vs H Q _ h => G.len vs H Q E0 h, fun A outer s H args us vs Q E hr he hb hv hs => codeAny_mono (G.run A outer s H args us vs Q E0 hr he hb hv hs) fun r s' hq => by
  cases r with
  | error e => obtain ⟨_, _, _, _, _, _, _, _, _, _, _, z⟩ := hq; exact z.elim
  | ok fl => cases fl <;> exact hq⟩
theorem Fun.okX {P : Program} {w : World} {K : PySem.W.Frag} {mg : Str → Option Value} {base : Heap} {x qual : Str} {st : Stmt} {f : Addr} {fd : FuncData} {N ps : List Str} {k : Nat} {sp : Sp} (F : Fun K x qual st f fd) (S : Jky N ps (Jkt st)) (len : ∀ vs H Q E, sp vs H Q E → vs.length = ps.length)
  (hbody : ∀ (cdv : Value) (A : Around) (outer : List Env) (s : Shared) (H : Hp) (vs : List V) (Q : VK) (E : XK), Room k (A.deeper (envOfC qual (Jkt st) s.heap.objs.size f cdv)) → sp vs H Q E →
   ∃ t, PSs (Jrq (CXX P w) P w K mg base N qual (Jkt st) f cdv A outer s H E) (Jmm st) t ∧ t { nx := fun _ H' => Q .non H', rt := Q } (start N vs) H) : FnOk P w K mg base (CXX P w) (k + 1) f fd ps sp := by
 obtain ⟨oc, od, kV, doc, pm, an, cdv, ct, osl, rfl, lk, hcd⟩ := F.ex
 exact fn_of lk hcd S len fun A outer s H vs Q E hr hsp => hbody cdv A outer s H vs Q E hr hsp
def tCallX (sp : Sp) (R : St → XK) (t : TA) : TE := fun σ H Q => t σ H fun vs H1 => sp vs H1 Q (R σ)
section
variable {X : Cx} {k j : Nat} {f C : Addr} {fd : FuncData} {ps : List Str} {sp : Sp} {R : St → XK} {x m : Str} {p pos apos : Pos} {e o : Expr} {es : List Expr} {ta : TE} {t : TA}
theorem Ya5 {pins : List (Addr × Obj)} {σ : St} {H : Hp} {s : Shared} {Q : VK} {us : List Value} {vs : List V} (G : FnOk X.prog X.w X.K X.mg X.base (CXX X.prog X.w) k f fd ps sp) (hw : Jrg X R) (hr : Room k X.A) (hb : Binds X.K fd ps [])
  (I : Inv X pins σ H s) (r : Vals vs us) (h : sp vs H Q (R σ)) : wpAny (model X.prog X.w) X.A (call (.ref f) us) (EP X pins σ Q) X.xe s := by
 have hl : (us ++ []).length = ps.length := by rw [List.append_nil, ← r.length, G.len _ _ _ _ h]
 have hb' := hb s us I.kIn hl
 rw [List.append_nil] at hb'
 refine wpAny_call (codeAny_mono (G.run X.A X.stack s H ⟨us, []⟩ us vs Q (R σ) hr I.env0 hb' r h) fun r s' hq => ?_)
 cases r with
 | error e => exact Yau hw I hq
 | ok fl =>
  cases fl with
  | ret u => exact I.after hq
  | next => exact False.elim hq
  | brk => exact False.elim hq
  | cont => exact False.elim hq
theorem Jmf {st : Stmt} (F : FT X.K X.mg x st ps f fd) (G : FnOk X.prog X.w X.K X.mg X.base (CXX X.prog X.w) k f fd ps sp) (hw : Jrg X R) (hr : Room j X.A) (hk : k ≤ j) (ha : PA X (e :: es) t) (hg : Gl X x := by rfl)
  (hdb : (x == ("__debug__" : Str)) = false := by decide) (he : starEach (e :: es) X.env = (false, eval e X.env) :: starEach es X.env := by rfl) (hpl : (backTo pos (starEach es X.env)).any (·.1) = false := by rfl) :
  PE X (.Call (.Name x p) (e :: es) [] pos) (tCallX sp R t) := by
 intro pins s σ H Q I h
 refine wpAny_Call_Name_kw (Jny I hg F.mgx ?_ hdb)
 refine PySem.W.callWith_K (h₀ := X.base) I.ok.mod.kin F.fn.kp (thn (ha pos pins s σ H _ I h) fun us s1 ⟨vs, H1, I1, r, q⟩ => ⟨I1.kIn, ?_⟩) he hpl
 exact Ya5 G hw (hr.mono hk) F.bd I1 r q
end
end L2
namespace L2
open PySem PySem.Spec PyProof.Rows
def Jzg (K : PySem.W.Frag) (R : St → XK) (te : TE) : TS := fun _ σ H => te σ H fun v H1 => ∃ e C W fI dx, v = .ref e ∧ H1 e = some (XO e C (some dx) true) ∧ XCls K C W fI ∧ R σ (.ref C) (some e) (upd H1 e (XO e C (some dx) false))
section
variable {X : Cx} {R : St → XK} {x : Expr} {pos : Pos} {te : TE}
theorem Jln (hw : Jrg X R) (hc : X.calm = true) (hx : PE X x te) : PS X (.Raise (some x) none pos) (Jzg X.K R te) := by
 intro pins s σ H D I h
 rw [arm_exec_Raise]
 refine wpAny_bind (wpAny_standAt ?_)
 show wpAny _ _ (raiseStmt X.env (some (do let v ← eval x X.env; standAt pos; pure v)) none) _ _ _
 unfold raiseStmt
 refine wpAny_bind (wpAny_bind (thn (hx pins s σ H _ I h) fun u s1 ⟨y, H1, I1, ry, e, C, W, fI, dx, ey, q, c, k⟩ => wpAny_bind (wpAny_standAt (wpAny_pure ?_))))
 subst ey
 obtain rfl : u = Value.ref e := ry
 obtain ⟨o, vs, he, hcl, hd, hf, h0, y, h1, hy⟩ := Jsn I1.hok q
 have hy' := hy rfl
 subst hy'
 have fin : X.xe (.ref e) s1 := hw pins σ H1 s1 e C dx true I1 q (.inl rfl) k
 have hh : X.A.handled = none := I.ok.hd hc
 obtain ⟨nm, qn, N, bs, sn, sub, ab, col, dd, k0, k1, k2, k3, k5, l⟩ := c.obj
 have kC := I1.kIn _ _ l
 have hcB : (Value.ref C :: .ref W :: VEm).contains (.type "BaseException") = true := by simp
 obtain ⟨oc, odi, oda, osl⟩ := o
 dsimp only at hcl hd hf
 subst hcl hd hf
 obtain ⟨hp, g, d, tk, os⟩ := s1
 repeat (first | with_reducible refine wpAny_loadPart_at he ?_ | with_reducible refine wpAny_loadPart_at kC ?_ | (with_reducible refine wpAny_isSubtype_exc kC ?_; rw [hcB]) | with_reducible refine wpAny_field he rfl h1 ?_ | wp_step)
 exact wpAny_raiseNew_none hh fin
end
structure Jvm (K : PySem.W.Frag) (C : Addr) : Prop where
 obj : ∃ (dd : Option Addr) (cd : ClassData) (sl : Array (Option Value)), K.lookup C = some ⟨.type "type", dd, .cls cd, sl⟩
 mb : PySem.W.mroIn K C (.type "BaseException") = some true
theorem XCls.e {K : PySem.W.Frag} {C W fI : Addr} (c : XCls K C W fI) : Jvm K C := by
 obtain ⟨nm, qn, N, bs, sn, sub, ab, col, dd, k0, k1, k2, k3, k5, l⟩ := c.obj
 exact ⟨⟨_, _, _, l⟩, c.mb⟩
section
variable {prog : Program} {w : World} {A : Around} {E : Value → Shared → Prop} {s : Shared} {K : PySem.W.Frag} {e C C0 : Addr} {oe : Obj} {b : Bool}
theorem Jvw {Q : Bool → Shared → Prop} (X : K.In s.heap) (c0 : Jvm K C0) (he : s.heap.get? e = some oe) (hc : oe.cls = .ref C) (hm : PySem.W.mroIn K C (.ref C0) = some b) (q : Q b s) : wpAny (model prog w) A (excMatches (.ref e) (.ref C0)) Q E s := by
 obtain ⟨dd, cd, sl, l⟩ := c0.obj
 have k0 := X _ _ l
 have f0 := tc_notTuple
 have m1 := PySem.W.looks_mroIn (M := model prog w) X c0.mb
 have m2 := PySem.W.looks_mroIn (M := model prog w) X hm
 obtain ⟨oc, odi, oda, osl⟩ := oe
 dsimp only at hc
 subst hc
 obtain ⟨hp, g, d, tk, os⟩ := s
 unfold excMatches
 repeat (first | with_reducible refine wpAny_loadPart_at he ?_ | with_reducible refine wpAny_loadPart_at k0 ?_ | with_reducible refine m1.at ?_ | with_reducible refine m2.at ?_ | wp_step)
 cases b <;> (repeat wp_step) <;> exact q
end
def Cx.caught (X : Cx) (e : Addr) : Cx := { X with A := X.A.mark (some (.ref e)), calm := false, xe := fun _ _ => False }
def Cx.tried (X : Cx) (pins : List (Addr × Obj)) (R : St → XK) : Cx :=
 { X with pn := X.pn ++ pins, xe := fun ev s' => ∃ σ H e C dx fr, ev = .ref e ∧ Inv X pins σ H s' ∧ H e = some (XO e C (some dx) fr) ∧ (fr = true ∨ Flt X pins H s'.heap e .none) ∧ R σ (.ref C) (some e) (upd H e (XO e C (some dx) false)) }
section
variable {X : Cx} {pins pins' : List (Addr × Obj)} {σ : St} {H : Hp} {s : Shared} {R : St → XK} {e : Addr}
theorem Inv.caught (I : Inv X pins σ H s) (e : Addr) : Inv (X.caught e) pins σ H s :=
 ⟨⟨I.ok.mod, I.ok.kind, I.ok.glob, I.ok.blt, I.ok.above, I.ok.inj, I.ok.has, I.ok.cab, (fun z => nomatch z), I.ok.frames, I.ok.stk, I.ok.exf, I.ok.bs, I.ok.bsz, I.ok.noex, I.ok.exfs, I.ok.funs, I.ok.frf⟩, I.os, I.bare, I.base, I.loc, I.cell, I.free, I.freeC, I.pin, I.hok, I.len⟩
theorem Inv.uncaught (ok : X.Ok) (I : Inv (X.caught e) pins σ H s) : Inv X pins σ H s := ⟨ok, I.os, I.bare, I.base, I.loc, I.cell, I.free, I.freeC, I.pin, I.hok, I.len⟩
theorem Inv.tried (I : Inv X pins σ H s) (R : St → XK) : Inv (X.tried pins R) [] σ H s :=
 ⟨⟨I.ok.mod, I.ok.kind, I.ok.glob, I.ok.blt, I.ok.above, I.ok.inj, I.ok.has, I.ok.cab, I.ok.hd, I.ok.frames, I.ok.stk, I.ok.exf, I.ok.bs, I.ok.bsz, I.ok.noex, I.ok.exfs, I.ok.funs, I.ok.frf⟩, I.os, I.bare, I.base, I.loc, I.cell, I.free, I.freeC, (fun p hp => I.pin p (by rw [List.append_nil] at hp; exact hp)), I.hok, I.len⟩
theorem Inv.untried (I : Inv (X.tried pins R) pins' σ H s) : Inv X pins σ H s :=
 ⟨⟨I.ok.mod, I.ok.kind, I.ok.glob, I.ok.blt, I.ok.above, I.ok.inj, I.ok.has, I.ok.cab, I.ok.hd, I.ok.frames, I.ok.stk, I.ok.exf, I.ok.bs, I.ok.bsz, I.ok.noex, I.ok.exfs, I.ok.funs, I.ok.frf⟩, I.os, I.bare, I.base, I.loc, I.cell, I.free, I.freeC, (fun p hp => I.pin p (List.mem_append_left _ hp)), I.hok, I.len⟩
theorem xw_try : Jrg (X.tried pins R) R := fun pins' σ H s e C dx fr I q hfl hR => ⟨σ, H, e, C, dx, fr, rfl, I.untried, q, hfl.imp id fun ⟨oe, vs, T, oT, ts, z1, z2, z3, z4, z5, z6, z7, z8, z9⟩ => ⟨oe, vs, T, oT, ts, z1, z2, z3, z4, z5, z6, z7, z8, fun p hp => z9 p (List.mem_append_left _ hp)⟩, hR⟩
theorem SP.map {X Y : Cx} {pl pm : List (Addr × Obj)} {D : Ends} {f : Flow} {s' : Shared} (hI : ∀ σ H, Inv X pl σ H s' → Inv Y pm σ H s') (h : SP X pl D f s') : SP Y pm D f s' := by
 cases f with
 | next => obtain ⟨σ', H', I, q⟩ := h; exact ⟨σ', H', hI _ _ I, q⟩
 | brk => obtain ⟨σ', H', I, q⟩ := h; exact ⟨σ', H', hI _ _ I, q⟩
 | cont => obtain ⟨σ', H', I, q⟩ := h; exact ⟨σ', H', hI _ _ I, q⟩
 | ret u => obtain ⟨v, σ', H', I, r, q⟩ := h; exact ⟨v, σ', H', hI _ _ I, r, q⟩
theorem Jye {M : Model} {A : Around} {E : Value → Shared → Prop} {i : Nat} {n : Str} {pos : Pos} {Q : Unit → Shared → Prop} (I : Inv X pins σ H s) (hN : X.N.Nodup) (hi : X.N[i]? = some n) (hk : X.env.scope.names.lookup n = some .local)
  (h : ∀ s', Inv X pins (σ.set i none) H s' → Q () s') : wpAny M A (do bindName X.env n .none; unbindBehindTheSuite X.env n pos) Q E s := by
 obtain ⟨m, hn, hl⟩ := id I.loc
 have hcls : (X.env.scope.kind == .class || (X.env.scope.kind == .module && X.env.locals != X.env.globals)) = false := by rw [I.ok.kind]; rfl
 have cne := I.cne
 refine wpAny_nameGoes_keeps hk hn hcls fun h' v hn' sb => h _ ?_
 obtain ⟨oL, _, _, hoL, _⟩ := id hn
 have lo : ∀ b o, X.s₀.heap.get? b = some o → b ≠ X.env.locals := fun b o z => Nat.ne_of_lt (Nat.lt_of_lt_of_le (Heap.lt_size z) I.ok.above)
 refine ⟨I.ok, I.os, I.bare, ⟨fun b o z n hb hx => (sb.2 b (lo b o z)).trans (I.base.keep b o z n hb hx), fun b o z n hb hx => ?_, I.base.free, fun b o z hx => ?_, I.base.tups, I.base.frzs, I.base.tbls⟩, ⟨_, hn', fun j y v' e1 e2 e3 => ?_⟩, fun y c z => ?_, I.free, I.freeC, fun p hp => ?_, fun b ob z => ?_, by simpa using I.len⟩
 ·obtain ⟨sl, z1⟩ := I.base.slot b o z n hb hx
  exact ⟨sl, (sb.2 b (lo b o z)).trans z1⟩
 ·obtain ⟨o', z1⟩ := I.base.there b o z hx
  exact ⟨o', (sb.2 b (lo b o z)).trans z1⟩
 ·have hj : j ≠ i := fun z => by
   subst z
   have : j < σ.length := by rw [I.len]; exact (List.getElem?_eq_some_iff.mp hi).1
   rw [List.getElem?_set_self this] at e2
   cases e2
  rw [List.getElem?_set_ne (Ne.symm hj)] at e2
  obtain ⟨u', r', q⟩ := hl j y v' e1 e2 e3
  refine ⟨u', r', ?_⟩
  rcases q with ⟨k, z⟩ | ⟨k, c, z, zz⟩
  ·refine .inl ⟨k, ?_⟩
   have : y ≠ n := fun z => hj (Jrv hN e1 (z ▸ hi))
   show (if y = n then v else m y) = some u'
   rw [if_neg this]; exact z
  ·exact .inr ⟨k, c, z, zz.sameBut sb (cne y c z)⟩
 ·obtain ⟨w', zz⟩ := I.cell y c z
  exact ⟨w', zz.sameBut sb (cne y c z)⟩
 ·obtain ⟨z, n, ne, nf, d⟩ := I.pin p hp
  exact ⟨(sb.2 p.1 ne).trans z, n, ne, nf, d⟩
 ·refine (I.hok b ob z).stay (fun c w' hc q => (sb.2 c ?_).trans q) (fun _ q => q) fun _ _ q => q
  rintro rfl
  rcases hc with rfl | hc
  ·rw [I.free] at z; cases z
  ·rw [I.free] at hc; cases hc
end
abbrev TH := Ends → St → Value → Option Addr → Hp → Prop
def PH (X : Cx) (hs : List ExceptHandler) (th : TH) : Prop :=
 ∀ (pins : List (Addr × Obj)) (s : Shared) (σ : St) (H : Hp) (D : Ends) (e C dx : Addr), Inv X pins σ H s → H e = some (XO e C (some dx) false) → Flt X pins H s.heap e .none → th D σ (.ref C) (some e) H →
  wpAny (model X.prog X.w) X.A (handleBy (.ref e) X.env hs) (SP X pins D) X.xe s
def hNil : TH := fun _ _ _ _ _ => False
theorem ph_nil {X : Cx} : PH X [] hNil := fun _ _ _ _ _ _ _ _ _ _ _ h => h.elim
def Ends.less (D : Ends) (i : Nat) : Ends := ⟨fun σ H => D.nx (σ.set i none) H, D.rt, fun σ H => D.bk (σ.set i none) H, fun σ H => D.ct (σ.set i none) H⟩
def hAs (K : PySem.W.Frag) (C0 : Addr) (i : Nat) (ts : Addr → TS) (th : TH) : TH := fun D σ c eo H => ∃ e C b, c = .ref C ∧ eo = some e ∧ PySem.W.mroIn K C (.ref C0) = some b ∧ if b = true then ts e (D.less i) (σ.set i (some (.ref e))) H else th D σ c eo H
section
variable {X : Cx} {x n : Str} {np pos : Pos} {C0 : Addr} {i : Nat} {b₀ : Stmt} {suite : List Stmt} {rest : List ExceptHandler} {ts : Addr → TS} {th : TH}
theorem Jz9 (c0 : Jvm X.K C0) (hm : X.mg x = some (.ref C0)) (hN : X.N.Nodup) (hi : X.N[i]? = some n) (hl : X.env.scope.names.lookup n = some .local) (hsu : ∀ e, PSs (X.caught e) (b₀ :: suite) (ts e)) (hr : PH X rest th) (hg : Gl X x := by rfl)
  (hdb : (x == ("__debug__" : Str)) = false := by decide) : PH X (.ExceptHandler (some (.Name x np)) (some n) (b₀ :: suite) pos :: rest) (hAs X.K C0 i ts th) := by
 rintro pins s σ H D e C dx I q hfl ⟨e', C', b, hC, he, hmr, h⟩
 cases hC
 cases he
 obtain ⟨o, vs, go, gc, _⟩ := Jsn I.hok q
 refine wpAny_handleBy_cons (codeAny_handlers_test (Jny (X := X.caught e) (I.caught e) hg hm (Jvw I.kIn c0 go gc hmr ?_) hdb)) (fun z => by cases z)
 cases b with
 | false => exact hr pins s σ H D e C dx I q hfl h
 | true =>
  refine codeAny_handlers_suite_as (Jqc I q hfl fun s1 I1 f1 => Jsj (v := .ref e) I1 hN hi (.inl hl) rfl (fun s2 I2 => ?_) (.inr hl))
  refine wpAny_mono (hsu e pins s2 _ H (D.less i) (I2.caught e) h) (fun f s3 hf => ?_) fun _ _ z => False.elim z
  have go : ∀ {f : Flow} {σ' : St} {H' : Hp}, Inv (X.caught e) pins σ' H' s3 → (∀ s', Inv X pins (σ'.set i none) H' s' → SP X pins D f s') → wpAny (model X.prog X.w) X.A (do bindName X.env n .none; unbindBehindTheSuite X.env n pos) (fun _ s' => SP X pins D f s') X.xe s3 :=
   fun {f σ' H'} I3 k => Jye (Inv.uncaught I.ok I3) hN hi hl k
  cases f with
  | next => obtain ⟨σ', H', I3, k⟩ := hf; exact go I3 fun s' I' => ⟨_, H', I', k⟩
  | brk => obtain ⟨σ', H', I3, k⟩ := hf; exact go I3 fun s' I' => ⟨_, H', I', k⟩
  | cont => obtain ⟨σ', H', I3, k⟩ := hf; exact go I3 fun s' I' => ⟨_, H', I', k⟩
  | ret u => obtain ⟨v, σ', H', I3, r, k⟩ := hf; exact go I3 fun s' I' => ⟨v, _, H', I', r, k⟩
end
def tTry (tb : List (Addr × Obj) → (St → XK) → TS) (th : TH) : TS := fun D σ H => ∀ pins, tb pins (fun σ' c e H' => th D σ' c e H') D σ H
theorem ps_try {X : Cx} {body : List Stmt} {h₀ : ExceptHandler} {hs : List ExceptHandler} {pos : Pos} {tb : List (Addr × Obj) → (St → XK) → TS} {th : TH} (hst : Jwo X) (hb : ∀ pins R, Jrg (X.tried pins R) R → PSs (X.tried pins R) body (tb pins R)) (hh : PH X (h₀ :: hs) th) :
  PS X (.Try body (h₀ :: hs) [] [] pos) (tTry tb th) := by
 intro pins s σ H D I h
 refine wpAny_Try_except (wpAny_mono (hb pins (fun σ' c e H' => th D σ' c e H') xw_try [] s σ H D (I.tried _) (h pins)) (fun f s1 hf => ?_) fun ev s1 hx => ?_)
 ·have hf' : SP X pins D f s1 := hf.map fun _ _ J => J.untried
  cases f with
  | next => exact wpAny_execs_nil hf'
  | brk => exact hf'
  | cont => exact hf'
  | ret u => exact hf'
 ·obtain ⟨σ', H', e, C, dx, fr, rfl, I', q, hfl, hR⟩ := hx
  exact Jx1 I' hst I'.ok.frames q hfl fun s2 I2 f2 => Jqc I2 Jko f2 fun s3 I3 f3 => hh pins s3 σ' _ D e C dx I3 Jko f3 hR
end L2
namespace L2
open PySem PySem.Spec PyProof.Rows
structure FM (K : PySem.W.Frag) (x qual : Str) (st : Stmt) (ps : List Str) (f : Addr) (fd : FuncData) : Prop where
 fn : Fun K x qual st f fd
 bd : Binds K fd ps []
structure YCls (K : PySem.W.Frag) (C : Addr) : Prop where
 ya : PySem.W.findIn K (.ref C) "__class__" = some (some (.builtin "object.__class__"))
 yb : PySem.W.specialIn K (.builtin "object.__class__") "__get__" = some (some (.builtin "getset_descriptor.__get__"))
 yc : PySem.W.takesIn K (.builtin "object.__class__") = some true
 yd : PySem.W.mroIn K C (.type "object") = some true
theorem YCls.ty {K : PySem.W.Frag} {C a dx : Addr} {H : Hp} {fs : List (Str × V)} (y : YCls K C) (c : Cls K C) (e : H a = some (.ins C dx fs)) : Jq7 K H (.ref a) (.ref C) := .ins e c y.ya y.yb y.yc y.yd
def Jn2 (K : PySem.W.Frag) (f : Str) : Sp := fun vs H Q _ => ∃ e C W fI y, vs = [.ref e, y] ∧ H e = some (XO e C none true) ∧ XCls K C W fI ∧ NoAttr K C f ∧ ∀ dx, H dx = none → dx ≠ e → Q .non (upd (upd H dx (XD dx [(f, y)])) e (XO e C (some dx) true))
theorem Jxq {K : PySem.W.Frag} {C W fI : Addr} {f : Str} {y : V} {H : Hp} {Q : VK} (c : XCls K C W fI) (n : NoAttr K C f) (k : ∀ e dx, H e = none → H dx = none → dx ≠ e → Q (.ref e) (upd (upd H dx (XD dx [(f, y)])) e (XO e C (some dx) true))) :
  [y].length ≤ 1000 ∧ ∀ e, H e = none → Jn2 K f (.ref e :: [y]) (upd H e (XO e C none true)) (fun v H2 => v = .non ∧ Q (.ref e) H2) E0 := by
 refine ⟨by simp, fun e he => ⟨e, C, W, fI, y, rfl, Jko, c, n, fun dx h1 h2 => ⟨rfl, ?_⟩⟩⟩
 have z := k e dx he (by rw [Jkv h2] at h1; exact h1) h2
 have e2 : upd (upd (upd H e (XO e C none true)) dx (XD dx [(f, y)])) e (XO e C (some dx) true) = upd (upd H dx (XD dx [(f, y)])) e (XO e C (some dx) true) := by
  funext b
  unfold upd
  split
  ·rfl
  ·split <;> rfl
 rw [e2]
 exact z
end L2
namespace L2
open PySem PySem.Spec PyProof.Rows
section
variable {X : Cx} {pins : List (Addr × Obj)} {σ : St} {H : Hp} {s : Shared}
theorem Inv.turnTup {ch : List Addr} {T : Addr} {xs : List V} {h' : Heap} {t' : Nat} (I : Inv X pins σ H s) (hch : ∀ b ∈ ch, Jq6 X pins H b) (k : ∀ b o, b ∉ ch → s.heap.get? b = some o → h'.get? b = some o) (hT : s.heap.objs.size ≤ T)
  (new : ObjOk X.prog X.w (upd H T (.tup xs)) h' T (.tup xs)) : Inv X pins σ (upd H T (.tup xs)) { s with heap := h', toks := t' } := by
 have hn : H T = none := I.hok.fresh hT
 have nb : ∀ b o, s.heap.get? b = some o → b ≠ T := fun b o z w' => absurd (Heap.lt_size z) (by rw [w']; exact Nat.not_lt.mpr hT)
 have nt : ∀ b u, H b = some u → b ≠ T := fun b u z => Jkw z hn
 have nc : ∀ b u, H b = some u → b ∉ ch := fun b u z w' => by rw [(hch b w').1] at z; cases z
 have u : Un (frs X.stack) ch H (upd H T (.tup xs)) s.heap h' := by
  refine ⟨fun b o hb n hs hc => k b o hc hb, fun b o hb n _ hc => ⟨o.slots, k b o hc hb⟩, fun b o hb n _ => by rw [Jkv (nb b o hb)]; exact n, fun b o hb hc => ⟨o, k b o hc hb⟩, fun b ys z => by rw [Jkv (nt b _ z)]; exact z, fun b o v z => by rw [Jkv (nt b _ z)]; exact z, fun b ps z => ⟨#[], by rw [Jkv (nt b _ z), z]; simp⟩⟩
 refine I.call (g' := s.gens) (d' := s.drawn) (ch := ch) u (fun b o z => ?_) I.bare fun b hb => ?_
 ·by_cases w' : b = T
  ·subst w'
   rw [Jko] at z; cases z
   exact new
  ·rw [Jkv w'] at z
   refine (I.hok b o z).stay (fun c v hc zz => k c v ?_ zz) (fun c zz => by rw [Jkv (nt c _ zz)]; exact zz) fun c ys zz => by rw [Jkv (nt c _ zz)]; exact zz
   rcases hc with rfl | hc
   ·exact nc c o z
   ·exact nc c _ hc
 ·obtain ⟨_, h1, _, h3, h4, h5⟩ := hch b hb
  exact ⟨h3, h1, h4, h5⟩
theorem Inv.turnMany {ch : List Addr} {h' : Heap} {t' : Nat} (I : Inv X pins σ H s) (hch : ∀ b ∈ ch, Jq6 X pins H b) (k : ∀ b o, b ∉ ch → s.heap.get? b = some o → h'.get? b = some o) : Inv X pins σ H { s with heap := h', toks := t' } := by
 have nc : ∀ b u, H b = some u → b ∉ ch := fun b u z w' => by rw [(hch b w').1] at z; cases z
 have u : Un (frs X.stack) ch H H s.heap h' :=
  ⟨fun b o hb n hs hc => k b o hc hb, fun b o hb n _ hc => ⟨o.slots, k b o hc hb⟩, fun b o hb n _ => n, fun b o hb hc => ⟨o, k b o hc hb⟩, fun b ys z => z, fun b o v z => z, fun b ps z => ⟨#[], by rw [z]; simp⟩⟩
 refine I.call (g' := s.gens) (d' := s.drawn) (ch := ch) u (fun b o z => (I.hok b o z).stay (fun c v hc zz => k c v ?_ zz) (fun _ zz => zz) fun _ _ zz => zz) I.bare fun b hb => ?_
 ·rcases hc with rfl | hc
  ·exact nc c o z
  ·exact nc c _ hc
 ·obtain ⟨_, h1, _, h3, h4, h5⟩ := hch b hb
  exact ⟨h3, h1, h4, h5⟩
end
theorem Jyi : bootBuiltins "zip" = some (.type "zip") := by decide +kernel
end L2
namespace L2
open PySem PySem.Spec PyProof.Rows
section
variable {X : Cx} {pins : List (Addr × Obj)} {σ : St} {H : Hp} {s : Shared}
inductive TyX (K : PySem.W.Frag) (H : Hp) : V → Value → Prop where
 | of {x : V} {t : Value} : Jq7 K H x t → TyX K H x t
 | exc {e C W fI dx : Addr} {fs : List (Str × V)} {fr : Bool} : H e = some (XO e C (some dx) fr) → H dx = some (XD dx fs) → XCls K C W fI → TyX K H (.ref e) (.ref C)
theorem TyX.kit {x : V} {u t : Value} (I : Inv X pins σ H s) (rx : RelV x u) (ty : TyX X.K H x t) : u ≠ .builtin "__main__.__loader__#opaque" ∧ ∃ Hh, PySem.W.KitX X.K u t Hh ∧ Hh s.heap := by
 cases ty with
 | exc q qd c =>
  obtain rfl : u = Value.ref _ := rx
  obtain ⟨ox, oD, mA, J, _, _⟩ := Jxh I.hok q qd
  exact ⟨(fun z => nomatch z), _, xkit c, ox, oD, J⟩
 | of ty =>
  cases ty with
  | non => cases (show u = Value.none from rx); exact ⟨(fun z => nomatch z), _, PySem.W.kitx_none, trivial⟩
  | bl y => cases (show u = Value.bool y from rx); exact ⟨(fun z => nomatch z), _, PySem.W.kitx_bool, trivial⟩
  | int i => obtain ⟨t, q⟩ := (show ∃ t, u = Value.int i t from rx); cases q; exact ⟨(fun z => nomatch z), _, PySem.W.kitx_int, trivial⟩
  | str y => obtain ⟨t, q⟩ := (show ∃ t, u = Value.str y t from rx); cases q; exact ⟨(fun z => nomatch z), _, PySem.W.kitx_str, trivial⟩
  | flt y => obtain ⟨t, q⟩ := (show ∃ t, u = Value.float y t from rx); cases q; exact ⟨(fun z => nomatch z), _, PySem.W.kitx_float, trivial⟩
  | @lst a xs ea =>
   cases (show u = Value.ref a from rx)
   obtain ⟨_, _, n, _, h1⟩ := (show ObjOk X.prog X.w H s.heap a (.lst xs) from I.hok a _ ea)
   exact ⟨(fun z => nomatch z), _, PySem.W.kitx_list, _, h1, rfl⟩
  | @frz a ob xs ea =>
   cases (show u = Value.ref a from rx)
   obtain ⟨_, _, _, n, _, h1⟩ := (show ObjOk X.prog X.w H s.heap a (.frz ob (.lst xs)) from I.hok a _ ea)
   exact ⟨(fun z => nomatch z), _, PySem.W.kitx_list, _, h1, rfl⟩
  | @tup a xs ea =>
   cases (show u = Value.ref a from rx)
   obtain ⟨_, _, _, o, h1, h2, _⟩ := (show ObjOk X.prog X.w H s.heap a (.tup xs) from I.hok a _ ea)
   exact ⟨(fun z => nomatch z), _, PySem.W.kitx_tuple, o, h1, h2⟩
  | @dK a kvs ea =>
   cases (show u = Value.ref a from rx)
   obtain ⟨_, _, vs, _, o, es, ep, h1, h2, _⟩ := (show ObjOk X.prog X.w H s.heap a (.dK kvs) from I.hok a _ ea)
   exact ⟨(fun z => nomatch z), _, PySem.W.kitx_dict, o, h1, h2.1⟩
  | @dT a kvs ea =>
   cases (show u = Value.ref a from rx)
   obtain ⟨_, _, xs, _, o, es, ep, h1, h2, _⟩ := (show ObjOk X.prog X.w H s.heap a (.dT kvs) from I.hok a _ ea)
   exact ⟨(fun z => nomatch z), _, PySem.W.kitx_dict, o, h1, h2.1⟩
  | @ins a C dx fs ea cl ha hn htk hm =>
   cases (show u = Value.ref a from rx)
   obtain ⟨mA, O, _⟩ := Jrc I.hok ea
   obtain ⟨od, J, _⟩ := O.look
   exact ⟨(fun z => nomatch z), _, PySem.W.kitx_own (cl.get _) cl.hd ha hn htk hm, J⟩
def rIsA (K : PySem.W.Frag) : List V → Hp → VK → Prop := fun xs H Q => ∃ x c u t b, xs = [x, c] ∧ clsV c = some u ∧ TyX K H x t ∧ PySem.W.kitOne K t u = some b ∧ Q (.bl b) H
theorem Jlx : Jn3 X (.builtin "isinstance") (rIsA X.K) := by
 rintro pins s σ H vs us Q I r ⟨x, c, u, t, b, rfl, hc, ty, ek, k⟩
 obtain ⟨v, w', rfl, r1, r2⟩ := Jxe r
 have e2 : w' = u := by
  cases c with
  | ty n => cases hc; cases r2; rfl
  | ref a => cases hc; cases r2; rfl
  | _ => cases hc
 subst e2
 obtain ⟨hx, Hh, Z, p⟩ := ty.kit I r1
 exact PySem.W.kia_one Z I.kIn p ek hx fun tk => ⟨.bl b, H, I.tok _, rfl, k⟩
theorem Jv0 : ∀ {cs : List V} {us ws : List Value}, cs.mapM clsV = some us → Vals cs ws → ws = us
 | [], us, _, e, .nil => by cases e; rfl
 | c :: cs, us, _, e, .cons r t => by
  rw [List.mapM_cons] at e
  simp only [Option.bind_eq_bind, Option.bind_eq_some_iff, Option.pure_def, Option.some.injEq] at e
  obtain ⟨u, hu, us', hus, rfl⟩ := e
  rw [Jv0 hus t]
  cases c with
  | ty n => cases hu; cases r; rfl
  | ref a => cases hu; cases r; rfl
  | _ => cases hu
def rIsT (K : PySem.W.Frag) : List V → Hp → VK → Prop := fun xs H Q => ∃ x p cs us t b, xs = [x, .ref p] ∧ H p = some (.tup cs) ∧ cs.mapM clsV = some us ∧ TyX K H x t ∧ PySem.W.kitAny K t us = some b ∧ Q (.bl b) H
theorem Jrk : Jn3 X (.builtin "isinstance") (rIsT X.K) := by
 rintro pins s σ H vs us Q I r ⟨x, p, cs, us', t, b, rfl, hp, hc, ty, ek, k⟩
 obtain ⟨v, w', rfl, r1, r2⟩ := Jxe r
 obtain rfl : w' = Value.ref p := r2
 obtain ⟨hx, Hh, Z, q⟩ := ty.kit I r1
 obtain ⟨_, its, rv, o, h1, h2, n, h3⟩ := (show ObjOk X.prog X.w H s.heap p (.tup cs) from I.hok p _ hp)
 have e := Jv0 hc rv
 subst e
 obtain ⟨oc, odi, oda, osl⟩ := o
 dsimp only at h2 h3
 subst h2 h3
 exact PySem.W.kia_tup Z I.kIn q h1 ek hx fun tk => ⟨.bl b, H, I.tok _, rfl, k⟩
def iSeq (K : PySem.W.Frag) (tl : TE) : TI := fun σ H R => tl σ H fun x H1 => ∃ a, x = .ref a ∧ (((∃ xs, SqL K H1 a xs) ∧ R (Itl K a) H1) ∨ ((∃ xs, SqT K H1 a xs) ∧ R (Itt K a) H1))
theorem pi_seq {tg l : Expr} {tl : TE} (hl : PE X l tl) : PI X tg l (iSeq X.K tl) := by
 intro pins s σ H R I h
 refine thn (hl pins s σ H _ I h) fun v s1 ⟨x, H1, I1, r1, a, e, q1⟩ => ?_
 subst e
 cases r1
 have fin : ∀ {J : It} {tn : Nat → Heap → Prop} {o : Obj}, Turn X.prog X.w X.K tg J [s1.heap.objs.size] s1.heap.objs.size tn → tn 0 (s1.heap.push o) → R J H1 → PIE X pins σ tg R (.ref s1.heap.objs.size) { s1 with heap := s1.heap.push o } := fun {J tn o} T st q => by
  refine ⟨s1.heap.objs.size, [s1.heap.objs.size], tn, J, H1, rfl, I1.kept (t' := s1.toks) fun b o e => Heap.get?_push_of_some _ e, T, st, fun b hb => ?_, q⟩
  have e : b = s1.heap.objs.size := by simpa using hb
  subst e
  exact I1.fpOk (Nat.le_refl _) (I1.hok.fresh (Nat.le_refl _))
 rcases q1 with ⟨⟨xs, hq⟩, q⟩ | ⟨⟨xs, hq⟩, q⟩
 ·obtain ⟨its, rv, p, hz⟩ := I1.list hq
  exact wpAny_pyIter_list p.isList (fin (Jtx a _) ⟨_, Heap.get?_push_size _ rfl, rfl, rfl⟩ q)
 ·obtain ⟨its, rv, p, hz⟩ := I1.tuple hq
  exact wpAny_pyIter_tuple (show s1.heap.IsTuple a its.toArray from p) (fin (Jsk a _) ⟨_, Heap.get?_push_size _ rfl, rfl, rfl⟩ q)
def SameOr (x y : V) (b : Bool) : Prop := (∃ a, x = .ref a ∧ y = .ref a ∧ b = true) ∨ (Jnf x = true ∧ Jnf y = true ∧ eqV x y = b)
theorem Jys {x : V} (h : Jnf x = true) : eqV x x = true := by
 cases x <;> first | rfl | (simp [eqV]; done) | cases h
theorem SameOr.self {x : V} (h : Jnf x = true ∨ ∃ a, x = .ref a) : SameOr x x true := by
 rcases h with h | ⟨a, rfl⟩
 ·exact .inr ⟨h, h, Jys h⟩
 ·exact .inl ⟨a, rfl, rfl, rfl⟩
theorem SameOr.at {A : Around} {x y : V} {b : Bool} {u v : Value} (h : SameOr x y b) (rx : RelV x u) (ry : RelV y v) : SeqAt.EqAt A s u v b := by
 rcases h with ⟨a, rfl, rfl, rfl⟩ | ⟨f1, f2, rfl⟩
 ·cases rx; cases ry; exact SeqAt.EqAt.same _
 ·exact Jyq rx ry f1 f2
end
def Juq (P : Program) (w : World) (K : PySem.W.Frag) (mg : Str → Option Value) (base : Heap) (j : Nat) (m : Str) (ta : TE) (t : TA) : TE := fun σ H Q => ta σ H fun x H1 => ∃ a C dx fs f fd ps sp k, x = .ref a ∧ H1 a = some (.ins C dx fs) ∧ fs.lookup m = none ∧ Cls K C ∧ Jmr K C m f ∧ FnOk P w K mg base CX0 k f fd ps sp ∧ k ≤ j ∧ Binds K fd ps [] ∧
 t σ H1 fun vs H2 => sp (x :: vs) H2 Q E0
section
variable {X : Cx} {j : Nat} {m : Str} {apos pos : Pos} {e o : Expr} {es : List Expr} {ta : TE} {t : TA} {R : St → XK}
theorem Jpw {pl : Sem Bool} (he : PE X o ta) (hr : Room j X.A) (ha : PA X (e :: es) t)
  (hst : starEach (e :: es) X.env = (false, eval e X.env) :: starEach es X.env := by rfl) (hpl : (backTo pos (starEach es X.env)).any (·.1) = false := by rfl)
  (ht : eval (.Call (.Attribute o m apos) (e :: es) [] pos) X.env = (do
   let ov ← eval o X.env
   standAt apos.atName
   let (f, first) ← holding [ov] (getMethod ov m pl)
   callWith pos f first (backTo pos (starEach (e :: es) X.env)) (backToKw pos (keywordEach [] X.env))) := by rfl) :
  PE X (.Call (.Attribute o m apos) (e :: es) [] pos) (Juq X.prog X.w X.K X.mg X.base j m ta t) := by
 intro pins s σ H Q I h
 refine PySem.W.methodCall_KW (pl := pl) (thn (he pins s σ H _ I h) fun u s1 ⟨x, H1, I1, rx, a, C, dx, fs, f, fd, ps, sp, k, ex, ea, l, c, hm, G, hk, hb, q⟩ => ?_) ht
 subst ex
 obtain rfl : u = Value.ref a := rx
 refine Jrr I1 ea c hm l ?_
 refine PySem.W.callWith_K (first := [.ref a]) (h₀ := X.base) I.ok.mod.kin hm.kp (thn (ha pos pins s1 σ H1 _ I1 q) fun us s2 ⟨vs, H2, I2, r, q2⟩ => ⟨I2.kIn, ?_⟩) hst hpl
 exact Jw7 (us := .ref a :: us) (vs := .ref a :: vs) (dvs := []) (ds := []) G (hr.mono hk) hb .nil Jom I2 (.cons rfl r) (by rw [List.append_nil]; exact q2)
theorem Jqo {pl : Sem Bool} (he : PE X o ta) (hr : Room j X.A)
  (ht : eval (.Call (.Attribute o m apos) [] [] pos) X.env = (do
   let ov ← eval o X.env
   standAt apos.atName
   let (f, first) ← holding [ov] (getMethod ov m pl)
   callWith pos f first (backTo pos (starEach [] X.env)) (backToKw pos (keywordEach [] X.env))) := by rfl) :
  PE X (.Call (.Attribute o m apos) [] [] pos) (Juq X.prog X.w X.K X.mg X.base j m ta Jur) := by
 intro pins s σ H Q I h
 refine PySem.W.methodCall_KW (pl := pl) (thn (he pins s σ H _ I h) fun u s1 ⟨x, H1, I1, rx, a, C, dx, fs, f, fd, ps, sp, k, ex, ea, l, c, hm, G, hk, hb, q⟩ => ?_) ht
 subst ex
 obtain rfl : u = Value.ref a := rx
 refine Jrr I1 ea c hm l ?_
 exact PySem.W.callWith_K0 (first := [.ref a]) I1.kIn hm.kp (Jw7 (us := [.ref a]) (vs := [.ref a]) (dvs := []) (ds := []) G (hr.mono hk) hb .nil Jom I1 (.cons rfl .nil) q)
end
end L2
namespace L2
open PySem PySem.Spec PyProof.Rows
theorem Jlo {n : Nat} (h : n ≤ 2000) : n < sizeLine := Nat.lt_of_le_of_lt h (by decide)
theorem Jmo (n : Nat) (h : n ≤ 2000) : n ≤ sizeLine := Nat.le_of_lt (Jlo h)
def tpB (t : Value) : Bool := [Value.type "bool", .type "str", .type "NoneType", .type "list", .type "tuple", .type "dict"].contains t
def Tm (K : PySem.W.Frag) (H : Hp) (x : V) : Prop := (∃ i : Int, x = .int i) ∨ ∃ t, TyX K H x t ∧ tpB t = true
def Jl6 : V → Int → Int → Bool
 | .int i, lo, hi => decide (lo ≤ i) && decide (i ≤ hi)
 | _, _, _ => false
theorem tp_int {K : PySem.W.Frag} {t : Value} (h : tpB t = true) : PySem.W.kitOne K t (.type "int") = some (t == .type "bool") ∧ PySem.W.kitOne K t (.type "bool") = some (t == .type "bool") := by
 unfold tpB at h
 simp only [List.contains_cons, List.contains_nil, Bool.or_false, Bool.or_eq_true, beq_iff_eq] at h
 rcases h with rfl | rfl | rfl | rfl | rfl | rfl <;> exact ⟨rfl, rfl⟩
theorem Yp {K : PySem.W.Frag} {H : Hp} {x : V} {t : Value} (ty : TyX K H x t) (h : tpB t = true) : ∀ lo hi, Jl6 x lo hi = false := by
 intro lo hi
 cases ty with
 | exc => rfl
 | of ty =>
  cases ty <;> first | rfl | (exfalso; revert h; decide)
def Yao (K : PySem.W.Frag) : Sp := fun vs H Q _ => ∃ (x : V) (lo hi : Int), vs = [x, .int lo, .int hi] ∧ Tm K H x ∧ Q (.bl (Jl6 x lo hi)) H
theorem TyX.same {K : PySem.W.Frag} {H H' : Hp} {x : V} {t : Value} (s : ∀ b o, x = .ref b → H b = some o → H' b = some o) (sx : ∀ b fs, H b = some (XD b fs) → H' b = some (XD b fs)) (ty : TyX K H x t) : TyX K H' x t := by
 cases ty with
 | exc q qd c => exact .exc (s _ _ rfl q) (sx _ _ qd) c
 | of ty =>
  refine .of ?_
  cases ty with
  | non => exact .non
  | bl b => exact .bl b
  | int i => exact .int i
  | str z => exact .str z
  | flt z => exact .flt z
  | lst e => exact .lst (s _ _ rfl e)
  | frz e => exact .frz (s _ _ rfl e)
  | tup e => exact .tup (s _ _ rfl e)
  | dK e => exact .dK (s _ _ rfl e)
  | dT e => exact .dT (s _ _ rfl e)
  | ins e a b c d f => exact .ins (s _ _ rfl e) a b c d f
theorem Tm.same {K : PySem.W.Frag} {H H' : Hp} {x : V} (s : Same H H') (h : Tm K H x) : Tm K H' x := by
 rcases h with h | ⟨t, ty, e⟩
 ·exact .inl h
 ·exact .inr ⟨t, ty.same (fun b o _ q => s b o q) (fun b fs q => s b _ q), e⟩
theorem Yk {K : PySem.W.Frag} {q : Addr} {xs : List V} {g : TG} {tb : TS} {D : Ends} {σ : St} {H : Hp} (Pv : Nat → St → Hp → Prop) (h0 : Pv 0 σ H) (hl : (∀ i σ H, i ≤ xs.length → Pv i σ H → SqL K H q xs) ∨ (∀ i σ H, i ≤ xs.length → Pv i σ H → SqT K H q xs))
  (hs : ∀ i x σ H, xs[i]? = some x → Pv i σ H → g x σ H fun σ2 H2 => tb { D with nx := Pv (i + 1), ct := Pv (i + 1), bk := D.nx } σ2 H2) (hd : ∀ σ H, Pv xs.length σ H → D.nx σ H) :
  ((∃ xs, SqL K H q xs) ∧ ∃ W : Nat → Nat → St → Hp → Prop, (∃ m, W 0 m σ H) ∧ ∀ i m σ H, W i m σ H →
   ((Itl K q).stop i H ∧ D.nx σ H) ∨ ((Itl K q).go i H ∧ ∃ N : St → Hp → Prop, (∀ σ' H', N σ' H' → ∃ m', m' < m ∧ W (i + 1) m' σ' H') ∧ ∀ x H', (Itl K q).yld i H x H' → g x σ H' fun σ2 H2 => tb { D with nx := N, ct := N, bk := D.nx } σ2 H2)) ∨
  ((∃ xs, SqT K H q xs) ∧ ∃ W : Nat → Nat → St → Hp → Prop, (∃ m, W 0 m σ H) ∧ ∀ i m σ H, W i m σ H →
   ((Itt K q).stop i H ∧ D.nx σ H) ∨ ((Itt K q).go i H ∧ ∃ N : St → Hp → Prop, (∀ σ' H', N σ' H' → ∃ m', m' < m ∧ W (i + 1) m' σ' H') ∧ ∀ x H', (Itt K q).yld i H x H' → g x σ H' fun σ2 H2 => tb { D with nx := N, ct := N, bk := D.nx } σ2 H2)) := by
 rcases hl with hl | hl
 ·exact .inl ⟨⟨xs, hl 0 σ H (Nat.zero_le _) h0⟩, Jod Pv h0 hl hs hd⟩
 ·exact .inr ⟨⟨xs, hl 0 σ H (Nat.zero_le _) h0⟩, Yl Pv h0 hl hs hd⟩
theorem Jm9 {K : PySem.W.Frag} {R : L2.St → XK} {C W fI : Addr} {f : Str} {i : Nat} {y : V} {σ : L2.St} {H : Hp} {D : Ends} (c : XCls K C W fI) (n : NoAttr K C f) (hi : σ[i]? = some (some y))
  (k : ∀ e dx, H e = none → H dx = none → dx ≠ e → R σ (.ref C) (some e) (upd (upd (upd H dx (XD dx [(f, y)])) e (XO e C (some dx) true)) e (XO e C (some dx) false))) : Jzg K R (tExc C (Jn2 K f) (Jmb (tVar i) Jur)) D σ H := by
 refine ⟨y, hi, ?_⟩
 exact Jxq (Q := fun v H1 => ∃ e C W fI dx, v = .ref e ∧ H1 e = some (XO e C (some dx) true) ∧ XCls K C W fI ∧ R σ (.ref C) (some e) (upd H1 e (XO e C (some dx) false))) c n fun e dx h1 h2 h3 => ⟨e, C, W, fI, dx, rfl, Jko, c, k e dx h1 h2 h3⟩
theorem Jvs {c A B : Prop} [Decidable c] (hc : c) (h : A) : if decide c = true then A else B := by
 rw [decide_eq_true hc]
 exact Jlt h
theorem Jv2 {c A B : Prop} [Decidable c] (hc : ¬ c) (h : B) : if decide c = true then A else B := by
 rw [decide_eq_false hc]
 exact Jlj h
def Jlw : Expr → Bool
 | .Starred _ _ => true
 | _ => false
theorem Jy9 (e : Expr) (es : List Expr) (env : Env) (h : Jlw e = false) : starEach (e :: es) env = (false, eval e env) :: starEach es env := by
 cases e <;> first | rfl | cases h
theorem Jni {X : Cx} {e : Expr} {es : List Expr} {te : TE} {t : TA} (ha : PE X e te) (hr : PA X es t) (hs : Jlw e = false := by rfl) : PA X (e :: es) (Jmb te t) := Jkn ha hr (Jy9 e es X.env hs)
theorem pa4 {X : Cx} {e0 : Expr} {t0 : TE} {e1 : Expr} {t1 : TE} {e2 : Expr} {t2 : TE} {e3 : Expr} {t3 : TE} (h0 : PE X e0 t0) (h1 : PE X e1 t1) (h2 : PE X e2 t2) (h3 : PE X e3 t3) (s0 : Jlw e0 = false := by rfl) (s1 : Jlw e1 = false := by rfl) (s2 : Jlw e2 = false := by rfl) (s3 : Jlw e3 = false := by rfl) : PA X [e0, e1, e2, e3] (Jmb t0 (Jmb t1 (Jmb t2 (Jmb t3 (Jur))))) := Jni h0 (Jni h1 (Jni h2 (Jni h3 (Jkp) s3) s2) s1) s0
theorem pa5 {X : Cx} {e0 : Expr} {t0 : TE} {e1 : Expr} {t1 : TE} {e2 : Expr} {t2 : TE} {e3 : Expr} {t3 : TE} {e4 : Expr} {t4 : TE} (h0 : PE X e0 t0) (h1 : PE X e1 t1) (h2 : PE X e2 t2) (h3 : PE X e3 t3) (h4 : PE X e4 t4) (s0 : Jlw e0 = false := by rfl) (s1 : Jlw e1 = false := by rfl) (s2 : Jlw e2 = false := by rfl) (s3 : Jlw e3 = false := by rfl) (s4 : Jlw e4 = false := by rfl) : PA X [e0, e1, e2, e3, e4] (Jmb t0 (Jmb t1 (Jmb t2 (Jmb t3 (Jmb t4 (Jur)))))) := Jni h0 (Jni h1 (Jni h2 (Jni h3 (Jni h4 (Jkp) s4) s3) s2) s1) s0
theorem pa6 {X : Cx} {e0 : Expr} {t0 : TE} {e1 : Expr} {t1 : TE} {e2 : Expr} {t2 : TE} {e3 : Expr} {t3 : TE} {e4 : Expr} {t4 : TE} {e5 : Expr} {t5 : TE} (h0 : PE X e0 t0) (h1 : PE X e1 t1) (h2 : PE X e2 t2) (h3 : PE X e3 t3) (h4 : PE X e4 t4) (h5 : PE X e5 t5) (s0 : Jlw e0 = false := by rfl) (s1 : Jlw e1 = false := by rfl) (s2 : Jlw e2 = false := by rfl) (s3 : Jlw e3 = false := by rfl) (s4 : Jlw e4 = false := by rfl) (s5 : Jlw e5 = false := by rfl) : PA X [e0, e1, e2, e3, e4, e5] (Jmb t0 (Jmb t1 (Jmb t2 (Jmb t3 (Jmb t4 (Jmb t5 (Jur))))))) := Jni h0 (Jni h1 (Jni h2 (Jni h3 (Jni h4 (Jni h5 (Jkp) s5) s4) s3) s2) s1) s0
theorem pa8 {X : Cx} {e0 : Expr} {t0 : TE} {e1 : Expr} {t1 : TE} {e2 : Expr} {t2 : TE} {e3 : Expr} {t3 : TE} {e4 : Expr} {t4 : TE} {e5 : Expr} {t5 : TE} {e6 : Expr} {t6 : TE} {e7 : Expr} {t7 : TE} (h0 : PE X e0 t0) (h1 : PE X e1 t1) (h2 : PE X e2 t2) (h3 : PE X e3 t3) (h4 : PE X e4 t4) (h5 : PE X e5 t5) (h6 : PE X e6 t6) (h7 : PE X e7 t7) (s0 : Jlw e0 = false := by rfl) (s1 : Jlw e1 = false := by rfl) (s2 : Jlw e2 = false := by rfl) (s3 : Jlw e3 = false := by rfl) (s4 : Jlw e4 = false := by rfl) (s5 : Jlw e5 = false := by rfl) (s6 : Jlw e6 = false := by rfl) (s7 : Jlw e7 = false := by rfl) : PA X [e0, e1, e2, e3, e4, e5, e6, e7] (Jmb t0 (Jmb t1 (Jmb t2 (Jmb t3 (Jmb t4 (Jmb t5 (Jmb t6 (Jmb t7 (Jur))))))))) := Jni h0 (Jni h1 (Jni h2 (Jni h3 (Jni h4 (Jni h5 (Jni h6 (Jni h7 (Jkp) s7) s6) s5) s4) s3) s2) s1) s0
end L2
namespace L2
open PySem PySem.Spec PyProof.Rows PySem.W
section
variable {X : Cx}
theorem Joz {K : PySem.W.Frag} (h : X.K = K) : IxR X (rIxT K) := by subst h; exact Jlb
theorem Jte {K : PySem.W.Frag} (h : X.K = K) : Jn3 X (.builtin "isinstance") (rIsA K) := by subst h; exact Jlx
end
end L2
namespace L2
open PySem PySem.Spec PyProof.Rows PySem.W
section
variable {prog : Program} {w : World} {A : Around} {E : Value → Shared → Prop} {s : Shared}
end
section
variable {X : Cx} {pos : Pos}
end
end L2
namespace L2
open PySem PySem.Spec PyProof.Rows PySem.W
structure Jyh (P : Program) (w : World) (K : PySem.W.Frag) (mg : Str → Option Value) (base : Heap) (k : Nat) (f : Addr) (fd : FuncData) (ps : List Str) (sp : Sp) : Prop where
 len : ∀ vs H Q E, sp vs H Q E → vs.length = ps.length
 run : ∀ (e : Addr) (A : Around) (outer : List Env) (s : Shared) (H : Hp) (args : Args) (us : List Value) (vs : List V) (Q : VK) (E : XK), Room k A → Env0 P w K mg base A outer s H → BindsTo s fd args (ps.zip us) → Vals vs us → sp vs H Q E →
  codeAny (model P w) (A.mark (some (.ref e))) (.call (.ref f) args) (CR CX0 outer P w H s Q E) s
section
variable {P : Program} {w : World} {K : PySem.W.Frag} {mg : Str → Option Value} {base : Heap}
theorem Fun.okC {x qual : Str} {st : Stmt} {f : Addr} {fd : FuncData} {N ps : List Str} {k : Nat} {sp : Sp} (F : Fun K x qual st f fd) (S : Jky N ps (Jkt st)) (len : ∀ vs H Q E, sp vs H Q E → vs.length = ps.length)
  (hbody : ∀ (er : Addr) (cdv : Value) (A : Around) (outer : List Env) (s : Shared) (H : Hp) (vs : List V) (Q : VK) (E : XK), Room k (A.deeper (envOfC qual (Jkt st) s.heap.objs.size f cdv)) → sp vs H Q E →
   ∃ t, PSs ((Jrq CX0 P w K mg base N qual (Jkt st) f cdv A outer s H E).caught er) (Jmm st) t ∧ t { nx := fun _ H' => Q .non H', rt := Q } (start N vs) H) : Jyh P w K mg base (k + 1) f fd ps sp := by
 obtain ⟨oc, od, kV, doc, pm, an, cdv, ct, osl, rfl, lk, hcd⟩ := F.ex
 refine ⟨len, fun er A outer s H args us vs Q E hr e0 hb r hsp => ?_⟩
 have hl := len _ _ _ _ hsp
 have KX : K.In s.heap := e0.mod.kin.keeps fun b o e => (e0.bs b o e).1
 have lim : s.heap.NoLimit := e0.mod.nolimit.keeps fun b o e => (e0.bs b o e).1
 have hkind : ∀ y ∈ ps.zip us, (Jkt st).names.lookup y.1 = some .local ∨ ((Jkt st).names.lookup y.1 = some .cell ∧ ((cellsFrom (s.heap.objs.size + 1) (Jkt st).names []).lookup y.1).isSome = true) := fun ⟨n, v⟩ hy => by
  rcases S.par n (List.of_mem_zip hy).1 with q | q
  ·exact .inl q
  ·exact .inr ⟨q, PySem.W.cellsFrom_some _ _ _ (.inl q)⟩
 refine codeAny_call_function (A := A.mark (some (.ref er))) hr.depth (KX _ _ lk) rfl S.co S.gen rfl (PySem.W.codeRec_of KX hcd) (hb _ _ _ _ ?_)
 refine wpAny_newFunctionEnv_cells S.kind hkind fun env he s1 x => ?_
 subst he
 refine ⟨lim.keeps x.toInCall.keep, codeAny_func ?_⟩
 obtain ⟨t, ht, hq⟩ := hbody er cdv A outer s H vs Q E (hr.deeper _) hsp
 have I : Inv (Jrq CX0 P w K mg base N qual (Jkt st) f cdv A outer s H E) [] (start N vs) H s1 := Jtl S hr.hd e0 hl r x
 refine wpAny_mono (ht [] s1 (start N vs) H _ (I.caught er) hq) (fun fl s' hs => ?_) fun e s' hs => ?_
 ·have fin : ∀ {σ' : L2.St} {H' : Hp} {v : V} {u : Value}, Inv ((Jrq CX0 P w K mg base N qual (Jkt st) f cdv A outer s H E).caught er) [] σ' H' s' → RelV v u → Q v H' → CE outer P w H s Q u s' :=
   fun {σ' H' v u} J rv q => ⟨v, H', J.os, J.bare, J.base, J.hok, rv, q⟩
  cases fl with
  | ret u =>
   obtain ⟨v, σ', H', J, rv, q⟩ := hs
   exact fin J rv q
  | next =>
   obtain ⟨σ', H', J, q⟩ := hs
   exact fin (v := V.non) (u := Value.none) J rfl q
  | brk =>
   obtain ⟨_, _, _, q⟩ := hs
   exact False.elim q
  | cont =>
   obtain ⟨_, _, _, q⟩ := hs
   exact False.elim q
 ·exact False.elim hs
end
section
variable {X : Cx} {x : Str} {st : Stmt} {ps : List Str} {f : Addr} {fd : FuncData} {sp : Sp} {k j : Nat} {p pos : Pos} {e : Expr} {es : List Expr} {t : TA} {er : Addr}
theorem Jsa (F : FT X.K X.mg x st ps f fd) (G : Jyh X.prog X.w X.K X.mg X.base k f fd ps sp) (hr : Room j X.A) (hk : k ≤ j) (ha : PA (X.caught er) (e :: es) t) (hg : Gl (X.caught er) x := by rfl) (hdb : (x == ("__debug__" : Str)) = false := by decide)
  (he : starEach (e :: es) X.env = (false, eval e X.env) :: starEach es X.env := by rfl) (hpl : (backTo pos (starEach es X.env)).any (·.1) = false := by rfl) : PE (X.caught er) (.Call (.Name x p) (e :: es) [] pos) (Jzz sp [] E0 t) := by
 intro pins s σ H Q I h
 refine wpAny_Call_Name_kw (Jny I hg F.mgx ?_ hdb)
 refine PySem.W.callWith_K (h₀ := X.base) I.ok.mod.kin F.fn.kp (thn (ha pos pins s σ H _ I h) fun us s1 ⟨vs, H1, I1, r, q⟩ => ⟨I1.kIn, ?_⟩) he hpl
 have q' : sp (vs ++ []) H1 Q E0 := q
 rw [List.append_nil] at q'
 have hl : us.length = ps.length := by rw [← r.length]; exact G.len _ _ _ _ q'
 have bd := F.bd s1 us I1.kIn (by rw [List.append_nil]; exact hl)
 rw [List.append_nil] at bd
 have e0 : Env0 X.prog X.w X.K X.mg X.base X.A X.stack s1 H1 := ⟨I1.env0.frames, I1.env0.mod, I1.env0.bs, I1.env0.bsz, I1.env0.funs, I1.env0.frf, I1.env0.hok, I1.env0.bare⟩
 refine wpAny_call (codeAny_mono (G.run er X.A X.stack s1 H1 ⟨us, []⟩ us vs Q E0 (hr.mono hk) e0 bd r q') fun r s' hq => ?_)
 cases r with
 | error e => exact False.elim hq
 | ok fl =>
  cases fl with
  | ret u => exact I1.after hq
  | next => exact False.elim hq
  | brk => exact False.elim hq
  | cont => exact False.elim hq
end
end L2
namespace L2
open PySem PySem.Spec PyProof.Rows PySem.W
def stU (acc : List Str) (z : Str) : List Str := if acc.contains z = true then acc else acc ++ [z]
def uq (zs : List Str) : List Str := zs.foldl stU []
def inU (zs : List Str) : Key → Bool
 | .inl _ => false
 | .inr z => (uq zs).contains z
theorem Jxd (zs : List Str) (z : Str) : uq (zs ++ [z]) = stU (uq zs) z := by unfold uq; rw [List.foldl_append]; rfl
theorem uq_len (zs : List Str) : (uq zs).length ≤ zs.length := by
 have h : ∀ (l acc : List Str), (l.foldl stU acc).length ≤ acc.length + l.length := by
  intro l
  induction l with
  | nil => intro acc; simp
  | cons z r ih =>
   intro acc
   rw [List.foldl_cons]
   have h1 := ih (stU acc z)
   have h2 : (stU acc z).length ≤ acc.length + 1 := by unfold stU; split <;> simp
   rw [List.length_cons]
   omega
 simpa [uq] using h zs []
theorem Jvk {zs : List Str} (h : zs.Nodup) : uq zs = zs := by
 have g : ∀ (l acc : List Str), (acc ++ l).Nodup → l.foldl stU acc = acc ++ l := by
  intro l
  induction l with
  | nil => intro acc _; simp
  | cons z r ih =>
   intro acc hn
   rw [List.foldl_cons]
   have hz : acc.contains z = false := by
    cases e : acc.contains z with
    | false => rfl
    | true =>
     have hm : z ∈ acc := List.contains_iff_mem.mp e
     exact absurd rfl ((List.nodup_append.mp hn).2.2 z hm z List.mem_cons_self)
   have e : stU acc z = acc ++ [z] := by unfold stU; rw [hz]; rfl
   rw [e, ih (acc ++ [z]) (by simpa using hn)]
   simp
 simpa [uq] using g zs [] (by simpa using h)
theorem Jyz (zs : List Str) (z : Str) (k : Key) : inU (zs ++ [z]) k = (inU zs k || decide (k = .inr z)) := by
 cases k with
 | inl i => simp [inU]
 | inr y =>
  show (uq (zs ++ [z])).contains y = ((uq zs).contains y || decide ((.inr y : Key) = .inr z))
  have e : decide ((.inr y : Key) = .inr z) = decide (y = z) := by
   by_cases h : y = z
   ·subst h; simp
   ·rw [decide_eq_false h, decide_eq_false (fun q => h (Sum.inr.inj q))]
  rw [Jxd, e]
  unfold stU
  split
  ·rename_i hc
   by_cases h : y = z
   ·subst h; rw [hc]; simp
   ·simp [h]
  ·rw [Bool.eq_iff_iff]
   simp [List.contains_iff_mem]
theorem Yaq (zs : List Str) (z : Str) : (uq (zs ++ [z])).length = if inU zs (.inr z) = true then (uq zs).length else (uq zs).length + 1 := by
 rw [Jxd]
 show (stU (uq zs) z).length = if (uq zs).contains z = true then _ else _
 unfold stU
 split <;> simp
section
variable {prog : Program} {w : World} {A : Around} {R : Result → Shared → Prop} {I : Addr} {fp wr : List Addr} {n : Nat} {P : Nat → Value → Prop} {St : Nat → Heap → Prop}
theorem Jq2 {h h' : Heap} {a : Addr} {S T : Key → Bool} {m m' : Nat} (hS : h.SetOf (Jmi prog w) a S m) (k : ∀ o, h.get? a = some o → h'.get? a = some o) (e : ∀ x, S x = T x) (en : m = m') : h'.SetOf (Jmi prog w) a T m' := by
 obtain rfl : S = T := funext e
 subst en
 obtain ⟨o, es, ep, t, ho, rest⟩ := hS
 exact ⟨o, es, ep, t, k o ho, rest⟩
theorem Jwk (W : Walks prog w A.in1 I fp wr n P St) (S : Addr) (hSf : S ∉ fp) (zs : List Str) (hn : zs.length = n) (hP : ∀ i v, P i v → ∃ z t, zs[i]? = some z ∧ v = .str z t) (hb : n + 1 < scanBound) :
  ∀ (k i : Nat) (s : Shared), n - i = k → i ≤ n → St i s.heap → s.heap.SetOf (Jmi prog w) S (inU (zs.take i)) (uq (zs.take i)).length →
   (∀ h' tk, (∀ b o, b ≠ S → b ∉ wr → s.heap.get? b = some o → h'.get? b = some o) → h'.SetOf (Jmi prog w) S (inU zs) (uq zs).length → R (.ok (.ret .none)) { s with heap := h', toks := tk }) →
   codeAny (model prog w) A (.builtin "set.update.loop" ⟨[.ref S, .ref I], []⟩) R s := by
 have hSw : S ∉ wr := fun h => hSf (W.sub _ h)
 intro k
 induction k with
 | zero =>
  intro i s hk hi hst hS hR
  obtain rfl : i = n := by omega
  refine codeAny_builtin PyProof.Rows.F.entry_set_update_loop ?_
  rw [Around.under_plainId PyProof.Rows.F.plain_set_update_loop _]
  refine wpAny_bind (W.done s _ _ hst fun h' tk km => ?_)
  refine wpAny_pure (hR h' tk (fun b o _ nb e => km b o nb e) (Jq2 hS (fun o e => km S o hSw e) (fun x => ?_) ?_))
  ·rw [List.take_of_length_le (by omega)]
  ·rw [List.take_of_length_le (by omega)]
 | succ k ih =>
  intro i s hk hi hst hS hR
  have hlt : i < n := by omega
  refine codeAny_builtin PyProof.Rows.F.entry_set_update_loop ?_
  rw [Around.under_plainId PyProof.Rows.F.plain_set_update_loop _]
  refine wpAny_bind (W.item i s _ _ hlt hst fun v h1 tk hv hst1 km => ?_)
  obtain ⟨z, t, hz, rfl⟩ := hP i v hv
  have et : zs.take (i + 1) = zs.take i ++ [z] := by rw [List.take_add_one, hz]; rfl
  have hS1 : h1.SetOf (Jmi prog w) S (inU (zs.take i)) (uq (zs.take i)).length := Jq2 hS (fun o e => km S o hSw e) (fun _ => rfl) rfl
  have room : (uq (zs.take i)).length + 1 < scanBound := by
   have h1 := uq_len (zs.take i)
   rw [List.length_take] at h1
   omega
  refine wpAny_bind (wpAny_holding ?_)
  unfold setAdd
  refine wpAny_holding (wpAny_bind ((Jmi prog w).pyHash (k := .inr z) (Jr0 _ _ _ _) ?_))
  refine wpAny_setAddHashed_of (knd := Jmi prog w) (k := .inr z) (Jr0 _ _ _ _) rfl hS1 room fun h2 sb hS2 => ?_
  refine wpAny_pure ⟨plainId_quiet PyProof.Rows.F.plain_set_update_loop _, ih (i + 1) _ (by omega) hlt (W.frame _ _ _ hst1 fun b hbf o e => ?_) (Jq2 hS2 (fun o e => e) (fun x => ?_) ?_) fun h3 tk3 k3 hS3 => ?_⟩
  ·show h2.get? b = some o
   rw [sb.2 b (fun q => hSf (by rw [← q]; exact hbf))]
   exact e
  ·rw [et, Jyz]
  ·rw [et, Yaq]
  ·exact hR h3 tk3 (fun b o nS nw e => k3 b o nS nw (by show h2.get? b = some o; rw [sb.2 b nS]; exact km b o nw e)) hS3
end
section
variable {prog : Program} {w : World} {A : Around} {E : Value → Shared → Prop} {s : Shared}
set_option maxRecDepth 100000 in
set_option maxHeartbeats 3200000 in
theorem Jy3 {l : Addr} {items : Array Value} {zs : List Str} {Q : Value → Shared → Prop} (hh : A.handled = none) (hl : s.heap.IsList l items) (hz : zs.length = items.size) (hi : ∀ (i : Nat) (v : Value), items[i]? = some v → ∃ z t, zs[i]? = some z ∧ v = .str z t) (hb : items.size + 1 < scanBound)
  (h : ∀ (h' : Heap) (tk : Nat), h'.SetOf (Jmi prog w) s.heap.objs.size (inU zs) (uq zs).length → (∀ b o, s.heap.get? b = some o → h'.get? b = some o) → Q (.ref s.heap.objs.size) { s with heap := h', toks := tk }) : wpAny (model prog w) A (call (.type "set") [.ref l]) Q E s := by
 obtain ⟨cc, tl, hmro⟩ := F.called_set.mro
 have hmade := F.called_set.made
 have hsub := F.called_set.sub
 refine wpAny_call (codeAny_of_tree ?_)
 show wpAny _ _ (callAny (.type "set") _) _ _ _
 refine wpAny_pure ⟨Code.quiet_builtin _ (by decide +kernel), codeAny_builtin F.entry_type_call ?_⟩
 rw [Around.under_plain (weight_type_call_type "set" [.ref l] []) rfl]
 have g1 := F.called_set.notType
 have g2 := F.called_set.canCreate
 have g3 := F.typeCall_set_1 (.ref l)
 repeat (any_goals (first | assumption | wp_step))
 refine codeAny_mono (code_set_new_1 (.ref l) (E := E) (Q₁ := fun obj s1 => ∃ led : Bool, obj = .ref s.heap.objs.size ∧ s1 = { s with heap := s.heap.push { cls := .type "set", dict := none, data := .set #[] 0 (.fresh 0 0 led) } }) fun led => ⟨led, rfl, rfl⟩) fun r s1 hr => ?_
 cases r with
 | error e => exact hr
 | ok fl =>
  cases fl with
  | ret obj =>
   obtain ⟨led, rfl, rfl⟩ := hr
   have hS : (s.heap.push { cls := .type "set", dict := none, data := .set #[] 0 (.fresh 0 0 led) }).get? s.heap.objs.size = some { cls := .type "set", dict := none, data := .set #[] 0 (.fresh 0 0 led) } := Heap.get?_push_size _ rfl
   have hT : Shared.TypeIs { s with heap := s.heap.push { cls := .type "set", dict := none, data := .set #[] 0 (.fresh 0 0 led) } } (.ref s.heap.objs.size) "set" := ⟨_, hS, rfl⟩
   have g4 := F.called_set.init.lookup
   have g5 := F.called_set.init.bind (.ref s.heap.objs.size)
   repeat (any_goals (first | assumption | wp_step))
   refine codeAny_mono (codeAny_call_builtin (R := wants (fun r s2 => r = .none ∧ ∃ h' tk, s2 = { s with heap := h', toks := tk } ∧ h'.SetOf (Jmi prog w) s.heap.objs.size (inU zs) (uq zs).length ∧ (∀ b o, s.heap.get? b = some o → h'.get? b = some o)) E) F.called_set.init.plain F.entry_set_init (check_set_init_1 hT ?_)) fun r2 s2 hr2 => ?_
   ·obtain ⟨⟨oc, od, oda, osl⟩, hol, hcl, nl, hdl⟩ := hl
    simp only at hcl hdl
    subst hcl hdl
    have hol' : (s.heap.push { cls := .type "set", dict := none, data := .set #[] 0 (.fresh 0 0 led) }).get? l = some { cls := .type "list", dict := od, data := .seq items nl, slots := osl } := Heap.get?_push_of_some _ hol
    have g6 := F.sub_list_set
    have g7 := F.sub_list_frozenset
    have g8 : (Value.type "list" == Value.type "dict") = false := by decide
    have hl1 : (s.heap.push { cls := .type "set", dict := none, data := .set #[] 0 (.fresh 0 0 led) }).IsList l items := ⟨_, hol', rfl, nl, rfl⟩
    unfold Builtin.«set.__init__» noKeywords Builtin.Frozenset.updateFrom
    generalize hPI : pyIter = PI
    wp_walk
    subst hPI
    refine wpAny_pyIter_list hl1 (wpAny_bind (wpAny_runValue ?_))
    have lS : l < s.heap.objs.size := Heap.lt_size hol
    have h3 : A.in1.in1.in1.handled = none := by simp [hh]
    have nI : l ≠ (s.heap.push { cls := .type "set", dict := none, data := .set #[] 0 (.fresh 0 0 led) }).objs.size := by rw [Heap.size_push]; exact Nat.ne_of_lt (Nat.lt_succ_of_lt lS)
    have nS : s.heap.objs.size ∉ [(s.heap.push { cls := .type "set", dict := none, data := .set #[] 0 (.fresh 0 0 led) }).objs.size, l] := by
     rw [Heap.size_push]
     simp only [List.mem_cons, List.not_mem_nil, or_false, not_or]
     exact ⟨Nat.ne_of_lt (Nat.lt_succ_self _), Nat.ne_of_gt lS⟩
    refine Jwk (Walks.list h3 _ l nI items) s.heap.objs.size nS zs hz hi hb (items.size - 0) 0 _ (by omega) (Nat.zero_le _) ⟨⟨_, Heap.get?_push_size _ rfl, rfl, rfl⟩, hl1.push _⟩ ?S0 ?R0
    case S0 =>
     have q : ((s.heap.push { cls := .type "set", dict := none, data := .set #[] 0 (.fresh 0 0 led) }).push { cls := .type "list_iterator", data := .fields #[.ref l, .int 0 0] }).get? s.heap.objs.size = some { cls := .type "set", dict := none, data := .set #[] 0 (.fresh 0 0 led) } := Heap.get?_push_of_some _ hS
     refine ⟨_, #[], 0, _, q, ⟨rfl, rfl, rfl⟩, rfl, fun e he => by simp at he, fun x => ?_, by decide, by rfl, rfl⟩
     cases x <;> simp [inU, uq]
    case R0 =>
     intro h' tk km hS'
     show wpAny _ _ _ _ _ _
     refine wpAny_pure ?_
     show wpAny _ _ (ret Value.none) _ _ _
     refine wpAny_pure ⟨rfl, h', tk, rfl, hS', fun b o e => ?_⟩
     have lb : b < s.heap.objs.size := Heap.lt_size e
     refine km b o (Nat.ne_of_lt lb) ?_ (Heap.get?_push_of_some _ (Heap.get?_push_of_some _ e))
     rw [Heap.size_push]
     simp only [List.mem_cons, List.not_mem_nil, or_false]
     exact Nat.ne_of_lt (Nat.lt_succ_of_lt lb)
   ·cases r2 with
    | error e => exact hr2
    | ok fl2 =>
     cases fl2 with
     | ret r =>
      obtain ⟨rfl, h', tk, rfl, hS', hk'⟩ := hr2
      repeat (any_goals (first | assumption | wp_step))
      exact h _ _ hS' hk'
     | _ => exact hr2.elim
  | _ => exact hr.elim
end
def TxS (P : Program) (w : World) (a : Addr) (zs : List Str) : HO := .ext fun h => h.SetOf (Jmi P w) a (inU zs) (uq zs).length
theorem txs_ok {P : Program} {w : World} {H : Hp} {h : Heap} {a : Addr} {zs : List Str} (hS : h.SetOf (Jmi P w) a (inU zs) (uq zs).length) : ObjOk P w H h a (TxS P w a zs) :=
 ⟨hS, (let ⟨o, _, _, _, ho, _⟩ := hS; ⟨o, ho⟩), fun _ _ p k => Jq2 p k (fun _ => rfl) rfl⟩
section
variable {X : Cx}
theorem Jrm (hc : X.calm = true) : Jn3 X (.type "set") (fun xs H Q => ∃ (l : Addr) (zs : List Str), xs = [.ref l] ∧ SqL X.K H l (zs.map V.str) ∧ zs.length ≤ 2000 ∧ ∀ a, H a = none → Q (.ref a) (upd H a (TxS X.prog X.w a zs))) := by
 intro pins s σ H xs us Q I r h
 obtain ⟨l, zs, rfl, hq, hz, q⟩ := h
 obtain ⟨u, rfl, ru⟩ := Jnt r
 obtain rfl : u = Value.ref l := ru
 obtain ⟨its, rv, pl, _⟩ := I.list hq
 have hlen := rv.length
 rw [List.length_map] at hlen
 refine Jy3 (zs := zs) (I.ok.hd hc) pl.isList (by simpa using hlen) (fun i v hv => ?_) (by simp only [List.size_toArray]; unfold scanBound; omega) fun h' tk hS kk => ⟨.ref s.heap.objs.size, _, I.laid (a := s.heap.objs.size) (o := TxS X.prog X.w s.heap.objs.size zs) (t' := tk) kk (Nat.le_refl _) (txs_ok hS), rfl, q _ (I.hok.fresh (Nat.le_refl _))⟩
 ·have hv' : its[i]? = some v := by simpa using hv
  have hlt : i < zs.length := by have := (List.getElem?_eq_some_iff.mp hv').1; omega
  obtain ⟨u, hu, ru⟩ := rv.get (i := i) (x := V.str zs[i]) (by rw [List.getElem?_map, List.getElem?_eq_getElem hlt]; rfl)
  rw [hv'] at hu
  cases hu
  obtain ⟨t, rfl⟩ := ru
  exact ⟨zs[i], t, List.getElem?_eq_getElem hlt, rfl⟩
theorem Jrl : Jn3 X (.builtin "len") (fun xs H Q => ∃ (a : Addr) (zs : List Str), xs = [.ref a] ∧ H a = some (TxS X.prog X.w a zs) ∧ Q (.int (uq zs).length) H) := by
 intro pins s σ H xs us Q I r h
 obtain ⟨a, zs, rfl, ha, q⟩ := h
 obtain ⟨u, rfl, ru⟩ := Jnt r
 obtain rfl : u = Value.ref a := ru
 obtain ⟨o, es, ep, t, ho, hex, hd, _, _, hb, hf, hn⟩ := (I.hok a _ ha).1
 refine call_len_set ho hex hd hf (by unfold scanBound at hb; omega) ?_
 rw [hn]
 exact ⟨.int _, H, I.tok _, ⟨_, rfl⟩, q⟩
end
end L2
namespace L2
open PySem PySem.Spec PyProof.Rows PySem.W
theorem Jq9 : bootBuiltins "sum" = some (.builtin "sum") := by decide +kernel
theorem bt_set : bootBuiltins "set" = some (.type "set") := by decide +kernel
theorem Jpq : bootBuiltins "enumerate" = some (.type "enumerate") := by decide +kernel
def Sml (ns : List Int) : Prop := ns.length ≤ 2000 ∧ ∀ n ∈ ns, -1000000 ≤ n ∧ n ≤ 1000000
theorem Jre (ns : List Int) : ∀ i, i ≤ ns.length → preSum (fun j => ns.getD j 0) i = (ns.take i).sum
 | 0, _ => by simp [preSum]
 | i + 1, h => by
  have ih := Jre ns i (by omega)
  have hlt : i < ns.length := by omega
  have e : ns.take (i + 1) = ns.take i ++ [ns[i]] := by rw [List.take_add_one, List.getElem?_eq_getElem hlt]; rfl
  have e2 : ns.getD i 0 = ns[i] := by simp [List.getD, List.getElem?_eq_getElem hlt]
  rw [e, List.sum_append]
  simp only [List.sum_cons, List.sum_nil]
  show preSum (fun j => ns.getD j 0) i + ns.getD i 0 = _
  rw [ih, e2]
  omega
theorem Jzx : ∀ (l : List Int), (∀ n ∈ l, -1000000 ≤ n ∧ n ≤ 1000000) → -1000000 * (l.length : Int) ≤ l.sum ∧ l.sum ≤ 1000000 * (l.length : Int)
 | [], _ => by simp
 | n :: r, h => by
  have h1 := h n List.mem_cons_self
  have h2 := Jzx r fun m hm => h m (List.mem_cons_of_mem _ hm)
  rw [List.sum_cons, List.length_cons]
  constructor <;> omega
section
variable {X : Cx}
def rSum (K : PySem.W.Frag) : List V → Hp → VK → Prop := fun xs H Q => ∃ (a : Addr) (ns : List Int), xs = [.ref a] ∧ (SqL K H a (ns.map V.int) ∨ SqT K H a (ns.map V.int)) ∧ Sml ns ∧ Q (.int ns.sum) H
theorem Jno (hc : X.calm = true) : Jn3 X (.builtin "sum") (rSum X.K) := by
 intro pins s σ H xs us Q I r h
 obtain ⟨a, ns, rfl, hq, hs, q⟩ := h
 obtain ⟨u, rfl, ru⟩ := Jnt r
 obtain rfl : u = Value.ref a := ru
 have fit : ∀ j, j < ns.length → InLong ((fun j => ns.getD j 0) j) ∧ InLong (preSum (fun j => ns.getD j 0) (j + 1)) := fun j hj => by
  have e2 : ns.getD j 0 = ns[j] := by simp [List.getD, List.getElem?_eq_getElem hj]
  have b1 := hs.2 _ (List.getElem_mem hj)
  have b2 := Jzx (ns.take (j + 1)) fun m hm => hs.2 m (List.mem_of_mem_take hm)
  have b3 : ((ns.take (j + 1)).length : Int) ≤ 2000 := by have := hs.1; rw [List.length_take]; omega
  rw [Jre ns (j + 1) (by omega)]
  refine ⟨?_, ?_⟩
  ·show InLong (ns.getD j 0)
   rw [e2]
   unfold InLong
   constructor <;> omega
  ·unfold InLong
   constructor <;> omega
 have fin : ∀ {its : List Value} (rv : Vals (ns.map V.int) its) (i : Nat) (v : Value), its.toArray[i]? = some v → ∃ t, v = .int ((fun j => ns.getD j 0) i) t := fun {its} rv i v hv => by
  have hv' : its[i]? = some v := by simpa using hv
  have hl := rv.length
  rw [List.length_map] at hl
  have hi : i < ns.length := by have := (List.getElem?_eq_some_iff.mp hv').1; omega
  obtain ⟨u', hu', ru'⟩ := rv.get (i := i) (x := V.int ns[i]) (by rw [List.getElem?_map, List.getElem?_eq_getElem hi]; rfl)
  rw [hv'] at hu'
  cases hu'
  obtain ⟨t, rfl⟩ := ru'
  exact ⟨t, by simp [List.getD, List.getElem?_eq_getElem hi]⟩
 rcases hq with hq | hq
 ·obtain ⟨its, rv, pl, _⟩ := I.list hq
  have hl := rv.length
  rw [List.length_map] at hl
  have ne : a ≠ s.heap.objs.size := by obtain ⟨o, _, e, _⟩ := pl; exact Nat.ne_of_lt (Heap.lt_size e)
  refine call_sum_walk (wpAny_pyIter_list pl.isList ⟨s.heap.objs.size, _, _, its.toArray.size, _, _, fun j => ns.getD j 0, rfl, Walks.list (prog := X.prog) (w := X.w) (A := X.A.in1) (show X.A.in1.handled = none from I.ok.hd hc) s.heap.objs.size a ne its.toArray, ⟨⟨_, Heap.get?_push_size _ rfl, rfl, rfl⟩, pl.isList.push _⟩, fun b hb => ?_, fin rv, fun j hj => fit j (by simp only [List.size_toArray] at hj; omega), fun h' tk t' k => ?_⟩)
  ·rw [Heap.size_push]
   simp only [List.mem_cons, List.not_mem_nil, or_false] at hb
   rcases hb with rfl | rfl
   ·exact Nat.lt_succ_self _
   ·obtain ⟨o, _, e, _⟩ := pl
    exact Nat.lt_succ_of_lt (Heap.lt_size e)
  ·have e : preSum (fun j => ns.getD j 0) its.toArray.size = ns.sum := by
    rw [Jre ns _ (by simp only [List.size_toArray]; omega), List.take_of_length_le (by simp only [List.size_toArray]; omega)]
   rw [e]
   exact ⟨.int _, H, I.kept fun b o e => k b o (fun z => by
    have z' : b = s.heap.objs.size := by simpa using z
    exact absurd (Heap.lt_size e) (by rw [z']; exact Nat.lt_irrefl _)) (Heap.get?_push_of_some _ e), ⟨_, rfl⟩, q⟩
 ·obtain ⟨its, rv, pt, _⟩ := I.tuple hq
  have hl := rv.length
  rw [List.length_map] at hl
  have ne : a ≠ s.heap.objs.size := by obtain ⟨o, e, _⟩ := pt; exact Nat.ne_of_lt (Heap.lt_size e)
  refine call_sum_walk (wpAny_pyIter_tuple (show s.heap.IsTuple a its.toArray from pt) ⟨s.heap.objs.size, _, _, its.toArray.size, _, _, fun j => ns.getD j 0, rfl, Walks.tuple (prog := X.prog) (w := X.w) (A := X.A.in1) (show X.A.in1.handled = none from I.ok.hd hc) s.heap.objs.size a ne its.toArray, ⟨⟨_, Heap.get?_push_size _ rfl, rfl, rfl⟩, Heap.IsTuple.push pt _⟩, fun b hb => ?_, fin rv, fun j hj => fit j (by simp only [List.size_toArray] at hj; omega), fun h' tk t' k => ?_⟩)
  ·rw [Heap.size_push]
   simp only [List.mem_cons, List.not_mem_nil, or_false] at hb
   rcases hb with rfl | rfl
   ·exact Nat.lt_succ_self _
   ·obtain ⟨o, e, _⟩ := pt
    exact Nat.lt_succ_of_lt (Heap.lt_size e)
  ·have e : preSum (fun j => ns.getD j 0) its.toArray.size = ns.sum := by
    rw [Jre ns _ (by simp only [List.size_toArray]; omega), List.take_of_length_le (by simp only [List.size_toArray]; omega)]
   rw [e]
   exact ⟨.int _, H, I.kept fun b o e => k b o (fun z => by
    have z' : b = s.heap.objs.size := by simpa using z
    exact absurd (Heap.lt_size e) (by rw [z']; exact Nat.lt_irrefl _)) (Heap.get?_push_of_some _ e), ⟨_, rfl⟩, q⟩
end
end L2
namespace L2
open PySem PySem.Spec PyProof.Rows PySem.W
def ItE (K : PySem.W.Frag) (a : Addr) : It := ⟨fun i H => ∃ xs x, SqL K H a xs ∧ xs[i]? = some x,
 fun i H x H' => ∃ T u, H T = none ∧ x = .ref T ∧ (∀ xs, SqL K H a xs → xs[i]? = some u) ∧ H' = upd H T (.tup [.int i, u]),
 fun i H => ∃ xs, SqL K H a xs ∧ i = xs.length⟩
def EnuSt (e it l : Addr) (i : Nat) (h : Heap) : Prop := (∃ old, IsEnum h e it i old) ∧ h.IsListIter it l i
theorem EnuSt.obj {e it l : Addr} {i : Nat} {h : Heap} (st : EnuSt e it l i h) : ∀ b ∈ [e, it], ∃ o, h.get? b = some o ∧ ∀ v, o.data ≠ .cell v := fun b hb => by
 obtain ⟨⟨old, h1⟩, ⟨o4, h4, _, d4⟩⟩ := st
 simp only [List.mem_cons, List.not_mem_nil, or_false] at hb
 rcases hb with rfl | rfl
 ·exact ⟨_, h1, fun v z => by cases z⟩
 ·exact ⟨o4, h4, fun v z => by rw [d4] at z; cases z⟩
theorem Y3 {P : Program} {w : World} {K : PySem.W.Frag} {elts : List Expr} {kt : Nat} {pt : Pos} (e it l : Addr) (n1 : e ≠ it) (n2 : l ≠ e) (n3 : l ≠ it) :
  Turn P w K (.Tuple elts kt pt) (ItE K l) [e, it] e (EnuSt e it l) where
 mem := by simp
 obj := fun i h st => st.obj
 keep := fun i h h' st k => by
  obtain ⟨⟨old, h1⟩, h2⟩ := st
  exact ⟨⟨old, k e (by simp) _ h1⟩, h2.at fun o q => k it (by simp) o q⟩
 item := by
  intro X hP hw hK hc i pins s σ H E I hf st hg
  subst hP hw hK
  obtain ⟨xs, x, q1, hx⟩ := hg
  obtain ⟨its, rv, p1, _⟩ := I.list q1
  obtain ⟨u, hu, ru⟩ := rv.get hx
  have W := WalksT.enumerate (prog := X.prog) (w := X.w) (I.ok.hd hc) e it l n1 n2 n3 its.toArray
  obtain ⟨s1, s2⟩ := st
  have li : i < its.length := (List.getElem?_eq_some_iff.mp hu).1
  refine W.item i s _ _ (by simp only [List.size_toArray]; omega) ⟨s1, s2, p1.isList⟩ fun T vals h' tk hP fT tT mid kk => ?_
  refine ⟨_, rfl, W.go elts kt pt i T _ _ _ mid fun h'' st'' kk2 => ?_⟩
  obtain ⟨t, a, ha, rfl⟩ := hP
  have ea : a = u := by simpa [hu] using ha.symm
  subst ea
  obtain ⟨t1, t2, _⟩ := st''
  have kT : h''.IsTuple T #[.int i t, a] := by
   obtain ⟨o, q, r⟩ := tT
   exact ⟨o, kk2 T o (W.apart i T h' mid) q, r⟩
  refine ⟨.ref T, upd H T (.tup [.int i, x]), I.turnTup (ch := [e, it]) (t' := tk) hf (fun c o hc q => kk2 c o hc (kk c o hc q)) fT ⟨(show 2 ≤ sizeLine by decide), [.int i t, a], .cons ⟨t, rfl⟩ (.cons ru .nil), kT⟩, rfl, ⟨T, x, I.hok.fresh fT, rfl, fun xs' hq => by rw [I.list_inj hq q1]; exact hx, rfl⟩, ⟨t1, t2⟩, fun c hc => ?_⟩
  have hcn := (hf c hc).1
  rw [Jkv (fun w' => ?_)]
  ·exact hcn
  ·subst w'
   obtain ⟨o, q, _⟩ := EnuSt.obj (show EnuSt e it l i s.heap from ⟨s1, s2⟩) c hc
   exact absurd (Heap.lt_size q) (Nat.not_lt.mpr fT)
 done := by
  intro X hP hw hK hc i pins s σ H E I hf st hg
  subst hP hw hK
  obtain ⟨xs, q1, hi⟩ := hg
  obtain ⟨its, rv, p1, _⟩ := I.list q1
  have W := WalksT.enumerate (prog := X.prog) (w := X.w) (I.ok.hd hc) e it l n1 n2 n3 its.toArray
  obtain ⟨s1, s2⟩ := st
  have e1 := rv.length
  have ei : i = its.toArray.size := by simp only [List.size_toArray]; omega
  subst ei
  refine W.done s _ _ ⟨s1, s2, p1.isList⟩ fun h' tk kk => ⟨rfl, ?_⟩
  exact I.turnMany (ch := [e, it]) hf fun c o hc q => kk c o hc q
 self := fun _ _ _ _ _ st h => let ⟨_, q⟩ := st.1; wpAny_pyIter_enum q h
def iEnu (K : PySem.W.Frag) (ta : TA) : TI := fun σ H R => ta σ H fun vs H1 => ∃ a, vs = [.ref a] ∧ (∃ xs, SqL K H1 a xs) ∧ R (ItE K a) H1
theorem Yx {X : Cx} {elts : List Expr} {kt : Nat} {pt : Pos} {a : Expr} {ta : TA} {p pos : Pos} (hg : Gl X "enumerate") (hm : X.mg "enumerate" = none) (ha : PA X [a] ta) (hs : starEach [a] X.env = [(false, eval a X.env)] := by rfl) :
  PI X (.Tuple elts kt pt) (.Call (.Name "enumerate" p) [a] [] pos) (iEnu X.K ta) := by
 intro pins s σ H R I h
 refine Call_ (Jnx I hg hm Jpq (PyProof.Rows.callWith_type1 (thn (ha pos pins s σ H _ I h) fun us s1 ⟨vs, H1, I1, r1, q1⟩ => ?_) (by rw [hs]; rfl) rfl))
 obtain ⟨l, rfl, ⟨xs, q1⟩, q⟩ := q1
 obtain ⟨u, rfl, r2⟩ := Jnt r1
 obtain rfl : u = Value.ref l := r2
 obtain ⟨its, rv, p1, _⟩ := I1.list q1
 have a1 : l < s1.heap.objs.size := by obtain ⟨o, n, e, _⟩ := p1; exact Heap.lt_size e
 refine call_enumerate_list p1.isList fun h' z1 z2 z3 kk => ?_
 have I2 : Inv X pins σ H1 { s1 with heap := h' } := I1.kept (t' := s1.toks) kk
 refine wpAny_pyIter_enum z1 ⟨_, _, _, _, H1, rfl, I2, Y3 (s1.heap.objs.size + 1) s1.heap.objs.size l (Nat.succ_ne_self _) (Nat.ne_of_lt (Nat.lt_succ_of_lt a1)) (Nat.ne_of_lt a1), ⟨⟨_, z1⟩, z2⟩, fun c hc => ?_, q⟩
 have hc' : s1.heap.objs.size ≤ c := by
  simp only [List.mem_cons, List.not_mem_nil, or_false] at hc
  rcases hc with rfl | rfl
  ·exact Nat.le_succ _
  ·exact Nat.le_refl _
 exact I1.fpOk hc' (I1.hok.fresh hc')
end L2
namespace L2
open PySem PySem.Spec PyProof.Rows PySem.W
section
variable {prog : Program} {w : World} {A : Around} {E : Value → Shared → Prop} {s : Shared}
theorem Jut {it t : Addr} {i : Nat} {items : Array Value} {x : Value} {Q : Value → Shared → Prop} (hit : s.heap.IsTupleIter it t i) (ht : s.heap.IsTuple t items) (hx : items[i]? = some x)
  (hQ : ∀ h', h'.IsTupleIter it t (i + 1) → Heap.SameBut it s.heap h' → Q x { s with heap := h' }) : wpAny (model prog w) A (Builtin.SmallTypes.nextOf (.ref it)) Q E s := by
 obtain ⟨o, ho, hc, hd⟩ := id hit
 obtain ⟨ol, hol, _, nl, hdl⟩ := ht
 have hT : s.TypeIs (.ref it) "tuple_iterator" := ⟨o, ho, hc⟩
 unfold Builtin.SmallTypes.nextOf
 refine wpAny_bind (wpAny_callSpecial?_slot (name := Str.ofString "__next__") hT slot_tupleiter_next (wpAny_call_entry slot_tupleiter_next hT entry_tupleiter_next ?_ (args_tupleiter_next _)))
 refine wpAny_bind (m := field (.ref it) 0) (wpAny_field ho hd (x := .ref t) rfl ?_)
 show wpAny _ _ (if (Value.ref t == Value.none) = true then _ else _) _ _ s
 rw [if_neg (show ¬ ((Value.ref t == Value.none) = true) from Bool.false_ne_true)]
 refine wpAny_bind (m := field (.ref it) 1) (wpAny_field ho hd (x := .int i 0) rfl ?_)
 refine wpAny_bind (m := seqItems? (.ref t)) (wpAny_seqItems hol hdl ?_)
 simp only [Int.toNat_natCast, hx]
 refine wpAny_bind (wpAny_setField ho hd (by simp) (wpAny_pure ⟨x, rfl, wpAny_pure (hQ _ ⟨_, Heap.get?_update_self _ ho (Obj.isFreed_of_fields (Obj.data_mapFields hd _)), (Obj.cls_mapFields ..).trans hc, ?_⟩ (Heap.SameBut.update ..))⟩))
 rw [Obj.data_mapFields hd]
 simp [rawInt]
theorem Jvh {it t : Addr} {i : Nat} {items : Array Value} {Q : Value → Shared → Prop} (hh : A.handled = none) (hit : s.heap.IsTupleIter it t i) (ht : s.heap.IsTuple t items) (hx : items[i]? = none)
  (hE : ∀ h' e, Heap.ExtBut it s.heap h' → (∃ o, h'.get? e = some o ∧ o.cls = .type "StopIteration") → E (.ref e) { s with heap := h' }) : wpAny (model prog w) A (Builtin.SmallTypes.nextOf (.ref it)) Q E s := by
 obtain ⟨o, ho, hc, hd⟩ := id hit
 obtain ⟨ol, hol, _, nl, hdl⟩ := ht
 have hT : s.TypeIs (.ref it) "tuple_iterator" := ⟨o, ho, hc⟩
 unfold Builtin.SmallTypes.nextOf
 refine wpAny_bind (wpAny_callSpecial?_slot (name := Str.ofString "__next__") hT slot_tupleiter_next (wpAny_call_entry slot_tupleiter_next hT entry_tupleiter_next ?_ (args_tupleiter_next _)))
 refine wpAny_bind (m := field (.ref it) 0) (wpAny_field ho hd (x := .ref t) rfl ?_)
 show wpAny _ _ (if (Value.ref t == Value.none) = true then _ else _) _ _ s
 rw [if_neg (show ¬ ((Value.ref t == Value.none) = true) from Bool.false_ne_true)]
 refine wpAny_bind (m := field (.ref it) 1) (wpAny_field ho hd (x := .int i 0) rfl ?_)
 refine wpAny_bind (m := seqItems? (.ref t)) (wpAny_seqItems hol hdl ?_)
 simp only [Int.toNat_natCast, hx]
 refine wpAny_bind (wpAny_rule (wpAny_bind (wpAny_setField ho hd (by simp) ?_)))
 refine wpAny_bind (m := newExc (.type "StopIteration") []) ?_
 simp only [newExc, newTuple]
 refine wpAny_bind (wpAny_newObj_type (wpAny_bind (m := firstArgMember _ _) (wpAny_of_eq (a := Value.none) (by first | rfl | (simp only [firstArgMember]; rfl)) (wpAny_newObj_type ?_ (by size_fits)))) (by size_fits))
 simp only [raiseNew]
 refine wpAny_bind (wpAny_handled ?_)
 first | rw [show A.in1.handled = none from hh] | rw [hh]
 exact wpAny_bind (wpAny_pure (wpAny_throw (hE _ _ (((Heap.SameBut.update ..).extBut.push _).push _) ⟨_, Heap.get?_push_size _ rfl, rfl⟩)))
end
theorem Jqb {prog : Program} {w : World} {A : Around} (hh : A.handled = none) (it l : Addr) (hne : l ≠ it) (items : Array Value) :
  Draws prog w A it [it, l] items.size (fun i v => items[i]? = some v) (fun i h => h.IsTupleIter it l i ∧ h.IsTuple l items) where
 live := fun _ _ st => let ⟨o, ho, _⟩ := st.1; ⟨o, ho⟩
 frame := fun _ _ _ st hk => ⟨st.1.at fun o e => hk it (by simp) o e, st.2.at fun o e => hk l (by simp) o e⟩
 item := fun i s Q E hi st hQ => Jut st.1 st.2 (x := items[i]) (by simp [hi]) fun h' hit' hs' => hQ _ h' s.toks (by simp [hi]) ⟨hit', st.2.extBut hs'.extBut hne⟩ hs'
 done := fun s Q E st hE => Jvh hh st.1 st.2 (by simp) hE
end L2
namespace L2
open PySem PySem.Spec PyProof.Rows PySem.W
set_option maxRecDepth 100000 in
set_option maxHeartbeats 2000000 in
theorem Jyp (l : Addr) (items : Array Value) (n : Nat) (dct : Option Addr) (sl : Array (Option Value)) :
  Meets (Builtin.«enumerate.__new__» ⟨[.type "enumerate", .ref l], []⟩) (fun _ R s => s.heap.get? l = some { cls := .type "tuple", dict := dct, data := .seq items n, slots := sl } ∧
   R (.ok (.ret (.ref (s.heap.push { cls := .type "tuple_iterator", data := .fields #[.ref l, .int 0 0] }).objs.size)))
    { s with heap := (s.heap.push { cls := .type "tuple_iterator", data := .fields #[.ref l, .int 0 0] }).push { cls := .type "enumerate", data := .fields #[.none, .bool false, .ref s.heap.objs.size, rawInt 0, .none, .none] } }) :=
 .of_wp fun prog w A R s h => by
  obtain ⟨hp, g, d, tk, os⟩ := s
  obtain ⟨hl, h⟩ := h
  have e1 := sub_enumerate
  have e2 : Heap.IsTuple (Shared.heap ⟨hp, g, d, tk, os⟩) l items := ⟨_, hl, rfl, n, rfl⟩
  wp_walk using AutoSeq1.wpAny_loadPart' hl
  refine wpAny_stack_any fun st => wpAny_pure ?_
  split
  ·rename_i c _ _ _ _ _
   cases (c == Value.type "enumerate")
   ·wp_walk using AutoSeq1.wpAny_loadPart' hl, wpAny_pyIter_tuple e2
    exact ⟨_, rfl, h⟩
   ·wp_walk using AutoSeq1.wpAny_loadPart' hl, wpAny_pyIter_tuple e2
    exact ⟨_, rfl, h⟩
  ·wp_walk using AutoSeq1.wpAny_loadPart' hl, wpAny_pyIter_tuple e2
   exact ⟨_, rfl, h⟩
section
variable {prog : Program} {w : World} {A : Around} {E : Value → Shared → Prop} {s : Shared}
theorem Jxi {l : Addr} {items : Array Value} {Q : Value → Shared → Prop} (hL : s.heap.IsTuple l items)
  (h : ∀ h', IsEnum h' (s.heap.objs.size + 1) s.heap.objs.size 0 .none → h'.IsTupleIter s.heap.objs.size l 0 → (∀ b o, s.heap.get? b = some o → h'.get? b = some o) → Q (.ref (s.heap.objs.size + 1)) { s with heap := h' }) :
  wpAny (model prog w) A (call (.type "enumerate") [.ref l]) Q E s := by
 obtain ⟨⟨c, dct, dt, sl⟩, hl, hc, n, hd⟩ := hL
 replace hc : c = .type "tuple" := hc
 replace hd : dt = .seq items n := hd
 subst hc hd
 refine callType_new F.called_enumerate (by decide) (F.typeCall_enumerate_1 _) (F.newCall_enumerate_1 _) (fun obj => F.args_object_init_2 obj _) F.entry_enumerate_new (Jyp l items n dct sl) ⟨hl, ?_⟩
 have hz : (s.heap.push { cls := .type "tuple_iterator", data := .fields #[.ref l, .int 0 0] }).objs.size = s.heap.objs.size + 1 := Heap.size_push ..
 show _ ∧ _
 rw [hz]
 have he : IsEnum ((s.heap.push { cls := .type "tuple_iterator", data := .fields #[.ref l, .int 0 0] }).push { cls := .type "enumerate", data := .fields #[.none, .bool false, .ref s.heap.objs.size, rawInt 0, .none, .none] }) (s.heap.objs.size + 1) s.heap.objs.size 0 .none := by
  have q := Heap.get?_push_size (s.heap.push { cls := .type "tuple_iterator", data := .fields #[.ref l, .int 0 0] }) (o := { cls := .type "enumerate", data := .fields #[.none, .bool false, .ref s.heap.objs.size, rawInt 0, .none, .none] }) rfl
  rw [hz] at q
  exact q
 exact ⟨⟨_, he, rfl⟩, h _ he ⟨_, Heap.get?_push_of_some _ (Heap.get?_push_size _ rfl), rfl, rfl⟩ fun b o x => Heap.get?_push_of_some _ (Heap.get?_push_of_some _ x)⟩
end
def ItU (K : PySem.W.Frag) (a : Addr) : It := ⟨fun i H => ∃ xs x, SqT K H a xs ∧ xs[i]? = some x,
 fun i H x H' => ∃ T u, H T = none ∧ x = .ref T ∧ (∀ xs, SqT K H a xs → xs[i]? = some u) ∧ H' = upd H T (.tup [.int i, u]),
 fun i H => ∃ xs, SqT K H a xs ∧ i = xs.length⟩
def EnuTt (e it l : Addr) (i : Nat) (h : Heap) : Prop := (∃ old, IsEnum h e it i old) ∧ h.IsTupleIter it l i
theorem EnuTt.obj {e it l : Addr} {i : Nat} {h : Heap} (st : EnuTt e it l i h) : ∀ b ∈ [e, it], ∃ o, h.get? b = some o ∧ ∀ v, o.data ≠ .cell v := fun b hb => by
 obtain ⟨⟨old, h1⟩, ⟨o4, h4, _, d4⟩⟩ := st
 simp only [List.mem_cons, List.not_mem_nil, or_false] at hb
 rcases hb with rfl | rfl
 ·exact ⟨_, h1, fun v z => by cases z⟩
 ·exact ⟨o4, h4, fun v z => by rw [d4] at z; cases z⟩
theorem Jyb {P : Program} {w : World} {K : PySem.W.Frag} {elts : List Expr} {kt : Nat} {pt : Pos} (e it l : Addr) (n1 : e ≠ it) (n2 : l ≠ e) (n3 : l ≠ it) :
  Turn P w K (.Tuple elts kt pt) (ItU K l) [e, it] e (EnuTt e it l) where
 mem := by simp
 obj := fun i h st => st.obj
 keep := fun i h h' st k => by
  obtain ⟨⟨old, h1⟩, h2⟩ := st
  exact ⟨⟨old, k e (by simp) _ h1⟩, h2.at fun o q => k it (by simp) o q⟩
 item := by
  intro X hP hw hK hc i pins s σ H E I hf st hg
  subst hP hw hK
  obtain ⟨xs, x, q1, hx⟩ := hg
  obtain ⟨its, rv, p1, _⟩ := I.tuple q1
  obtain ⟨u, hu, ru⟩ := rv.get hx
  have hh : X.A.in1.handled = none := I.ok.hd hc
  have W := WalksT.enumerateD (prog := X.prog) (w := X.w) (A := X.A) (Jqb hh it l n3 its.toArray) e n1 (by simp [n1, Ne.symm n2]) (by simp)
  obtain ⟨s1, s2⟩ := st
  have li : i < its.length := (List.getElem?_eq_some_iff.mp hu).1
  refine W.item i s _ _ (by simp only [List.size_toArray]; omega) ⟨s1, s2, p1⟩ fun T vals h' tk hP fT tT mid kk => ?_
  refine ⟨_, rfl, W.go elts kt pt i T _ _ _ mid fun h'' st'' kk2 => ?_⟩
  obtain ⟨t, a, ha, rfl⟩ := hP
  have ea : a = u := by simpa [hu] using ha.symm
  subst ea
  obtain ⟨t1, t2, _⟩ := st''
  have kT : h''.IsTuple T #[.int i t, a] := by
   obtain ⟨o, q, r⟩ := tT
   exact ⟨o, kk2 T o (W.apart i T h' mid) q, r⟩
  refine ⟨.ref T, upd H T (.tup [.int i, x]), I.turnTup (ch := [e, it]) (t' := tk) hf (fun c o hc q => kk2 c o hc (kk c o hc q)) fT ⟨(show 2 ≤ sizeLine by decide), [.int i t, a], .cons ⟨t, rfl⟩ (.cons ru .nil), kT⟩, rfl, ⟨T, x, I.hok.fresh fT, rfl, fun xs' hq => by rw [I.tuple_inj hq q1]; exact hx, rfl⟩, ⟨t1, t2⟩, fun c hc => ?_⟩
  have hcn := (hf c hc).1
  rw [Jkv (fun w' => ?_)]
  ·exact hcn
  ·subst w'
   obtain ⟨o, q, _⟩ := EnuTt.obj (show EnuTt e it l i s.heap from ⟨s1, s2⟩) c hc
   exact absurd (Heap.lt_size q) (Nat.not_lt.mpr fT)
 done := by
  intro X hP hw hK hc i pins s σ H E I hf st hg
  subst hP hw hK
  obtain ⟨xs, q1, hi⟩ := hg
  obtain ⟨its, rv, p1, _⟩ := I.tuple q1
  have hh : X.A.in1.handled = none := I.ok.hd hc
  have W := WalksT.enumerateD (prog := X.prog) (w := X.w) (A := X.A) (Jqb hh it l n3 its.toArray) e n1 (by simp [n1, Ne.symm n2]) (by simp)
  obtain ⟨s1, s2⟩ := st
  have e1 := rv.length
  have ei : i = its.toArray.size := by simp only [List.size_toArray]; omega
  subst ei
  refine W.done s _ _ ⟨s1, s2, p1⟩ fun h' tk kk => ⟨rfl, ?_⟩
  exact I.turnMany (ch := [e, it]) hf fun c o hc q => kk c o hc q
 self := fun _ _ _ _ _ st h => let ⟨_, q⟩ := st.1; wpAny_pyIter_enum q h
def iEnuT (K : PySem.W.Frag) (ta : TA) : TI := fun σ H R => ta σ H fun vs H1 => ∃ a, vs = [.ref a] ∧ (∃ xs, SqT K H1 a xs) ∧ R (ItU K a) H1
theorem Jva {X : Cx} {elts : List Expr} {kt : Nat} {pt : Pos} {a : Expr} {ta : TA} {p pos : Pos} (hg : Gl X "enumerate") (hm : X.mg "enumerate" = none) (ha : PA X [a] ta) (hs : starEach [a] X.env = [(false, eval a X.env)] := by rfl) :
  PI X (.Tuple elts kt pt) (.Call (.Name "enumerate" p) [a] [] pos) (iEnuT X.K ta) := by
 intro pins s σ H R I h
 refine Call_ (Jnx I hg hm Jpq (PyProof.Rows.callWith_type1 (thn (ha pos pins s σ H _ I h) fun us s1 ⟨vs, H1, I1, r1, q1⟩ => ?_) (by rw [hs]; rfl) rfl))
 obtain ⟨l, rfl, ⟨xs, q1⟩, q⟩ := q1
 obtain ⟨u, rfl, r2⟩ := Jnt r1
 obtain rfl : u = Value.ref l := r2
 obtain ⟨its, rv, p1, _⟩ := I1.tuple q1
 have a1 : l < s1.heap.objs.size := by obtain ⟨o, e, _⟩ := p1; exact Heap.lt_size e
 refine Jxi (show s1.heap.IsTuple l its.toArray from p1) fun h' z1 z2 kk => ?_
 have I2 : Inv X pins σ H1 { s1 with heap := h' } := I1.kept (t' := s1.toks) kk
 refine wpAny_pyIter_enum z1 ⟨_, _, _, _, H1, rfl, I2, Jyb (s1.heap.objs.size + 1) s1.heap.objs.size l (Nat.succ_ne_self _) (Nat.ne_of_lt (Nat.lt_succ_of_lt a1)) (Nat.ne_of_lt a1), ⟨⟨_, z1⟩, z2⟩, fun c hc => ?_, q⟩
 have hc' : s1.heap.objs.size ≤ c := by
  simp only [List.mem_cons, List.not_mem_nil, or_false] at hc
  rcases hc with rfl | rfl
  ·exact Nat.le_succ _
  ·exact Nat.le_refl _
 exact I1.fpOk hc' (I1.hok.fresh hc')
end L2
namespace L2
open PySem PySem.Spec PyProof.Rows PySem.W
abbrev Jmq (h : Heap) (T : Addr) (a b c : Value) : Prop := h.get? T = some { cls := .type "tuple", data := .seq #[a, b, c] }
abbrev DrA (prog : Program) (w : World) (i l : Addr) (n : Nat) (P : Nat → Value → Prop) (St : Nat → Heap → Prop) : Prop := ∀ A : Around, A.handled = none → Draws prog w A i [i, l] n P St
structure Z3 (z TI TO i1 i2 i3 l1 l2 l3 : Addr) : Prop where
 nd : [z, TI, TO, i1, i2, i3].Nodup
 m1 : l1 ∉ [z, TI, TO, i1, i2, i3]
 m2 : l2 ∉ [z, TI, TO, i1, i2, i3]
 m3 : l3 ∉ [z, TI, TO, i1, i2, i3]
section
variable {prog : Program} {w : World} {A : Around} {E : Value → Shared → Prop} {s : Shared}
theorem Jwm {T : Addr} {a b c x : Value} {k : Nat} {Q : Unit → Shared → Prop} (hT : Jmq s.heap T a b c)
  (h : ∀ h', h'.get? T = some { cls := .type "tuple", data := .seq ((#[a, b, c] : Array Value).setIfInBounds k x) } → Heap.SameBut T s.heap h' → Q () { s with heap := h' }) : wpAny (model prog w) A (updateSeq T (·.setIfInBounds k x)) Q E s := by
 refine wpAny_updateSeq hT rfl (h _ ?_ (Heap.SameBut.update ..))
 rw [Heap.get?_update_self _ hT rfl]
 simp [Obj.mapSeq]
variable {z TI TO i1 i2 i3 l1 l2 l3 : Addr} {n k : Nat} {P1 P2 P3 : Nat → Value → Prop} {S1 S2 S3 : Nat → Heap → Prop} {a b c : Value}
theorem Yav {Q : Value → Shared → Prop} (Z : Z3 z TI TO i1 i2 i3 l1 l2 l3) (hz : IsZip s.heap z TI TO .none) (hTI : Jmq s.heap TI (.ref i1) (.ref i2) (.ref i3)) (hTO : Jmq s.heap TO a b c)
  (hh : A.handled = none) (D1 : DrA prog w i1 l1 n P1 S1) (D2 : DrA prog w i2 l2 n P2 S2) (D3 : DrA prog w i3 l3 n P3 S3) (hk : k < n) (t1 : S1 k s.heap) (t2 : S2 k s.heap) (t3 : S3 k s.heap)
  (hQ : ∀ x y u h' tk, P1 k x → P2 k y → P3 k u → IsZip h' z TI TO (rawInt s.heap.objs.size) → Jmq h' TO x y u → S1 (k + 1) h' → S2 (k + 1) h' → S3 (k + 1) h' → Jmq h' s.heap.objs.size x y u →
   (∀ d o, d ≠ z → d ≠ TO → d ≠ i1 → d ≠ i2 → d ≠ i3 → s.heap.get? d = some o → h'.get? d = some o) → Q (.ref s.heap.objs.size) { s with heap := h', toks := tk }) :
  wpAny (model prog w) A (Builtin.«zip.__next__» ⟨[.ref z], []⟩) (fun fin s' => ∃ v, fin = .done (.ret v) ∧ Q v s') E s := by
 obtain ⟨nd, m1, m2, m3⟩ := Z
 simp only [List.nodup_cons, List.mem_cons, List.not_mem_nil, or_false, not_or, List.nodup_nil, and_true, not_false_eq_true] at nd m1 m2 m3
 obtain ⟨⟨zTI, zTO, z1, z2, z3⟩, ⟨TITO, TI1, TI2, TI3⟩, ⟨TO1, TO2, TO3⟩, ⟨n12, n13⟩, n23⟩ := nd
 obtain ⟨l1z, l1TI, l1TO, l11, l12, l13⟩ := m1
 obtain ⟨l2z, l2TI, l2TO, l21, l22, l23⟩ := m2
 obtain ⟨l3z, l3TI, l3TO, l31, l32, l33⟩ := m3
 have fr : ∀ {S : Nat → Heap → Prop} {P : Nat → Value → Prop} {i l b : Addr} {m : Nat} {h h' : Heap}, DrA prog w i l n P S → i ≠ b → l ≠ b → Heap.SameBut b h h' → S m h → S m h' := fun D e1 e2 sb st =>
  (D A hh).frame _ _ _ st fun d hd o e => by
   simp only [List.mem_cons, List.not_mem_nil, or_false] at hd
   rcases hd with rfl | rfl
   ·exact sb.extBut _ _ e1 e
   ·exact sb.extBut _ _ e2 e
 show wpAny _ _ (field (.ref z) 2 >>= _) _ _ _
 refine wpAny_bind (wpAny_field hz rfl (x := .bool false) rfl ?_)
 refine wpAny_bind (m := field (.ref z) 3) (wpAny_field hz rfl (x := .ref TI) rfl ?_)
 refine wpAny_bind (wpAny_seqItems hTI rfl ?_)
 refine wpAny_bind (m := Builtin.SmallTypes.ownedTupleIsFree (.ref z)) ?_
 unfold Builtin.SmallTypes.ownedTupleIsFree
 refine wpAny_bind (wpAny_field hz rfl (x := .none) rfl (wpAny_pure ?_))
 simp only [if_true]
 refine wpAny_bind (wpAny_rule (wpAny_bind (wpAny_field hz rfl (x := .ref TO) rfl (wpAny_bind (wpAny_setField_rec hz (by simp) fun h1 hz1 s1 => ?_)))))
 replace hz1 : IsZip h1 z TI TO .ellipsis := hz1
 refine wpAny_bind ?_
 simp only [List.zipIdx_cons, List.zipIdx_nil, List.forIn_cons, List.forIn_nil]
 refine wpAny_bind (wpAny_bind (wpAny_onRaise ?_))
 refine wpAny_bind (m := Builtin.SmallTypes.nextOf (.ref i1)) ((D1 A hh).item k _ _ _ hk (fr D1 (Ne.symm z1) l1z s1 t1) fun x h2 k2 px u1 s2 => wpAny_pure ?_)
 have o2 : Jmq h2 TO a b c := s2.extBut _ _ TO1 (s1.extBut _ _ (Ne.symm zTO) hTO)
 refine wpAny_bind (wpAny_seqItems o2 rfl (wpAny_bind (Jwm o2 fun h3 o3 s3 => wpAny_bind (wpAny_letGo (wpAny_pure ?_)))))
 replace o3 : Jmq h3 TO x b c := o3
 refine wpAny_bind (wpAny_bind (wpAny_onRaise ?_))
 refine wpAny_bind (m := Builtin.SmallTypes.nextOf (.ref i2)) ((D2 A hh).item k _ _ _ hk (fr D2 (Ne.symm TO2) l2TO s3 (fr D2 (Ne.symm n12) l21 s2 (fr D2 (Ne.symm z2) l2z s1 t2))) fun y h4 k4 py u2 s4 => wpAny_pure ?_)
 have o4 : Jmq h4 TO x b c := s4.extBut _ _ TO2 o3
 refine wpAny_bind (wpAny_seqItems o4 rfl (wpAny_bind (Jwm o4 fun h5 o5 s5 => wpAny_bind (wpAny_letGo (wpAny_pure ?_)))))
 replace o5 : Jmq h5 TO x y c := o5
 refine wpAny_bind (wpAny_bind (wpAny_onRaise ?_))
 refine wpAny_bind (m := Builtin.SmallTypes.nextOf (.ref i3)) ((D3 A hh).item k _ _ _ hk (fr D3 (Ne.symm TO3) l3TO s5 (fr D3 (Ne.symm n23) l32 s4 (fr D3 (Ne.symm TO3) l3TO s3 (fr D3 (Ne.symm n13) l31 s2 (fr D3 (Ne.symm z3) l3z s1 t3))))) fun u h6 k6 pu u3 s6 => wpAny_pure ?_)
 have o6 : Jmq h6 TO x y c := s6.extBut _ _ TO3 o5
 refine wpAny_bind (wpAny_seqItems o6 rfl (wpAny_bind (Jwm o6 fun h7 o7 s7 => wpAny_bind (wpAny_letGo (wpAny_pure (wpAny_pure ?_))))))
 replace o7 : Jmq h7 TO x y u := o7
 refine wpAny_bind (wpAny_seqItems o7 rfl (wpAny_bind (wpAny_newTuple ?_)))
 have sz : h7.objs.size = s.heap.objs.size := by rw [s7.1, s6.1, s5.1, s4.1, s3.1, s2.1, s1.1]
 have zz : IsZip h7 z TI TO .ellipsis := s7.extBut _ _ zTO (s6.extBut _ _ z3 (s5.extBut _ _ zTO (s4.extBut _ _ z2 (s3.extBut _ _ zTO (s2.extBut _ _ z1 hz1)))))
 have kk : ∀ d o, d ≠ z → d ≠ TO → d ≠ i1 → d ≠ i2 → d ≠ i3 → s.heap.get? d = some o → h7.get? d = some o := fun d o c1 c2 c3 c4 c5 e =>
  s7.extBut _ _ c2 (s6.extBut _ _ c5 (s5.extBut _ _ c2 (s4.extBut _ _ c4 (s3.extBut _ _ c2 (s2.extBut _ _ c3 (s1.extBut _ _ c1 e))))))
 have w1 : S1 (k + 1) h7 := fr D1 (Ne.symm TO1) l1TO s7 (fr D1 n13 l13 s6 (fr D1 (Ne.symm TO1) l1TO s5 (fr D1 n12 l12 s4 (fr D1 (Ne.symm TO1) l1TO s3 u1))))
 have w2 : S2 (k + 1) h7 := fr D2 (Ne.symm TO2) l2TO s7 (fr D2 n23 l23 s6 (fr D2 (Ne.symm TO2) l2TO s5 u2))
 have w3 : S3 (k + 1) h7 := fr D3 (Ne.symm TO3) l3TO s7 u3
 have zlt : z < h7.objs.size := Heap.lt_size zz
 refine wpAny_bind (m := Builtin.SmallTypes.ownedTupleHandOut (.ref z) (.ref h7.objs.size)) ?_
 unfold Builtin.SmallTypes.ownedTupleHandOut
 have zp : IsZip (h7.push { cls := .type "tuple", data := .seq #[x, y, u] }) z TI TO .ellipsis := Heap.get?_push_of_some _ zz
 refine wpAny_bind (wpAny_setField_rec zp (by simp) fun h8 hz8 s8 => ?_)
 replace hz8 : IsZip h8 z TI TO (rawInt h7.objs.size) := hz8
 refine wpAny_setField_rec hz8 (by simp) fun h9 hz9 s9 => ?_
 replace hz9 : IsZip h9 z TI TO (rawInt h7.objs.size) := hz9
 have up : ∀ d o, d ≠ z → h7.get? d = some o → h9.get? d = some o := fun d o c1 e => s9.extBut _ _ c1 (s8.extBut _ _ c1 (Heap.get?_push_of_some _ e))
 have nw : Jmq h9 h7.objs.size x y u := s9.extBut _ _ (Nat.ne_of_gt zlt) (s8.extBut _ _ (Nat.ne_of_gt zlt) (Heap.get?_push_size _ rfl))
 have fz : ∀ {S : Nat → Heap → Prop} {P : Nat → Value → Prop} {i l : Addr} {m : Nat}, DrA prog w i l n P S → i ≠ z → l ≠ z → S m h7 → S m h9 := fun D e1 e2 st => (D A hh).frame _ _ _ st fun d hd o e => by
  simp only [List.mem_cons, List.not_mem_nil, or_false] at hd
  rcases hd with rfl | rfl
  ·exact up _ _ e1 e
  ·exact up _ _ e2 e
 rw [sz] at hz9 nw
 refine wpAny_pure ⟨_, rfl, ?_⟩
 show Q (.ref h7.objs.size) _
 rw [sz]
 exact hQ x y u h9 _ px py pu hz9 (up _ _ (Ne.symm zTO) o7) (fz D1 (Ne.symm z1) l1z w1) (fz D2 (Ne.symm z2) l2z w2) (fz D3 (Ne.symm z3) l3z w3) nw fun d o c1 c2 c3 c4 c5 e => up d o c1 (kk d o c1 c2 c3 c4 c5 e)
theorem z3_end {Q : Fin → Shared → Prop} (Z : Z3 z TI TO i1 i2 i3 l1 l2 l3) (hz : IsZip s.heap z TI TO .none) (hTI : Jmq s.heap TI (.ref i1) (.ref i2) (.ref i3))
  (hh : A.handled = none) (D1 : DrA prog w i1 l1 n P1 S1) (t1 : S1 n s.heap)
  (hE : ∀ h' e, (∀ d o, d ≠ z → d ≠ i1 → s.heap.get? d = some o → h'.get? d = some o) → (∃ o, h'.get? e = some o ∧ o.cls = .type "StopIteration") → E (.ref e) { s with heap := h' }) :
  wpAny (model prog w) A (Builtin.«zip.__next__» ⟨[.ref z], []⟩) Q E s := by
 obtain ⟨nd, m1, _, _⟩ := Z
 simp only [List.nodup_cons, List.mem_cons, List.not_mem_nil, or_false, not_or, List.nodup_nil, and_true, not_false_eq_true] at nd m1
 obtain ⟨⟨zTI, zTO, z1, z2, z3⟩, _⟩ := nd
 obtain ⟨l1z, l1TI, l1TO, l11, l12, l13⟩ := m1
 show wpAny _ _ (field (.ref z) 2 >>= _) _ _ _
 refine wpAny_bind (wpAny_field hz rfl (x := .bool false) rfl ?_)
 refine wpAny_bind (m := field (.ref z) 3) (wpAny_field hz rfl (x := .ref TI) rfl ?_)
 refine wpAny_bind (wpAny_seqItems hTI rfl ?_)
 refine wpAny_bind (m := Builtin.SmallTypes.ownedTupleIsFree (.ref z)) ?_
 unfold Builtin.SmallTypes.ownedTupleIsFree
 refine wpAny_bind (wpAny_field hz rfl (x := .none) rfl (wpAny_pure ?_))
 simp only [if_true]
 refine wpAny_bind (wpAny_rule (wpAny_bind (wpAny_field hz rfl (x := .ref TO) rfl (wpAny_bind (wpAny_setField_rec hz (by simp) fun h1 hz1 s1 => ?_)))))
 replace hz1 : IsZip h1 z TI TO .ellipsis := hz1
 refine wpAny_bind ?_
 simp only [List.zipIdx_cons, List.zipIdx_nil, List.forIn_cons, List.forIn_nil]
 refine wpAny_bind (wpAny_bind (wpAny_onRaise ?_))
 refine wpAny_bind (m := Builtin.SmallTypes.nextOf (.ref i1)) ((D1 A hh).done _ _ _ ((D1 A hh).frame _ _ _ t1 fun d hd o e => ?_) fun h2 e s2 he => ?_)
 ·simp only [List.mem_cons, List.not_mem_nil, or_false] at hd
  rcases hd with rfl | rfl
  ·exact s1.extBut _ _ (Ne.symm z1) e
  ·exact s1.extBut _ _ l1z e
 ·obtain ⟨oe, hoe, hce⟩ := he
  have hz2 : IsZip h2 z TI TO .ellipsis := s2 _ _ z1 hz1
  have ez : e ≠ z := fun q => by subst q; rw [hz2] at hoe; cases hoe; simp at hce
  exact wpAny_setField_rec hz2 (by simp) fun h3 _ s3 => hE h3 e (fun d o c1 c2 q => s3.extBut _ _ c1 (s2 _ _ c2 (s1.extBut _ _ c1 q))) ⟨oe, s3.extBut _ _ ez hoe, hce⟩
end
end L2
namespace L2
open PySem PySem.Spec PyProof.Rows PySem.W
def Z3St (z TI TO i1 i2 i3 : Addr) (S1 S2 S3 : Nat → Heap → Prop) (i : Nat) (h : Heap) : Prop := IsZip h z TI TO .none ∧ Jmq h TI (.ref i1) (.ref i2) (.ref i3) ∧ (∃ a b c, Jmq h TO a b c) ∧ S1 i h ∧ S2 i h ∧ S3 i h
section
variable {prog : Program} {w : World} {z TI TO i1 i2 i3 l1 l2 l3 : Addr} {n : Nat} {P1 P2 P3 : Nat → Value → Prop} {S1 S2 S3 : Nat → Heap → Prop}
theorem Y6 {A : Around} (hh : A.handled = none) (Z : Z3 z TI TO i1 i2 i3 l1 l2 l3) (D1 : DrA prog w i1 l1 n P1 S1) (D2 : DrA prog w i2 l2 n P2 S2) (D3 : DrA prog w i3 l3 n P3 S3) :
  WalksT prog w A z [z, TI, TO, i1, i2, i3, l1, l2, l3] [z, TO, i1, i2, i3] n (fun i vals => ∃ x y u, P1 i x ∧ P2 i y ∧ P3 i u ∧ vals = #[x, y, u]) (Z3St z TI TO i1 i2 i3 S1 S2 S3)
   (fun i T h => IsZip h z TI TO (rawInt T) ∧ Jmq h TI (.ref i1) (.ref i2) (.ref i3) ∧ (∃ a b c, Jmq h TO a b c) ∧ S1 (i + 1) h ∧ S2 (i + 1) h ∧ S3 (i + 1) h ∧ T ∉ [z, TO, i1, i2, i3]) where
 sub := fun c hc => by simp at hc ⊢; rcases hc with rfl | rfl | rfl | rfl | rfl <;> simp
 frame := fun i h h' hst hk => by
  obtain ⟨hz, hTI, ⟨a, b, c, hTO⟩, h1, h2, h3⟩ := hst
  exact ⟨hk z (by simp) _ hz, hk TI (by simp) _ hTI, ⟨a, b, c, hk TO (by simp) _ hTO⟩, (D1 A hh).frame _ _ _ h1 fun d hd o e => hk d (by simp at hd; rcases hd with rfl | rfl <;> simp) o e,
   (D2 A hh).frame _ _ _ h2 fun d hd o e => hk d (by simp at hd; rcases hd with rfl | rfl <;> simp) o e, (D3 A hh).frame _ _ _ h3 fun d hd o e => hk d (by simp at hd; rcases hd with rfl | rfl <;> simp) o e⟩
 item := fun i s Q E hi hst hQ => by
  obtain ⟨hz, hTI, ⟨a, b, c, hTO⟩, h1, h2, h3⟩ := hst
  have hT : s.TypeIs (.ref z) "zip" := ⟨_, hz, rfl⟩
  have nd := Z.nd
  simp only [List.nodup_cons, List.mem_cons, List.not_mem_nil, or_false, not_or, List.nodup_nil, and_true, not_false_eq_true] at nd
  obtain ⟨⟨zTI, _⟩, ⟨TITO, TI1, TI2, TI3⟩, _⟩ := nd
  obtain ⟨e1, g1⟩ := (D1 A hh).live _ _ h1
  obtain ⟨e2, g2⟩ := (D2 A hh).live _ _ h2
  obtain ⟨e3, g3⟩ := (D3 A hh).live _ _ h3
  unfold pyNext
  refine wpAny_bind (wpAny_attempt (wpAny_callSpecial?_slot (name := Str.ofString "__next__") hT F.slot_zip_next (wpAny_call_entry F.slot_zip_next hT F.entry_zip_next
   (Yav (A := A.in1) Z hz hTI hTO hh D1 D2 D3 hi h1 h2 h3 fun x y u h' tk px py pu a1 a2 a3 a4 a5 a6 hk => wpAny_pure ?_) (F.args_zip_next_1 _))))
  refine hQ s.heap.objs.size #[x, y, u] h' tk ⟨x, y, u, px, py, pu, rfl⟩ (Nat.le_refl _) ⟨_, a6, rfl, _, rfl⟩ ⟨a1, hk _ _ (Ne.symm zTI) TITO TI1 TI2 TI3 hTI, ⟨_, _, _, a2⟩, a3, a4, a5, ?_⟩ fun d o hd e => hk d o (fun q => hd (by simp [q])) (fun q => hd (by simp [q])) (fun q => hd (by simp [q])) (fun q => hd (by simp [q])) (fun q => hd (by simp [q])) e
  have lt : ∀ {d o}, s.heap.get? d = some o → s.heap.objs.size ≠ d := fun e => Nat.ne_of_gt (Heap.lt_size e)
  simp only [List.mem_cons, List.not_mem_nil, or_false, not_or]
  exact ⟨lt hz, lt hTO, lt g1, lt g2, lt g3⟩
 go := fun elts k pos i T s Q E hm hQ => by
  obtain ⟨hz, hTI, ⟨a, b, c, hTO⟩, h1, h2, h3, _⟩ := hm
  have nd := Z.nd
  have m1 := Z.m1
  have m2 := Z.m2
  have m3 := Z.m3
  simp only [List.nodup_cons, List.mem_cons, List.not_mem_nil, or_false, not_or, List.nodup_nil, and_true, not_false_eq_true] at nd m1 m2 m3
  obtain ⟨⟨zTI, zTO, z1, z2, z3⟩, _⟩ := nd
  have fz : ∀ {S : Nat → Heap → Prop} {P : Nat → Value → Prop} {j l : Addr} {m : Nat} {h' : Heap}, DrA prog w j l n P S → j ≠ z → l ≠ z → Heap.SameBut z s.heap h' → S m s.heap → S m h' := fun D e1 e2 sb st => (D A hh).frame _ _ _ st fun d hd o e => by
   simp only [List.mem_cons, List.not_mem_nil, or_false] at hd
   rcases hd with rfl | rfl
   ·exact sb.extBut _ _ e1 e
   ·exact sb.extBut _ _ e2 e
  exact wpAny_letOwnedTupleGo_zip hz fun h' hz' sb => hQ h' ⟨hz', sb.extBut _ _ (Ne.symm zTI) hTI, ⟨a, b, c, sb.extBut _ _ (Ne.symm zTO) hTO⟩, fz D1 (Ne.symm z1) m1.1 sb h1, fz D2 (Ne.symm z2) m2.1 sb h2, fz D3 (Ne.symm z3) m3.1 sb h3⟩ fun d o hd e => sb.extBut _ _ (fun q => hd (by simp [q])) e
 apart := fun i T h hm hT => hm.2.2.2.2.2.2 hT
 done := fun s Q E hst hQ => by
  obtain ⟨hz, hTI, _, h1, h2, h3⟩ := hst
  have hT : s.TypeIs (.ref z) "zip" := ⟨_, hz, rfl⟩
  unfold pyNext
  refine wpAny_bind (wpAny_attempt (wpAny_callSpecial?_slot (name := Str.ofString "__next__") hT F.slot_zip_next (wpAny_call_entry F.slot_zip_next hT F.entry_zip_next
   (z3_end (A := A.in1) Z hz hTI hh D1 h1 fun h' e hk he => ?_) (F.args_zip_next_1 _))))
  obtain ⟨o, ho, hc⟩ := he
  refine wpAny_bind (wpAny_isInstance (T := "StopIteration") (b := true) ⟨o, ho, hc⟩ isSubtype_stop (wpAny_pure ?_))
  exact hQ h' s.toks fun d o' hd e' => hk d o' (fun q => hd (by simp [q])) (fun q => hd (by simp [q])) e'
 self := fun i s Q E hst hQ => wpAny_pyIter_zip hst.1 hQ
end
end L2
namespace L2
open PySem PySem.Spec PyProof.Rows PySem.W
def SqB (K : PySem.W.Frag) (H : Hp) (l : Addr) : Bool → List V → Prop
 | false, xs => SqL K H l xs
 | true, xs => SqT K H l xs
def IsB (h : Heap) (l : Addr) : Bool → Array Value → Prop
 | false, items => h.IsList l items
 | true, items => h.IsTuple l items
def IS (it l : Addr) : Bool → Nat → Heap → Prop
 | false, i, h => h.IsListIter it l i
 | true, i, h => h.IsTupleIter it l i
def itO (l : Addr) : Bool → Obj
 | false => { cls := .type "list_iterator", data := .fields #[.ref l, .int 0 0] }
 | true => { cls := .type "tuple_iterator", data := .fields #[.ref l, .int 0 0] }
theorem IS.at {it l : Addr} {b : Bool} {i : Nat} {h h' : Heap} (x : IS it l b i h) (k : ∀ o, h.get? it = some o → h'.get? it = some o) : IS it l b i h' := by
 cases b
 ·exact Heap.IsListIter.at x k
 ·exact Heap.IsTupleIter.at x k
theorem IS.obj {it l : Addr} {b : Bool} {i : Nat} {h : Heap} (x : IS it l b i h) : ∃ o, h.get? it = some o ∧ ∀ v, o.data ≠ .cell v := by
 cases b
 ·obtain ⟨o, e, _, d⟩ := x
  exact ⟨o, e, fun v z => by rw [d] at z; cases z⟩
 ·obtain ⟨o, e, _, d⟩ := x
  exact ⟨o, e, fun v z => by rw [d] at z; cases z⟩
theorem drA {prog : Program} {w : World} {it l : Addr} (b : Bool) (ne : l ≠ it) (items : Array Value) : DrA prog w it l items.size (fun i v => items[i]? = some v) (fun i h => IS it l b i h ∧ IsB h l b items) := fun A hh => by
 cases b
 ·exact Draws.list hh it l ne items
 ·exact Jqb hh it l ne items
section
variable {prog : Program} {w : World} {A : Around} {E : Value → Shared → Prop} {s : Shared}
theorem IsB.push {h : Heap} {l : Addr} {b : Bool} {items : Array Value} (x : IsB h l b items) (o : Obj) : IsB (h.push o) l b items := by
 cases b
 ·exact Heap.IsList.push x o
 ·exact Heap.IsTuple.push x o
theorem IsB.lt {h : Heap} {l : Addr} {b : Bool} {items : Array Value} (x : IsB h l b items) : l < h.objs.size := by
 cases b
 ·obtain ⟨o, e, _⟩ := x; exact Heap.lt_size e
 ·obtain ⟨o, e, _⟩ := x; exact Heap.lt_size e
theorem Jrt {l : Addr} {b : Bool} {items : Array Value} {Q : Value → Shared → Prop} (x : IsB s.heap l b items) (hQ : Q (.ref s.heap.objs.size) { s with heap := s.heap.push (itO l b) }) : wpAny (model prog w) A (pyIter (.ref l)) Q E s := by
 cases b
 ·exact wpAny_pyIter_list x hQ
 ·exact wpAny_pyIter_tuple x hQ
end
abbrev zA (h : Heap) (l1 : Addr) (b1 : Bool) : Heap := h.push (itO l1 b1)
abbrev zB (h : Heap) (l1 l2 : Addr) (b1 b2 : Bool) : Heap := (zA h l1 b1).push (itO l2 b2)
abbrev zC (h : Heap) (l1 l2 l3 : Addr) (b1 b2 b3 : Bool) : Heap := (zB h l1 l2 b1 b2).push (itO l3 b3)
abbrev zD (h : Heap) (l1 l2 l3 : Addr) (b1 b2 b3 : Bool) : Heap := (zC h l1 l2 l3 b1 b2 b3).push { cls := .type "tuple", data := .seq #[.ref h.objs.size, .ref (zA h l1 b1).objs.size, .ref (zB h l1 l2 b1 b2).objs.size] }
abbrev zE (h : Heap) (l1 l2 l3 : Addr) (b1 b2 b3 : Bool) : Heap := (zD h l1 l2 l3 b1 b2 b3).push { cls := .type "tuple", data := .seq #[.none, .none, .none] }
abbrev zF (h : Heap) (l1 l2 l3 : Addr) (b1 b2 b3 : Bool) : Heap := (zE h l1 l2 l3 b1 b2 b3).push { cls := .type "zip", data := .fields #[.none, .bool false, .bool false, .ref (zC h l1 l2 l3 b1 b2 b3).objs.size, .ref (zD h l1 l2 l3 b1 b2 b3).objs.size] }
set_option maxRecDepth 100000 in
set_option maxHeartbeats 2000000 in
theorem Yf (l1 l2 l3 : Addr) (b1 b2 b3 : Bool) (xs ys us : Array Value) :
  Meets (Builtin.«zip.__new__» ⟨[.type "zip", .ref l1, .ref l2, .ref l3], []⟩) (fun _ R s => IsB s.heap l1 b1 xs ∧ IsB s.heap l2 b2 ys ∧ IsB s.heap l3 b3 us ∧
   R (.ok (.ret (.ref (zE s.heap l1 l2 l3 b1 b2 b3).objs.size))) { s with heap := zF s.heap l1 l2 l3 b1 b2 b3 }) :=
 .of_wp fun prog w A R s h => by
  obtain ⟨hp, g, d, tk, os⟩ := s
  obtain ⟨hl1, hl2, hl3, h⟩ := h
  have e0 := sub_zip
  have e1 : IsB (Shared.heap ⟨hp, g, d, tk, os⟩) l1 b1 xs := hl1
  have e2 : IsB (Shared.heap ⟨hp.push (itO l1 b1), g, d, tk, os⟩) l2 b2 ys := IsB.push hl2 _
  have e3 : IsB (Shared.heap ⟨(hp.push (itO l1 b1)).push (itO l2 b2), g, d, tk, os⟩) l3 b3 us := IsB.push (IsB.push hl3 _) _
  wp_walk using Jrt e1, Jrt e2, Jrt e3
  exact ⟨_, rfl, h⟩
theorem Jsl (a b c : Value) : checkTypeCall "zip" ⟨[a, b, c], []⟩ = pure () := by kernel_rfl
theorem Jsr (a b c : Value) : checkBuiltinCall "zip.__new__" ⟨[.type "zip", a, b, c], []⟩ = pure () := by kernel_rfl
end L2
namespace L2
open PySem PySem.Spec PyProof.Rows PySem.W
theorem Juv (a b c d : Value) : argsOk "object.__init__" ⟨[a, b, c, d], []⟩ := by
 unfold argsOk; rw [signature?_of (id := "object.__init__") (n := ['_', '_', 't', 'i', 'n', 'i', '_', '_']) (o := ['t', 'c', 'e', 'j', 'b', 'o']) (by kernel_rfl) F.owner_object]; kernel_rfl
section
variable {prog : Program} {w : World} {A : Around} {E : Value → Shared → Prop} {s : Shared}
theorem Jxj {l1 l2 l3 : Addr} {b1 b2 b3 : Bool} {xs ys us : Array Value} {Q : Value → Shared → Prop} (h1 : IsB s.heap l1 b1 xs) (h2 : IsB s.heap l2 b2 ys) (h3 : IsB s.heap l3 b3 us)
  (h : ∀ h', IsZip h' (s.heap.objs.size + 5) (s.heap.objs.size + 3) (s.heap.objs.size + 4) .none → Jmq h' (s.heap.objs.size + 3) (.ref s.heap.objs.size) (.ref (s.heap.objs.size + 1)) (.ref (s.heap.objs.size + 2)) →
   Jmq h' (s.heap.objs.size + 4) .none .none .none → IS s.heap.objs.size l1 b1 0 h' → IS (s.heap.objs.size + 1) l2 b2 0 h' → IS (s.heap.objs.size + 2) l3 b3 0 h' →
   (∀ c o, s.heap.get? c = some o → h'.get? c = some o) → Q (.ref (s.heap.objs.size + 5)) { s with heap := h' }) :
  wpAny (model prog w) A (call (.type "zip") [.ref l1, .ref l2, .ref l3]) Q E s := by
 refine callType_new F.called_zip (by decide) (Jsl _ _ _) (Jsr _ _ _) (fun obj => Juv obj _ _ _) F.entry_zip_new (Yf l1 l2 l3 b1 b2 b3 xs ys us) ⟨h1, h2, h3, ?_⟩
 have z1 : (zA s.heap l1 b1).objs.size = s.heap.objs.size + 1 := Heap.size_push ..
 have z2 : (zB s.heap l1 l2 b1 b2).objs.size = s.heap.objs.size + 2 := by rw [Heap.size_push, z1]
 have z3 : (zC s.heap l1 l2 l3 b1 b2 b3).objs.size = s.heap.objs.size + 3 := by rw [Heap.size_push, z2]
 have z4 : (zD s.heap l1 l2 l3 b1 b2 b3).objs.size = s.heap.objs.size + 4 := by rw [Heap.size_push, z3]
 have z5 : (zE s.heap l1 l2 l3 b1 b2 b3).objs.size = s.heap.objs.size + 5 := by rw [Heap.size_push, z4]
 have p : ∀ {h : Heap} {c : Addr} {o q : Obj}, h.get? c = some o → (h.push q).get? c = some o := fun e => Heap.get?_push_of_some _ e
 have g6 : (zF s.heap l1 l2 l3 b1 b2 b3).get? (zE s.heap l1 l2 l3 b1 b2 b3).objs.size = some _ := Heap.get?_push_size _ rfl
 have g5 : (zF s.heap l1 l2 l3 b1 b2 b3).get? (zD s.heap l1 l2 l3 b1 b2 b3).objs.size = some _ := p (Heap.get?_push_size _ rfl)
 have g4 : (zF s.heap l1 l2 l3 b1 b2 b3).get? (zC s.heap l1 l2 l3 b1 b2 b3).objs.size = some _ := p (p (Heap.get?_push_size _ rfl))
 have fr : ∀ (l : Addr) (b : Bool), (itO l b).isFreed = false := fun l b => by cases b <;> rfl
 have g3 : (zF s.heap l1 l2 l3 b1 b2 b3).get? (zB s.heap l1 l2 b1 b2).objs.size = some (itO l3 b3) := p (p (p (Heap.get?_push_size _ (fr _ _))))
 have g2 : (zF s.heap l1 l2 l3 b1 b2 b3).get? (zA s.heap l1 b1).objs.size = some (itO l2 b2) := p (p (p (p (Heap.get?_push_size _ (fr _ _)))))
 have g1 : (zF s.heap l1 l2 l3 b1 b2 b3).get? s.heap.objs.size = some (itO l1 b1) := p (p (p (p (p (Heap.get?_push_size _ (fr _ _))))))
 have is : ∀ {it l : Addr} {b : Bool} {h : Heap}, h.get? it = some (itO l b) → IS it l b 0 h := fun {it l b h} e => by
  cases b
  ·exact ⟨_, e, rfl, rfl⟩
  ·exact ⟨_, e, rfl, rfl⟩
 show _ ∧ _
 rw [z3, z4, z5] at g6
 rw [z1, z2, z3] at g4
 rw [z4] at g5
 rw [z2] at g3
 rw [z1] at g2
 rw [z5]
 exact ⟨⟨_, g6, rfl⟩, h _ g6 g4 g5 (is g1) (is g2) (is g3) fun c o x => p (p (p (p (p (p x)))))⟩
end
end L2
namespace L2
open PySem PySem.Spec PyProof.Rows PySem.W
section
variable {X : Cx} {pins : List (Addr × Obj)} {σ : St} {H : Hp} {s : Shared}
theorem Inv.seqB {l : Addr} {b : Bool} {xs : List V} (I : Inv X pins σ H s) (h : SqB X.K H l b xs) : ∃ its, Vals xs its ∧ IsB s.heap l b its.toArray := by
 cases b
 ·obtain ⟨its, rv, p, _⟩ := I.list h
  exact ⟨its, rv, p.isList⟩
 ·obtain ⟨its, rv, p, _⟩ := I.tuple h
  exact ⟨its, rv, p⟩
theorem Inv.seqB_inj {l : Addr} {b : Bool} {xs ys : List V} (I : Inv X pins σ H s) (h : SqB X.K H l b xs) (h' : SqB X.K H l b ys) : xs = ys := by
 cases b
 ·exact I.list_inj h h'
 ·exact I.tuple_inj h h'
end
def ItZ3 (K : PySem.W.Frag) (l1 l2 l3 : Addr) (b1 b2 b3 : Bool) : It :=
 ⟨fun i H => ∃ xs ys us, SqB K H l1 b1 xs ∧ SqB K H l2 b2 ys ∧ SqB K H l3 b3 us ∧ xs.length = ys.length ∧ xs.length = us.length ∧ i < xs.length,
  fun i H x H' => ∃ T p q r, H T = none ∧ x = .ref T ∧ (∀ xs, SqB K H l1 b1 xs → xs[i]? = some p) ∧ (∀ ys, SqB K H l2 b2 ys → ys[i]? = some q) ∧ (∀ us, SqB K H l3 b3 us → us[i]? = some r) ∧ H' = upd H T (.tup [p, q, r]),
  fun i H => ∃ xs ys us, SqB K H l1 b1 xs ∧ SqB K H l2 b2 ys ∧ SqB K H l3 b3 us ∧ xs.length = ys.length ∧ xs.length = us.length ∧ i = xs.length⟩
def Z3T (z TI TO i1 i2 i3 l1 l2 l3 : Addr) (b1 b2 b3 : Bool) (i : Nat) (h : Heap) : Prop := IsZip h z TI TO .none ∧ Jmq h TI (.ref i1) (.ref i2) (.ref i3) ∧ (∃ a b c, Jmq h TO a b c) ∧ IS i1 l1 b1 i h ∧ IS i2 l2 b2 i h ∧ IS i3 l3 b3 i h
theorem Z3T.obj {z TI TO i1 i2 i3 l1 l2 l3 : Addr} {b1 b2 b3 : Bool} {i : Nat} {h : Heap} (st : Z3T z TI TO i1 i2 i3 l1 l2 l3 b1 b2 b3 i h) : ∀ b ∈ [z, TI, TO, i1, i2, i3], ∃ o, h.get? b = some o ∧ ∀ v, o.data ≠ .cell v := fun b hb => by
 obtain ⟨h1, h2, ⟨x, y, u, h3⟩, h4, h5, h6⟩ := st
 simp only [List.mem_cons, List.not_mem_nil, or_false] at hb
 rcases hb with rfl | rfl | rfl | rfl | rfl | rfl
 ·exact ⟨_, h1, fun v z => by cases z⟩
 ·exact ⟨_, h2, fun v z => by cases z⟩
 ·exact ⟨_, h3, fun v z => by cases z⟩
 ·exact h4.obj
 ·exact h5.obj
 ·exact h6.obj
theorem Z3.ne {z TI TO i1 i2 i3 l1 l2 l3 : Addr} (Z : Z3 z TI TO i1 i2 i3 l1 l2 l3) : l1 ≠ i1 ∧ l2 ≠ i2 ∧ l3 ≠ i3 := by
 obtain ⟨_, m1, m2, m3⟩ := Z
 simp only [List.mem_cons, List.not_mem_nil, or_false, not_or] at m1 m2 m3
 exact ⟨m1.2.2.2.1, m2.2.2.2.2.1, m3.2.2.2.2.2⟩
theorem Jyc {P : Program} {w : World} {K : PySem.W.Frag} {elts : List Expr} {kt : Nat} {pt : Pos} (z TI TO i1 i2 i3 l1 l2 l3 : Addr) (b1 b2 b3 : Bool) (Z : Z3 z TI TO i1 i2 i3 l1 l2 l3) :
  Turn P w K (.Tuple elts kt pt) (ItZ3 K l1 l2 l3 b1 b2 b3) [z, TI, TO, i1, i2, i3] z (Z3T z TI TO i1 i2 i3 l1 l2 l3 b1 b2 b3) where
 mem := by simp
 obj := fun i h st => st.obj
 keep := fun i h h' st k => by
  obtain ⟨h1, h2, ⟨a, c, d, h3⟩, h4, h5, h6⟩ := st
  exact ⟨k z (by simp) _ h1, k TI (by simp) _ h2, ⟨a, c, d, k TO (by simp) _ h3⟩, h4.at fun o e => k i1 (by simp) o e, h5.at fun o e => k i2 (by simp) o e, h6.at fun o e => k i3 (by simp) o e⟩
 item := by
  intro X hP hw hK hc i pins s σ H E I hf st hg
  subst hP hw hK
  obtain ⟨xs, ys, us, q1, q2, q3, e12, e13, hi⟩ := hg
  obtain ⟨its, rv, p1⟩ := I.seqB q1
  obtain ⟨jts, rv2, p2⟩ := I.seqB q2
  obtain ⟨kts, rv3, p3⟩ := I.seqB q3
  have a1 := rv.length
  have a2 := rv2.length
  have a3 := rv3.length
  obtain ⟨n1, n2, n3⟩ := Z.ne
  have D1 := drA (prog := X.prog) (w := X.w) b1 n1 its.toArray
  have D2 := drA (prog := X.prog) (w := X.w) b2 n2 jts.toArray
  have D3 := drA (prog := X.prog) (w := X.w) b3 n3 kts.toArray
  rw [show jts.toArray.size = its.toArray.size by simp only [List.size_toArray]; omega] at D2
  rw [show kts.toArray.size = its.toArray.size by simp only [List.size_toArray]; omega] at D3
  have W := Y6 (I.ok.hd hc) Z D1 D2 D3
  have st0 := st
  obtain ⟨s1, s2, s3, s4, s5, s6⟩ := st
  refine W.item i s _ _ (by simp only [List.size_toArray]; omega) ⟨s1, s2, s3, ⟨s4, p1⟩, ⟨s5, p2⟩, ⟨s6, p3⟩⟩ fun T vals h' tk hP fT tT mid kk => ?_
  refine ⟨_, rfl, W.go elts kt pt i T _ _ _ mid fun h'' st'' kk2 => ?_⟩
  obtain ⟨x, y, u, hx, hy, hu, rfl⟩ := hP
  obtain ⟨u1, hu1, r1⟩ := rv.get (i := i) (x := xs[i]) (List.getElem?_eq_getElem hi)
  obtain ⟨u2, hu2, r2⟩ := rv2.get (i := i) (x := ys[i]'(by omega)) (List.getElem?_eq_getElem (by omega))
  obtain ⟨u3, hu3, r3⟩ := rv3.get (i := i) (x := us[i]'(by omega)) (List.getElem?_eq_getElem (by omega))
  obtain rfl : x = u1 := by simpa [hu1] using hx.symm
  obtain rfl : y = u2 := by simpa [hu2] using hy.symm
  obtain rfl : u = u3 := by simpa [hu3] using hu.symm
  obtain ⟨t1, t2, t3, t4, t5, t6⟩ := st''
  have kT : h''.IsTuple T #[x, y, u] := by
   obtain ⟨o, q, r⟩ := tT
   exact ⟨o, kk2 T o (W.apart i T h' mid) q, r⟩
  have cht : ∀ c, c ∈ [z, TO, i1, i2, i3] → c ∈ [z, TI, TO, i1, i2, i3] := fun c hc => by simp at hc ⊢; rcases hc with rfl | rfl | rfl | rfl | rfl <;> simp
  refine ⟨.ref T, upd H T (.tup [xs[i], ys[i]'(by omega), us[i]'(by omega)]), I.turnTup (ch := [z, TO, i1, i2, i3]) (t' := tk) (fun c hc => hf c (cht c hc)) (fun c o hc e => kk2 c o hc (kk c o hc e)) fT ⟨(show 3 ≤ sizeLine by decide), [x, y, u], .cons r1 (.cons r2 (.cons r3 .nil)), kT⟩, rfl,
   ⟨T, _, _, _, I.hok.fresh fT, rfl, fun xs' hq => by rw [I.seqB_inj hq q1]; exact List.getElem?_eq_getElem hi, fun ys' hq => by rw [I.seqB_inj hq q2]; exact List.getElem?_eq_getElem (by omega), fun us' hq => by rw [I.seqB_inj hq q3]; exact List.getElem?_eq_getElem (by omega), rfl⟩, ⟨t1, t2, t3, t4.1, t5.1, t6.1⟩, fun c hc => ?_⟩
  have hcn := (hf c hc).1
  rw [Jkv (fun w' => ?_)]
  ·exact hcn
  ·subst w'
   obtain ⟨o, e, _⟩ := Z3T.obj st0 c hc
   exact absurd (Heap.lt_size e) (Nat.not_lt.mpr fT)
 done := by
  intro X hP hw hK hc i pins s σ H E I hf st hg
  subst hP hw hK
  obtain ⟨xs, ys, us, q1, q2, q3, e12, e13, hi⟩ := hg
  obtain ⟨its, rv, p1⟩ := I.seqB q1
  obtain ⟨jts, rv2, p2⟩ := I.seqB q2
  obtain ⟨kts, rv3, p3⟩ := I.seqB q3
  have a1 := rv.length
  have a2 := rv2.length
  have a3 := rv3.length
  obtain ⟨n1, n2, n3⟩ := Z.ne
  have D1 := drA (prog := X.prog) (w := X.w) b1 n1 its.toArray
  have D2 := drA (prog := X.prog) (w := X.w) b2 n2 jts.toArray
  have D3 := drA (prog := X.prog) (w := X.w) b3 n3 kts.toArray
  rw [show jts.toArray.size = its.toArray.size by simp only [List.size_toArray]; omega] at D2
  rw [show kts.toArray.size = its.toArray.size by simp only [List.size_toArray]; omega] at D3
  have W := Y6 (I.ok.hd hc) Z D1 D2 D3
  obtain ⟨s1, s2, s3, s4, s5, s6⟩ := st
  have ei : i = its.toArray.size := by simp only [List.size_toArray]; omega
  subst ei
  refine W.done s _ _ ⟨s1, s2, s3, ⟨s4, p1⟩, ⟨s5, p2⟩, ⟨s6, p3⟩⟩ fun h' tk kk => ⟨rfl, ?_⟩
  exact I.turnMany (ch := [z, TO, i1, i2, i3]) (fun c hc => hf c (by simp at hc ⊢; rcases hc with rfl | rfl | rfl | rfl | rfl <;> simp)) fun c o hc e => kk c o hc e
 self := fun _ _ _ _ _ st h => wpAny_pyIter_zip st.1 h
def iZip3 (K : PySem.W.Frag) (b1 b2 b3 : Bool) (ta : TA) : TI := fun σ H R => ta σ H fun vs H1 => ∃ a b c, vs = [.ref a, .ref b, .ref c] ∧ (∃ xs, SqB K H1 a b1 xs) ∧ (∃ ys, SqB K H1 b b2 ys) ∧ (∃ us, SqB K H1 c b3 us) ∧ R (ItZ3 K a b c b1 b2 b3) H1
theorem Jx6 {X : Cx} {elts : List Expr} {kt : Nat} {pt : Pos} {a b c : Expr} {ta : TA} {p pos : Pos} (b1 b2 b3 : Bool) (hg : Gl X "zip") (hm : X.mg "zip" = none) (ha : PA X [a, b, c] ta) (hs : starEach [a, b, c] X.env = [(false, eval a X.env), (false, eval b X.env), (false, eval c X.env)] := by rfl) (hs2 : starEach [b, c] X.env = [(false, eval b X.env), (false, eval c X.env)] := by rfl) :
  PI X (.Tuple elts kt pt) (.Call (.Name "zip" p) [a, b, c] [] pos) (iZip3 X.K b1 b2 b3 ta) := by
 intro pins s σ H R I h
 refine Call_ (Jnx I hg hm Jyi (PyProof.Rows.callWith_type1 (thn (ha pos pins s σ H _ I h) fun us s1 ⟨vs, H1, I1, r1, q1⟩ => ?_) (by rw [hs, hs2]) (by rw [hs2]; rfl)))
 obtain ⟨l1, l2, l3, rfl, ⟨xs, q1⟩, ⟨ys, q2⟩, ⟨zs, q3⟩, q⟩ := q1
 obtain ⟨u, v, y, rfl, r1, r2, r3⟩ : ∃ u v y, us = [u, v, y] ∧ RelV (.ref l1) u ∧ RelV (.ref l2) v ∧ RelV (.ref l3) y := by
  cases r1 with
  | cons a1 t1 =>
   cases t1 with
   | cons a2 t2 =>
    cases t2 with
    | cons a3 t3 =>
     cases t3
     exact ⟨_, _, _, rfl, a1, a2, a3⟩
 obtain rfl : u = Value.ref l1 := r1
 obtain rfl : v = Value.ref l2 := r2
 obtain rfl : y = Value.ref l3 := r3
 obtain ⟨its, rv, p1⟩ := I1.seqB q1
 obtain ⟨jts, rv2, p2⟩ := I1.seqB q2
 obtain ⟨kts, rv3, p3⟩ := I1.seqB q3
 have a1 := p1.lt
 have a2 := p2.lt
 have a3 := p3.lt
 refine Jxj p1 p2 p3 fun h' z1 z2 z3 z4 z5 z6 kk => ?_
 have I2 : Inv X pins σ H1 { s1 with heap := h' } := I1.kept (t' := s1.toks) kk
 have ap : Z3 (s1.heap.objs.size + 5) (s1.heap.objs.size + 3) (s1.heap.objs.size + 4) s1.heap.objs.size (s1.heap.objs.size + 1) (s1.heap.objs.size + 2) l1 l2 l3 := by
  generalize hN : s1.heap.objs.size = N at *
  have big : ∀ l : Addr, l < N → l ∉ [N + 5, N + 3, N + 4, N, N + 1, N + 2] := fun l hl hm => by
   simp only [List.mem_cons, List.not_mem_nil, or_false] at hm
   have le : N ≤ l := by rcases hm with rfl | rfl | rfl | rfl | rfl | rfl <;> first | exact Nat.le_refl _ | exact Nat.le_add_right _ _
   exact Nat.not_lt.mpr le hl
  exact ⟨by simp, big _ a1, big _ a2, big _ a3⟩
 refine wpAny_pyIter_zip z1 ⟨_, _, _, _, H1, rfl, I2, Jyc _ _ _ _ _ _ l1 l2 l3 b1 b2 b3 ap, ⟨z1, z2, ⟨_, _, _, z3⟩, z4, z5, z6⟩, fun d hd => ?_, q⟩
 have hd' : s1.heap.objs.size ≤ d := by
  simp only [List.mem_cons, List.not_mem_nil, or_false] at hd
  rcases hd with rfl | rfl | rfl | rfl | rfl | rfl <;> omega
 exact I1.fpOk hd' (I1.hok.fresh hd')
section
variable {K : PySem.W.Frag} {g : TG} {σ : St} {H : Hp}
theorem Jtg {l1 l2 l3 D : Addr} {b1 b2 b3 : Bool} {xs ys us : List V} {tt : TT} {te : TE} {R : Hp → Prop} (Pv : Nat → St → Hp → Prop) (h0 : Pv 0 σ H) (hl : ∀ i σ H, i ≤ xs.length → Pv i σ H → SqB K H l1 b1 xs ∧ SqB K H l2 b2 ys ∧ SqB K H l3 b3 us) (e1 : xs.length = ys.length) (e2 : xs.length = us.length)
  (hs : ∀ i x y u σ H T, xs[i]? = some x → ys[i]? = some y → us[i]? = some u → Pv i σ H → H T = none → g (.ref T) σ (upd H T (.tup [x, y, u])) fun σ3 H3 => tt σ3 H3 fun b H4 => if b = true then te σ3 H4 (fun v H5 => ∃ vs, H5 D = some (.lst vs) ∧ vs.length < sizeLine ∧ Pv (i + 1) σ3 (upd H5 D (.lst (vs ++ [v])))) else Pv (i + 1) σ3 H4)
  (hd : ∀ σ H, Pv xs.length σ H → R H) :
  ∃ W : Nat → Nat → St → Hp → Prop, (∃ m, W 0 m σ H) ∧ ∀ i m σ' H', W i m σ' H' → ((ItZ3 K l1 l2 l3 b1 b2 b3).stop i H' ∧ R H') ∨ ((ItZ3 K l1 l2 l3 b1 b2 b3).go i H' ∧ ∃ N : St → Hp → Prop, (∀ σ2 H2, N σ2 H2 → ∃ m', m' < m ∧ W (i + 1) m' σ2 H2) ∧
   ∀ x H2, (ItZ3 K l1 l2 l3 b1 b2 b3).yld i H' x H2 → g x σ' H2 fun σ3 H3 => tt σ3 H3 fun b H4 => if b = true then te σ3 H4 (fun v H5 => ∃ vs, H5 D = some (.lst vs) ∧ vs.length < sizeLine ∧ N σ3 (upd H5 D (.lst (vs ++ [v])))) else N σ3 H4) := by
 refine ⟨fun i m σ H => m = xs.length - i ∧ i ≤ xs.length ∧ Pv i σ H, ⟨xs.length, by simp, Nat.zero_le _, h0⟩, ?_⟩
 rintro i m σ H ⟨rfl, hi, p⟩
 obtain ⟨q1, q2, q3⟩ := hl i σ H hi p
 by_cases hlt : i < xs.length
 ·refine .inr ⟨⟨xs, ys, us, q1, q2, q3, e1, e2, hlt⟩, Pv (i + 1), fun σ' H' p' => ⟨xs.length - (i + 1), by omega, rfl, hlt, p'⟩, fun x H' y => ?_⟩
  obtain ⟨T, u, v, w', hT, rfl, hu, hv, hw, rfl⟩ := y
  exact hs i u v w' σ _ T (hu xs q1) (hv ys q2) (hw us q3) p hT
 ·have e : i = xs.length := by omega
  subst e
  exact .inl ⟨⟨xs, ys, us, q1, q2, q3, e1, e2, rfl⟩, hd σ H p⟩
theorem Yj {a : Addr} {xs : List V} {tb : TS} {D : Ends} (Pv : Nat → St → Hp → Prop) (h0 : Pv 0 σ H) (hl : ∀ i σ H, i ≤ xs.length → Pv i σ H → SqL K H a xs)
  (hs : ∀ i x σ H T, xs[i]? = some x → Pv i σ H → H T = none → g (.ref T) σ (upd H T (.tup [.int i, x])) fun σ2 H2 => tb { D with nx := Pv (i + 1), ct := Pv (i + 1), bk := D.nx } σ2 H2) (hd : ∀ σ H, Pv xs.length σ H → D.nx σ H) :
  ∃ W : Nat → Nat → St → Hp → Prop, (∃ m, W 0 m σ H) ∧ ∀ i m σ H, W i m σ H →
   ((ItE K a).stop i H ∧ D.nx σ H) ∨ ((ItE K a).go i H ∧ ∃ N : St → Hp → Prop, (∀ σ' H', N σ' H' → ∃ m', m' < m ∧ W (i + 1) m' σ' H') ∧ ∀ x H', (ItE K a).yld i H x H' → g x σ H' fun σ2 H2 => tb { D with nx := N, ct := N, bk := D.nx } σ2 H2) := by
 refine ⟨fun i m σ H => m = xs.length - i ∧ i ≤ xs.length ∧ Pv i σ H, ⟨xs.length, by simp, Nat.zero_le _, h0⟩, ?_⟩
 rintro i m σ H ⟨rfl, hi, p⟩
 have q := hl i σ H hi p
 by_cases hlt : i < xs.length
 ·refine .inr ⟨⟨xs, xs[i], q, by simp [hlt]⟩, Pv (i + 1), fun σ' H' p' => ⟨xs.length - (i + 1), by omega, rfl, hlt, p'⟩, fun x H' y => ?_⟩
  obtain ⟨T, u, hT, rfl, hu, rfl⟩ := y
  exact hs i u σ _ T (hu xs q) p hT
 ·have e : i = xs.length := by omega
  subst e
  exact .inl ⟨⟨xs, q, rfl⟩, hd σ H p⟩
theorem Jyt {a : Addr} {xs : List V} {tb : TS} {D : Ends} (Pv : Nat → St → Hp → Prop) (h0 : Pv 0 σ H) (hl : ∀ i σ H, i ≤ xs.length → Pv i σ H → SqT K H a xs)
  (hs : ∀ i x σ H T, xs[i]? = some x → Pv i σ H → H T = none → g (.ref T) σ (upd H T (.tup [.int i, x])) fun σ2 H2 => tb { D with nx := Pv (i + 1), ct := Pv (i + 1), bk := D.nx } σ2 H2) (hd : ∀ σ H, Pv xs.length σ H → D.nx σ H) :
  ∃ W : Nat → Nat → St → Hp → Prop, (∃ m, W 0 m σ H) ∧ ∀ i m σ H, W i m σ H →
   ((ItU K a).stop i H ∧ D.nx σ H) ∨ ((ItU K a).go i H ∧ ∃ N : St → Hp → Prop, (∀ σ' H', N σ' H' → ∃ m', m' < m ∧ W (i + 1) m' σ' H') ∧ ∀ x H', (ItU K a).yld i H x H' → g x σ H' fun σ2 H2 => tb { D with nx := N, ct := N, bk := D.nx } σ2 H2) := by
 refine ⟨fun i m σ H => m = xs.length - i ∧ i ≤ xs.length ∧ Pv i σ H, ⟨xs.length, by simp, Nat.zero_le _, h0⟩, ?_⟩
 rintro i m σ H ⟨rfl, hi, p⟩
 have q := hl i σ H hi p
 by_cases hlt : i < xs.length
 ·refine .inr ⟨⟨xs, xs[i], q, by simp [hlt]⟩, Pv (i + 1), fun σ' H' p' => ⟨xs.length - (i + 1), by omega, rfl, hlt, p'⟩, fun x H' y => ?_⟩
  obtain ⟨T, u, hT, rfl, hu, rfl⟩ := y
  exact hs i u σ _ T (hu xs q) p hT
 ·have e : i = xs.length := by omega
  subst e
  exact .inl ⟨⟨xs, q, rfl⟩, hd σ H p⟩
theorem Jxm {a D : Addr} {xs : List V} {tt : TT} {te : TE} {R : Hp → Prop} (Pv : Nat → St → Hp → Prop) (h0 : Pv 0 σ H) (hl : ∀ i σ H, i ≤ xs.length → Pv i σ H → SqT K H a xs)
  (hs : ∀ i x σ H T, xs[i]? = some x → Pv i σ H → H T = none → g (.ref T) σ (upd H T (.tup [.int i, x])) fun σ3 H3 => tt σ3 H3 fun b H4 => if b = true then te σ3 H4 (fun v H5 => ∃ vs, H5 D = some (.lst vs) ∧ vs.length < sizeLine ∧ Pv (i + 1) σ3 (upd H5 D (.lst (vs ++ [v])))) else Pv (i + 1) σ3 H4)
  (hd : ∀ σ H, Pv xs.length σ H → R H) :
  ∃ W : Nat → Nat → St → Hp → Prop, (∃ m, W 0 m σ H) ∧ ∀ i m σ' H', W i m σ' H' → ((ItU K a).stop i H' ∧ R H') ∨ ((ItU K a).go i H' ∧ ∃ N : St → Hp → Prop, (∀ σ2 H2, N σ2 H2 → ∃ m', m' < m ∧ W (i + 1) m' σ2 H2) ∧
   ∀ x H2, (ItU K a).yld i H' x H2 → g x σ' H2 fun σ3 H3 => tt σ3 H3 fun b H4 => if b = true then te σ3 H4 (fun v H5 => ∃ vs, H5 D = some (.lst vs) ∧ vs.length < sizeLine ∧ N σ3 (upd H5 D (.lst (vs ++ [v])))) else N σ3 H4) := by
 refine ⟨fun i m σ H => m = xs.length - i ∧ i ≤ xs.length ∧ Pv i σ H, ⟨xs.length, by simp, Nat.zero_le _, h0⟩, ?_⟩
 rintro i m σ H ⟨rfl, hi, p⟩
 have q := hl i σ H hi p
 by_cases hlt : i < xs.length
 ·refine .inr ⟨⟨xs, xs[i], q, by simp [hlt]⟩, Pv (i + 1), fun σ' H' p' => ⟨xs.length - (i + 1), by omega, rfl, hlt, p'⟩, fun x H' y => ?_⟩
  obtain ⟨T, u, hT, rfl, hu, rfl⟩ := y
  exact hs i u σ _ T (hu xs q) p hT
 ·have e : i = xs.length := by omega
  subst e
  exact .inl ⟨⟨xs, q, rfl⟩, hd σ H p⟩
end
end L2
namespace L2
open PySem PySem.Spec PyProof.Rows PySem.W
section
variable {X : Cx}
theorem Jw3 {K : PySem.W.Frag} (h : X.K = K) : OpR X (compareOp .In) (rIn K false) := by subst h; exact Jxv
theorem Jmt {K : PySem.W.Frag} {e : Expr} {f : Str} {ta : TE} {pos : Pos} (h : X.K = K) (he : PE X e ta) (hb : attributeBase e f X.env (eval e X.env) = eval e X.env) : PE X (.Attribute e f pos) (tFld K ta f) := by subst h; exact Jlg he hb
theorem Jw4 {P : Program} {w : World} {K : PySem.W.Frag} {mg : Str → Option Value} {base : Heap} {o : Expr} {m : Str} {ta : TE} {apos pos : Pos} {j : Nat} {pl : Sem Bool} (h1 : X.prog = P) (h2 : X.w = w) (h3 : X.K = K) (h4 : X.mg = mg) (h5 : X.base = base) (he : PE X o ta) (hr : Room j X.A)
  (ht : eval (.Call (.Attribute o m apos) [] [] pos) X.env = (do
   let ov ← eval o X.env
   standAt apos.atName
   let (f, first) ← holding [ov] (getMethod ov m pl)
   callWith pos f first (backTo pos (starEach [] X.env)) (backToKw pos (keywordEach [] X.env))) := by rfl) : PE X (.Call (.Attribute o m apos) [] [] pos) (Juq P w K mg base j m ta Jur) := by
 subst h1 h2 h3 h4 h5
 exact Jqo (pl := pl) he hr ht
end
end L2
namespace L2
open PySem PySem.Spec PyProof.Rows PySem.W
section
variable {X : Cx} {pos : Pos}
theorem Jpx {K : PySem.W.Frag} {es : List Expr} {k : Nat} {t : TGs} {n : Nat} (h1 : X.K = K) (hc : X.calm = true) (h : PGs X es t)
  (hn : (assignEach es X.env).length = n := by rfl) (hst : (assignEach es X.env).findIdx? (·.1) = none := by rfl) : PG X (.Tuple es k pos) (gTup K n t) := by
 subst h1
 exact Jsd hc h hn hst
end
section
variable {g : TG} {tt : TT} {te : TE} {H : Hp} {D : Addr} {σ : St} {R : Hp → Prop}
theorem Jyl {K : PySem.W.Frag} {a : Addr} {xs : List V} (Pv : Nat → St → Hp → Prop) (h0 : Pv 0 σ H) (hl : ∀ i σ H, i ≤ xs.length → Pv i σ H → SqT K H a xs)
  (hs : ∀ i x σ H, xs[i]? = some x → Pv i σ H → g x σ H fun σ3 H3 => tt σ3 H3 fun b H4 => if b = true then te σ3 H4 (fun v H5 => ∃ ys, H5 D = some (.lst ys) ∧ ys.length < sizeLine ∧ Pv (i + 1) σ3 (upd H5 D (.lst (ys ++ [v])))) else Pv (i + 1) σ3 H4)
  (hd : ∀ σ H, Pv xs.length σ H → R H) :
  ∃ W : Nat → Nat → St → Hp → Prop, (∃ m, W 0 m σ H) ∧ ∀ i m σ' H', W i m σ' H' → ((Itt K a).stop i H' ∧ R H') ∨ ((Itt K a).go i H' ∧ ∃ N : St → Hp → Prop, (∀ σ2 H2, N σ2 H2 → ∃ m', m' < m ∧ W (i + 1) m' σ2 H2) ∧
   ∀ x H2, (Itt K a).yld i H' x H2 → g x σ' H2 fun σ3 H3 => tt σ3 H3 fun b H4 => if b = true then te σ3 H4 (fun v H5 => ∃ ys, H5 D = some (.lst ys) ∧ ys.length < sizeLine ∧ N σ3 (upd H5 D (.lst (ys ++ [v])))) else N σ3 H4) := by
 refine ⟨fun i m σ H => m = xs.length - i ∧ i ≤ xs.length ∧ Pv i σ H, ⟨xs.length, by simp, Nat.zero_le _, h0⟩, ?_⟩
 rintro i m σ H ⟨rfl, hi, p⟩
 have q := hl i σ H hi p
 by_cases hlt : i < xs.length
 ·refine .inr ⟨⟨xs, xs[i], q, by simp [hlt]⟩, Pv (i + 1), fun σ' H' p' => ⟨xs.length - (i + 1), by omega, rfl, hlt, p'⟩, fun x H' y => ?_⟩
  obtain ⟨e, y⟩ := y
  subst e
  exact hs i x σ _ (y xs q) p
 ·have e : i = xs.length := by omega
  subst e
  exact .inl ⟨⟨xs, q, Nat.le_refl _⟩, hd σ H p⟩
end
theorem Jro {K : PySem.W.Frag} {a D : Addr} {xs : List V} {te : TE} {R : Hp → Prop} {H : Hp} {o : Option V} {rest : List (Option V)} (ys : List V) (hD : H D = none) (el : ys.length = xs.length) (sz : xs.length ≤ 2000) (hq : H a = some (.lst xs))
  (he : ∀ (i : Nat) (x y : V) (H' : Hp) (Q : VK), xs[i]? = some x → ys[i]? = some y → Same H H' → (∀ H5, Same H' H5 → Q y H5) → te (some x :: rest) H' Q) (hd : ∀ H', Same H H' → H' D = some (.lst ys) → R H') :
  ∃ W : Nat → Nat → St → Hp → Prop, (∃ m, W 0 m (o :: rest) (upd H D (.lst []))) ∧ ∀ i m σ' H', W i m σ' H' → ((Itl K a).stop i H' ∧ R H') ∨ ((Itl K a).go i H' ∧ ∃ N : St → Hp → Prop, (∀ σ2 H2, N σ2 H2 → ∃ m', m' < m ∧ W (i + 1) m' σ2 H2) ∧
   ∀ x H2, (Itl K a).yld i H' x H2 → Jnr 0 x σ' H2 fun σ3 H3 => Jwj σ3 H3 fun b H4 => if b = true then te σ3 H4 (fun v H5 => ∃ ys, H5 D = some (.lst ys) ∧ ys.length < sizeLine ∧ N σ3 (upd H5 D (.lst (ys ++ [v])))) else N σ3 H4) := by
 refine Jmg (fun i σ H' => (∃ o, σ = o :: rest) ∧ H' D = some (.lst (ys.take i)) ∧ Same H H') ⟨⟨_, rfl⟩, Jko, Same.upd hD⟩ (fun i σ H' _ ⟨_, _, sm⟩ => SqL.of (sm _ _ hq)) ?_ ?_
 ·rintro i x σ H' hx ⟨⟨o, rfl⟩, hDs, sm⟩
  have hi : i < ys.length := by rw [el]; exact (List.getElem?_eq_some_iff.mp hx).1
  refine Jma (he i x ys[i] H' _ hx (List.getElem?_eq_getElem hi) sm fun H5 s5 => ⟨_, s5 _ _ hDs, ?_, ⟨_, rfl⟩, ?_, fun c u z => ?_⟩)
  ·rw [List.length_take]
   exact Jlo (by omega)
  ·rw [Jko, List.take_add_one, List.getElem?_eq_getElem hi]
   rfl
  ·rw [Jkv (Jkw z hD)]
   exact s5 _ _ (sm _ _ z)
 ·rintro σ H' ⟨_, hDs, sm⟩
  rw [List.take_of_length_le (by omega)] at hDs
  exact hd H' sm hDs
theorem Jnd {K : PySem.W.Frag} {a D : Addr} {xs : List V} {te : TE} {R : Hp → Prop} {H : Hp} {o : Option V} {rest : List (Option V)} (ys : List V) (hD : H D = none) (el : ys.length = xs.length) (sz : xs.length ≤ 2000) (hq : H a = some (.tup xs))
  (he : ∀ (i : Nat) (x y : V) (H' : Hp) (Q : VK), xs[i]? = some x → ys[i]? = some y → Same H H' → (∀ H5, Same H' H5 → Q y H5) → te (some x :: rest) H' Q) (hd : ∀ H', Same H H' → H' D = some (.lst ys) → R H') :
  ∃ W : Nat → Nat → St → Hp → Prop, (∃ m, W 0 m (o :: rest) (upd H D (.lst []))) ∧ ∀ i m σ' H', W i m σ' H' → ((Itt K a).stop i H' ∧ R H') ∨ ((Itt K a).go i H' ∧ ∃ N : St → Hp → Prop, (∀ σ2 H2, N σ2 H2 → ∃ m', m' < m ∧ W (i + 1) m' σ2 H2) ∧
   ∀ x H2, (Itt K a).yld i H' x H2 → Jnr 0 x σ' H2 fun σ3 H3 => Jwj σ3 H3 fun b H4 => if b = true then te σ3 H4 (fun v H5 => ∃ ys, H5 D = some (.lst ys) ∧ ys.length < sizeLine ∧ N σ3 (upd H5 D (.lst (ys ++ [v])))) else N σ3 H4) := by
 refine Jyl (fun i σ H' => (∃ o, σ = o :: rest) ∧ H' D = some (.lst (ys.take i)) ∧ Same H H') ⟨⟨_, rfl⟩, Jko, Same.upd hD⟩ (fun i σ H' _ ⟨_, _, sm⟩ => SqT.of (sm _ _ hq)) ?_ ?_
 ·rintro i x σ H' hx ⟨⟨o, rfl⟩, hDs, sm⟩
  have hi : i < ys.length := by rw [el]; exact (List.getElem?_eq_some_iff.mp hx).1
  refine Jma (he i x ys[i] H' _ hx (List.getElem?_eq_getElem hi) sm fun H5 s5 => ⟨_, s5 _ _ hDs, ?_, ⟨_, rfl⟩, ?_, fun c u z => ?_⟩)
  ·rw [List.length_take]
   exact Jlo (by omega)
  ·rw [Jko, List.take_add_one, List.getElem?_eq_getElem hi]
   rfl
  ·rw [Jkv (Jkw z hD)]
   exact s5 _ _ (sm _ _ z)
 ·rintro σ H' ⟨_, hDs, sm⟩
  rw [List.take_of_length_le (by omega)] at hDs
  exact hd H' sm hDs
end L2
namespace L2
open PySem PySem.Spec PyProof.Rows PySem.W
section
variable {X : Cx}
theorem Jz6 {K : PySem.W.Frag} (h : X.K = K) : MtR X "str.join" (rJoin K) := by subst h; exact Yo
theorem Jzh {K : PySem.W.Frag} (h : X.K = K) : SlR X (rSlL K) := by subst h; exact Jx8
theorem pe_bmK {K : PySem.W.Frag} {o e : Expr} {es : List Expr} {to : TE} {t : TA} {name : Str} {apos cpos : Pos} {T id : String} {r : V → List V → Hp → VK → Prop} (h : X.K = K) (pa : PlainAttrs T) (slot : Slot T name id) (hty : typeOf (.builtin id) = pure (.type "method_descriptor")) (hm : MtR X id r) (ho : PE X o to) (ha : PA X (e :: es) t)
  (hbase : attributeBase o name X.env (eval o X.env) = eval o X.env := by rfl)
  (hfew : ((backTo cpos (starEach (e :: es) X.env)).all (fun x => !x.1) && (backToKw cpos (keywordEach [] X.env)).all (fun x => x.1.isSome)
   && decide ((e :: es).length + ([] : List Keyword).length + (if ([] : List Keyword).isEmpty then 0 else 1) < 30)) = true := by rfl)
  (hline : (apos.endLine == cpos.line) = true := by rfl) (hs : starEach (e :: es) X.env = (false, eval e X.env) :: starEach es X.env := by rfl) (hplain : (backTo cpos (starEach es X.env)).any (·.1) = false := by rfl) :
  PE X (.Call (.Attribute o name apos) (e :: es) [] cpos) (tBM K T r to t) := by
 subst h
 exact Jv9 pa slot hty hm ho ha hbase hfew hline hs hplain
end
theorem But.new {p D : Addr} {H H' : Hp} {o : HO} (b : But p H H') (hD : H D = none) (hp : Strm H p) : But p H (upd H' D o) := by
 have ne : p ≠ D := fun e => by obtain ⟨_, _, _, q⟩ := hp; rw [e, hD] at q; cases q
 refine ⟨fun c u n e => ?_, ?_⟩
 ·rw [Jkv (fun z => by subst z; rw [hD] at e; cases e)]
  exact b.1 c u n e
 ·obtain ⟨x, y, z, q⟩ := b.2
  exact ⟨x, y, z, by rw [Jkv ne]; exact q⟩
end L2
namespace L2
open PySem PySem.Spec PyProof.Rows PySem.W
def rCatA : R2 := fun x y H Q => ∃ a b xs ys, x = .ref a ∧ y = .ref b ∧ H a = some (.tup xs) ∧ H b = some (.tup ys) ∧ xs.length + ys.length ≤ sizeLine ∧ ∀ p H', Same H H' → H' p = some (.tup (xs ++ ys)) → Q (.ref p) H'
section
variable {X : Cx}
theorem Jrd : OpR X (binaryOp .Add) rCatA := by
 intro pins s σ H x y v u Q I rx ry h
 obtain ⟨a, b, xs, ys, rfl, rfl, ha, hb, hz, q⟩ := h
 by_cases hx : xs = []
 ·subst hx
  obtain rfl : v = Value.ref a := rx
  obtain rfl : u = Value.ref b := ry
  obtain ⟨its, r1, ht, _⟩ := I.tuple (SqT.of ha)
  obtain ⟨its2, r2, hb', _⟩ := I.tuple (SqT.of hb)
  obtain rfl : its = [] := r1.nil_iff.mpr rfl
  obtain ⟨⟨cls, dd, data, sl⟩, ho, hc, n, hd⟩ := id ht
  obtain ⟨⟨cls2, dd2, data2, sl2⟩, ho2, hc2, n2, hd2⟩ := id hb'
  simp only at hc hd hc2 hd2
  subst hc hd hc2 hd2
  exact concat_meets ⟨_, ho, rfl⟩ ⟨_, ho2, rfl⟩ noFill_tuple_add seq_tuple_add PySem.F.slot_tuple_add PySem.F.entry_tuple_add (PySem.F.args_tuple_add_2 _ _)
   (tuple_addW0 a b _ _ n n2 dd dd2 sl sl2 (by simp)) ⟨ho, ho2, ⟨.ref b, H, I, rfl, q b H (Same.refl H) hb⟩⟩
 ·refine Ys pins s σ H _ _ v u Q I rx ry ⟨a, b, xs, ys, rfl, rfl, SqT.of ha, SqT.of hb, hx, hz, fun e => ?_, fun _ p hp => q p _ (Same.upd hp) Jko⟩
  subst e
  exact q a H (Same.refl H) (by rw [List.append_nil]; exact ha)
def Jv3 (x : V) : Prop := Jnf x = true ∨ ∃ a, x = .ref a
def Own (H : Hp) (x : V) : Prop := Jnf x = true ∨ ∃ a, x = .ref a ∧ ((∃ vs, (H a = some (.lst vs) ∨ H a = some (.tup vs)) ∧ ∀ v ∈ vs, Jv3 v) ∨ H a = some (.dK []) ∨ ∃ k v, H a = some (.dK [(k, v)]))
end
end L2
namespace L2
open PySem PySem.Spec PyProof.Rows PySem.W
end L2
namespace L2
open PySem PySem.Spec PyProof.Rows PySem.W
end L2
namespace L2
open PySem PySem.Spec PyProof.Rows PySem.W
abbrev Jne (h : Heap) (T : Addr) (a b c d : Value) : Prop := h.get? T = some { cls := .type "tuple", data := .seq #[a, b, c, d] }
structure Z4 (z TI TO i1 i2 i3 i4 l1 l2 l3 l4 : Addr) : Prop where
 nd : [z, TI, TO, i1, i2, i3, i4].Nodup
 m1 : l1 ∉ [z, TI, TO, i1, i2, i3, i4]
 m2 : l2 ∉ [z, TI, TO, i1, i2, i3, i4]
 m3 : l3 ∉ [z, TI, TO, i1, i2, i3, i4]
 m4 : l4 ∉ [z, TI, TO, i1, i2, i3, i4]
section
variable {prog : Program} {w : World} {A : Around} {E : Value → Shared → Prop} {s : Shared}
theorem Jxc {T : Addr} {a b c d x : Value} {k : Nat} {Q : Unit → Shared → Prop} (hT : Jne s.heap T a b c d)
  (h : ∀ h', h'.get? T = some { cls := .type "tuple", data := .seq ((#[a, b, c, d] : Array Value).setIfInBounds k x) } → Heap.SameBut T s.heap h' → Q () { s with heap := h' }) : wpAny (model prog w) A (updateSeq T (·.setIfInBounds k x)) Q E s := by
 refine wpAny_updateSeq hT rfl (h _ ?_ (Heap.SameBut.update ..))
 rw [Heap.get?_update_self _ hT rfl]
 simp [Obj.mapSeq]
variable {z TI TO i1 i2 i3 i4 l1 l2 l3 l4 : Addr} {n k : Nat} {P1 P2 P3 P4 : Nat → Value → Prop} {S1 S2 S3 S4 : Nat → Heap → Prop} {a b c d0 : Value}
theorem Yaw {Q : Value → Shared → Prop} (Z : Z4 z TI TO i1 i2 i3 i4 l1 l2 l3 l4) (hz : IsZip s.heap z TI TO .none) (hTI : Jne s.heap TI (.ref i1) (.ref i2) (.ref i3) (.ref i4)) (hTO : Jne s.heap TO a b c d0)
  (hh : A.handled = none) (D1 : DrA prog w i1 l1 n P1 S1) (D2 : DrA prog w i2 l2 n P2 S2) (D3 : DrA prog w i3 l3 n P3 S3) (D4 : DrA prog w i4 l4 n P4 S4) (hk : k < n) (t1 : S1 k s.heap) (t2 : S2 k s.heap) (t3 : S3 k s.heap) (t4 : S4 k s.heap)
  (hQ : ∀ x y u v h' tk, P1 k x → P2 k y → P3 k u → P4 k v → IsZip h' z TI TO (rawInt s.heap.objs.size) → Jne h' TO x y u v → S1 (k + 1) h' → S2 (k + 1) h' → S3 (k + 1) h' → S4 (k + 1) h' → Jne h' s.heap.objs.size x y u v →
   (∀ d o, d ≠ z → d ≠ TO → d ≠ i1 → d ≠ i2 → d ≠ i3 → d ≠ i4 → s.heap.get? d = some o → h'.get? d = some o) → Q (.ref s.heap.objs.size) { s with heap := h', toks := tk }) :
  wpAny (model prog w) A (Builtin.«zip.__next__» ⟨[.ref z], []⟩) (fun fin s' => ∃ v, fin = .done (.ret v) ∧ Q v s') E s := by
 obtain ⟨nd, m1, m2, m3, m4⟩ := Z
 simp only [List.nodup_cons, List.mem_cons, List.not_mem_nil, or_false, not_or, List.nodup_nil, and_true, not_false_eq_true] at nd m1 m2 m3 m4
 obtain ⟨⟨zTI, zTO, z1, z2, z3, z4⟩, ⟨TITO, TI1, TI2, TI3, TI4⟩, ⟨TO1, TO2, TO3, TO4⟩, ⟨n12, n13, n14⟩, ⟨n23, n24⟩, n34⟩ := nd
 obtain ⟨l1z, l1TI, l1TO, l11, l12, l13, l14⟩ := m1
 obtain ⟨l2z, l2TI, l2TO, l21, l22, l23, l24⟩ := m2
 obtain ⟨l3z, l3TI, l3TO, l31, l32, l33, l34⟩ := m3
 obtain ⟨l4z, l4TI, l4TO, l41, l42, l43, l44⟩ := m4
 have fr : ∀ {S : Nat → Heap → Prop} {P : Nat → Value → Prop} {i l b : Addr} {m : Nat} {h h' : Heap}, DrA prog w i l n P S → i ≠ b → l ≠ b → Heap.SameBut b h h' → S m h → S m h' := fun D e1 e2 sb st =>
  (D A hh).frame _ _ _ st fun d hd o e => by
   simp only [List.mem_cons, List.not_mem_nil, or_false] at hd
   rcases hd with rfl | rfl
   ·exact sb.extBut _ _ e1 e
   ·exact sb.extBut _ _ e2 e
 show wpAny _ _ (field (.ref z) 2 >>= _) _ _ _
 refine wpAny_bind (wpAny_field hz rfl (x := .bool false) rfl ?_)
 refine wpAny_bind (m := field (.ref z) 3) (wpAny_field hz rfl (x := .ref TI) rfl ?_)
 refine wpAny_bind (wpAny_seqItems hTI rfl ?_)
 refine wpAny_bind (m := Builtin.SmallTypes.ownedTupleIsFree (.ref z)) ?_
 unfold Builtin.SmallTypes.ownedTupleIsFree
 refine wpAny_bind (wpAny_field hz rfl (x := .none) rfl (wpAny_pure ?_))
 simp only [if_true]
 refine wpAny_bind (wpAny_rule (wpAny_bind (wpAny_field hz rfl (x := .ref TO) rfl (wpAny_bind (wpAny_setField_rec hz (by simp) fun h1 hz1 s1 => ?_)))))
 replace hz1 : IsZip h1 z TI TO .ellipsis := hz1
 refine wpAny_bind ?_
 simp only [List.zipIdx_cons, List.zipIdx_nil, List.forIn_cons, List.forIn_nil]
 refine wpAny_bind (wpAny_bind (wpAny_onRaise ?_))
 refine wpAny_bind (m := Builtin.SmallTypes.nextOf (.ref i1)) ((D1 A hh).item k _ _ _ hk (fr D1 (Ne.symm z1) l1z s1 t1) fun x h2 k2 px u1 s2 => wpAny_pure ?_)
 have o2 : Jne h2 TO a b c d0 := s2.extBut _ _ TO1 (s1.extBut _ _ (Ne.symm zTO) hTO)
 refine wpAny_bind (wpAny_seqItems o2 rfl (wpAny_bind (Jxc o2 fun h3 o3 s3 => wpAny_bind (wpAny_letGo (wpAny_pure ?_)))))
 replace o3 : Jne h3 TO x b c d0 := o3
 refine wpAny_bind (wpAny_bind (wpAny_onRaise ?_))
 refine wpAny_bind (m := Builtin.SmallTypes.nextOf (.ref i2)) ((D2 A hh).item k _ _ _ hk (fr D2 (Ne.symm TO2) l2TO s3 (fr D2 (Ne.symm n12) l21 s2 (fr D2 (Ne.symm z2) l2z s1 t2))) fun y h4 k4 py u2 s4 => wpAny_pure ?_)
 have o4 : Jne h4 TO x b c d0 := s4.extBut _ _ TO2 o3
 refine wpAny_bind (wpAny_seqItems o4 rfl (wpAny_bind (Jxc o4 fun h5 o5 s5 => wpAny_bind (wpAny_letGo (wpAny_pure ?_)))))
 replace o5 : Jne h5 TO x y c d0 := o5
 refine wpAny_bind (wpAny_bind (wpAny_onRaise ?_))
 refine wpAny_bind (m := Builtin.SmallTypes.nextOf (.ref i3)) ((D3 A hh).item k _ _ _ hk (fr D3 (Ne.symm TO3) l3TO s5 (fr D3 (Ne.symm n23) l32 s4 (fr D3 (Ne.symm TO3) l3TO s3 (fr D3 (Ne.symm n13) l31 s2 (fr D3 (Ne.symm z3) l3z s1 t3))))) fun u h6 k6 pu u3 s6 => wpAny_pure ?_)
 have o6 : Jne h6 TO x y c d0 := s6.extBut _ _ TO3 o5
 refine wpAny_bind (wpAny_seqItems o6 rfl (wpAny_bind (Jxc o6 fun h7 o7 s7 => wpAny_bind (wpAny_letGo (wpAny_pure ?_)))))
 replace o7 : Jne h7 TO x y u d0 := o7
 refine wpAny_bind (wpAny_bind (wpAny_onRaise ?_))
 refine wpAny_bind (m := Builtin.SmallTypes.nextOf (.ref i4)) ((D4 A hh).item k _ _ _ hk (fr D4 (Ne.symm TO4) l4TO s7 (fr D4 (Ne.symm n34) l43 s6 (fr D4 (Ne.symm TO4) l4TO s5 (fr D4 (Ne.symm n24) l42 s4 (fr D4 (Ne.symm TO4) l4TO s3 (fr D4 (Ne.symm n14) l41 s2 (fr D4 (Ne.symm z4) l4z s1 t4))))))) fun v h8 k8 pv u4 s8 => wpAny_pure ?_)
 have o8 : Jne h8 TO x y u d0 := s8.extBut _ _ TO4 o7
 refine wpAny_bind (wpAny_seqItems o8 rfl (wpAny_bind (Jxc o8 fun h9 o9 s9 => wpAny_bind (wpAny_letGo (wpAny_pure (wpAny_pure ?_))))))
 replace o9 : Jne h9 TO x y u v := o9
 refine wpAny_bind (wpAny_seqItems o9 rfl (wpAny_bind (wpAny_newTuple ?_)))
 have sz : h9.objs.size = s.heap.objs.size := by rw [s9.1, s8.1, s7.1, s6.1, s5.1, s4.1, s3.1, s2.1, s1.1]
 have zz : IsZip h9 z TI TO .ellipsis := s9.extBut _ _ zTO (s8.extBut _ _ z4 (s7.extBut _ _ zTO (s6.extBut _ _ z3 (s5.extBut _ _ zTO (s4.extBut _ _ z2 (s3.extBut _ _ zTO (s2.extBut _ _ z1 hz1)))))))
 have kk : ∀ d o, d ≠ z → d ≠ TO → d ≠ i1 → d ≠ i2 → d ≠ i3 → d ≠ i4 → s.heap.get? d = some o → h9.get? d = some o := fun d o c1 c2 c3 c4 c5 c6 e =>
  s9.extBut _ _ c2 (s8.extBut _ _ c6 (s7.extBut _ _ c2 (s6.extBut _ _ c5 (s5.extBut _ _ c2 (s4.extBut _ _ c4 (s3.extBut _ _ c2 (s2.extBut _ _ c3 (s1.extBut _ _ c1 e))))))))
 have w1 : S1 (k + 1) h9 := fr D1 (Ne.symm TO1) l1TO s9 (fr D1 n14 l14 s8 (fr D1 (Ne.symm TO1) l1TO s7 (fr D1 n13 l13 s6 (fr D1 (Ne.symm TO1) l1TO s5 (fr D1 n12 l12 s4 (fr D1 (Ne.symm TO1) l1TO s3 u1))))))
 have w2 : S2 (k + 1) h9 := fr D2 (Ne.symm TO2) l2TO s9 (fr D2 n24 l24 s8 (fr D2 (Ne.symm TO2) l2TO s7 (fr D2 n23 l23 s6 (fr D2 (Ne.symm TO2) l2TO s5 u2))))
 have w3 : S3 (k + 1) h9 := fr D3 (Ne.symm TO3) l3TO s9 (fr D3 n34 l34 s8 (fr D3 (Ne.symm TO3) l3TO s7 u3))
 have w4 : S4 (k + 1) h9 := fr D4 (Ne.symm TO4) l4TO s9 u4
 have zlt : z < h9.objs.size := Heap.lt_size zz
 refine wpAny_bind (m := Builtin.SmallTypes.ownedTupleHandOut (.ref z) (.ref h9.objs.size)) ?_
 unfold Builtin.SmallTypes.ownedTupleHandOut
 have zp : IsZip (h9.push { cls := .type "tuple", data := .seq #[x, y, u, v] }) z TI TO .ellipsis := Heap.get?_push_of_some _ zz
 refine wpAny_bind (wpAny_setField_rec zp (by simp) fun h10 hz10 s10 => ?_)
 replace hz10 : IsZip h10 z TI TO (rawInt h9.objs.size) := hz10
 refine wpAny_setField_rec hz10 (by simp) fun h11 hz11 s11 => ?_
 replace hz11 : IsZip h11 z TI TO (rawInt h9.objs.size) := hz11
 have up : ∀ d o, d ≠ z → h9.get? d = some o → h11.get? d = some o := fun d o c1 e => s11.extBut _ _ c1 (s10.extBut _ _ c1 (Heap.get?_push_of_some _ e))
 have nw : Jne h11 h9.objs.size x y u v := s11.extBut _ _ (Nat.ne_of_gt zlt) (s10.extBut _ _ (Nat.ne_of_gt zlt) (Heap.get?_push_size _ rfl))
 have fz : ∀ {S : Nat → Heap → Prop} {P : Nat → Value → Prop} {i l : Addr} {m : Nat}, DrA prog w i l n P S → i ≠ z → l ≠ z → S m h9 → S m h11 := fun D e1 e2 st => (D A hh).frame _ _ _ st fun d hd o e => by
  simp only [List.mem_cons, List.not_mem_nil, or_false] at hd
  rcases hd with rfl | rfl
  ·exact up _ _ e1 e
  ·exact up _ _ e2 e
 rw [sz] at hz11 nw
 refine wpAny_pure ⟨_, rfl, ?_⟩
 show Q (.ref h9.objs.size) _
 rw [sz]
 exact hQ x y u v h11 _ px py pu pv hz11 (up _ _ (Ne.symm zTO) o9) (fz D1 (Ne.symm z1) l1z w1) (fz D2 (Ne.symm z2) l2z w2) (fz D3 (Ne.symm z3) l3z w3) (fz D4 (Ne.symm z4) l4z w4) nw fun d o c1 c2 c3 c4 c5 c6 e => up d o c1 (kk d o c1 c2 c3 c4 c5 c6 e)
theorem z4_end {Q : Fin → Shared → Prop} (Z : Z4 z TI TO i1 i2 i3 i4 l1 l2 l3 l4) (hz : IsZip s.heap z TI TO .none) (hTI : Jne s.heap TI (.ref i1) (.ref i2) (.ref i3) (.ref i4))
  (hh : A.handled = none) (D1 : DrA prog w i1 l1 n P1 S1) (t1 : S1 n s.heap)
  (hE : ∀ h' e, (∀ d o, d ≠ z → d ≠ i1 → s.heap.get? d = some o → h'.get? d = some o) → (∃ o, h'.get? e = some o ∧ o.cls = .type "StopIteration") → E (.ref e) { s with heap := h' }) :
  wpAny (model prog w) A (Builtin.«zip.__next__» ⟨[.ref z], []⟩) Q E s := by
 obtain ⟨nd, m1, _, _, _⟩ := Z
 simp only [List.nodup_cons, List.mem_cons, List.not_mem_nil, or_false, not_or, List.nodup_nil, and_true, not_false_eq_true] at nd m1
 obtain ⟨⟨zTI, zTO, z1, z2, z3, z4⟩, _⟩ := nd
 obtain ⟨l1z, l1TI, l1TO, l11, l12, l13, l14⟩ := m1
 show wpAny _ _ (field (.ref z) 2 >>= _) _ _ _
 refine wpAny_bind (wpAny_field hz rfl (x := .bool false) rfl ?_)
 refine wpAny_bind (m := field (.ref z) 3) (wpAny_field hz rfl (x := .ref TI) rfl ?_)
 refine wpAny_bind (wpAny_seqItems hTI rfl ?_)
 refine wpAny_bind (m := Builtin.SmallTypes.ownedTupleIsFree (.ref z)) ?_
 unfold Builtin.SmallTypes.ownedTupleIsFree
 refine wpAny_bind (wpAny_field hz rfl (x := .none) rfl (wpAny_pure ?_))
 simp only [if_true]
 refine wpAny_bind (wpAny_rule (wpAny_bind (wpAny_field hz rfl (x := .ref TO) rfl (wpAny_bind (wpAny_setField_rec hz (by simp) fun h1 hz1 s1 => ?_)))))
 replace hz1 : IsZip h1 z TI TO .ellipsis := hz1
 refine wpAny_bind ?_
 simp only [List.zipIdx_cons, List.zipIdx_nil, List.forIn_cons, List.forIn_nil]
 refine wpAny_bind (wpAny_bind (wpAny_onRaise ?_))
 refine wpAny_bind (m := Builtin.SmallTypes.nextOf (.ref i1)) ((D1 A hh).done _ _ _ ((D1 A hh).frame _ _ _ t1 fun d hd o e => ?_) fun h2 e s2 he => ?_)
 ·simp only [List.mem_cons, List.not_mem_nil, or_false] at hd
  rcases hd with rfl | rfl
  ·exact s1.extBut _ _ (Ne.symm z1) e
  ·exact s1.extBut _ _ l1z e
 ·obtain ⟨oe, hoe, hce⟩ := he
  have hz2 : IsZip h2 z TI TO .ellipsis := s2 _ _ z1 hz1
  have ez : e ≠ z := fun q => by subst q; rw [hz2] at hoe; cases hoe; simp at hce
  exact wpAny_setField_rec hz2 (by simp) fun h3 _ s3 => hE h3 e (fun d o c1 c2 q => s3.extBut _ _ c1 (s2 _ _ c2 (s1.extBut _ _ c1 q))) ⟨oe, s3.extBut _ _ ez hoe, hce⟩
end
def Z4St (z TI TO i1 i2 i3 i4 : Addr) (S1 S2 S3 S4 : Nat → Heap → Prop) (i : Nat) (h : Heap) : Prop := IsZip h z TI TO .none ∧ Jne h TI (.ref i1) (.ref i2) (.ref i3) (.ref i4) ∧ (∃ a b c d, Jne h TO a b c d) ∧ S1 i h ∧ S2 i h ∧ S3 i h ∧ S4 i h
section
variable {prog : Program} {w : World} {z TI TO i1 i2 i3 i4 l1 l2 l3 l4 : Addr} {n : Nat} {P1 P2 P3 P4 : Nat → Value → Prop} {S1 S2 S3 S4 : Nat → Heap → Prop}
theorem Y7 {A : Around} (hh : A.handled = none) (Z : Z4 z TI TO i1 i2 i3 i4 l1 l2 l3 l4) (D1 : DrA prog w i1 l1 n P1 S1) (D2 : DrA prog w i2 l2 n P2 S2) (D3 : DrA prog w i3 l3 n P3 S3) (D4 : DrA prog w i4 l4 n P4 S4) :
  WalksT prog w A z [z, TI, TO, i1, i2, i3, i4, l1, l2, l3, l4] [z, TO, i1, i2, i3, i4] n (fun i vals => ∃ x y u v, P1 i x ∧ P2 i y ∧ P3 i u ∧ P4 i v ∧ vals = #[x, y, u, v]) (Z4St z TI TO i1 i2 i3 i4 S1 S2 S3 S4)
   (fun i T h => IsZip h z TI TO (rawInt T) ∧ Jne h TI (.ref i1) (.ref i2) (.ref i3) (.ref i4) ∧ (∃ a b c d, Jne h TO a b c d) ∧ S1 (i + 1) h ∧ S2 (i + 1) h ∧ S3 (i + 1) h ∧ S4 (i + 1) h ∧ T ∉ [z, TO, i1, i2, i3, i4]) where
 sub := fun c hc => by simp at hc ⊢; rcases hc with rfl | rfl | rfl | rfl | rfl | rfl <;> simp
 frame := fun i h h' hst hk => by
  obtain ⟨hz, hTI, ⟨a, b, c, d, hTO⟩, h1, h2, h3, h4⟩ := hst
  exact ⟨hk z (by simp) _ hz, hk TI (by simp) _ hTI, ⟨a, b, c, d, hk TO (by simp) _ hTO⟩, (D1 A hh).frame _ _ _ h1 fun d hd o e => hk d (by simp at hd; rcases hd with rfl | rfl <;> simp) o e,
   (D2 A hh).frame _ _ _ h2 fun d hd o e => hk d (by simp at hd; rcases hd with rfl | rfl <;> simp) o e, (D3 A hh).frame _ _ _ h3 fun d hd o e => hk d (by simp at hd; rcases hd with rfl | rfl <;> simp) o e, (D4 A hh).frame _ _ _ h4 fun d hd o e => hk d (by simp at hd; rcases hd with rfl | rfl <;> simp) o e⟩
 item := fun i s Q E hi hst hQ => by
  obtain ⟨hz, hTI, ⟨a, b, c, d, hTO⟩, h1, h2, h3, h4⟩ := hst
  have hT : s.TypeIs (.ref z) "zip" := ⟨_, hz, rfl⟩
  have nd := Z.nd
  simp only [List.nodup_cons, List.mem_cons, List.not_mem_nil, or_false, not_or, List.nodup_nil, and_true, not_false_eq_true] at nd
  obtain ⟨⟨zTI, _⟩, ⟨TITO, TI1, TI2, TI3, TI4⟩, _⟩ := nd
  obtain ⟨e1, g1⟩ := (D1 A hh).live _ _ h1
  obtain ⟨e2, g2⟩ := (D2 A hh).live _ _ h2
  obtain ⟨e3, g3⟩ := (D3 A hh).live _ _ h3
  obtain ⟨e4, g4⟩ := (D4 A hh).live _ _ h4
  unfold pyNext
  refine wpAny_bind (wpAny_attempt (wpAny_callSpecial?_slot (name := Str.ofString "__next__") hT F.slot_zip_next (wpAny_call_entry F.slot_zip_next hT F.entry_zip_next
   (Yaw (A := A.in1) Z hz hTI hTO hh D1 D2 D3 D4 hi h1 h2 h3 h4 fun x y u v h' tk px py pu pv a1 a2 a3 a4 a5 a6 a7 hk => wpAny_pure ?_) (F.args_zip_next_1 _))))
  refine hQ s.heap.objs.size #[x, y, u, v] h' tk ⟨x, y, u, v, px, py, pu, pv, rfl⟩ (Nat.le_refl _) ⟨_, a7, rfl, _, rfl⟩ ⟨a1, hk _ _ (Ne.symm zTI) TITO TI1 TI2 TI3 TI4 hTI, ⟨_, _, _, _, a2⟩, a3, a4, a5, a6, ?_⟩ fun d o hd e => hk d o (fun q => hd (by simp [q])) (fun q => hd (by simp [q])) (fun q => hd (by simp [q])) (fun q => hd (by simp [q])) (fun q => hd (by simp [q])) (fun q => hd (by simp [q])) e
  have lt : ∀ {d o}, s.heap.get? d = some o → s.heap.objs.size ≠ d := fun e => Nat.ne_of_gt (Heap.lt_size e)
  simp only [List.mem_cons, List.not_mem_nil, or_false, not_or]
  exact ⟨lt hz, lt hTO, lt g1, lt g2, lt g3, lt g4⟩
 go := fun elts k pos i T s Q E hm hQ => by
  obtain ⟨hz, hTI, ⟨a, b, c, d, hTO⟩, h1, h2, h3, h4, _⟩ := hm
  have nd := Z.nd
  have m1 := Z.m1
  have m2 := Z.m2
  have m3 := Z.m3
  have m4 := Z.m4
  simp only [List.nodup_cons, List.mem_cons, List.not_mem_nil, or_false, not_or, List.nodup_nil, and_true, not_false_eq_true] at nd m1 m2 m3 m4
  obtain ⟨⟨zTI, zTO, z1, z2, z3, z4⟩, _⟩ := nd
  have fz : ∀ {S : Nat → Heap → Prop} {P : Nat → Value → Prop} {j l : Addr} {m : Nat} {h' : Heap}, DrA prog w j l n P S → j ≠ z → l ≠ z → Heap.SameBut z s.heap h' → S m s.heap → S m h' := fun D e1 e2 sb st => (D A hh).frame _ _ _ st fun d hd o e => by
   simp only [List.mem_cons, List.not_mem_nil, or_false] at hd
   rcases hd with rfl | rfl
   ·exact sb.extBut _ _ e1 e
   ·exact sb.extBut _ _ e2 e
  exact wpAny_letOwnedTupleGo_zip hz fun h' hz' sb => hQ h' ⟨hz', sb.extBut _ _ (Ne.symm zTI) hTI, ⟨a, b, c, d, sb.extBut _ _ (Ne.symm zTO) hTO⟩, fz D1 (Ne.symm z1) m1.1 sb h1, fz D2 (Ne.symm z2) m2.1 sb h2, fz D3 (Ne.symm z3) m3.1 sb h3, fz D4 (Ne.symm z4) m4.1 sb h4⟩ fun d o hd e => sb.extBut _ _ (fun q => hd (by simp [q])) e
 apart := fun i T h hm hT => hm.2.2.2.2.2.2.2 hT
 done := fun s Q E hst hQ => by
  obtain ⟨hz, hTI, _, h1, h2, h3, h4⟩ := hst
  have hT : s.TypeIs (.ref z) "zip" := ⟨_, hz, rfl⟩
  unfold pyNext
  refine wpAny_bind (wpAny_attempt (wpAny_callSpecial?_slot (name := Str.ofString "__next__") hT F.slot_zip_next (wpAny_call_entry F.slot_zip_next hT F.entry_zip_next
   (z4_end (A := A.in1) Z hz hTI hh D1 h1 fun h' e hk he => ?_) (F.args_zip_next_1 _))))
  obtain ⟨o, ho, hc⟩ := he
  refine wpAny_bind (wpAny_isInstance (T := "StopIteration") (b := true) ⟨o, ho, hc⟩ isSubtype_stop (wpAny_pure ?_))
  exact hQ h' s.toks fun d o' hd e' => hk d o' (fun q => hd (by simp [q])) (fun q => hd (by simp [q])) e'
 self := fun i s Q E hst hQ => wpAny_pyIter_zip hst.1 hQ
end
abbrev yC (h : Heap) (l1 l2 l3 l4 : Addr) (b1 b2 b3 b4 : Bool) : Heap := (zC h l1 l2 l3 b1 b2 b3).push (itO l4 b4)
abbrev yD (h : Heap) (l1 l2 l3 l4 : Addr) (b1 b2 b3 b4 : Bool) : Heap := (yC h l1 l2 l3 l4 b1 b2 b3 b4).push { cls := .type "tuple", data := .seq #[.ref h.objs.size, .ref (zA h l1 b1).objs.size, .ref (zB h l1 l2 b1 b2).objs.size, .ref (zC h l1 l2 l3 b1 b2 b3).objs.size] }
abbrev yE (h : Heap) (l1 l2 l3 l4 : Addr) (b1 b2 b3 b4 : Bool) : Heap := (yD h l1 l2 l3 l4 b1 b2 b3 b4).push { cls := .type "tuple", data := .seq #[.none, .none, .none, .none] }
abbrev yF (h : Heap) (l1 l2 l3 l4 : Addr) (b1 b2 b3 b4 : Bool) : Heap := (yE h l1 l2 l3 l4 b1 b2 b3 b4).push { cls := .type "zip", data := .fields #[.none, .bool false, .bool false, .ref (yC h l1 l2 l3 l4 b1 b2 b3 b4).objs.size, .ref (yD h l1 l2 l3 l4 b1 b2 b3 b4).objs.size] }
set_option maxRecDepth 100000 in
set_option maxHeartbeats 4000000 in
theorem Yg (l1 l2 l3 l4 : Addr) (b1 b2 b3 b4 : Bool) (xs ys us vs : Array Value) :
  Meets (Builtin.«zip.__new__» ⟨[.type "zip", .ref l1, .ref l2, .ref l3, .ref l4], []⟩) (fun _ R s => IsB s.heap l1 b1 xs ∧ IsB s.heap l2 b2 ys ∧ IsB s.heap l3 b3 us ∧ IsB s.heap l4 b4 vs ∧
   R (.ok (.ret (.ref (yE s.heap l1 l2 l3 l4 b1 b2 b3 b4).objs.size))) { s with heap := yF s.heap l1 l2 l3 l4 b1 b2 b3 b4 }) :=
 .of_wp fun prog w A R s h => by
  obtain ⟨hp, g, d, tk, os⟩ := s
  obtain ⟨hl1, hl2, hl3, hl4, h⟩ := h
  have e0 := sub_zip
  have e1 : IsB (Shared.heap ⟨hp, g, d, tk, os⟩) l1 b1 xs := hl1
  have e2 : IsB (Shared.heap ⟨hp.push (itO l1 b1), g, d, tk, os⟩) l2 b2 ys := IsB.push hl2 _
  have e3 : IsB (Shared.heap ⟨(hp.push (itO l1 b1)).push (itO l2 b2), g, d, tk, os⟩) l3 b3 us := IsB.push (IsB.push hl3 _) _
  have e4 : IsB (Shared.heap ⟨((hp.push (itO l1 b1)).push (itO l2 b2)).push (itO l3 b3), g, d, tk, os⟩) l4 b4 vs := IsB.push (IsB.push (IsB.push hl4 _) _) _
  wp_walk using Jrt e1, Jrt e2, Jrt e3, Jrt e4
  exact ⟨_, rfl, h⟩
theorem Jsm (a b c d : Value) : checkTypeCall "zip" ⟨[a, b, c, d], []⟩ = pure () := by kernel_rfl
theorem Jss (a b c d : Value) : checkBuiltinCall "zip.__new__" ⟨[.type "zip", a, b, c, d], []⟩ = pure () := by kernel_rfl
theorem Juw (a b c d e : Value) : argsOk "object.__init__" ⟨[a, b, c, d, e], []⟩ := by
 unfold argsOk; rw [signature?_of (id := "object.__init__") (n := ['_', '_', 't', 'i', 'n', 'i', '_', '_']) (o := ['t', 'c', 'e', 'j', 'b', 'o']) (by kernel_rfl) F.owner_object]; kernel_rfl
end L2
namespace L2
open PySem PySem.Spec PyProof.Rows PySem.W
section
variable {prog : Program} {w : World} {A : Around} {E : Value → Shared → Prop} {s : Shared}
theorem Jxk {l1 l2 l3 l4 : Addr} {b1 b2 b3 b4 : Bool} {xs ys us vs : Array Value} {Q : Value → Shared → Prop} (h1 : IsB s.heap l1 b1 xs) (h2 : IsB s.heap l2 b2 ys) (h3 : IsB s.heap l3 b3 us) (h4 : IsB s.heap l4 b4 vs)
  (h : ∀ h', IsZip h' (s.heap.objs.size + 6) (s.heap.objs.size + 4) (s.heap.objs.size + 5) .none → Jne h' (s.heap.objs.size + 4) (.ref s.heap.objs.size) (.ref (s.heap.objs.size + 1)) (.ref (s.heap.objs.size + 2)) (.ref (s.heap.objs.size + 3)) →
   Jne h' (s.heap.objs.size + 5) .none .none .none .none → IS s.heap.objs.size l1 b1 0 h' → IS (s.heap.objs.size + 1) l2 b2 0 h' → IS (s.heap.objs.size + 2) l3 b3 0 h' → IS (s.heap.objs.size + 3) l4 b4 0 h' →
   (∀ c o, s.heap.get? c = some o → h'.get? c = some o) → Q (.ref (s.heap.objs.size + 6)) { s with heap := h' }) :
  wpAny (model prog w) A (call (.type "zip") [.ref l1, .ref l2, .ref l3, .ref l4]) Q E s := by
 refine callType_new F.called_zip (by decide) (Jsm _ _ _ _) (Jss _ _ _ _) (fun obj => Juw obj _ _ _ _) F.entry_zip_new (Yg l1 l2 l3 l4 b1 b2 b3 b4 xs ys us vs) ⟨h1, h2, h3, h4, ?_⟩
 have z1 : (zA s.heap l1 b1).objs.size = s.heap.objs.size + 1 := Heap.size_push ..
 have z2 : (zB s.heap l1 l2 b1 b2).objs.size = s.heap.objs.size + 2 := by rw [Heap.size_push, z1]
 have z3 : (zC s.heap l1 l2 l3 b1 b2 b3).objs.size = s.heap.objs.size + 3 := by rw [Heap.size_push, z2]
 have z4 : (yC s.heap l1 l2 l3 l4 b1 b2 b3 b4).objs.size = s.heap.objs.size + 4 := by rw [Heap.size_push, z3]
 have z5 : (yD s.heap l1 l2 l3 l4 b1 b2 b3 b4).objs.size = s.heap.objs.size + 5 := by rw [Heap.size_push, z4]
 have z6 : (yE s.heap l1 l2 l3 l4 b1 b2 b3 b4).objs.size = s.heap.objs.size + 6 := by rw [Heap.size_push, z5]
 have p : ∀ {h : Heap} {c : Addr} {o q : Obj}, h.get? c = some o → (h.push q).get? c = some o := fun e => Heap.get?_push_of_some _ e
 have g7 : (yF s.heap l1 l2 l3 l4 b1 b2 b3 b4).get? (yE s.heap l1 l2 l3 l4 b1 b2 b3 b4).objs.size = some _ := Heap.get?_push_size _ rfl
 have g6 : (yF s.heap l1 l2 l3 l4 b1 b2 b3 b4).get? (yD s.heap l1 l2 l3 l4 b1 b2 b3 b4).objs.size = some _ := p (Heap.get?_push_size _ rfl)
 have g5 : (yF s.heap l1 l2 l3 l4 b1 b2 b3 b4).get? (yC s.heap l1 l2 l3 l4 b1 b2 b3 b4).objs.size = some _ := p (p (Heap.get?_push_size _ rfl))
 have fr : ∀ (l : Addr) (b : Bool), (itO l b).isFreed = false := fun l b => by cases b <;> rfl
 have g4 : (yF s.heap l1 l2 l3 l4 b1 b2 b3 b4).get? (zC s.heap l1 l2 l3 b1 b2 b3).objs.size = some (itO l4 b4) := p (p (p (Heap.get?_push_size _ (fr _ _))))
 have g3 : (yF s.heap l1 l2 l3 l4 b1 b2 b3 b4).get? (zB s.heap l1 l2 b1 b2).objs.size = some (itO l3 b3) := p (p (p (p (Heap.get?_push_size _ (fr _ _)))))
 have g2 : (yF s.heap l1 l2 l3 l4 b1 b2 b3 b4).get? (zA s.heap l1 b1).objs.size = some (itO l2 b2) := p (p (p (p (p (Heap.get?_push_size _ (fr _ _))))))
 have g1 : (yF s.heap l1 l2 l3 l4 b1 b2 b3 b4).get? s.heap.objs.size = some (itO l1 b1) := p (p (p (p (p (p (Heap.get?_push_size _ (fr _ _)))))))
 have is : ∀ {it l : Addr} {b : Bool} {h : Heap}, h.get? it = some (itO l b) → IS it l b 0 h := fun {it l b h} e => by
  cases b
  ·exact ⟨_, e, rfl, rfl⟩
  ·exact ⟨_, e, rfl, rfl⟩
 show _ ∧ _
 rw [z4, z5, z6] at g7
 rw [z1, z2, z3, z4] at g5
 rw [z5] at g6
 rw [z3] at g4
 rw [z2] at g3
 rw [z1] at g2
 rw [z6]
 exact ⟨⟨_, g7, rfl⟩, h _ g7 g5 g6 (is g1) (is g2) (is g3) (is g4) fun c o x => p (p (p (p (p (p (p x))))))⟩
end
def ItZ4 (K : PySem.W.Frag) (l1 l2 l3 l4 : Addr) (b1 b2 b3 b4 : Bool) : It :=
 ⟨fun i H => ∃ xs ys us vs, SqB K H l1 b1 xs ∧ SqB K H l2 b2 ys ∧ SqB K H l3 b3 us ∧ SqB K H l4 b4 vs ∧ xs.length = ys.length ∧ xs.length = us.length ∧ xs.length = vs.length ∧ i < xs.length,
  fun i H x H' => ∃ T p q r t, H T = none ∧ x = .ref T ∧ (∀ xs, SqB K H l1 b1 xs → xs[i]? = some p) ∧ (∀ ys, SqB K H l2 b2 ys → ys[i]? = some q) ∧ (∀ us, SqB K H l3 b3 us → us[i]? = some r) ∧ (∀ vs, SqB K H l4 b4 vs → vs[i]? = some t) ∧ H' = upd H T (.tup [p, q, r, t]),
  fun i H => ∃ xs ys us vs, SqB K H l1 b1 xs ∧ SqB K H l2 b2 ys ∧ SqB K H l3 b3 us ∧ SqB K H l4 b4 vs ∧ xs.length = ys.length ∧ xs.length = us.length ∧ xs.length = vs.length ∧ i = xs.length⟩
def Z4T (z TI TO i1 i2 i3 i4 l1 l2 l3 l4 : Addr) (b1 b2 b3 b4 : Bool) (i : Nat) (h : Heap) : Prop := IsZip h z TI TO .none ∧ Jne h TI (.ref i1) (.ref i2) (.ref i3) (.ref i4) ∧ (∃ a b c d, Jne h TO a b c d) ∧ IS i1 l1 b1 i h ∧ IS i2 l2 b2 i h ∧ IS i3 l3 b3 i h ∧ IS i4 l4 b4 i h
theorem Z4T.obj {z TI TO i1 i2 i3 i4 l1 l2 l3 l4 : Addr} {b1 b2 b3 b4 : Bool} {i : Nat} {h : Heap} (st : Z4T z TI TO i1 i2 i3 i4 l1 l2 l3 l4 b1 b2 b3 b4 i h) : ∀ b ∈ [z, TI, TO, i1, i2, i3, i4], ∃ o, h.get? b = some o ∧ ∀ v, o.data ≠ .cell v := fun b hb => by
 obtain ⟨h1, h2, ⟨x, y, u, v, h3⟩, h4, h5, h6, h7⟩ := st
 simp only [List.mem_cons, List.not_mem_nil, or_false] at hb
 rcases hb with rfl | rfl | rfl | rfl | rfl | rfl | rfl
 ·exact ⟨_, h1, fun v z => by cases z⟩
 ·exact ⟨_, h2, fun v z => by cases z⟩
 ·exact ⟨_, h3, fun v z => by cases z⟩
 ·exact h4.obj
 ·exact h5.obj
 ·exact h6.obj
 ·exact h7.obj
theorem Z4.ne {z TI TO i1 i2 i3 i4 l1 l2 l3 l4 : Addr} (Z : Z4 z TI TO i1 i2 i3 i4 l1 l2 l3 l4) : l1 ≠ i1 ∧ l2 ≠ i2 ∧ l3 ≠ i3 ∧ l4 ≠ i4 := by
 obtain ⟨_, m1, m2, m3, m4⟩ := Z
 simp only [List.mem_cons, List.not_mem_nil, or_false, not_or] at m1 m2 m3 m4
 exact ⟨m1.2.2.2.1, m2.2.2.2.2.1, m3.2.2.2.2.2.1, m4.2.2.2.2.2.2⟩
theorem Jyd {P : Program} {w : World} {K : PySem.W.Frag} {elts : List Expr} {kt : Nat} {pt : Pos} (z TI TO i1 i2 i3 i4 l1 l2 l3 l4 : Addr) (b1 b2 b3 b4 : Bool) (Z : Z4 z TI TO i1 i2 i3 i4 l1 l2 l3 l4) :
  Turn P w K (.Tuple elts kt pt) (ItZ4 K l1 l2 l3 l4 b1 b2 b3 b4) [z, TI, TO, i1, i2, i3, i4] z (Z4T z TI TO i1 i2 i3 i4 l1 l2 l3 l4 b1 b2 b3 b4) where
 mem := by simp
 obj := fun i h st => st.obj
 keep := fun i h h' st k => by
  obtain ⟨h1, h2, ⟨a, c, d, e, h3⟩, h4, h5, h6, h7⟩ := st
  exact ⟨k z (by simp) _ h1, k TI (by simp) _ h2, ⟨a, c, d, e, k TO (by simp) _ h3⟩, h4.at fun o e => k i1 (by simp) o e, h5.at fun o e => k i2 (by simp) o e, h6.at fun o e => k i3 (by simp) o e, h7.at fun o e => k i4 (by simp) o e⟩
 item := by
  intro X hP hw hK hc i pins s σ H E I hf st hg
  subst hP hw hK
  obtain ⟨xs, ys, us, vs, q1, q2, q3, q4, e12, e13, e14, hi⟩ := hg
  obtain ⟨its, rv, p1⟩ := I.seqB q1
  obtain ⟨jts, rv2, p2⟩ := I.seqB q2
  obtain ⟨kts, rv3, p3⟩ := I.seqB q3
  obtain ⟨lts, rv4, p4⟩ := I.seqB q4
  have a1 := rv.length
  have a2 := rv2.length
  have a3 := rv3.length
  have a4 := rv4.length
  obtain ⟨n1, n2, n3, n4⟩ := Z.ne
  have D1 := drA (prog := X.prog) (w := X.w) b1 n1 its.toArray
  have D2 := drA (prog := X.prog) (w := X.w) b2 n2 jts.toArray
  have D3 := drA (prog := X.prog) (w := X.w) b3 n3 kts.toArray
  have D4 := drA (prog := X.prog) (w := X.w) b4 n4 lts.toArray
  rw [show jts.toArray.size = its.toArray.size by simp only [List.size_toArray]; omega] at D2
  rw [show kts.toArray.size = its.toArray.size by simp only [List.size_toArray]; omega] at D3
  rw [show lts.toArray.size = its.toArray.size by simp only [List.size_toArray]; omega] at D4
  have W := Y7 (I.ok.hd hc) Z D1 D2 D3 D4
  have st0 := st
  obtain ⟨s1, s2, s3, s4, s5, s6, s7⟩ := st
  refine W.item i s _ _ (by simp only [List.size_toArray]; omega) ⟨s1, s2, s3, ⟨s4, p1⟩, ⟨s5, p2⟩, ⟨s6, p3⟩, ⟨s7, p4⟩⟩ fun T vals h' tk hP fT tT mid kk => ?_
  refine ⟨_, rfl, W.go elts kt pt i T _ _ _ mid fun h'' st'' kk2 => ?_⟩
  obtain ⟨x, y, u, v, hx, hy, hu, hv, rfl⟩ := hP
  obtain ⟨u1, hu1, r1⟩ := rv.get (i := i) (x := xs[i]) (List.getElem?_eq_getElem hi)
  obtain ⟨u2, hu2, r2⟩ := rv2.get (i := i) (x := ys[i]'(by omega)) (List.getElem?_eq_getElem (by omega))
  obtain ⟨u3, hu3, r3⟩ := rv3.get (i := i) (x := us[i]'(by omega)) (List.getElem?_eq_getElem (by omega))
  obtain ⟨u4, hu4, r4⟩ := rv4.get (i := i) (x := vs[i]'(by omega)) (List.getElem?_eq_getElem (by omega))
  obtain rfl : x = u1 := by simpa [hu1] using hx.symm
  obtain rfl : y = u2 := by simpa [hu2] using hy.symm
  obtain rfl : u = u3 := by simpa [hu3] using hu.symm
  obtain rfl : v = u4 := by simpa [hu4] using hv.symm
  obtain ⟨t1, t2, t3, t4, t5, t6, t7⟩ := st''
  have kT : h''.IsTuple T #[x, y, u, v] := by
   obtain ⟨o, q, r⟩ := tT
   exact ⟨o, kk2 T o (W.apart i T h' mid) q, r⟩
  have cht : ∀ c, c ∈ [z, TO, i1, i2, i3, i4] → c ∈ [z, TI, TO, i1, i2, i3, i4] := fun c hc => by simp at hc ⊢; rcases hc with rfl | rfl | rfl | rfl | rfl | rfl <;> simp
  refine ⟨.ref T, upd H T (.tup [xs[i], ys[i]'(by omega), us[i]'(by omega), vs[i]'(by omega)]), I.turnTup (ch := [z, TO, i1, i2, i3, i4]) (t' := tk) (fun c hc => hf c (cht c hc)) (fun c o hc e => kk2 c o hc (kk c o hc e)) fT ⟨(show 4 ≤ sizeLine by decide), [x, y, u, v], .cons r1 (.cons r2 (.cons r3 (.cons r4 .nil))), kT⟩, rfl,
   ⟨T, _, _, _, _, I.hok.fresh fT, rfl, fun xs' hq => by rw [I.seqB_inj hq q1]; exact List.getElem?_eq_getElem hi, fun ys' hq => by rw [I.seqB_inj hq q2]; exact List.getElem?_eq_getElem (by omega), fun us' hq => by rw [I.seqB_inj hq q3]; exact List.getElem?_eq_getElem (by omega), fun vs' hq => by rw [I.seqB_inj hq q4]; exact List.getElem?_eq_getElem (by omega), rfl⟩, ⟨t1, t2, t3, t4.1, t5.1, t6.1, t7.1⟩, fun c hc => ?_⟩
  have hcn := (hf c hc).1
  rw [Jkv (fun w' => ?_)]
  ·exact hcn
  ·subst w'
   obtain ⟨o, e, _⟩ := Z4T.obj st0 c hc
   exact absurd (Heap.lt_size e) (Nat.not_lt.mpr fT)
 done := by
  intro X hP hw hK hc i pins s σ H E I hf st hg
  subst hP hw hK
  obtain ⟨xs, ys, us, vs, q1, q2, q3, q4, e12, e13, e14, hi⟩ := hg
  obtain ⟨its, rv, p1⟩ := I.seqB q1
  obtain ⟨jts, rv2, p2⟩ := I.seqB q2
  obtain ⟨kts, rv3, p3⟩ := I.seqB q3
  obtain ⟨lts, rv4, p4⟩ := I.seqB q4
  have a1 := rv.length
  have a2 := rv2.length
  have a3 := rv3.length
  have a4 := rv4.length
  obtain ⟨n1, n2, n3, n4⟩ := Z.ne
  have D1 := drA (prog := X.prog) (w := X.w) b1 n1 its.toArray
  have D2 := drA (prog := X.prog) (w := X.w) b2 n2 jts.toArray
  have D3 := drA (prog := X.prog) (w := X.w) b3 n3 kts.toArray
  have D4 := drA (prog := X.prog) (w := X.w) b4 n4 lts.toArray
  rw [show jts.toArray.size = its.toArray.size by simp only [List.size_toArray]; omega] at D2
  rw [show kts.toArray.size = its.toArray.size by simp only [List.size_toArray]; omega] at D3
  rw [show lts.toArray.size = its.toArray.size by simp only [List.size_toArray]; omega] at D4
  have W := Y7 (I.ok.hd hc) Z D1 D2 D3 D4
  obtain ⟨s1, s2, s3, s4, s5, s6, s7⟩ := st
  have ei : i = its.toArray.size := by simp only [List.size_toArray]; omega
  subst ei
  refine W.done s _ _ ⟨s1, s2, s3, ⟨s4, p1⟩, ⟨s5, p2⟩, ⟨s6, p3⟩, ⟨s7, p4⟩⟩ fun h' tk kk => ⟨rfl, ?_⟩
  exact I.turnMany (ch := [z, TO, i1, i2, i3, i4]) (fun c hc => hf c (by simp at hc ⊢; rcases hc with rfl | rfl | rfl | rfl | rfl | rfl <;> simp)) fun c o hc e => kk c o hc e
 self := fun _ _ _ _ _ st h => wpAny_pyIter_zip st.1 h
def iZip4 (K : PySem.W.Frag) (b1 b2 b3 b4 : Bool) (ta : TA) : TI := fun σ H R => ta σ H fun vs H1 => ∃ a b c d, vs = [.ref a, .ref b, .ref c, .ref d] ∧ (∃ xs, SqB K H1 a b1 xs) ∧ (∃ ys, SqB K H1 b b2 ys) ∧ (∃ us, SqB K H1 c b3 us) ∧ (∃ ws, SqB K H1 d b4 ws) ∧ R (ItZ4 K a b c d b1 b2 b3 b4) H1
theorem Yy {X : Cx} {elts : List Expr} {kt : Nat} {pt : Pos} {a b c d : Expr} {ta : TA} {p pos : Pos} (b1 b2 b3 b4 : Bool) (hg : Gl X "zip") (hm : X.mg "zip" = none) (ha : PA X [a, b, c, d] ta) (hs : starEach [a, b, c, d] X.env = [(false, eval a X.env), (false, eval b X.env), (false, eval c X.env), (false, eval d X.env)] := by rfl) (hs2 : starEach [b, c, d] X.env = [(false, eval b X.env), (false, eval c X.env), (false, eval d X.env)] := by rfl) :
  PI X (.Tuple elts kt pt) (.Call (.Name "zip" p) [a, b, c, d] [] pos) (iZip4 X.K b1 b2 b3 b4 ta) := by
 intro pins s σ H R I h
 refine Call_ (Jnx I hg hm Jyi (PyProof.Rows.callWith_type1 (thn (ha pos pins s σ H _ I h) fun us s1 ⟨vs, H1, I1, r1, q1⟩ => ?_) (by rw [hs, hs2]) (by rw [hs2]; rfl)))
 obtain ⟨l1, l2, l3, l4, rfl, ⟨xs, q1⟩, ⟨ys, q2⟩, ⟨zs, q3⟩, ⟨ws, q4⟩, q⟩ := q1
 obtain ⟨u, v, y, z, rfl, r1, r2, r3, r4⟩ : ∃ u v y z, us = [u, v, y, z] ∧ RelV (.ref l1) u ∧ RelV (.ref l2) v ∧ RelV (.ref l3) y ∧ RelV (.ref l4) z := by
  cases r1 with
  | cons a1 t1 =>
   cases t1 with
   | cons a2 t2 =>
    cases t2 with
    | cons a3 t3 =>
     cases t3 with
     | cons a4 t4 =>
      cases t4
      exact ⟨_, _, _, _, rfl, a1, a2, a3, a4⟩
 obtain rfl : u = Value.ref l1 := r1
 obtain rfl : v = Value.ref l2 := r2
 obtain rfl : y = Value.ref l3 := r3
 obtain rfl : z = Value.ref l4 := r4
 obtain ⟨its, rv, p1⟩ := I1.seqB q1
 obtain ⟨jts, rv2, p2⟩ := I1.seqB q2
 obtain ⟨kts, rv3, p3⟩ := I1.seqB q3
 obtain ⟨lts, rv4, p4⟩ := I1.seqB q4
 have a1 := p1.lt
 have a2 := p2.lt
 have a3 := p3.lt
 have a4 := p4.lt
 refine Jxk p1 p2 p3 p4 fun h' z1 z2 z3 z4 z5 z6 z7 kk => ?_
 have I2 : Inv X pins σ H1 { s1 with heap := h' } := I1.kept (t' := s1.toks) kk
 have ap : Z4 (s1.heap.objs.size + 6) (s1.heap.objs.size + 4) (s1.heap.objs.size + 5) s1.heap.objs.size (s1.heap.objs.size + 1) (s1.heap.objs.size + 2) (s1.heap.objs.size + 3) l1 l2 l3 l4 := by
  generalize hN : s1.heap.objs.size = N at *
  have big : ∀ l : Addr, l < N → l ∉ [N + 6, N + 4, N + 5, N, N + 1, N + 2, N + 3] := fun l hl hm => by
   simp only [List.mem_cons, List.not_mem_nil, or_false] at hm
   have le : N ≤ l := by rcases hm with rfl | rfl | rfl | rfl | rfl | rfl | rfl <;> first | exact Nat.le_refl _ | exact Nat.le_add_right _ _
   exact Nat.not_lt.mpr le hl
  exact ⟨by simp, big _ a1, big _ a2, big _ a3, big _ a4⟩
 refine wpAny_pyIter_zip z1 ⟨_, _, _, _, H1, rfl, I2, Jyd _ _ _ _ _ _ _ l1 l2 l3 l4 b1 b2 b3 b4 ap, ⟨z1, z2, ⟨_, _, _, _, z3⟩, z4, z5, z6, z7⟩, fun d hd => ?_, q⟩
 have hd' : s1.heap.objs.size ≤ d := by
  simp only [List.mem_cons, List.not_mem_nil, or_false] at hd
  rcases hd with rfl | rfl | rfl | rfl | rfl | rfl | rfl <;> omega
 exact I1.fpOk hd' (I1.hok.fresh hd')
section
variable {K : PySem.W.Frag} {g : TG} {σ : St} {H : Hp}
theorem Jxn {l1 l2 l3 l4 D : Addr} {b1 b2 b3 b4 : Bool} {xs ys us vs : List V} {tt : TT} {te : TE} {R : Hp → Prop} (Pv : Nat → St → Hp → Prop) (h0 : Pv 0 σ H) (hl : ∀ i σ H, i ≤ xs.length → Pv i σ H → SqB K H l1 b1 xs ∧ SqB K H l2 b2 ys ∧ SqB K H l3 b3 us ∧ SqB K H l4 b4 vs) (e1 : xs.length = ys.length) (e2 : xs.length = us.length) (e3 : xs.length = vs.length)
  (hs : ∀ i x y u v σ H T, xs[i]? = some x → ys[i]? = some y → us[i]? = some u → vs[i]? = some v → Pv i σ H → H T = none → g (.ref T) σ (upd H T (.tup [x, y, u, v])) fun σ3 H3 => tt σ3 H3 fun b H4 => if b = true then te σ3 H4 (fun v H5 => ∃ vs, H5 D = some (.lst vs) ∧ vs.length < sizeLine ∧ Pv (i + 1) σ3 (upd H5 D (.lst (vs ++ [v])))) else Pv (i + 1) σ3 H4)
  (hd : ∀ σ H, Pv xs.length σ H → R H) :
  ∃ W : Nat → Nat → St → Hp → Prop, (∃ m, W 0 m σ H) ∧ ∀ i m σ' H', W i m σ' H' → ((ItZ4 K l1 l2 l3 l4 b1 b2 b3 b4).stop i H' ∧ R H') ∨ ((ItZ4 K l1 l2 l3 l4 b1 b2 b3 b4).go i H' ∧ ∃ N : St → Hp → Prop, (∀ σ2 H2, N σ2 H2 → ∃ m', m' < m ∧ W (i + 1) m' σ2 H2) ∧
   ∀ x H2, (ItZ4 K l1 l2 l3 l4 b1 b2 b3 b4).yld i H' x H2 → g x σ' H2 fun σ3 H3 => tt σ3 H3 fun b H4 => if b = true then te σ3 H4 (fun v H5 => ∃ vs, H5 D = some (.lst vs) ∧ vs.length < sizeLine ∧ N σ3 (upd H5 D (.lst (vs ++ [v])))) else N σ3 H4) := by
 refine ⟨fun i m σ H => m = xs.length - i ∧ i ≤ xs.length ∧ Pv i σ H, ⟨xs.length, by simp, Nat.zero_le _, h0⟩, ?_⟩
 rintro i m σ H ⟨rfl, hi, p⟩
 obtain ⟨q1, q2, q3, q4⟩ := hl i σ H hi p
 by_cases hlt : i < xs.length
 ·refine .inr ⟨⟨xs, ys, us, vs, q1, q2, q3, q4, e1, e2, e3, hlt⟩, Pv (i + 1), fun σ' H' p' => ⟨xs.length - (i + 1), by omega, rfl, hlt, p'⟩, fun x H' y => ?_⟩
  obtain ⟨T, u, v, w', x', hT, rfl, hu, hv, hw, hx, rfl⟩ := y
  exact hs i u v w' x' σ _ T (hu xs q1) (hv ys q2) (hw us q3) (hx vs q4) p hT
 ·have e : i = xs.length := by omega
  subst e
  exact .inl ⟨⟨xs, ys, us, vs, q1, q2, q3, q4, e1, e2, e3, rfl⟩, hd σ H p⟩
theorem turn4 {i j k l : Nat} {T : Addr} {x y u v : V} {σ : L2.St} {H : Hp} {A B : L2.St → Hp → Prop} (hT : SqT K H T [x, y, u, v]) (h : A ((((σ.set i (some x)).set j (some y)).set k (some u)).set l (some v)) H) :
  gTup K 4 (Jqu (Jnr i) (Jqu (Jnr j) (Jqu (Jnr k) (Jqu (Jnr l) gNil)))) (.ref T) σ H fun σ3 H3 => Jwj σ3 H3 fun b H4 => if b = true then A σ3 H4 else B σ3 H4 := by
 refine ⟨T, _, rfl, hT, rfl, _, _, rfl, _, _, rfl, _, _, rfl, _, _, rfl, rfl, ?_⟩
 show if true = true then A ((((σ.set i (some x)).set j (some y)).set k (some u)).set l (some v)) H else B ((((σ.set i (some x)).set j (some y)).set k (some u)).set l (some v)) H
 rw [if_pos rfl]
 exact h
end
end L2
namespace L2
open PySem PySem.Spec PyProof.Rows PySem.W
theorem Jxx {X : Cx} {P : Program} {w : World} {K : PySem.W.Frag} {mg : Str → Option Value} {base : Heap} {o e : Expr} {es : List Expr} {m : Str} {ta : TE} {t : TA} {apos pos : Pos} {j : Nat} {pl : Sem Bool} (h1 : X.prog = P) (h2 : X.w = w) (h3 : X.K = K) (h4 : X.mg = mg) (h5 : X.base = base) (he : PE X o ta) (hr : Room j X.A) (ha : PA X (e :: es) t)
  (hst : starEach (e :: es) X.env = (false, eval e X.env) :: starEach es X.env := by rfl) (hpl : (backTo pos (starEach es X.env)).any (·.1) = false := by rfl)
  (ht : eval (.Call (.Attribute o m apos) (e :: es) [] pos) X.env = (do
   let ov ← eval o X.env
   standAt apos.atName
   let (f, first) ← holding [ov] (getMethod ov m pl)
   callWith pos f first (backTo pos (starEach (e :: es) X.env)) (backToKw pos (keywordEach [] X.env))) := by rfl) :
  PE X (.Call (.Attribute o m apos) (e :: es) [] pos) (Juq P w K mg base j m ta t) := by
 subst h1 h2 h3 h4 h5
 exact Jpw (pl := pl) he hr ha hst hpl ht
end L2
namespace L2
open PySem PySem.Spec PyProof.Rows PySem.W
def rGetL (K : PySem.W.Frag) : V → V → Hp → VK → Prop := fun x y H Q => ∃ p xs i v, x = .ref p ∧ y = .int i ∧ SqL K H p xs ∧ 0 ≤ i ∧ atI xs i = some v ∧ Q v H
theorem Jyu {X : Cx} : PGet X (rGetL X.K) := by
 intro pins s σ H x y v u Q I rx ry h
 obtain ⟨p, xs, i, z, rfl, rfl, hq, h0, he, q⟩ := h
 cases rx
 obtain ⟨t, rfl⟩ := ry
 obtain ⟨its, r, pl, hz⟩ := I.list hq
 obtain ⟨j, h1, h2, h3, h4, h5⟩ := Jrb he
 obtain ⟨w, ew, rw'⟩ := r.get h2
 have hl := r.length
 have hn := Jpb
 have hj : i.toNat = j := by
  rw [seqIndex_of h0 h5] at h1
  exact Option.some.inj h1
 exact wpAny_getItem_list pl.isList h0 (by omega) (by rw [hj]; simpa using ew) ⟨z, H, I, rw', q⟩
end L2
namespace L2
open PySem PySem.Spec PyProof.Rows PySem.W
def SameD (K : PySem.W.Frag) (H : Hp) (x y : V) (b : Bool) : Prop := SameOr x y b ∨ ∃ d e, DatV K H x d ∧ DatV K H y e ∧ SeqAt.shaped d = true ∧ SeqAt.shaped e = true ∧ PyData.eqv d e = b
def rEqTD (K : PySem.W.Frag) : R2 := fun x y H Q => ∃ (p q : Addr) (xs ys : List V) (bs : List Bool), x = .ref p ∧ y = .ref q ∧ SqT K H p xs ∧ SqT K H q ys ∧ xs.length = ys.length ∧ bs.length = xs.length ∧
 (∀ (i : Nat) x y b, xs[i]? = some x → ys[i]? = some y → bs[i]? = some b → SameD K H x y b) ∧ Q (.bl (bs.all id)) H
section
variable {X : Cx}
theorem Jyx {A : Around} {k : Nat} (hr : Room k A) : A.units + 100 < cLine := by have := hr.un; omega
theorem Yt (hu : X.A.units + 100 < cLine) : OpR X (compareOp .Eq) (rEqTD X.K) := by
 rintro pins s σ H x y v u Q I rx ry ⟨p, q, xs, ys, bs, rfl, rfl, h1, h2, l1, l2, hs, k⟩
 obtain rfl : v = Value.ref p := rx
 obtain rfl : u = Value.ref q := ry
 obtain ⟨its, r1, p1, _⟩ := I.tuple h1
 obtain ⟨jts, r2, p2, _⟩ := I.tuple h2
 have hu' : X.A.in1.units + 64 < cLine := by show X.A.units + 1 + 64 < cLine; omega
 have e1 := r1.length
 have e2 := r2.length
 refine SeqAt.eq_tupleAt (e := fun j => bs.getD j false) p1 p2 (by omega) (fun j j1 j2 => ?_) ⟨.bl _, H, I, rfl, ?_⟩
 ·simp only [List.size_toArray] at j1 j2
  have a1 : xs[j]? = some xs[j] := List.getElem?_eq_getElem (by omega)
  have a2 : ys[j]? = some ys[j] := List.getElem?_eq_getElem (by omega)
  have a3 : bs[j]? = some bs[j] := List.getElem?_eq_getElem (by omega)
  obtain ⟨u, hu1, ru⟩ := r1.get a1
  obtain ⟨w', hw1, rw'⟩ := r2.get a2
  have b1 : its.toArray[j] = u := by simpa [List.getElem?_eq_getElem j1] using hu1
  have b2 : jts.toArray[j] = w' := by simpa [List.getElem?_eq_getElem j2] using hw1
  have b3 : bs.getD j false = bs[j] := by simp [List.getD, a3]
  rw [b1, b2, b3]
  rcases hs j _ _ _ a1 a2 a3 with h | ⟨d, e, hd, he, sd, se, eb⟩
  ·exact h.at ru rw'
  ·obtain ⟨as, ra⟩ := hd.reads I ru
   obtain ⟨cs, rb⟩ := he.reads I rw'
   rw [← eb]
   exact keq_at ra rb sd se hu'
 ·have e : ((List.range its.toArray.size).all fun j => bs.getD j false) = bs.all id := by
   simp only [List.size_toArray]
   rw [show its.length = bs.length by omega, Bool.eq_iff_iff, List.all_eq_true, List.all_eq_true]
   constructor
   ·intro h b hb
    obtain ⟨j, hj, rfl⟩ := List.getElem_of_mem hb
    have := h j (List.mem_range.mpr hj)
    simpa [List.getD, List.getElem?_eq_getElem hj] using this
   ·intro h j hj
    have hj' := List.mem_range.mp hj
    have := h bs[j] (List.getElem_mem hj')
    simpa [List.getD, List.getElem?_eq_getElem hj'] using this
  have e3 : ((List.range (min its.toArray.size jts.toArray.size)).all (fun j => bs.getD j false) && its.toArray.size == jts.toArray.size) = bs.all id := by
   rw [show min its.toArray.size jts.toArray.size = its.toArray.size by simp only [List.size_toArray]; omega, e, show (its.toArray.size == jts.toArray.size) = true by simp only [List.size_toArray, beq_iff_eq]; omega, Bool.and_true]
  rw [e3]
  exact k
end
end L2
namespace L2
open PySem PySem.Spec PyProof.Rows PySem.W
section
variable {X : Cx}
end
end L2
namespace L2
open PySem PySem.Spec PyProof.Rows PySem.W
theorem ft_mk {K : PySem.W.Frag} {h : Heap} {mg : Str → Option Value} (X : K.In h) (G : h.Ns mainGlobals mg) {q : Str} {st : Stmt} {ps : List Str} {f : Addr} {od an : Option Addr} {sl : Array (Option Value)} {oc kV dc pm cd ct : Value} (a : PySem.W.nsIn K mainGlobals q = some (some (.ref f)))
  (l : K.lookup f = some ⟨oc, od, .func (PySem.W.fnOf q q (Jmz st) (Jmm st) (Jkt st) .none kV dc pm an cd ct), sl⟩) (c : PySem.W.codeIn K cd q = true) (k : PySem.W.keepIn K (.ref f) = true)
  (hb : ∀ (kV doc pm : Value) (an : Option Addr) (cdv ct : Value) (us : List Value), us.length = ps.length → bindArgs (PySem.W.fnOf q q (Jmz st) (Jmm st) (Jkt st) .none kV doc pm an cdv ct) ⟨us, []⟩ = pure (ps.zip us)) : FT K mg q st ps f (PySem.W.fnOf q q (Jmz st) (Jmm st) (Jkt st) .none kV dc pm an cd ct) :=
 ⟨PySem.W.mg_of X G a, Ju3 (st := st) l c k, (Ju3 (st := st) l c k).binds hb⟩
theorem fm_mk {K : PySem.W.Frag} {n q : Str} {st : Stmt} {ps : List Str} {f : Addr} {od an : Option Addr} {sl : Array (Option Value)} {oc kV dc pm cd ct : Value}
  (l : K.lookup f = some ⟨oc, od, .func (PySem.W.fnOf n q (Jmz st) (Jmm st) (Jkt st) .none kV dc pm an cd ct), sl⟩) (c : PySem.W.codeIn K cd q = true) (k : PySem.W.keepIn K (.ref f) = true)
  (hb : ∀ (kV doc pm : Value) (an : Option Addr) (cdv ct : Value) (us : List Value), us.length = ps.length → bindArgs (PySem.W.fnOf n q (Jmz st) (Jmm st) (Jkt st) .none kV doc pm an cdv ct) ⟨us, []⟩ = pure (ps.zip us)) : FM K n q st ps f (PySem.W.fnOf n q (Jmz st) (Jmm st) (Jkt st) .none kV dc pm an cd ct) :=
 ⟨Ju3 (st := st) l c k, (Ju3 (st := st) l c k).binds hb⟩
theorem xc_mk {K : PySem.W.Frag} {C W fI : Addr} {nm q : Str} {N : Addr} {bs : List Value} {sn : List Str} {sub : List Value} {ab : Bool} {col : Option Bool} {dd : Option Addr} {u v w x y : Option Value}
  (l : K.lookup C = some (excClassObj nm q C N bs (.ref W :: VEm) true sn sub ab col dd u v w x y "ValueError.__new__")) (t : PySem.W.tailIn K VEm (.ref W :: VEm) = true) (a : xcB K C fI = true) : XCls K C W fI := ⟨⟨_, _, _, _, _, _, _, _, _, _, _, _, _, _, l⟩, t, a⟩
theorem ec_mk {K : PySem.W.Frag} {C : Addr} {dd : Option Addr} {cl : ClassData} {s : Array (Option Value)} (l : K.lookup C = some ⟨.type "type", dd, .cls cl, s⟩) (m : PySem.W.mroIn K C (.type "BaseException") = some true) : Jvm K C := ⟨⟨_, _, _, l⟩, m⟩
end L2

namespace K13
open PySem L2 PyProof.Rows PySem.NumText
def top (i : Nat) : Stmt := PySem.Challenge.pw_weirwatch_k13_turns_refused.main.body.getD i (.Pass ⟨0, 0, 0, 0⟩)
structure Ad where
 Jfo : Addr
 Jfp : FuncData
 Jfq : Addr
 Jfr : FuncData
 Jfs : Addr
 Jft : FuncData
 Jfu : Addr
 Jfv : FuncData
 Jfw : Addr
 Jfx : FuncData
 Jfy : Addr
 Jfz : FuncData
 Jg0 : Addr
 Jg1 : FuncData
 Jg2 : Addr
 Jg3 : FuncData
 Jg4 : Addr
 Jg5 : FuncData
 Jg6 : Addr
 Jg7 : FuncData
 Jg8 : Addr
 Jg9 : FuncData
 Jga : Addr
 Jgb : FuncData
 Jgc : Addr
 Jgd : FuncData
 Jge : Addr
 Jgf : FuncData
 Jgg : Addr
 Jgh : FuncData
 Jgi : Addr
 Jgj : FuncData
 Jgk : Addr
 Jgl : FuncData
 Jgm : Addr
 Jgn : FuncData
 Jgo : Addr
 Jgp : FuncData
 Jgq : Addr
 Jgr : FuncData
 Jgs : Addr
 Jgt : FuncData
 Jgu : Addr
 Jgv : FuncData
 Jgw : Addr
 Jgx : FuncData
 Jgy : Addr
 Jgz : FuncData
 Jh0 : Addr
 Jh1 : FuncData
 Jh2 : Addr
 Jh3 : FuncData
 Jh4 : Addr
 Jh5 : FuncData
 Jh6 : Addr
 Jh7 : FuncData
 Jh8 : Addr
 Jh9 : FuncData
 Jha : Addr
 Jhb : FuncData
 Jhc : Addr
 Jhd : FuncData
 Jhe : Addr
 Jhf : FuncData
 Jhg : Addr
 Jhh : FuncData
 Jhi : Addr
 Jhj : FuncData
 Jhk : Addr
 Jhl : FuncData
 Jhm : Addr
 Jhn : FuncData
 Jho : Addr
 Jhp : FuncData
 Jhq : Addr
 Jhr : FuncData
 Jhs : Addr
 Jht : FuncData
 Jhu : Addr
 Jhv : FuncData
 Jhw : Addr
 Jhx : FuncData
 Jhy : Addr
 Jhz : FuncData
 Ji0 : Addr
 Ji1 : FuncData
 Ji2 : Addr
 Ji3 : FuncData
 Ji4 : Addr
 Ji5 : FuncData
 Ji6 : Addr
 Ji7 : FuncData
 Ji8 : Addr
 Ji9 : FuncData
 Jia : Addr
 Jib : FuncData
 Jic : Addr
 Jid : FuncData
 Jie : Addr
 Jif : FuncData
 Jig : Addr
 Jih : FuncData
 Jii : Addr
 Jij : FuncData
 Jik : Addr
 Jil : FuncData
 Jim : Addr
 Jin : FuncData
 Jio : Addr
 Jip : FuncData
 Jiq : Addr
 Jir : FuncData
 Jis : Addr
 Jit : FuncData
 Jiu : Addr
 Jiv : FuncData
 Jiw : Addr
 Jix : FuncData
 Jiy : Addr
 Jiz : FuncData
 Jj0 : Addr
 Jj1 : FuncData
 Jj2 : Addr
 Jj3 : FuncData
 Jj4 : Addr
 Jj5 : FuncData
 Jj6 : Addr
 Jj7 : FuncData
 Jj8 : Addr
 Jj9 : FuncData
 Jja : Addr
 Jjb : FuncData
 Jjc : Addr
 Jjd : FuncData
 Jje : Addr
 Jjf : FuncData
 Jjg : Addr
 Jjh : FuncData
 Jji : Addr
 Jjj : FuncData
 Jjk : Addr
 Jjl : FuncData
 Jjm : Addr
 Jjn : FuncData
 Jjo : Addr
 Jjp : FuncData
 Jjq : Addr
 Jjr : FuncData
 a_law : Addr
 d_law : FuncData
 Jjs : Tok
 Jjt : Tok
 Jju : Tok
 Jjv : Tok
 Jjw : Tok
 Jjx : Tok
 Jjy : Tok
 Jjz : Tok
 Jk0 : Tok
 Jk1 : Tok
 Jk2 : Tok
 Jk3 : Addr
 Jk4 : Addr
 Jk5 : Addr
 Jk6 : Addr
 Jk7 : Addr
 Jk8 : Addr
 Jk9 : Addr
 Jka : Addr
 Jkb : Addr
 Jkc : Addr
 Jkd : Addr
 Jke : Addr
 Jkf : Addr
 Jkg : Addr
 Jkh : Addr
 Jki : Addr
 Jkj : Addr
 Jkk : Addr
 Jkl : Addr
 Jkm : Addr
structure Tx (K : W.Frag) (mg : Str → Option Value) (a : Ad) : Prop where
 J0 : FT K mg "is_whole" (top 16) ["thing", "low", "high"] a.Jg8 a.Jg9
 J1 : FT K mg "is_made_of" (top 17) ["text", "signs"] a.Jga a.Jgb
 J2 : FT K mg "is_name" (top 18) ["thing"] a.Jgc a.Jgd
 J3 : FT K mg "is_row" (top 20) ["thing", "lows", "highs"] a.Jge a.Jgf
 J4 : FT K mg "is_row_up_to" (top 21) ["thing", "highs"] a.Jgg a.Jgh
 J5 : FT K mg "is_pair" (top 22) ["thing"] a.Jgi a.Jgj
 J6 : FT K mg "is_standing" (top 23) ["river", "thing"] a.Jgk a.Jgl
 J7 : FT K mg "is_choice" (top 24) ["river", "thing"] a.Jgm a.Jgn
 J8 : FT K mg "forced_rain" (top 25) ["river", "wet"] a.Jgo a.Jgp
 J9 : FT K mg "is_rain" (top 26) ["river", "standing", "thing"] a.Jgq a.Jgr
 Ja : FT K mg "refuse_no_choice" (top 27) ["river", "standing", "choice"] a.Jgs a.Jgt
 Jb : FT K mg "place_drawn_from" (top 28) ["river", "town"] a.Jgu a.Jgv
 Jc : FT K mg "draw" (top 29) ["river", "standing", "choice"] a.Jgw a.Jgx
 Jd : FT K mg "paid_by" (top 30) ["river", "standing", "choice"] a.Jgy a.Jgz
 Je : FT K mg "levels_left" (top 31) ["river", "standing", "choice", "drawn"] a.Jh0 a.Jh1
 Jf : FT K mg "outs_at" (top 32) ["river", "settings", "levels"] a.Jh2 a.Jh3
 Jg : FT K mg "levels_behind" (top 33) ["left", "outs", "rain"] a.Jh4 a.Jh5
 Jh : FT K mg "broken_at" (top 34) ["river", "levels"] a.Jh6 a.Jh7
 Ji : FT K mg "turned" (top 36) ["river", "standing", "choice", "rain"] a.Jha a.Jhb
 Jj : FT K mg "are_marks" (top 41) ["thing", "lowest"] a.Jhc a.Jhd
 Jk : FT K mg "kept_marks" (top 42) ["marks", "lowest"] a.Jhe a.Jhf
 Jl : FT K mg "refuse_no_level" (top 56) ["thing", "low", "high"] a.Ji6 a.Ji7
 Jm : FT K mg "are_unlike" (top 59) ["names"] a.Jic a.Jid
 Jn : FT K mg "are_basins" (top 60) ["thing"] a.Jie a.Jif
 Jo : FT K mg "are_towns" (top 61) ["thing", "basins"] a.Jig a.Jih
 Jp : FT K mg "_law_cell" (top 64) ["_law_script", "_law_k"] a.Jim a.Jin
 Jq : FT K mg "_law_stream" (top 65) ["_law_cell_here"] a.Jio a.Jip
 Jr : FT K mg "_law_take" (top 66) ["_law_stream_here", "_law_many"] a.Jiq a.Jir
 Js : FT K mg "_law_names" (top 67) ["_law_stream_here", "_law_many"] a.Jis a.Jit
 Jt : FT K mg "_law_gate" (top 68) ["_law_stream_here"] a.Jiu a.Jiv
 Ju : FT K mg "_law_basin" (top 69) ["_law_stream_here", "_law_name"] a.Jiw a.Jix
 Jv : FT K mg "_law_river" (top 70) ["_law_cell_here"] a.Jiy a.Jiz
 Jw : FT K mg "_law_made_gate" (top 71) ["_law_told"] a.Jj0 a.Jj1
 Jx : FT K mg "_law_made" (top 72) ["_law_told"] a.Jj2 a.Jj3
 Jy : FT K mg "_law_settings" (top 73) ["_law_gate_here"] a.Jj4 a.Jj5
 Jz : FT K mg "_law_standing" (top 74) ["_law_stream_here", "_law_told"] a.Jj6 a.Jj7
 Ja0 : FT K mg "_law_choice" (top 75) ["_law_stream_here", "_law_told"] a.Jj8 a.Jj9
 Ja1 : FT K mg "_law_forced" (top 76) ["_law_told", "_law_wet"] a.Jja a.Jjb
 Ja2 : FT K mg "_law_raised" (top 77) ["_law_told", "_law_wet", "_law_row"] a.Jjc a.Jjd
 Ja3 : FT K mg "_law_rain" (top 78) ["_law_stream_here", "_law_told", "_law_wet"] a.Jje a.Jjf
 Ja4 : FT K mg "_law_spoilt" (top 79) ["_law_stream_here", "_law_thing"] a.Jjg a.Jjh
 Ja5 : FT K mg "_law_pair_spoilt" (top 80) ["_law_stream_here", "_law_pair"] a.Jji a.Jjj
 Ja6 : FT K mg "_law_kinds" (top 81) ["_law_e"] a.Jjk a.Jjl
 Ja7 : FT K mg "_law_outcome" (top 82) ["_law_river_here", "_law_standing_here", "_law_choice_here", "_law_rain_here", "_law_many"] a.Jjm a.Jjn
 Ja8 : FT K mg "_law_due" (top 83) ["_law_river_here", "_law_standing_here", "_law_choice_here", "_law_rain_here", "_law_many"] a.Jjo a.Jjp
 Ja9 : FT K mg "_law_alike" (top 84) ["_law_found", "_law_due_here"] a.Jjq a.Jjr
 f_law : FT K mg "law" (top 85) ["_law_script"] a.a_law a.d_law
 Jaa : mg "LETTERS" = some (.str "abcdefghijklmnopqrstuvwxyz" a.Jjs)
 Jab : mg "MOST_LETTERS" = some (.int 8 a.Jjt)
 Jac : mg "MOST_SETTINGS" = some (.int 4 a.Jju)
 Jad : mg "HIGHEST_MARK" = some (.int 12 a.Jjv)
 Jae : mg "HIGHEST_LEVEL" = some (.int 1000 a.Jjw)
 Jaf : mg "HIGHEST" = some (.int 12 a.Jjx)
 Jag : mg "MOST_RAIN" = some (.int 6 a.Jjy)
 Jah : mg "MOST_WANT" = some (.int 6 a.Jjz)
 Jai : mg "MOST_CLOUD" = some (.int 12 a.Jk0)
 Jaj : mg "MOST_BASINS" = some (.int 16 a.Jk1)
 Jak : mg "MOST_TOWNS" = some (.int 3 a.Jk2)
 Jal : mg "ValueError" = none
 Jam : mg "all" = none
 Jan : mg "bool" = none
 Jao : mg "enumerate" = none
 Jap : mg "int" = none
 Jaq : mg "isinstance" = none
 Jar : mg "len" = none
 Jas : mg "list" = none
 Jat : mg "max" = none
 Jau : mg "min" = none
 Jav : mg "range" = none
 Jaw : mg "set" = none
 Jax : mg "str" = none
 Jay : mg "sum" = none
 Jaz : mg "tuple" = none
 Jb0 : mg "zip" = none
 Jb1 : mg "WeirError" = some (.ref a.Jk3)
 Jb2 : mg "NoName" = some (.ref a.Jk4)
 Jb3 : mg "NoGate" = some (.ref a.Jk5)
 Jb4 : mg "NoBasin" = some (.ref a.Jk6)
 Jb5 : mg "NoTown" = some (.ref a.Jk7)
 Jb6 : mg "NoCloud" = some (.ref a.Jk8)
 Jb7 : mg "NoRiver" = some (.ref a.Jk9)
 Jb8 : mg "NoStanding" = some (.ref a.Jka)
 Jb9 : mg "NoChoice" = some (.ref a.Jkb)
 Jba : mg "NoRain" = some (.ref a.Jkc)
 Jbb : mg "NoNumber" = some (.ref a.Jkd)
 Jbc : mg "Turn" = some (.ref a.Jke)
 Jbd : mg "Gate" = some (.ref a.Jkf)
 Jbe : mg "StepGate" = some (.ref a.Jkg)
 Jbf : mg "FlapGate" = some (.ref a.Jkh)
 Jbg : mg "PartGate" = some (.ref a.Jki)
 Jbh : mg "StuckGate" = some (.ref a.Jkj)
 Jbi : mg "Basin" = some (.ref a.Jkk)
 Jbj : mg "Town" = some (.ref a.Jkl)
 Jbk : mg "River" = some (.ref a.Jkm)
 Jbl : FM K "__init__" "NoName.__init__" (Jkx (top 3) 0) ["self", "thing"] a.Jfo a.Jfp
 Jbm : FM K "__init__" "NoGate.__init__" (Jkx (top 4) 0) ["self", "thing"] a.Jfq a.Jfr
 Jbn : FM K "__init__" "NoBasin.__init__" (Jkx (top 5) 0) ["self", "thing"] a.Jfs a.Jft
 Jbo : FM K "__init__" "NoTown.__init__" (Jkx (top 6) 0) ["self", "thing"] a.Jfu a.Jfv
 Jbp : FM K "__init__" "NoCloud.__init__" (Jkx (top 7) 0) ["self", "thing"] a.Jfw a.Jfx
 Jbq : FM K "__init__" "NoRiver.__init__" (Jkx (top 8) 0) ["self", "thing"] a.Jfy a.Jfz
 Jbr : FM K "__init__" "NoStanding.__init__" (Jkx (top 9) 0) ["self", "thing"] a.Jg0 a.Jg1
 Jbs : FM K "__init__" "NoChoice.__init__" (Jkx (top 10) 0) ["self", "thing"] a.Jg2 a.Jg3
 Jbt : FM K "__init__" "NoRain.__init__" (Jkx (top 11) 0) ["self", "thing"] a.Jg4 a.Jg5
 Jbu : FM K "__init__" "NoNumber.__init__" (Jkx (top 12) 0) ["self", "thing"] a.Jg6 a.Jg7
 Jbv : FM K "__init__" "Turn.__init__" (Jkx (top 35) 0) ["self", "river", "standing", "choice", "rain"] a.Jh8 a.Jh9
 Jbw : FM K "lets" "Gate.lets" (Jkx (top 44) 0) ["self", "setting", "level"] a.Jhg a.Jhh
 Jbx : FM K "__init__" "StepGate.__init__" (Jkx (top 45) 0) ["self", "marks"] a.Jhi a.Jhj
 Jby : FM K "settings" "StepGate.settings" (Jkx (top 45) 1) ["self"] a.Jhk a.Jhl
 Jbz : FM K "passes" "StepGate.passes" (Jkx (top 45) 2) ["self", "setting", "level"] a.Jhm a.Jhn
 Jc0 : FM K "__init__" "FlapGate.__init__" (Jkx (top 46) 0) ["self", "marks"] a.Jho a.Jhp
 Jc1 : FM K "settings" "FlapGate.settings" (Jkx (top 46) 1) ["self"] a.Jhq a.Jhr
 Jc2 : FM K "passes" "FlapGate.passes" (Jkx (top 46) 2) ["self", "setting", "level"] a.Jhs a.Jht
 Jc3 : FM K "__init__" "PartGate.__init__" (Jkx (top 47) 0) ["self", "marks"] a.Jhu a.Jhv
 Jc4 : FM K "settings" "PartGate.settings" (Jkx (top 47) 1) ["self"] a.Jhw a.Jhx
 Jc5 : FM K "passes" "PartGate.passes" (Jkx (top 47) 2) ["self", "setting", "level"] a.Jhy a.Jhz
 Jc6 : FM K "__init__" "StuckGate.__init__" (Jkx (top 48) 0) ["self", "gate", "setting"] a.Ji0 a.Ji1
 Jc7 : FM K "settings" "StuckGate.settings" (Jkx (top 48) 1) ["self"] a.Ji2 a.Ji3
 Jc8 : FM K "passes" "StuckGate.passes" (Jkx (top 48) 2) ["self", "setting", "level"] a.Ji4 a.Ji5
 Jc9 : FM K "__init__" "Basin.__init__" (Jkx (top 57) 0) ["self", "name", "low", "high", "start", "rain", "gate"] a.Ji8 a.Ji9
 Jca : FM K "__init__" "Town.__init__" (Jkx (top 58) 0) ["self", "name", "basin", "want"] a.Jia a.Jib
 Jcb : FM K "__init__" "River.__init__" (Jkx (top 62) 0) ["self", "cloud", "gain", "basins", "towns"] a.Jii a.Jij
 Jcc : FM K "place_of" "River.place_of" (Jkx (top 62) 1) ["self", "name"] a.Jik a.Jil
 Jcd : XCls K a.Jk4 a.Jk3 a.Jfo
 Jce : NoAttr K a.Jk4 "thing"
 Jcf : XCls K a.Jk5 a.Jk3 a.Jfq
 Jcg : NoAttr K a.Jk5 "thing"
 Jch : XCls K a.Jk6 a.Jk3 a.Jfs
 Jci : NoAttr K a.Jk6 "thing"
 Jcj : XCls K a.Jk7 a.Jk3 a.Jfu
 Jck : NoAttr K a.Jk7 "thing"
 Jcl : XCls K a.Jk8 a.Jk3 a.Jfw
 Jcm : XCls K a.Jk9 a.Jk3 a.Jfy
 Jcn : XCls K a.Jka a.Jk3 a.Jg0
 Jco : Jvm K a.Jka
 Jcp : NoAttr K a.Jka "thing"
 Jcq : XCls K a.Jkb a.Jk3 a.Jg2
 Jcr : Jvm K a.Jkb
 Jcs : NoAttr K a.Jkb "thing"
 Jct : XCls K a.Jkc a.Jk3 a.Jg4
 Jcu : Jvm K a.Jkc
 Jcv : NoAttr K a.Jkc "thing"
 Jcw : XCls K a.Jkd a.Jk3 a.Jg6
 Jcx : Cls K a.Jke
 Jcy : Mk K a.Jke a.Jh8
 Jcz : NoAttr K a.Jke "choice"
 Jd0 : NoAttr K a.Jke "rain"
 Jd1 : NoAttr K a.Jke "drawn"
 Jd2 : NoAttr K a.Jke "paid"
 Jd3 : NoAttr K a.Jke "outs"
 Jd4 : NoAttr K a.Jke "levels"
 Jd5 : NoAttr K a.Jke "wet"
 Jd6 : NoAttr K a.Jke "broken"
 Jd7 : Cls K a.Jkg
 Jd8 : YCls K a.Jkg
 Jd9 : Mk K a.Jkg a.Jhi
 Jda : Jmr K a.Jkg "lets" a.Jhg
 Jdb : Jmr K a.Jkg "settings" a.Jhk
 Jdc : Jmr K a.Jkg "passes" a.Jhm
 Jdd : NoAttr K a.Jkg "marks"
 Jde : Cls K a.Jkh
 Jdf : YCls K a.Jkh
 Jdg : Mk K a.Jkh a.Jho
 Jdh : Jmr K a.Jkh "lets" a.Jhg
 Jdi : Jmr K a.Jkh "settings" a.Jhq
 Jdj : Jmr K a.Jkh "passes" a.Jhs
 Jdk : NoAttr K a.Jkh "marks"
 Jdl : Cls K a.Jki
 Jdm : YCls K a.Jki
 Jdn : Mk K a.Jki a.Jhu
 Jdo : Jmr K a.Jki "lets" a.Jhg
 Jdp : Jmr K a.Jki "settings" a.Jhw
 Jdq : Jmr K a.Jki "passes" a.Jhy
 Jdr : NoAttr K a.Jki "marks"
 Jds : Cls K a.Jkj
 Jdt : YCls K a.Jkj
 Jdu : Mk K a.Jkj a.Ji0
 Jdv : Jmr K a.Jkj "lets" a.Jhg
 Jdw : Jmr K a.Jkj "settings" a.Ji2
 Jdx : Jmr K a.Jkj "passes" a.Ji4
 Jdy : NoAttr K a.Jkj "gate"
 Jdz : NoAttr K a.Jkj "setting"
 Je0 : Cls K a.Jkk
 Je1 : YCls K a.Jkk
 Je2 : Mk K a.Jkk a.Ji8
 Je3 : NoAttr K a.Jkk "name"
 Je4 : NoAttr K a.Jkk "low"
 Je5 : NoAttr K a.Jkk "high"
 Je6 : NoAttr K a.Jkk "start"
 Je7 : NoAttr K a.Jkk "rain"
 Je8 : NoAttr K a.Jkk "gate"
 Je9 : Cls K a.Jkl
 Jea : YCls K a.Jkl
 Jeb : Mk K a.Jkl a.Jia
 Jec : NoAttr K a.Jkl "name"
 Jed : NoAttr K a.Jkl "basin"
 Jee : NoAttr K a.Jkl "want"
 Jef : Cls K a.Jkm
 Jeg : Mk K a.Jkm a.Jii
 Jeh : Jmr K a.Jkm "place_of" a.Jik
 Jei : NoAttr K a.Jkm "cloud"
 Jej : NoAttr K a.Jkm "gain"
 Jek : NoAttr K a.Jkm "basins"
 Jel : NoAttr K a.Jkm "towns"
 Jem : W.kitOne K (.ref a.Jkg) (.ref a.Jkf) = some true
 Jen : W.kitOne K (.ref a.Jkh) (.ref a.Jkf) = some true
 Jeo : W.kitOne K (.ref a.Jki) (.ref a.Jkf) = some true
 Jep : W.kitOne K (.ref a.Jkj) (.ref a.Jkf) = some true
 Jeq : W.kitOne K (.ref a.Jkk) (.ref a.Jkk) = some true
 Jer : W.kitOne K (.ref a.Jkl) (.ref a.Jkl) = some true
 Jes : W.kitOne K (.ref a.Jkg) (.type "bool") = some false
 Jet : W.kitOne K (.ref a.Jkh) (.type "bool") = some false
 Jeu : W.kitOne K (.ref a.Jki) (.type "bool") = some false
 Jev : W.kitOne K (.ref a.Jkj) (.type "bool") = some false
 Jew : W.kitAny K (.ref a.Jkg) [.ref a.Jkg, .ref a.Jkh, .ref a.Jki, .ref a.Jkj] = some true
 Jex : W.kitAny K (.ref a.Jkh) [.ref a.Jkg, .ref a.Jkh, .ref a.Jki, .ref a.Jkj] = some true
 Jey : W.kitAny K (.ref a.Jki) [.ref a.Jkg, .ref a.Jkh, .ref a.Jki, .ref a.Jkj] = some true
 Jez : W.kitAny K (.ref a.Jkj) [.ref a.Jkg, .ref a.Jkh, .ref a.Jki, .ref a.Jkj] = some true
 Jf0 : W.kitOne K (.ref a.Jkg) (.ref a.Jkj) = some false
 Jf1 : W.kitOne K (.ref a.Jkh) (.ref a.Jkj) = some false
 Jf2 : W.kitOne K (.ref a.Jki) (.ref a.Jkj) = some false
 Jf3 : W.kitOne K (.ref a.Jka) (.ref a.Jka) = some true
 Jf4 : W.kitOne K (.ref a.Jka) (.ref a.Jkb) = some false
 Jf5 : W.kitOne K (.ref a.Jka) (.ref a.Jkc) = some false
 Jf6 : W.kitOne K (.ref a.Jkb) (.ref a.Jka) = some false
 Jf7 : W.kitOne K (.ref a.Jkb) (.ref a.Jkb) = some true
 Jf8 : W.kitOne K (.ref a.Jkb) (.ref a.Jkc) = some false
 Jf9 : W.kitOne K (.ref a.Jkc) (.ref a.Jka) = some false
 Jfa : W.kitOne K (.ref a.Jkc) (.ref a.Jkb) = some false
 Jfb : W.kitOne K (.ref a.Jkc) (.ref a.Jkc) = some true
 Jfc : W.kitOne K (.ref a.Jka) (.ref a.Jk3) = some true
 Jfd : W.kitOne K (.ref a.Jkb) (.ref a.Jk3) = some true
 Jfe : W.kitOne K (.ref a.Jkc) (.ref a.Jk3) = some true
 Jff : W.kitOne K (.ref a.Jka) (.type "ValueError") = some true
 Jfg : W.kitOne K (.ref a.Jkb) (.type "ValueError") = some true
 Jfh : W.kitOne K (.ref a.Jkc) (.type "ValueError") = some true
 Jfi : W.mroIn K a.Jka (.ref a.Jka) = some true
 Jfj : W.mroIn K a.Jkb (.ref a.Jka) = some false
 Jfk : W.mroIn K a.Jkb (.ref a.Jkb) = some true
 Jfl : W.mroIn K a.Jkc (.ref a.Jka) = some false
 Jfm : W.mroIn K a.Jkc (.ref a.Jkb) = some false
 Jfn : W.mroIn K a.Jkc (.ref a.Jkc) = some true
def Jm5 : Int → List V → Bool
 | _, [] => true
 | lo, .int i :: r => (decide (lo ≤ i) && decide (i ≤ 12)) && Jm5 (i + 1) r
 | _, _ :: _ => false
def Jo7 (lo : Int) (xs : List V) : Bool := decide (1 ≤ xs.length ∧ xs.length ≤ 4) && Jm5 lo xs
theorem Jqx (lo : Int) (x : V) (r : List V) : Jm5 lo (x :: r) = (Jl6 x lo 12 && match x with | .int i => Jm5 (i + 1) r | _ => false) := by
 cases x <;> simp [Jm5, Jl6]
inductive Sq (H : Hp) : V → List V → Prop where
 | lst {p : Addr} {xs : List V} : H p = some (.lst xs) → Sq H (.ref p) xs
 | tup {p : Addr} {xs : List V} : H p = some (.tup xs) → Sq H (.ref p) xs
theorem Sq.same {H H' : Hp} {x : V} {xs : List V} (s : Same H H') (h : Sq H x xs) : Sq H' x xs := by
 cases h with
 | lst e => exact .lst (s _ _ e)
 | tup e => exact .tup (s _ _ e)
theorem Sq.ty {K : W.Frag} {H : Hp} {x : V} {xs : List V} (h : Sq H x xs) : ∃ t, TyX K H x t ∧ tpB t = true ∧ W.kitAny K t [.type "list", .type "tuple"] = some true := by
 cases h with
 | lst e => exact ⟨_, .of (.lst e), rfl, rfl⟩
 | tup e => exact ⟨_, .of (.tup e), rfl, rfl⟩
inductive Shp (K : W.Frag) (H : Hp) (lo : Int) : V → Bool → Prop where
 | seq {x : V} {xs : List V} : Sq H x xs → (∀ y ∈ xs, Tm K H y) → Shp K H lo x (Jo7 lo xs)
 | non {x : V} {t : Value} : TyX K H x t → W.kitAny K t [.type "list", .type "tuple"] = some false → Shp K H lo x false
def spAre (K : W.Frag) : Sp := fun vs H Q _ => ∃ (x : V) (lo : Int) (b : Bool), vs = [x, .int lo] ∧ Shp K H lo x b ∧ ∀ H', Same H H' → Q (.bl b) H'
def Rf (a : Ad) (H H' : Hp) (x : V) (c : Value) (eo : Option Addr) : Prop := ∃ e dx, c = .ref a.Jk5 ∧ eo = some e ∧ Same H H' ∧ H' e = some (XO e a.Jk5 (some dx) false) ∧ H' dx = some (XD dx [("thing", x)])
theorem Rf.of {a : Ad} {H H1 H' : Hp} {x : V} {c : Value} {eo : Option Addr} (s : Same H H1) (h : Rf a H1 H' x c eo) : Rf a H H' x c eo := by
 obtain ⟨e, dx, h1, h2, h3, h4, h5⟩ := h
 exact ⟨e, dx, h1, h2, s.trans h3, h4, h5⟩
theorem Rf.new {a : Ad} {H : Hp} {x : V} {e dx : Addr} (h1 : H e = none) (h2 : H dx = none) (ne : dx ≠ e) : Rf a H (upd (upd (upd H dx (XD dx [("thing", x)])) e (XO e a.Jk5 (some dx) true)) e (XO e a.Jk5 (some dx) false)) x (.ref a.Jk5) (some e) := by
 refine ⟨e, dx, rfl, rfl, ?_, Jko, ?_⟩
 ·rw [Jmp]
  intro b o q
  rw [Jkv (Jkw q h1), Jkv (Jkw q h2)]
  exact q
 ·rw [Jkv ne, Jkv ne, Jko]
def spKept (K : W.Frag) (a : Ad) : Sp := fun vs H Q E => ∃ (x : V) (lo : Int), vs = [x, .int lo] ∧
 ((∃ xs, Sq H x xs ∧ (∀ y ∈ xs, Tm K H y) ∧ Jo7 lo xs = true ∧ ∀ t H', Same H H' → H' t = some (.tup xs) → Q (.ref t) H') ∨ (Shp K H lo x false ∧ ∀ c eo H', Rf a H H' x c eo → E c eo H'))
def IsC (a : Ad) (C : Addr) : Prop := C = a.Jkg ∨ C = a.Jkh ∨ C = a.Jki
def GateAt (C : Addr) (H : Hp) (g : Addr) (xs : List V) : Prop := ∃ dx t, H g = some (.ins C dx [("marks", .ref t)]) ∧ H t = some (.tup xs)
theorem GateAt.same {C : Addr} {H H' : Hp} {g : Addr} {xs : List V} (s : Same H H') (h : GateAt C H g xs) : GateAt C H' g xs := let ⟨dx, t, h1, h2⟩ := h; ⟨dx, t, s _ _ h1, s _ _ h2⟩
def Jup (K : W.Frag) (a : Ad) (lo : Int) : Sp := fun vs H Q E => ∃ (p C dx : Addr) (x : V), vs = [.ref p, x] ∧ H p = some (.ins C dx []) ∧ Cls K C ∧ NoAttr K C "marks" ∧
 ((∃ xs, Sq H x xs ∧ (∀ y ∈ xs, Tm K H y) ∧ Jo7 lo xs = true ∧ ∀ t H', Same H H' → H' t = some (.tup xs) → Q .non (upd H' p (.ins C dx [("marks", .ref t)]))) ∨ (Shp K H lo x false ∧ ∀ c eo H', Rf a H H' x c eo → E c eo H'))
def Jzs (C : Addr) : Sp := fun vs H Q _ => ∃ (p : Addr) (xs : List V), vs = [.ref p] ∧ GateAt C H p xs ∧ Q (.int xs.length) H
def spOne : Sp := fun vs H Q _ => ∃ x, vs = [x] ∧ Q (.int 1) H
inductive GS (K : W.Frag) (a : Ad) (H : Hp) : V → Nat → Prop where
 | plain {g C : Addr} {xs : List V} : IsC a C → GateAt C H g xs → xs.length ≤ 4 → GS K a H (.ref g) xs.length
 | stuck {g dx : Addr} {x y : V} : H g = some (.ins a.Jkj dx [("gate", x), ("setting", y)]) → GS K a H (.ref g) 1
theorem GS.same {K : W.Frag} {a : Ad} {H H' : Hp} {x : V} {n : Nat} (s : Same H H') (h : GS K a H x n) : GS K a H' x n := by
 cases h with
 | plain i g l => exact .plain i (g.same s) l
 | stuck e => exact .stuck (s _ _ e)
def Yac (K : W.Frag) (a : Ad) : Sp := fun vs H Q E => ∃ (p dx : Addr) (x y : V), vs = [.ref p, x, y] ∧ H p = some (.ins a.Jkj dx []) ∧
 ((∃ t, TyX K H x t ∧ W.kitOne K t (.ref a.Jkf) = some false ∧ ∀ c eo H', Rf a H H' x c eo → E c eo H') ∨
  (∃ n, GS K a H x n ∧ Tm K H y ∧ Jl6 y 0 (n - 1) = false ∧ ∀ c eo H', Rf a H H' y c eo → E c eo H') ∨
  (∃ n, GS K a H x n ∧ Tm K H y ∧ Jl6 y 0 (n - 1) = true ∧ Q .non (upd H p (.ins a.Jkj dx [("gate", x), ("setting", y)]))))
def Knd (z : Str) : Prop := z = ("step" : Str) ∨ z = ("flap" : Str) ∨ z = ("part" : Str)
def Jn9 (z : Str) : Int := if z = ("part" : Str) then 1 else 0
def cOf (a : Ad) (z : Str) : Addr := if z = ("step" : Str) then a.Jkg else if z = ("flap" : Str) then a.Jkh else a.Jki
theorem Jyj {a : Ad} {z : Str} : IsC a (cOf a z) := by
 unfold cOf
 split
 ·exact .inl rfl
 ·split
  ·exact .inr (.inl rfl)
  ·exact .inr (.inr rfl)
theorem Jtq : ¬ (("part" : Str) = "step") := by decide +kernel
theorem Jtp : ¬ (("part" : Str) = "flap") := by decide +kernel
theorem Jto : ¬ (("flap" : Str) = "step") := by decide +kernel
theorem ne_fp : ¬ (("flap" : Str) = "part") := by decide +kernel
theorem ne_sp : ¬ (("step" : Str) = "part") := by decide +kernel
theorem strN {x y : Str} (h : ¬ x = y) : ¬ V.str x = V.str y := fun e => h (V.str.inj e)
def LET : Str := "abcdefghijklmnopqrstuvwxyz"
def Jt8 (g z : Str) : Bool := z.cps.toList.all fun c => decide (c ∈ g.cps.toList)
def Jof (z : Str) : Bool := decide (1 ≤ z.length ∧ z.length ≤ 8) && Jt8 LET z
structure Wd (n : Nat) (z : Str) : Prop where
 len : z.length ≤ n
 low : ∀ c ∈ z.cps.toList, c < 128
theorem Jwz (z : Str) : z.cps.toList.length = z.length := Array.length_toList
theorem Jxa : ∀ ys : List Str, (∀ y ∈ ys, Wd 1 y) → (ys.map (·.length)).sum ≤ ys.length
 | [], _ => Nat.le_refl _
 | y :: r, h => by
  have h1 := (h y List.mem_cons_self).len
  have ih := Jxa r fun z hz => h z (List.mem_cons_of_mem _ hz)
  simp only [List.map_cons, List.sum_cons, List.length_cons]
  omega
theorem Jvp {g : Str} {r : Int} (h0 : 0 ≤ r) (h1 : r < g.length) : ∃ c, c ∈ g.cps.toList ∧ atI g.cps.toList r = some c := by
 obtain ⟨n, rfl⟩ := Int.eq_ofNat_of_zero_le h0
 have hn : n < g.cps.toList.length := by rw [Jwz]; omega
 exact ⟨g.cps.toList[n], List.getElem_mem hn, Jox (List.getElem?_eq_getElem hn)⟩
theorem wd_lit {z : Str} {n : Nat} (h : (decide (z.length ≤ n) && z.cps.toList.all (fun c => decide (c < 128))) = true) : Wd n z := by
 rw [Bool.and_eq_true] at h
 exact ⟨of_decide_eq_true h.1, fun c hc => of_decide_eq_true (List.all_eq_true.mp h.2 c hc)⟩
theorem wd_let : Wd 26 LET := wd_lit (by decide +kernel)
def Jn5 : V → Bool
 | .str z => Jof z
 | _ => false
def Nmd (K : W.Frag) (H : Hp) (x : V) : Prop := Tm K H x ∧ ∀ z, x = .str z → Wd 50 z
def spMade : Sp := fun vs H Q _ => ∃ z g : Str, vs = [.str z, .str g] ∧ z.length ≤ 2000 ∧ ∀ H', Same H H' → Q (.bl (Jt8 g z)) H'
def spName (K : W.Frag) : Sp := fun vs H Q _ => ∃ x : V, vs = [x] ∧ Nmd K H x ∧ ∀ H', Same H H' → Q (.bl (Jn5 x)) H'
def RfC (C : Addr) (H H' : Hp) (x : V) (c : Value) (eo : Option Addr) : Prop := ∃ e dx, c = .ref C ∧ eo = some e ∧ Same H H' ∧ H' e = some (XO e C (some dx) false) ∧ H' dx = some (XD dx [("thing", x)])
theorem RfC.of {C : Addr} {H H1 H' : Hp} {x : V} {c : Value} {eo : Option Addr} (s : Same H H1) (h : RfC C H1 H' x c eo) : RfC C H H' x c eo := by
 obtain ⟨e, dx, h1, h2, h3, h4, h5⟩ := h
 exact ⟨e, dx, h1, h2, s.trans h3, h4, h5⟩
theorem RfC.new {C : Addr} {H : Hp} {x : V} {e dx : Addr} (h1 : H e = none) (h2 : H dx = none) (ne : dx ≠ e) : RfC C H (upd (upd (upd H dx (XD dx [("thing", x)])) e (XO e C (some dx) true)) e (XO e C (some dx) false)) x (.ref C) (some e) := by
 refine ⟨e, dx, rfl, rfl, ?_, Jko, ?_⟩
 ·rw [Jmp]
  intro b o q
  rw [Jkv (Jkw q h1), Jkv (Jkw q h2)]
  exact q
 ·rw [Jkv ne, Jkv ne, Jko]
def Jy8 (K : W.Frag) (a : Ad) : Sp := fun vs H Q E => ∃ (x : V) (lo hi : Int), vs = [x, .int lo, .int hi] ∧ Tm K H x ∧ ((Jl6 x lo hi = true ∧ Q .non H) ∨ (Jl6 x lo hi = false ∧ ∀ c eo H', RfC a.Jk6 H H' x c eo → E c eo H'))
inductive Due (n lo hi st rn g : V) (gb : Bool) : Option (Nat × V) → Prop
 | name : Jn5 n = false → Due n lo hi st rn g gb (some (0, n))
 | low : Jn5 n = true → Jl6 lo 0 12 = false → Due n lo hi st rn g gb (some (1, lo))
 | high (l : Int) : Jn5 n = true → lo = .int l → Jl6 lo 0 12 = true → Jl6 hi l 12 = false → Due n lo hi st rn g gb (some (1, hi))
 | start (l h : Int) : Jn5 n = true → lo = .int l → hi = .int h → Jl6 lo 0 12 = true → Jl6 hi l 12 = true → Jl6 st l h = false → Due n lo hi st rn g gb (some (1, st))
 | rain (l h : Int) : Jn5 n = true → lo = .int l → hi = .int h → Jl6 lo 0 12 = true → Jl6 hi l 12 = true → Jl6 st l h = true → Jl6 rn 0 6 = false → Due n lo hi st rn g gb (some (1, rn))
 | gate (l h : Int) : Jn5 n = true → lo = .int l → hi = .int h → Jl6 lo 0 12 = true → Jl6 hi l 12 = true → Jl6 st l h = true → Jl6 rn 0 6 = true → gb = false → Due n lo hi st rn g gb (some (2, g))
 | good (l h : Int) : Jn5 n = true → lo = .int l → hi = .int h → Jl6 lo 0 12 = true → Jl6 hi l 12 = true → Jl6 st l h = true → Jl6 rn 0 6 = true → gb = true → Due n lo hi st rn g gb none
theorem Jnu {x : V} {lo hi : Int} (h : Jl6 x lo hi = true) : ∃ i, x = .int i := by
 cases x with
 | int i => exact ⟨i, rfl⟩
 | _ => cases h
inductive DueT (n b wt : V) : Option (Nat × V) → Prop
 | name : Jn5 n = false → DueT n b wt (some (0, n))
 | basin : Jn5 n = true → Jn5 b = false → DueT n b wt (some (0, b))
 | want : Jn5 n = true → Jn5 b = true → Jl6 wt 1 6 = false → DueT n b wt (some (3, wt))
 | good : Jn5 n = true → Jn5 b = true → Jl6 wt 1 6 = true → DueT n b wt none
def clsK (a : Ad) : Nat → Addr
 | 0 => a.Jk4
 | 1 => a.Jk6
 | 2 => a.Jk5
 | _ => a.Jk7
def GtI (K : W.Frag) (a : Ad) (H : Hp) (g : V) (gb : Bool) : Prop := ∃ t, TyX K H g t ∧ W.kitOne K t (.ref a.Jkf) = some gb ∧ W.kitAny K t [.ref a.Jkg, .ref a.Jkh, .ref a.Jki, .ref a.Jkj] = some gb ∧
 ∃ b, W.kitOne K t (.type "bool") = some b ∧ (gb = true → b = false) ∧ t ≠ .type "float"
def basF (n lo hi st rn g : V) : List (Str × V) := [("name", n), ("low", lo), ("high", hi), ("start", st), ("rain", rn), ("gate", g)]
def twnF (n b wt : V) : List (Str × V) := [("name", n), ("basin", b), ("want", wt)]
def Ends1 (a : Ad) (d : Option (Nat × V)) (H : Hp) (E : XK) (G : Prop) : Prop := match d with
 | none => G
 | some (k, x) => ∀ c eo H', RfC (clsK a k) H H' x c eo → E c eo H'
def Ya9 (K : W.Frag) (a : Ad) : Sp := fun vs H Q E => ∃ (p dx : Addr) (n lo hi st rn g : V) (gb : Bool) (d : Option (Nat × V)), vs = [.ref p, n, lo, hi, st, rn, g] ∧ H p = some (.ins a.Jkk dx []) ∧ Nmd K H n ∧ Tm K H lo ∧ Tm K H hi ∧ Tm K H st ∧ Tm K H rn ∧ GtI K a H g gb ∧ Due n lo hi st rn g gb d ∧
 Ends1 a d H E (∀ H', Same H H' → Q .non (upd H' p (.ins a.Jkk dx (basF n lo hi st rn g))))
def spTown (K : W.Frag) (a : Ad) : Sp := fun vs H Q E => ∃ (p dx : Addr) (n b wt : V) (d : Option (Nat × V)), vs = [.ref p, n, b, wt] ∧ H p = some (.ins a.Jkl dx []) ∧ Nmd K H n ∧ Nmd K H b ∧ Tm K H wt ∧ DueT n b wt d ∧
 Ends1 a d H E (∀ H', Same H H' → Q .non (upd H' p (.ins a.Jkl dx (twnF n b wt))))
theorem Nmd.same {K : W.Frag} {H H' : Hp} {x : V} (s : Same H H') (h : Nmd K H x) : Nmd K H' x := ⟨h.1.same s, h.2⟩
theorem Jq4 {K : W.Frag} {H H' : Hp} {x : V} {t : Value} (s : Same H H') (h : TyX K H x t) : TyX K H' x t := h.same (fun b o _ q => s b o q) (fun b fs q => s b _ q)
theorem GtI.same {K : W.Frag} {a : Ad} {H H' : Hp} {g : V} {gb : Bool} (s : Same H H') (h : GtI K a H g gb) : GtI K a H' g gb := let ⟨t, ty, r⟩ := h; ⟨t, Jq4 s ty, r⟩
theorem ty_str {K : W.Frag} {H : Hp} {x : V} {t : Value} (h : TyX K H x t) (e : t = .type "str") : ∃ z, x = .str z := by
 cases h with
 | exc => cases e
 | of ty =>
  cases ty with
  | str z => exact ⟨z, rfl⟩
  | ins => cases e
  | non => exact absurd (Value.type.inj e) (by decide)
  | bl => exact absurd (Value.type.inj e) (by decide)
  | int => exact absurd (Value.type.inj e) (by decide)
  | flt => exact absurd (Value.type.inj e) (by decide)
  | lst => exact absurd (Value.type.inj e) (by decide)
  | frz => exact absurd (Value.type.inj e) (by decide)
  | tup => exact absurd (Value.type.inj e) (by decide)
  | dK => exact absurd (Value.type.inj e) (by decide)
  | dT => exact absurd (Value.type.inj e) (by decide)
structure Bsn where
 z : Str
 lo : Int
 hi : Int
 st : Int
 rn : Int
 g : V
 n : Nat
def BasAt (K : W.Frag) (a : Ad) (H : Hp) (o : Addr) (B : Bsn) : Prop := ∃ dx, H o = some (.ins a.Jkk dx (basF (.str B.z) (.int B.lo) (.int B.hi) (.int B.st) (.int B.rn) B.g)) ∧ GS K a H B.g B.n
theorem BasAt.same {K : W.Frag} {a : Ad} {H H' : Hp} {o : Addr} {B : Bsn} (s : Same H H') (h : BasAt K a H o B) : BasAt K a H' o B := let ⟨dx, h1, h2⟩ := h; ⟨dx, s _ _ h1, h2.same s⟩
structure Twn where
 z : Str
 b : Str
 wt : Int
def TwnAt (a : Ad) (H : Hp) (o : Addr) (B : Twn) : Prop := ∃ dx, H o = some (.ins a.Jkl dx (twnF (.str B.z) (.str B.b) (.int B.wt)))
theorem TwnAt.same {a : Ad} {H H' : Hp} {o : Addr} {B : Twn} (s : Same H H') (h : TwnAt a H o B) : TwnAt a H' o B := let ⟨dx, h1⟩ := h; ⟨dx, s _ _ h1⟩
def BasL (K : W.Frag) (a : Ad) (H : Hp) : List Addr → List Bsn → Prop
 | [], [] => True
 | o :: os, B :: Bs => BasAt K a H o B ∧ BasL K a H os Bs
 | _, _ => False
def TwnL (a : Ad) (H : Hp) : List Addr → List Twn → Prop
 | [], [] => True
 | o :: os, B :: Bs => TwnAt a H o B ∧ TwnL a H os Bs
 | _, _ => False
theorem BasL.same {K : W.Frag} {a : Ad} {H H' : Hp} (s : Same H H') : ∀ {os : List Addr} {Bs : List Bsn}, BasL K a H os Bs → BasL K a H' os Bs
 | [], [], _ => True.intro
 | _ :: _, _ :: _, ⟨h, t⟩ => ⟨h.same s, BasL.same s t⟩
theorem TwnL.same {a : Ad} {H H' : Hp} (s : Same H H') : ∀ {os : List Addr} {Bs : List Twn}, TwnL a H os Bs → TwnL a H' os Bs
 | [], [], _ => True.intro
 | _ :: _, _ :: _, ⟨h, t⟩ => ⟨h.same s, TwnL.same s t⟩
theorem BasL.len {K : W.Frag} {a : Ad} {H : Hp} : ∀ {os : List Addr} {Bs : List Bsn}, BasL K a H os Bs → os.length = Bs.length
 | [], [], _ => rfl
 | _ :: _, _ :: _, ⟨_, t⟩ => by rw [List.length_cons, List.length_cons, BasL.len t]
theorem TwnL.len {a : Ad} {H : Hp} : ∀ {os : List Addr} {Bs : List Twn}, TwnL a H os Bs → os.length = Bs.length
 | [], [], _ => rfl
 | _ :: _, _ :: _, ⟨_, t⟩ => by rw [List.length_cons, List.length_cons, TwnL.len t]
theorem BasL.get {K : W.Frag} {a : Ad} {H : Hp} : ∀ {os : List Addr} {Bs : List Bsn} {i : Nat} {v : V}, BasL K a H os Bs → (os.map V.ref)[i]? = some v → ∃ o B, v = .ref o ∧ Bs[i]? = some B ∧ BasAt K a H o B
 | _ :: _, B :: _, 0, v, ⟨h, _⟩, e => ⟨_, B, by simpa using e.symm, rfl, h⟩
 | _ :: _, _ :: _, i + 1, v, ⟨_, t⟩, e => BasL.get (i := i) t (by simpa using e)
 | [], [], i, v, _, e => by simp at e
theorem TwnL.get {a : Ad} {H : Hp} : ∀ {os : List Addr} {Bs : List Twn} {i : Nat} {v : V}, TwnL a H os Bs → (os.map V.ref)[i]? = some v → ∃ o B, v = .ref o ∧ Bs[i]? = some B ∧ TwnAt a H o B
 | _ :: _, B :: _, 0, v, ⟨h, _⟩, e => ⟨_, B, by simpa using e.symm, rfl, h⟩
 | _ :: _, _ :: _, i + 1, v, ⟨_, t⟩, e => TwnL.get (i := i) t (by simpa using e)
 | [], [], i, v, _, e => by simp at e
def Jzw (K : W.Frag) : Sp := fun vs H Q _ => ∃ (l : Addr) (zs : List Str), vs = [.ref l] ∧ SqL K H l (zs.map V.str) ∧ zs.length ≤ 2000 ∧ ∀ H', Same H H' → Q (.bl (decide ((uq zs).length = zs.length))) H'
def Jzi (K : W.Frag) (a : Ad) : Sp := fun vs H Q _ => ∃ (l : Addr) (os : List Addr) (Bs : List Bsn), vs = [.ref l] ∧ H l = some (.lst (os.map V.ref)) ∧ BasL K a H os Bs ∧ (1 ≤ Bs.length ∧ Bs.length ≤ 16) ∧ (Bs.map (·.z)).Nodup ∧ ∀ H', Same H H' → Q (.bl true) H'
def Yam (K : W.Frag) (a : Ad) : Sp := fun vs H Q _ => ∃ (l m : Addr) (os ts : List Addr) (Bs : List Bsn) (Ts : List Twn), vs = [.ref m, .ref l] ∧ H l = some (.lst (os.map V.ref)) ∧ BasL K a H os Bs ∧ Bs.length ≤ 16 ∧ H m = some (.lst (ts.map V.ref)) ∧ TwnL a H ts Ts ∧ Ts.length ≤ 3 ∧ (Ts.map (·.z)).Nodup ∧ (∀ t ∈ Ts, t.b ∈ Bs.map (·.z)) ∧ ∀ H', Same H H' → Q (.bl true) H'
section
variable {P : Program} {w : World} {K : W.Frag} {mg : Str → Option Value} {base : Heap} {a : Ad}
theorem Jpi : Jky ["self", "thing"] ["self", "thing"] (Jkt (Jkx (top 4) 0)) := ⟨rfl, rfl, rfl, by decide +kernel, rfl, by decide +kernel, by decide +kernel⟩
theorem Jmx (T : Tx K mg a) : FnOk P w K mg base CX0 1 a.Jfq a.Jfr ["self", "thing"] (Jn2 K "thing") := by
 refine T.Jbm.fn.ok Jpi (fun vs H Q E h => ?_) (fun cdv A outer s H vs Q E hr h => ?_)
 ·obtain ⟨e, C, W, fI, y, rfl, _⟩ := h
  rfl
 ·obtain ⟨e, C, W, fI, y, rfl, q, c, n, k⟩ := h
  refine ⟨_, (Jkr (Jn0 (pv 0) (pv 1) rfl)), ?_⟩
  exact ⟨_, rfl, _, rfl, e, C, W, fI, true, rfl, q, c, n, k⟩
theorem Jve : Jky ["thing", "low", "high"] ["thing", "low", "high"] (Jkt (top 16)) := ⟨rfl, rfl, rfl, by decide +kernel, rfl, by decide +kernel, by decide +kernel⟩
theorem Jm3 (T : Tx K mg a) : FnOk P w K mg base CX0 1 a.Jg8 a.Jg9 ["thing", "low", "high"] (Yao K) := by
 refine T.J0.fn.ok Jve (fun vs H Q E h => ?_) (fun cdv A outer s H vs Q E hr h => ?_)
 ·obtain ⟨x, lo, hi, rfl, _⟩ := h
  rfl
 ·obtain ⟨x, lo, hi, rfl, tm, k⟩ := h
  refine ⟨_, (Jkq (Jle (Jtv (Jld (Jkz Jlx (by rfl) T.Jaq Jl4 (Jkn (pv 0) (Jkn (Jmj (v := .ty "bool") (by rfl) T.Jan Ju0 rfl) Jkp)))) (Jqq (Jlc (Jld (Jkz Jlx (by rfl) T.Jaq Jl4 (Jkn (pv 0) (Jkn (Jmj (v := .ty "int") (by rfl) T.Jap Jrj rfl) Jkp))))))).pt (Jkr (Jl0 Jly)) Jl2)
   (Jkr (Jl0 (Jsb Jo6 Jo6 (pv 1) (pv 0) (pv 2))))), ?_⟩
  rcases tm with ⟨i, rfl⟩ | ⟨t, ty, ht⟩
  ·refine ⟨_, rfl, _, _, _, _, _, rfl, rfl, .of (.int i), (by rfl : W.kitOne K (.type "int") (.type "bool") = some false), _, rfl, Jlj ⟨_, rfl, _, _, _, _, _, rfl, rfl, .of (.int i), (by rfl : W.kitOne K (.type "int") (.type "int") = some true), _, rfl, Jlj ?_⟩⟩
   refine ⟨_, rfl, _, rfl, _, _, rfl, rfl, _, rfl, ?_⟩
   have k' : Q (.bl (decide (lo ≤ i) && decide (i ≤ hi))) H := k
   by_cases h1 : lo ≤ i
   ·rw [decide_eq_true h1] at k' ⊢
    exact Jlt ⟨_, rfl, _, _, rfl, rfl, by simpa using k'⟩
   ·rw [decide_eq_false h1] at k' ⊢
    exact Jlj (by simpa using k')
  ·rw [Yp ty ht] at k
   have e := tp_int (K := K) ht
   cases eb : (t == .type "bool") with
   | true =>
    rw [eb] at e
    exact ⟨_, rfl, _, _, _, _, _, rfl, rfl, ty, e.2, _, rfl, Jlt (Jlt k)⟩
   | false =>
    rw [eb] at e
    exact ⟨_, rfl, _, _, _, _, _, rfl, rfl, ty, e.2, _, rfl, Jlj ⟨_, rfl, _, _, _, _, _, rfl, rfl, ty, e.1, _, rfl, Jlt k⟩⟩
theorem sc_are_marks : Jky ["thing", "lowest", "least", "mark"] ["thing", "lowest"] (Jkt (top 41)) := ⟨rfl, rfl, rfl, by decide +kernel, rfl, by decide +kernel, by decide +kernel⟩
theorem Ju9 (T : Tx K mg a) : FnOk P w K mg base CX0 2 a.Jhc a.Jhd ["thing", "lowest"] (spAre K) := by
 have G_is_whole := Jm3 (P := P) (w := w) (base := base) T
 refine T.Jj.fn.ok sc_are_marks (fun vs H Q E h => ?_) (fun cdv A outer s H vs Q E hr h => ?_)
 ·obtain ⟨x, lo, b, rfl, _⟩ := h
  rfl
 ·obtain ⟨x, lo, b, rfl, sh, k⟩ := h
  refine ⟨_, (Jkq (Jle (Jlc (Jld (Jkz Jrk (by rfl) T.Jaq Jl4 (Jkn (pv 0) (Jkn (Jm8 (Jkn (Jmj (v := .ty "list") (by rfl) T.Jas Jn8 rfl) (Jkn (Jmj (v := .ty "tuple") (by rfl) T.Jaz Jm0 rfl) Jkp))) Jkp))))) (Jkr (Jl0 Jly)) Jl2)
   (Jkq (Jle (Jlc (Jsg Jo6 Jo6 Jks (Jkz Jl8 (by rfl) T.Jar Jmc (Jkn (pv 0) Jkp)) (Jls (by rfl) T.Jac (v := .int 4) ⟨_, rfl⟩))) (Jkr (Jl0 Jly)) Jl2)
   (Jkq (Jl3 (i := 2) sc_are_marks.nd rfl (Or.inl rfl) (pv 1))
   (Jkq (Jo0 PassesOwn.never rfl (pi_seq (pv 0)) (Jl1 (i := 3) sc_are_marks.nd rfl (Or.inl rfl)) (Jkq (Jle (Jlc (Jld (Jku T.J0 G_is_whole hr (by decide) (Jkn (pv 3) (Jkn (pv 2) (Jkn (Jls (by rfl) T.Jad (v := .int 12) ⟨_, rfl⟩) Jkp)))))) (Jkr (Jl0 Jly)) Jl2)
    (Jkr (Jl3 (i := 2) sc_are_marks.nd rfl (Or.inl rfl) (Jl5 Jlk (pv 3) Jks)))))
   (Jkr (Jl0 Jly)))))), ?_⟩
  cases sh with
  | @non t ty e =>
   refine ⟨_, rfl, (show 2 ≤ sizeLine by decide), fun p hp => ⟨_, p, _, _, t, _, rfl, Jko, rfl, ty.same (fun b o _ q => Same.upd hp b o q) (fun b fs q => Same.upd hp b _ q), e, _, rfl, Jlt (k _ (Same.upd hp))⟩⟩
  | @seq xs sq tms =>
   obtain ⟨t, ty, _, e⟩ := sq.ty (K := K)
   refine ⟨_, rfl, (show 2 ≤ sizeLine by decide), fun p hp => ⟨_, p, _, _, t, _, rfl, Jko, rfl, ty.same (fun b o _ q => Same.upd hp b o q) (fun b fs q => Same.upd hp b _ q), e, _, rfl, Jlj ?_⟩⟩
   have s1 := Same.upd (o := .tup [.ty "list", .ty "tuple"]) hp
   have sq1 := sq.same s1
   obtain ⟨q, rfl⟩ : ∃ q, x = .ref q := by cases sq <;> exact ⟨_, rfl⟩
   have len : SqL K (upd H p (.tup [.ty "list", .ty "tuple"])) q xs ∨ SqT K (upd H p (.tup [.ty "list", .ty "tuple"])) q xs := by
    cases sq1 with
    | lst e => exact .inl (SqL.of e)
    | tup e => exact .inr (SqT.of e)
   refine ⟨_, rfl, q, xs, rfl, len, _, _, rfl, rfl, _, rfl, ?_⟩
   have no : Jo7 lo xs = false → ∀ H', Same H H' → Q (.bl false) H' := fun z H' s' => by
    have := k H' s'
    rw [z] at this
    exact this
   by_cases h1 : (1 : Int) ≤ (xs.length : Int)
   ·rw [decide_eq_true h1]
    refine Jlt ⟨_, _, rfl, rfl, _, rfl, ?_⟩
    by_cases h2 : (xs.length : Int) ≤ 4
    ·rw [decide_eq_true h2]
     refine Jlj ⟨_, rfl, ?_⟩
     have lz : decide (1 ≤ xs.length ∧ xs.length ≤ 4) = true := decide_eq_true (by omega)
     have ar : Jo7 lo xs = Jm5 lo xs := by unfold Jo7; rw [lz, Bool.true_and]
     refine ⟨_, rfl, q, rfl, Yk (xs := xs) (fun i σ H' => ∃ (l : Int) (o : Option V), σ = [some (.ref q), some (.int lo), some (.int l), o] ∧ H' = upd H p (.tup [.ty "list", .ty "tuple"]) ∧ Jm5 lo xs = Jm5 l (xs.drop i)) ⟨lo, _, rfl, rfl, rfl⟩ ?_ ?_ ?_⟩
     ·rcases len with z | z
      ·exact .inl fun i σ H' _ ⟨_, _, _, e, _⟩ => by rw [e]; exact z
      ·exact .inr fun i σ H' _ ⟨_, _, _, e, _⟩ => by rw [e]; exact z
     ·rintro i y σ H' hy ⟨l, o, rfl, rfl, em⟩
      have hd : xs.drop i = y :: xs.drop (i + 1) := by
       obtain ⟨hi, rfl⟩ := List.getElem?_eq_some_iff.mp hy
       exact List.drop_eq_getElem_cons hi
      refine ⟨_, rfl, _, rfl, y, l, 12, rfl, (tms y (List.mem_of_getElem? hy)).same s1, _, rfl, ?_⟩
      cases z : Jl6 y l 12 with
      | false =>
       refine Jlt (no ?_ _ s1)
       rw [ar, em, hd, Jqx, z, Bool.false_and]
      | true =>
       rw [hd, Jqx, z, Bool.true_and] at em
       cases y with
       | int i' => exact Jlj ⟨_, rfl, _, _, rfl, rfl, i' + 1, _, rfl, rfl, em⟩
       | _ => cases z
     ·rintro σ H' ⟨l, o, rfl, rfl, em⟩
      have e : Jo7 lo xs = true := by rw [ar, em, List.drop_of_length_le (Nat.le_refl _)]; rfl
      have := k _ s1
      rw [e] at this
      exact this
    ·rw [decide_eq_false h2]
     refine Jlt (no ?_ _ s1)
     unfold Jo7
     rw [decide_eq_false (by omega : ¬ (1 ≤ xs.length ∧ xs.length ≤ 4)), Bool.false_and]
   ·rw [decide_eq_false h1]
    refine Jlj ⟨_, rfl, Jlt (no ?_ _ s1)⟩
    unfold Jo7
    rw [decide_eq_false (by omega : ¬ (1 ≤ xs.length ∧ xs.length ≤ 4)), Bool.false_and]
end
section
variable {P : Program} {w : World} {K : W.Frag} {mg : Str → Option Value} {base : Heap} {a : Ad}
theorem Jt3 : Jky ["marks", "lowest"] ["marks", "lowest"] (Jkt (top 42)) := ⟨rfl, rfl, rfl, by decide +kernel, rfl, by decide +kernel, by decide +kernel⟩
theorem Jnm (T : Tx K mg a) : FnOk P w K mg base (CXX P w) 3 a.Jhe a.Jhf ["marks", "lowest"] (spKept K a) := by
 have G_are_marks := Ju9 (P := P) (w := w) (base := base) T
 have G_NoGate___init__ := Jmx (P := P) (w := w) (base := base) T
 refine T.Jk.fn.okX Jt3 (fun vs H Q E h => ?_) (fun cdv A outer s H vs Q E hr h => ?_)
 ·obtain ⟨x, lo, rfl, _⟩ := h
  rfl
 ·obtain ⟨x, lo, rfl, h⟩ := h
  refine ⟨_, (Jkq (Jle (Jlc (Jld (Jku T.Jj G_are_marks hr (by decide) (Jkn (pv 0) (Jkn (pv 1) Jkp))))) (Jkr (Jln Jlp rfl (Jme T.Jcf G_NoGate___init__ hr (by decide) T.Jbm.bd T.Jb3 (Jkn (pv 0) Jkp)))) Jl2)
   (Jkr (Jl0 (Jlf Jlr (by rfl) T.Jaz Jm0 (Jkn (pv 0) Jkp))))), ?_⟩
  rcases h with ⟨xs, sq, tms, e, k⟩ | ⟨sh, k⟩
  ·have sh := Shp.seq (lo := lo) sq tms
   rw [e] at sh
   refine ⟨_, rfl, _, rfl, x, lo, true, rfl, sh, fun H1 s1 => ⟨_, rfl, Jlj ?_⟩⟩
   cases sq with
   | lst e => exact ⟨_, rfl, _, xs, rfl, .inl ⟨SqL.of (s1 _ _ e), fun l hl => k l _ (s1.trans (Same.upd hl)) Jko⟩⟩
   | tup e => exact ⟨_, rfl, _, xs, rfl, .inr ⟨SqT.of (s1 _ _ e), k _ _ s1 (s1 _ _ e)⟩⟩
  ·exact ⟨_, rfl, _, rfl, x, lo, false, rfl, sh, fun H1 s1 => ⟨_, rfl, Jlt (Jm9 T.Jcf T.Jcg rfl fun e dx h1 h2 h3 => k _ _ _ ((Rf.new h1 h2 h3).of s1))⟩⟩
theorem Jou : Jky ["self", "marks"] ["self", "marks"] (Jkt (Jkx (top 45) 0)) := ⟨rfl, rfl, rfl, by decide +kernel, rfl, by decide +kernel, by decide +kernel⟩
theorem Jqj (T : Tx K mg a) : FnOk P w K mg base (CXX P w) 4 a.Jhi a.Jhj ["self", "marks"] (Jup K a 0) := by
 have G_kept_marks := Jnm (P := P) (w := w) (base := base) T
 refine T.Jbx.fn.okX Jou (fun vs H Q E h => ?_) (fun cdv A outer s H vs Q E hr h => ?_)
 ·obtain ⟨p, C, dx, x, rfl, _⟩ := h
  rfl
 ·obtain ⟨p, C, dx, x, rfl, hp, c, n, h⟩ := h
  refine ⟨_, (Jkr (Jlu (pv 0) (Jmf T.Jk G_kept_marks Jlp hr (by decide) (Jkn (pv 1) (Jkn Jks Jkp))) rfl)), ?_⟩
  rcases h with ⟨xs, sq, tms, e, k⟩ | ⟨sh, k⟩
  ·exact ⟨_, rfl, x, 0, rfl, .inl ⟨xs, sq, tms, e, fun t H' s' ht => ⟨_, rfl, p, C, dx, [], rfl, s' _ _ hp, c, n, by simp, k t H' s' ht⟩⟩⟩
  ·exact ⟨_, rfl, x, 0, rfl, .inr ⟨sh, k⟩⟩
theorem Jov : Jky ["self"] ["self"] (Jkt (Jkx (top 45) 1)) := ⟨rfl, rfl, rfl, by decide +kernel, rfl, by decide +kernel, by decide +kernel⟩
theorem Joj (T : Tx K mg a) : FnOk P w K mg base CX0 1 a.Jhk a.Jhl ["self"] (Jzs a.Jkg) := by
 refine T.Jby.fn.ok Jov (fun vs H Q E h => ?_) (fun cdv A outer s H vs Q E hr h => ?_)
 ·obtain ⟨p, xs, rfl, _⟩ := h
  rfl
 ·obtain ⟨p, xs, rfl, ⟨dx, t, h1, h2⟩, k⟩ := h
  refine ⟨_, (Jkr (Jl0 (Jkz Jl8 (by rfl) T.Jar Jmc (Jkn (Jlg (pv 0) (by rfl)) Jkp)))), ?_⟩
  exact ⟨_, rfl, p, _, dx, _, _, rfl, h1, T.Jd7, T.Jdd, rfl, t, xs, rfl, .inr (SqT.of h2), k⟩
theorem Joo : Jky ["self", "marks"] ["self", "marks"] (Jkt (Jkx (top 46) 0)) := ⟨rfl, rfl, rfl, by decide +kernel, rfl, by decide +kernel, by decide +kernel⟩
theorem Jqf (T : Tx K mg a) : FnOk P w K mg base (CXX P w) 4 a.Jho a.Jhp ["self", "marks"] (Jup K a 0) := by
 have G_kept_marks := Jnm (P := P) (w := w) (base := base) T
 refine T.Jc0.fn.okX Joo (fun vs H Q E h => ?_) (fun cdv A outer s H vs Q E hr h => ?_)
 ·obtain ⟨p, C, dx, x, rfl, _⟩ := h
  rfl
 ·obtain ⟨p, C, dx, x, rfl, hp, c, n, h⟩ := h
  refine ⟨_, (Jkr (Jlu (pv 0) (Jmf T.Jk G_kept_marks Jlp hr (by decide) (Jkn (pv 1) (Jkn Jks Jkp))) rfl)), ?_⟩
  rcases h with ⟨xs, sq, tms, e, k⟩ | ⟨sh, k⟩
  ·exact ⟨_, rfl, x, 0, rfl, .inl ⟨xs, sq, tms, e, fun t H' s' ht => ⟨_, rfl, p, C, dx, [], rfl, s' _ _ hp, c, n, by simp, k t H' s' ht⟩⟩⟩
  ·exact ⟨_, rfl, x, 0, rfl, .inr ⟨sh, k⟩⟩
theorem Jop : Jky ["self"] ["self"] (Jkt (Jkx (top 46) 1)) := ⟨rfl, rfl, rfl, by decide +kernel, rfl, by decide +kernel, by decide +kernel⟩
theorem Jog (T : Tx K mg a) : FnOk P w K mg base CX0 1 a.Jhq a.Jhr ["self"] (Jzs a.Jkh) := by
 refine T.Jc1.fn.ok Jop (fun vs H Q E h => ?_) (fun cdv A outer s H vs Q E hr h => ?_)
 ·obtain ⟨p, xs, rfl, _⟩ := h
  rfl
 ·obtain ⟨p, xs, rfl, ⟨dx, t, h1, h2⟩, k⟩ := h
  refine ⟨_, (Jkr (Jl0 (Jkz Jl8 (by rfl) T.Jar Jmc (Jkn (Jlg (pv 0) (by rfl)) Jkp)))), ?_⟩
  exact ⟨_, rfl, p, _, dx, _, _, rfl, h1, T.Jde, T.Jdk, rfl, t, xs, rfl, .inr (SqT.of h2), k⟩
theorem Jos : Jky ["self", "marks"] ["self", "marks"] (Jkt (Jkx (top 47) 0)) := ⟨rfl, rfl, rfl, by decide +kernel, rfl, by decide +kernel, by decide +kernel⟩
theorem Jqi (T : Tx K mg a) : FnOk P w K mg base (CXX P w) 4 a.Jhu a.Jhv ["self", "marks"] (Jup K a 1) := by
 have G_kept_marks := Jnm (P := P) (w := w) (base := base) T
 refine T.Jc3.fn.okX Jos (fun vs H Q E h => ?_) (fun cdv A outer s H vs Q E hr h => ?_)
 ·obtain ⟨p, C, dx, x, rfl, _⟩ := h
  rfl
 ·obtain ⟨p, C, dx, x, rfl, hp, c, n, h⟩ := h
  refine ⟨_, (Jkr (Jlu (pv 0) (Jmf T.Jk G_kept_marks Jlp hr (by decide) (Jkn (pv 1) (Jkn Jks Jkp))) rfl)), ?_⟩
  rcases h with ⟨xs, sq, tms, e, k⟩ | ⟨sh, k⟩
  ·exact ⟨_, rfl, x, 1, rfl, .inl ⟨xs, sq, tms, e, fun t H' s' ht => ⟨_, rfl, p, C, dx, [], rfl, s' _ _ hp, c, n, by simp, k t H' s' ht⟩⟩⟩
  ·exact ⟨_, rfl, x, 1, rfl, .inr ⟨sh, k⟩⟩
theorem Jot : Jky ["self"] ["self"] (Jkt (Jkx (top 47) 1)) := ⟨rfl, rfl, rfl, by decide +kernel, rfl, by decide +kernel, by decide +kernel⟩
theorem Joi (T : Tx K mg a) : FnOk P w K mg base CX0 1 a.Jhw a.Jhx ["self"] (Jzs a.Jki) := by
 refine T.Jc4.fn.ok Jot (fun vs H Q E h => ?_) (fun cdv A outer s H vs Q E hr h => ?_)
 ·obtain ⟨p, xs, rfl, _⟩ := h
  rfl
 ·obtain ⟨p, xs, rfl, ⟨dx, t, h1, h2⟩, k⟩ := h
  refine ⟨_, (Jkr (Jl0 (Jkz Jl8 (by rfl) T.Jar Jmc (Jkn (Jlg (pv 0) (by rfl)) Jkp)))), ?_⟩
  exact ⟨_, rfl, p, _, dx, _, _, rfl, h1, T.Jdl, T.Jdr, rfl, t, xs, rfl, .inr (SqT.of h2), k⟩
theorem Joa : Jky ["self"] ["self"] (Jkt (Jkx (top 48) 1)) := ⟨rfl, rfl, rfl, by decide +kernel, rfl, by decide +kernel, by decide +kernel⟩
theorem Jo8 (T : Tx K mg a) : FnOk P w K mg base CX0 1 a.Ji2 a.Ji3 ["self"] spOne := by
 refine T.Jc7.fn.ok Joa (fun vs H Q E h => ?_) (fun cdv A outer s H vs Q E hr h => ?_)
 ·obtain ⟨x, rfl, _⟩ := h
  rfl
 ·obtain ⟨x, rfl, k⟩ := h
  refine ⟨_, (Jkr (Jl0 Jks)), ?_⟩
  exact k
theorem Jms {j : Nat} {σ : L2.St} {H : Hp} {x : V} {n : Nat} {Q : VK} (T : Tx K mg a) (g : GS K a H x n) (k : Q (.int n) H) (hj : 1 ≤ j) :
  ∃ g' C dx fs f fd ps sp k', x = .ref g' ∧ H g' = some (.ins C dx fs) ∧ fs.lookup ("settings" : Str) = none ∧ Cls K C ∧ Jmr K C "settings" f ∧ FnOk P w K mg base CX0 k' f fd ps sp ∧ k' ≤ j ∧ Binds K fd ps [] ∧ Jur σ H fun vs H2 => sp (x :: vs) H2 Q E0 := by
 cases g with
 | @plain g C xs i ga l =>
  obtain ⟨dx, t, h1, h2⟩ := ga
  rcases i with rfl | rfl | rfl
  ·exact ⟨g, _, dx, _, _, _, _, _, _, rfl, h1, rfl, T.Jd7, T.Jdb, Joj T, hj, T.Jby.bd, g, xs, rfl, ⟨dx, t, h1, h2⟩, k⟩
  ·exact ⟨g, _, dx, _, _, _, _, _, _, rfl, h1, rfl, T.Jde, T.Jdi, Jog T, hj, T.Jc1.bd, g, xs, rfl, ⟨dx, t, h1, h2⟩, k⟩
  ·exact ⟨g, _, dx, _, _, _, _, _, _, rfl, h1, rfl, T.Jdl, T.Jdp, Joi T, hj, T.Jc4.bd, g, xs, rfl, ⟨dx, t, h1, h2⟩, k⟩
 | @stuck g dx x y h1 => exact ⟨g, _, dx, _, _, _, _, _, _, rfl, h1, rfl, T.Jds, T.Jdw, Jo8 T, hj, T.Jc7.bd, _, rfl, k⟩
theorem GS.ty {H : Hp} {x : V} {n : Nat} (T : Tx K mg a) (g : GS K a H x n) : ∃ t, TyX K H x t ∧ W.kitOne K t (.ref a.Jkf) = some true := by
 cases g with
 | plain i ga l =>
  obtain ⟨dx, t, h1, h2⟩ := ga
  rcases i with rfl | rfl | rfl
  ·exact ⟨_, .of (T.Jd8.ty T.Jd7 h1), T.Jem⟩
  ·exact ⟨_, .of (T.Jdf.ty T.Jde h1), T.Jen⟩
  ·exact ⟨_, .of (T.Jdm.ty T.Jdl h1), T.Jeo⟩
 | stuck h1 => exact ⟨_, .of (T.Jdt.ty T.Jds h1), T.Jep⟩
theorem put2 (x y : V) : Jm6 ("setting" : Str) y [(("gate" : Str), x)] = [(("gate" : Str), x), (("setting" : Str), y)] := by
 have h : ¬ (("gate" : Str) = "setting") := by decide +kernel
 simp [Jm6, h]
theorem Jo9 : Jky ["self", "gate", "setting"] ["self", "gate", "setting"] (Jkt (Jkx (top 48) 0)) := ⟨rfl, rfl, rfl, by decide +kernel, rfl, by decide +kernel, by decide +kernel⟩
theorem Jpu (T : Tx K mg a) : FnOk P w K mg base (CXX P w) 4 a.Ji0 a.Ji1 ["self", "gate", "setting"] (Yac K a) := by
 have G_is_whole := Jm3 (P := P) (w := w) (base := base) T
 have G_NoGate___init__ := Jmx (P := P) (w := w) (base := base) T
 refine T.Jc6.fn.okX Jo9 (fun vs H Q E h => ?_) (fun cdv A outer s H vs Q E hr h => ?_)
 ·obtain ⟨p, dx, x, y, rfl, _⟩ := h
  rfl
 ·obtain ⟨p, dx, x, y, rfl, hp, h⟩ := h
  refine ⟨_, (Jkq (Jle (Jlc (Jld (Jkz Jlx (by rfl) T.Jaq Jl4 (Jkn (pv 1) (Jkn (Jls (by rfl) T.Jbd (v := .ref _) rfl) Jkp))))) (Jkr (Jln Jlp rfl (Jme T.Jcf G_NoGate___init__ hr (by decide) T.Jbm.bd T.Jb3 (Jkn (pv 1) Jkp)))) Jl2)
   (Jkq (Jle (Jlc (Jld (Jku T.J0 G_is_whole hr (by decide) (Jkn (pv 2) (Jkn Jks (Jkn (Jl5 Jmd (Jqo (pv 1) hr) Jks) Jkp)))))) (Jkr (Jln Jlp rfl (Jme T.Jcf G_NoGate___init__ hr (by decide) T.Jbm.bd T.Jb3 (Jkn (pv 2) Jkp)))) Jl2)
   (Jkq (Jlu (pv 0) (pv 1) rfl)
   (Jkr (Jlu (pv 0) (pv 2) rfl))))), ?_⟩
  rcases h with ⟨t, ty, e, k⟩ | ⟨n, g, tm, e, k⟩ | ⟨n, g, tm, e, k⟩
  ·exact ⟨_, rfl, x, _, _, t, _, rfl, rfl, ty, e, _, rfl, Jlt (Jm9 T.Jcf T.Jcg rfl fun e dx h1 h2 h3 => k _ _ _ (Rf.new h1 h2 h3))⟩
  ·obtain ⟨t, ty, et⟩ := g.ty T
   refine ⟨_, rfl, x, _, _, t, _, rfl, rfl, ty, et, _, rfl, Jlj ⟨_, rfl, _, rfl, Jms T g ⟨_, _, rfl, rfl, y, 0, (n : Int) - 1, rfl, tm, _, rfl, ?_⟩ (by decide)⟩⟩
   rw [e]
   exact Jlt (Jm9 T.Jcf T.Jcg rfl fun e dx h1 h2 h3 => k _ _ _ (Rf.new h1 h2 h3))
  ·obtain ⟨t, ty, et⟩ := g.ty T
   refine ⟨_, rfl, x, _, _, t, _, rfl, rfl, ty, et, _, rfl, Jlj ⟨_, rfl, _, rfl, Jms T g ⟨_, _, rfl, rfl, y, 0, (n : Int) - 1, rfl, tm, _, rfl, ?_⟩ (by decide)⟩⟩
   rw [e]
   refine Jlj ⟨_, rfl, _, rfl, p, _, dx, [], rfl, hp, T.Jds, T.Jdy, by simp, _, rfl, _, rfl, p, _, dx, _, rfl, Jko, T.Jds, T.Jdz, by simp [Jm6], ?_⟩
   show Q .non _
   rw [Jmp]
   exact put2 x y ▸ k
end
section
variable {P : Program} {w : World} {K : W.Frag} {mg : Str → Option Value} {base : Heap} {a : Ad}
theorem Jvf : Jky ["_law_script", "_law_k"] ["_law_script", "_law_k"] (Jkt (top 64)) := ⟨rfl, rfl, rfl, by decide +kernel, rfl, by decide +kernel, by decide +kernel⟩
theorem Jv4 (T : Tx K mg a) : FnOk P w K mg base CX0 1 a.Jim a.Jin ["_law_script", "_law_k"] (spCell K) := by
 refine T.Jp.fn.ok Jvf (fun vs H Q E h => ?_) (fun cdv A outer s H vs Q E hr h => ?_)
 ·obtain ⟨x, ns, i, rfl, _⟩ := h
  rfl
 ·obtain ⟨x, ns, i, rfl, hS, k⟩ := h
  refine ⟨_, (Jkq (Jle (Jlv Jx3 (pv 1) (Jkz Jl8 (by rfl) T.Jar Jmc (Jkn (pv 0) Jkp)) (Jli _)) (Jkr (Jl0 (Jl7 Jm1 (pv 0) (pv 1) (fun _ _ => rfl)))) Jl2)
   (Jkr (Jl0 (Jl5 Jlk (Jl5 Jol Jks (pv 1)) Jks)))), ?_⟩
  refine ⟨_, rfl, _, rfl, x, _, rfl, .inl hS, _, _, rfl, rfl, _, rfl, ite2 (fun q => ?_) (fun q => ?_)⟩
  ·have hi : i < ns.length := by
    have q' := of_decide_eq_true q
    rw [List.length_map] at q'
    omega
   exact ⟨_, rfl, _, rfl, x, _, _, _, rfl, rfl, hS, Jps hi, k _⟩
  ·exact ⟨_, rfl, _, _, rfl, rfl, .inl ⟨by decide, by decide⟩, _, _, rfl, rfl, k _⟩
theorem Jt5 : Jky ["_law_cell_here"] ["_law_cell_here"] (Jkt (top 65)) := ⟨rfl, rfl, rfl, by decide +kernel, rfl, by decide +kernel, by decide +kernel⟩
theorem Jp9 (T : Tx K mg a) : FnOk P w K mg base CX0 1 a.Jio a.Jip ["_law_cell_here"] Jzu := by
 refine T.Jq.fn.ok Jt5 (fun vs H Q E h => ?_) (fun cdv A outer s H vs Q E hr h => ?_)
 ·obtain ⟨c, rfl, _⟩ := h
  rfl
 ·obtain ⟨c, rfl, k⟩ := h
  refine ⟨_, (Jkr (Jl0 (Jmh (Jkn (Jkz (Jnc rfl) (by rfl) T.Jat Jq8 (Jkn Jks (Jkn (Jl5 Jmd (pv 0) (Jl5 Jz7 Jks Jks)) Jkp))) (Jkn (Jl5 Jok (pv 0) Jks) (Jkn Jks Jkp)))))), ?_⟩
  refine ⟨_, rfl, _, _, rfl, rfl, ⟨by decide, by decide, by decide⟩, _, _, rfl, rfl, _, _, rfl, _, rfl, _, _, rfl, rfl, (by show (0 : Int) < 2147483647; decide), Jmo _ (by show 3 ≤ 2000; decide), fun p hp => ?_⟩
  exact k p _ hp (Same.upd hp) ⟨_, _, _, Jko⟩
theorem sc_law_take : Jky ["_law_stream_here", "_law_many", "_law_digit", "_law_number"] ["_law_stream_here", "_law_many"] (Jkt (top 66)) := ⟨rfl, rfl, rfl, by decide +kernel, rfl, by decide +kernel, by decide +kernel⟩
theorem Jm4 (T : Tx K mg a) : FnOk P w K mg base CX0 1 a.Jiq a.Jir ["_law_stream_here", "_law_many"] spTake := by
 refine T.Jr.fn.ok sc_law_take (fun vs H Q E h => ?_) (fun cdv A outer s H vs Q E hr h => ?_)
 ·obtain ⟨p, m, rfl, _⟩ := h
  rfl
 ·obtain ⟨p, m, rfl, ⟨a0, b0, c0, hp⟩, hm, hl, k⟩ := h
  refine ⟨_, (Jkq (Jui (Jl5 Jlk (Jl7 Jm1 (pv 0) Jks (fun _ _ => rfl)) Jks) (Jw5 (pv 0) Jks Jq3))
   (Jkq (Jle (Jlv Jv8 (Jl7 Jm1 (pv 0) Jks (fun _ _ => rfl)) Jks (Jli _)) (Jkq (Jl3 (i := 2) sc_law_take.nd rfl (Or.inl rfl) (Jl5 Jok (Jl7 Jm1 (pv 0) Jks (fun _ _ => rfl)) (pv 1)))
    (Jkq (Jui (Jl5 Js6 (Jl7 Jm1 (pv 0) Jks (fun _ _ => rfl)) (pv 1)) (Jw5 (pv 0) Jks Jq3))
    (Jkr (Jl0 (pv 2))))) Jl2)
   (Jkq (Jl3 (i := 3) sc_law_take.nd rfl (Or.inl rfl) (Jl5 Jok (Jl5 Jol (Jl5 Jlk (Jl7 Jm1 (pv 0) Jks (fun _ _ => rfl)) (Jl5 Jol Jks (Jl7 Jm1 (pv 0) Jks (fun _ _ => rfl)))) Jks) Jks))
   (Jkq (Jl3 (i := 3) sc_law_take.nd rfl (Or.inl rfl) (Jl5 Jok (Jl5 Jol (pv 3) (pv 3)) Jks))
   (Jkr (Jl0 (Jl5 Jok (Jl5 Js6 (Jl5 Jok (Jl5 Jlk (Jl5 Jol (pv 3) (Jl5 Jlk (pv 3) Jks)) (Jl5 Jol Jks (Jl7 Jm1 (pv 0) Jks (fun _ _ => rfl)))) Jks) Jks) (pv 1)))))))), ?_⟩
  refine ⟨_, rfl, p, _, _, _, rfl, rfl, SqL.of hp, rfl, _, _, rfl, rfl, _, rfl, p, _, _, _, rfl, rfl, hp, rfl, ?_⟩
  refine ⟨_, rfl, p, _, _, _, rfl, rfl, SqL.of Jko, rfl, _, _, rfl, rfl, _, rfl, ite2 (fun _ => ?_) (fun _ => ?_)⟩
  ·refine ⟨_, rfl, p, _, _, _, rfl, rfl, SqL.of Jko, rfl, _, rfl, _, _, rfl, rfl, hm, ?_⟩
   refine ⟨_, rfl, p, _, _, _, rfl, rfl, SqL.of Jko, rfl, _, rfl, _, _, rfl, rfl, ⟨hm, hl⟩, _, rfl, p, _, _, _, rfl, rfl, Jko, rfl, ?_⟩
   refine ⟨_, rfl, k _ _ (Int.emod_nonneg _ (by omega)) (Int.emod_lt_of_pos _ hm) ⟨fun b o ne e => ?_, _, _, _, Jko⟩⟩
   rw [Jkv ne, Jkv ne]
   exact e
  ·refine ⟨_, rfl, p, _, _, _, rfl, rfl, SqL.of Jko, rfl, _, rfl, p, _, _, _, rfl, rfl, SqL.of Jko, rfl, _, _, rfl, rfl, .inl ⟨by decide, by decide⟩, _, _, rfl, rfl, _, _, rfl, rfl, .inr ⟨by decide, by decide⟩, _, _, rfl, rfl, (by show (0 : Int) < 2147483629; decide), ?_⟩
   have n1 : ∀ x : Int, -(2 ^ 64) < x % 2147483629 ∧ x % 2147483629 < 2 ^ 64 := fun x => by
    have h1 := Int.emod_nonneg x (show (2147483629 : Int) ≠ 0 by decide)
    have h2 := Int.emod_lt_of_pos x (show (0 : Int) < 2147483629 by decide)
    constructor <;> omega
   have n2 : ∀ x : Int, -(2 ^ 64) < x % 2147483587 ∧ x % 2147483587 < 2 ^ 64 := fun x => by
    have h1 := Int.emod_nonneg x (show (2147483587 : Int) ≠ 0 by decide)
    have h2 := Int.emod_lt_of_pos x (show (0 : Int) < 2147483587 by decide)
    constructor <;> omega
   refine ⟨_, rfl, _, rfl, _, _, rfl, rfl, .inl (n1 _), _, _, rfl, rfl, (by show (0 : Int) < 2147483587; decide), ?_⟩
   refine ⟨_, rfl, _, rfl, _, _, rfl, rfl, _, _, rfl, rfl, .inl (n2 _), _, rfl, p, _, _, _, rfl, rfl, SqL.of Jko, rfl, _, _, rfl, rfl, .inl ⟨by decide, by decide⟩, _, _, rfl, rfl, _, _, rfl, rfl, (by show (0 : Int) < 2147483647; decide), _, _, rfl, rfl, ⟨by decide, by decide⟩, _, rfl, _, _, rfl, rfl, hm, ?_⟩
   refine k _ _ (Int.emod_nonneg _ (by omega)) (Int.emod_lt_of_pos _ hm) ⟨fun b o ne e => ?_, _, _, _, Jko⟩
   rw [Jkv ne]
   exact e
end
section
variable {P : Program} {w : World} {K : W.Frag} {mg : Str → Option Value} {base : Heap} {a : Ad}
theorem Jpj : Jky ["self", "thing"] ["self", "thing"] (Jkt (Jkx (top 3) 0)) := ⟨rfl, rfl, rfl, by decide +kernel, rfl, by decide +kernel, by decide +kernel⟩
theorem Joh (T : Tx K mg a) : FnOk P w K mg base CX0 1 a.Jfo a.Jfp ["self", "thing"] (Jn2 K "thing") := by
 refine T.Jbl.fn.ok Jpj (fun vs H Q E h => ?_) (fun cdv A outer s H vs Q E hr h => ?_)
 ·obtain ⟨e, C, W, fI, y, rfl, _⟩ := h
  rfl
 ·obtain ⟨e, C, W, fI, y, rfl, q, c, n, k⟩ := h
  refine ⟨_, (Jkr (Jn0 (pv 0) (pv 1) rfl)), ?_⟩
  exact ⟨_, rfl, _, rfl, e, C, W, fI, true, rfl, q, c, n, k⟩
theorem Jp2 : Jky ["self", "thing"] ["self", "thing"] (Jkt (Jkx (top 5) 0)) := ⟨rfl, rfl, rfl, by decide +kernel, rfl, by decide +kernel, by decide +kernel⟩
theorem Jr4 (T : Tx K mg a) : FnOk P w K mg base CX0 1 a.Jfs a.Jft ["self", "thing"] (Jn2 K "thing") := by
 refine T.Jbn.fn.ok Jp2 (fun vs H Q E h => ?_) (fun cdv A outer s H vs Q E hr h => ?_)
 ·obtain ⟨e, C, W, fI, y, rfl, _⟩ := h
  rfl
 ·obtain ⟨e, C, W, fI, y, rfl, q, c, n, k⟩ := h
  refine ⟨_, (Jkr (Jn0 (pv 0) (pv 1) rfl)), ?_⟩
  exact ⟨_, rfl, _, rfl, e, C, W, fI, true, rfl, q, c, n, k⟩
theorem Jpl : Jky ["self", "thing"] ["self", "thing"] (Jkt (Jkx (top 6) 0)) := ⟨rfl, rfl, rfl, by decide +kernel, rfl, by decide +kernel, by decide +kernel⟩
theorem Jrz (T : Tx K mg a) : FnOk P w K mg base CX0 1 a.Jfu a.Jfv ["self", "thing"] (Jn2 K "thing") := by
 refine T.Jbo.fn.ok Jpl (fun vs H Q E h => ?_) (fun cdv A outer s H vs Q E hr h => ?_)
 ·obtain ⟨e, C, W, fI, y, rfl, _⟩ := h
  rfl
 ·obtain ⟨e, C, W, fI, y, rfl, q, c, n, k⟩ := h
  refine ⟨_, (Jkr (Jn0 (pv 0) (pv 1) rfl)), ?_⟩
  exact ⟨_, rfl, _, rfl, e, C, W, fI, true, rfl, q, c, n, k⟩
theorem Jt2 : Jky ["text", "signs"] ["text", "signs"] (Jkt (top 17)) := ⟨rfl, rfl, rfl, by decide +kernel, rfl, by decide +kernel, by decide +kernel⟩
theorem Jsw (T : Tx K mg a) : FnOk P w K mg base CX0 1 a.Jga a.Jgb ["text", "signs"] spMade := by
 refine T.J1.fn.ok Jt2 (fun vs H Q E h => ?_) (fun cdv A outer s H vs Q E hr h => ?_)
 ·obtain ⟨z, g, rfl, _⟩ := h
  rfl
 ·obtain ⟨z, g, rfl, hz, k⟩ := h
  refine ⟨_, (Jkr (Jl0 (Jkz (Joc rfl) (by rfl) T.Jam Jri (Jkn (Jll (N := (["sign", "signs"] : List Str)) (ini := [none, some 1]) rfl (pi_str (pv 0)) (fun _ _ _ _ _ => (Jl1 (i := 0) (by decide +kernel : (["sign", "signs"] : List Str).Nodup) rfl (Or.inl rfl))) (fun _ _ _ _ _ => Jlm) (fun _ _ _ _ _ => (Jmk Jxw (pv 0) (pv 1) (by with_unfolding_all rfl)))) Jkp)))), ?_⟩
  refine ⟨_, rfl, z, rfl, fun D hD => ?_⟩
  refine Jyk (z := z) (D := D) (fun i σ H' => ∃ o, σ = [o, some (.str g)] ∧ H' = upd H D (.lst ((z.cps.toList.take i).map fun c => V.bl (decide (c ∈ g.cps.toList))))) ?_ ?_ ?_
  ·exact ⟨none, rfl, rfl⟩
  ·rintro i c σ H' hc ⟨o, rfl, rfl⟩
   refine Jma ⟨_, rfl, _, rfl, ⟨#[c]⟩, g, rfl, rfl, _, Jko, ?_, _, rfl, ?_⟩
   ·rw [List.length_map, List.length_take, Jwz]
    exact Jlo (by omega)
   ·rw [Jmp, StrLaws.found_one]
    have e : z.cps.toList[i]? = some c := by simpa using hc
    rw [List.take_add_one, e]
    simp
  ·rintro σ H' ⟨o, rfl, rfl⟩
   have e : z.cps.toList.take z.cps.size = z.cps.toList := List.take_of_length_le (by simp)
   refine ⟨D, z.cps.toList.map fun c => decide (c ∈ g.cps.toList), rfl, SqL.of (by rw [Jko, e, List.map_map]; rfl), ?_⟩
   have e2 : (z.cps.toList.map fun c => decide (c ∈ g.cps.toList)).all id = Jt8 g z := by
    unfold Jt8
    rw [List.all_map]
    rfl
   rw [e2]
   exact k _ (Same.upd hD)
theorem Yq {H : Hp} {x : V} (h : Tm K H x) (n : ∀ z, x ≠ .str z) : ∃ t, TyX K H x t ∧ W.kitOne K t (.type "str") = some false := by
 rcases h with ⟨i, rfl⟩ | ⟨t, ty, ht⟩
 ·exact ⟨_, .of (.int i), rfl⟩
 ·refine ⟨t, ty, ?_⟩
  unfold tpB at ht
  simp only [List.contains_cons, List.contains_nil, Bool.or_false, Bool.or_eq_true, beq_iff_eq] at ht
  rcases ht with rfl | rfl | rfl | rfl | rfl | rfl
  ·rfl
  ·obtain ⟨z, e⟩ := ty_str ty rfl
   exact absurd e (n z)
  ·rfl
  ·rfl
  ·rfl
  ·rfl
theorem Jw8 : Jky ["thing"] ["thing"] (Jkt (top 18)) := ⟨rfl, rfl, rfl, by decide +kernel, rfl, by decide +kernel, by decide +kernel⟩
theorem Js1 (T : Tx K mg a) : FnOk P w K mg base CX0 2 a.Jgc a.Jgd ["thing"] (spName K) := by
 have G_is_made_of := Jsw (P := P) (w := w) (base := base) T
 refine T.J2.fn.ok Jw8 (fun vs H Q E h => ?_) (fun cdv A outer s H vs Q E hr h => ?_)
 ·obtain ⟨x, rfl, _⟩ := h
  rfl
 ·obtain ⟨x, rfl, nm, k⟩ := h
  refine ⟨_, (Jkq (Jle (Jlc (Jld (Jkz Jlx (by rfl) T.Jaq Jl4 (Jkn (pv 0) (Jkn (Jmj (v := .ty "str") (by rfl) T.Jax bt_str rfl) Jkp))))) (Jkr (Jl0 Jly)) Jl2)
   (Jkr (Jl0 (Js9 (Jsb Jo6 Jo6 Jks (Jkz Ju1 (by rfl) T.Jar Jmc (Jkn (pv 0) Jkp)) (Jls (by rfl) T.Jab (v := .int 8) ⟨_, rfl⟩)) (Jsc (Jku T.J1 G_is_made_of hr (by decide) (Jkn (pv 0) (Jkn (Jls (by rfl) T.Jaa (v := .str "abcdefghijklmnopqrstuvwxyz") ⟨_, rfl⟩) Jkp)))))))), ?_⟩
  by_cases hx : ∃ z, x = .str z
  ·obtain ⟨z, rfl⟩ := hx
   have k : ∀ H', Same H H' → Q (.bl (Jof z)) H' := k
   have hz : z.length ≤ 2000 := by have := (nm.2 z rfl).len; omega
   refine ⟨_, rfl, _, _, _, _, _, rfl, rfl, .of (.str z), (by rfl : W.kitOne K (.type "str") (.type "str") = some true), _, rfl, Jlj ?_⟩
   refine ⟨_, rfl, z, rfl, Jmo _ hz, _, _, rfl, rfl, _, rfl, ?_⟩
   have no : ¬ (1 ≤ z.length ∧ z.length ≤ 8) → Q (.bl false) H := fun q => by
    have k' := k H (Same.refl H)
    unfold Jof at k'
    rw [decide_eq_false q, Bool.false_and] at k'
    exact k'
   by_cases h1 : (1 : Int) ≤ (z.length : Int)
   ·rw [decide_eq_true h1]
    refine Jlt ⟨_, _, rfl, rfl, _, rfl, ?_⟩
    by_cases h2 : (z.length : Int) ≤ 8
    ·rw [decide_eq_true h2]
     refine Jlt ⟨_, rfl, z, _, rfl, hz, fun H' s' => ?_⟩
     have e : Jof z = Jt8 LET z := by
      unfold Jof
      rw [decide_eq_true (by omega : 1 ≤ z.length ∧ z.length ≤ 8), Bool.true_and]
     have k' := k H' s'
     rw [e] at k'
     exact k'
    ·rw [decide_eq_false h2]
     exact Jlj (no (by omega))
   ·rw [decide_eq_false h1]
    exact Jlj ⟨_, rfl, Jlj (no (by omega))⟩
  ·obtain ⟨t, ty, e1⟩ := Yq nm.1 fun z e => hx ⟨z, e⟩
   have k' := k H (Same.refl H)
   have e : Jn5 x = false := by
    cases x with
    | str z => exact absurd ⟨z, rfl⟩ hx
    | _ => rfl
   rw [e] at k'
   exact ⟨_, rfl, _, _, _, _, _, rfl, rfl, ty, e1, _, rfl, Jlt k'⟩
theorem Jpp : Jky ["thing", "low", "high"] ["thing", "low", "high"] (Jkt (top 56)) := ⟨rfl, rfl, rfl, by decide +kernel, rfl, by decide +kernel, by decide +kernel⟩
theorem Jpg (T : Tx K mg a) : FnOk P w K mg base (CXX P w) 3 a.Ji6 a.Ji7 ["thing", "low", "high"] (Jy8 K a) := by
 have G_is_whole := Jm3 (P := P) (w := w) (base := base) T
 have G_NoBasin___init__ := Jr4 (P := P) (w := w) (base := base) T
 refine T.Jl.fn.okX Jpp (fun vs H Q E h => ?_) (fun cdv A outer s H vs Q E hr h => ?_)
 ·obtain ⟨x, lo, hi, rfl, _⟩ := h
  rfl
 ·obtain ⟨x, lo, hi, rfl, tm, h⟩ := h
  refine ⟨_, (Jkr (Jle (Jlc (Jld (Jku T.J0 G_is_whole hr (by decide) (Jkn (pv 0) (Jkn (pv 1) (Jkn (pv 2) Jkp)))))) (Jkr (Jln Jlp rfl (Jme T.Jch G_NoBasin___init__ hr (by decide) T.Jbn.bd T.Jb4 (Jkn (pv 0) Jkp)))) Jl2)), ?_⟩
  refine ⟨_, rfl, _, rfl, _, rfl, x, lo, hi, rfl, tm, _, rfl, ?_⟩
  rcases h with ⟨e, k⟩ | ⟨e, k⟩
  ·rw [e]
   exact Jlj k
  ·rw [e]
   exact Jlt (Jm9 T.Jch T.Jci rfl fun e dx h1 h2 h3 => k _ _ _ (RfC.new h1 h2 h3))
end
section
variable {P : Program} {w : World} {K : W.Frag} {mg : Str → Option Value} {base : Heap} {a : Ad}
theorem Jlq {f : Str} {v : V} : ∀ {fs : List (Str × V)}, (fs.map (·.1)).contains f = false → Jm6 f v fs = fs ++ [(f, v)]
 | [], _ => rfl
 | (g, x) :: r, h => by
  rw [List.map_cons, List.contains_cons, Bool.or_eq_false_iff] at h
  have ne : ¬ g = f := fun e => by
   have := h.1
   rw [e] at this
   simp at this
  show (if g = f then (g, v) :: r else (g, x) :: Jm6 f v r) = _
  rw [if_neg ne, Jlq h.2]
  rfl
theorem Jq0 : Jky ["self", "name", "low", "high", "start", "rain", "gate"] ["self", "name", "low", "high", "start", "rain", "gate"] (Jkt (Jkx (top 57) 0)) := ⟨rfl, rfl, rfl, by decide +kernel, rfl, by decide +kernel, by decide +kernel⟩
theorem Jst (T : Tx K mg a) : FnOk P w K mg base (CXX P w) 4 a.Ji8 a.Ji9 ["self", "name", "low", "high", "start", "rain", "gate"] (Ya9 K a) := by
 have G_is_name := Js1 (P := P) (w := w) (base := base) T
 have G_refuse_no_level := Jpg (P := P) (w := w) (base := base) T
 have G_NoName___init__ := Joh (P := P) (w := w) (base := base) T
 have G_NoGate___init__ := Jmx (P := P) (w := w) (base := base) T
 refine T.Jc9.fn.okX Jq0 (fun vs H Q E h => ?_) (fun cdv A outer s H vs Q E hr h => ?_)
 ·obtain ⟨p, dx, n, lo, hi, st, rn, g, gb, d, rfl, _⟩ := h
  rfl
 ·obtain ⟨p, dx, n, lo, hi, st, rn, g, gb, d, rfl, hp, nm, tlo, thi, tst, trn, gt, du, k⟩ := h
  refine ⟨?t, ?B, ?C⟩
  case B =>
   refine' Jkq (Jle (Jlc (Jld (Jku T.J2 G_is_name hr (by decide) (Jkn (pv 1) Jkp)))) (Jkr (Jln Jlp rfl (Jme T.Jcd G_NoName___init__ hr (by decide) T.Jbl.bd T.Jb2 (Jkn (pv 1) Jkp)))) Jl2) ?_
   rotate_left
   refine' Jkq (Jmu (Jmf T.Jl G_refuse_no_level Jlp hr (by decide) (Jkn (pv 2) (Jkn Jks (Jkn (Jls (by rfl) T.Jaf (v := .int 12) ⟨_, rfl⟩) Jkp))))) ?_
   rotate_left
   refine' Jkq (Jmu (Jmf T.Jl G_refuse_no_level Jlp hr (by decide) (Jkn (pv 3) (Jkn (pv 2) (Jkn (Jls (by rfl) T.Jaf (v := .int 12) ⟨_, rfl⟩) Jkp))))) ?_
   rotate_left
   refine' Jkq (Jmu (Jmf T.Jl G_refuse_no_level Jlp hr (by decide) (Jkn (pv 4) (Jkn (pv 2) (Jkn (pv 3) Jkp))))) ?_
   rotate_left
   refine' Jkq (Jmu (Jmf T.Jl G_refuse_no_level Jlp hr (by decide) (Jkn (pv 5) (Jkn Jks (Jkn (Jls (by rfl) T.Jag (v := .int 6) ⟨_, rfl⟩) Jkp))))) ?_
   rotate_left
   refine' Jkq (Jle (Jlc (Jld (Jkz Jlx (by rfl) T.Jaq Jl4 (Jkn (pv 6) (Jkn (Jls (by rfl) T.Jbd (v := .ref _) rfl) Jkp))))) (Jkr (Jln Jlp rfl (Jme T.Jcf G_NoGate___init__ hr (by decide) T.Jbm.bd T.Jb3 (Jkn (pv 6) Jkp)))) Jl2) ?_
   rotate_left
   refine' Jkq (Jlu (pv 0) (pv 1) rfl) ?_
   rotate_left
   refine' Jkq (Jlu (pv 0) (pv 2) rfl) ?_
   rotate_left
   refine' Jkq (Jlu (pv 0) (pv 3) rfl) ?_
   rotate_left
   refine' Jkq (Jlu (pv 0) (pv 4) rfl) ?_
   rotate_left
   refine' Jkq (Jlu (pv 0) (pv 5) rfl) ?_
   rotate_left
   exact (Jkr (Jlu (pv 0) (pv 6) rfl))
  refine ⟨_, rfl, n, rfl, nm, fun H1 s1 => ⟨_, rfl, ?_⟩⟩
  cases du with
  | name e =>
   rw [e]
   exact Jlt (Jm9 T.Jcd T.Jce rfl fun e dx h1 h2 h3 => k _ _ _ ((RfC.new h1 h2 h3).of s1))
  | low e1 e2 =>
   rw [e1]
   exact Jlj ⟨_, rfl, lo, 0, 12, rfl, tlo.same s1, .inr ⟨e2, fun c eo H' rf => k c eo H' (rf.of s1)⟩⟩
  | high l e1 e2 e3 e4 =>
   subst e2
   rw [e1]
   refine Jlj ⟨_, rfl, _, 0, 12, rfl, tlo.same s1, .inl ⟨e3, ?_⟩⟩
   exact ⟨_, rfl, _, rfl, hi, l, 12, rfl, thi.same s1, .inr ⟨e4, fun c eo H' rf => k c eo H' (rf.of s1)⟩⟩
  | start l h e1 e2 e3 e4 e5 e6 =>
   subst e2 e3
   rw [e1]
   refine Jlj ⟨_, rfl, _, 0, 12, rfl, tlo.same s1, .inl ⟨e4, ?_⟩⟩
   refine ⟨_, rfl, _, rfl, _, l, 12, rfl, thi.same s1, .inl ⟨e5, ?_⟩⟩
   exact ⟨_, rfl, _, rfl, _, rfl, st, l, h, rfl, tst.same s1, .inr ⟨e6, fun c eo H' rf => k c eo H' (rf.of s1)⟩⟩
  | rain l h e1 e2 e3 e4 e5 e6 e7 =>
   subst e2 e3
   rw [e1]
   refine Jlj ⟨_, rfl, _, 0, 12, rfl, tlo.same s1, .inl ⟨e4, ?_⟩⟩
   refine ⟨_, rfl, _, rfl, _, l, 12, rfl, thi.same s1, .inl ⟨e5, ?_⟩⟩
   refine ⟨_, rfl, _, rfl, _, rfl, st, l, h, rfl, tst.same s1, .inl ⟨e6, ?_⟩⟩
   exact ⟨_, rfl, rn, 0, 6, rfl, trn.same s1, .inr ⟨e7, fun c eo H' rf => k c eo H' (rf.of s1)⟩⟩
  | gate l h e1 e2 e3 e4 e5 e6 e7 e8 =>
   subst e2 e3 e8
   obtain ⟨t, ty, g1, g2, g3⟩ := gt
   rw [e1]
   refine Jlj ⟨_, rfl, _, 0, 12, rfl, tlo.same s1, .inl ⟨e4, ?_⟩⟩
   refine ⟨_, rfl, _, rfl, _, l, 12, rfl, thi.same s1, .inl ⟨e5, ?_⟩⟩
   refine ⟨_, rfl, _, rfl, _, rfl, st, l, h, rfl, tst.same s1, .inl ⟨e6, ?_⟩⟩
   refine ⟨_, rfl, rn, 0, 6, rfl, trn.same s1, .inl ⟨e7, ?_⟩⟩
   exact ⟨_, rfl, g, _, _, t, _, rfl, rfl, Jq4 s1 ty, g1, _, rfl, Jlt (Jm9 T.Jcf T.Jcg rfl fun e dx h1 h2 h3 => k _ _ _ ((RfC.new h1 h2 h3).of s1))⟩
  | good l h e1 e2 e3 e4 e5 e6 e7 e8 =>
   subst e2 e3 e8
   obtain ⟨t, ty, g1, g2, g3⟩ := gt
   rw [e1]
   refine Jlj ⟨_, rfl, _, 0, 12, rfl, tlo.same s1, .inl ⟨e4, ?_⟩⟩
   refine ⟨_, rfl, _, rfl, _, l, 12, rfl, thi.same s1, .inl ⟨e5, ?_⟩⟩
   refine ⟨_, rfl, _, rfl, _, rfl, st, l, h, rfl, tst.same s1, .inl ⟨e6, ?_⟩⟩
   refine ⟨_, rfl, rn, 0, 6, rfl, trn.same s1, .inl ⟨e7, ?_⟩⟩
   refine ⟨_, rfl, g, _, _, t, _, rfl, rfl, Jq4 s1 ty, g1, _, rfl, Jlj ?_⟩
   refine ⟨_, rfl, _, rfl, p, _, dx, [], rfl, s1 _ _ hp, T.Je0, T.Je3, by simp, ?_⟩
   rw [show Jm6 "name" n [] = ([("name", n)] : List (Str × V)) from rfl]
   refine ⟨_, rfl, _, rfl, p, _, dx, _, rfl, Jko, T.Je0, T.Je4, by simp, ?_⟩
   rw [show Jm6 "low" (.int l) [("name", n)] = ([("name", n), ("low", (.int l))] : List (Str × V)) from Jlq (fs := [("name", n)]) (show (["name"] : List Str).contains "low" = false by decide +kernel)]
   refine ⟨_, rfl, _, rfl, p, _, dx, _, rfl, Jko, T.Je0, T.Je5, by simp, ?_⟩
   rw [show Jm6 "high" (.int h) [("name", n), ("low", .int l)] = ([("name", n), ("low", .int l), ("high", (.int h))] : List (Str × V)) from Jlq (fs := [("name", n), ("low", .int l)]) (show (["name", "low"] : List Str).contains "high" = false by decide +kernel)]
   refine ⟨_, rfl, _, rfl, p, _, dx, _, rfl, Jko, T.Je0, T.Je6, by simp, ?_⟩
   rw [show Jm6 "start" st [("name", n), ("low", .int l), ("high", .int h)] = ([("name", n), ("low", .int l), ("high", .int h), ("start", st)] : List (Str × V)) from Jlq (fs := [("name", n), ("low", .int l), ("high", .int h)]) (show (["name", "low", "high"] : List Str).contains "start" = false by decide +kernel)]
   refine ⟨_, rfl, _, rfl, p, _, dx, _, rfl, Jko, T.Je0, T.Je7, by simp, ?_⟩
   rw [show Jm6 "rain" rn [("name", n), ("low", .int l), ("high", .int h), ("start", st)] = ([("name", n), ("low", .int l), ("high", .int h), ("start", st), ("rain", rn)] : List (Str × V)) from Jlq (fs := [("name", n), ("low", .int l), ("high", .int h), ("start", st)]) (show (["name", "low", "high", "start"] : List Str).contains "rain" = false by decide +kernel)]
   refine ⟨_, rfl, _, rfl, p, _, dx, _, rfl, Jko, T.Je0, T.Je8, by simp, ?_⟩
   rw [show Jm6 "gate" g [("name", n), ("low", .int l), ("high", .int h), ("start", st), ("rain", rn)] = ([("name", n), ("low", .int l), ("high", .int h), ("start", st), ("rain", rn), ("gate", g)] : List (Str × V)) from Jlq (fs := [("name", n), ("low", .int l), ("high", .int h), ("start", st), ("rain", rn)]) (show (["name", "low", "high", "start", "rain"] : List Str).contains "gate" = false by decide +kernel)]
   show Q .non _
   simp only [Jmp]
   exact k _ s1
theorem Jqr : Jky ["self", "name", "basin", "want"] ["self", "name", "basin", "want"] (Jkt (Jkx (top 58) 0)) := ⟨rfl, rfl, rfl, by decide +kernel, rfl, by decide +kernel, by decide +kernel⟩
theorem Ju7 (T : Tx K mg a) : FnOk P w K mg base (CXX P w) 4 a.Jia a.Jib ["self", "name", "basin", "want"] (spTown K a) := by
 have G_is_name := Js1 (P := P) (w := w) (base := base) T
 have G_is_whole := Jm3 (P := P) (w := w) (base := base) T
 have G_NoName___init__ := Joh (P := P) (w := w) (base := base) T
 have G_NoTown___init__ := Jrz (P := P) (w := w) (base := base) T
 refine T.Jca.fn.okX Jqr (fun vs H Q E h => ?_) (fun cdv A outer s H vs Q E hr h => ?_)
 ·obtain ⟨p, dx, n, b, wt, d, rfl, _⟩ := h
  rfl
 ·obtain ⟨p, dx, n, b, wt, d, rfl, hp, nm, nb, tw, du, k⟩ := h
  refine ⟨?t, ?B, ?C⟩
  case B =>
   refine' Jkq (Jle (Jlc (Jld (Jku T.J2 G_is_name hr (by decide) (Jkn (pv 1) Jkp)))) (Jkr (Jln Jlp rfl (Jme T.Jcd G_NoName___init__ hr (by decide) T.Jbl.bd T.Jb2 (Jkn (pv 1) Jkp)))) Jl2) ?_
   rotate_left
   refine' Jkq (Jle (Jlc (Jld (Jku T.J2 G_is_name hr (by decide) (Jkn (pv 2) Jkp)))) (Jkr (Jln Jlp rfl (Jme T.Jcd G_NoName___init__ hr (by decide) T.Jbl.bd T.Jb2 (Jkn (pv 2) Jkp)))) Jl2) ?_
   rotate_left
   refine' Jkq (Jle (Jlc (Jld (Jku T.J0 G_is_whole hr (by decide) (Jkn (pv 3) (Jkn Jks (Jkn (Jls (by rfl) T.Jah (v := .int 6) ⟨_, rfl⟩) Jkp)))))) (Jkr (Jln Jlp rfl (Jme T.Jcj G_NoTown___init__ hr (by decide) T.Jbo.bd T.Jb5 (Jkn (pv 3) Jkp)))) Jl2) ?_
   rotate_left
   refine' Jkq (Jlu (pv 0) (pv 1) rfl) ?_
   rotate_left
   refine' Jkq (Jlu (pv 0) (pv 2) rfl) ?_
   rotate_left
   exact (Jkr (Jlu (pv 0) (pv 3) rfl))
  refine ⟨_, rfl, n, rfl, nm, fun H1 s1 => ⟨_, rfl, ?_⟩⟩
  cases du with
  | name e =>
   rw [e]
   exact Jlt (Jm9 T.Jcd T.Jce rfl fun e dx h1 h2 h3 => k _ _ _ ((RfC.new h1 h2 h3).of s1))
  | basin e1 e2 =>
   rw [e1]
   refine Jlj ⟨_, rfl, b, rfl, nb.same s1, fun H2 s2 => ⟨_, rfl, ?_⟩⟩
   rw [e2]
   exact Jlt (Jm9 T.Jcd T.Jce rfl fun e dx h1 h2 h3 => k _ _ _ ((RfC.new h1 h2 h3).of (s1.trans s2)))
  | want e1 e2 e3 =>
   rw [e1]
   refine Jlj ⟨_, rfl, b, rfl, nb.same s1, fun H2 s2 => ⟨_, rfl, ?_⟩⟩
   rw [e2]
   refine Jlj ⟨_, rfl, wt, 1, 6, rfl, tw.same (s1.trans s2), _, rfl, ?_⟩
   rw [e3]
   exact Jlt (Jm9 T.Jcj T.Jck rfl fun e dx h1 h2 h3 => k _ _ _ ((RfC.new h1 h2 h3).of (s1.trans s2)))
  | good e1 e2 e3 =>
   rw [e1]
   refine Jlj ⟨_, rfl, b, rfl, nb.same s1, fun H2 s2 => ⟨_, rfl, ?_⟩⟩
   rw [e2]
   refine Jlj ⟨_, rfl, wt, 1, 6, rfl, tw.same (s1.trans s2), _, rfl, ?_⟩
   rw [e3]
   refine Jlj ⟨_, rfl, _, rfl, p, _, dx, [], rfl, s2 _ _ (s1 _ _ hp), T.Je9, T.Jec, by simp, ?_⟩
   rw [show Jm6 "name" n [] = ([("name", n)] : List (Str × V)) from rfl]
   refine ⟨_, rfl, _, rfl, p, _, dx, _, rfl, Jko, T.Je9, T.Jed, by simp, ?_⟩
   rw [show Jm6 "basin" b [("name", n)] = ([("name", n), ("basin", b)] : List (Str × V)) from Jlq (fs := [("name", n)]) (show (["name"] : List Str).contains "basin" = false by decide +kernel)]
   refine ⟨_, rfl, _, rfl, p, _, dx, _, rfl, Jko, T.Je9, T.Jee, by simp, ?_⟩
   rw [show Jm6 "want" wt [("name", n), ("basin", b)] = ([("name", n), ("basin", b), ("want", wt)] : List (Str × V)) from Jlq (fs := [("name", n), ("basin", b)]) (show (["name", "basin"] : List Str).contains "want" = false by decide +kernel)]
   show Q .non _
   simp only [Jmp]
   exact k _ (s1.trans s2)
end
section
variable {P : Program} {w : World} {K : W.Frag} {mg : Str → Option Value} {base : Heap} {a : Ad}
theorem ifF {b : Bool} {A B : Prop} (h : b = false) (k : B) : if b = true then A else B := by rw [h]; exact Jlj k
theorem ifT {b : Bool} {A B : Prop} (h : b = true) (k : A) : if b = true then A else B := by rw [h]; exact Jlt k
theorem Jt1 : Jky ["names"] ["names"] (Jkt (top 59)) := ⟨rfl, rfl, rfl, by decide +kernel, rfl, by decide +kernel, by decide +kernel⟩
theorem Jp7 (T : Tx K mg a) : FnOk P w K mg base CX0 1 a.Jic a.Jid ["names"] (Jzw K) := by
 refine T.Jm.fn.ok Jt1 (fun vs H Q E h => ?_) (fun cdv A outer s H vs Q E hr h => ?_)
 ·obtain ⟨l, zs, rfl, _⟩ := h
  rfl
 ·obtain ⟨l, zs, rfl, hq, hz, k⟩ := h
  refine ⟨_, (Jkr (Jl0 (Jmk Jo5 (Jkz Jrl (by rfl) T.Jar Jmc (Jkn (Jlf (Jrm rfl) (by rfl) T.Jaw bt_set (Jkn (pv 0) Jkp)) Jkp)) (Jkz Jl8 (by rfl) T.Jar Jmc (Jkn (pv 0) Jkp)) (Jli _)))), ?_⟩
  refine ⟨_, rfl, l, zs, rfl, hq, hz, fun t ht => ⟨t, zs, rfl, Jko, ?_⟩⟩
  have s1 := Same.upd (o := TxS P w t zs) ht
  refine ⟨_, rfl, l, _, rfl, .inl (s1.seq hq), rfl, ?_⟩
  have e : decide (V.int ((uq zs).length : Nat) = V.int ((zs.map V.str).length : Nat)) = decide ((uq zs).length = zs.length) := by
   rw [List.length_map]
   by_cases h : (uq zs).length = zs.length
   ·rw [decide_eq_true h, decide_eq_true (by rw [h])]
   ·rw [decide_eq_false h, decide_eq_false (fun q => h (by have := V.int.inj q; omega))]
  rw [e]
  exact k _ s1
theorem Jt0 : Jky ["thing"] ["thing"] (Jkt (top 60)) := ⟨rfl, rfl, rfl, by decide +kernel, rfl, by decide +kernel, by decide +kernel⟩
theorem Jsv (T : Tx K mg a) : FnOk P w K mg base CX0 2 a.Jie a.Jif ["thing"] (Jzi K a) := by
 have G_are_unlike := Jp7 (P := P) (w := w) (base := base) T
 refine T.Jn.fn.ok Jt0 (fun vs H Q E h => ?_) (fun cdv A outer s H vs Q E hr h => ?_)
 ·obtain ⟨l, os, Bs, rfl, _⟩ := h
  rfl
 ·obtain ⟨l, os, Bs, rfl, hl, bl, hn, nd, k⟩ := h
  have len := bl.len
  refine ⟨?t, ?B, ?C⟩
  case B =>
   refine' Jkq ?s1 ?r1
   case s1 =>
    refine' Jle ?c2 ?a2 ?b2
    case c2 =>
     exact (Jtv (Jlc (Jld (Jkz Jrk (by rfl) T.Jaq Jl4 (Jkn (pv 0) (Jkn (Jm8 (Jkn (Jmj (v := .ty "list") (by rfl) T.Jas Jn8 rfl) (Jkn (Jmj (v := .ty "tuple") (by rfl) T.Jaz Jm0 rfl) Jkp))) Jkp))))) (Jqq (Jlc (Jsg Jo6 Jo6 Jks (Jkz Jl8 (by rfl) T.Jar Jmc (Jkn (pv 0) Jkp)) (Jls (by rfl) T.Jaj (v := .int 16) ⟨_, rfl⟩))))).pt
    case a2 =>
     refine' Jkr ?s3
     case s3 =>
      exact (Jl0 Jly)
    case b2 =>
     exact Jl2
   case r1 =>
    refine' Jkq ?s7 ?r7
    case s7 =>
     refine' Jle ?c8 ?a8 ?b8
     case c8 =>
      exact (Jlc (Jld (Jkz (Joc rfl) (by rfl) T.Jam Jri (Jkn (Jll (N := (["basin"] : List Str)) (ini := [none]) rfl (Jm7 (pv 0)) (fun _ _ _ _ _ => (Jl1 (i := 0) (by decide +kernel : (["basin"] : List Str).Nodup) rfl (Or.inl rfl))) (fun _ _ _ _ _ => Jlm) (fun _ _ _ _ _ => (Jkz (Jte (K := K) rfl) (by rfl) T.Jaq Jl4 (Jkn (pv 0) (Jkn (Jls (by rfl) T.Jbi (v := .ref _) rfl) Jkp))))) Jkp))))
     case a8 =>
      refine' Jkr ?s9
      case s9 =>
       exact (Jl0 Jly)
     case b8 =>
      exact Jl2
    case r7 =>
     refine' Jkr ?s13
     case s13 =>
      exact (Jl0 (Jku T.Jm G_are_unlike hr (by decide) (Jkn (Jll (N := (["basin"] : List Str)) (ini := [none]) rfl (Jm7 (pv 0)) (fun _ _ _ _ _ => (Jl1 (i := 0) (by decide +kernel : (["basin"] : List Str).Nodup) rfl (Or.inl rfl))) (fun _ _ _ _ _ => Jlm) (fun _ _ _ _ _ => (Jmt (K := K) rfl (pv 0) (by rfl)))) Jkp)))
  refine ⟨_, rfl, (show 2 ≤ sizeLine by decide), fun p hp => ⟨_, p, _, _, .type "list", true, rfl, Jko, rfl, .of (.lst (Same.upd hp _ _ hl)), rfl, _, rfl, Jlj ?_⟩⟩
  have s1 := Same.upd (o := .tup [.ty "list", .ty "tuple"]) hp
  refine ⟨_, rfl, l, _, rfl, .inl (SqL.of (s1 _ _ hl)), _, _, rfl, rfl, _, rfl, ifT (by rw [List.length_map]; simp; omega) ⟨_, _, rfl, rfl, _, rfl, ifF (by rw [List.length_map]; simp; omega) ?_⟩⟩
  refine ⟨_, rfl, l, rfl, ⟨_, SqL.of (s1 _ _ hl)⟩, fun D hD => ?_⟩
  refine Jmg (K := K) (a := l) (xs := os.map V.ref) (D := D) (fun i σ H' => ∃ o, σ = [o] ∧ H' D = some (.lst ((List.replicate i true).map V.bl)) ∧ Same (upd H p (.tup [.ty "list", .ty "tuple"])) H') ⟨_, rfl, Jko, Same.upd hD⟩ (fun i σ H' _ ⟨o, _, _, sm⟩ => SqL.of (sm _ _ (s1 _ _ hl))) ?_ ?_
  ·rintro i v σ H' hv ⟨o, rfl, hDs, sm⟩
   obtain ⟨ob, B, rfl, hB, dx, hb, gs⟩ := (bl.same (s1.trans sm)).get hv
   have hi : i < os.length := by have := (List.getElem?_eq_some_iff.mp hv).1; rwa [List.length_map] at this
   refine Jma ⟨_, rfl, _, _, _, _, true, rfl, rfl, .of (T.Je1.ty T.Je0 hb), T.Jeq, _, hDs, ?_, _, rfl, ?_, fun c o z => ?_⟩
   ·rw [List.length_map, List.length_replicate]
    exact Jlo (by omega)
   ·rw [Jko, List.replicate_succ', List.map_append]
    rfl
   ·rw [Jkv (Jkw z hD)]
    exact sm _ _ z
  rintro σ H1 ⟨o, rfl, hDs, sm⟩
  refine ⟨D, _, rfl, SqL.of hDs, _, rfl, ifF (by simp) ?_⟩
  have s2 := s1.trans sm
  refine ⟨_, rfl, l, rfl, ⟨_, SqL.of (s2 _ _ hl)⟩, fun D2 hD2 => ?_⟩
  refine Jmg (K := K) (a := l) (xs := os.map V.ref) (D := D2) (fun i σ H' => ∃ o, σ = [o] ∧ H' D2 = some (.lst (((Bs.take i).map (·.z)).map V.str)) ∧ Same H1 H') ⟨_, rfl, Jko, Same.upd hD2⟩ (fun i σ H' _ ⟨o, _, _, sm⟩ => SqL.of (sm _ _ (s2 _ _ hl))) ?_ ?_
  ·rintro i v σ H' hv ⟨o, rfl, hDs, sm3⟩
   obtain ⟨ob, B, rfl, hB, dx, hb, gs⟩ := (bl.same (s2.trans sm3)).get hv
   refine Jma ⟨_, rfl, ob, _, dx, _, _, rfl, hb, T.Je0, T.Je3, rfl, _, hDs, ?_, _, rfl, ?_, fun c o z => ?_⟩
   ·rw [List.length_map, List.length_map, List.length_take]
    exact Jlo (by omega)
   ·rw [Jko, List.take_add_one, hB]
    simp
   ·rw [Jkv (Jkw z hD2)]
    exact sm3 _ _ z
  rintro σ H2 ⟨o, rfl, hDs, sm3⟩
  rw [List.length_map, List.take_of_length_le (by omega)] at hDs
  refine ⟨D2, Bs.map (·.z), rfl, SqL.of hDs, by rw [List.length_map]; omega, fun H3 s3 => ?_⟩
  rw [Jvk nd, decide_eq_true rfl]
  exact k _ ((s2.trans sm3).trans s3)
theorem sc_are_towns : Jky ["thing", "basins", "names"] ["thing", "basins"] (Jkt (top 61)) := ⟨rfl, rfl, rfl, by decide +kernel, rfl, by decide +kernel, by decide +kernel⟩
theorem Jua (T : Tx K mg a) : FnOk P w K mg base CX0 2 a.Jig a.Jih ["thing", "basins"] (Yam K a) := by
 have G_are_unlike := Jp7 (P := P) (w := w) (base := base) T
 refine T.Jo.fn.ok sc_are_towns (fun vs H Q E h => ?_) (fun cdv A outer s H vs Q E hr h => ?_)
 ·obtain ⟨l, m, os, ts, Bs, Ts, rfl, _⟩ := h
  rfl
 ·obtain ⟨l, m, os, ts, Bs, Ts, rfl, hl, bl, hn, hm, tl, tn, nd, inn, k⟩ := h
  have len := bl.len
  have tlen := tl.len
  refine ⟨?t, ?B, ?C⟩
  case B =>
   refine' Jkq ?s1 ?r1
   case s1 =>
    refine' Jle ?c2 ?a2 ?b2
    case c2 =>
     exact (Jtv (Jlc (Jld (Jkz Jrk (by rfl) T.Jaq Jl4 (Jkn (pv 0) (Jkn (Jm8 (Jkn (Jmj (v := .ty "list") (by rfl) T.Jas Jn8 rfl) (Jkn (Jmj (v := .ty "tuple") (by rfl) T.Jaz Jm0 rfl) Jkp))) Jkp))))) (Jqq (Jlv Jv8 (Jkz Jl8 (by rfl) T.Jar Jmc (Jkn (pv 0) Jkp)) (Jls (by rfl) T.Jak (v := .int 3) ⟨_, rfl⟩) (Jli _)))).pt
    case a2 =>
     refine' Jkr ?s3
     case s3 =>
      exact (Jl0 Jly)
    case b2 =>
     exact Jl2
   case r1 =>
    refine' Jkq ?s7 ?r7
    case s7 =>
     refine' Jle ?c8 ?a8 ?b8
     case c8 =>
      exact (Jlc (Jld (Jkz (Joc rfl) (by rfl) T.Jam Jri (Jkn (Jll (N := (["town"] : List Str)) (ini := [none]) rfl (Jm7 (pv 0)) (fun _ _ _ _ _ => (Jl1 (i := 0) (by decide +kernel : (["town"] : List Str).Nodup) rfl (Or.inl rfl))) (fun _ _ _ _ _ => Jlm) (fun _ _ _ _ _ => (Jkz (Jte (K := K) rfl) (by rfl) T.Jaq Jl4 (Jkn (pv 0) (Jkn (Jls (by rfl) T.Jbj (v := .ref _) rfl) Jkp))))) Jkp))))
     case a8 =>
      refine' Jkr ?s9
      case s9 =>
       exact (Jl0 Jly)
     case b8 =>
      exact Jl2
    case r7 =>
     refine' Jkq ?s13 ?r13
     case s13 =>
      exact (Jl3 (i := 2) sc_are_towns.nd rfl (Or.inr rfl) (Jll (N := (["basin"] : List Str)) (ini := [none]) rfl (Jm7 (pv 1)) (fun _ _ _ _ _ => (Jl1 (i := 0) (by decide +kernel : (["basin"] : List Str).Nodup) rfl (Or.inl rfl))) (fun _ _ _ _ _ => Jlm) (fun _ _ _ _ _ => (Jmt (K := K) rfl (pv 0) (by rfl)))))
     case r13 =>
      refine' Jkr ?s15
      case s15 =>
       exact (Jl0 (Js9 (Jku T.Jm G_are_unlike hr (by decide) (Jkn (Jll (N := (["town"] : List Str)) (ini := [none]) rfl (Jm7 (pv 0)) (fun _ _ _ _ _ => (Jl1 (i := 0) (by decide +kernel : (["town"] : List Str).Nodup) rfl (Or.inl rfl))) (fun _ _ _ _ _ => Jlm) (fun _ _ _ _ _ => (Jmt (K := K) rfl (pv 0) (by rfl)))) Jkp)) (Jsc (Jkz (Joc rfl) (by rfl) T.Jam Jri (Jkn (Jll (N := (["town", "names"] : List Str)) (ini := [none, some 2]) rfl (Jm7 (pv 0)) (fun _ _ _ _ _ => (Jl1 (i := 0) (by decide +kernel : (["town", "names"] : List Str).Nodup) rfl (Or.inl rfl))) (fun _ _ _ _ _ => Jlm) (fun _ _ _ _ _ => (Jmk (Jw3 (K := K) rfl) (Jmt (K := K) rfl (pv 0) (by rfl)) (pv 1) (by with_unfolding_all rfl)))) Jkp)))))
  refine ⟨_, rfl, (show 2 ≤ sizeLine by decide), fun p hp => ⟨_, p, _, _, .type "list", true, rfl, Jko, rfl, .of (.lst (Same.upd hp _ _ hm)), rfl, _, rfl, Jlj ?_⟩⟩
  have s1 := Same.upd (o := .tup [.ty "list", .ty "tuple"]) hp
  refine ⟨_, rfl, m, _, rfl, .inl (SqL.of (s1 _ _ hm)), _, _, rfl, rfl, _, rfl, ifF (by rw [List.length_map]; simp; omega) ?_⟩
  refine ⟨_, rfl, m, rfl, ⟨_, SqL.of (s1 _ _ hm)⟩, fun D hD => ?_⟩
  refine Jmg (K := K) (a := m) (xs := ts.map V.ref) (D := D) (fun i σ H' => ∃ o, σ = [o] ∧ H' D = some (.lst ((List.replicate i true).map V.bl)) ∧ Same (upd H p (.tup [.ty "list", .ty "tuple"])) H') ⟨_, rfl, Jko, Same.upd hD⟩ (fun i σ H' _ ⟨o, _, _, sm⟩ => SqL.of (sm _ _ (s1 _ _ hm))) ?_ ?_
  ·rintro i v σ H' hv ⟨o, rfl, hDs, sm⟩
   obtain ⟨ob, B, rfl, hB, dx, hb⟩ := (tl.same (s1.trans sm)).get hv
   have hi : i < ts.length := by have := (List.getElem?_eq_some_iff.mp hv).1; rwa [List.length_map] at this
   refine Jma ⟨_, rfl, _, _, _, _, true, rfl, rfl, .of (T.Jea.ty T.Je9 hb), T.Jer, _, hDs, ?_, _, rfl, ?_, fun c o z => ?_⟩
   ·rw [List.length_map, List.length_replicate]
    exact Jlo (by omega)
   ·rw [Jko, List.replicate_succ', List.map_append]
    rfl
   ·rw [Jkv (Jkw z hD)]
    exact sm _ _ z
  rintro σ H1 ⟨o, rfl, hDs, sm⟩
  refine ⟨D, _, rfl, SqL.of hDs, _, rfl, ifF (by simp) ?_⟩
  have s2 := s1.trans sm
  refine ⟨_, rfl, l, rfl, ⟨_, SqL.of (s2 _ _ hl)⟩, fun D2 hD2 => ?_⟩
  refine Jmg (K := K) (a := l) (xs := os.map V.ref) (D := D2) (fun i σ H' => ∃ o, σ = [o] ∧ H' D2 = some (.lst (((Bs.take i).map (·.z)).map V.str)) ∧ Same H1 H') ⟨_, rfl, Jko, Same.upd hD2⟩ (fun i σ H' _ ⟨o, _, _, sm⟩ => SqL.of (sm _ _ (s2 _ _ hl))) ?_ ?_
  ·rintro i v σ H' hv ⟨o, rfl, hDs, sm3⟩
   obtain ⟨ob, B, rfl, hB, dx, hb, gs⟩ := (bl.same (s2.trans sm3)).get hv
   refine Jma ⟨_, rfl, ob, _, dx, _, _, rfl, hb, T.Je0, T.Je3, rfl, _, hDs, ?_, _, rfl, ?_, fun c o z => ?_⟩
   ·rw [List.length_map, List.length_map, List.length_take]
    exact Jlo (by omega)
   ·rw [Jko, List.take_add_one, hB]
    simp
   ·rw [Jkv (Jkw z hD2)]
    exact sm3 _ _ z
  rintro σ H2 ⟨o, rfl, hD2s, sm3⟩
  rw [List.length_map, List.take_of_length_le (by omega)] at hD2s
  have s3 := s2.trans sm3
  refine ⟨_, rfl, m, rfl, ⟨_, SqL.of (s3 _ _ hm)⟩, fun D3 hD3 => ?_⟩
  refine Jmg (K := K) (a := m) (xs := ts.map V.ref) (D := D3) (fun i σ H' => ∃ o, σ = [o] ∧ H' D3 = some (.lst (((Ts.take i).map (·.z)).map V.str)) ∧ Same H2 H') ⟨_, rfl, Jko, Same.upd hD3⟩ (fun i σ H' _ ⟨o, _, _, sm⟩ => SqL.of (sm _ _ (s3 _ _ hm))) ?_ ?_
  ·rintro i v σ H' hv ⟨o, rfl, hDs, sm4⟩
   obtain ⟨ob, B, rfl, hB, dx, hb⟩ := (tl.same (s3.trans sm4)).get hv
   refine Jma ⟨_, rfl, ob, _, dx, _, _, rfl, hb, T.Je9, T.Jec, rfl, _, hDs, ?_, _, rfl, ?_, fun c o z => ?_⟩
   ·rw [List.length_map, List.length_map, List.length_take]
    exact Jlo (by omega)
   ·rw [Jko, List.take_add_one, hB]
    simp
   ·rw [Jkv (Jkw z hD3)]
    exact sm4 _ _ z
  rintro σ H3 ⟨o, rfl, hD3s, sm4⟩
  rw [List.length_map, List.take_of_length_le (by omega)] at hD3s
  refine ⟨D3, Ts.map (·.z), rfl, SqL.of hD3s, by rw [List.length_map]; omega, fun H4 s4 => ⟨_, rfl, ifT (by rw [Jvk nd, decide_eq_true rfl]) ?_⟩⟩
  have s5 := (s3.trans sm4).trans s4
  have hD24 := s4 _ _ (sm4 _ _ hD2s)
  refine ⟨_, rfl, m, rfl, ⟨_, SqL.of (s5 _ _ hm)⟩, fun D4 hD4 => ?_⟩
  refine Jmg (K := K) (a := m) (xs := ts.map V.ref) (D := D4) (fun i σ H' => ∃ o, σ = [o, some (.ref D2)] ∧ H' D4 = some (.lst ((List.replicate i true).map V.bl)) ∧ Same H4 H') ⟨_, rfl, Jko, Same.upd hD4⟩ (fun i σ H' _ ⟨o, _, _, sm⟩ => SqL.of (sm _ _ (s5 _ _ hm))) ?_ ?_
  ·rintro i v σ H' hv ⟨o, rfl, hDs, sm6⟩
   obtain ⟨ob, B, rfl, hB, dx, hb⟩ := (tl.same (s5.trans sm6)).get hv
   have hi : i < ts.length := by have := (List.getElem?_eq_some_iff.mp hv).1; rwa [List.length_map] at this
   refine Jma ⟨_, rfl, ob, _, dx, _, _, rfl, hb, T.Je9, T.Jed, rfl, _, rfl, D2, _, rfl, .inl (SqL.of (sm6 _ _ hD24)), rfl, by simp [Jnf], ?_⟩
   have e : inV (V.str B.b) ((Bs.map (·.z)).map V.str) = true := by
    obtain ⟨z, hz, ez⟩ := List.mem_map.mp (inn B (List.mem_of_getElem? hB))
    unfold inV
    refine List.any_eq_true.mpr ⟨V.str z.z, List.mem_map.mpr ⟨z.z, List.mem_map.mpr ⟨z, hz, rfl⟩, rfl⟩, ?_⟩
    simp [eqV, ez]
   show ∃ ys, _
   rw [if_neg Bool.false_ne_true, e]
   refine ⟨_, hDs, ?_, _, rfl, ?_, fun c o z => ?_⟩
   ·rw [List.length_map, List.length_replicate]
    exact Jlo (by omega)
   ·rw [Jko, List.replicate_succ', List.map_append]
    rfl
   ·rw [Jkv (Jkw z hD4)]
    exact sm6 _ _ z
  rintro σ H5 ⟨o, rfl, hD4s, sm6⟩
  refine ⟨D4, _, rfl, SqL.of hD4s, ?_⟩
  rw [show (List.replicate (ts.map V.ref).length true).all id = true by simp]
  exact k _ (s5.trans sm6)
end
section
variable {P : Program} {w : World} {K : W.Frag} {mg : Str → Option Value} {base : Heap} {a : Ad}
theorem Jp3 : Jky ["self", "thing"] ["self", "thing"] (Jkt (Jkx (top 7) 0)) := ⟨rfl, rfl, rfl, by decide +kernel, rfl, by decide +kernel, by decide +kernel⟩
theorem Jr5 (T : Tx K mg a) : FnOk P w K mg base CX0 1 a.Jfw a.Jfx ["self", "thing"] (Jn2 K "thing") := by
 refine T.Jbp.fn.ok Jp3 (fun vs H Q E h => ?_) (fun cdv A outer s H vs Q E hr h => ?_)
 ·obtain ⟨e, C, W, fI, y, rfl, _⟩ := h
  rfl
 ·obtain ⟨e, C, W, fI, y, rfl, q, c, n, k⟩ := h
  refine ⟨_, (Jkr (Jn0 (pv 0) (pv 1) rfl)), ?_⟩
  exact ⟨_, rfl, _, rfl, e, C, W, fI, true, rfl, q, c, n, k⟩
theorem Jp4 : Jky ["self", "thing"] ["self", "thing"] (Jkt (Jkx (top 8) 0)) := ⟨rfl, rfl, rfl, by decide +kernel, rfl, by decide +kernel, by decide +kernel⟩
theorem Jr6 (T : Tx K mg a) : FnOk P w K mg base CX0 1 a.Jfy a.Jfz ["self", "thing"] (Jn2 K "thing") := by
 refine T.Jbq.fn.ok Jp4 (fun vs H Q E h => ?_) (fun cdv A outer s H vs Q E hr h => ?_)
 ·obtain ⟨e, C, W, fI, y, rfl, _⟩ := h
  rfl
 ·obtain ⟨e, C, W, fI, y, rfl, q, c, n, k⟩ := h
  refine ⟨_, (Jkr (Jn0 (pv 0) (pv 1) rfl)), ?_⟩
  exact ⟨_, rfl, _, rfl, e, C, W, fI, true, rfl, q, c, n, k⟩
theorem Jvj {H : Hp} {p q : Addr} {o u : HO} (h : p ≠ q) : upd (upd H p o) q u = upd (upd H q u) p o := by
 funext c
 by_cases h1 : c = p
 ·subst h1
  rw [Jko, Jkv h, Jko]
 ·rw [Jkv h1]
  by_cases h2 : c = q
  ·subst h2
   rw [Jko, Jko]
  ·rw [Jkv h2, Jkv h2, Jkv h1]
def rivF (c g b t : V) : List (Str × V) := [("cloud", c), ("gain", g), ("basins", b), ("towns", t)]
def Yak (K : W.Frag) (a : Ad) : Sp := fun vs H Q _ => ∃ (p dx l m : Addr) (c g : Int) (os ts : List Addr) (Bs : List Bsn) (Ts : List Twn), vs = [.ref p, .int c, .int g, .ref l, .ref m] ∧ H p = some (.ins a.Jkm dx []) ∧ (0 ≤ c ∧ c ≤ 12) ∧ (0 ≤ g ∧ g ≤ c) ∧ H l = some (.lst (os.map V.ref)) ∧ BasL K a H os Bs ∧ (1 ≤ Bs.length ∧ Bs.length ≤ 16) ∧ (Bs.map (·.z)).Nodup ∧ H m = some (.lst (ts.map V.ref)) ∧ TwnL a H ts Ts ∧ Ts.length ≤ 3 ∧ (Ts.map (·.z)).Nodup ∧ (∀ t ∈ Ts, t.b ∈ Bs.map (·.z)) ∧ ∀ H' b t, Same H H' → H' b = some (.tup (os.map V.ref)) → H' t = some (.tup (ts.map V.ref)) → b ≠ p → t ≠ p → Q .non (upd H' p (.ins a.Jkm dx (rivF (.int c) (.int g) (.ref b) (.ref t))))
theorem Jnj {i lo hi : Int} (h1 : lo ≤ i) (h2 : i ≤ hi) : Jl6 (.int i) lo hi = true := by
 show (decide (lo ≤ i) && decide (i ≤ hi)) = true
 rw [decide_eq_true h1, decide_eq_true h2]
 rfl
theorem Jq1 : Jky ["self", "cloud", "gain", "basins", "towns"] ["self", "cloud", "gain", "basins", "towns"] (Jkt (Jkx (top 62) 0)) := ⟨rfl, rfl, rfl, by decide +kernel, rfl, by decide +kernel, by decide +kernel⟩
theorem Jsu (T : Tx K mg a) : FnOk P w K mg base (CXX P w) 4 a.Jii a.Jij ["self", "cloud", "gain", "basins", "towns"] (Yak K a) := by
 have G_is_whole := Jm3 (P := P) (w := w) (base := base) T
 have G_are_basins := Jsv (P := P) (w := w) (base := base) T
 have G_are_towns := Jua (P := P) (w := w) (base := base) T
 have G_NoCloud___init__ := Jr5 (P := P) (w := w) (base := base) T
 have G_NoRiver___init__ := Jr6 (P := P) (w := w) (base := base) T
 refine T.Jcb.fn.okX Jq1 (fun vs H Q E h => ?_) (fun cdv A outer s H vs Q E hr h => ?_)
 ·obtain ⟨p, dx, l, m, c, g, os, ts, Bs, Ts, rfl, _⟩ := h
  rfl
 ·obtain ⟨p, dx, l, m, c, g, os, ts, Bs, Ts, rfl, hp, hc, hg, hl, bl, hn, nd, hm, tl, tn, tnd, inn, k⟩ := h
  refine ⟨?t, ?B, ?C⟩
  case B =>
   refine' Jkq ?s1 ?r1
   case s1 =>
    refine' Jle ?c2 ?a2 ?b2
    case c2 =>
     exact (Jlc (Jld (Jku T.J0 G_is_whole hr (by decide) (Jkn (pv 1) (Jkn Jks (Jkn (Jls (by rfl) T.Jai (v := .int 12) ⟨_, rfl⟩) Jkp))))))
    case a2 =>
     refine' Jkr ?s3
     case s3 =>
      exact (Jln Jlp rfl (Jme T.Jcl G_NoCloud___init__ hr (by decide) T.Jbp.bd T.Jb6 (Jkn (pv 1) Jkp)))
    case b2 =>
     exact Jl2
   case r1 =>
    refine' Jkq ?s6 ?r6
    case s6 =>
     refine' Jle ?c7 ?a7 ?b7
     case c7 =>
      exact (Jlc (Jld (Jku T.J0 G_is_whole hr (by decide) (Jkn (pv 2) (Jkn Jks (Jkn (pv 1) Jkp))))))
     case a7 =>
      refine' Jkr ?s8
      case s8 =>
       exact (Jln Jlp rfl (Jme T.Jcl G_NoCloud___init__ hr (by decide) T.Jbp.bd T.Jb6 (Jkn (pv 2) Jkp)))
     case b7 =>
      exact Jl2
    case r6 =>
     refine' Jkq ?s11 ?r11
     case s11 =>
      refine' Jle ?c12 ?a12 ?b12
      case c12 =>
       exact (Jlc (Jld (Jku T.Jn G_are_basins hr (by decide) (Jkn (pv 3) Jkp))))
      case a12 =>
       refine' Jkr ?s13
       case s13 =>
        exact (Jln Jlp rfl (Jme T.Jcm G_NoRiver___init__ hr (by decide) T.Jbq.bd T.Jb7 (Jkn (pv 3) Jkp)))
      case b12 =>
       exact Jl2
     case r11 =>
      refine' Jkq ?s16 ?r16
      case s16 =>
       refine' Jle ?c17 ?a17 ?b17
       case c17 =>
        exact (Jlc (Jld (Jku T.Jo G_are_towns hr (by decide) (Jkn (pv 4) (Jkn (pv 3) Jkp)))))
       case a17 =>
        refine' Jkr ?s18
        case s18 =>
         exact (Jln Jlp rfl (Jme T.Jcm G_NoRiver___init__ hr (by decide) T.Jbq.bd T.Jb7 (Jkn (pv 4) Jkp)))
       case b17 =>
        exact Jl2
      case r16 =>
       refine' Jkq ?s21 ?r21
       case s21 =>
        exact (Jlu (pv 0) (pv 1) rfl)
       case r21 =>
        refine' Jkq ?s23 ?r23
        case s23 =>
         exact (Jlu (pv 0) (pv 2) rfl)
        case r23 =>
         refine' Jkq ?s25 ?r25
         case s25 =>
          exact (Jlu (pv 0) (Jlf Jlr (by rfl) T.Jaz Jm0 (Jkn (pv 3) Jkp)) rfl)
         case r25 =>
          refine' Jkr ?s27
          case s27 =>
           exact (Jlu (pv 0) (Jlf Jlr (by rfl) T.Jaz Jm0 (Jkn (pv 4) Jkp)) rfl)
  refine ⟨_, rfl, _, 0, 12, rfl, .inl ⟨_, rfl⟩, _, rfl, ifF (by rw [Jnj hc.1 hc.2]; rfl) ?_⟩
  refine ⟨_, rfl, _, rfl, _, 0, c, rfl, .inl ⟨_, rfl⟩, _, rfl, ifF (by rw [Jnj hg.1 hg.2]; rfl) ?_⟩
  refine ⟨_, rfl, l, os, Bs, rfl, hl, bl, hn, nd, fun H1 s1 => ⟨_, rfl, Jlj ?_⟩⟩
  refine ⟨_, rfl, _, rfl, l, m, os, ts, Bs, Ts, rfl, s1 _ _ hl, bl.same s1, hn.2, s1 _ _ hm, tl.same s1, tn, tnd, inn, fun H2 s2 => ⟨_, rfl, Jlj ?_⟩⟩
  have s3 := s1.trans s2
  have hp2 := s3 _ _ hp
  refine ⟨_, rfl, _, rfl, p, _, dx, [], rfl, hp2, T.Jef, T.Jei, by simp, ?_⟩
  rw [show Jm6 "cloud" (.int c) [] = ([("cloud", .int c)] : List (Str × V)) from rfl]
  refine ⟨_, rfl, _, rfl, p, _, dx, _, rfl, Jko, T.Jef, T.Jej, by simp, ?_⟩
  rw [show Jm6 "gain" (.int g) [("cloud", .int c)] = ([("cloud", .int c), ("gain", .int g)] : List (Str × V)) from Jlq (fs := [("cloud", .int c)]) (show (["cloud"] : List Str).contains "gain" = false by decide +kernel), Jmp]
  have nl : l ≠ p := fun e => by subst e; rw [hl] at hp; cases hp
  have nm : m ≠ p := fun e => by subst e; rw [hm] at hp; cases hp
  refine ⟨_, rfl, l, _, rfl, .inl ⟨SqL.of (by rw [Jkv nl]; exact s3 _ _ hl), fun b hb => ?_⟩⟩
  have nb : b ≠ p := fun e => by subst e; rw [Jko] at hb; cases hb
  rw [Jkv nb] at hb
  rw [Jvj nb.symm]
  refine ⟨_, rfl, p, _, dx, _, rfl, Jko, T.Jef, T.Jek, by simp, ?_⟩
  rw [show Jm6 "basins" (.ref b) [("cloud", .int c), ("gain", .int g)] = ([("cloud", .int c), ("gain", .int g), ("basins", .ref b)] : List (Str × V)) from Jlq (fs := [("cloud", .int c), ("gain", .int g)]) (show (["cloud", "gain"] : List Str).contains "basins" = false by decide +kernel), Jmp]
  have s4 := s3.trans (Same.upd (o := .tup (os.map V.ref)) hb)
  refine ⟨_, rfl, m, _, rfl, .inl ⟨SqL.of (by rw [Jkv nm]; exact s4 _ _ hm), fun t ht => ?_⟩⟩
  have nt : t ≠ p := fun e => by subst e; rw [Jko] at ht; cases ht
  rw [Jkv nt] at ht
  rw [Jvj nt.symm]
  refine ⟨_, rfl, p, _, dx, _, rfl, Jko, T.Jef, T.Jel, by simp, ?_⟩
  rw [show Jm6 "towns" (.ref t) [("cloud", .int c), ("gain", .int g), ("basins", .ref b)] = (rivF (.int c) (.int g) (.ref b) (.ref t)) from Jlq (fs := [("cloud", .int c), ("gain", .int g), ("basins", .ref b)]) (show (["cloud", "gain", "basins"] : List Str).contains "towns" = false by decide +kernel), Jmp]
  have s5 := Same.upd (o := .tup (ts.map V.ref)) ht
  exact k _ b t (s4.trans s5) (s5 _ _ Jko) Jko nb nt
end
def wl : List V → List Int → List Int → List Bool
 | v :: vs, l :: ls, h :: hs => Jl6 v l h :: wl vs ls hs
 | _, _, _ => []
theorem Ya : ∀ {vs : List V} {ls hs : List Int}, vs.length = ls.length → ls.length = hs.length → (wl vs ls hs).length = vs.length
 | [], _, _, _, _ => rfl
 | _ :: _, [], _, e, _ => by simp at e
 | _ :: _, _ :: _, [], _, e => by simp at e
 | _ :: vs, _ :: ls, _ :: hs, e1, e2 => by
  show (wl vs ls hs).length + 1 = vs.length + 1
  rw [Ya (by simpa using e1) (by simpa using e2)]
theorem Y9 : ∀ {vs : List V} {ls hs : List Int} {i : Nat} {v x y : V}, vs[i]? = some v → (ls.map V.int)[i]? = some x → (hs.map V.int)[i]? = some y → ∃ l h, x = .int l ∧ y = .int h ∧ (wl vs ls hs)[i]? = some (Jl6 v l h)
 | _ :: _, l :: _, h :: _, 0, v, x, y, e1, e2, e3 => ⟨l, h, by simpa using e2.symm, by simpa using e3.symm, by cases e1; rfl⟩
 | _ :: vs, _ :: ls, _ :: hs, i + 1, v, x, y, e1, e2, e3 => by
  obtain ⟨l, h, a1, a2, a3⟩ := Y9 (vs := vs) (ls := ls) (hs := hs) (i := i) (v := v) (x := x) (y := y) (by simpa using e1) (by simpa using e2) (by simpa using e3)
  exact ⟨l, h, a1, a2, a3⟩
 | [], _, _, _, _, _, _, e, _, _ => by simp at e
 | _ :: _, [], _, _, _, _, _, _, e, _ => by simp at e
 | _ :: _, _ :: _, [], _, _, _, _, _, _, e => by simp at e
def RowT (K : W.Frag) (H : Hp) (x : V) : Option (List V) → Prop
 | some vs => ∃ p, x = .ref p ∧ H p = some (.tup vs) ∧ (∀ v ∈ vs, Tm K H v) ∧ vs.length ≤ 40
 | none => ∃ t, TyX K H x t ∧ W.kitOne K t (.type "tuple") = some false
theorem RowT.same {K : W.Frag} {H H' : Hp} {x : V} (s : Same H H') : ∀ {r : Option (List V)}, RowT K H x r → RowT K H' x r
 | some _, ⟨p, e, h1, h2, h3⟩ => ⟨p, e, s _ _ h1, fun v hv => (h2 v hv).same s, h3⟩
 | none, ⟨t, h1, h2⟩ => ⟨t, Jq4 s h1, h2⟩
def Jo1 : Option (List V) → List Int → List Int → Bool
 | some vs, ls, hs => decide (vs.length = ls.length) && (wl vs ls hs).all id
 | none, _, _ => false
def spRow (K : W.Frag) : Sp := fun vs H Q _ => ∃ (x : V) (r : Option (List V)) (l m : Addr) (ls hs : List Int), vs = [x, .ref l, .ref m] ∧ RowT K H x r ∧ H l = some (.lst (ls.map V.int)) ∧ H m = some (.lst (hs.map V.int)) ∧ ls.length = hs.length ∧ ls.length ≤ 40 ∧ ∀ H', Same H H' → Q (.bl (Jo1 r ls hs)) H'
def Yal (K : W.Frag) : Sp := fun vs H Q _ => ∃ (x : V) (r : Option (List V)) (m : Addr) (hs : List Int), vs = [x, .ref m] ∧ RowT K H x r ∧ H m = some (.lst (hs.map V.int)) ∧ hs.length ≤ 40 ∧ ∀ H', Same H H' → Q (.bl (Jo1 r (List.replicate hs.length 0) hs)) H'
def Jx5 : Option (List V) → Bool
 | some vs => decide (vs.length = 2)
 | none => false
def spPair (K : W.Frag) : Sp := fun vs H Q _ => ∃ (x : V) (r : Option (List V)), vs = [x] ∧ (match r with | some vs => ∃ p, x = .ref p ∧ H p = some (.tup vs) | none => ∃ t, TyX K H x t ∧ W.kitOne K t (.type "tuple") = some false) ∧ Q (.bl (Jx5 r)) H
section
variable {P : Program} {w : World} {K : W.Frag} {mg : Str → Option Value} {base : Heap} {a : Ad}
theorem Y2 {i j k : Nat} {T : Addr} {x y u : V} {σ : L2.St} {H : Hp} {A B : L2.St → Hp → Prop} (hT : SqT K H T [x, y, u]) (h : A (((σ.set i (some x)).set j (some y)).set k (some u)) H) :
  gTup K 3 (Jqu (Jnr i) (Jqu (Jnr j) (Jqu (Jnr k) gNil))) (.ref T) σ H fun σ3 H3 => Jwj σ3 H3 fun b H4 => if b = true then A σ3 H4 else B σ3 H4 := by
 refine ⟨T, _, rfl, hT, rfl, _, _, rfl, _, _, rfl, _, _, rfl, rfl, ?_⟩
 show if true = true then A (((σ.set i (some x)).set j (some y)).set k (some u)) H else B (((σ.set i (some x)).set j (some y)).set k (some u)) H
 rw [if_pos rfl]
 exact h
theorem Jy0 : Jky ["thing", "lows", "highs"] ["thing", "lows", "highs"] (Jkt (top 20)) := ⟨rfl, rfl, rfl, by decide +kernel, rfl, by decide +kernel, by decide +kernel⟩
theorem Jts (T : Tx K mg a) : FnOk P w K mg base CX0 2 a.Jge a.Jgf ["thing", "lows", "highs"] (spRow K) := by
 have G_is_whole := Jm3 (P := P) (w := w) (base := base) T
 refine T.J3.fn.ok Jy0 (fun vs H Q E h => ?_) (fun cdv A outer s H vs Q E hr h => ?_)
 ·obtain ⟨x, r, l, m, ls, hs, rfl, _⟩ := h
  rfl
 ·obtain ⟨x, r, l, m, ls, hs, rfl, rt, hl, hm, e1, e2, k⟩ := h
  refine ⟨?t, ?B, ?C⟩
  case B =>
   refine' Jkq ?s1 ?r1
   case s1 =>
    refine' Jle ?c2 ?a2 ?b2
    case c2 =>
     exact (Jtv (Jlc (Jld (Jkz Jlx (by rfl) T.Jaq Jl4 (Jkn (pv 0) (Jkn (Jmj (v := .ty "tuple") (by rfl) T.Jaz Jm0 rfl) Jkp))))) (Jqq (Jlv op_ne (Jkz Jl8 (by rfl) T.Jar Jmc (Jkn (pv 0) Jkp)) (Jkz Jl8 (by rfl) T.Jar Jmc (Jkn (pv 1) Jkp)) (Jli _)))).pt
    case a2 =>
     refine' Jkr ?s3
     case s3 =>
      exact (Jl0 Jly)
    case b2 =>
     exact Jl2
   case r1 =>
    refine' Jkr ?s7
    case s7 =>
     exact (Jl0 (Jkz (Joc rfl) (by rfl) T.Jam Jri (Jkn (Jll (N := (["number", "low", "high"] : List Str)) (ini := [none, none, none]) rfl (Jx6 true false false (by rfl) T.Jb0 (Jkn (pv 0) (Jkn (pv 1) (Jkn (pv 2) Jkp)))) (fun _ _ _ _ _ => (Jpx (K := K) (n := 3) rfl rfl (Jla (Jl1 (i := 0) (by decide +kernel : (["number", "low", "high"] : List Str).Nodup) rfl (Or.inl rfl)) (Jla (Jl1 (i := 1) (by decide +kernel : (["number", "low", "high"] : List Str).Nodup) rfl (Or.inl rfl)) (Jla (Jl1 (i := 2) (by decide +kernel : (["number", "low", "high"] : List Str).Nodup) rfl (Or.inl rfl)) Jnb))))) (fun _ _ _ _ _ => Jlm) (fun _ _ _ _ _ => (Jku T.J0 G_is_whole hr (by decide) (Jkn (pv 0) (Jkn (pv 1) (Jkn (pv 2) Jkp)))))) Jkp)))
  cases r with
  | none =>
   obtain ⟨t, ty, ek⟩ := rt
   refine ⟨_, rfl, x, _, _, t, _, rfl, rfl, ty, ek, _, rfl, Jlt ?_⟩
   refine Jlt ?_
   exact k _ (fun _ _ h => h)
  | some vs =>
   obtain ⟨p, rfl, hp, tms, hn⟩ := rt
   refine ⟨_, rfl, _, _, _, .type "tuple", true, rfl, rfl, .of (.tup hp), rfl, _, rfl, Jlj ?_⟩
   refine ⟨_, rfl, p, _, rfl, .inr (SqT.of hp), _, rfl, l, _, rfl, .inl (SqL.of hl), rfl, ?_⟩
   by_cases en : vs.length = ls.length
   ·refine ⟨_, rfl, ifF (by simp [en]) ?_⟩
    refine ⟨_, rfl, _, rfl, _, rfl, p, l, m, rfl, ⟨_, SqT.of hp⟩, ⟨_, SqL.of hl⟩, ⟨_, SqL.of hm⟩, fun D hD => ?_⟩
    have s0 := Same.upd (o := .lst []) hD
    refine Jtg (K := K) (l1 := p) (l2 := l) (l3 := m) (b1 := true) (b2 := false) (b3 := false) (xs := vs) (ys := ls.map V.int) (us := hs.map V.int) (D := D) (fun i σ H' => (∃ o1 o2 o3, σ = [o1, o2, o3]) ∧ H' D = some (.lst (((wl vs ls hs).take i).map V.bl)) ∧ Same H H') ⟨⟨_, _, _, rfl⟩, Jko, s0⟩ (fun i σ H' _ ⟨_, _, sm⟩ => ⟨SqT.of (sm _ _ hp), SqL.of (sm _ _ hl), SqL.of (sm _ _ hm)⟩) (by rw [List.length_map]; exact en) (by rw [List.length_map]; omega) ?_ ?_
    ·rintro i x y u σ H' Ta hx hy hu ⟨⟨o1, o2, o3, rfl⟩, hDs, sm⟩ hT
     obtain ⟨lo, hi, rfl, rfl, ew⟩ := Y9 hx hy hu
     have sT := Same.upd (o := .tup [x, .int lo, .int hi]) hT
     have hi' : i < vs.length := (List.getElem?_eq_some_iff.mp hx).1
     refine Y2 (SqT.of Jko) ⟨_, rfl, _, rfl, _, rfl, _, lo, hi, rfl, (tms _ (List.mem_of_getElem? hx)).same (sm.trans sT), _, sT _ _ hDs, ?_, ⟨_, _, _, rfl⟩, ?_, ?_⟩
     ·rw [List.length_map, List.length_take]
      exact Jlo (by omega)
     ·rw [Jko, List.take_add_one, ew]
      simp
     ·intro c o z
      rw [Jkv (Jkw z hD)]
      exact sT _ _ (sm _ _ z)
    rintro σ H1 ⟨_, hDs, sm⟩
    rw [List.take_of_length_le (by rw [Ya en e1]; omega)] at hDs
    refine ⟨D, _, rfl, SqL.of hDs, ?_⟩
    have e : Jo1 (some vs) ls hs = (wl vs ls hs).all id := by
     show (decide (vs.length = ls.length) && _) = _
     rw [decide_eq_true en, Bool.true_and]
    rw [← e]
    exact k _ sm
   ·refine ⟨_, rfl, ifT (by simp; omega) ?_⟩
    have e : Jo1 (some vs) ls hs = false := by
     show (decide (vs.length = ls.length) && _) = _
     rw [decide_eq_false en, Bool.false_and]
    rw [e] at k
    exact k _ (fun _ _ h => h)
end
section
variable {P : Program} {w : World} {K : W.Frag} {mg : Str → Option Value} {base : Heap} {a : Ad}
theorem Jr9 : Jky ["thing", "highs"] ["thing", "highs"] (Jkt (top 21)) := ⟨rfl, rfl, rfl, by decide +kernel, rfl, by decide +kernel, by decide +kernel⟩
theorem Jo4 (T : Tx K mg a) : FnOk P w K mg base CX0 3 a.Jgg a.Jgh ["thing", "highs"] (Yal K) := by
 have G_is_row := Jts (P := P) (w := w) (base := base) T
 refine T.J4.fn.ok Jr9 (fun vs H Q E h => ?_) (fun cdv A outer s H vs Q E hr h => ?_)
 ·obtain ⟨x, r, m, hs, rfl, _⟩ := h
  rfl
 ·obtain ⟨x, r, m, hs, rfl, rt, hm, e2, k⟩ := h
  refine ⟨?t, ?B, ?C⟩
  case B =>
   refine' Jkr ?s1
   case s1 =>
    exact (Jl0 (Jku T.J3 G_is_row hr (by decide) (Jkn (pv 0) (Jkn (Jll (N := (["high"] : List Str)) (ini := [none]) rfl (Jm7 (pv 1)) (fun _ _ _ _ _ => (Jl1 (i := 0) (by decide +kernel : (["high"] : List Str).Nodup) rfl (Or.inl rfl))) (fun _ _ _ _ _ => Jlm) (fun _ _ _ _ _ => Jks)) (Jkn (pv 1) Jkp)))))
  refine ⟨_, rfl, _, rfl, m, rfl, ⟨_, SqL.of hm⟩, fun D hD => ?_⟩
  refine Jro ((List.replicate hs.length (0 : Int)).map V.int) hD (by simp) (by rw [List.length_map]; omega) hm ?_ ?_
  ·intro i x y H' Q' hx hy sm k'
   have e : y = .int 0 := by
    rw [List.map_replicate, List.getElem?_replicate] at hy
    split at hy
    ·exact (Option.some.inj hy).symm
    ·cases hy
   subst e
   exact k' _ (fun _ _ h => h)
  ·intro H' sm hDs
   refine ⟨_, rfl, x, r, D, m, List.replicate hs.length 0, hs, rfl, rt.same sm, hDs, sm _ _ hm, by simp, by simpa using e2, fun H2 s2 => k _ (sm.trans s2)⟩
theorem Jw9 : Jky ["thing"] ["thing"] (Jkt (top 22)) := ⟨rfl, rfl, rfl, by decide +kernel, rfl, by decide +kernel, by decide +kernel⟩
theorem Js2 (T : Tx K mg a) : FnOk P w K mg base CX0 1 a.Jgi a.Jgj ["thing"] (spPair K) := by
 refine T.J5.fn.ok Jw9 (fun vs H Q E h => ?_) (fun cdv A outer s H vs Q E hr h => ?_)
 ·obtain ⟨x, r, rfl, _⟩ := h
  rfl
 ·obtain ⟨x, r, rfl, rt, k⟩ := h
  refine ⟨?t, ?B, ?C⟩
  case B =>
   refine' Jkr ?s1
   case s1 =>
    exact (Jl0 (Js9 (Jkz Jlx (by rfl) T.Jaq Jl4 (Jkn (pv 0) (Jkn (Jmj (v := .ty "tuple") (by rfl) T.Jaz Jm0 rfl) Jkp))) (Jsc (Jmk Jo5 (Jkz Jl8 (by rfl) T.Jar Jmc (Jkn (pv 0) Jkp)) Jks (Jli _)))))
  cases r with
  | none =>
   obtain ⟨t, ty, ek⟩ := rt
   refine ⟨_, rfl, x, _, _, t, _, rfl, rfl, ty, ek, _, rfl, ?_⟩
   exact Jlj k
  | some vs =>
   obtain ⟨p, rfl, hp⟩ := rt
   refine ⟨_, rfl, _, _, _, .type "tuple", true, rfl, rfl, .of (.tup hp), rfl, _, rfl, Jlt ?_⟩
   refine ⟨_, rfl, p, _, rfl, .inr (SqT.of hp), rfl, ?_⟩
   have e : decide (V.int (vs.length : Nat) = V.int 2) = Jx5 (some vs) := by
    show _ = decide (vs.length = 2)
    by_cases h : vs.length = 2
    ·rw [decide_eq_true h, decide_eq_true (by rw [h]; rfl)]
    ·rw [decide_eq_false h, decide_eq_false (fun q => h (by have := V.int.inj q; omega))]
   rw [e]
   exact k
end
structure Riv where
 c : Int
 g : Int
 Bs : List Bsn
 Ts : List Twn
def RivAt (K : W.Frag) (a : Ad) (H : Hp) (o : Addr) (R : Riv) : Prop := ∃ (dx b t : Addr) (os ts : List Addr), H o = some (.ins a.Jkm dx (rivF (.int R.c) (.int R.g) (.ref b) (.ref t))) ∧ H b = some (.tup (os.map V.ref)) ∧ BasL K a H os R.Bs ∧ H t = some (.tup (ts.map V.ref)) ∧ TwnL a H ts R.Ts ∧ R.Bs.length ≤ 16 ∧ R.Ts.length ≤ 3 ∧ ∀ B ∈ R.Bs, 0 ≤ B.rn ∧ B.rn ≤ 6
theorem RivAt.same {K : W.Frag} {a : Ad} {H H' : Hp} {o : Addr} {R : Riv} (s : Same H H') (h : RivAt K a H o R) : RivAt K a H' o R :=
 let ⟨dx, b, t, os, ts, h1, h2, h3, h4, h5, h6⟩ := h
 ⟨dx, b, t, os, ts, s _ _ h1, s _ _ h2, h3.same s, s _ _ h4, h5.same s, h6⟩
inductive Pr where
 | no
 | oth (vs : List V)
 | two (u w : V) (r : Option (List V))
def PrT (K : W.Frag) (H : Hp) (x : V) : Pr → Prop
 | .no => ∃ t, TyX K H x t ∧ W.kitOne K t (.type "tuple") = some false
 | .oth vs => ∃ p, x = .ref p ∧ H p = some (.tup vs) ∧ vs.length ≠ 2
 | .two u w r => ∃ p, x = .ref p ∧ H p = some (.tup [u, w]) ∧ RowT K H u r ∧ Tm K H w
theorem PrT.same {K : W.Frag} {H H' : Hp} {x : V} (s : Same H H') : ∀ {r : Pr}, PrT K H x r → PrT K H' x r
 | .no, ⟨t, h1, h2⟩ => ⟨t, Jq4 s h1, h2⟩
 | .oth _, ⟨p, e, h1, h2⟩ => ⟨p, e, s _ _ h1, h2⟩
 | .two _ _ _, ⟨p, e, h1, h2, h3⟩ => ⟨p, e, s _ _ h1, h2.same s, h3.same s⟩
def stB (R : Riv) : Pr → Bool
 | .two _ w r => Jl6 w 0 R.c && Jo1 r (R.Bs.map (·.lo)) (R.Bs.map (·.hi))
 | _ => false
def Jr2 (n : Nat) : V → Bool
 | .non => true
 | w => Jl6 w 0 (n - 1)
def chB (R : Riv) : Pr → Bool
 | .two _ w r => Jr2 R.Ts.length w && Jo1 r (List.replicate R.Bs.length 0) (R.Bs.map fun B => (B.n : Int) - 1)
 | _ => false
def Jwh (K : W.Frag) (a : Ad) : Sp := fun vs H Q _ => ∃ (o : Addr) (R : Riv) (x : V) (r : Pr), vs = [.ref o, x] ∧ RivAt K a H o R ∧ PrT K H x r ∧ ∀ H', Same H H' → Q (.bl (stB R r)) H'
def Jzl (K : W.Frag) (a : Ad) : Sp := fun vs H Q _ => ∃ (o : Addr) (R : Riv) (x : V) (r : Pr), vs = [.ref o, x] ∧ RivAt K a H o R ∧ PrT K H x r ∧ ∀ H', Same H H' → Q (.bl (chB R r)) H'
section
variable {P : Program} {w : World} {K : W.Frag} {mg : Str → Option Value} {base : Heap} {a : Ad}
theorem Jsh : Jky ["river", "thing"] ["river", "thing"] (Jkt (top 23)) := ⟨rfl, rfl, rfl, by decide +kernel, rfl, by decide +kernel, by decide +kernel⟩
theorem Jnh (T : Tx K mg a) : FnOk P w K mg base CX0 3 a.Jgk a.Jgl ["river", "thing"] (Jwh K a) := by
 have G_is_row := Jts (P := P) (w := w) (base := base) T
 have G_is_pair := Js2 (P := P) (w := w) (base := base) T
 have G_is_whole := Jm3 (P := P) (w := w) (base := base) T
 refine T.J6.fn.ok Jsh (fun vs H Q E h => ?_) (fun cdv A outer s H vs Q E hr h => ?_)
 ·obtain ⟨o, R, x, r, rfl, _⟩ := h
  rfl
 ·obtain ⟨o, R, x, r, rfl, ro, rx, k⟩ := h
  refine ⟨?t, ?B, ?C⟩
  case B =>
   refine' Jkq ?s1 ?r1
   case s1 =>
    refine' Jle ?c2 ?a2 ?b2
    case c2 =>
     exact (Jtv (Jlc (Jld (Jku T.J5 G_is_pair hr (by decide) (Jkn (pv 1) Jkp)))) (Jqq (Jlc (Jld (Jku T.J0 G_is_whole hr (by decide) (Jkn (Jl7 Jlb (pv 1) Jks (fun _ _ => rfl)) (Jkn Jks (Jkn (Jlg (pv 0) (by rfl)) Jkp)))))))).pt
    case a2 =>
     refine' Jkr ?s3
     case s3 =>
      exact (Jl0 Jly)
    case b2 =>
     exact Jl2
   case r1 =>
    refine' Jkr ?s7
    case s7 =>
     exact (Jl0 (Jku T.J3 G_is_row hr (by decide) (Jkn (Jl7 Jlb (pv 1) Jks (fun _ _ => rfl)) (Jkn (Jll (N := (["basin"] : List Str)) (ini := [none]) rfl (Jse (Jlg (pv 0) (by rfl))) (fun _ _ _ _ _ => (Jl1 (i := 0) (by decide +kernel : (["basin"] : List Str).Nodup) rfl (Or.inl rfl))) (fun _ _ _ _ _ => Jlm) (fun _ _ _ _ _ => (Jmt (K := K) rfl (pv 0) (by rfl)))) (Jkn (Jll (N := (["basin"] : List Str)) (ini := [none]) rfl (Jse (Jlg (pv 0) (by rfl))) (fun _ _ _ _ _ => (Jl1 (i := 0) (by decide +kernel : (["basin"] : List Str).Nodup) rfl (Or.inl rfl))) (fun _ _ _ _ _ => Jlm) (fun _ _ _ _ _ => (Jmt (K := K) rfl (pv 0) (by rfl)))) Jkp)))))
  cases r with
  | no =>
   refine ⟨_, rfl, x, none, rfl, rx, _, rfl, Jlt ?_⟩
   exact Jlt (k _ fun _ _ h => h)
  | oth vs =>
   obtain ⟨p, rfl, hp, ne⟩ := rx
   refine ⟨_, rfl, _, some vs, rfl, ⟨p, rfl, hp⟩, _, rfl, ifT (by rw [show Jx5 (some vs) = false from decide_eq_false ne]; rfl) ?_⟩
   exact Jlt (k _ fun _ _ h => h)
  | two u y r =>
   obtain ⟨p, rfl, hp, rt, ty⟩ := rx
   obtain ⟨dx, b, t, os, ts, ho, hb, bl, ht, tl, n1, n2, n3⟩ := ro
   refine ⟨_, rfl, _, some [u, y], rfl, ⟨p, rfl, hp⟩, _, rfl, Jlj ?_⟩
   refine ⟨_, rfl, p, _, 1, y, rfl, rfl, SqT.of hp, rfl, _, rfl, o, _, dx, _, _, rfl, ho, T.Jef, T.Jei, rfl, y, 0, R.c, rfl, ty, _, rfl, ?_⟩
   cases ew : Jl6 y 0 R.c with
   | false =>
    have e : stB R (.two u y r) = false := by
     show (Jl6 y 0 R.c && _) = false
     rw [ew, Bool.false_and]
    rw [e] at k
    exact Jlt (k _ fun _ _ h => h)
   | true =>
    have e : stB R (.two u y r) = Jo1 r (R.Bs.map (·.lo)) (R.Bs.map (·.hi)) := by
     show (Jl6 y 0 R.c && _) = _
     rw [ew, Bool.true_and]
    rw [e] at k
    have len := bl.len
    refine Jlj ⟨_, rfl, p, _, 0, u, rfl, rfl, SqT.of hp, rfl, ?_⟩
    refine ⟨_, rfl, o, _, dx, _, _, rfl, ho, T.Jef, T.Jek, rfl, b, rfl, ⟨_, SqT.of hb⟩, fun D hD => ?_⟩
    refine Jnd ((R.Bs.map (·.lo)).map V.int) hD (by simp [len]) (by rw [List.length_map]; omega) hb ?_ ?_
    ·intro i x y H' Q' hx hy sm k'
     obtain ⟨ob, B, rfl, hB, dx, hb, gs⟩ := (bl.same sm).get hx
     rw [List.getElem?_map, List.getElem?_map, hB] at hy
     cases hy
     exact ⟨_, rfl, ob, _, dx, _, _, rfl, hb, T.Je0, T.Je4, rfl, k' _ fun _ _ h => h⟩
    intro H1 s1 hD1
    refine ⟨_, rfl, o, _, dx, _, _, rfl, s1 _ _ ho, T.Jef, T.Jek, rfl, b, rfl, ⟨_, SqT.of (s1 _ _ hb)⟩, fun D2 hD2 => ?_⟩
    refine Jnd ((R.Bs.map (·.hi)).map V.int) hD2 (by simp [len]) (by rw [List.length_map]; omega) (s1 _ _ hb) ?_ ?_
    ·intro i x y H' Q' hx hy sm k'
     obtain ⟨ob, B, rfl, hB, dx, hb, gs⟩ := (bl.same (s1.trans sm)).get hx
     rw [List.getElem?_map, List.getElem?_map, hB] at hy
     cases hy
     exact ⟨_, rfl, ob, _, dx, _, _, rfl, hb, T.Je0, T.Je5, rfl, k' _ fun _ _ h => h⟩
    intro H2 s2 hD3
    exact ⟨u, r, D, D2, _, _, rfl, rt.same (s1.trans s2), s2 _ _ hD1, hD3, by simp, by rw [List.length_map]; omega, fun H3 s3 => k _ ((s1.trans s2).trans s3)⟩
end
section
variable {P : Program} {w : World} {K : W.Frag} {mg : Str → Option Value} {base : Heap} {a : Ad}
theorem Jum : Jky ["river", "thing"] ["river", "thing"] (Jkt (top 24)) := ⟨rfl, rfl, rfl, by decide +kernel, rfl, by decide +kernel, by decide +kernel⟩
theorem Jpv (T : Tx K mg a) : FnOk P w K mg base CX0 4 a.Jgm a.Jgn ["river", "thing"] (Jzl K a) := by
 have G_is_row_up_to := Jo4 (P := P) (w := w) (base := base) T
 have G_is_pair := Js2 (P := P) (w := w) (base := base) T
 have G_is_whole := Jm3 (P := P) (w := w) (base := base) T
 refine T.J7.fn.ok Jum (fun vs H Q E h => ?_) (fun cdv A outer s H vs Q E hr h => ?_)
 ·obtain ⟨o, R, x, r, rfl, _⟩ := h
  rfl
 ·obtain ⟨o, R, x, r, rfl, ro, rx, k⟩ := h
  refine ⟨?t, ?B, ?C⟩
  case B =>
   refine' Jkq ?s1 ?r1
   case s1 =>
    refine' Jle ?c2 ?a2 ?b2
    case c2 =>
     exact (Jlc (Jld (Jku T.J5 G_is_pair hr (by decide) (Jkn (pv 1) Jkp))))
    case a2 =>
     refine' Jkr ?s3
     case s3 =>
      exact (Jl0 Jly)
    case b2 =>
     exact Jl2
   case r1 =>
    refine' Jkq ?s7 ?r7
    case s7 =>
     refine' Jle ?c8 ?a8 ?b8
     case c8 =>
      exact (Jze (Jlv Jx4 (Jl7 Jlb (pv 1) Jks (fun _ _ => rfl)) Jmv (Jli _)) (Jx7 (Jlc (Jld (Jku T.J0 G_is_whole hr (by decide) (Jkn (Jl7 Jlb (pv 1) Jks (fun _ _ => rfl)) (Jkn Jks (Jkn (Jl5 Jmd (Jkz Jl8 (by rfl) T.Jar Jmc (Jkn (Jlg (pv 0) (by rfl)) Jkp)) Jks) Jkp)))))))).pt
     case a8 =>
      refine' Jkr ?s9
      case s9 =>
       exact (Jl0 Jly)
     case b8 =>
      exact Jl2
    case r7 =>
     refine' Jkr ?s13
     case s13 =>
      exact (Jl0 (Jku T.J4 G_is_row_up_to hr (by decide) (Jkn (Jl7 Jlb (pv 1) Jks (fun _ _ => rfl)) (Jkn (Jll (N := (["basin"] : List Str)) (ini := [none]) rfl (Jse (Jlg (pv 0) (by rfl))) (fun _ _ _ _ _ => (Jl1 (i := 0) (by decide +kernel : (["basin"] : List Str).Nodup) rfl (Or.inl rfl))) (fun _ _ _ _ _ => Jlm) (fun _ _ _ _ _ => (Jl5 Jmd (Jw4 (P := P) (w := w) (K := K) (mg := mg) (base := base) rfl rfl rfl rfl rfl (Jmt (K := K) rfl (pv 0) (by rfl)) hr) Jks))) Jkp))))
  cases r with
  | no =>
   refine ⟨_, rfl, x, none, rfl, rx, _, rfl, Jlt ?_⟩
   exact k _ fun _ _ h => h
  | oth vs =>
   obtain ⟨p, rfl, hp, ne⟩ := rx
   refine ⟨_, rfl, _, some vs, rfl, ⟨p, rfl, hp⟩, _, rfl, ifT (by rw [show Jx5 (some vs) = false from decide_eq_false ne]; rfl) ?_⟩
   exact k _ fun _ _ h => h
  | two u y r =>
   obtain ⟨p, rfl, hp, rt, ty⟩ := rx
   obtain ⟨dx, b, t, os, ts, ho, hb, bl, ht, tl, n1, n2, n3⟩ := ro
   refine ⟨_, rfl, _, some [u, y], rfl, ⟨p, rfl, hp⟩, _, rfl, Jlj ?_⟩
   refine ⟨_, rfl, p, _, 1, y, rfl, rfl, SqT.of hp, rfl, ?_⟩
   have len := bl.len
   have tlen := tl.len
   by_cases hy : y = .non
   ·have et : Jr2 R.Ts.length y = true := by rw [hy]; rfl
    refine ⟨rfl, _, rfl, ifF (by rw [decide_eq_true hy]; rfl) ?_⟩
    refine Jlj ?_
    have e : chB R (.two u y r) = Jo1 r (List.replicate R.Bs.length 0) (R.Bs.map fun B => (B.n : Int) - 1) := by
     show (Jr2 R.Ts.length y && _) = _
     rw [et, Bool.true_and]
    rw [e] at k
    refine ⟨_, rfl, p, _, 0, u, rfl, rfl, SqT.of hp, rfl, ?_⟩
    refine ⟨_, rfl, o, _, dx, _, _, rfl, ho, T.Jef, T.Jek, rfl, b, rfl, ⟨_, SqT.of hb⟩, fun D hD => ?_⟩
    refine Jnd ((R.Bs.map fun B => (B.n : Int) - 1).map V.int) hD (by simp [len]) (by rw [List.length_map]; omega) hb ?_ ?_
    ·intro i x y H' Q' hx hy sm k'
     obtain ⟨ob, B, rfl, hB, dx, hb, gs⟩ := (bl.same sm).get hx
     rw [List.getElem?_map, List.getElem?_map, hB] at hy
     cases hy
     exact ⟨_, rfl, ob, _, dx, _, _, rfl, hb, T.Je0, T.Je8, rfl, Jms T gs ⟨_, _, rfl, rfl, k' _ fun _ _ h => h⟩ (by decide)⟩
    intro H1 s1 hD1
    exact ⟨u, r, D, _, rfl, rt.same s1, hD1, by rw [List.length_map]; omega, fun H3 s3 => by rw [List.length_map]; exact k _ (s1.trans s3)⟩
   ·refine ⟨rfl, _, rfl, ifT (by rw [decide_eq_false hy]; rfl) ?_⟩
    have eT : Jr2 R.Ts.length y = Jl6 y 0 ((R.Ts.length : Int) - 1) := by
     cases y <;> first | rfl | exact absurd rfl hy
    refine ⟨_, rfl, p, _, 1, y, rfl, rfl, SqT.of hp, rfl, ?_⟩
    refine ⟨_, rfl, o, _, dx, _, _, rfl, ho, T.Jef, T.Jel, rfl, t, _, rfl, .inr (SqT.of ht), _, _, rfl, rfl, y, 0, (R.Ts.length : Int) - 1, by rw [List.length_map, tlen]; rfl, ty, _, rfl, ?_⟩
    cases ew : Jl6 y 0 ((R.Ts.length : Int) - 1) with
    | false =>
     have e : chB R (.two u y r) = false := by
      show (Jr2 R.Ts.length y && _) = false
      rw [eT, ew, Bool.false_and]
     rw [e] at k
     exact Jlt (k _ fun _ _ h => h)
    | true =>
     have et := eT.trans ew
     refine Jlj ?_
     have e : chB R (.two u y r) = Jo1 r (List.replicate R.Bs.length 0) (R.Bs.map fun B => (B.n : Int) - 1) := by
      show (Jr2 R.Ts.length y && _) = _
      rw [et, Bool.true_and]
     rw [e] at k
     refine ⟨_, rfl, p, _, 0, u, rfl, rfl, SqT.of hp, rfl, ?_⟩
     refine ⟨_, rfl, o, _, dx, _, _, rfl, ho, T.Jef, T.Jek, rfl, b, rfl, ⟨_, SqT.of hb⟩, fun D hD => ?_⟩
     refine Jnd ((R.Bs.map fun B => (B.n : Int) - 1).map V.int) hD (by simp [len]) (by rw [List.length_map]; omega) hb ?_ ?_
     ·intro i x y H' Q' hx hy sm k'
      obtain ⟨ob, B, rfl, hB, dx, hb, gs⟩ := (bl.same sm).get hx
      rw [List.getElem?_map, List.getElem?_map, hB] at hy
      cases hy
      exact ⟨_, rfl, ob, _, dx, _, _, rfl, hb, T.Je0, T.Je8, rfl, Jms T gs ⟨_, _, rfl, rfl, k' _ fun _ _ h => h⟩ (by decide)⟩
     intro H1 s1 hD1
     exact ⟨u, r, D, _, rfl, rt.same s1, hD1, by rw [List.length_map]; omega, fun H3 s3 => by rw [List.length_map]; exact k _ (s1.trans s3)⟩
end
def Jqd (R : Riv) (wet : Int) : Int :=
 if (R.Bs.map (·.rn)).sum < (if 0 > wet + R.g - R.c then 0 else wet + R.g - R.c) then (R.Bs.map (·.rn)).sum else (if 0 > wet + R.g - R.c then 0 else wet + R.g - R.c)
def Jzm (K : W.Frag) (a : Ad) : Sp := fun vs H Q _ => ∃ (o : Addr) (R : Riv) (wet : Int), vs = [.ref o, .int wet] ∧ RivAt K a H o R ∧ ∀ H', Same H H' → Q (.int (Jqd R wet)) H'
theorem Jy4 {Bs : List Bsn} (n1 : Bs.length ≤ 16) (n3 : ∀ B ∈ Bs, 0 ≤ B.rn ∧ B.rn ≤ 6) : Sml (Bs.map (·.rn)) := by
 refine ⟨by rw [List.length_map]; omega, fun n hn => ?_⟩
 obtain ⟨B, hB, rfl⟩ := List.mem_map.mp hn
 have := n3 B hB
 omega
def Jtj : V → Int
 | .int i => i
 | _ => 0
def Jq5 : Pr → Int
 | .two _ w _ => Jtj w
 | _ => 0
def Jwi (vs : List V) : Int := (vs.map Jtj).sum
def rnB (R : Riv) (wet : Int) : Option (List V) → Bool
 | some vs => Jo1 (some vs) (List.replicate R.Bs.length 0) (R.Bs.map (·.rn)) && (decide (Jqd R wet ≤ Jwi vs) && decide (Jwi vs ≤ wet))
 | none => false
def spRain (K : W.Frag) (a : Ad) : Sp := fun vs H Q E => ∃ (o : Addr) (R : Riv) (z : V) (q : Pr) (x : V) (r : Option (List V)), vs = [.ref o, z, x] ∧ RivAt K a H o R ∧ PrT K H z q ∧ RowT K H x r ∧
 (if stB R q = true then ∀ H', Same H H' → Q (.bl (rnB R (Jq5 q) r)) H' else ∀ c eo H', RfC a.Jka H H' z c eo → E c eo H')
theorem st_wet {R : Riv} {q : Pr} (h : stB R q = true) : ∃ u wt rr, q = .two u (.int wt) rr ∧ (0 ≤ wt ∧ wt ≤ R.c) := by
 cases q with
 | no => cases h
 | oth vs => cases h
 | two u w r =>
  have h1 : Jl6 w 0 R.c = true := by
   cases e : Jl6 w 0 R.c with
   | true => rfl
   | false =>
    have : (Jl6 w 0 R.c && Jo1 r (R.Bs.map (·.lo)) (R.Bs.map (·.hi))) = true := h
    rw [e, Bool.false_and] at this
    exact this
  obtain ⟨i, rfl⟩ := Jnu h1
  refine ⟨u, i, r, rfl, ?_⟩
  have h2 : (decide (0 ≤ i) && decide (i ≤ R.c)) = true := h1
  simpa using h2
theorem Jxf : ∀ {vs : List V} {n : Nat} {hs : List Int}, vs.length = n → n = hs.length → (wl vs (List.replicate n 0) hs).all id = true → ∃ ns : List Int, vs = ns.map V.int ∧ ns.length = n ∧ ∀ k ∈ ns, 0 ≤ k ∧ ∃ h ∈ hs, k ≤ h
 | [], _, _, e, _, _ => ⟨[], rfl, e, fun _ h => nomatch h⟩
 | _ :: _, 0, _, e, _, _ => by simp at e
 | _ :: _, _ + 1, [], _, e, _ => by simp at e
 | v :: vs, n + 1, h :: hs, e1, e2, a => by
  have a' : (Jl6 v 0 h && (wl vs (List.replicate n 0) hs).all id) = true := a
  rw [Bool.and_eq_true] at a'
  obtain ⟨ns, rfl, l, q⟩ := Jxf (vs := vs) (n := n) (hs := hs) (by simpa using e1) (by simpa using e2) a'.2
  obtain ⟨i, rfl⟩ := Jnu a'.1
  have h2 : (decide (0 ≤ i) && decide (i ≤ h)) = true := a'.1
  have h3 : 0 ≤ i ∧ i ≤ h := by simpa using h2
  refine ⟨i :: ns, rfl, by rw [List.length_cons, l], fun k hk => ?_⟩
  rcases List.mem_cons.mp hk with rfl | hk
  ·exact ⟨h3.1, h, List.mem_cons_self .., h3.2⟩
  ·obtain ⟨g1, x, hx, g2⟩ := q k hk
   exact ⟨g1, x, List.mem_cons_of_mem _ hx, g2⟩
theorem Jvd {R : Riv} {r : Option (List V)} (h : Jo1 r (List.replicate R.Bs.length 0) (R.Bs.map (·.rn)) = true) (n1 : R.Bs.length ≤ 16) (n3 : ∀ B ∈ R.Bs, 0 ≤ B.rn ∧ B.rn ≤ 6) : ∃ (vs : List V) (ns : List Int), r = some vs ∧ vs = ns.map V.int ∧ Sml ns := by
 cases r with
 | none => cases h
 | some vs =>
  have h' : (decide (vs.length = (List.replicate R.Bs.length (0 : Int)).length) && (wl vs (List.replicate R.Bs.length 0) (R.Bs.map (·.rn))).all id) = true := h
  rw [Bool.and_eq_true] at h'
  have e1 : vs.length = R.Bs.length := by simpa using h'.1
  obtain ⟨ns, rfl, l, q⟩ := Jxf e1 (by simp) h'.2
  refine ⟨_, ns, rfl, rfl, by omega, fun n hn => ?_⟩
  obtain ⟨g1, x, hx, g2⟩ := q n hn
  obtain ⟨B, hB, rfl⟩ := List.mem_map.mp hx
  have := n3 B hB
  omega
theorem Jya (ns : List Int) : Jwi (ns.map V.int) = ns.sum := by
 show ((ns.map V.int).map Jtj).sum = _
 rw [List.map_map]
 congr 1
 exact (List.map_congr_left fun _ _ => rfl).trans (List.map_id _)
section
variable {P : Program} {w : World} {K : W.Frag} {mg : Str → Option Value} {base : Heap} {a : Ad}
theorem sc_forced_rain : Jky ["river", "wet", "too_many"] ["river", "wet"] (Jkt (top 25)) := ⟨rfl, rfl, rfl, by decide +kernel, rfl, by decide +kernel, by decide +kernel⟩
theorem Js0 (T : Tx K mg a) : FnOk P w K mg base CX0 1 a.Jgo a.Jgp ["river", "wet"] (Jzm K a) := by
 refine T.J8.fn.ok sc_forced_rain (fun vs H Q E h => ?_) (fun cdv A outer s H vs Q E hr h => ?_)
 ·obtain ⟨o, R, wet, rfl, _⟩ := h
  rfl
 ·obtain ⟨o, R, wet, rfl, ro, k⟩ := h
  refine ⟨?t, ?B, ?C⟩
  case B =>
   refine' Jkq ?s1 ?r1
   case s1 =>
    exact (Jl3 (i := 2) sc_forced_rain.nd rfl (Or.inl rfl) (Jkz (Jnc rfl) (by rfl) T.Jat Jq8 (Jkn (Jl5 Jmd (Jl5 Jlk (pv 1) (Jlg (pv 0) (by rfl))) (Jlg (pv 0) (by rfl))) (Jkn Jks Jkp))))
   case r1 =>
    refine' Jkr ?s3
    case s3 =>
     exact (Jl0 (Jkz (Jmy rfl) (by rfl) T.Jau Jpa (Jkn (pv 2) (Jkn (Jkz (Jno rfl) (by rfl) T.Jay Jq9 (Jkn (Jll (N := (["basin"] : List Str)) (ini := [none]) rfl (Jse (Jlg (pv 0) (by rfl))) (fun _ _ _ _ _ => (Jl1 (i := 0) (by decide +kernel : (["basin"] : List Str).Nodup) rfl (Or.inl rfl))) (fun _ _ _ _ _ => Jlm) (fun _ _ _ _ _ => (Jmt (K := K) rfl (pv 0) (by rfl)))) Jkp)) Jkp))))
  obtain ⟨dx, b, t, os, ts, ho, hb, bl, ht, tl, n1, n2, n3⟩ := ro
  have len := bl.len
  refine ⟨_, rfl, _, rfl, o, _, dx, _, _, rfl, ho, T.Jef, T.Jej, rfl, _, _, rfl, rfl, ?_⟩
  refine ⟨_, rfl, o, _, dx, _, _, rfl, ho, T.Jef, T.Jei, rfl, _, _, rfl, rfl, _, _, rfl, ?_⟩
  refine ⟨_, rfl, _, rfl, o, _, dx, _, _, rfl, ho, T.Jef, T.Jek, rfl, b, rfl, ⟨_, SqT.of hb⟩, fun D hD => ?_⟩
  refine Jnd ((R.Bs.map (·.rn)).map V.int) hD (by simp [len]) (by rw [List.length_map]; omega) hb ?_ ?_
  ·intro i x y H' Q' hx hy sm k'
   obtain ⟨ob, B, rfl, hB, dx, hb, gs⟩ := (bl.same sm).get hx
   rw [List.getElem?_map, List.getElem?_map, hB] at hy
   cases hy
   exact ⟨_, rfl, ob, _, dx, _, _, rfl, hb, T.Je0, T.Je7, rfl, k' _ fun _ _ h => h⟩
  intro H1 s1 hD1
  exact ⟨D, _, rfl, .inl (SqL.of hD1), Jy4 n1 n3, _, _, rfl, k _ s1⟩
theorem Jo2 : Jky ["self", "thing"] ["self", "thing"] (Jkt (Jkx (top 9) 0)) := ⟨rfl, rfl, rfl, by decide +kernel, rfl, by decide +kernel, by decide +kernel⟩
theorem Jng (T : Tx K mg a) : FnOk P w K mg base CX0 1 a.Jg0 a.Jg1 ["self", "thing"] (Jn2 K "thing") := by
 refine T.Jbr.fn.ok Jo2 (fun vs H Q E h => ?_) (fun cdv A outer s H vs Q E hr h => ?_)
 ·obtain ⟨e, C, W, fI, y, rfl, _⟩ := h
  rfl
 ·obtain ⟨e, C, W, fI, y, rfl, q, c, n, k⟩ := h
  refine ⟨_, (Jkr (Jn0 (pv 0) (pv 1) rfl)), ?_⟩
  exact ⟨_, rfl, _, rfl, e, C, W, fI, true, rfl, q, c, n, k⟩
theorem Jwa : Jky ["river", "standing", "thing"] ["river", "standing", "thing"] (Jkt (top 26)) := ⟨rfl, rfl, rfl, by decide +kernel, rfl, by decide +kernel, by decide +kernel⟩
theorem Js3 (T : Tx K mg a) : FnOk P w K mg base (CXX P w) 4 a.Jgq a.Jgr ["river", "standing", "thing"] (spRain K a) := by
 have G_is_row_up_to := Jo4 (P := P) (w := w) (base := base) T
 have G_is_standing := Jnh (P := P) (w := w) (base := base) T
 have G_forced_rain := Js0 (P := P) (w := w) (base := base) T
 have G_NoStanding___init__ := Jng (P := P) (w := w) (base := base) T
 refine T.J9.fn.okX Jwa (fun vs H Q E h => ?_) (fun cdv A outer s H vs Q E hr h => ?_)
 ·obtain ⟨o, R, z, q, x, r, rfl, _⟩ := h
  rfl
 ·obtain ⟨o, R, z, q, x, r, rfl, ro, pz, rx, k⟩ := h
  refine ⟨?t, ?B, ?C⟩
  case B =>
   refine' Jkq ?s1 ?r1
   case s1 =>
    refine' Jle ?c2 ?a2 ?b2
    case c2 =>
     exact (Jlc (Jld (Jku T.J6 G_is_standing hr (by decide) (Jkn (pv 0) (Jkn (pv 1) Jkp)))))
    case a2 =>
     refine' Jkr ?s3
     case s3 =>
      exact (Jln Jlp rfl (Jme T.Jcn G_NoStanding___init__ hr (by decide) T.Jbr.bd T.Jb8 (Jkn (pv 1) Jkp)))
    case b2 =>
     exact Jl2
   case r1 =>
    refine' Jkq ?s6 ?r6
    case s6 =>
     refine' Jle ?c7 ?a7 ?b7
     case c7 =>
      exact (Jlc (Jld (Jku T.J4 G_is_row_up_to hr (by decide) (Jkn (pv 2) (Jkn (Jll (N := (["basin"] : List Str)) (ini := [none]) rfl (Jse (Jlg (pv 0) (by rfl))) (fun _ _ _ _ _ => (Jl1 (i := 0) (by decide +kernel : (["basin"] : List Str).Nodup) rfl (Or.inl rfl))) (fun _ _ _ _ _ => Jlm) (fun _ _ _ _ _ => (Jmt (K := K) rfl (pv 0) (by rfl)))) Jkp)))))
     case a7 =>
      refine' Jkr ?s8
      case s8 =>
       exact (Jl0 Jly)
     case b7 =>
      exact Jl2
    case r6 =>
     refine' Jkr ?s12
     case s12 =>
      exact (Jl0 (Jsb Jo6 Jo6 (Jku T.J8 G_forced_rain hr (by decide) (Jkn (pv 0) (Jkn (Jl7 Jlb (pv 1) Jks (fun _ _ => rfl)) Jkp))) (Jkz (Jno rfl) (by rfl) T.Jay Jq9 (Jkn (pv 2) Jkp)) (Jl7 Jlb (pv 1) Jks (fun _ _ => rfl))))
  refine ⟨_, rfl, _, rfl, o, R, z, q, rfl, ro, pz, fun H1 s1 => ⟨_, rfl, ?_⟩⟩
  cases es : stB R q with
  | false =>
   rw [es] at k
   exact Jlt (Jm9 T.Jcn T.Jcp rfl fun e dx h1 h2 h3 => k _ _ _ ((RfC.new h1 h2 h3).of s1))
  | true =>
   rw [if_pos es] at k
   obtain ⟨u, wt, rr, rfl, ew⟩ : ∃ u wt rr, q = .two u (.int wt) rr ∧ (0 ≤ wt ∧ wt ≤ R.c) := st_wet es
   obtain ⟨p, rfl, hp, _, _⟩ := pz
   obtain ⟨dx, b, t, os, ts, ho, hb, bl, ht, tl, n1, n2, n3⟩ := ro.same s1
   have len := bl.len
   refine Jlj ⟨_, rfl, _, rfl, o, _, dx, _, _, rfl, ho, T.Jef, T.Jek, rfl, b, rfl, ⟨_, SqT.of hb⟩, fun D hD => ?_⟩
   refine Jnd ((R.Bs.map (·.rn)).map V.int) hD (by simp [len]) (by rw [List.length_map]; omega) hb ?_ ?_
   ·intro i x y H' Q' hx hy sm k'
    obtain ⟨ob, B, rfl, hB, dx, hb, gs⟩ := (bl.same sm).get hx
    rw [List.getElem?_map, List.getElem?_map, hB] at hy
    cases hy
    exact ⟨_, rfl, ob, _, dx, _, _, rfl, hb, T.Je0, T.Je7, rfl, k' _ fun _ _ h => h⟩
   intro H2 s2 hD1
   refine ⟨x, r, D, _, rfl, rx.same (s1.trans s2), hD1, by rw [List.length_map]; omega, fun H3 s3 => ⟨_, rfl, ?_⟩⟩
   rw [List.length_map]
   have s13 := (s1.trans s2).trans s3
   cases er : Jo1 r (List.replicate R.Bs.length 0) (R.Bs.map (·.rn)) with
   | false =>
    have e : rnB R (Jq5 (.two u (.int wt) rr)) r = false := by
     cases r with
     | none => rfl
     | some vs =>
      show (Jo1 (some vs) _ _ && _) = false
      rw [er, Bool.false_and]
    rw [e] at k
    exact Jlt (k _ s13)
   | true =>
    obtain ⟨vs, ns, rfl, rfl, hns⟩ := Jvd er n1 n3
    obtain ⟨px, rfl, hpx, _, _⟩ := rx
    refine Jlj ⟨_, rfl, _, rfl, p, _, 1, _, rfl, rfl, SqT.of (s13 _ _ hp), rfl, o, R, wt, rfl, ro.same s13, fun H4 s4 => ?_⟩
    have s14 := s13.trans s4
    refine ⟨_, rfl, px, ns, rfl, .inr (SqT.of (s14 _ _ hpx)), hns, ?_⟩
    have e : rnB R (Jq5 (.two u (.int wt) rr)) (some (ns.map V.int)) = (decide (Jqd R wt ≤ ns.sum) && decide (ns.sum ≤ wt)) := by
     show (Jo1 (some (ns.map V.int)) _ _ && (decide (Jqd R wt ≤ Jwi (ns.map V.int)) && decide (Jwi (ns.map V.int) ≤ wt))) = _
     rw [er, Bool.true_and, Jya]
    rw [e] at k
    refine ⟨_, _, rfl, rfl, _, rfl, ?_⟩
    cases ef : decide (Jqd R wt ≤ ns.sum) with
    | false =>
     rw [ef, Bool.false_and] at k
     exact Jlj (k _ s14)
    | true =>
     rw [ef, Bool.true_and] at k
     exact Jlt ⟨_, rfl, p, _, 1, _, rfl, rfl, SqT.of (s14 _ _ hp), rfl, _, _, rfl, rfl, k _ s14⟩
end
structure Ltr (n : Nat) (z : Str) : Prop where
 len : z.length ≤ n
 inn : ∀ c ∈ z.cps.toList, c ∈ LET.cps.toList
theorem Ltr.app {n m : Nat} {x y : Str} (a : Ltr n x) (b : Ltr m y) : Ltr (n + m) (x ++ y) := by
 refine ⟨by rw [Str.length_append]; have := a.len; have := b.len; omega, fun c hc => ?_⟩
 have e : (x ++ y).cps = x.cps ++ y.cps := rfl
 rw [e, Array.toList_append, List.mem_append] at hc
 exact hc.elim (a.inn c) (b.inn c)
theorem Ltr.wd {n : Nat} {z : Str} (a : Ltr n z) : Wd n z := ⟨a.len, fun c hc => wd_let.low c (a.inn c hc)⟩
theorem Ltr.sign {c : Nat} (h : c ∈ LET.cps.toList) : Ltr 1 (⟨#[c]⟩ : Str) := ⟨Nat.le_refl 1, fun d hd => by
 have : d = c := by simpa using hd
 rw [this]; exact h⟩
theorem Jz1 (ys : List Str) (h : ∀ y ∈ ys, Ltr 1 y) : Ltr ys.length (Txt.join ("" : Str) ys) := by
 have e0 : ∀ l : List Str, (∀ y ∈ l, Ltr 1 y) → Ltr l.length (Str.join ("" : Str) l) := by
  intro l
  induction l with
  | nil => intro _; exact ⟨Nat.le_refl _, fun c hc => by simp [Str.join, Str.empty] at hc⟩
  | cons y r ih =>
   intro hy
   have hr := ih fun z hz => hy z (List.mem_cons_of_mem _ hz)
   have h1 := hy y List.mem_cons_self
   cases r with
   | nil => exact h1
   | cons z r' =>
    have : Str.join ("" : Str) (y :: z :: r') = y ++ ("" : Str) ++ Str.join ("" : Str) (z :: r') := rfl
    rw [this]
    have hE : Ltr 0 ("" : Str) := ⟨by decide +kernel, fun c hc => absurd hc (by
     have : ("" : Str).cps.toList = [] := by decide +kernel
     rw [this]; simp)⟩
    have q := (h1.app hE).app hr
    exact ⟨Nat.le_trans q.len (by simp only [List.length_cons]; omega), q.inn⟩
 have e1 : Txt.join ("" : Str) ys = Str.join ("" : Str) ys := by
  have := join_plain_closes ("" : Str) ys
  exact beq_iff_eq.mp this
 rw [e1]
 exact e0 ys h
def NmK (f : Int) (k : Nat) (z : Str) : Prop := ∃ (c : Nat) (s : Str), z = (⟨#[c]⟩ : Str) ++ s ∧ Ltr 7 s ∧ atI LET.cps.toList ((f + 11 * (k : Int)) % 26) = some c
theorem NmK.mem {f : Int} {k : Nat} {z : Str} (h : NmK f k z) : Ltr 8 z ∧ Jof z = true := by
 obtain ⟨c, s, rfl, hs, hc⟩ := h
 have hl : LET.length = 26 := by decide +kernel
 obtain ⟨c', m, e⟩ := Jvp (g := LET) (r := (f + 11 * (k : Int)) % 26) (by omega) (by rw [hl]; omega)
 rw [hc] at e
 cases e
 have q := (Ltr.sign m).app hs
 refine ⟨q, ?_⟩
 unfold Jof Jt8
 rw [Bool.and_eq_true]
 refine ⟨decide_eq_true ⟨?_, q.len⟩, List.all_eq_true.mpr fun d hd => decide_eq_true (q.inn d hd)⟩
 rw [Str.length_append]
 show 1 ≤ 1 + s.length
 omega
theorem Yn {i j : Int} {c : Nat} (i0 : 0 ≤ i) (i1 : i < 26) (j0 : 0 ≤ j) (j1 : j < 26) (hi : atI LET.cps.toList i = some c) (hj : atI LET.cps.toList j = some c) : i = j := by
 have all : (List.range 26).all (fun p => (List.range 26).all fun q => decide (p = q) || !decide (atI LET.cps.toList (p : Int) = atI LET.cps.toList (q : Int))) = true := by decide +kernel
 obtain ⟨p, rfl⟩ := Int.eq_ofNat_of_zero_le i0
 obtain ⟨q, rfl⟩ := Int.eq_ofNat_of_zero_le j0
 have h1 := List.all_eq_true.mp all p (List.mem_range.mpr (by omega))
 have h2 := List.all_eq_true.mp h1 q (List.mem_range.mpr (by omega))
 rw [hi, hj] at h2
 simp at h2
 rw [h2]
theorem NmK.ne {f : Int} {j k : Nat} {z : Str} (hj : j < 26) (hk : k < 26) (a : NmK f j z) (b : NmK f k z) : j = k := by
 obtain ⟨c, s, rfl, _, h1⟩ := a
 obtain ⟨d, t, e, _, h2⟩ := b
 have e1 : ((⟨#[c]⟩ : Str) ++ s).cps.toList = ((⟨#[d]⟩ : Str) ++ t).cps.toList := by rw [e]
 have e2 : ∀ (x : Nat) (y : Str), ((⟨#[x]⟩ : Str) ++ y).cps.toList = x :: y.cps.toList := fun x y => by
  show (#[x] ++ y.cps).toList = _
  rw [Array.toList_append]
  rfl
 rw [e2, e2] at e1
 cases List.head_eq_of_cons_eq e1
 have := Yn (by omega) (by omega) (by omega) (by omega) h1 h2
 omega
def Nms (f : Int) (zs : List Str) : Prop := ∀ k z, zs[k]? = some z → NmK f k z
theorem Nms.nodup {f : Int} {zs : List Str} (h : Nms f zs) (hl : zs.length ≤ 26) : zs.Nodup := by
 unfold List.Nodup
 rw [List.pairwise_iff_getElem]
 intro i j hi hj hij e
 have a := h i zs[i] (List.getElem?_eq_getElem hi)
 have b := h j zs[j] (List.getElem?_eq_getElem hj)
 rw [← e] at b
 have := NmK.ne (by omega) (by omega) a b
 omega
theorem Jv1 (ys : List Str) (lo hi : Option Int) : ∃ us : List Str, Jp0 (ys.map V.str) lo hi = us.map V.str ∧ us.Sublist ys := by
 unfold Jp0
 refine ⟨(ys.drop (HT.sIx (ys.map V.str).length 0 lo)).take (HT.sIx (ys.map V.str).length (ys.map V.str).length hi - HT.sIx (ys.map V.str).length 0 lo), ?_, (List.take_sublist _ _).trans (List.drop_sublist _ _)⟩
 rw [List.map_take, List.map_drop]
def Yah : Sp := fun vs H Q _ => ∃ (p : Addr) (m : Nat), vs = [.ref p, .int m] ∧ Strm H p ∧ m ≤ 26 ∧ ∀ (l : Addr) (f : Int) (zs : List Str) (H' : Hp), H l = none → But p H H' → H' l = some (.lst (zs.map V.str)) → zs.length = m → Nms f zs → Q (.ref l) H'
section
variable {P : Program} {w : World} {K : W.Frag} {mg : Str → Option Value} {base : Heap} {a : Ad}
theorem sc_law_names : Jky ["_law_stream_here", "_law_many", "_law_letters", "_law_first", "_law_base", "_law_cut"] ["_law_stream_here", "_law_many"] (Jkt (top 67)) := ⟨rfl, rfl, rfl, by decide +kernel, rfl, by decide +kernel, by decide +kernel⟩
theorem Juf (T : Tx K mg a) : FnOk P w K mg base CX0 2 a.Jis a.Jit ["_law_stream_here", "_law_many"] Yah := by
 have G__law_take := Jm4 (P := P) (w := w) (base := base) T
 refine T.Js.fn.ok sc_law_names (fun vs H Q E h => ?_) (fun cdv A outer s H vs Q E hr h => ?_)
 ·obtain ⟨p, m, rfl, _⟩ := h
  rfl
 ·obtain ⟨p, m, rfl, st, hm, k⟩ := h
  refine ⟨?t, ?B, ?C⟩
  case B =>
   refine' Jkq ?s1 ?r1
   case s1 =>
    exact (Jl3 (i := 2) sc_law_names.nd rfl (Or.inr rfl) Jnn)
   case r1 =>
    refine' Jkq ?s3 ?r3
    case s3 =>
     exact (Jl3 (i := 3) sc_law_names.nd rfl (Or.inr rfl) (Jku T.Jr G__law_take hr (by decide) (Jkn (pv 0) (Jkn Jks Jkp))))
    case r3 =>
     refine' Jkq ?s5 ?r5
     case s5 =>
      exact (Jl3 (i := 4) sc_law_names.nd rfl (Or.inr rfl) (Jll (N := (["_law_k", "_law_letters", "_law_stream_here"] : List Str)) (ini := [none, some 2, some 0]) rfl (Jqp (by rfl) T.Jav (Jkn Jks Jkp)) (fun _ _ _ _ _ => (Jl1 (i := 0) (by decide +kernel : (["_law_k", "_law_letters", "_law_stream_here"] : List Str).Nodup) rfl (Or.inl rfl))) (fun _ _ _ _ _ => Jlm) (fun _ _ _ _ _ => (Jl7 Jz0 (pv 1) (Jku T.Jr G__law_take hr (by decide) (Jkn (pv 2) (Jkn Jks Jkp))) (fun _ _ => rfl)))))
     case r5 =>
      refine' Jkq ?s7 ?r7
      case s7 =>
       exact (Jl3 (i := 5) sc_law_names.nd rfl (Or.inr rfl) (Jku T.Jr G__law_take hr (by decide) (Jkn (pv 0) (Jkn Jks Jkp))))
      case r7 =>
       refine' Jkr ?s9
       case s9 =>
        exact (Jl0 (Jll (N := (["_law_k", "_law_letters", "_law_base", "_law_first", "_law_cut"] : List Str)) (ini := [none, some 2, some 4, some 3, some 5]) rfl (Jqp (by rfl) T.Jav (Jkn (pv 1) Jkp)) (fun _ _ _ _ _ => (Jl1 (i := 0) (by decide +kernel : (["_law_k", "_law_letters", "_law_base", "_law_first", "_law_cut"] : List Str).Nodup) rfl (Or.inl rfl))) (fun _ _ _ _ _ => Jlm) (fun _ _ _ _ _ => (Jl5 Jw2 (Jl7 Jz0 (pv 1) (Jl5 Jok (Jl5 Jlk (pv 3) (Jl5 Jol Jks (pv 0))) Jks) (fun _ _ => rfl)) (pe_bmK (K := K) rfl F.plainAttrs_str F.slot_str_join F.type_str_join (Jz6 (K := K) rfl) Jnn (Jkn (Jon (Jzh (K := K) rfl) (pv 2) Jpy (Jpz (Jl5 Jok (Jl5 Jlk (pv 4) (Jl5 Jol Jks (pv 0))) Jks))) Jkp))))))
  refine ⟨_, rfl, p, 26, rfl, st, by decide, by decide, fun f H1 f0 f1 b1 => ⟨_, rfl, by omega, by omega, fun D hD => ?_⟩⟩
  have neD : D ≠ p := b1.2.ne hD
  refine Jrp (D := D) (fun i σ H' => ∃ (o : Option V) (ys : List Str), σ = [o, some (.str LET), some (.ref p)] ∧ H' D = some (.lst (ys.map V.str)) ∧ ys.length = i ∧ (∀ y ∈ ys, Ltr 1 y) ∧ But p H1 H')
   ?_ ?_ ?_
  ·exact ⟨none, [], rfl, Jko, rfl, (fun y hy => absurd hy (by simp)), But.of b1.2 (Same.upd hD)⟩
  ·rintro i σ H' hi ⟨o, ys, rfl, hDs, hl, hw, b⟩
   refine Jma ⟨_, rfl, _, rfl, p, 26, rfl, b.2, by decide, by decide, fun r H2 r0 r1 b2 => ?_⟩
   obtain ⟨c, hc, hat⟩ := Jvp (g := LET) r0 (by
    have : LET.length = 26 := by decide +kernel
    omega)
   refine ⟨LET, r, c, rfl, rfl, Jmo _ (by decide +kernel), hat, ys.map V.str, b2.1 D _ neD hDs, ?_, _, ys ++ [⟨#[c]⟩], rfl, ?_, ?_, ?_, (b.trans b2).new hD b1.2⟩
   ·rw [List.length_map]
    exact Jlo (by omega)
   ·rw [Jko, List.map_append]
    rfl
   ·rw [List.length_append]
    show ys.length + 1 = i + 1
    omega
   ·intro y hy
    rcases List.mem_append.mp hy with hy | hy
    ·exact hw y hy
    ·rw [List.mem_singleton.mp hy]
     exact Ltr.sign hc
  rintro σ H2 ⟨o, ys, rfl, hDs, hl, hw, b⟩
  have b2 := b1.trans b
  refine ⟨_, rfl, p, 8, rfl, b2.2, by decide, by decide, fun ct H3 c0 c1 b3 => ?_⟩
  have hD3 := b3.1 D _ neD hDs
  have b4 := b2.trans b3
  refine ⟨_, rfl, _, rfl, by omega, by omega, fun D2 hD2 => ?_⟩
  have ne2 : D ≠ D2 := fun e => by rw [e, hD2] at hD3; cases hD3
  refine Jrp (D := D2) (fun i σ H' => ∃ (o : Option V) (zs : List Str), σ = [o, some (.str LET), some (.ref D), some (.int f), some (.int ct)] ∧ H' D2 = some (.lst (zs.map V.str)) ∧ zs.length = i ∧ Nms f zs ∧ Same H3 H')
   ⟨none, [], rfl, Jko, rfl, fun k z e => by simp at e, Same.upd hD2⟩ ?_ ?_
  ·rintro i σ H' hi ⟨o, zs, rfl, hDs2, hl2, hz, sm⟩
   obtain ⟨c, hc, hat⟩ := Jvp (g := LET) (r := (f + 11 * (0 + (i : Int))) % 26) (by omega) (by
    have : LET.length = 26 := by decide +kernel
    omega)
   refine Jma ⟨_, rfl, _, rfl, _, rfl, _, _, rfl, rfl, .inl (by decide), _, _, rfl, rfl, _, _, rfl, rfl, (show (0 : Int) < 26 by decide), LET, _, c, rfl, rfl, Jmo _ (by decide +kernel), hat, ?_⟩
   refine ⟨rfl, _, rfl, _, rfl, _, rfl, _, _, rfl, rfl, .inl (by decide), _, _, rfl, rfl, _, _, rfl, rfl, (show (0 : Int) < 8 by decide), _, rfl, D, _, rfl, SqL.of (sm _ _ hD3), fun q hq => ?_⟩
   obtain ⟨us, eu, hus⟩ := Jv1 ys none (some ((ct + 3 * (0 + (i : Int))) % 8))
   have hu1 : ∀ y ∈ us, Ltr 1 y := fun y hy => hw y (hus.subset hy)
   have hul : us.length ≤ 7 := by
    have := hus.length_le
    omega
   have hs1 := Jxa us fun y hy => (hu1 y hy).wd
   have jl := Jz1 us hu1
   have sq := Same.upd (o := .lst (Jp0 (ys.map V.str) none (some ((ct + 3 * (0 + (i : Int))) % 8)))) hq
   refine ⟨"", q, us, rfl, rfl, SqL.of (by rw [Jko, eu]), ?_, _, _, rfl, rfl, ?_, _, sq _ _ hDs2, ?_, _, zs ++ [(⟨#[c]⟩ : Str) ++ Txt.join ("" : Str) us], rfl, ?_, ?_, ?_, ?_⟩
   ·have : ("" : Str).length = 0 := by decide +kernel
    rw [this]
    omega
   ·have := jl.len
    show 1 + _ ≤ sizeLine
    exact Jmo _ (by omega)
   ·rw [List.length_map]
    exact Jlo (by omega)
   ·rw [Jko, List.map_append]
    rfl
   ·rw [List.length_append]
    show zs.length + 1 = i + 1
    omega
   ·intro j z ej
    rw [List.getElem?_append] at ej
    split at ej
    ·exact hz j z ej
    ·have hj : j = i := by
      have := (List.getElem?_eq_some_iff.mp ej).1
      simp at this
      omega
     subst hj
     rw [hl2, Nat.sub_self] at ej
     cases ej
     refine ⟨c, _, rfl, ⟨Nat.le_trans jl.len hul, jl.inn⟩, ?_⟩
     rw [← hat, Int.zero_add]
   ·intro b o e
    rw [Jkv (Jkw e hD2)]
    exact sq _ _ (sm _ _ e)
  ·rintro σ H4 ⟨o, zs, rfl, hDs2, hl2, hz, sm⟩
   have hn : H D2 = none := by
    cases e : H D2 with
    | none => rfl
    | some u =>
     by_cases hp : D2 = p
     ·subst hp
      obtain ⟨_, _, _, q⟩ := b4.2
      rw [hD2] at q
      cases q
     ·rw [b4.1 _ _ hp e] at hD2
      cases hD2
   exact k D2 f zs H4 hn (b4.same sm) hDs2 (by omega) hz
end
theorem Jqz : ∀ (ns : List Int) (lo m n : Int), Jm5 lo (ns.map V.int) = true → ns.getLast? = some m → m + 1 ≤ n → n ≤ 12 → Jm5 lo ((ns ++ [n]).map V.int) = true
 | [], _, _, _, _, h, _, _ => by simp at h
 | [x], lo, m, n, h, hl, h1, h2 => by
  have e : x = m := by simpa using hl
  subst e
  simp [Jm5] at h ⊢
  omega
 | x :: y :: r, lo, m, n, h, hl, h1, h2 => by
  have hl' : (y :: r).getLast? = some m := by simpa using hl
  have h' : ((decide (lo ≤ x) && decide (x ≤ 12)) && Jm5 (x + 1) ((y :: r).map V.int)) = true := h
  rw [Bool.and_eq_true] at h'
  have ih := Jqz (y :: r) (x + 1) m n h'.2 hl' h1 h2
  show ((decide (lo ≤ x) && decide (x ≤ 12)) && Jm5 (x + 1) (((y :: r) ++ [n]).map V.int)) = true
  rw [h'.1, ih]
  rfl
theorem Jqy : ∀ (ns : List Int) (lo m : Int), Jm5 lo (ns.map V.int) = true → ns.getLast? = some m → lo ≤ m ∧ m ≤ 12
 | [], _, _, _, h => by simp at h
 | [x], lo, m, h, hl => by
  have e : x = m := by simpa using hl
  subst e
  simpa [Jm5] using h
 | x :: y :: r, lo, m, h, hl => by
  have hl' : (y :: r).getLast? = some m := by simpa using hl
  have h' : ((decide (lo ≤ x) && decide (x ≤ 12)) && Jm5 (x + 1) ((y :: r).map V.int)) = true := h
  rw [Bool.and_eq_true, Bool.and_eq_true, decide_eq_true_eq, decide_eq_true_eq] at h'
  have ih := Jqy (y :: r) (x + 1) m h'.2 hl'
  omega
structure Jl9 where
 kd : Str
 ns : List Int
 sv : Option Int
def svV : Option Int → V
 | some i => .int i
 | none => .non
structure GGood (G : Jl9) : Prop where
 kd : Knd G.kd
 ns : Jo7 (Jn9 G.kd) (G.ns.map V.int) = true
 sv : ∀ i, G.sv = some i → 0 ≤ i ∧ i < G.ns.length
def GTAt (p : Addr) (H : Hp) (x : V) (G : Jl9) : Prop := ∃ t m : Addr, x = .ref t ∧ H t = some (.tup [.str G.kd, .ref m, svV G.sv]) ∧ H m = some (.lst (G.ns.map V.int)) ∧ m ≠ p
theorem GTAt.same {p : Addr} {H H' : Hp} {x : V} {G : Jl9} (s : Same H H') (h : GTAt p H x G) : GTAt p H' x G := let ⟨t, m, e, h1, h2, n⟩ := h; ⟨t, m, e, s _ _ h1, s _ _ h2, n⟩
theorem GTAt.but {p : Addr} {H H' : Hp} {x : V} {G : Jl9} (st : Strm H p) (b : But p H H') (h : GTAt p H x G) : GTAt p H' x G :=
 let ⟨t, m, e, h1, h2, n⟩ := h
 ⟨t, m, e, b.1 _ _ (Jmn st h1 (fun _ _ _ z => by cases z)) h1, b.1 _ _ n h2, n⟩
theorem GTAt.move {p q : Addr} {H : Hp} {x : V} {G : Jl9} (hq : H q = none) (h : GTAt p H x G) : GTAt q H x G :=
 let ⟨t, m, e, h1, h2, _⟩ := h
 ⟨t, m, e, h1, h2, fun z => by rw [z, hq] at h2; cases h2⟩
def Yae : Sp := fun vs H Q _ => ∃ (p : Addr), vs = [.ref p] ∧ Strm H p ∧ ∀ (x : V) (G : Jl9) (H' : Hp), But p H H' → GTAt p H' x G → GGood G → Q x H'
section
variable {P : Program} {w : World} {K : W.Frag} {mg : Str → Option Value} {base : Heap} {a : Ad}
theorem sc_law_gate : Jky ["_law_stream_here", "_law_kind", "_law_mark", "_law_marks", "_law_k", "_law_stuck"] ["_law_stream_here"] (Jkt (top 68)) := ⟨rfl, rfl, rfl, by decide +kernel, rfl, by decide +kernel, by decide +kernel⟩
theorem Jv5 (T : Tx K mg a) : FnOk P w K mg base CX0 2 a.Jiu a.Jiv ["_law_stream_here"] Yae := by
 have G__law_take := Jm4 (P := P) (w := w) (base := base) T
 refine T.Jt.fn.ok sc_law_gate (fun vs H Q E h => ?_) (fun cdv A outer s H vs Q E hr h => ?_)
 ·obtain ⟨p, rfl, _⟩ := h
  rfl
 ·obtain ⟨p, rfl, st, k⟩ := h
  refine ⟨?t, ?B, ?C⟩
  case B =>
   refine' Jkq ?s1 ?r1
   case s1 =>
    exact (Jl3 (i := 1) sc_law_gate.nd rfl (Or.inl rfl) (Jl7 Jm1 (Jmh (Jkn Jnn (Jkn Jnn (Jkn Jnn Jkp)))) (Jku T.Jr G__law_take hr (by decide) (Jkn (pv 0) (Jkn Jks Jkp))) (fun _ _ => rfl)))
   case r1 =>
    refine' Jkq ?s3 ?r3
    case s3 =>
     exact (Jl3 (i := 2) sc_law_gate.nd rfl (Or.inl rfl) (Jl5 Jlk (Jku T.Jr G__law_take hr (by decide) (Jkn (pv 0) (Jkn (Jl5 Jmd Jks (Jlf Joy (by rfl) T.Jap Jrj (Jkn (Jmk Jo5 (pv 1) Jnn (Jli _)) Jkp))) Jkp))) (Jlf Joy (by rfl) T.Jap Jrj (Jkn (Jmk Jo5 (pv 1) Jnn (Jli _)) Jkp))))
    case r3 =>
     refine' Jkq ?s5 ?r5
     case s5 =>
      exact (Jl3 (i := 3) sc_law_gate.nd rfl (Or.inl rfl) (Jmh (Jkn (pv 2) Jkp)))
     case r5 =>
      refine' Jkq ?s7 ?r7
      case s7 =>
       refine' Jo0 ?f8_0 ?f8_1 ?f8_2 ?f8_3 ?f8_4
       case f8_0 =>
        exact PassesOwn.never
       case f8_1 =>
        exact rfl
       case f8_2 =>
        exact (Jqp (by rfl) T.Jav (Jkn (Jku T.Jr G__law_take hr (by decide) (Jkn (pv 0) (Jkn Jks Jkp))) Jkp))
       case f8_3 =>
        exact (Jl1 (i := 4) sc_law_gate.nd rfl (Or.inl rfl))
       case f8_4 =>
        refine' Jkq ?s9 ?r9
        case s9 =>
         exact (Jl3 (i := 2) sc_law_gate.nd rfl (Or.inl rfl) (Jl5 Jlk (Jl5 Jlk (pv 2) Jks) (Jku T.Jr G__law_take hr (by decide) (Jkn (pv 0) (Jkn Jks Jkp)))))
        case r9 =>
         refine' Jkr ?s11
         case s11 =>
          exact (Jmu (Jv9 F.plainAttrs_list F.slot_list_append F.type_list_append Jns (pv 3) (Jkn (pv 2) Jkp)))
      case r7 =>
       refine' Jkq ?s13 ?r13
       case s13 =>
        exact (Jl3 (i := 5) sc_law_gate.nd rfl (Or.inl rfl) Jmv)
       case r13 =>
        refine' Jkq ?s15 ?r15
        case s15 =>
         refine' Jle ?c16 ?a16 ?b16
         case c16 =>
          exact (Jlv Jo5 (Jku T.Jr G__law_take hr (by decide) (Jkn (pv 0) (Jkn Jks Jkp))) Jks (Jli _))
         case a16 =>
          refine' Jkr ?s17
          case s17 =>
           exact (Jl3 (i := 5) sc_law_gate.nd rfl (Or.inl rfl) (Jku T.Jr G__law_take hr (by decide) (Jkn (pv 0) (Jkn (Jkz Jl8 (by rfl) T.Jar Jmc (Jkn (pv 3) Jkp)) Jkp))))
         case b16 =>
          exact Jl2
        case r15 =>
         refine' Jkr ?s20
         case s20 =>
          exact (Jl0 (Jm8 (Jkn (pv 1) (Jkn (pv 3) (Jkn (pv 5) Jkp)))))
  refine ⟨(show 3 ≤ sizeLine by decide), fun L hL => ?_⟩
  have sL := Same.upd (o := .lst [.str "step", .str "flap", .str "part"]) hL
  have bL := But.of st sL
  have nL : L ≠ p := st.ne hL
  refine ⟨_, rfl, p, 3, rfl, bL.2, by decide, by decide, fun r H1 r0 r1 b1 => ?_⟩
  obtain ⟨kd, hat, hk⟩ : ∃ kd : Str, atI [V.str "step", .str "flap", .str "part"] r = some (.str kd) ∧ Knd kd := by
   have cs : r = 0 ∨ r = 1 ∨ r = 2 := by omega
   rcases cs with rfl | rfl | rfl
   ·exact ⟨_, rfl, .inl rfl⟩
   ·exact ⟨_, rfl, .inr (.inl rfl)⟩
   ·exact ⟨_, rfl, .inr (.inr rfl)⟩
  refine ⟨L, _, r, _, rfl, rfl, SqL.of (b1.1 _ _ nL Jko), hat, ?_⟩
  have bK := bL.trans b1
  have el : Jn9 kd = if decide (V.str kd = V.str "part") = true then 1 else 0 := by
   unfold Jn9
   by_cases h : kd = ("part" : Str)
   ·rw [if_pos h, if_pos (decide_eq_true (by rw [h]))]
   ·rw [if_neg h, if_neg (by rw [decide_eq_false (fun e => h (V.str.inj e))]; decide)]
  have hlo : Jn9 kd = 0 ∨ Jn9 kd = 1 := by unfold Jn9; split <;> simp
  refine ⟨_, rfl, _, rfl, rfl, .inr ⟨_, rfl, _, _, rfl, rfl, ?_⟩⟩
  rw [← el]
  have hm : (0 : Int) < 4 - Jn9 kd ∧ (4 - Jn9 kd).natAbs.log2 < 9000 := by rcases hlo with e | e <;> rw [e] <;> decide
  refine ⟨p, 4 - Jn9 kd, rfl, bK.2, hm.1, hm.2, fun r2 H2 s0 s1 b2 => ?_⟩
  refine ⟨_, rfl, rfl, .inr ⟨_, rfl, _, _, rfl, rfl, ?_⟩⟩
  rw [← el]
  have b02 := bK.trans b2
  refine ⟨_, rfl, (show 1 ≤ sizeLine by decide), fun l hl => ?_⟩
  have hl0 : H l = none := But.free st b02 hl
  have nlp : l ≠ p := st.ne hl0
  have b3 : But p H (upd H2 l (.lst [.int (r2 + Jn9 kd)])) := b02.updD hl0 nlp
  refine ⟨_, rfl, p, 4, rfl, b3.2, by decide, by decide, fun j H3 j0 j1 b4 => ⟨j, rfl, by omega, by omega, ?_⟩⟩
  refine Jth (fun i σ H' => ∃ (o o' : Option V) (ns : List Int) (m : Int), σ = [some (.ref p), some (.str kd), some (.int m), some (.ref l), o, o'] ∧ But p H H' ∧ H' l = some (.lst (ns.map V.int)) ∧ Jm5 (Jn9 kd) (ns.map V.int) = true ∧ ns.getLast? = some m ∧ ns.length = i + 1 ∧ m ≤ 3 + 3 * i)
   ⟨_, _, [r2 + Jn9 kd], r2 + Jn9 kd, rfl, b3.trans b4, b4.1 _ _ nlp Jko, ?_, rfl, by simp, by omega⟩ ?_ ?_
  ·simp [Jm5]
   omega
  ·rintro i σ H4 hi ⟨o, o', ns, m, rfl, b5, h5, hmk, hla, hle, hmi⟩
   have hb := Jqy ns (Jn9 kd) m hmk hla
   refine ⟨_, rfl, _, _, rfl, rfl, _, rfl, p, 3, rfl, b5.2, by decide, by decide, fun r' H5 t0 t1 b6 => ?_⟩
   refine ⟨_, _, rfl, rfl, ?_⟩
   have h6 := b6.1 _ _ nlp h5
   refine ⟨_, rfl, .inl ⟨rfl, _, SqL.of h6⟩, _, rfl, l, _, _, rfl, rfl, h6, by rw [List.length_map]; exact Jlo (by omega), ?_⟩
   refine ⟨_, _, ns ++ [m + 1 + r'], m + 1 + r', rfl, (b5.trans b6).updD hl0 nlp, ?_, Jqz ns (Jn9 kd) m _ hmk hla (by omega) (by omega), by simp, by simp; omega, by omega⟩
   rw [Jko]
   simp
  ·rintro σ H4 ⟨o, o', ns, m, rfl, b5, h5, hmk, hla, hle, hmi⟩
   have har : Jo7 (Jn9 kd) (ns.map V.int) = true := by
    unfold Jo7
    rw [hmk, Bool.and_true, List.length_map]
    exact decide_eq_true (by omega)
   refine ⟨_, rfl, p, 6, rfl, b5.2, by decide, by decide, fun r6 H6 _ _ b6 => ⟨rfl, _, rfl, ite2 (fun _ => ?_) (fun _ => ?_)⟩⟩
   ·have h6 := b6.1 _ _ nlp h5
    refine ⟨_, rfl, _, rfl, l, _, rfl, .inl (SqL.of h6), p, _, rfl, (b5.trans b6).2, by rw [List.length_map]; omega, ?_, fun r7 H7 u0 u1 b7 => ?_⟩
    ·rw [List.length_map]
     have : ((ns.length : Int)).natAbs ≤ 4 := by omega
     exact Nat.lt_of_le_of_lt (Nat.log2_le_self _) (by omega)
    rw [List.length_map] at u1
    have h7 := b7.1 _ _ nlp h6
    refine ⟨_, rfl, _, rfl, _, rfl, (show 3 ≤ sizeLine by decide), fun t ht => ?_⟩
    have sT := Same.upd (o := .tup [.str kd, .ref l, svV (some r7)]) ht
    refine k (.ref t) ⟨kd, ns, some r7⟩ _ (((b5.trans b6).trans b7).same sT) ⟨t, l, rfl, Jko, sT _ _ h7, nlp⟩ ⟨hk, har, fun i e => ?_⟩
    cases e
    exact ⟨u0, u1⟩
   ·have h6 := b6.1 _ _ nlp h5
    refine ⟨_, rfl, _, rfl, _, rfl, (show 3 ≤ sizeLine by decide), fun t ht => ?_⟩
    have sT := Same.upd (o := .tup [.str kd, .ref l, svV (none)]) ht
    refine k (.ref t) ⟨kd, ns, none⟩ _ ((b5.trans b6).same sT) ⟨t, l, rfl, Jko, sT _ _ h6, nlp⟩ ⟨hk, har, fun i e => ?_⟩
    cases e
end
structure Jn1 where
 z : Str
 lo : Int
 hi : Int
 st : Int
 rn : Int
 G : Jl9
structure Jt7 (B : Jn1) : Prop where
 lo : 0 ≤ B.lo ∧ B.lo ≤ 12
 hi : B.lo ≤ B.hi ∧ B.hi ≤ 12
 st : B.lo ≤ B.st ∧ B.st ≤ B.hi
 rn : 0 ≤ B.rn ∧ B.rn ≤ 6
 G : GGood B.G
def BTAt (p : Addr) (H : Hp) (x : V) (B : Jn1) : Prop := ∃ (t : Addr) (g : V), x = .ref t ∧ H t = some (.tup [.str B.z, .int B.lo, .int B.hi, .int B.st, .int B.rn, g]) ∧ GTAt p H g B.G
theorem BTAt.same {p : Addr} {H H' : Hp} {x : V} {B : Jn1} (s : Same H H') (h : BTAt p H x B) : BTAt p H' x B := let ⟨t, g, e, h1, h2⟩ := h; ⟨t, g, e, s _ _ h1, h2.same s⟩
theorem BTAt.but {p : Addr} {H H' : Hp} {x : V} {B : Jn1} (st : Strm H p) (b : But p H H') (h : BTAt p H x B) : BTAt p H' x B :=
 let ⟨t, g, e, h1, h2⟩ := h
 ⟨t, g, e, b.1 _ _ (Jmn st h1 (fun _ _ _ z => by cases z)) h1, h2.but st b⟩
theorem BTAt.move {p q : Addr} {H : Hp} {x : V} {B : Jn1} (hq : H q = none) (h : BTAt p H x B) : BTAt q H x B :=
 let ⟨t, g, e, h1, h2⟩ := h
 ⟨t, g, e, h1, h2.move hq⟩
def Jzn : Sp := fun vs H Q _ => ∃ (p : Addr) (z : Str), vs = [.ref p, .str z] ∧ Strm H p ∧ ∀ (x : V) (B : Jn1) (H' : Hp), But p H H' → BTAt p H' x B → Jt7 B → B.z = z → Q x H'
theorem Joe {i : Int} (h : i.natAbs ≤ 1000) : i.natAbs.log2 < 9000 := Nat.lt_of_le_of_lt (Nat.log2_le_self _) (by omega)
section
variable {P : Program} {w : World} {K : W.Frag} {mg : Str → Option Value} {base : Heap} {a : Ad}
theorem sc_law_basin : Jky ["_law_stream_here", "_law_name", "_law_low", "_law_high", "_law_start"] ["_law_stream_here", "_law_name"] (Jkt (top 69)) := ⟨rfl, rfl, rfl, by decide +kernel, rfl, by decide +kernel, by decide +kernel⟩
theorem Jud (T : Tx K mg a) : FnOk P w K mg base CX0 3 a.Jiw a.Jix ["_law_stream_here", "_law_name"] Jzn := by
 have G__law_take := Jm4 (P := P) (w := w) (base := base) T
 have G__law_gate := Jv5 (P := P) (w := w) (base := base) T
 refine T.Ju.fn.ok sc_law_basin (fun vs H Q E h => ?_) (fun cdv A outer s H vs Q E hr h => ?_)
 ·obtain ⟨p, z, rfl, _⟩ := h
  rfl
 ·obtain ⟨p, z, rfl, st, k⟩ := h
  refine ⟨?t, ?B, ?C⟩
  case B =>
   refine' Jkq ?s1 ?r1
   case s1 =>
    exact (Jl3 (i := 2) sc_law_basin.nd rfl (Or.inl rfl) (Jku T.Jr G__law_take hr (by decide) (Jkn (pv 0) (Jkn Jks Jkp))))
   case r1 =>
    refine' Jkq ?s3 ?r3
    case s3 =>
     exact (Jl3 (i := 3) sc_law_basin.nd rfl (Or.inl rfl) (Jl5 Jlk (pv 2) (Jku T.Jr G__law_take hr (by decide) (Jkn (pv 0) (Jkn (Jl5 Jmd Jks (pv 2)) Jkp)))))
    case r3 =>
     refine' Jkq ?s5 ?r5
     case s5 =>
      exact (Jl3 (i := 4) sc_law_basin.nd rfl (Or.inl rfl) (Jl5 Jlk (pv 2) (Jku T.Jr G__law_take hr (by decide) (Jkn (pv 0) (Jkn (Jl5 Jlk (Jl5 Jmd (pv 3) (pv 2)) Jks) Jkp)))))
     case r5 =>
      refine' Jkr ?s7
      case s7 =>
       refine' Jl0 ?e9_0
       case e9_0 =>
        refine' Jm8 ?e10_0
        case e10_0 =>
         refine' pa6 ?e11_0 ?e11_1 ?e11_2 ?e11_3 ?e11_4 ?e11_5
         case e11_0 =>
          exact (pv 1)
         case e11_1 =>
          exact (pv 2)
         case e11_2 =>
          exact (pv 3)
         case e11_3 =>
          exact (pv 4)
         case e11_4 =>
          exact (Jku T.Jr G__law_take hr (by decide) (Jkn (pv 0) (Jkn Jks Jkp)))
         case e11_5 =>
          exact (Jku T.Jt G__law_gate hr (by decide) (Jkn (pv 0) Jkp))
  refine ⟨_, rfl, p, 13, rfl, st, by decide, by decide, fun lo H1 l0 l1 b1 => ?_⟩
  refine ⟨_, rfl, _, rfl, _, rfl, _, _, rfl, rfl, p, 13 - lo, rfl, b1.2, by omega, Joe (by omega), fun hi H2 h0 h1 b2 => ⟨_, _, rfl, rfl, ?_⟩⟩
  refine ⟨_, rfl, _, rfl, _, rfl, _, rfl, _, _, rfl, rfl, _, _, rfl, rfl, p, lo + hi - lo + 1, rfl, b2.2, by omega, Joe (by omega), fun sv H3 s0 s1 b3 => ⟨_, _, rfl, rfl, ?_⟩⟩
  refine ⟨_, rfl, _, rfl, _, rfl, _, rfl, _, rfl, p, 7, rfl, b3.2, by decide, by decide, fun rn H4 n0 n1 b4 => ?_⟩
  refine ⟨_, rfl, p, rfl, b4.2, fun g G H5 b5 gt gg => ?_⟩
  refine ⟨(show 6 ≤ sizeLine by decide), fun t ht => ?_⟩
  have sT := Same.upd (o := .tup [.str z, .int lo, .int (lo + hi), .int (lo + sv), .int rn, g]) ht
  exact k (.ref t) ⟨z, lo, lo + hi, lo + sv, rn, G⟩ _ (((((b1.trans b2).trans b3).trans b4).trans b5).same sT) ⟨t, g, rfl, Jko, gt.same sT⟩ ⟨by dsimp only; omega, by dsimp only; omega, by dsimp only; omega, by dsimp only; omega, gg⟩ rfl
end
theorem Ya3 {bs : List V} {ns : List Int} (h : ∀ b ∈ bs, ∃ o, b = V.ref o) (hn : 1 ≤ ns.length) : bs ≠ ns.map V.int := by
 intro e
 cases ns with
 | nil => simp at hn
 | cons n r =>
  obtain ⟨o, q⟩ := h (.int n) (by rw [e]; simp)
  cases q
theorem GGood.len {G : Jl9} (h : GGood G) : 1 ≤ G.ns.length ∧ G.ns.length ≤ 4 := by
 have q := h.ns
 unfold Jo7 at q
 rw [Bool.and_eq_true, decide_eq_true_eq, List.length_map] at q
 exact q.1
theorem GTAt.put {p D : Addr} {H : Hp} {x : V} {G : Jl9} {bs : List V} {o : HO} (g : GGood G) (hD : H D = some (.lst bs)) (hb : ∀ b ∈ bs, ∃ o, b = V.ref o) (h : GTAt p H x G) : GTAt p (upd H D o) x G := by
 obtain ⟨t, m, e, h1, h2, n⟩ := h
 refine ⟨t, m, e, ?_, ?_, n⟩
 ·rw [Jkv (fun z => by rw [z, hD] at h1; cases h1)]
  exact h1
 ·rw [Jkv (fun z => by rw [z, hD] at h2; cases h2; exact Ya3 hb g.len.1 rfl)]
  exact h2
theorem BTAt.put {p D : Addr} {H : Hp} {x : V} {B : Jn1} {bs : List V} {o : HO} (g : Jt7 B) (hD : H D = some (.lst bs)) (hb : ∀ b ∈ bs, ∃ o, b = V.ref o) (h : BTAt p H x B) : BTAt p (upd H D o) x B := by
 obtain ⟨t, y, e, h1, h2⟩ := h
 refine ⟨t, y, e, ?_, h2.put g.G hD hb⟩
 rw [Jkv (fun z => by rw [z, hD] at h1; cases h1)]
 exact h1
def BTL (p : Addr) (H : Hp) : List V → List Jn1 → Prop
 | [], [] => True
 | x :: xs, B :: Bs => BTAt p H x B ∧ BTL p H xs Bs
 | _, _ => False
theorem BTL.map {p q : Addr} {H H' : Hp} (f : ∀ x B, Jt7 B → BTAt p H x B → BTAt q H' x B) : ∀ {xs : List V} {Bs : List Jn1}, (∀ B ∈ Bs, Jt7 B) → BTL p H xs Bs → BTL q H' xs Bs
 | [], [], _, _ => True.intro
 | _ :: _, _ :: _, g, ⟨h, t⟩ => ⟨f _ _ (g _ List.mem_cons_self) h, BTL.map f (fun B hB => g B (List.mem_cons_of_mem _ hB)) t⟩
theorem BTL.snoc {p : Addr} {H : Hp} {x : V} {B : Jn1} (h : BTAt p H x B) : ∀ {xs : List V} {Bs : List Jn1}, BTL p H xs Bs → BTL p H (xs ++ [x]) (Bs ++ [B])
 | [], [], _ => ⟨h, True.intro⟩
 | _ :: _, _ :: _, ⟨a, t⟩ => ⟨a, BTL.snoc h t⟩
theorem BTL.refs {p : Addr} {H : Hp} : ∀ {xs : List V} {Bs : List Jn1}, BTL p H xs Bs → ∀ b ∈ xs, ∃ o, b = V.ref o
 | [], [], _, b, hb => by simp at hb
 | x :: xs, B :: Bs, ⟨⟨t, g, e, _⟩, tl⟩, b, hb => by
  rcases List.mem_cons.mp hb with rfl | hb
  ·exact ⟨t, e⟩
  ·exact BTL.refs tl b hb
theorem BTL.len {p : Addr} {H : Hp} : ∀ {xs : List V} {Bs : List Jn1}, BTL p H xs Bs → xs.length = Bs.length
 | [], [], _ => rfl
 | _ :: _, _ :: _, ⟨_, t⟩ => by rw [List.length_cons, List.length_cons, BTL.len t]
structure Jo3 where
 z : Str
 b : Str
 wt : Int
def TTAt (H : Hp) (x : V) (B : Jo3) : Prop := ∃ t : Addr, x = .ref t ∧ H t = some (.tup [.str B.z, .str B.b, .int B.wt])
theorem TTAt.same {H H' : Hp} {x : V} {B : Jo3} (s : Same H H') (h : TTAt H x B) : TTAt H' x B := let ⟨t, e, h1⟩ := h; ⟨t, e, s _ _ h1⟩
theorem TTAt.but {p : Addr} {H H' : Hp} {x : V} {B : Jo3} (st : Strm H p) (b : But p H H') (h : TTAt H x B) : TTAt H' x B :=
 let ⟨t, e, h1⟩ := h
 ⟨t, e, b.1 _ _ (Jmn st h1 (fun _ _ _ z => by cases z)) h1⟩
theorem TTAt.put {D : Addr} {H : Hp} {x : V} {B : Jo3} {bs : List V} {o : HO} (hD : H D = some (.lst bs)) (h : TTAt H x B) : TTAt (upd H D o) x B := by
 obtain ⟨t, e, h1⟩ := h
 refine ⟨t, e, ?_⟩
 rw [Jkv (fun z => by rw [z, hD] at h1; cases h1)]
 exact h1
def TTL (H : Hp) : List V → List Jo3 → Prop
 | [], [] => True
 | x :: xs, B :: Bs => TTAt H x B ∧ TTL H xs Bs
 | _, _ => False
theorem TTL.map {H H' : Hp} (f : ∀ x B, TTAt H x B → TTAt H' x B) : ∀ {xs : List V} {Bs : List Jo3}, TTL H xs Bs → TTL H' xs Bs
 | [], [], _ => True.intro
 | _ :: _, _ :: _, ⟨h, t⟩ => ⟨f _ _ h, TTL.map f t⟩
theorem TTL.snoc {H : Hp} {x : V} {B : Jo3} (h : TTAt H x B) : ∀ {xs : List V} {Bs : List Jo3}, TTL H xs Bs → TTL H (xs ++ [x]) (Bs ++ [B])
 | [], [], _ => ⟨h, True.intro⟩
 | _ :: _, _ :: _, ⟨a, t⟩ => ⟨a, TTL.snoc h t⟩
theorem TTL.len {H : Hp} : ∀ {xs : List V} {Bs : List Jo3}, TTL H xs Bs → xs.length = Bs.length
 | [], [], _ => rfl
 | _ :: _, _ :: _, ⟨_, t⟩ => by rw [List.length_cons, List.length_cons, TTL.len t]
structure Jmw where
 c : Int
 g : Int
 Bs : List Jn1
 Ts : List Jo3
structure Job (R : Jmw) : Prop where
 c : 0 ≤ R.c ∧ R.c ≤ 12
 g : 0 ≤ R.g ∧ R.g ≤ R.c
 n : 1 ≤ R.Bs.length ∧ R.Bs.length ≤ 16
 Bs : ∀ B ∈ R.Bs, Jt7 B ∧ Jof B.z = true ∧ Ltr 8 B.z
 nd : (R.Bs.map (·.z)).Nodup
 tn : R.Ts.length ≤ 3
 Ts : ∀ B ∈ R.Ts, Jof B.z = true ∧ Ltr 8 B.z ∧ B.b ∈ R.Bs.map (·.z) ∧ 1 ≤ B.wt ∧ B.wt ≤ 6
 td : (R.Ts.map (·.z)).Nodup
def RTAt (p : Addr) (H : Hp) (x : V) (R : Jmw) : Prop := ∃ (t lb lt : Addr) (bs ts : List V), x = .ref t ∧ H t = some (.tup [.int R.c, .int R.g, .ref lb, .ref lt]) ∧ H lb = some (.lst bs) ∧ BTL p H bs R.Bs ∧ H lt = some (.lst ts) ∧ TTL H ts R.Ts ∧ lb ≠ p ∧ lt ≠ p
def Jzo : Sp := fun vs H Q _ => ∃ (c : Int), vs = [.int c] ∧ ∀ (x : V) (R : Jmw) (p : Addr) (H' : Hp), H p = none → Same H H' → Strm H' p → RTAt p H' x R → Job R → Q x H'
section
variable {P : Program} {w : World} {K : W.Frag} {mg : Str → Option Value} {base : Heap} {a : Ad}
theorem sc_law_river : Jky ["_law_cell_here", "_law_stream_here", "_law_many", "_law_cloud", "_law_gain", "_law_names_here", "_law_basins", "_law_towns", "_law_name"] ["_law_cell_here"] (Jkt (top 70)) := ⟨rfl, rfl, rfl, by decide +kernel, rfl, by decide +kernel, by decide +kernel⟩
theorem Jug (T : Tx K mg a) : FnOk P w K mg base CX0 4 a.Jiy a.Jiz ["_law_cell_here"] Jzo := by
 have G__law_take := Jm4 (P := P) (w := w) (base := base) T
 have G__law_names := Juf (P := P) (w := w) (base := base) T
 have G__law_basin := Jud (P := P) (w := w) (base := base) T
 have G__law_stream := Jp9 (P := P) (w := w) (base := base) T
 refine T.Jv.fn.ok sc_law_river (fun vs H Q E h => ?_) (fun cdv A outer s H vs Q E hr h => ?_)
 ·obtain ⟨c, rfl, _⟩ := h
  rfl
 ·obtain ⟨c, rfl, k⟩ := h
  refine ⟨?t, ?B, ?C⟩
  case B =>
   refine' Jkq ?s1 ?r1
   case s1 =>
    exact (Jl3 (i := 1) sc_law_river.nd rfl (Or.inr rfl) (Jku T.Jq G__law_stream hr (by decide) (Jkn (pv 0) Jkp)))
   case r1 =>
    refine' Jkq ?s3 ?r3
    case s3 =>
     exact (Jl3 (i := 2) sc_law_river.nd rfl (Or.inl rfl) (Jl7 Jm1 (Jmh (pa8 Jks Jks Jks Jks Jks Jks (Jl5 Jlk Jks (Jku T.Jr G__law_take hr (by decide) (Jkn (pv 1) (Jkn Jks Jkp)))) (Jl5 Jlk Jks (Jku T.Jr G__law_take hr (by decide) (Jkn (pv 1) (Jkn Jks Jkp)))))) (Jku T.Jr G__law_take hr (by decide) (Jkn (pv 1) (Jkn Jks Jkp))) (fun _ _ => rfl)))
    case r3 =>
     refine' Jkq ?s5 ?r5
     case s5 =>
      exact (Jl3 (i := 3) sc_law_river.nd rfl (Or.inl rfl) (Jku T.Jr G__law_take hr (by decide) (Jkn (pv 1) (Jkn Jks Jkp))))
     case r5 =>
      refine' Jkq ?s7 ?r7
      case s7 =>
       exact (Jl3 (i := 4) sc_law_river.nd rfl (Or.inl rfl) (Jku T.Jr G__law_take hr (by decide) (Jkn (pv 1) (Jkn (Jl5 Jlk (pv 3) Jks) Jkp))))
      case r7 =>
       refine' Jkq ?s9 ?r9
       case s9 =>
        exact (Jl3 (i := 5) sc_law_river.nd rfl (Or.inl rfl) (Jku T.Js G__law_names hr (by decide) (Jkn (pv 1) (Jkn (pv 2) Jkp))))
       case r9 =>
        refine' Jkq ?s11 ?r11
        case s11 =>
         exact (Ya1 (i := 6) (N := (["_law_name", "_law_stream_here"] : List Str)) (ini := [none, some 1]) sc_law_river.nd rfl (Or.inl rfl) rfl (Jm7 (pv 5)) (fun _ _ _ _ _ => (Jl1 (i := 0) (by decide +kernel : (["_law_name", "_law_stream_here"] : List Str).Nodup) rfl (Or.inl rfl))) (fun _ _ _ _ _ => Jlm) (fun _ _ _ _ _ => (Jku T.Ju G__law_basin hr (by decide) (Jkn (pv 1) (Jkn (pv 0) Jkp)))))
        case r11 =>
         refine' Jkq ?s13 ?r13
         case s13 =>
          exact (Jl3 (i := 7) sc_law_river.nd rfl (Or.inl rfl) (Jmh Jkp))
         case r13 =>
          refine' Jkq ?s15 ?r15
          case s15 =>
           refine' Jo0 ?f16_0 ?f16_1 ?f16_2 ?f16_3 ?f16_4
           case f16_0 =>
            exact PassesOwn.never
           case f16_1 =>
            exact rfl
           case f16_2 =>
            exact (Jm7 (Jon Jx8 (Jku T.Js G__law_names hr (by decide) (Jkn (pv 1) (Jkn Jks Jkp))) Jpy (Jpz (Jku T.Jr G__law_take hr (by decide) (Jkn (pv 1) (Jkn Jks Jkp))))))
           case f16_3 =>
            exact (Jl1 (i := 8) sc_law_river.nd rfl (Or.inl rfl))
           case f16_4 =>
            refine' Jkr ?s17
            case s17 =>
             exact (Jmu (Jv9 F.plainAttrs_list F.slot_list_append F.type_list_append Jns (pv 7) (Jkn (Jm8 (Jkn (pv 8) (Jkn (Jl7 Jm1 (pv 5) (Jku T.Jr G__law_take hr (by decide) (Jkn (pv 1) (Jkn (pv 2) Jkp))) (fun _ _ => rfl)) (Jkn (Jl5 Jlk Jks (Jku T.Jr G__law_take hr (by decide) (Jkn (pv 1) (Jkn Jks Jkp)))) Jkp)))) Jkp)))
          case r15 =>
           refine' Jkr ?s19
           case s19 =>
            refine' Jl0 ?e21_0
            case e21_0 =>
             refine' Jm8 ?e22_0
             case e22_0 =>
              refine' pa4 ?e23_0 ?e23_1 ?e23_2 ?e23_3
              case e23_0 =>
               exact (pv 3)
              case e23_1 =>
               exact (pv 4)
              case e23_2 =>
               exact (pv 6)
              case e23_3 =>
               exact (pv 7)
  refine ⟨_, rfl, c, rfl, fun p H1 hp s1 st => ?_⟩
  refine ⟨_, rfl, p, 12, rfl, st, by decide, by decide, fun r1 H2 r10 r11 b1 => ⟨_, _, rfl, rfl, ?_⟩⟩
  refine ⟨_, rfl, p, 16, rfl, b1.2, by decide, by decide, fun r2 H3 r20 r21 b2 => ⟨_, _, rfl, rfl, (show 8 ≤ sizeLine by decide), fun L hL => ?_⟩⟩
  have b12 := b1.trans b2
  have nL : L ≠ p := b12.2.ne hL
  have b3 := But.of b12.2 (Same.upd (o := .lst [V.int 1, V.int 2, V.int 3, V.int 4, V.int 2, V.int 3, V.int (5 + r1), V.int (1 + r2)]) hL)
  refine ⟨_, rfl, p, 8, rfl, b3.2, by decide, by decide, fun r3 H4 r30 r31 b4 => ?_⟩
  obtain ⟨n, hat, n1, n16⟩ : ∃ n : Nat, atI [V.int 1, V.int 2, V.int 3, V.int 4, V.int 2, V.int 3, V.int (5 + r1), V.int (1 + r2)] r3 = some (.int n) ∧ 1 ≤ n ∧ n ≤ 16 := by
   have cs : r3 = 0 ∨ r3 = 1 ∨ r3 = 2 ∨ r3 = 3 ∨ r3 = 4 ∨ r3 = 5 ∨ r3 = 6 ∨ r3 = 7 := by omega
   rcases cs with rfl | rfl | rfl | rfl | rfl | rfl | rfl | rfl
   ·exact ⟨1, rfl, by omega, by omega⟩
   ·exact ⟨2, rfl, by omega, by omega⟩
   ·exact ⟨3, rfl, by omega, by omega⟩
   ·exact ⟨4, rfl, by omega, by omega⟩
   ·exact ⟨2, rfl, by omega, by omega⟩
   ·exact ⟨3, rfl, by omega, by omega⟩
   ·refine ⟨(5 + r1).toNat, ?_, by omega, by omega⟩
    rw [Int.toNat_of_nonneg (by omega)]
    rfl
   ·refine ⟨(1 + r2).toNat, ?_, by omega, by omega⟩
    rw [Int.toNat_of_nonneg (by omega)]
    rfl
  refine ⟨L, _, r3, _, rfl, rfl, SqL.of (b4.1 _ _ nL Jko), hat, ?_⟩
  have b5 := (b12.trans b3).trans b4
  refine ⟨_, rfl, p, 13, rfl, b5.2, by decide, by decide, fun cl H5 c0 c1 b6 => ?_⟩
  refine ⟨_, rfl, _, rfl, _, _, rfl, rfl, p, cl + 1, rfl, b6.2, by omega, Joe (by omega), fun gn H6 g0 g1 b7 => ?_⟩
  refine ⟨_, rfl, _, rfl, p, n, rfl, b7.2, by omega, fun l f zs H7 hl b8 hl7 len nms => ?_⟩
  have b57 := (b5.trans b6).trans (b7.trans b8)
  have nlp : l ≠ p := b7.2.ne hl
  refine ⟨_, rfl, l, rfl, ⟨_, SqL.of hl7⟩, fun D hD => ?_⟩
  have nD : D ≠ p := b57.2.ne hD
  refine Jmg (K := K) (a := l) (xs := zs.map V.str) (D := D) (fun i σ H' => ∃ (o : Option V) (bs : List V) (Bs : List Jn1), σ = [o, some (.ref p)] ∧ H' D = some (.lst bs) ∧ BTL p H' bs Bs ∧ Bs.length = i ∧ (∀ B ∈ Bs, Jt7 B) ∧ Bs.map (·.z) = zs.take i ∧ But p H7 H') ?_ ?_ ?_ ?_
  ·exact ⟨_, [], [], rfl, Jko, True.intro, rfl, fun B hB => absurd hB (by simp), rfl, But.of b57.2 (Same.upd hD)⟩
  ·rintro i σ H' _ ⟨o, bs, Bs, rfl, _, _, _, _, _, b⟩
   exact SqL.of (b.1 _ _ nlp hl7)
  ·rintro i x σ H' hx ⟨o, bs, Bs, rfl, hDs, btl, hln, good, names, b⟩
   rw [List.getElem?_map] at hx
   cases ez : zs[i]? with
   | none => rw [ez] at hx; cases hx
   | some z =>
    rw [ez] at hx
    cases hx
    have hi : i < zs.length := (List.getElem?_eq_some_iff.mp ez).1
    refine Jma ⟨_, rfl, _, rfl, p, z, rfl, b.2, fun x B H8 b9 bt bg bz => ?_⟩
    have btl8 := BTL.map (fun x B _ h => h.but b.2 b9) good btl
    have hD8 := b9.1 _ _ nD hDs
    have blen := btl.len
    refine ⟨bs, hD8, Jlo (by omega), _, bs ++ [x], Bs ++ [B], rfl, Jko, ?_, by rw [List.length_append]; show Bs.length + 1 = i + 1; omega, ?_, ?_, (b.trans b9).updD hD nD⟩
    ·exact BTL.snoc (bt.put bg hD8 btl.refs) (BTL.map (fun x B g h => h.put g hD8 btl.refs) good btl8)
    ·intro B' hB'
     rcases List.mem_append.mp hB' with h | h
     ·exact good B' h
     ·rw [List.mem_singleton.mp h]
      exact bg
    ·rw [List.map_append, names, List.take_add_one, ez, List.map_singleton, bz]
     rfl
  rintro σ H8 ⟨o, bs, Bs, rfl, hDs, btl, hln, good, names, b9⟩
  rw [List.length_map] at hln names
  rw [List.take_length] at names
  have st8 : Strm H8 p := b9.2
  have hl8 := b9.1 _ _ nlp hl7
  refine ⟨(show 0 ≤ sizeLine by decide), fun lt hlt => ?_⟩
  have nlt : lt ≠ p := st8.ne hlt
  have sA := Same.upd (o := .lst []) hlt
  have bA := But.of st8 sA
  refine ⟨_, rfl, p, 3, rfl, bA.2, by omega, fun l2 f2 ys HB hl2 bB hB len2 nms2 => ?_⟩
  have nl2 : l2 ≠ p := bA.2.ne hl2
  refine ⟨_, rfl, p, 4, rfl, bB.2, by decide, by decide, fun r4 HC r40 r41 bC => ⟨_, rfl, l2, _, rfl, SqL.of (bC.1 _ _ nl2 hB), fun q hq => ?_⟩⟩
  obtain ⟨us, eu, hus⟩ := Jv1 ys none (some r4)
  rw [eu]
  have bD := (bA.trans bB).trans bC
  have nq : q ≠ p := bD.2.ne hq
  have hltC : HC lt = some (.lst []) := bC.1 _ _ nlt (bB.1 _ _ nlt Jko)
  have nql : q ≠ lt := fun e => by rw [e, hltC] at hq; cases hq
  have sq := Same.upd (o := .lst (us.map V.str)) hq
  have ul : us.length ≤ 3 := by
   have := hus.length_le
   omega
  refine ⟨q, rfl, ⟨_, SqL.of Jko⟩, ?_⟩
  refine Jod (xs := us.map V.str) (fun i σ H' => ∃ (o : Option V) (ts : List V) (Ts : List Jo3), σ = [some (.int c), some (.ref p), some (.int n), some (.int cl), some (.int gn), some (.ref l), some (.ref D), some (.ref lt), o] ∧ H' lt = some (.lst ts) ∧ TTL H' ts Ts ∧ Ts.length = i ∧ Ts.map (·.z) = us.take i ∧ (∀ B ∈ Ts, B.b ∈ zs ∧ 1 ≤ B.wt ∧ B.wt ≤ 6) ∧ But p H8 H' ∧ H' q = some (.lst (us.map V.str))) ?_ ?_ ?_ ?_
  ·exact ⟨_, [], [], rfl, sq _ _ hltC, True.intro, rfl, rfl, fun B hB => absurd hB (by simp), bD.same sq, Jko⟩
  ·rintro i σ H' _ ⟨_, _, _, _, _, _, _, _, _, _, h⟩
   exact SqL.of h
  ·rintro i x σ H' hx ⟨o, ts, Ts, rfl, hts, ttl, tln, tnm, tgd, b, hq'⟩
   rw [List.getElem?_map] at hx
   cases ez : us[i]? with
   | none => rw [ez] at hx; cases hx
   | some u =>
    rw [ez] at hx
    cases hx
    have hi : i < us.length := (List.getElem?_eq_some_iff.mp ez).1
    have tlen := ttl.len
    refine ⟨_, rfl, .inl ⟨rfl, _, SqL.of hts⟩, _, rfl, _, rfl, _, rfl, _, rfl, p, n, rfl, b.2, by omega, Joe (by omega), fun r5 HE e0 e1 bE => ?_⟩
    have hr5 : r5.toNat < zs.length := by omega
    refine ⟨l, _, r5, .str zs[r5.toNat], rfl, rfl, SqL.of (bE.1 _ _ nlp (b.1 _ _ nlp hl8)), atI_of (j := r5.toNat) (by omega) (by rw [List.getElem?_map, List.getElem?_eq_getElem hr5]; rfl), ?_⟩
    refine ⟨_, rfl, p, 6, rfl, bE.2, by decide, by decide, fun r6 HF f0 f1 bF => ⟨_, _, rfl, rfl, (show 3 ≤ sizeLine by decide), fun t ht => ?_⟩⟩
    have bG := bE.trans bF
    have htsF := bG.1 _ _ nlt hts
    have sT := Same.upd (o := .tup [.str u, .str zs[r5.toNat], .int (1 + r6)]) ht
    refine ⟨lt, _, _, rfl, rfl, sT _ _ htsF, Jlo (by omega), ?_⟩
    refine ⟨_, ts ++ [.ref t], Ts ++ [⟨u, zs[r5.toNat], 1 + r6⟩], rfl, Jko, ?_, by rw [List.length_append]; show Ts.length + 1 = i + 1; omega, ?_, ?_, ((b.trans bG).same sT).updD hlt nlt, ?_⟩
    ·refine TTL.snoc ?_ (TTL.map (fun x B h => (((h.but b.2 bG).same sT).put (sT _ _ htsF))) ttl)
     exact TTAt.put (sT _ _ htsF) ⟨t, rfl, Jko⟩
    ·rw [List.map_append, tnm, List.take_add_one, ez]
     rfl
    ·intro B hB
     rcases List.mem_append.mp hB with h | h
     ·exact tgd B h
     ·rw [List.mem_singleton.mp h]
      exact ⟨List.getElem_mem hr5, by dsimp only; omega, by dsimp only; omega⟩
    ·rw [Jkv nql]
     exact sT _ _ (bG.1 _ _ nq hq')
  ·rintro σ HZ ⟨o, ts, Ts, rfl, hts, ttl, tln, tnm, tgd, b, _⟩
   rw [List.length_map] at tln tnm
   rw [List.take_length] at tnm
   refine ⟨_, rfl, _, rfl, _, rfl, _, rfl, (show 4 ≤ sizeLine by decide), fun t ht => ?_⟩
   have sT := Same.upd (o := .tup [.int cl, .int gn, .ref D, .ref lt]) ht
   have bZ := ((b57.trans b9).trans b).same sT
   refine k (.ref t) ⟨cl, gn, Bs, Ts⟩ p _ hp (fun x u e => bZ.1 _ _ (Jkw e hp) (s1 _ _ e)) bZ.2 ⟨t, D, lt, bs, ts, rfl, Jko, sT _ _ (b.1 _ _ nD hDs), BTL.map (fun x B _ h => (h.but st8 b).same sT) good btl, sT _ _ hts, TTL.map (fun x B h => h.same sT) ttl, nD, nlt⟩ ?_
   have nameOf : ∀ (f : Int) (zs : List Str), Nms f zs → ∀ z ∈ zs, Jof z = true ∧ Ltr 8 z := fun f zs h z hz => by
    obtain ⟨k, hk, rfl⟩ := List.mem_iff_getElem.mp hz
    have := (h k _ (List.getElem?_eq_getElem hk)).mem
    exact ⟨this.2, this.1⟩
   refine ⟨by dsimp only; omega, by dsimp only; omega, by dsimp only; omega, fun B hB => ⟨good B hB, nameOf f zs nms _ (by rw [← names]; exact List.mem_map_of_mem hB)⟩, by dsimp only; rw [names]; exact nms.nodup (by omega), by dsimp only; omega, fun B hB => ?_, ?_⟩
   ·have hu : B.z ∈ us := by rw [← tnm]; exact List.mem_map_of_mem hB
    have h1 := nameOf f2 ys nms2 _ (hus.subset hu)
    have h2 := tgd B hB
    exact ⟨h1.1, h1.2, by dsimp only; rw [names]; exact h2.1, h2.2⟩
   ·dsimp only
    rw [tnm]
    exact hus.nodup (nms2.nodup (by omega))
end
def nOf (G : Jl9) : Nat := match G.sv with
 | some _ => 1
 | none => G.ns.length
def GX (a : Ad) (H : Hp) (x : V) (G : Jl9) : Prop := ∃ (g : Addr), GateAt (cOf a G.kd) H g (G.ns.map V.int) ∧ match G.sv with
 | none => x = .ref g
 | some j => ∃ s dx, x = .ref s ∧ H s = some (.ins a.Jkj dx [("gate", .ref g), ("setting", .int j)])
theorem GX.same {a : Ad} {H H' : Hp} {x : V} {G : Jl9} (s : Same H H') (h : GX a H x G) : GX a H' x G := by
 obtain ⟨g, ga, r⟩ := h
 refine ⟨g, ga.same s, ?_⟩
 cases e : G.sv with
 | none => rw [e] at r; exact r
 | some j =>
  rw [e] at r
  obtain ⟨q, dx, r1, r2⟩ := r
  exact ⟨q, dx, r1, s _ _ r2⟩
theorem GX.gs {K : W.Frag} {a : Ad} {H : Hp} {x : V} {G : Jl9} (gg : GGood G) (h : GX a H x G) : GS K a H x (nOf G) := by
 obtain ⟨g, ga, r⟩ := h
 unfold nOf
 cases e : G.sv with
 | none =>
  rw [e] at r
  subst r
  have q := GS.plain (K := K) Jyj ga (by rw [List.length_map]; exact gg.len.2)
  rw [List.length_map] at q
  exact q
 | some j =>
  rw [e] at r
  obtain ⟨q, dx, rfl, r2⟩ := r
  exact .stuck r2
def spMG (K : W.Frag) (a : Ad) : Sp := fun vs H Q _ => ∃ (p : Addr) (x : V) (G : Jl9), vs = [x] ∧ GTAt p H x G ∧ GGood G ∧ ∀ (g : V) (H' : Hp), Same H H' → GX a H' g G → Q g H'
theorem Ya6 {t1 t2 : TS} {D : Ends} {σ : L2.St} {H : Hp} (Mid : L2.St → Hp → Prop) (h1 : ∀ R, (∀ σ H, Mid σ H → R σ H) → t1 { D with nx := R } σ H) (h2 : ∀ σ H, Mid σ H → t2 D σ H) : tSeq t1 t2 D σ H := h1 _ h2
section
variable {P : Program} {w : World} {K : W.Frag} {mg : Str → Option Value} {base : Heap} {a : Ad}
theorem Jus {H : Hp} {ns : List Int} {y : V} (h : y ∈ ns.map V.int) : Tm K H y := by
 obtain ⟨i, _, rfl⟩ := List.mem_map.mp h
 exact .inl ⟨i, rfl⟩
theorem Jrs {C : Addr} {lo : Int} {x : V} {H : Hp} {Q1 : Hp → Prop} {E : XK} {g dx : Addr} (c : Cls K C) (n : NoAttr K C "marks") (hg : H g = none) (hd : H dx = none) (ne : dx ≠ g)
  (h : ∃ xs, Sq H x xs ∧ (∀ y ∈ xs, Tm K H y) ∧ Jo7 lo xs = true ∧ ∀ H', Same H H' → GateAt C H' g xs → Q1 H') :
  Jup K a lo [.ref g, x] (upd (upd H dx (.own g)) g (.ins C dx [])) (fun v H2 => v = .non ∧ Q1 H2) E := by
 have s1 : Same H (upd (upd H dx (.own g)) g (.ins C dx [])) := fun b o e => by rw [Jkv (Jkw e hg), Jkv (Jkw e hd)]; exact e
 refine ⟨g, C, dx, x, rfl, Jko, c, n, ?_⟩
 obtain ⟨xs, sq, tms, e, k⟩ := h
 refine .inl ⟨xs, sq.same s1, fun y hy => (tms y hy).same s1, e, fun t H' s' ht => ⟨rfl, ?_⟩⟩
 have ng : t ≠ g := ne_of ht (s' _ _ Jko) (by intro z; cases z)
 exact k _ (fun b o e => by rw [Jkv (Jkw e hg)]; exact s' _ _ (s1 _ _ e)) ⟨dx, t, Jko, by rw [Jkv ng]; exact ht⟩
theorem sc_law_made_gate : Jky ["_law_told", "_law_kind", "_law_marks", "_law_stuck", "_law_gate_here"] ["_law_told"] (Jkt (top 71)) := ⟨rfl, rfl, rfl, by decide +kernel, rfl, by decide +kernel, by decide +kernel⟩
theorem Jqk (T : Tx K mg a) : FnOk P w K mg base CX0 6 a.Jj0 a.Jj1 ["_law_told"] (spMG K a) := by
 have G_StepGate___init__ := Jqj (P := P) (w := w) (base := base) T
 have G_FlapGate___init__ := Jqf (P := P) (w := w) (base := base) T
 have G_PartGate___init__ := Jqi (P := P) (w := w) (base := base) T
 have G_StuckGate___init__ := Jpu (P := P) (w := w) (base := base) T
 refine T.Jw.fn.ok sc_law_made_gate (fun vs H Q E h => ?_) (fun cdv A outer s H vs Q E hr h => ?_)
 ·obtain ⟨p, x, G, rfl, _⟩ := h
  rfl
 ·obtain ⟨p, x, ⟨kd, ns, sv⟩, rfl, ⟨t, m, rfl, ht, hm, _⟩, gg, k⟩ := h
  refine ⟨?t, ?B, ?C⟩
  case B =>
   refine' Jkq ?s1 ?r1
   case s1 =>
    exact (Jui (pv 0) (Jsd rfl (Jla (Jl1 (i := 1) sc_law_made_gate.nd rfl (Or.inl rfl)) (Jla (Jl1 (i := 2) sc_law_made_gate.nd rfl (Or.inl rfl)) (Jla (Jl1 (i := 3) sc_law_made_gate.nd rfl (Or.inl rfl)) Jnb)))))
   case r1 =>
    refine' Jkq ?s4 ?r4
    case s4 =>
     refine' Jle ?c5 ?a5 ?b5
     case c5 =>
      exact (Jlv Jo5 (pv 1) Jnn (Jli _))
     case a5 =>
      refine' Jkr ?s6
      case s6 =>
       exact (Jl3 (i := 4) sc_law_made_gate.nd rfl (Or.inl rfl) (Jnl T.Jd9 G_StepGate___init__.calm (hr.mono (by decide)) (by rfl) T.Jbe T.Jbx.bd .nil Jom (Jkn (Jlf Jml (by rfl) T.Jas Jn8 (Jkn (pv 2) Jkp)) Jkp)))
     case b5 =>
      refine' Jkr ?s8
      case s8 =>
       refine' Jle ?c9 ?a9 ?b9
       case c9 =>
        exact (Jlv Jo5 (pv 1) Jnn (Jli _))
       case a9 =>
        refine' Jkr ?s10
        case s10 =>
         exact (Jl3 (i := 4) sc_law_made_gate.nd rfl (Or.inl rfl) (Jnl T.Jdg G_FlapGate___init__.calm (hr.mono (by decide)) (by rfl) T.Jbf T.Jc0.bd .nil Jom (Jkn (Jlf Jml (by rfl) T.Jas Jn8 (Jkn (pv 2) Jkp)) Jkp)))
       case b9 =>
        refine' Jkr ?s12
        case s12 =>
         exact (Jl3 (i := 4) sc_law_made_gate.nd rfl (Or.inl rfl) (Jnl T.Jdn G_PartGate___init__.calm (hr.mono (by decide)) (by rfl) T.Jbg T.Jc3.bd .nil Jom (Jkn (Jlf Jml (by rfl) T.Jas Jn8 (Jkn (pv 2) Jkp)) Jkp)))
    case r4 =>
     refine' Jkq ?s14 ?r14
     case s14 =>
      refine' Jle ?c15 ?a15 ?b15
      case c15 =>
       exact (Jlv Jqm (pv 3) Jmv (Jli _))
      case a15 =>
       refine' Jkr ?s16
       case s16 =>
        exact (Jl0 (pv 4))
      case b15 =>
       exact Jl2
     case r14 =>
      refine' Jkr ?s20
      case s20 =>
       exact (Jl0 (Jnl T.Jdu G_StuckGate___init__.calm (hr.mono (by decide)) (by rfl) T.Jbh T.Jc6.bd .nil Jom (Jkn (pv 4) (Jkn (pv 3) Jkp))))
  have hkd : Knd kd := gg.kd
  have har : Jo7 (Jn9 kd) (ns.map V.int) = true := gg.ns
  have hsv : ∀ i, sv = some i → 0 ≤ i ∧ i < (ns.length : Int) := gg.sv
  have hlen := gg.len
  dsimp only at ht hm hlen
  refine ⟨_, rfl, t, _, rfl, SqT.of ht, rfl, _, _, rfl, _, _, rfl, _, _, rfl, rfl, ?_⟩
  dsimp only
  refine Ya6 (fun σ H1 => ∃ g : Addr, σ = [some (.ref t), some (.str kd), some (.ref m), some (svV sv), some (.ref g)] ∧ Same H H1 ∧ GateAt (cOf a kd) H1 g (ns.map V.int)) (fun R hR => ?_) ?_
  ·rcases hkd with rfl | rfl | rfl
   ·have e1 : Jn9 "step" = 0 := if_neg ne_sp
    have e2 : cOf a "step" = a.Jkg := if_pos rfl
    have hr' : Jo7 (0) (ns.map V.int) = true := by rw [← e1]; exact har
    refine ⟨_, rfl, rfl, _, rfl, Jvs rfl ⟨_, rfl, m, _, rfl, .inl (SqL.of hm), fun l hl g dx hg hd ne => Jrs T.Jd7 T.Jdd hg hd ne ⟨ns.map V.int, .lst Jko, fun y hy => Jus hy, hr', fun H' s' ga => ?_⟩⟩⟩
    exact hR _ _ ⟨g, rfl, (Same.upd hl).trans s', by rw [e2]; exact ga⟩
   ·have e1 : Jn9 "flap" = 0 := if_neg ne_fp
    have e2 : cOf a "flap" = a.Jkh := by unfold cOf; rw [if_neg Jto, if_pos rfl]
    have hr' : Jo7 (0) (ns.map V.int) = true := by rw [← e1]; exact har
    refine ⟨_, rfl, rfl, _, rfl, Jv2 (strN Jto) ⟨_, rfl, rfl, _, rfl, Jvs rfl ⟨_, rfl, m, _, rfl, .inl (SqL.of hm), fun l hl g dx hg hd ne => Jrs T.Jde T.Jdk hg hd ne ⟨ns.map V.int, .lst Jko, fun y hy => Jus hy, hr', fun H' s' ga => ?_⟩⟩⟩⟩
    exact hR _ _ ⟨g, rfl, (Same.upd hl).trans s', by rw [e2]; exact ga⟩
   ·have e1 : Jn9 "part" = 1 := if_pos rfl
    have e2 : cOf a "part" = a.Jki := by unfold cOf; rw [if_neg Jtq, if_neg Jtp]
    have hr' : Jo7 (1) (ns.map V.int) = true := by rw [← e1]; exact har
    refine ⟨_, rfl, rfl, _, rfl, Jv2 (strN Jtq) ⟨_, rfl, rfl, _, rfl, Jv2 (strN Jtp) ⟨_, rfl, m, _, rfl, .inl (SqL.of hm), fun l hl g dx hg hd ne => Jrs T.Jdl T.Jdr hg hd ne ⟨ns.map V.int, .lst Jko, fun y hy => Jus hy, hr', fun H' s' ga => ?_⟩⟩⟩⟩
    exact hR _ _ ⟨g, rfl, (Same.upd hl).trans s', by rw [e2]; exact ga⟩
  ·rintro σ H1 ⟨g, rfl, s1, ga⟩
   have gs : GS K a H1 (.ref g) ns.length := by
    have q := GS.plain (K := K) Jyj ga (by rw [List.length_map]; exact hlen.2)
    rw [List.length_map] at q
    exact q
   cases sv with
   | none => exact ⟨_, rfl, rfl, _, rfl, Jvs rfl ⟨_, rfl, k _ _ s1 ⟨g, ga, rfl⟩⟩⟩
   | some j =>
    have hj := hsv j rfl
    refine ⟨_, rfl, rfl, _, rfl, Jv2 (fun z => by cases z) ⟨_, rfl, _, rfl, fun x dx hx hdx ne => ?_⟩⟩
    have sn : Same H1 (upd (upd H1 dx (.own x)) x (.ins a.Jkj dx [])) := fun b o e => by rw [Jkv (Jkw e hx), Jkv (Jkw e hdx)]; exact e
    refine ⟨x, dx, _, .int j, rfl, Jko, .inr (.inr ⟨ns.length, gs.same sn, .inl ⟨j, rfl⟩, by simp [Jl6]; omega, rfl, ?_⟩)⟩
    have sx : Same H1 (upd (upd (upd H1 dx (.own x)) x (.ins a.Jkj dx [])) x (.ins a.Jkj dx [("gate", .ref g), ("setting", .int j)])) := by
     rw [Jmp]
     exact fun b o e => by rw [Jkv (Jkw e hx), Jkv (Jkw e hdx)]; exact e
    exact k _ _ (s1.trans sx) ⟨g, ga.same sx, x, dx, rfl, Jko⟩
end
theorem GS.put {K : W.Frag} {a : Ad} {H : Hp} {x : V} {n : Nat} {D : Addr} {bs : List V} {o : HO} (hD : H D = some (.lst bs)) (h : GS K a H x n) : GS K a (upd H D o) x n := by
 cases h with
 | plain i g l =>
  obtain ⟨dx, t, h1, h2⟩ := g
  exact .plain i ⟨dx, t, by rw [Jkv (fun z => by rw [z, hD] at h1; cases h1)]; exact h1, by rw [Jkv (fun z => by rw [z, hD] at h2; cases h2)]; exact h2⟩ l
 | stuck e => exact .stuck (by rw [Jkv (fun z => by rw [z, hD] at e; cases e)]; exact e)
theorem BasAt.put {K : W.Frag} {a : Ad} {H : Hp} {b D : Addr} {B : Bsn} {bs : List V} {o : HO} (hD : H D = some (.lst bs)) (h : BasAt K a H b B) : BasAt K a (upd H D o) b B := by
 obtain ⟨dx, h1, h2⟩ := h
 exact ⟨dx, by rw [Jkv (fun z => by rw [z, hD] at h1; cases h1)]; exact h1, h2.put hD⟩
theorem BasL.map {K : W.Frag} {a : Ad} {H H' : Hp} (f : ∀ x B, BasAt K a H x B → BasAt K a H' x B) : ∀ {xs : List Addr} {Bs : List Bsn}, BasL K a H xs Bs → BasL K a H' xs Bs
 | [], [], _ => True.intro
 | _ :: _, _ :: _, ⟨h, t⟩ => ⟨f _ _ h, BasL.map f t⟩
theorem BasL.snoc {K : W.Frag} {a : Ad} {H : Hp} {x : Addr} {B : Bsn} (h : BasAt K a H x B) : ∀ {xs : List Addr} {Bs : List Bsn}, BasL K a H xs Bs → BasL K a H (xs ++ [x]) (Bs ++ [B])
 | [], [], _ => ⟨h, True.intro⟩
 | _ :: _, _ :: _, ⟨a, t⟩ => ⟨a, BasL.snoc h t⟩
theorem TwnAt.put {a : Ad} {H : Hp} {b D : Addr} {B : Twn} {bs : List V} {o : HO} (hD : H D = some (.lst bs)) (h : TwnAt a H b B) : TwnAt a (upd H D o) b B := by
 obtain ⟨dx, h1⟩ := h
 exact ⟨dx, by rw [Jkv (fun z => by rw [z, hD] at h1; cases h1)]; exact h1⟩
theorem TwnL.map {a : Ad} {H H' : Hp} (f : ∀ x B, TwnAt a H x B → TwnAt a H' x B) : ∀ {xs : List Addr} {Bs : List Twn}, TwnL a H xs Bs → TwnL a H' xs Bs
 | [], [], _ => True.intro
 | _ :: _, _ :: _, ⟨h, t⟩ => ⟨f _ _ h, TwnL.map f t⟩
theorem TwnL.snoc {a : Ad} {H : Hp} {x : Addr} {B : Twn} (h : TwnAt a H x B) : ∀ {xs : List Addr} {Bs : List Twn}, TwnL a H xs Bs → TwnL a H (xs ++ [x]) (Bs ++ [B])
 | [], [], _ => ⟨h, True.intro⟩
 | _ :: _, _ :: _, ⟨a, t⟩ => ⟨a, TwnL.snoc h t⟩
theorem BTL.get {p : Addr} {H : Hp} : ∀ {xs : List V} {Bs : List Jn1} {i : Nat} {x : V}, BTL p H xs Bs → xs[i]? = some x → ∃ B, Bs[i]? = some B ∧ BTAt p H x B
 | _ :: _, B :: _, 0, _, ⟨h, _⟩, e => by cases e; exact ⟨B, rfl, h⟩
 | _ :: _, _ :: _, i + 1, _, ⟨_, t⟩, e => BTL.get (i := i) t (by simpa using e)
 | [], [], i, _, _, e => by simp at e
theorem TTL.get {H : Hp} : ∀ {xs : List V} {Bs : List Jo3} {i : Nat} {x : V}, TTL H xs Bs → xs[i]? = some x → ∃ B, Bs[i]? = some B ∧ TTAt H x B
 | _ :: _, B :: _, 0, _, ⟨h, _⟩, e => by cases e; exact ⟨B, rfl, h⟩
 | _ :: _, _ :: _, i + 1, _, ⟨_, t⟩, e => TTL.get (i := i) t (by simpa using e)
 | [], [], i, _, _, e => by simp at e
theorem GX.put {a : Ad} {H : Hp} {x : V} {G : Jl9} {D : Addr} {bs : List V} {o : HO} (hD : H D = some (.lst bs)) (h : GX a H x G) : GX a (upd H D o) x G := by
 obtain ⟨g, ⟨dx, t, h1, h2⟩, r⟩ := h
 refine ⟨g, ⟨dx, t, by rw [Jkv (fun z => by rw [z, hD] at h1; cases h1)]; exact h1, by rw [Jkv (fun z => by rw [z, hD] at h2; cases h2)]; exact h2⟩, ?_⟩
 cases e : G.sv with
 | none => rw [e] at r; exact r
 | some j =>
  rw [e] at r
  obtain ⟨q, dx, r1, r2⟩ := r
  exact ⟨q, dx, r1, by rw [Jkv (fun z => by rw [z, hD] at r2; cases r2)]; exact r2⟩
def GXL (a : Ad) (H : Hp) : List V → List Jl9 → Prop
 | [], [] => True
 | x :: xs, G :: Gs => GX a H x G ∧ GXL a H xs Gs
 | _, _ => False
theorem GXL.map {a : Ad} {H H' : Hp} (f : ∀ x G, GX a H x G → GX a H' x G) : ∀ {xs : List V} {Gs : List Jl9}, GXL a H xs Gs → GXL a H' xs Gs
 | [], [], _ => True.intro
 | _ :: _, _ :: _, ⟨h, t⟩ => ⟨f _ _ h, GXL.map f t⟩
theorem GXL.snoc {a : Ad} {H : Hp} {x : V} {G : Jl9} (h : GX a H x G) : ∀ {xs : List V} {Gs : List Jl9}, GXL a H xs Gs → GXL a H (xs ++ [x]) (Gs ++ [G])
 | [], [], _ => ⟨h, True.intro⟩
 | _ :: _, _ :: _, ⟨a, t⟩ => ⟨a, GXL.snoc h t⟩
theorem GXL.get {a : Ad} {H : Hp} : ∀ {xs : List V} {Gs : List Jl9} {i : Nat} {x : V}, GXL a H xs Gs → xs[i]? = some x → ∃ G, Gs[i]? = some G ∧ GX a H x G
 | _ :: _, G :: _, 0, _, ⟨h, _⟩, e => by cases e; exact ⟨G, rfl, h⟩
 | _ :: _, _ :: _, i + 1, _, ⟨_, t⟩, e => GXL.get (i := i) t (by simpa using e)
 | [], [], i, _, _, e => by simp at e
theorem GXL.same {a : Ad} {H H' : Hp} {xs : List V} {Gs : List Jl9} (s : Same H H') (h : GXL a H xs Gs) : GXL a H' xs Gs := h.map fun _ _ h => h.same s
def Jso (B : Bsn) : Str × Int × Int × Int × Int × Nat := (B.z, B.lo, B.hi, B.st, B.rn, B.n)
def Jvg (B : Jn1) : Str × Int × Int × Int × Int × Nat := (B.z, B.lo, B.hi, B.st, B.rn, nOf B.G)
structure Like (R : Jmw) (S : Riv) : Prop where
 c : S.c = R.c
 g : S.g = R.g
 Bs : S.Bs.map Jso = R.Bs.map Jvg
 Ts : S.Ts.map (fun B => (B.z, B.b, B.wt)) = R.Ts.map (fun B => (B.z, B.b, B.wt))
def Yaf (K : W.Frag) (a : Ad) : Sp := fun vs H Q _ => ∃ (p : Addr) (x : V) (R : Jmw), vs = [x] ∧ RTAt p H x R ∧ Job R ∧ ∀ (o : Addr) (S : Riv) (H' : Hp), Same H H' → RivAt K a H' o S → Like R S → GXL a H' (S.Bs.map (·.g)) (R.Bs.map (·.G)) → Q (.ref o) H'
section
variable {P : Program} {w : World} {K : W.Frag} {mg : Str → Option Value} {base : Heap} {a : Ad}
theorem GS.gti {H : Hp} {x : V} {n : Nat} (T : Tx K mg a) (g : GS K a H x n) : GtI K a H x true := by
 cases g with
 | plain i ga l =>
  obtain ⟨dx, t, h1, h2⟩ := ga
  rcases i with rfl | rfl | rfl
  ·exact ⟨_, .of (T.Jd8.ty T.Jd7 h1), T.Jem, T.Jew, _, T.Jes, fun _ => rfl, by intro w'; cases w'⟩
  ·exact ⟨_, .of (T.Jdf.ty T.Jde h1), T.Jen, T.Jex, _, T.Jet, fun _ => rfl, by intro w'; cases w'⟩
  ·exact ⟨_, .of (T.Jdm.ty T.Jdl h1), T.Jeo, T.Jey, _, T.Jeu, fun _ => rfl, by intro w'; cases w'⟩
 | stuck h1 => exact ⟨_, .of (T.Jdt.ty T.Jds h1), T.Jep, T.Jez, _, T.Jev, fun _ => rfl, by intro w'; cases w'⟩
theorem Jvx {H : Hp} {z : Str} (h : Ltr 8 z) : Nmd K H (.str z) := ⟨.inr ⟨_, .of (.str z), rfl⟩, fun y e => by cases e; exact ⟨Nat.le_trans h.len (by omega), h.wd.low⟩⟩
theorem sc_law_made : Jky ["_law_told", "_law_basins", "_law_name", "_law_low", "_law_high", "_law_start", "_law_rain_here", "_law_gate_here"] ["_law_told"] (Jkt (top 72)) := ⟨rfl, rfl, rfl, by decide +kernel, rfl, by decide +kernel, by decide +kernel⟩
theorem Jv6 (T : Tx K mg a) : FnOk P w K mg base CX0 7 a.Jj2 a.Jj3 ["_law_told"] (Yaf K a) := by
 have G__law_made_gate := Jqk (P := P) (w := w) (base := base) T
 have G_Basin___init__ := Jst (P := P) (w := w) (base := base) T
 have G_Town___init__ := Ju7 (P := P) (w := w) (base := base) T
 have G_River___init__ := Jsu (P := P) (w := w) (base := base) T
 refine T.Jx.fn.ok sc_law_made (fun vs H Q E h => ?_) (fun cdv A outer s H vs Q E hr h => ?_)
 ·obtain ⟨p, x, R, rfl, _⟩ := h
  rfl
 ·obtain ⟨p, x, R, rfl, ⟨t, lb, lt, bs, ts, rfl, ht, hb, btl, htt, ttl, _, _⟩, rg, k⟩ := h
  refine ⟨?t, ?B, ?C⟩
  case B =>
   refine' Jkq ?s1 ?r1
   case s1 =>
    exact (Jl3 (i := 1) sc_law_made.nd rfl (Or.inl rfl) (Jmh Jkp))
   case r1 =>
    refine' Jkq ?s3 ?r3
    case s3 =>
     refine' Jo0 ?f4_0 ?f4_1 ?f4_2 ?f4_3 ?f4_4
     case f4_0 =>
      exact PassesOwn.never
     case f4_1 =>
      exact rfl
     case f4_2 =>
      exact (Jm7 (Jl7 Jlb (pv 0) Jks (fun _ _ => rfl)))
     case f4_3 =>
      exact (Jsd rfl (Jla (Jl1 (i := 2) sc_law_made.nd rfl (Or.inl rfl)) (Jla (Jl1 (i := 3) sc_law_made.nd rfl (Or.inl rfl)) (Jla (Jl1 (i := 4) sc_law_made.nd rfl (Or.inl rfl)) (Jla (Jl1 (i := 5) sc_law_made.nd rfl (Or.inl rfl)) (Jla (Jl1 (i := 6) sc_law_made.nd rfl (Or.inl rfl)) (Jla (Jl1 (i := 7) sc_law_made.nd rfl (Or.inl rfl)) Jnb)))))))
     case f4_4 =>
      refine' Jkr ?s5
      case s5 =>
       exact (Jmu (Jv9 F.plainAttrs_list F.slot_list_append F.type_list_append Jns (pv 1) (Jkn (Jnl T.Je2 G_Basin___init__.calm (hr.mono (by decide)) (by rfl) T.Jbi T.Jc9.bd .nil Jom (pa6 (pv 2) (pv 3) (pv 4) (pv 5) (pv 6) (Jku T.Jw G__law_made_gate hr (by decide) (Jkn (pv 7) Jkp)))) Jkp)))
    case r3 =>
     refine' Jkr ?s7
     case s7 =>
      refine' Jl0 ?e9_0
      case e9_0 =>
       exact (Jnl T.Jeg G_River___init__.calm (hr.mono (by decide)) (by rfl) T.Jbk T.Jcb.bd .nil Jom (pa4 (Jl7 Jlb (pv 0) Jks (fun _ _ => rfl)) (Jl7 Jlb (pv 0) Jks (fun _ _ => rfl)) (pv 1) (Jll (N := (["_law_name", "_law_basin_here", "_law_want"] : List Str)) (ini := [none, none, none]) rfl (Jm7 (Jl7 Jlb (pv 0) Jks (fun _ _ => rfl))) (fun _ _ _ _ _ => (Jpx (K := K) (n := 3) rfl rfl (Jla (Jl1 (i := 0) (by decide +kernel : (["_law_name", "_law_basin_here", "_law_want"] : List Str).Nodup) rfl (Or.inl rfl)) (Jla (Jl1 (i := 1) (by decide +kernel : (["_law_name", "_law_basin_here", "_law_want"] : List Str).Nodup) rfl (Or.inl rfl)) (Jla (Jl1 (i := 2) (by decide +kernel : (["_law_name", "_law_basin_here", "_law_want"] : List Str).Nodup) rfl (Or.inl rfl)) Jnb))))) (fun _ _ _ _ _ => Jlm) (fun _ _ _ _ _ => (Jnl T.Jeb G_Town___init__.calm (hr.mono (by decide)) (by rfl) T.Jbj T.Jca.bd .nil Jom (Jkn (pv 0) (Jkn (pv 1) (Jkn (pv 2) Jkp))))))))
  refine ⟨(show 0 ≤ sizeLine by decide), fun nb hnb => ?_⟩
  have s0 := Same.upd (o := .lst []) hnb
  refine ⟨_, rfl, t, _, 2, _, rfl, rfl, SqT.of (s0 _ _ ht), rfl, lb, rfl, ⟨_, SqL.of (s0 _ _ hb)⟩, ?_⟩
  have blen := btl.len
  refine Jod (xs := bs) (fun i σ H' => ∃ (o1 o2 o3 o4 o5 o6 : Option V) (os : List Addr) (Bs : List Bsn), σ = [some (.ref t), some (.ref nb), o1, o2, o3, o4, o5, o6] ∧ H' nb = some (.lst (os.map V.ref)) ∧ BasL K a H' os Bs ∧ Bs.length = i ∧ Bs.map Jso = (R.Bs.take i).map Jvg ∧ GXL a H' (Bs.map (·.g)) ((R.Bs.take i).map (·.G)) ∧ Same H H') ?_ ?_ ?_ ?_
  ·exact ⟨_, _, _, _, _, _, [], [], rfl, Jko, True.intro, rfl, rfl, True.intro, s0⟩
  ·rintro i σ H' _ ⟨_, _, _, _, _, _, _, _, _, _, _, _, _, _, sm⟩
   exact SqL.of (sm _ _ hb)
  ·rintro i x σ H' hx ⟨o1, o2, o3, o4, o5, o6, os, Bs, rfl, hnbs, bl, bln, bkey, gxl, sm⟩
   obtain ⟨B, eB, ⟨tb, g, rfl, htb, gt⟩⟩ := btl.get hx
   have hB : B ∈ R.Bs := List.mem_of_getElem? eB
   obtain ⟨bg, bnm, blt⟩ := rg.Bs B hB
   have olen := bl.len
   have hi : i < R.Bs.length := (List.getElem?_eq_some_iff.mp eB).1
   have hn := rg.n
   refine ⟨tb, _, rfl, SqT.of (sm _ _ htb), rfl, _, _, rfl, _, _, rfl, _, _, rfl, _, _, rfl, _, _, rfl, _, _, rfl, rfl, ?_⟩
   refine ⟨_, rfl, .inl ⟨rfl, _, SqL.of hnbs⟩, _, rfl, _, rfl, _, rfl, _, rfl, _, rfl, _, rfl, p, g, B.G, rfl, gt.same sm, bg.G, fun gv H1 s1 gx => ?_⟩
   have gs : GS K a H1 gv (nOf B.G) := gx.gs bg.G
   intro x dx hx1 hd1 ne
   have sn : Same H1 (upd (upd H1 dx (.own x)) x (.ins a.Jkk dx [])) := fun b o e => by rw [Jkv (Jkw e hx1), Jkv (Jkw e hd1)]; exact e
   refine ⟨x, dx, .str B.z, .int B.lo, .int B.hi, .int B.st, .int B.rn, gv, true, none, rfl, Jko, Jvx blt, .inl ⟨_, rfl⟩, .inl ⟨_, rfl⟩, .inl ⟨_, rfl⟩, .inl ⟨_, rfl⟩, (gs.gti T).same sn, .good B.lo B.hi bnm rfl rfl (Jnj bg.lo.1 bg.lo.2) (Jnj bg.hi.1 bg.hi.2) (Jnj bg.st.1 bg.st.2) (Jnj bg.rn.1 bg.rn.2) rfl, fun H2 s2 => ⟨rfl, ?_⟩⟩
   have s3 : Same H1 (upd H2 x (.ins a.Jkk dx (basF (.str B.z) (.int B.lo) (.int B.hi) (.int B.st) (.int B.rn) gv))) := fun b o e => by rw [Jkv (Jkw e hx1)]; exact s2 _ _ (sn _ _ e)
   have s13 := s1.trans s3
   have hnb3 := s13 _ _ hnbs
   refine ⟨nb, _, _, rfl, rfl, hnb3, by rw [List.length_map]; exact Jlo (by omega), ?_⟩
   refine ⟨_, _, _, _, _, _, os ++ [x], Bs ++ [⟨B.z, B.lo, B.hi, B.st, B.rn, gv, nOf B.G⟩], rfl, by rw [Jko, List.map_append]; rfl, ?_, by rw [List.length_append]; show Bs.length + 1 = i + 1; omega, ?_, ?_, ?_⟩
   ·exact BasL.snoc (BasAt.put hnb3 ⟨dx, Jko, gs.same s3⟩) (BasL.map (fun x B h => (h.same s13).put hnb3) bl)
   ·rw [List.map_append, bkey, List.take_add_one, eB, List.map_append]
    rfl
   ·rw [List.map_append, List.take_add_one, eB, List.map_append]
    exact GXL.snoc (GX.put hnb3 (gx.same s3)) (GXL.map (fun x G h => (h.same s13).put hnb3) gxl)
   ·intro b o e
    rw [Jkv (Jkw e hnb)]
    exact s13 _ _ (sm _ _ e)
  ·rintro σ H1 ⟨o1, o2, o3, o4, o5, o6, os, Bs, rfl, hnbs, bl, bln, bkey, gxl, sm⟩
   rw [List.take_of_length_le (by omega)] at bkey gxl
   refine ⟨_, rfl, t, _, 0, _, rfl, rfl, SqT.of (sm _ _ ht), rfl, ?_⟩
   refine ⟨_, rfl, t, _, 1, _, rfl, rfl, SqT.of (sm _ _ ht), rfl, ?_⟩
   refine ⟨_, rfl, _, rfl, t, _, 3, _, rfl, rfl, SqT.of (sm _ _ ht), rfl, lt, rfl, ⟨_, SqL.of (sm _ _ htt)⟩, fun D hD => ?_⟩
   have tlen := ttl.len
   refine Jmg (K := K) (a := lt) (xs := ts) (D := D) (fun i σ H' => ∃ (o1 o2 o3 : Option V) (ws : List Addr) (Ws : List Twn), σ = [o1, o2, o3] ∧ H' D = some (.lst (ws.map V.ref)) ∧ TwnL a H' ws Ws ∧ Ws.length = i ∧ Ws.map (fun B => (B.z, B.b, B.wt)) = (R.Ts.take i).map (fun B => (B.z, B.b, B.wt)) ∧ Same H1 H') ?_ ?_ ?_ ?_
   ·exact ⟨_, _, _, [], [], rfl, Jko, True.intro, rfl, rfl, Same.upd hD⟩
   ·rintro i σ H' _ ⟨_, _, _, _, _, _, _, _, _, _, s1⟩
    exact SqL.of (s1 _ _ (sm _ _ htt))
   ·rintro i x σ H' hx ⟨p1, p2, p3, ws, Ws, rfl, hDs, wl, wln, wkey, s1⟩
    obtain ⟨B, eB, ⟨tb, rfl, htb⟩⟩ := ttl.get hx
    obtain ⟨bnm, blt, bin, bw⟩ := rg.Ts B (List.mem_of_getElem? eB)
    have hi : i < R.Ts.length := (List.getElem?_eq_some_iff.mp eB).1
    have h3 := rg.tn
    have wlen := wl.len
    obtain ⟨Bb, hBb, ebb⟩ := List.mem_map.mp bin
    have blb : Ltr 8 B.b := by rw [← ebb]; exact (rg.Bs Bb hBb).2.2
    have bnb : Jof B.b = true := by rw [← ebb]; exact (rg.Bs Bb hBb).2.1
    refine Y2 (SqT.of (s1 _ _ (sm _ _ htb))) ⟨_, rfl, _, rfl, _, rfl, fun x dx hx1 hd1 ne => ?_⟩
    have sn : Same H' (upd (upd H' dx (.own x)) x (.ins a.Jkl dx [])) := fun b o e => by rw [Jkv (Jkw e hx1), Jkv (Jkw e hd1)]; exact e
    refine ⟨x, dx, .str B.z, .str B.b, .int B.wt, none, rfl, Jko, Jvx blt, Jvx blb, .inl ⟨_, rfl⟩, .good bnm bnb (Jnj bw.1 bw.2), fun H2 s2 => ⟨rfl, ?_⟩⟩
    have s3 : Same H' (upd H2 x (.ins a.Jkl dx (twnF (.str B.z) (.str B.b) (.int B.wt)))) := fun b o e => by rw [Jkv (Jkw e hx1)]; exact s2 _ _ (sn _ _ e)
    have hD3 := s3 _ _ hDs
    refine ⟨_, hD3, by rw [List.length_map]; exact Jlo (by omega), _, _, _, ws ++ [x], Ws ++ [⟨B.z, B.b, B.wt⟩], rfl, by rw [Jko, List.map_append]; rfl, ?_, by rw [List.length_append]; show Ws.length + 1 = i + 1; omega, ?_, ?_⟩
    ·exact TwnL.snoc (TwnAt.put hD3 ⟨dx, Jko⟩) (TwnL.map (fun x B h => (h.same s3).put hD3) wl)
    ·rw [List.map_append, wkey, List.take_add_one, eB, List.map_append]
     rfl
    ·intro b o e
     rw [Jkv (Jkw e hD)]
     exact s3 _ _ (s1 _ _ e)
   ·rintro σ H2 ⟨p1, p2, p3, ws, Ws, rfl, hDs, wl, wln, wkey, s1⟩
    rw [List.take_of_length_le (by omega)] at wkey
    intro x dx hx1 hd1 ne
    have sn : Same H2 (upd (upd H2 dx (.own x)) x (.ins a.Jkm dx [])) := fun b o e => by rw [Jkv (Jkw e hx1), Jkv (Jkw e hd1)]; exact e
    have hz : Bs.map (·.z) = R.Bs.map (·.z) := by
     have := congrArg (List.map (·.1)) bkey
     simpa [List.map_map, Jso, Jvg, Function.comp_def] using this
    have hr : Bs.map (·.rn) = R.Bs.map (·.rn) := by
     have := congrArg (List.map (·.2.2.2.2.1)) bkey
     simpa [List.map_map, Jso, Jvg, Function.comp_def] using this
    have hw : Ws.map (·.z) = R.Ts.map (·.z) := by
     have := congrArg (List.map (·.1)) wkey
     simpa [List.map_map, Function.comp_def] using this
    have hwb : Ws.map (·.b) = R.Ts.map (·.b) := by
     have := congrArg (List.map (·.2.1)) wkey
     simpa [List.map_map, Function.comp_def] using this
    have n1 := rg.n
    have n2 := rg.tn
    refine ⟨x, dx, nb, D, R.c, R.g, os, ws, Bs, Ws, rfl, Jko, rg.c, rg.g, sn _ _ (s1 _ _ hnbs), (bl.same s1).same sn, by omega, by rw [hz]; exact rg.nd, sn _ _ hDs, wl.same sn, by omega, by rw [hw]; exact rg.td, fun B hB => ?_, fun H3 b t s3 hb3 ht3 nb3 nt3 => ⟨rfl, ?_⟩⟩
    ·have : B.b ∈ R.Ts.map (·.b) := by rw [← hwb]; exact List.mem_map_of_mem hB
     obtain ⟨C, hC, e⟩ := List.mem_map.mp this
     rw [hz, ← e]
     exact (rg.Ts C hC).2.2.1
    ·have s4 : Same H2 (upd H3 x (.ins a.Jkm dx (rivF (.int R.c) (.int R.g) (.ref b) (.ref t)))) := fun b o e => by rw [Jkv (Jkw e hx1)]; exact s3 _ _ (sn _ _ e)
     refine k x ⟨R.c, R.g, Bs, Ws⟩ _ ((sm.trans s1).trans s4) ⟨dx, b, t, os, ws, Jko, by rw [Jkv nb3]; exact hb3, (bl.same s1).same s4, by rw [Jkv nt3]; exact ht3, wl.same s4, by dsimp only; omega, by dsimp only; omega, fun B hB => ?_⟩ ⟨rfl, rfl, bkey, wkey⟩ ((gxl.same s1).same s4)
     have : B.rn ∈ R.Bs.map (·.rn) := by rw [← hr]; exact List.mem_map_of_mem hB
     obtain ⟨C, hC, e⟩ := List.mem_map.mp this
     rw [← e]
     exact (rg.Bs C hC).1.rn
end
theorem Jrn {K : W.Frag} {p a D : Addr} {xs : List V} {te : TE} {R : Hp → Prop} {H : Hp} {o : Option V} {rest : List (Option V)} (Pr : Nat → V → Prop) (st : Strm H p) (hD : H D = none) (sz : xs.length ≤ 2000) (hq : H a = some (.lst xs)) (na : a ≠ p)
  (he : ∀ (i : Nat) (x : V) (H' : Hp) (Q : VK), xs[i]? = some x → But p H H' → (∀ y H5, But p H' H5 → Pr i y → Q y H5) → te (some x :: rest) H' Q) (hd : ∀ ys H', But p H H' → H' D = some (.lst ys) → ys.length = xs.length → (∀ i y, ys[i]? = some y → Pr i y) → R H') :
  ∃ W : Nat → Nat → L2.St → Hp → Prop, (∃ m, W 0 m (o :: rest) (upd H D (.lst []))) ∧ ∀ i m σ' H', W i m σ' H' → ((Itl K a).stop i H' ∧ R H') ∨ ((Itl K a).go i H' ∧ ∃ N : L2.St → Hp → Prop, (∀ σ2 H2, N σ2 H2 → ∃ m', m' < m ∧ W (i + 1) m' σ2 H2) ∧
   ∀ x H2, (Itl K a).yld i H' x H2 → Jnr 0 x σ' H2 fun σ3 H3 => Jwj σ3 H3 fun b H4 => if b = true then te σ3 H4 (fun v H5 => ∃ ys, H5 D = some (.lst ys) ∧ ys.length < sizeLine ∧ N σ3 (upd H5 D (.lst (ys ++ [v])))) else N σ3 H4) := by
 have nD : D ≠ p := st.ne hD
 refine Jmg (fun i σ H' => (∃ o, σ = o :: rest) ∧ (∃ ys, H' D = some (.lst ys) ∧ ys.length = i ∧ ∀ j y, ys[j]? = some y → Pr j y) ∧ But p H H') ⟨⟨_, rfl⟩, ⟨[], Jko, rfl, fun j y e => by simp at e⟩, But.of st (Same.upd hD)⟩ (fun i σ H' _ ⟨_, _, b⟩ => SqL.of (b.1 _ _ na hq)) ?_ ?_
 ·rintro i x σ H' hx ⟨⟨o, rfl⟩, ⟨ys, hDs, hl, hy⟩, b⟩
  have hi : i < xs.length := (List.getElem?_eq_some_iff.mp hx).1
  refine Jma (he i x H' _ hx b fun y H5 b5 py => ⟨ys, b5.1 _ _ nD hDs, Jlo (by omega), ⟨_, rfl⟩, ⟨ys ++ [y], Jko, by rw [List.length_append]; show ys.length + 1 = i + 1; omega, fun j z ej => ?_⟩, (b.trans b5).updD hD nD⟩)
  rw [List.getElem?_append] at ej
  split at ej
  ·exact hy j z ej
  ·have hj : j = i := by
    have := (List.getElem?_eq_some_iff.mp ej).1
    simp at this
    omega
   subst hj
   rw [hl, Nat.sub_self] at ej
   cases ej
   exact py
 ·rintro σ H' ⟨_, ⟨ys, hDs, hl, hy⟩, b⟩
  exact hd ys H' b hDs hl hy
theorem RTAt.but {p : Addr} {H H' : Hp} {x : V} {R : Jmw} (rg : Job R) (st : Strm H p) (b : But p H H') (h : RTAt p H x R) : RTAt p H' x R :=
 let ⟨t, lb, lt, bs, ts, e, h1, h2, h3, h4, h5, n1, n2⟩ := h
 ⟨t, lb, lt, bs, ts, e, b.1 _ _ (Jmn st h1 (fun _ _ _ z => by cases z)) h1, b.1 _ _ n1 h2, BTL.map (fun _ _ _ h => h.but st b) (fun B hB => (rg.Bs B hB).1) h3, b.1 _ _ n2 h4, TTL.map (fun _ _ h => h.but st b) h5, n1, n2⟩
theorem RTAt.same {p : Addr} {H H' : Hp} {x : V} {R : Jmw} (rg : Job R) (s : Same H H') (h : RTAt p H x R) : RTAt p H' x R :=
 let ⟨t, lb, lt, bs, ts, e, h1, h2, h3, h4, h5, n1, n2⟩ := h
 ⟨t, lb, lt, bs, ts, e, s _ _ h1, s _ _ h2, BTL.map (fun _ _ _ h => h.same s) (fun B hB => (rg.Bs B hB).1) h3, s _ _ h4, TTL.map (fun _ _ h => h.same s) h5, n1, n2⟩
theorem Jww {Pr : Nat → Int → Prop} : ∀ {ys : List V}, (∀ i y, ys[i]? = some y → ∃ n : Int, y = .int n ∧ Pr i n) → ∃ ns : List Int, ys = ns.map V.int ∧ ∀ i n, ns[i]? = some n → Pr i n := by
 intro ys h
 refine ⟨ys.map Jtj, ?_, fun i n e => ?_⟩
 ·rw [List.map_map]
  refine List.ext_getElem? fun i => ?_
  rw [List.getElem?_map]
  cases e : ys[i]? with
  | none => rfl
  | some y =>
   obtain ⟨n, rfl, _⟩ := h i y e
   rfl
 ·rw [List.getElem?_map] at e
  cases ey : ys[i]? with
  | none => rw [ey] at e; cases e
  | some y =>
   rw [ey] at e
   obtain ⟨m, rfl, pm⟩ := h i y ey
   cases e
   exact pm
def spLSet : Sp := fun vs H Q _ => ∃ (p : Addr) (x : V) (G : Jl9), vs = [x] ∧ GTAt p H x G ∧ ∀ H', Same H H' → Q (.int (nOf G : Nat)) H'
def StdAt (H : Hp) (x : V) (R : Jmw) (ls : List Int) (wt : Int) : Prop := (∃ y u : Addr, x = .ref y ∧ H y = some (.tup [.ref u, .int wt]) ∧ H u = some (.tup (ls.map V.int))) ∧ ls.length = R.Bs.length ∧ (∀ (i : Nat) (n : Int), ls[i]? = some n → ∃ B, R.Bs[i]? = some B ∧ B.lo ≤ n ∧ n ≤ B.hi) ∧ 0 ≤ wt ∧ wt ≤ R.c
def Jzp : Sp := fun vs H Q _ => ∃ (p : Addr) (x : V) (R : Jmw), vs = [.ref p, x] ∧ Strm H p ∧ RTAt p H x R ∧ Job R ∧ ∀ (y : V) (ls : List Int) (wt : Int) (H' : Hp), But p H H' → StdAt H' y R ls wt → Q y H'
section
variable {P : Program} {w : World} {K : W.Frag} {mg : Str → Option Value} {base : Heap} {a : Ad}
theorem Jra : Jky ["_law_gate_here"] ["_law_gate_here"] (Jkt (top 73)) := ⟨rfl, rfl, rfl, by decide +kernel, rfl, by decide +kernel, by decide +kernel⟩
theorem Jr7 (T : Tx K mg a) : FnOk P w K mg base CX0 1 a.Jj4 a.Jj5 ["_law_gate_here"] spLSet := by
 refine T.Jy.fn.ok Jra (fun vs H Q E h => ?_) (fun cdv A outer s H vs Q E hr h => ?_)
 ·obtain ⟨p, x, G, rfl, _⟩ := h
  rfl
 ·obtain ⟨p, x, ⟨kd, ns, sv⟩, rfl, ⟨t, m, rfl, ht, hm, _⟩, k⟩ := h
  refine ⟨?t, ?B, ?C⟩
  case B =>
   refine' Jkr ?s1
   case s1 =>
    exact (Jl0 (Jl7 Jm1 (Jmh (Jkn (Jkz Jl8 (by rfl) T.Jar Jmc (Jkn (Jl7 Jlb (pv 0) Jks (fun _ _ => rfl)) Jkp)) (Jkn Jks Jkp))) (Jlf Joy (by rfl) T.Jap Jrj (Jkn (Jmk Jx4 (Jl7 Jlb (pv 0) Jks (fun _ _ => rfl)) Jmv (Jli _)) Jkp)) (fun _ _ => rfl)))
  dsimp only at ht hm
  refine ⟨_, rfl, t, _, 1, _, rfl, rfl, SqT.of ht, rfl, m, _, rfl, .inl (SqL.of hm), (show 2 ≤ sizeLine by decide), fun D hD => ?_⟩
  have s1 := Same.upd (o := .lst [.int ((ns.map V.int).length : Nat), .int 1]) hD
  refine ⟨_, rfl, t, _, 2, _, rfl, rfl, SqT.of (s1 _ _ ht), rfl, rfl, .inr ⟨_, rfl, ?_⟩⟩
  cases sv with
  | none =>
   refine ⟨D, _, 0, _, rfl, rfl, SqL.of Jko, rfl, ?_⟩
   have := k _ s1
   rw [show nOf ⟨kd, ns, none⟩ = (ns.map V.int).length by rw [List.length_map]; rfl] at this
   exact this
  | some j => exact ⟨D, _, 1, _, rfl, rfl, SqL.of Jko, rfl, k _ s1⟩
theorem sc_law_standing : Jky ["_law_stream_here", "_law_told", "_law_levels"] ["_law_stream_here", "_law_told"] (Jkt (top 74)) := ⟨rfl, rfl, rfl, by decide +kernel, rfl, by decide +kernel, by decide +kernel⟩
theorem Jr8 (T : Tx K mg a) : FnOk P w K mg base CX0 2 a.Jj6 a.Jj7 ["_law_stream_here", "_law_told"] Jzp := by
 have G__law_take := Jm4 (P := P) (w := w) (base := base) T
 refine T.Jz.fn.ok sc_law_standing (fun vs H Q E h => ?_) (fun cdv A outer s H vs Q E hr h => ?_)
 ·obtain ⟨p, x, R, rfl, _⟩ := h
  rfl
 ·obtain ⟨p, x, R, rfl, st, rt, rg, k⟩ := h
  refine ⟨?t, ?B, ?C⟩
  case B =>
   refine' Jkq ?s1 ?r1
   case s1 =>
    exact (Jl3 (i := 2) sc_law_standing.nd rfl (Or.inl rfl) (Jlf Jlr (by rfl) T.Jaz Jm0 (Jkn (Jll (N := (["_law_one", "_law_stream_here"] : List Str)) (ini := [none, some 0]) rfl (Jm7 (Jl7 Jlb (pv 1) Jks (fun _ _ => rfl))) (fun _ _ _ _ _ => (Jl1 (i := 0) (by decide +kernel : (["_law_one", "_law_stream_here"] : List Str).Nodup) rfl (Or.inl rfl))) (fun _ _ _ _ _ => Jlm) (fun _ _ _ _ _ => (Jl5 Jlk (Jl7 (Joz (K := K) rfl) (pv 0) Jks (fun _ _ => rfl)) (Jku T.Jr G__law_take hr (by decide) (Jkn (pv 1) (Jkn (Jl5 Jlk (Jl5 Jmd (Jl7 (Joz (K := K) rfl) (pv 0) Jks (fun _ _ => rfl)) (Jl7 (Joz (K := K) rfl) (pv 0) Jks (fun _ _ => rfl))) Jks) Jkp)))))) Jkp)))
   case r1 =>
    refine' Jkr ?s3
    case s3 =>
     exact (Jl0 (Jm8 (Jkn (pv 2) (Jkn (Jku T.Jr G__law_take hr (by decide) (Jkn (pv 0) (Jkn (Jl5 Jlk (Jl7 Jlb (pv 1) Jks (fun _ _ => rfl)) Jks) Jkp))) Jkp))))
  obtain ⟨t, lb, lt, bs, ts, rfl, ht, hb, btl, htt, ttl, nb, nt⟩ := rt
  refine ⟨_, rfl, t, _, 2, _, rfl, rfl, SqT.of ht, rfl, lb, rfl, ⟨_, SqL.of hb⟩, fun D hD => ?_⟩
  have blen := btl.len
  have hn := rg.n
  refine Jrn (p := p) (fun i y => ∃ n : Int, y = .int n ∧ ∃ B, R.Bs[i]? = some B ∧ B.lo ≤ n ∧ n ≤ B.hi) st hD (by omega) hb nb ?_ ?_
  ·intro i x H' Q' hx b k'
   obtain ⟨B, eB, tb, g, rfl, htb, gt⟩ := btl.get hx
   have bg := (rg.Bs B (List.mem_of_getElem? eB)).1
   have htb' := b.1 _ _ (Jmn st htb (fun _ _ _ z => by cases z)) htb
   have q1 := bg.lo
   have q2 := bg.hi
   refine ⟨_, rfl, tb, _, 1, _, rfl, rfl, SqT.of htb', rfl, _, rfl, _, rfl, tb, _, 2, _, rfl, rfl, SqT.of htb', rfl, _, rfl, tb, _, 1, _, rfl, rfl, SqT.of htb', rfl, _, _, rfl, rfl, _, _, rfl, rfl, p, _, rfl, b.2, by omega, Joe (by omega), fun r H5 r0 r1 b5 => ⟨_, _, rfl, rfl, k' _ _ b5 ⟨_, rfl, B, eB, by omega, by omega⟩⟩⟩
  ·intro ys H1 b1 hD1 hl1 hy
   obtain ⟨ns, rfl, hns⟩ := Jww hy
   rw [List.length_map] at hl1
   have nD : D ≠ p := st.ne hD
   refine ⟨D, _, rfl, .inl ⟨SqL.of hD1, fun u hu => ?_⟩⟩
   have su := Same.upd (o := .tup (ns.map V.int)) hu
   have b2 := b1.same su
   have ht2 := b2.1 _ _ (Jmn st ht (fun _ _ _ z => by cases z)) ht
   have hc := rg.c
   refine ⟨_, rfl, _, rfl, _, rfl, t, _, 0, _, rfl, rfl, SqT.of ht2, rfl, _, _, rfl, rfl, p, _, rfl, b2.2, by omega, Joe (by omega), fun r H5 r0 r1 b5 => ⟨(show 2 ≤ sizeLine by decide), fun y hy => ?_⟩⟩
   have sy := Same.upd (o := .tup [.ref u, .int r]) hy
   have hu5 : H5 u = some (.tup (ns.map V.int)) := b5.1 _ _ (Jmn b2.2 Jko (fun _ _ _ z => by cases z)) Jko
   exact k (.ref y) ns r _ ((b2.trans b5).same sy) ⟨⟨y, u, rfl, Jko, sy _ _ hu5⟩, by omega, hns, r0, by omega⟩
end
def TwnV (R : Jmw) (v : V) : Prop := v = .non ∨ ∃ j : Int, v = .int j ∧ 0 ≤ j ∧ j < R.Ts.length
def ChcAt (H : Hp) (x : V) (R : Jmw) (ns : List Int) (tv : V) : Prop := (∃ y u : Addr, x = .ref y ∧ H y = some (.tup [.ref u, tv]) ∧ H u = some (.tup (ns.map V.int))) ∧ ns.length = R.Bs.length ∧ (∀ (i : Nat) (n : Int), ns[i]? = some n → 0 ≤ n ∧ n ≤ 4) ∧ TwnV R tv
def Jy5 : Sp := fun vs H Q _ => ∃ (p : Addr) (x : V) (R : Jmw), vs = [.ref p, x] ∧ Strm H p ∧ RTAt p H x R ∧ Job R ∧ ∀ (y : V) (ns : List Int) (tv : V) (H' : Hp), But p H H' → ChcAt H' y R ns tv → Q y H'
theorem nOf_in {G : Jl9} (h : GGood G) : 1 ≤ nOf G ∧ nOf G ≤ 4 := by
 have := h.len
 unfold nOf
 split <;> omega
def Jpr (R : Jmw) (wet : Int) : Int :=
 if (if wet + R.g - R.c > 0 then wet + R.g - R.c else 0) < (R.Bs.map (·.rn)).sum then (if wet + R.g - R.c > 0 then wet + R.g - R.c else 0) else (R.Bs.map (·.rn)).sum
def Jy6 : Sp := fun vs H Q _ => ∃ (p : Addr) (x : V) (R : Jmw) (wet : Int), vs = [x, .int wet] ∧ RTAt p H x R ∧ Job R ∧ ∀ H', Same H H' → Q (.int (Jpr R wet)) H'
section
variable {P : Program} {w : World} {K : W.Frag} {mg : Str → Option Value} {base : Heap} {a : Ad}
theorem sc_law_choice : Jky ["_law_stream_here", "_law_told", "_law_settings_here", "_law_town"] ["_law_stream_here", "_law_told"] (Jkt (top 75)) := ⟨rfl, rfl, rfl, by decide +kernel, rfl, by decide +kernel, by decide +kernel⟩
theorem Jsx (T : Tx K mg a) : FnOk P w K mg base CX0 2 a.Jj8 a.Jj9 ["_law_stream_here", "_law_told"] Jy5 := by
 have G__law_take := Jm4 (P := P) (w := w) (base := base) T
 have G__law_settings := Jr7 (P := P) (w := w) (base := base) T
 refine T.Ja0.fn.ok sc_law_choice (fun vs H Q E h => ?_) (fun cdv A outer s H vs Q E hr h => ?_)
 ·obtain ⟨p, x, R, rfl, _⟩ := h
  rfl
 ·obtain ⟨p, x, R, rfl, st, rt, rg, k⟩ := h
  refine ⟨?t, ?B, ?C⟩
  case B =>
   refine' Jkq ?s1 ?r1
   case s1 =>
    exact (Jl3 (i := 2) sc_law_choice.nd rfl (Or.inl rfl) (Jlf Jlr (by rfl) T.Jaz Jm0 (Jkn (Jll (N := (["_law_one", "_law_stream_here"] : List Str)) (ini := [none, some 0]) rfl (Jm7 (Jl7 Jlb (pv 1) Jks (fun _ _ => rfl))) (fun _ _ _ _ _ => (Jl1 (i := 0) (by decide +kernel : (["_law_one", "_law_stream_here"] : List Str).Nodup) rfl (Or.inl rfl))) (fun _ _ _ _ _ => Jlm) (fun _ _ _ _ _ => (Jku T.Jr G__law_take hr (by decide) (Jkn (pv 1) (Jkn (Jku T.Jy G__law_settings hr (by decide) (Jkn (Jl7 (Joz (K := K) rfl) (pv 0) Jks (fun _ _ => rfl)) Jkp)) Jkp))))) Jkp)))
   case r1 =>
    refine' Jkq ?s3 ?r3
    case s3 =>
     exact (Jl3 (i := 3) sc_law_choice.nd rfl (Or.inl rfl) (Jl5 Jmd (Jku T.Jr G__law_take hr (by decide) (Jkn (pv 0) (Jkn (Jl5 Jlk (Jkz Jl8 (by rfl) T.Jar Jmc (Jkn (Jl7 Jlb (pv 1) Jks (fun _ _ => rfl)) Jkp)) Jks) Jkp))) Jks))
    case r3 =>
     refine' Jkr ?s5
     case s5 =>
      exact (Jl0 (Jm8 (Jkn (pv 2) (Jkn (Jl7 Jm1 (Jmh (Jkn (pv 3) (Jkn Jmv Jkp))) (Jlf Joy (by rfl) T.Jap Jrj (Jkn (Jmk Jx3 (pv 3) Jks (Jli _)) Jkp)) (fun _ _ => rfl)) Jkp))))
  obtain ⟨t, lb, lt, bs, ts, rfl, ht, hb, btl, htt, ttl, nb, nt⟩ := rt
  refine ⟨_, rfl, t, _, 2, _, rfl, rfl, SqT.of ht, rfl, lb, rfl, ⟨_, SqL.of hb⟩, fun D hD => ?_⟩
  have blen := btl.len
  have hn := rg.n
  refine Jrn (p := p) (fun i y => ∃ n : Int, y = .int n ∧ (0 ≤ n ∧ n ≤ 4)) st hD (by omega) hb nb ?_ ?_
  ·intro i x H' Q' hx b k'
   obtain ⟨B, eB, bt⟩ := btl.get hx
   obtain ⟨tb, g, rfl, htb', gt⟩ := bt.but st b
   have bg := (rg.Bs B (List.mem_of_getElem? eB)).1
   have q1 := nOf_in bg.G
   refine ⟨_, rfl, _, rfl, tb, _, 5, _, rfl, rfl, SqT.of htb', rfl, p, g, B.G, rfl, gt, fun H2 s2 => ?_⟩
   exact ⟨p, _, rfl, b.2.same s2, by omega, Joe (by omega), fun r H5 r0 r1 b5 => k' _ _ ((But.of b.2 s2).trans b5) ⟨_, rfl, r0, by omega⟩⟩
  ·intro ys H1 b1 hD1 hl1 hy
   obtain ⟨ns, rfl, hns⟩ := Jww hy
   rw [List.length_map] at hl1
   refine ⟨D, _, rfl, .inl ⟨SqL.of hD1, fun u hu => ?_⟩⟩
   have su := Same.upd (o := .tup (ns.map V.int)) hu
   have b2 := b1.same su
   have ht2 := b2.1 _ _ (Jmn st ht (fun _ _ _ z => by cases z)) ht
   have htt2 := b2.1 _ _ nt htt
   have tlen := ttl.len
   have tn := rg.tn
   refine ⟨_, rfl, _, rfl, t, _, 3, _, rfl, rfl, SqT.of ht2, rfl, lt, _, rfl, .inl (SqL.of htt2), _, _, rfl, rfl, p, _, rfl, b2.2, by omega, Joe (by omega), fun r H5 r0 r1 b5 => ⟨_, _, rfl, rfl, ?_⟩⟩
   have hu5 : H5 u = some (.tup (ns.map V.int)) := b5.1 _ _ (Jmn b2.2 Jko (fun _ _ _ z => by cases z)) Jko
   refine ⟨_, rfl, _, rfl, (show 2 ≤ sizeLine by decide), fun D2 hD2 => ⟨_, rfl, _, _, rfl, rfl, .inr ⟨_, rfl, ?_⟩⟩⟩
   have s2 := Same.upd (o := .lst [.int (r - 1), .non]) hD2
   obtain ⟨tv, hat, htv⟩ : ∃ tv, atI [V.int (r - 1), .non] (if decide (r - 1 < 0) = true then 1 else 0) = some tv ∧ TwnV R tv := by
    by_cases h : r - 1 < 0
    ·rw [decide_eq_true h]
     exact ⟨.non, rfl, .inl rfl⟩
    ·rw [decide_eq_false h]
     exact ⟨.int (r - 1), rfl, .inr ⟨_, rfl, by omega, by omega⟩⟩
   refine ⟨D2, _, _, tv, rfl, rfl, SqL.of Jko, hat, (show 2 ≤ sizeLine by decide), fun y hy => ?_⟩
   have sy := s2.trans (Same.upd (o := .tup [.ref u, tv]) hy)
   exact k (.ref y) ns tv _ ((b2.trans b5).same sy) ⟨⟨y, u, rfl, Jko, sy _ _ hu5⟩, by omega, hns, htv⟩
theorem Jt4 : Jky ["_law_told", "_law_wet"] ["_law_told", "_law_wet"] (Jkt (top 76)) := ⟨rfl, rfl, rfl, by decide +kernel, rfl, by decide +kernel, by decide +kernel⟩
theorem Jsy (T : Tx K mg a) : FnOk P w K mg base CX0 1 a.Jja a.Jjb ["_law_told", "_law_wet"] Jy6 := by
 refine T.Ja1.fn.ok Jt4 (fun vs H Q E h => ?_) (fun cdv A outer s H vs Q E hr h => ?_)
 ·obtain ⟨p, x, R, wet, rfl, _⟩ := h
  rfl
 ·obtain ⟨p, x, R, wet, rfl, rt, rg, k⟩ := h
  refine ⟨?t, ?B, ?C⟩
  case B =>
   refine' Jkr ?s1
   case s1 =>
    exact (Jl0 (Jkz (Jmy rfl) (by rfl) T.Jau Jpa (Jkn (Jkz (Jno rfl) (by rfl) T.Jay Jq9 (Jkn (Jll (N := (["_law_one"] : List Str)) (ini := [none]) rfl (Jm7 (Jl7 Jlb (pv 0) Jks (fun _ _ => rfl))) (fun _ _ _ _ _ => (Jl1 (i := 0) (by decide +kernel : (["_law_one"] : List Str).Nodup) rfl (Or.inl rfl))) (fun _ _ _ _ _ => Jlm) (fun _ _ _ _ _ => (Jl7 (Joz (K := K) rfl) (pv 0) Jks (fun _ _ => rfl)))) Jkp)) (Jkn (Jkz (Jnc rfl) (by rfl) T.Jat Jq8 (Jkn Jks (Jkn (Jl5 Jmd (Jl5 Jlk (pv 1) (Jl7 Jlb (pv 0) Jks (fun _ _ => rfl))) (Jl7 Jlb (pv 0) Jks (fun _ _ => rfl))) Jkp))) Jkp))))
  obtain ⟨t, lb, lt, bs, ts, rfl, ht, hb, btl, htt, ttl, nb, nt⟩ := rt
  have blen := btl.len
  have hn := rg.n
  refine ⟨_, rfl, t, _, 2, _, rfl, rfl, SqT.of ht, rfl, lb, rfl, ⟨_, SqL.of hb⟩, fun D hD => ?_⟩
  refine Jro ((R.Bs.map (·.rn)).map V.int) hD (by simp [blen]) (by omega) hb ?_ ?_
  ·intro i x y H' Q' hx hy sm k'
   obtain ⟨B, eB, tb, g, rfl, htb, gt⟩ := btl.get hx
   rw [List.getElem?_map, List.getElem?_map, eB] at hy
   cases hy
   exact ⟨_, rfl, tb, _, 4, _, rfl, rfl, SqT.of (sm _ _ htb), rfl, k' _ fun _ _ h => h⟩
  intro H1 s1 hD1
  refine ⟨D, _, rfl, .inl (SqL.of hD1), ⟨by rw [List.length_map]; omega, fun n hn => ?_⟩, ?_⟩
  ·obtain ⟨B, hB, rfl⟩ := List.mem_map.mp hn
   have := (rg.Bs B hB).1.rn
   omega
  refine ⟨_, rfl, _, rfl, t, _, 1, _, rfl, rfl, SqT.of (s1 _ _ ht), rfl, _, _, rfl, rfl, _, rfl, t, _, 0, _, rfl, rfl, SqT.of (s1 _ _ ht), rfl, _, _, rfl, rfl, _, _, rfl, _, _, rfl, k _ s1⟩
end
def Row6 (n : Nat) (ms : List Int) : Prop := ms.length = n ∧ ∀ m ∈ ms, 0 ≤ m ∧ m ≤ 6
theorem Row6.sml {n : Nat} {ms : List Int} (h : Row6 n ms) (hn : n ≤ 16) : Sml ms := ⟨by have := h.1; omega, fun m hm => by have := h.2 m hm; omega⟩
theorem Jzy : ∀ {ms : List Int}, (∀ m ∈ ms, 0 ≤ m) → 0 ≤ ms.sum
 | [], _ => by simp
 | x :: r, h => by
  have h1 := h x List.mem_cons_self
  have h2 := Jzy (ms := r) fun m hm => h m (List.mem_cons_of_mem _ hm)
  rw [List.sum_cons]
  omega
def Jy7 : Sp := fun vs H Q _ => ∃ (p : Addr) (x : V) (R : Jmw) (wet : Int) (r : Addr) (ns : List Int), vs = [x, .int wet, .ref r] ∧ RTAt p H x R ∧ Job R ∧ H r = some (.lst (ns.map V.int)) ∧ Row6 R.Bs.length ns ∧ ∀ (u : Addr) (ms : List Int) (H' : Hp), Same H H' → H' u = some (.tup (ms.map V.int)) → Row6 R.Bs.length ms → Q (.ref u) H'
def Yag : Sp := fun vs H Q _ => ∃ (p : Addr) (x : V) (R : Jmw) (wet : Int), vs = [.ref p, x, .int wet] ∧ Strm H p ∧ RTAt p H x R ∧ Job R ∧ (0 ≤ wet ∧ wet ≤ 12) ∧ ∀ (u : Addr) (ms : List Int) (H' : Hp), But p H H' → H' u = some (.tup (ms.map V.int)) → Row6 R.Bs.length ms → Q (.ref u) H'
section
variable {P : Program} {w : World} {K : W.Frag} {mg : Str → Option Value} {base : Heap} {a : Ad}
theorem sc_law_raised : Jky ["_law_told", "_law_wet", "_law_row", "_law_found", "_law_k", "_law_one"] ["_law_told", "_law_wet", "_law_row"] (Jkt (top 77)) := ⟨rfl, rfl, rfl, by decide +kernel, rfl, by decide +kernel, by decide +kernel⟩
theorem Jsz (T : Tx K mg a) : FnOk P w K mg base CX0 2 a.Jjc a.Jjd ["_law_told", "_law_wet", "_law_row"] Jy7 := by
 have G__law_forced := Jsy (P := P) (w := w) (base := base) T
 refine T.Ja2.fn.ok sc_law_raised (fun vs H Q E h => ?_) (fun cdv A outer s H vs Q E hr h => ?_)
 ·obtain ⟨p, x, R, wet, r, ns, rfl, _⟩ := h
  rfl
 ·obtain ⟨p, x, R, wet, r, ns, rfl, rt, rg, hr0, r6, k⟩ := h
  refine ⟨?t, ?B, ?C⟩
  case B =>
   refine' Jkq ?s1 ?r1
   case s1 =>
    exact (Jl3 (i := 3) sc_law_raised.nd rfl (Or.inl rfl) (Jlf Jml (by rfl) T.Jas Jn8 (Jkn (pv 2) Jkp)))
   case r1 =>
    refine' Jkq ?s3 ?r3
    case s3 =>
     refine' Jo0 ?f4_0 ?f4_1 ?f4_2 ?f4_3 ?f4_4
     case f4_0 =>
      exact PassesOwn.never
     case f4_1 =>
      exact rfl
     case f4_2 =>
      exact (Yx (by rfl) T.Jao (Jkn (Jl7 Jlb (pv 0) Jks (fun _ _ => rfl)) Jkp))
     case f4_3 =>
      exact (Jsd rfl (Jla (Jl1 (i := 4) sc_law_raised.nd rfl (Or.inl rfl)) (Jla (Jl1 (i := 5) sc_law_raised.nd rfl (Or.inl rfl)) Jnb)))
     case f4_4 =>
      refine' Jkr ?s5
      case s5 =>
       exact (Jui (Jl5 Jlk (Jl7 Jm1 (pv 3) (pv 4) (fun _ _ => rfl)) (Jkz (Jmy rfl) (by rfl) T.Jau Jpa (Jkn (Jl5 Jmd (Jl7 Jlb (pv 5) Jks (fun _ _ => rfl)) (Jl7 Jm1 (pv 3) (pv 4) (fun _ _ => rfl))) (Jkn (Jkz (Jnc rfl) (by rfl) T.Jat Jq8 (Jkn Jks (Jkn (Jl5 Jmd (Jku T.Ja1 G__law_forced hr (by decide) (Jkn (pv 0) (Jkn (pv 1) Jkp))) (Jkz (Jno rfl) (by rfl) T.Jay Jq9 (Jkn (pv 3) Jkp))) Jkp))) Jkp)))) (Jw5 (pv 3) (pv 4) Jq3))
    case r3 =>
     refine' Jkr ?s8
     case s8 =>
      exact (Jl0 (Jlf Jlr (by rfl) T.Jaz Jm0 (Jkn (pv 3) Jkp)))
  obtain ⟨t, lb, lt, bs, ts, rfl, ht, hb, btl, htt, ttl, nb, nt⟩ := id rt
  have blen := btl.len
  have hn := rg.n
  refine ⟨_, rfl, r, _, rfl, .inl (SqL.of hr0), fun F hF => ?_⟩
  have s1 := Same.upd (o := .lst (ns.map V.int)) hF
  refine ⟨_, rfl, t, _, 2, _, rfl, rfl, SqT.of (s1 _ _ ht), rfl, ?_⟩
  refine ⟨lb, rfl, ⟨_, SqL.of (s1 _ _ hb)⟩, ?_⟩
  refine Yj (xs := bs) (fun i σ H' => ∃ (o1 o2 : Option V) (ms : List Int), σ = [some (.ref t), some (.int wet), some (.ref r), some (.ref F), o1, o2] ∧ H' F = some (.lst (ms.map V.int)) ∧ Row6 R.Bs.length ms ∧ Same H H') ?_ ?_ ?_ ?_
  ·exact ⟨_, _, ns, rfl, Jko, r6, s1⟩
  ·rintro i σ H' _ ⟨_, _, _, _, _, _, sm⟩
   exact SqL.of (sm _ _ hb)
  ·rintro i x σ H' Ta hx ⟨o1, o2, ms, rfl, hFs, q6, sm⟩ hT
   obtain ⟨B, eB, tb, g, rfl, htb, gt⟩ := btl.get hx
   have bg := (rg.Bs B (List.mem_of_getElem? eB)).1
   have sT := Same.upd (o := .tup [.int i, .ref tb]) hT
   have hi : i < R.Bs.length := (List.getElem?_eq_some_iff.mp eB).1
   have hi' : i < ms.length := by have := q6.1; omega
   have htb' := sT _ _ (sm _ _ htb)
   have hFT := sT _ _ hFs
   have hat : atI (ms.map V.int) (i : Int) = some (.int ms[i]) := Jps hi'
   have b6 := q6.2 _ (List.getElem_mem hi')
   have rn := bg.rn
   refine ⟨Ta, _, rfl, SqT.of Jko, rfl, _, _, rfl, _, _, rfl, rfl, ?_⟩
   refine ⟨_, rfl, _, rfl, F, _, _, _, rfl, rfl, SqL.of hFT, hat, ?_⟩
   refine ⟨_, rfl, tb, _, 4, _, rfl, rfl, SqT.of htb', rfl, _, rfl, _, rfl, F, _, _, _, rfl, rfl, SqL.of hFT, hat, _, _, rfl, rfl, ?_⟩
   refine ⟨_, rfl, _, rfl, p, _, R, wet, rfl, rt.same rg (sm.trans sT), rg, fun H2 s2 => ?_⟩
   refine ⟨_, rfl, F, ms, rfl, .inl (SqL.of (s2 _ _ hFT)), q6.sml hn.2, _, _, rfl, rfl, _, _, rfl, _, _, rfl, _, _, rfl, rfl, ?_⟩
   have s3 := sm.trans (sT.trans s2)
   have hF2 := s2 _ _ hFT
   have hix : ixN (ms.map V.int).length (i : Int) = some i := by
    unfold ixN
    rw [if_pos (by omega), if_pos (by rw [List.length_map]; omega)]
    rfl
   refine ⟨_, rfl, _, rfl, F, _, _, i, rfl, rfl, hF2, hix, ?_⟩
   generalize ev : ms[i] + (if (if Jpr R wet - ms.sum > 0 then Jpr R wet - ms.sum else 0) < B.rn - ms[i] then if Jpr R wet - ms.sum > 0 then Jpr R wet - ms.sum else 0 else B.rn - ms[i]) = v
   have hv : 0 ≤ v ∧ v ≤ 6 := by
    rw [← ev]
    split <;> split <;> omega
   refine ⟨_, _, ms.set i v, rfl, by rw [Jko, List.map_set, ← ev], ⟨by rw [List.length_set]; exact q6.1, fun m hm => ?_⟩, fun b o e => ?_⟩
   ·rcases List.mem_or_eq_of_mem_set hm with h | h
    ·exact q6.2 m h
    ·rw [h]
     exact hv
   ·rw [Jkv (Jkw e hF)]
    exact s3 _ _ e
  ·rintro σ H1 ⟨o1, o2, ms, rfl, hFs, q6, sm⟩
   exact ⟨_, rfl, F, _, rfl, .inl ⟨SqL.of hFs, fun u hu => k u ms _ (sm.trans (Same.upd hu)) Jko q6⟩⟩
theorem sc_law_rain : Jky ["_law_stream_here", "_law_told", "_law_wet", "_law_found", "_law_one"] ["_law_stream_here", "_law_told", "_law_wet"] (Jkt (top 78)) := ⟨rfl, rfl, rfl, by decide +kernel, rfl, by decide +kernel, by decide +kernel⟩
theorem Jv7 (T : Tx K mg a) : FnOk P w K mg base CX0 3 a.Jje a.Jjf ["_law_stream_here", "_law_told", "_law_wet"] Yag := by
 have G__law_take := Jm4 (P := P) (w := w) (base := base) T
 have G__law_raised := Jsz (P := P) (w := w) (base := base) T
 refine T.Ja3.fn.ok sc_law_rain (fun vs H Q E h => ?_) (fun cdv A outer s H vs Q E hr h => ?_)
 ·obtain ⟨p, x, R, wet, rfl, _⟩ := h
  rfl
 ·obtain ⟨p, x, R, wet, rfl, st, rt, rg, hw, k⟩ := h
  refine ⟨?t, ?B, ?C⟩
  case B =>
   refine' Jkq ?s1 ?r1
   case s1 =>
    exact (Jl3 (i := 3) sc_law_rain.nd rfl (Or.inl rfl) (Jmh Jkp))
   case r1 =>
    refine' Jkq ?s3 ?r3
    case s3 =>
     refine' Jo0 ?f4_0 ?f4_1 ?f4_2 ?f4_3 ?f4_4
     case f4_0 =>
      exact PassesOwn.never
     case f4_1 =>
      exact rfl
     case f4_2 =>
      exact (Jm7 (Jl7 Jlb (pv 1) Jks (fun _ _ => rfl)))
     case f4_3 =>
      exact (Jl1 (i := 4) sc_law_rain.nd rfl (Or.inl rfl))
     case f4_4 =>
      refine' Jkr ?s5
      case s5 =>
       exact (Jmu (Jv9 F.plainAttrs_list F.slot_list_append F.type_list_append Jns (pv 3) (Jkn (Jku T.Jr G__law_take hr (by decide) (Jkn (pv 0) (Jkn (Jl5 Jlk (Jkz (Jmy rfl) (by rfl) T.Jau Jpa (Jkn (Jl7 Jlb (pv 4) Jks (fun _ _ => rfl)) (Jkn (Jl5 Jmd (pv 2) (Jkz (Jno rfl) (by rfl) T.Jay Jq9 (Jkn (pv 3) Jkp))) Jkp))) Jks) Jkp))) Jkp)))
    case r3 =>
     refine' Jkr ?s7
     case s7 =>
      exact (Jl0 (Jku T.Ja2 G__law_raised hr (by decide) (Jkn (pv 1) (Jkn (pv 2) (Jkn (pv 3) Jkp)))))
  obtain ⟨t, lb, lt, bs, ts, rfl, ht, hb, btl, htt, ttl, nb, nt⟩ := id rt
  have blen := btl.len
  have hn := rg.n
  refine ⟨(show 0 ≤ sizeLine by decide), fun F hF => ?_⟩
  have s1 := Same.upd (o := .lst []) hF
  have nF : F ≠ p := st.ne hF
  refine ⟨_, rfl, t, _, 2, _, rfl, rfl, SqT.of (s1 _ _ ht), rfl, lb, rfl, ⟨_, SqL.of (s1 _ _ hb)⟩, ?_⟩
  refine Jod (xs := bs) (fun i σ H' => ∃ (o1 : Option V) (ms : List Int), σ = [some (.ref p), some (.ref t), some (.int wet), some (.ref F), o1] ∧ H' F = some (.lst (ms.map V.int)) ∧ Row6 i ms ∧ ms.sum ≤ wet ∧ But p H H') ?_ ?_ ?_ ?_
  ·exact ⟨_, [], rfl, Jko, ⟨rfl, fun m hm => absurd hm (by simp)⟩, hw.1, But.of st s1⟩
  ·rintro i σ H' _ ⟨_, _, _, _, _, _, b⟩
   exact SqL.of (b.1 _ _ nb hb)
  ·rintro i x σ H' hx ⟨o1, ms, rfl, hFs, q6, hsum, b⟩
   obtain ⟨B, eB, bt⟩ := btl.get hx
   obtain ⟨tb, g, rfl, htb, gt⟩ := bt.but st b
   have bg := (rg.Bs B (List.mem_of_getElem? eB)).1
   have hi : i < R.Bs.length := (List.getElem?_eq_some_iff.mp eB).1
   have rn := bg.rn
   have hl := q6.1
   have s0 : 0 ≤ ms.sum := Jzy fun m hm => (q6.2 m hm).1
   refine ⟨_, rfl, .inl ⟨rfl, _, SqL.of hFs⟩, _, rfl, _, rfl, tb, _, 4, _, rfl, rfl, SqT.of htb, rfl, _, rfl, _, rfl, F, ms, rfl, .inl (SqL.of hFs), q6.sml (by omega), _, _, rfl, rfl, _, _, rfl, _, _, rfl, rfl, ?_⟩
   have hm : 0 ≤ (if wet - ms.sum < B.rn then wet - ms.sum else B.rn) ∧ (if wet - ms.sum < B.rn then wet - ms.sum else B.rn) ≤ 6 ∧ (if wet - ms.sum < B.rn then wet - ms.sum else B.rn) ≤ wet - ms.sum := by
    split <;> omega
   refine ⟨p, _, rfl, b.2, by omega, Joe (by omega), fun v H5 v0 v1 b5 => ?_⟩
   have hF5 := b5.1 _ _ nF hFs
   refine ⟨F, _, _, rfl, rfl, hF5, by rw [List.length_map]; exact Jlo (by omega), ?_⟩
   refine ⟨_, ms ++ [v], rfl, by rw [Jko, List.map_append]; rfl, ⟨by rw [List.length_append]; show ms.length + 1 = i + 1; omega, fun m hm' => ?_⟩, by rw [List.sum_append, List.sum_singleton]; omega, (b.trans b5).updD hF nF⟩
   rcases List.mem_append.mp hm' with h | h
   ·exact q6.2 m h
   ·rw [List.mem_singleton.mp h]
    exact ⟨v0, by omega⟩
  ·rintro σ H1 ⟨o1, ms, rfl, hFs, q6, hsum, b⟩
   exact ⟨_, rfl, _, rfl, _, rfl, p, _, R, wet, F, ms, rfl, rt.but rg st b, rg, hFs, ⟨by have := q6.1; omega, q6.2⟩, fun u ns H2 s2 hu r6 => k u ns H2 (b.same s2) hu r6⟩
end
def Js8 (kd : Str) (m lv : Int) : Int := if kd = ("step" : Str) then (if lv < m then lv else m) else if kd = ("flap" : Str) then (if 0 > lv - m then 0 else lv - m) else lv / m
def lvG (G : Jl9) (s lv : Int) : Int := Js8 G.kd (G.ns.getD (match G.sv with | some j => j | none => s).toNat 0) lv
def Jwg (C : Addr) (lo : Int) (f : Int → Int → Int) : Sp := fun vs H Q _ => ∃ (g : Addr) (ns : List Int) (s lv : Int), vs = [.ref g, .int s, .int lv] ∧ GateAt C H g (ns.map V.int) ∧ (0 ≤ s ∧ s < ns.length) ∧ (∀ n ∈ ns, lo ≤ n ∧ n ≤ 12) ∧ (0 ≤ lv ∧ lv ≤ 1000) ∧ Q (.int (f (ns.getD s.toNat 0) lv)) H
theorem Ju5 {ns : List Int} {s : Int} (h : 0 ≤ s ∧ s < ns.length) : atI (ns.map V.int) s = some (.int (ns.getD s.toNat 0)) ∧ ns.getD s.toNat 0 ∈ ns := by
 obtain ⟨i, rfl⟩ := Int.eq_ofNat_of_zero_le h.1
 have hi : i < ns.length := by omega
 have e : ns.getD (i : Int).toNat 0 = ns[i] := by simp [List.getD_eq_getElem?_getD, hi]
 rw [e]
 exact ⟨Jps hi, List.getElem_mem hi⟩
section
variable {P : Program} {w : World} {K : W.Frag} {mg : Str → Option Value} {base : Heap} {a : Ad}
theorem Jpn : Jky ["self", "setting", "level"] ["self", "setting", "level"] (Jkt (Jkx (top 45) 2)) := ⟨rfl, rfl, rfl, by decide +kernel, rfl, by decide +kernel, by decide +kernel⟩
theorem Jpe (T : Tx K mg a) : FnOk P w K mg base CX0 1 a.Jhm a.Jhn ["self", "setting", "level"] (Jwg a.Jkg 0 fun m lv => if lv < m then lv else m) := by
 refine T.Jbz.fn.ok Jpn (fun vs H Q E h => ?_) (fun cdv A outer s H vs Q E hr h => ?_)
 ·obtain ⟨g, ns, s, lv, rfl, _⟩ := h
  rfl
 ·obtain ⟨g, ns, s, lv, rfl, ⟨dx, t, hg, ht⟩, hs, hn, hl, k⟩ := h
  obtain ⟨hat, hin⟩ := Ju5 hs
  refine ⟨?t, ?B, ?C⟩
  case B =>
   refine' Jkr ?s1
   case s1 =>
    exact (Jl0 (Jkz (Jmy rfl) (by rfl) T.Jau Jpa (Jkn (Jl7 Jlb (Jlg (pv 0) (by rfl)) (pv 1) (fun _ _ => rfl)) (Jkn (pv 2) Jkp))))
  exact ⟨_, rfl, g, _, dx, _, _, rfl, hg, T.Jd7, T.Jdd, rfl, _, rfl, t, _, _, _, rfl, rfl, SqT.of ht, hat, _, rfl, _, _, rfl, k⟩
theorem Jph : Jky ["self", "setting", "level"] ["self", "setting", "level"] (Jkt (Jkx (top 46) 2)) := ⟨rfl, rfl, rfl, by decide +kernel, rfl, by decide +kernel, by decide +kernel⟩
theorem Jpc (T : Tx K mg a) : FnOk P w K mg base CX0 1 a.Jhs a.Jht ["self", "setting", "level"] (Jwg a.Jkh 0 fun m lv => if 0 > lv - m then 0 else lv - m) := by
 refine T.Jc2.fn.ok Jph (fun vs H Q E h => ?_) (fun cdv A outer s H vs Q E hr h => ?_)
 ·obtain ⟨g, ns, s, lv, rfl, _⟩ := h
  rfl
 ·obtain ⟨g, ns, s, lv, rfl, ⟨dx, t, hg, ht⟩, hs, hn, hl, k⟩ := h
  obtain ⟨hat, hin⟩ := Ju5 hs
  refine ⟨?t, ?B, ?C⟩
  case B =>
   refine' Jkr ?s1
   case s1 =>
    exact (Jl0 (Jkz (Jnc rfl) (by rfl) T.Jat Jq8 (Jkn (Jl5 Jmd (pv 2) (Jl7 Jlb (Jlg (pv 0) (by rfl)) (pv 1) (fun _ _ => rfl))) (Jkn Jks Jkp))))
  exact ⟨_, rfl, _, rfl, g, _, dx, _, _, rfl, hg, T.Jde, T.Jdk, rfl, _, rfl, t, _, _, _, rfl, rfl, SqT.of ht, hat, _, _, rfl, rfl, _, _, rfl, k⟩
theorem Jpm : Jky ["self", "setting", "level"] ["self", "setting", "level"] (Jkt (Jkx (top 47) 2)) := ⟨rfl, rfl, rfl, by decide +kernel, rfl, by decide +kernel, by decide +kernel⟩
theorem Jpd (T : Tx K mg a) : FnOk P w K mg base CX0 1 a.Jhy a.Jhz ["self", "setting", "level"] (Jwg a.Jki 1 fun m lv => lv / m) := by
 refine T.Jc5.fn.ok Jpm (fun vs H Q E h => ?_) (fun cdv A outer s H vs Q E hr h => ?_)
 ·obtain ⟨g, ns, s, lv, rfl, _⟩ := h
  rfl
 ·obtain ⟨g, ns, s, lv, rfl, ⟨dx, t, hg, ht⟩, hs, hn, hl, k⟩ := h
  obtain ⟨hat, hin⟩ := Ju5 hs
  refine ⟨?t, ?B, ?C⟩
  case B =>
   refine' Jkr ?s1
   case s1 =>
    exact (Jl0 (Jl5 Js6 (pv 2) (Jl7 Jlb (Jlg (pv 0) (by rfl)) (pv 1) (fun _ _ => rfl))))
  have hm := hn _ hin
  refine ⟨_, rfl, _, rfl, g, _, dx, _, _, rfl, hg, T.Jdl, T.Jdr, rfl, _, rfl, t, _, _, _, rfl, rfl, SqT.of ht, hat, ?_⟩
  exact ⟨_, _, rfl, rfl, ⟨by omega, Joe (by omega)⟩, k⟩
theorem Jtn : ∀ {ns : List Int} {lo : Int}, Jm5 lo (ns.map V.int) = true → ∀ n ∈ ns, lo ≤ n ∧ n ≤ 12
 | [], _, _ => fun _ h => nomatch h
 | x :: r, lo, h => by
  have h' : ((decide (lo ≤ x) && decide (x ≤ 12)) && Jm5 (x + 1) (r.map V.int)) = true := h
  rw [Bool.and_eq_true, Bool.and_eq_true, decide_eq_true_eq, decide_eq_true_eq] at h'
  intro n hn
  rcases List.mem_cons.mp hn with rfl | hn
  ·exact h'.1
  ·have := Jtn h'.2 n hn
   omega
theorem GGood.marks {G : Jl9} (h : GGood G) : ∀ n ∈ G.ns, Jn9 G.kd ≤ n ∧ n ≤ 12 := by
 have q : (decide (1 ≤ (G.ns.map V.int).length ∧ (G.ns.map V.int).length ≤ 4) && Jm5 (Jn9 G.kd) (G.ns.map V.int)) = true := h.ns
 rw [Bool.and_eq_true] at q
 exact Jtn q.2
theorem Jr1 {H : Hp} {g : Addr} {kd : Str} {ns : List Int} {s lv : Int} {Q : VK} (T : Tx K mg a) (hk : Knd kd) (ga : GateAt (cOf a kd) H g (ns.map V.int)) (hs : 0 ≤ s ∧ s < ns.length) (hn : ∀ n ∈ ns, Jn9 kd ≤ n ∧ n ≤ 12) (hl : 0 ≤ lv ∧ lv ≤ 1000) (k : Q (.int (Js8 kd (ns.getD s.toNat 0) lv)) H) :
  ∃ C dx fs f fd ps sp, H g = some (.ins C dx fs) ∧ fs.lookup ("passes" : Str) = none ∧ Cls K C ∧ Jmr K C "passes" f ∧ FnOk P w K mg base CX0 1 f fd ps sp ∧ Binds K fd ps [] ∧ sp [.ref g, .int s, .int lv] H Q E0 := by
 obtain ⟨dx, t, h1, h2⟩ := id ga
 rcases hk with rfl | rfl | rfl
 ·have e2 : cOf a "step" = a.Jkg := if_pos rfl
  rw [e2] at h1 ga
  exact ⟨_, dx, _, _, _, _, _, h1, rfl, T.Jd7, T.Jdc, Jpe T, T.Jbz.bd, g, ns, s, lv, rfl, ga, hs, hn, hl, k⟩
 ·have e2 : cOf a "flap" = a.Jkh := by unfold cOf; rw [if_neg Jto, if_pos rfl]
  rw [e2] at h1 ga
  have ek : Js8 "flap" (ns.getD s.toNat 0) lv = (if 0 > lv - ns.getD s.toNat 0 then 0 else lv - ns.getD s.toNat 0) := by unfold Js8; rw [if_neg Jto, if_pos rfl]
  rw [ek] at k
  exact ⟨_, dx, _, _, _, _, _, h1, rfl, T.Jde, T.Jdj, Jpc T, T.Jc2.bd, g, ns, s, lv, rfl, ga, hs, hn, hl, k⟩
 ·have e2 : cOf a "part" = a.Jki := by unfold cOf; rw [if_neg Jtq, if_neg Jtp]
  rw [e2] at h1 ga
  have ek : Js8 "part" (ns.getD s.toNat 0) lv = lv / ns.getD s.toNat 0 := by unfold Js8; rw [if_neg Jtq, if_neg Jtp]
  rw [ek] at k
  exact ⟨_, dx, _, _, _, _, _, h1, rfl, T.Jdl, T.Jdq, Jpd T, T.Jc5.bd, g, ns, s, lv, rfl, ga, hs, hn, hl, k⟩
theorem Jzb {H : Hp} {g : Addr} {kd : Str} {xs : List V} (T : Tx K mg a) (hk : Knd kd) (ga : GateAt (cOf a kd) H g xs) : ∃ t, TyX K H (.ref g) t ∧ W.kitOne K t (.ref a.Jkj) = some false := by
 obtain ⟨dx, t, h1, h2⟩ := ga
 rcases hk with rfl | rfl | rfl
 ·rw [show cOf a "step" = a.Jkg from if_pos rfl] at h1
  exact ⟨_, .of (T.Jd8.ty T.Jd7 h1), T.Jf0⟩
 ·rw [show cOf a "flap" = a.Jkh by unfold cOf; rw [if_neg Jto, if_pos rfl]] at h1
  exact ⟨_, .of (T.Jdf.ty T.Jde h1), T.Jf1⟩
 ·rw [show cOf a "part" = a.Jki by unfold cOf; rw [if_neg Jtq, if_neg Jtp]] at h1
  exact ⟨_, .of (T.Jdm.ty T.Jdl h1), T.Jf2⟩
def Yai (a : Ad) : Sp := fun vs H Q _ => ∃ (x g dx : Addr) (y : V) (kd : Str) (ns : List Int) (j lv : Int), vs = [.ref x, y, .int lv] ∧ H x = some (.ins a.Jkj dx [("gate", .ref g), ("setting", .int j)]) ∧ Knd kd ∧ GateAt (cOf a kd) H g (ns.map V.int) ∧ (0 ≤ j ∧ j < ns.length) ∧ (∀ n ∈ ns, Jn9 kd ≤ n ∧ n ≤ 12) ∧ (0 ≤ lv ∧ lv ≤ 1000) ∧ Q (.int (Js8 kd (ns.getD j.toNat 0) lv)) H
theorem sc_StuckGate_passes : Jky ["self", "setting", "level", "inner"] ["self", "setting", "level"] (Jkt (Jkx (top 48) 2)) := ⟨rfl, rfl, rfl, by decide +kernel, rfl, by decide +kernel, by decide +kernel⟩
theorem Jp1 (T : Tx K mg a) : FnOk P w K mg base CX0 2 a.Ji4 a.Ji5 ["self", "setting", "level"] (Yai a) := by
 refine T.Jc8.fn.ok sc_StuckGate_passes (fun vs H Q E h => ?_) (fun cdv A outer s H vs Q E hr h => ?_)
 ·obtain ⟨x, g, dx, y, kd, ns, j, lv, rfl, _⟩ := h
  rfl
 ·obtain ⟨x, g, dx, y, kd, ns, j, lv, rfl, hx, hk, ga, hj, hn, hl, k⟩ := h
  refine ⟨?t, ?B, ?C⟩
  case B =>
   refine' Jkq ?s1 ?r1
   case s1 =>
    exact (Jl3 (i := 3) sc_StuckGate_passes.nd rfl (Or.inl rfl) (pv 0))
   case r1 =>
    refine' Jkq ?s3 ?r3
    case s3 =>
     exact (Jzd PassesOwn.never (Jld (Jkz Jlx (by rfl) T.Jaq Jl4 (Jkn (Jlg (pv 3) (by rfl)) (Jkn (Jls (by rfl) T.Jbh (v := .ref _) rfl) Jkp)))) (Jkr (Jl3 (i := 3) sc_StuckGate_passes.nd rfl (Or.inl rfl) (Jlg (pv 3) (by rfl)))))
    case r3 =>
     refine' Jkr ?s5
     case s5 =>
      exact (Jl0 (Jpw (Jlg (pv 3) (by rfl)) hr (Jkn (Jlg (pv 3) (by rfl)) (Jkn (pv 2) Jkp))))
  obtain ⟨t, tg, et⟩ := Jzb T hk ga
  obtain ⟨C, dx', fs, f, fd, ps, sp, h1, h2, c, m, ok, bd, hsp⟩ := Jr1 (P := P) (w := w) (base := base) (Q := Q) T hk ga hj hn hl k
  refine ⟨_, rfl, fun _ σ' H' => σ' = [some (.ref x), some y, some (.int lv), some (.ref x)] ∧ H' = H, ⟨0, rfl, rfl⟩, ?_⟩
  rintro n σ' H' ⟨rfl, rfl⟩
  refine ⟨_, rfl, x, _, dx, _, _, rfl, hx, T.Jds, T.Jdy, rfl, _, _, _, t, false, rfl, rfl, tg, et, _, rfl, Jlj ?_⟩
  exact ⟨_, rfl, x, _, dx, _, _, rfl, hx, T.Jds, T.Jdy, rfl, g, C, dx', fs, f, fd, ps, sp, 1, rfl, h1, h2, c, m, ok, by decide, bd, _, rfl, x, _, dx, _, _, rfl, hx, T.Jds, T.Jdz, rfl, _, rfl, hsp⟩
theorem GX.passes {H : Hp} {x : V} {G : Jl9} {s lv : Int} {Q : VK} (T : Tx K mg a) (gg : GGood G) (gx : GX a H x G) (hs : 0 ≤ s ∧ s < (nOf G : Int)) (hl : 0 ≤ lv ∧ lv ≤ 1000) (k : Q (.int (lvG G s lv)) H) :
  ∃ o C dx fs f fd ps sp k', x = .ref o ∧ H o = some (.ins C dx fs) ∧ fs.lookup ("passes" : Str) = none ∧ Cls K C ∧ Jmr K C "passes" f ∧ FnOk P w K mg base CX0 k' f fd ps sp ∧ k' ≤ 2 ∧ Binds K fd ps [] ∧ sp [x, .int s, .int lv] H Q E0 := by
 obtain ⟨g, ga, r⟩ := gx
 unfold lvG at k
 unfold nOf at hs
 cases e : G.sv with
 | none =>
  rw [e] at r k hs
  subst r
  obtain ⟨C, dx', fs, f, fd, ps, sp, h1, h2, c, m, ok, bd, hsp⟩ := Jr1 (P := P) (w := w) (base := base) (Q := Q) T gg.kd ga hs gg.marks hl k
  exact ⟨g, C, dx', fs, f, fd, ps, sp, 1, rfl, h1, h2, c, m, ok, by decide, bd, hsp⟩
 | some j =>
  rw [e] at r k
  obtain ⟨q, dx, rfl, r2⟩ := r
  exact ⟨q, _, dx, _, _, _, _, _, 2, rfl, r2, rfl, T.Jds, T.Jdx, Jp1 T, by decide, T.Jc8.bd, q, g, dx, .int s, G.kd, G.ns, j, lv, rfl, r2, gg.kd, ga, gg.sv j e, gg.marks, hl, k⟩
def Jzq (a : Ad) : Sp := fun vs H Q _ => ∃ (x : V) (G : Jl9) (s lv : Int), vs = [x, .int s, .int lv] ∧ GX a H x G ∧ GGood G ∧ (0 ≤ s ∧ s < (nOf G : Int)) ∧ (0 ≤ lv ∧ lv ≤ 1000) ∧ Q (.int (lvG G s lv)) H
theorem Jor : Jky ["self", "thing"] ["self", "thing"] (Jkt (Jkx (top 12) 0)) := ⟨rfl, rfl, rfl, by decide +kernel, rfl, by decide +kernel, by decide +kernel⟩
theorem Jqh (T : Tx K mg a) : FnOk P w K mg base CX0 1 a.Jg6 a.Jg7 ["self", "thing"] (Jn2 K "thing") := by
 refine T.Jbu.fn.ok Jor (fun vs H Q E h => ?_) (fun cdv A outer s H vs Q E hr h => ?_)
 ·obtain ⟨e, C, W, fI, y, rfl, _⟩ := h
  rfl
 ·obtain ⟨e, C, W, fI, y, rfl, q, c, n, k⟩ := h
  refine ⟨_, (Jkr (Jn0 (pv 0) (pv 1) rfl)), ?_⟩
  exact ⟨_, rfl, _, rfl, e, C, W, fI, true, rfl, q, c, n, k⟩
theorem Juk : Jky ["self", "setting", "level"] ["self", "setting", "level"] (Jkt (Jkx (top 44) 0)) := ⟨rfl, rfl, rfl, by decide +kernel, rfl, by decide +kernel, by decide +kernel⟩
theorem Jna (T : Tx K mg a) : FnOk P w K mg base (CXX P w) 3 a.Jhg a.Jhh ["self", "setting", "level"] (Jzq a) := by
 have G_is_whole := Jm3 (P := P) (w := w) (base := base) T
 have G_NoGate___init__ := Jmx (P := P) (w := w) (base := base) T
 have G_NoNumber___init__ := Jqh (P := P) (w := w) (base := base) T
 refine T.Jbw.fn.okX Juk (fun vs H Q E h => ?_) (fun cdv A outer s H vs Q E hr h => ?_)
 ·obtain ⟨x, G, s, lv, rfl, _⟩ := h
  rfl
 ·obtain ⟨x, G, s, lv, rfl, gx, gg, hs, hl, k⟩ := h
  refine ⟨?t, ?B, ?C⟩
  case B =>
   refine' Jkq ?s1 ?r1
   case s1 =>
    refine' Jle ?c2 ?a2 ?b2
    case c2 =>
     exact (Jlc (Jld (Jku T.J0 G_is_whole hr (by decide) (Jkn (pv 1) (Jkn Jks (Jkn (Jl5 Jmd (Jqo (pv 0) hr) Jks) Jkp))))))
    case a2 =>
     refine' Jkr ?s3
     case s3 =>
      exact (Jln Jlp rfl (Jme T.Jcf G_NoGate___init__ hr (by decide) T.Jbm.bd T.Jb3 (Jkn (pv 1) Jkp)))
    case b2 =>
     exact Jl2
   case r1 =>
    refine' Jkq ?s6 ?r6
    case s6 =>
     refine' Jle ?c7 ?a7 ?b7
     case c7 =>
      exact (Jlc (Jld (Jku T.J0 G_is_whole hr (by decide) (Jkn (pv 2) (Jkn Jks (Jkn (Jls (by rfl) T.Jae (v := .int 1000) ⟨_, rfl⟩) Jkp))))))
     case a7 =>
      refine' Jkr ?s8
      case s8 =>
       exact (Jln Jlp rfl (Jme T.Jcw G_NoNumber___init__ hr (by decide) T.Jbu.bd T.Jbb (Jkn (pv 2) Jkp)))
     case b7 =>
      exact Jl2
    case r6 =>
     refine' Jkr ?s11
     case s11 =>
      exact (Jl0 (Jpw (pv 0) hr (Jkn (pv 1) (Jkn (pv 2) Jkp))))
  have gs : GS K a H x (nOf G) := gx.gs gg
  obtain ⟨o, C, dx', fs, f, fd, ps, sp, k', rfl, h1, h2, c, m, ok, hk, bd, hsp⟩ := gx.passes (P := P) (w := w) (base := base) (Q := Q) T gg hs hl k
  refine ⟨_, rfl, _, rfl, Jms T gs ⟨_, _, rfl, rfl, .int s, 0, (nOf G : Int) - 1, rfl, .inl ⟨s, rfl⟩, _, rfl, ifF (by simp [Jl6]; omega) ?_⟩ (by decide)⟩
  refine ⟨_, rfl, .int lv, 0, 1000, rfl, .inl ⟨lv, rfl⟩, _, rfl, ifF (by simp [Jl6]; omega) ?_⟩
  exact ⟨_, rfl, o, C, dx', fs, f, fd, ps, sp, k', rfl, h1, h2, c, m, ok, hk, bd, _, rfl, _, rfl, hsp⟩
end
def plc (S : Riv) (z : Str) : Nat := (S.Bs.map (·.z)).idxOf z
def Yaj (K : W.Frag) (a : Ad) : Sp := fun vs H Q _ => ∃ (o : Addr) (S : Riv) (z : Str), vs = [.ref o, .str z] ∧ RivAt K a H o S ∧ z ∈ S.Bs.map (·.z) ∧ ∀ H', Same H H' → Q (.int (plc S z)) H'
def TIn (S : Riv) : Prop := ∀ T ∈ S.Ts, T.b ∈ S.Bs.map (·.z) ∧ 1 ≤ T.wt ∧ T.wt ≤ 6
def Yaa (K : W.Frag) (a : Ad) : Sp := fun vs H Q _ => ∃ (o : Addr) (S : Riv) (t : Int) (T : Twn), vs = [.ref o, .int t] ∧ RivAt K a H o S ∧ TIn S ∧ 0 ≤ t ∧ S.Ts[t.toNat]? = some T ∧ ∀ H', Same H H' → Q (.int (plc S T.b)) H'
theorem TwnL.at {a : Ad} {H : Hp} : ∀ {xs : List Addr} {Bs : List Twn} {i : Nat} {B : Twn}, TwnL a H xs Bs → Bs[i]? = some B → ∃ o, xs[i]? = some o ∧ TwnAt a H o B
 | o :: _, _ :: _, 0, _, ⟨h, _⟩, e => by cases e; exact ⟨o, rfl, h⟩
 | _ :: _, _ :: _, i + 1, _, ⟨_, t⟩, e => TwnL.at (i := i) t (by simpa using e)
 | [], [], i, _, _, e => by simp at e
theorem Jyy : ∀ {l : List Str} {i : Nat} {z : Str}, l[i]? = some z → (∀ j, j < i → l[j]? ≠ some z) → l.idxOf z = i
 | [], _, _, h, _ => by simp at h
 | x :: l, 0, z, h, _ => by
  have e : x = z := by simpa using h
  rw [e]
  simp
 | x :: l, i + 1, z, h, n => by
  have hx : x ≠ z := fun e => n 0 (by omega) (by simp [e])
  have ih := Jyy (l := l) (i := i) (z := z) (by simpa using h) (fun j hj => by have := n (j + 1) (by omega); simpa using this)
  have hb : (x == z) = false := beq_false_of_ne hx
  simp [List.idxOf_cons, hb, ih]
section
variable {P : Program} {w : World} {K : W.Frag} {mg : Str → Option Value} {base : Heap} {a : Ad}
theorem sc_River_place_of : Jky ["self", "name", "place", "basin"] ["self", "name"] (Jkt (Jkx (top 62) 1)) := ⟨rfl, rfl, rfl, by decide +kernel, rfl, by decide +kernel, by decide +kernel⟩
theorem Jpt (T : Tx K mg a) : FnOk P w K mg base CX0 1 a.Jik a.Jil ["self", "name"] (Yaj K a) := by
 refine T.Jcc.fn.ok sc_River_place_of (fun vs H Q E h => ?_) (fun cdv A outer s H vs Q E hr h => ?_)
 ·obtain ⟨o, S, z, rfl, _⟩ := h
  rfl
 ·obtain ⟨o, S, z, rfl, ro, hz, k⟩ := h
  refine ⟨?t, ?B, ?C⟩
  case B =>
   refine' Jkq ?s1 ?r1
   case s1 =>
    refine' Jo0 ?f2_0 ?f2_1 ?f2_2 ?f2_3 ?f2_4
    case f2_0 =>
     exact PassesOwn.never
    case f2_1 =>
     exact rfl
    case f2_2 =>
     exact (Jva (by rfl) T.Jao (Jkn (Jlg (pv 0) (by rfl)) Jkp))
    case f2_3 =>
     exact (Jsd rfl (Jla (Jl1 (i := 2) sc_River_place_of.nd rfl (Or.inl rfl)) (Jla (Jl1 (i := 3) sc_River_place_of.nd rfl (Or.inl rfl)) Jnb)))
    case f2_4 =>
     refine' Jkr ?s3
     case s3 =>
      refine' Jle ?c4 ?a4 ?b4
      case c4 =>
       exact (Jlv Jo5 (Jlg (pv 3) (by rfl)) (pv 1) (Jli _))
      case a4 =>
       refine' Jkr ?s5
       case s5 =>
        exact (Jl0 (pv 2))
      case b4 =>
       exact Jl2
   case r1 =>
    refine' Jkr ?s9
    case s9 =>
     exact (Jl0 Jmv)
  obtain ⟨dx, b, t, os, ts, ho, hb, bl, ht, tl, n1, n2, n3⟩ := ro
  have len := bl.len
  refine ⟨_, rfl, o, _, dx, _, _, rfl, ho, T.Jef, T.Jek, rfl, b, rfl, ⟨_, SqT.of hb⟩, ?_⟩
  refine Jyt (xs := os.map V.ref) (fun i σ H' => (∃ o1 o2, σ = [some (.ref o), some (.str z), o1, o2]) ∧ Same H H' ∧ ∀ j, j < i → ∀ B, S.Bs[j]? = some B → B.z ≠ z) ⟨⟨_, _, rfl⟩, Same.refl _, fun j hj => absurd hj (Nat.not_lt_zero j)⟩ (fun i σ H' _ ⟨_, sm, _⟩ => SqT.of (sm _ _ hb)) ?_ ?_
  ·rintro i x σ H' Ta hx ⟨⟨o1, o2, rfl⟩, sm, no⟩ hT
   obtain ⟨ob, B, rfl, hB, dxb, hob, gs⟩ := (bl.same sm).get hx
   have sT := Same.upd (o := .tup [.int i, .ref ob]) hT
   refine ⟨Ta, _, rfl, SqT.of Jko, rfl, _, _, rfl, _, _, rfl, rfl, ?_⟩
   refine ⟨_, rfl, ob, _, dxb, _, _, rfl, sT _ _ hob, T.Je0, T.Je3, rfl, _, rfl, rfl, _, rfl, ?_⟩
   by_cases e : B.z = z
   ·refine ifT (by simp [e]) ⟨_, rfl, ?_⟩
    have ei : plc S z = i := by
     refine Jyy (by rw [List.getElem?_map, hB, ← e]; rfl) fun j hj z' => ?_
     rw [List.getElem?_map] at z'
     obtain ⟨B', hB', ez⟩ := Option.map_eq_some_iff.mp z'
     exact no j hj B' hB' ez
    have k' := k _ (sm.trans sT)
    rw [ei] at k'
    exact k'
   ·refine ifF (by simp [e]) ⟨⟨_, _, rfl⟩, sm.trans sT, fun j hj B' hB' => ?_⟩
    by_cases ej : j = i
    ·subst ej
     rw [hB] at hB'
     cases hB'
     exact e
    ·exact no j (by omega) B' hB'
  ·rintro σ H' ⟨_, sm, no⟩
   exfalso
   have hm : (S.Bs.map (·.z)).idxOf z < (S.Bs.map (·.z)).length := List.idxOf_lt_length_of_mem hz
   have hj : (S.Bs.map (·.z)).idxOf z < S.Bs.length := by rw [List.length_map] at hm; exact hm
   have g := List.getElem_idxOf hm
   rw [List.getElem_map] at g
   exact no _ (by rw [List.length_map, len]; exact hj) _ (List.getElem?_eq_getElem hj) g
theorem Jp5 : Jky ["river", "town"] ["river", "town"] (Jkt (top 28)) := ⟨rfl, rfl, rfl, by decide +kernel, rfl, by decide +kernel, by decide +kernel⟩
theorem Jn6 (T : Tx K mg a) : FnOk P w K mg base CX0 2 a.Jgu a.Jgv ["river", "town"] (Yaa K a) := by
 refine T.Jb.fn.ok Jp5 (fun vs H Q E h => ?_) (fun cdv A outer s H vs Q E hr h => ?_)
 ·obtain ⟨o, S, t, W, rfl, _⟩ := h
  rfl
 ·obtain ⟨o, S, t, W, rfl, ro, ti, h0, hW, k⟩ := h
  refine ⟨?t, ?B, ?C⟩
  case B =>
   refine' Jkr ?s1
   case s1 =>
    exact (Jl0 (Jpw (pv 0) hr (Jkn (Jlg (Jl7 Jlb (Jlg (pv 0) (by rfl)) (pv 1) (fun _ _ => rfl)) (by rfl)) Jkp)))
  obtain ⟨dx, b, tt, os, ts, ho, hb, bl, ht, tl, n1, n2, n3⟩ := id ro
  obtain ⟨ow, how, dw, hw⟩ := tl.at hW
  obtain ⟨i, rfl⟩ := Int.eq_ofNat_of_zero_le h0
  have hat : atI (ts.map V.ref) (i : Int) = some (.ref ow) := Jox (by rw [List.getElem?_map]; simp at how; rw [how]; rfl)
  refine ⟨_, rfl, o, _, dx, _, _, _, _, _, 1, rfl, ho, rfl, T.Jef, T.Jeh, Jpt T, by decide, T.Jcc.bd, ?_⟩
  refine ⟨_, rfl, o, _, dx, _, _, rfl, ho, T.Jef, T.Jel, rfl, _, rfl, tt, _, _, _, rfl, rfl, SqT.of ht, hat, ow, _, dw, _, _, rfl, hw, T.Je9, T.Jed, rfl, o, S, W.b, rfl, ro, (ti W (List.mem_of_getElem? hW)).1, k⟩
def drw (S : Riv) (ls : List Int) : V → Int
 | .int t => match S.Ts[t.toNat]? with
  | some T => if ls.getD (plc S T.b) 0 ≥ T.wt then T.wt else 0
  | none => 0
 | _ => 0
def TwnIn (S : Riv) (v : V) : Prop := v = .non ∨ ∃ j : Int, v = .int j ∧ 0 ≤ j ∧ j < S.Ts.length
def StA (H : Hp) (x : V) (S : Riv) (ls : List Int) (wt : Int) : Prop := ∃ y u : Addr, x = .ref y ∧ H y = some (.tup [.ref u, .int wt]) ∧ H u = some (.tup (ls.map V.int)) ∧ ls.length = S.Bs.length
def ChA (H : Hp) (x : V) (S : Riv) (cs : List Int) (tv : V) : Prop := ∃ y u : Addr, x = .ref y ∧ H y = some (.tup [.ref u, tv]) ∧ H u = some (.tup (cs.map V.int)) ∧ cs.length = S.Bs.length ∧ TwnIn S tv
theorem StA.same {H H' : Hp} {x : V} {S : Riv} {ls : List Int} {wt : Int} (s : Same H H') (h : StA H x S ls wt) : StA H' x S ls wt := let ⟨y, u, e, h1, h2, h3⟩ := h; ⟨y, u, e, s _ _ h1, s _ _ h2, h3⟩
theorem ChA.same {H H' : Hp} {x : V} {S : Riv} {cs : List Int} {tv : V} (s : Same H H') (h : ChA H x S cs tv) : ChA H' x S cs tv := let ⟨y, u, e, h1, h2, h3⟩ := h; ⟨y, u, e, s _ _ h1, s _ _ h2, h3⟩
theorem Jzc {S : Riv} {z : Str} (h : z ∈ S.Bs.map (·.z)) : plc S z < S.Bs.length := by
 have hm : (S.Bs.map (·.z)).idxOf z < (S.Bs.map (·.z)).length := List.idxOf_lt_length_of_mem h
 rw [List.length_map] at hm
 exact hm
theorem Jtk {ns : List Int} {i : Nat} (h : i < ns.length) : atI (ns.map V.int) (i : Int) = some (.int (ns.getD i 0)) := by
 have e : ns.getD i 0 = ns[i] := by simp [List.getD_eq_getElem?_getD, h]
 rw [e]
 exact Jps h
def spDraw (K : W.Frag) (a : Ad) : Sp := fun vs H Q _ => ∃ (o : Addr) (S : Riv) (x c : V) (ls cs : List Int) (wt : Int) (tv : V), vs = [.ref o, x, c] ∧ RivAt K a H o S ∧ TIn S ∧ StA H x S ls wt ∧ ChA H c S cs tv ∧ ∀ H', Same H H' → Q (.int (drw S ls tv)) H'
theorem sc_draw : Jky ["river", "standing", "choice", "town", "want"] ["river", "standing", "choice"] (Jkt (top 29)) := ⟨rfl, rfl, rfl, by decide +kernel, rfl, by decide +kernel, by decide +kernel⟩
theorem Jx2 (T : Tx K mg a) : FnOk P w K mg base CX0 3 a.Jgw a.Jgx ["river", "standing", "choice"] (spDraw K a) := by
 have G_place_drawn_from := Jn6 (P := P) (w := w) (base := base) T
 refine T.Jc.fn.ok sc_draw (fun vs H Q E h => ?_) (fun cdv A outer s H vs Q E hr h => ?_)
 ·obtain ⟨o, S, x, c, ls, cs, wt, tv, rfl, _⟩ := h
  rfl
 ·obtain ⟨o, S, x, c, ls, cs, wt, tv, rfl, ro, ti, ⟨y, u, rfl, hy, hu, lu⟩, ⟨z, v, rfl, hz, hv, lv, tw⟩, k⟩ := h
  refine ⟨?t, ?B, ?C⟩
  case B =>
   refine' Jkq ?s1 ?r1
   case s1 =>
    exact (Jl3 (i := 3) sc_draw.nd rfl (Or.inl rfl) (Jl7 Jlb (pv 2) Jks (fun _ _ => rfl)))
   case r1 =>
    refine' Jkq ?s3 ?r3
    case s3 =>
     refine' Jle ?c4 ?a4 ?b4
     case c4 =>
      exact (Jlv Jqm (pv 3) Jmv (Jli _))
     case a4 =>
      refine' Jkr ?s5
      case s5 =>
       exact (Jl0 Jks)
     case b4 =>
      exact Jl2
    case r3 =>
     refine' Jkq ?s9 ?r9
     case s9 =>
      exact (Jl3 (i := 4) sc_draw.nd rfl (Or.inl rfl) (Jlg (Jl7 Jlb (Jlg (pv 0) (by rfl)) (pv 3) (fun _ _ => rfl)) (by rfl)))
     case r9 =>
      refine' Jkr ?s11
      case s11 =>
       exact (Jl0 (Jz8 (Jlv op_ge (Jl7 Jlb (Jl7 Jlb (pv 1) Jks (fun _ _ => rfl)) (Jku T.Jb G_place_drawn_from hr (by decide) (Jkn (pv 0) (Jkn (pv 3) Jkp))) (fun _ _ => rfl)) (pv 4) (Jli _)) (pv 4) Jks))
  obtain ⟨dx, b, tt, os, ts, ho, hb, bl, ht, tl, n1, n2, n3⟩ := id ro
  refine ⟨_, rfl, z, _, 1, tv, rfl, rfl, SqT.of hz, rfl, ?_⟩
  rcases tw with rfl | ⟨j, rfl, j0, j1⟩
  ·exact ⟨_, rfl, rfl, _, rfl, Jvs rfl (k _ fun _ _ h => h)⟩
  ·obtain ⟨i, rfl⟩ := Int.eq_ofNat_of_zero_le j0
   have hi : i < S.Ts.length := by omega
   obtain ⟨ow, how, dw, hw⟩ := tl.at (i := i) (B := S.Ts[i]) (List.getElem?_eq_getElem hi)
   have hat : atI (ts.map V.ref) (i : Int) = some (.ref ow) := Jox (by rw [List.getElem?_map, how]; rfl)
   have pin := (ti _ (List.getElem_mem hi)).1
   have pl := Jzc pin
   have e : drw S ls (.int (i : Int)) = if ls.getD (plc S S.Ts[i].b) 0 ≥ S.Ts[i].wt then S.Ts[i].wt else 0 := by
    show (match S.Ts[(i : Int).toNat]? with | some T => _ | none => _) = _
    rw [Int.toNat_natCast, List.getElem?_eq_getElem hi]
   rw [e] at k
   refine ⟨_, rfl, rfl, _, rfl, Jv2 (fun z => by cases z) ?_⟩
   refine ⟨_, rfl, o, _, dx, _, _, rfl, ho, T.Jef, T.Jel, rfl, _, rfl, tt, _, _, _, rfl, rfl, SqT.of ht, hat, ow, _, dw, _, _, rfl, hw, T.Je9, T.Jee, rfl, ?_⟩
   refine ⟨_, rfl, y, _, 0, _, rfl, rfl, SqT.of hy, rfl, _, rfl, _, rfl, o, S, (i : Int), S.Ts[i], rfl, ro, ti, j0, (by simp [hi]), fun H1 s1 => ?_⟩
   refine ⟨u, _, _, _, rfl, rfl, SqT.of (s1 _ _ hu), Jtk (by omega), _, rfl, _, _, rfl, rfl, _, rfl, ?_⟩
   by_cases q : S.Ts[i].wt ≤ ls.getD (plc S S.Ts[i].b) 0
   ·have k' := k _ s1
    rw [if_pos q] at k'
    exact ifT (decide_eq_true q) ⟨_, rfl, k'⟩
   ·have k' := k _ s1
    rw [if_neg q] at k'
    exact ifF (decide_eq_false q) k'
def Jvb (S : Riv) : V → Nat
 | .int t => match S.Ts[t.toNat]? with
  | some T => plc S T.b
  | none => 0
 | _ => 0
def lft (S : Riv) (ls : List Int) (tv : V) : List Int := if drw S ls tv > 0 then ls.set (Jvb S tv) (ls.getD (Jvb S tv) 0 - drw S ls tv) else ls
def spLeft (K : W.Frag) (a : Ad) : Sp := fun vs H Q _ => ∃ (o : Addr) (S : Riv) (x c : V) (ls cs : List Int) (wt : Int) (tv : V), vs = [.ref o, x, c, .int (drw S ls tv)] ∧ RivAt K a H o S ∧ TIn S ∧ StA H x S ls wt ∧ ChA H c S cs tv ∧ ∀ l H', H l = none → Same H H' → H' l = some (.lst ((lft S ls tv).map V.int)) → Q (.ref l) H'
theorem sc_levels_left : Jky ["river", "standing", "choice", "drawn", "left"] ["river", "standing", "choice", "drawn"] (Jkt (top 31)) := ⟨rfl, rfl, rfl, by decide +kernel, rfl, by decide +kernel, by decide +kernel⟩
theorem Js5 (T : Tx K mg a) : FnOk P w K mg base CX0 3 a.Jh0 a.Jh1 ["river", "standing", "choice", "drawn"] (spLeft K a) := by
 have G_place_drawn_from := Jn6 (P := P) (w := w) (base := base) T
 refine T.Je.fn.ok sc_levels_left (fun vs H Q E h => ?_) (fun cdv A outer s H vs Q E hr h => ?_)
 ·obtain ⟨o, S, x, c, ls, cs, wt, tv, rfl, _⟩ := h
  rfl
 ·obtain ⟨o, S, x, c, ls, cs, wt, tv, rfl, ro, ti, ⟨y, u, rfl, hy, hu, lu⟩, ⟨z, v, rfl, hz, hv, lv, tw⟩, k⟩ := h
  refine ⟨?t, ?B, ?C⟩
  case B =>
   refine' Jkq ?s1 ?r1
   case s1 =>
    exact (Jl3 (i := 4) sc_levels_left.nd rfl (Or.inl rfl) (Jlf Jml (by rfl) T.Jas Jn8 (Jkn (Jl7 Jlb (pv 1) Jks (fun _ _ => rfl)) Jkp)))
   case r1 =>
    refine' Jkq ?s3 ?r3
    case s3 =>
     refine' Jle ?c4 ?a4 ?b4
     case c4 =>
      exact (Jlv Jv8 (pv 3) Jks (Jli _))
     case a4 =>
      refine' Jkr ?s5
      case s5 =>
       exact (Ya0 (pv 4) (Jku T.Jb G_place_drawn_from hr (by decide) (Jkn (pv 0) (Jkn (Jl7 Jlb (pv 2) Jks (fun _ _ => rfl)) Jkp))) Jyu (pv 3) ip_sub Jq3)
     case b4 =>
      exact Jl2
    case r3 =>
     refine' Jkr ?s8
     case s8 =>
      exact (Jl0 (pv 4))
  refine ⟨_, rfl, y, _, 0, _, rfl, rfl, SqT.of hy, rfl, u, _, rfl, .inr (SqT.of hu), fun l hl => ?_⟩
  have s1 := Same.upd (o := .lst (ls.map V.int)) hl
  refine ⟨_, rfl, _, _, rfl, rfl, _, rfl, ?_⟩
  by_cases hd : drw S ls tv > 0
  ·refine ifT (decide_eq_true hd) ?_
   obtain ⟨j, rfl, j0, j1⟩ : ∃ j : Int, tv = .int j ∧ 0 ≤ j ∧ j < S.Ts.length := by
    rcases tw with rfl | h
    ·exact absurd (show (0 : Int) > 0 from hd) (by decide)
    ·exact h
   obtain ⟨i, rfl⟩ := Int.eq_ofNat_of_zero_le j0
   have hi : i < S.Ts.length := by omega
   have pin := (ti _ (List.getElem_mem hi)).1
   have pl := Jzc pin
   have ep : Jvb S (.int (i : Int)) = plc S S.Ts[i].b := by
    show (match S.Ts[(i : Int).toNat]? with | some T => _ | none => _) = _
    rw [Int.toNat_natCast, List.getElem?_eq_getElem hi]
   refine ⟨_, rfl, _, rfl, _, rfl, z, _, 1, _, rfl, rfl, SqT.of (s1 _ _ hz), rfl, o, S, (i : Int), S.Ts[i], rfl, ro.same s1, ti, j0, (by simp [hi]), fun H1 s2 => ?_⟩
   have hl1 := s2 _ _ (Jko (H := H) (a := l) (o := .lst (ls.map V.int)))
   have pl' : plc S S.Ts[i].b < ls.length := by omega
   have hix : ixN (ls.map V.int).length ((plc S S.Ts[i].b : Nat) : Int) = some (plc S S.Ts[i].b) := by
    unfold ixN
    rw [if_pos (by omega), if_pos (by rw [List.length_map]; omega)]
    rfl
   refine ⟨l, _, _, _, rfl, rfl, SqL.of hl1, by omega, Jtk pl', _, rfl, _, _, rfl, rfl, l, _, _, _, rfl, rfl, hl1, hix, _, rfl, ?_⟩
   have e : lft S ls (.int (i : Int)) = ls.set (plc S S.Ts[i].b) (ls.getD (plc S S.Ts[i].b) 0 - drw S ls (.int (i : Int))) := by
    unfold lft
    rw [if_pos hd, ep]
   rw [e, List.map_set] at k
   exact k l _ hl (fun b o e => by rw [Jkv (Jkw e hl)]; exact (s1.trans s2) _ _ e) Jko
  ·refine ifF (decide_eq_false hd) ?_
   have e : lft S ls tv = ls := if_neg hd
   rw [e] at k
   exact ⟨_, rfl, k l _ hl s1 Jko⟩
end
def Js7 : List Jl9 → List Int → List Int → List Int
 | G :: Gs, c :: cs, l :: ls => lvG G c l :: Js7 Gs cs ls
 | _, _, _ => []
theorem Jqn : ∀ {Gs : List Jl9} {cs ls : List Int}, Gs.length = cs.length → cs.length = ls.length → (Js7 Gs cs ls).length = Gs.length
 | [], _, _, _, _ => rfl
 | _ :: _, [], _, e, _ => by simp at e
 | _ :: _, _ :: _, [], _, e => by simp at e
 | _ :: Gs, _ :: cs, _ :: ls, e1, e2 => by
  show (Js7 Gs cs ls).length + 1 = Gs.length + 1
  rw [Jqn (by simpa using e1) (by simpa using e2)]
theorem Jtt : ∀ {Gs : List Jl9} {cs ls : List Int} {i : Nat} {G : Jl9} {c l : Int}, Gs[i]? = some G → cs[i]? = some c → ls[i]? = some l → (Js7 Gs cs ls)[i]? = some (lvG G c l)
 | _ :: _, _ :: _, _ :: _, 0, _, _, _, h1, h2, h3 => by cases h1; cases h2; cases h3; rfl
 | _ :: Gs, _ :: cs, _ :: ls, i + 1, _, _, _, h1, h2, h3 => Jtt (Gs := Gs) (cs := cs) (ls := ls) (i := i) (by simpa using h1) (by simpa using h2) (by simpa using h3)
 | [], _, _, _, _, _, _, h, _, _ => by simp at h
 | _ :: _, [], _, _, _, _, _, _, h, _ => by simp at h
 | _ :: _, _ :: _, [], _, _, _, _, _, _, h => by simp at h
def SetsOk : List Jl9 → List Int → List Int → Prop
 | [], [], [] => True
 | G :: Gs, c :: cs, l :: ls => (GGood G ∧ (0 ≤ c ∧ c < (nOf G : Int)) ∧ (0 ≤ l ∧ l ≤ 1000)) ∧ SetsOk Gs cs ls
 | _, _, _ => False
theorem SetsOk.len : ∀ {Gs : List Jl9} {cs ls : List Int}, SetsOk Gs cs ls → Gs.length = cs.length ∧ cs.length = ls.length
 | [], [], [], _ => ⟨rfl, rfl⟩
 | _ :: Gs, _ :: cs, _ :: ls, ⟨_, t⟩ => by
  have := t.len
  simp
  omega
theorem SetsOk.get : ∀ {Gs : List Jl9} {cs ls : List Int} {i : Nat} {G : Jl9} {c l : Int}, SetsOk Gs cs ls → Gs[i]? = some G → cs[i]? = some c → ls[i]? = some l → GGood G ∧ (0 ≤ c ∧ c < (nOf G : Int)) ∧ (0 ≤ l ∧ l ≤ 1000)
 | _ :: _, _ :: _, _ :: _, 0, _, _, _, ⟨h, _⟩, h1, h2, h3 => by cases h1; cases h2; cases h3; exact h
 | _ :: Gs, _ :: cs, _ :: ls, i + 1, _, _, _, ⟨_, t⟩, h1, h2, h3 => t.get (i := i) (by simpa using h1) (by simpa using h2) (by simpa using h3)
 | [], [], [], _, _, _, _, _, h, _, _ => by simp at h
def spOuts (K : W.Frag) (a : Ad) : Sp := fun vs H Q _ => ∃ (o v l : Addr) (S : Riv) (Gs : List Jl9) (cs ls : List Int), vs = [.ref o, .ref v, .ref l] ∧ RivAt K a H o S ∧ GXL a H (S.Bs.map (·.g)) Gs ∧ SetsOk Gs cs ls ∧ S.Bs.length = Gs.length ∧ H v = some (.tup (cs.map V.int)) ∧ H l = some (.lst (ls.map V.int)) ∧ ∀ u H', Same H H' → H' u = some (.tup ((Js7 Gs cs ls).map V.int)) → Q (.ref u) H'
def Jvq : Int → List Int → List Int → List Int → List Int
 | g, l :: ls, o :: os, r :: rs => (l - o + g + r) :: Jvq o ls os rs
 | _, _, _, _ => []
theorem Jrh : ∀ {g : Int} {ls os rs : List Int}, ls.length = os.length → ls.length = rs.length → (Jvq g ls os rs).length = ls.length
 | _, [], _, _, _, _ => rfl
 | _, _ :: _, [], _, e, _ => by simp at e
 | _, _ :: _, _ :: _, [], _, e => by simp at e
 | _, _ :: ls, o :: os, _ :: rs, e1, e2 => by
  show (Jvq o ls os rs).length + 1 = ls.length + 1
  rw [Jrh (by simpa using e1) (by simpa using e2)]
theorem Jux : ∀ {g : Int} {ls os rs : List Int} {i : Nat} {l o f r : Int}, ls[i]? = some l → os[i]? = some o → (g :: os)[i]? = some f → rs[i]? = some r → (Jvq g ls os rs)[i]? = some (l - o + f + r)
 | _, _ :: _, _ :: _, _ :: _, 0, _, _, _, _, h1, h2, h3, h4 => by cases h1; cases h2; cases h3; cases h4; rfl
 | _, _ :: ls, o :: os, _ :: rs, i + 1, _, _, _, _, h1, h2, h3, h4 => Jux (g := o) (ls := ls) (os := os) (rs := rs) (i := i) (by simpa using h1) (by simpa using h2) (by simpa using h3) (by simpa using h4)
 | _, [], _, _, _, _, _, _, _, h, _, _, _ => by simp at h
 | _, _ :: _, [], _, _, _, _, _, _, _, h, _, _ => by simp at h
 | _, _ :: _, _ :: _, [], _, _, _, _, _, _, _, _, h => by simp at h
def Jzj : Sp := fun vs H Q _ => ∃ (l u r : Addr) (ls os rs : List Int), vs = [.ref l, .ref u, .ref r] ∧ H l = some (.lst (ls.map V.int)) ∧ H u = some (.tup (os.map V.int)) ∧ H r = some (.tup (rs.map V.int)) ∧ ls.length = os.length ∧ ls.length = rs.length ∧ (1 ≤ ls.length ∧ ls.length ≤ 16) ∧ ∀ w H', Same H H' → H' w = some (.tup ((Jvq 0 ls os rs).map V.int)) → Q (.ref w) H'
def Jnv : Nat → List Bsn → List Int → List Int
 | k, B :: Bs, l :: ls => if B.lo ≤ l ∧ l ≤ B.hi then Jnv (k + 1) Bs ls else (k : Int) :: Jnv (k + 1) Bs ls
 | _, _, _ => []
theorem Jtd : ∀ {k : Nat} {Bs : List Bsn} {ls : List Int} {B : Bsn} {l : Int}, Bs.length = ls.length → Jnv k (Bs ++ [B]) (ls ++ [l]) = Jnv k Bs ls ++ (if B.lo ≤ l ∧ l ≤ B.hi then [] else [((k + Bs.length : Nat) : Int)])
 | k, [], [], B, l, _ => by
  show (if B.lo ≤ l ∧ l ≤ B.hi then _ else _) = _
  split <;> rfl
 | _, [], _ :: _, _, _, e => by simp at e
 | _, _ :: _, [], _, _, e => by simp at e
 | k, B' :: Bs, l' :: ls, B, l, e => by
  have ih := Jtd (k := k + 1) (Bs := Bs) (ls := ls) (B := B) (l := l) (by simpa using e)
  have ek : k + 1 + Bs.length = k + (B' :: Bs).length := by rw [List.length_cons]; omega
  rw [ek] at ih
  show (if B'.lo ≤ l' ∧ l' ≤ B'.hi then Jnv (k + 1) (Bs ++ [B]) (ls ++ [l]) else (k : Int) :: Jnv (k + 1) (Bs ++ [B]) (ls ++ [l])) = (if B'.lo ≤ l' ∧ l' ≤ B'.hi then Jnv (k + 1) Bs ls else (k : Int) :: Jnv (k + 1) Bs ls) ++ _
  rw [ih]
  split <;> rfl
theorem Juy : ∀ {k : Nat} {Bs : List Bsn} {ls : List Int}, (Jnv k Bs ls).length ≤ Bs.length
 | _, [], _ => by simp [Jnv]
 | _, _ :: _, [] => by simp [Jnv]
 | k, B :: Bs, l :: ls => by
  have := Juy (k := k + 1) (Bs := Bs) (ls := ls)
  show (if B.lo ≤ l ∧ l ≤ B.hi then Jnv (k + 1) Bs ls else (k : Int) :: Jnv (k + 1) Bs ls).length ≤ _
  split <;> simp <;> omega
def Jzk (K : W.Frag) (a : Ad) : Sp := fun vs H Q _ => ∃ (o u : Addr) (S : Riv) (ls : List Int), vs = [.ref o, .ref u] ∧ RivAt K a H o S ∧ H u = some (.tup (ls.map V.int)) ∧ ls.length = S.Bs.length ∧ ∀ w H', Same H H' → H' w = some (.tup ((Jnv 0 S.Bs ls).map V.int)) → Q (.ref w) H'
section
variable {P : Program} {w : World} {K : W.Frag} {mg : Str → Option Value} {base : Heap} {a : Ad}
theorem GX.lets {H : Hp} {x : V} {G : Jl9} {s lv : Int} (T : Tx K mg a) (gg : GGood G) (gx : GX a H x G) (hs : 0 ≤ s ∧ s < (nOf G : Int)) (hl : 0 ≤ lv ∧ lv ≤ 1000) :
  ∃ o C dx fs f fd ps sp k', x = .ref o ∧ H o = some (.ins C dx fs) ∧ fs.lookup ("lets" : Str) = none ∧ Cls K C ∧ Jmr K C "lets" f ∧ FnOk P w K mg base CX0 k' f fd ps sp ∧ k' ≤ 3 ∧ Binds K fd ps [] ∧ ∀ Q : VK, Q (.int (lvG G s lv)) H → sp [x, .int s, .int lv] H Q E0 := by
 have sp : ∀ Q : VK, Q (.int (lvG G s lv)) H → Jzq a [x, .int s, .int lv] H Q E0 := fun Q k => ⟨x, G, s, lv, rfl, gx, gg, hs, hl, k⟩
 obtain ⟨g, ga, r⟩ := gx
 obtain ⟨dx, t, h1, h2⟩ := id ga
 cases e : G.sv with
 | none =>
  rw [e] at r
  subst r
  rcases gg.kd with q | q | q
  ·rw [q, show cOf a "step" = a.Jkg from if_pos rfl] at h1
   exact ⟨g, _, dx, _, _, _, _, _, 3, rfl, h1, rfl, T.Jd7, T.Jda, (Jna T).calm, by decide, T.Jbw.bd, sp⟩
  ·rw [q, show cOf a "flap" = a.Jkh by unfold cOf; rw [if_neg Jto, if_pos rfl]] at h1
   exact ⟨g, _, dx, _, _, _, _, _, 3, rfl, h1, rfl, T.Jde, T.Jdh, (Jna T).calm, by decide, T.Jbw.bd, sp⟩
  ·rw [q, show cOf a "part" = a.Jki by unfold cOf; rw [if_neg Jtq, if_neg Jtp]] at h1
   exact ⟨g, _, dx, _, _, _, _, _, 3, rfl, h1, rfl, T.Jdl, T.Jdo, (Jna T).calm, by decide, T.Jbw.bd, sp⟩
 | some j =>
  rw [e] at r
  obtain ⟨q, dq, rfl, r2⟩ := r
  exact ⟨q, _, dq, _, _, _, _, _, 3, rfl, r2, rfl, T.Jds, T.Jdv, (Jna T).calm, by decide, T.Jbw.bd, sp⟩
theorem Jwc : Jky ["river", "settings", "levels"] ["river", "settings", "levels"] (Jkt (top 32)) := ⟨rfl, rfl, rfl, by decide +kernel, rfl, by decide +kernel, by decide +kernel⟩
theorem Jw0 (T : Tx K mg a) : FnOk P w K mg base CX0 4 a.Jh2 a.Jh3 ["river", "settings", "levels"] (spOuts K a) := by
 refine T.Jf.fn.ok Jwc (fun vs H Q E h => ?_) (fun cdv A outer s H vs Q E hr h => ?_)
 ·obtain ⟨o, v, l, S, Gs, cs, ls, rfl, _⟩ := h
  rfl
 ·obtain ⟨o, v, l, S, Gs, cs, ls, rfl, ro, gxl, so, ln, hv, hl, k⟩ := h
  refine ⟨?t, ?B, ?C⟩
  case B =>
   refine' Jkr ?s1
   case s1 =>
    exact (Jl0 (Jlf Jlr (by rfl) T.Jaz Jm0 (Jkn (Jll (N := (["basin", "setting", "level"] : List Str)) (ini := [none, none, none]) rfl (Jx6 true true false (by rfl) T.Jb0 (Jkn (Jlg (pv 0) (by rfl)) (Jkn (pv 1) (Jkn (pv 2) Jkp)))) (fun _ _ _ _ _ => (Jpx (K := K) (n := 3) rfl rfl (Jla (Jl1 (i := 0) (by decide +kernel : (["basin", "setting", "level"] : List Str).Nodup) rfl (Or.inl rfl)) (Jla (Jl1 (i := 1) (by decide +kernel : (["basin", "setting", "level"] : List Str).Nodup) rfl (Or.inl rfl)) (Jla (Jl1 (i := 2) (by decide +kernel : (["basin", "setting", "level"] : List Str).Nodup) rfl (Or.inl rfl)) Jnb))))) (fun _ _ _ _ _ => Jlm) (fun _ _ _ _ _ => (Jxx (P := P) (w := w) (K := K) (mg := mg) (base := base) rfl rfl rfl rfl rfl (Jmt (K := K) rfl (pv 0) (by rfl)) hr (Jkn (pv 1) (Jkn (pv 2) Jkp))))) Jkp)))
  obtain ⟨dx, b, tt, os, ts, ho, hb, bl, ht, tl, n1, n2, n3⟩ := id ro
  have len := bl.len
  have sl := so.len
  refine ⟨_, rfl, o, _, dx, _, _, rfl, ho, T.Jef, T.Jek, rfl, _, rfl, _, rfl, b, v, l, rfl, ⟨_, SqT.of hb⟩, ⟨_, SqT.of hv⟩, ⟨_, SqL.of hl⟩, fun D hD => ?_⟩
  have s0 := Same.upd (o := .lst []) hD
  refine Jtg (K := K) (l1 := b) (l2 := v) (l3 := l) (b1 := true) (b2 := true) (b3 := false) (xs := os.map V.ref) (ys := cs.map V.int) (us := ls.map V.int) (D := D) (fun i σ H' => (∃ o1 o2 o3, σ = [o1, o2, o3]) ∧ H' D = some (.lst (((Js7 Gs cs ls).take i).map V.int)) ∧ Same H H') ⟨⟨_, _, _, rfl⟩, Jko, s0⟩ (fun i σ H' _ ⟨_, _, sm⟩ => ⟨SqT.of (sm _ _ hb), SqT.of (sm _ _ hv), SqL.of (sm _ _ hl)⟩) (by rw [List.length_map, List.length_map]; omega) (by rw [List.length_map, List.length_map]; omega) ?_ ?_
  ·rintro i x y u σ H' Ta hx hy hu ⟨⟨o1, o2, o3, rfl⟩, hDs, sm⟩ hT
   obtain ⟨ob, B, rfl, hB, dxb, hob, gs⟩ := (bl.same sm).get hx
   rw [List.getElem?_map] at hy hu
   obtain ⟨c, hc, rfl⟩ := Option.map_eq_some_iff.mp hy
   obtain ⟨lv, hlv, rfl⟩ := Option.map_eq_some_iff.mp hu
   obtain ⟨G, hG, gx⟩ := (gxl.same sm).get (i := i) (x := B.g) (by rw [List.getElem?_map, hB]; rfl)
   obtain ⟨gg, hs, hl'⟩ := so.get hG hc hlv
   have sT := Same.upd (o := .tup [.ref ob, .int c, .int lv]) hT
   have hi : i < os.length := by have := (List.getElem?_eq_some_iff.mp hx).1; rw [List.length_map] at this; exact this
   refine Y2 (SqT.of Jko) ⟨_, rfl, ob, _, dxb, _, _, rfl, sT _ _ hob, T.Je0, T.Je8, rfl, ?_⟩
   obtain ⟨q, C, dxq, fs, f, fd, ps, sp, k', eq, h1, h2, c', m, ok, hk, bd, hsp⟩ := GX.lets (P := P) (w := w) (base := base) T gg (gx.same sT) hs hl'
   refine ⟨q, C, dxq, fs, f, fd, ps, sp, k', eq, h1, h2, c', m, ok, hk, bd, _, rfl, _, rfl, hsp _ ⟨_, sT _ _ hDs, ?_, ⟨_, _, _, rfl⟩, ?_, ?_⟩⟩
   ·rw [List.length_map, List.length_take]
    exact Jlo (by omega)
   ·rw [Jko, List.take_add_one, Jtt hG hc hlv]
    simp
   ·intro c o z
    rw [Jkv (Jkw z hD)]
    exact sT _ _ (sm _ _ z)
  rintro σ H1 ⟨_, hDs, sm⟩
  rw [List.take_of_length_le (by rw [Jqn sl.1 sl.2, List.length_map]; omega)] at hDs
  exact ⟨D, _, rfl, .inl ⟨SqL.of hDs, fun u hu => k u _ (sm.trans (Same.upd hu)) Jko⟩⟩
theorem Jyn (xs : List V) (h : 1 ≤ xs.length) : Jp0 xs none (some (-1)) = xs.dropLast := by
 unfold Jp0
 rw [HT.sIx_none]
 have e : HT.sIx xs.length xs.length (some (-1)) = xs.length - 1 := by
  show (if (-1 : Int) < 0 then ((-1 : Int) + (xs.length : Int)).toNat else min (-1 : Int).toNat xs.length) = _
  rw [if_pos (by decide)]
  omega
 rw [e, List.dropLast_eq_take]
 rfl
theorem Jrx {n : Nat} (h : 1 ≤ n) : ¬ (HT.sIx n 0 none = 0 ∧ HT.sIx n n (some (-1)) = n) := by
 have e : HT.sIx n n (some (-1)) = n - 1 := by
  show (if (-1 : Int) < 0 then ((-1 : Int) + (n : Int)).toNat else min (-1 : Int).toNat n) = _
  rw [if_pos (by decide)]
  omega
 rw [e]
 omega
theorem sc_levels_behind : Jky ["left", "outs", "rain", "from_above"] ["left", "outs", "rain"] (Jkt (top 33)) := ⟨rfl, rfl, rfl, by decide +kernel, rfl, by decide +kernel, by decide +kernel⟩
theorem Jql (T : Tx K mg a) : FnOk P w K mg base CX0 1 a.Jh4 a.Jh5 ["left", "outs", "rain"] Jzj := by
 refine T.Jg.fn.ok sc_levels_behind (fun vs H Q E h => ?_) (fun cdv A outer s H vs Q E hr h => ?_)
 ·obtain ⟨l, u, r, ls, os, rs, rfl, _⟩ := h
  rfl
 ·obtain ⟨l, u, r, ls, os, rs, rfl, hl, hu, hr0, e1, e2, n, k⟩ := h
  refine ⟨?t, ?B, ?C⟩
  case B =>
   refine' Jkq ?s1 ?r1
   case s1 =>
    exact (Jl3 (i := 3) sc_levels_behind.nd rfl (Or.inl rfl) (Jl5 Jrd (Jm8 (Jkn Jks Jkp)) (Jon Jwf (pv 1) Jpy (Jpz (pe_un Y5 Jks)))))
   case r1 =>
    refine' Jkr ?s3
    case s3 =>
     refine' Jl0 ?e5_0
     case e5_0 =>
      exact (Jlf Jlr (by rfl) T.Jaz Jm0 (Jkn (Jll (N := (["level", "out", "gained", "cubes"] : List Str)) (ini := [none, none, none, none]) rfl (Yy false true true true (by rfl) T.Jb0 (pa4 (pv 0) (pv 1) (pv 3) (pv 2))) (fun _ _ _ _ _ => (Jpx (K := K) (n := 4) rfl rfl (Jla (Jl1 (i := 0) (by decide +kernel : (["level", "out", "gained", "cubes"] : List Str).Nodup) rfl (Or.inl rfl)) (Jla (Jl1 (i := 1) (by decide +kernel : (["level", "out", "gained", "cubes"] : List Str).Nodup) rfl (Or.inl rfl)) (Jla (Jl1 (i := 2) (by decide +kernel : (["level", "out", "gained", "cubes"] : List Str).Nodup) rfl (Or.inl rfl)) (Jla (Jl1 (i := 3) (by decide +kernel : (["level", "out", "gained", "cubes"] : List Str).Nodup) rfl (Or.inl rfl)) Jnb)))))) (fun _ _ _ _ _ => Jlm) (fun _ _ _ _ _ => (Jl5 Jlk (Jl5 Jlk (Jl5 Jmd (pv 0) (pv 1)) (pv 2)) (pv 3)))) Jkp))
  refine ⟨(show 1 ≤ sizeLine by decide), fun q1 h1 => ?_⟩
  have s1 := Same.upd (o := .tup [.int 0]) h1
  refine ⟨_, rfl, _, rfl, _, rfl, u, _, rfl, SqT.of (s1 _ _ hu), Jrx (by rw [List.length_map]; omega), fun q2 h2 => ?_⟩
  rw [Jyn _ (by rw [List.length_map]; omega)]
  have s2 := Same.upd (o := .tup (os.map V.int).dropLast) h2
  refine ⟨q1, q2, _, _, rfl, rfl, s2 _ _ Jko, Jko, Jmo _ (by simp; omega), fun f H3 s3 hf => ?_⟩
  have s13 := (s1.trans s2).trans s3
  have ef : [V.int 0] ++ (os.map V.int).dropLast = ((0 : Int) :: os.dropLast).map V.int := by rw [List.map_cons, List.map_dropLast]; rfl
  rw [ef] at hf
  refine ⟨_, rfl, _, rfl, _, rfl, _, rfl, l, u, f, r, rfl, ⟨_, SqL.of (s13 _ _ hl)⟩, ⟨_, SqT.of (s13 _ _ hu)⟩, ⟨_, SqT.of hf⟩, ⟨_, SqT.of (s13 _ _ hr0)⟩, fun D hD => ?_⟩
  have s0 := Same.upd (o := .lst []) hD
  refine Jxn (K := K) (l1 := l) (l2 := u) (l3 := f) (l4 := r) (b1 := false) (b2 := true) (b3 := true) (b4 := true) (xs := ls.map V.int) (ys := os.map V.int) (us := ((0 : Int) :: os.dropLast).map V.int) (vs := rs.map V.int) (D := D) (fun i σ H' => (∃ o1 o2 o3 o4, σ = [o1, o2, o3, o4]) ∧ H' D = some (.lst (((Jvq 0 ls os rs).take i).map V.int)) ∧ Same H3 H') ⟨⟨_, _, _, _, rfl⟩, Jko, s0⟩ (fun i σ H' _ ⟨_, _, sm⟩ => ⟨SqL.of (sm _ _ (s13 _ _ hl)), SqT.of (sm _ _ (s13 _ _ hu)), SqT.of (sm _ _ hf), SqT.of (sm _ _ (s13 _ _ hr0))⟩) (by simp; omega) (by simp; omega) (by simp; omega) ?_ ?_
  ·rintro i x y z v σ H' Ta hx hy hz hv ⟨⟨o1, o2, o3, o4, rfl⟩, hDs, sm⟩ hT
   rw [List.getElem?_map] at hx hy hz hv
   obtain ⟨lv, hlv, rfl⟩ := Option.map_eq_some_iff.mp hx
   obtain ⟨ov, hov, rfl⟩ := Option.map_eq_some_iff.mp hy
   obtain ⟨fv, hfv, rfl⟩ := Option.map_eq_some_iff.mp hz
   obtain ⟨rv, hrv, rfl⟩ := Option.map_eq_some_iff.mp hv
   have hi : i < ls.length := (List.getElem?_eq_some_iff.mp hlv).1
   have hfv' : ((0 : Int) :: os)[i]? = some fv := by
    cases i with
    | zero => simpa using hfv
    | succ j =>
     have e : os.dropLast[j]? = some fv := by simpa using hfv
     rw [List.dropLast_eq_take, List.getElem?_take] at e
     split at e
     ·simpa using e
     ·cases e
   have sT := Same.upd (o := .tup [.int lv, .int ov, .int fv, .int rv]) hT
   refine turn4 (SqT.of Jko) ⟨_, rfl, _, rfl, _, _, rfl, rfl, _, rfl, _, _, rfl, rfl, _, rfl, _, _, rfl, rfl, _, sT _ _ hDs, ?_, ⟨_, _, _, _, rfl⟩, ?_, ?_⟩
   ·rw [List.length_map, List.length_take]
    exact Jlo (by omega)
   ·rw [Jko, List.take_add_one, Jux hlv hov hfv' hrv]
    simp
   ·intro c o z
    rw [Jkv (Jkw z hD)]
    exact sT _ _ (sm _ _ z)
  rintro σ H4 ⟨_, hDs, sm⟩
  rw [List.take_of_length_le (by rw [Jrh e1 e2, List.length_map]; omega)] at hDs
  exact ⟨D, _, rfl, .inl ⟨SqL.of hDs, fun q hq => k q _ ((s13.trans sm).trans (Same.upd hq)) Jko⟩⟩
theorem Jul : Jky ["river", "levels"] ["river", "levels"] (Jkt (top 34)) := ⟨rfl, rfl, rfl, by decide +kernel, rfl, by decide +kernel, by decide +kernel⟩
theorem Jub (T : Tx K mg a) : FnOk P w K mg base CX0 1 a.Jh6 a.Jh7 ["river", "levels"] (Jzk K a) := by
 refine T.Jh.fn.ok Jul (fun vs H Q E h => ?_) (fun cdv A outer s H vs Q E hr h => ?_)
 ·obtain ⟨o, u, S, ls, rfl, _⟩ := h
  rfl
 ·obtain ⟨o, u, S, ls, rfl, ro, hu, ln, k⟩ := h
  refine ⟨?t, ?B, ?C⟩
  case B =>
   refine' Jkr ?s1
   case s1 =>
    exact (Jl0 (Jlf Jlr (by rfl) T.Jaz Jm0 (Jkn (Jll (N := (["place", "basin", "levels"] : List Str)) (ini := [none, none, some 1]) rfl (Jva (by rfl) T.Jao (Jkn (Jlg (pv 0) (by rfl)) Jkp)) (fun _ _ _ _ _ => (Jpx (K := K) (n := 2) rfl rfl (Jla (Jl1 (i := 0) (by decide +kernel : (["place", "basin", "levels"] : List Str).Nodup) rfl (Or.inl rfl)) (Jla (Jl1 (i := 1) (by decide +kernel : (["place", "basin", "levels"] : List Str).Nodup) rfl (Or.inl rfl)) Jnb)))) (fun _ _ _ _ _ => (Yz (Jlc (Jsg Jo6 Jo6 (Jmt (K := K) rfl (pv 1) (by rfl)) (Jl7 (Joz (K := K) rfl) (pv 2) (pv 0) (fun _ _ => rfl)) (Jmt (K := K) rfl (pv 1) (by rfl)))))) (fun _ _ _ _ _ => (pv 0))) Jkp)))
  obtain ⟨dx, b, tt, os, ts, ho, hb, bl, ht, tl, n1, n2, n3⟩ := id ro
  have len := bl.len
  refine ⟨_, rfl, o, _, dx, _, _, rfl, ho, T.Jef, T.Jek, rfl, b, rfl, ⟨_, SqT.of hb⟩, fun D hD => ?_⟩
  have s0 := Same.upd (o := .lst []) hD
  refine Jxm (K := K) (a := b) (xs := os.map V.ref) (D := D) (fun i σ H' => (∃ o1 o2, σ = [o1, o2, some (.ref u)]) ∧ H' D = some (.lst ((Jnv 0 (S.Bs.take i) (ls.take i)).map V.int)) ∧ Same H H') ⟨⟨_, _, rfl⟩, Jko, s0⟩ (fun i σ H' _ ⟨_, _, sm⟩ => SqT.of (sm _ _ hb)) ?_ ?_
  ·rintro i x σ H' Ta hx ⟨⟨o1, o2, rfl⟩, hDs, sm⟩ hT
   obtain ⟨ob, B, rfl, hB, dxb, hob, gs⟩ := (bl.same sm).get hx
   have sT := Same.upd (o := .tup [.int i, .ref ob]) hT
   have hi : i < S.Bs.length := (List.getElem?_eq_some_iff.mp hB).1
   have hil : i < ls.length := by omega
   have hob' := sT _ _ hob
   have hu' := sT _ _ (sm _ _ hu)
   have nx : Jnv 0 (S.Bs.take (i + 1)) (ls.take (i + 1)) = Jnv 0 (S.Bs.take i) (ls.take i) ++ (if B.lo ≤ ls[i] ∧ ls[i] ≤ B.hi then [] else [(i : Int)]) := by
    have q := Jtd (k := 0) (Bs := S.Bs.take i) (ls := ls.take i) (B := B) (l := ls[i]) (by rw [List.length_take, List.length_take]; omega)
    rw [List.length_take, Nat.min_eq_left (by omega), Nat.zero_add] at q
    rw [List.take_add_one, hB, List.take_add_one, List.getElem?_eq_getElem hil]
    exact q
   refine ⟨Ta, _, rfl, SqT.of Jko, rfl, _, _, rfl, _, _, rfl, rfl, ?_⟩
   have bad : ¬ (B.lo ≤ ls[i] ∧ ls[i] ≤ B.hi) → ∃ vs, (upd H' Ta (.tup [.int i, .ref ob])) D = some (.lst vs) ∧ vs.length < sizeLine ∧ (∃ p1 p2, [some (V.int i), some (.ref ob), some (.ref u)] = [p1, p2, some (V.ref u)]) ∧ upd (upd H' Ta (.tup [.int i, .ref ob])) D (.lst (vs ++ [.int i])) D = some (.lst ((Jnv 0 (S.Bs.take (i + 1)) (ls.take (i + 1))).map V.int)) ∧ Same H (upd (upd H' Ta (.tup [.int i, .ref ob])) D (.lst (vs ++ [.int i]))) := fun q => by
    refine ⟨_, sT _ _ hDs, ?_, ⟨_, _, rfl⟩, ?_, ?_⟩
    ·have := Juy (k := 0) (Bs := S.Bs.take i) (ls := ls.take i)
     rw [List.length_take] at this
     rw [List.length_map]
     exact Jlo (by omega)
    ·rw [Jko, nx, if_neg q, List.map_append]
     rfl
    ·intro c o z
     rw [Jkv (Jkw z hD)]
     exact sT _ _ (sm _ _ z)
   refine ⟨_, rfl, ob, _, dxb, _, _, rfl, hob', T.Je0, T.Je4, rfl, _, rfl, _, rfl, u, _, _, _, rfl, rfl, SqT.of hu', Jps hil, _, _, rfl, rfl, _, rfl, ?_⟩
   by_cases h1 : B.lo ≤ ls[i]
   ·rw [decide_eq_true h1]
    refine Jlt ⟨_, rfl, ob, _, dxb, _, _, rfl, hob', T.Je0, T.Je5, rfl, _, _, rfl, rfl, _, rfl, ?_⟩
    by_cases h2 : ls[i] ≤ B.hi
    ·rw [decide_eq_true h2]
     refine Jlj ⟨⟨_, _, rfl⟩, ?_, sm.trans sT⟩
     rw [nx, if_pos ⟨h1, h2⟩, List.append_nil]
     exact sT _ _ hDs
    ·rw [decide_eq_false h2]
     exact Jlt ⟨_, rfl, bad fun z => h2 z.2⟩
   ·rw [decide_eq_false h1]
    exact Jlj ⟨_, rfl, Jlt ⟨_, rfl, bad fun z => h1 z.1⟩⟩
  rintro σ H1 ⟨_, hDs, sm⟩
  rw [List.take_of_length_le (by rw [List.length_map]; omega), List.take_of_length_le (by rw [List.length_map]; omega)] at hDs
  exact ⟨D, _, rfl, .inl ⟨SqL.of hDs, fun q hq => k q _ (sm.trans (Same.upd hq)) Jko⟩⟩
end
def trnF (c r : V) (d : Int) (u lv : Addr) (wt : Int) (q : Addr) : List (Str × V) := [("choice", c), ("rain", r), ("drawn", .int d), ("paid", .bl (decide (d > 0))), ("outs", .ref u), ("levels", .ref lv), ("wet", .int wt), ("broken", .ref q)]
structure TrnIn (K : W.Frag) (a : Ad) (H : Hp) (o : Addr) (S : Riv) (Gs : List Jl9) (x c : V) (ls cs : List Int) (wt : Int) (tv : V) (ra : Addr) (rn : List Int) : Prop where
 ro : RivAt K a H o S
 ti : TIn S
 gx : GXL a H (S.Bs.map (·.g)) Gs
 ln : S.Bs.length = Gs.length
 st : StA H x S ls wt
 ch : ChA H c S cs tv
 hr : H ra = some (.tup (rn.map V.int))
 rl : rn.length = S.Bs.length
 sm : Sml rn
 so : SetsOk Gs cs (lft S ls tv)
 n1 : 1 ≤ S.Bs.length
theorem TrnIn.same {K : W.Frag} {a : Ad} {H H' : Hp} {o : Addr} {S : Riv} {Gs : List Jl9} {x c : V} {ls cs : List Int} {wt : Int} {tv : V} {ra : Addr} {rn : List Int} (s : Same H H') (h : TrnIn K a H o S Gs x c ls cs wt tv ra rn) : TrnIn K a H' o S Gs x c ls cs wt tv ra rn :=
 ⟨h.ro.same s, h.ti, h.gx.same s, h.ln, h.st.same s, h.ch.same s, s _ _ h.hr, h.rl, h.sm, h.so, h.n1⟩
def Jtu (S : Riv) (Gs : List Jl9) (ls cs : List Int) (tv : V) : List Int := Js7 Gs cs (lft S ls tv)
def lvlT (S : Riv) (Gs : List Jl9) (ls cs : List Int) (tv : V) (rn : List Int) : List Int := Jvq 0 (lft S ls tv) (Jtu S Gs ls cs tv) rn
def wetT (S : Riv) (wt : Int) (rn : List Int) : Int := if S.c < wt - rn.sum + S.g then S.c else wt - rn.sum + S.g
def TrnAt (a : Ad) (H : Hp) (p : Addr) (c r : V) (S : Riv) (Gs : List Jl9) (ls cs : List Int) (wt : Int) (tv : V) (rn : List Int) : Prop := ∃ dx u lv q, H p = some (.ins a.Jke dx (trnF c r (drw S ls tv) u lv (wetT S wt rn) q)) ∧ H u = some (.tup ((Jtu S Gs ls cs tv).map V.int)) ∧ H lv = some (.tup ((lvlT S Gs ls cs tv rn).map V.int)) ∧ H q = some (.tup ((Jnv 0 S.Bs (lvlT S Gs ls cs tv rn)).map V.int))
def Yan (K : W.Frag) (a : Ad) : Sp := fun vs H Q _ => ∃ (p dx o ra : Addr) (H0 : Hp) (S : Riv) (Gs : List Jl9) (x c : V) (ls cs rn : List Int) (wt : Int) (tv : V), vs = [.ref p, .ref o, x, c, .ref ra] ∧ H0 p = none ∧ Same H0 H ∧ H p = some (.ins a.Jke dx []) ∧ TrnIn K a H0 o S Gs x c ls cs wt tv ra rn ∧ ∀ H', Same H0 H' → TrnAt a H' p c (.ref ra) S Gs ls cs wt tv rn → Q .non H'
theorem Jx0 {S : Riv} {ls : List Int} {tv : V} : (lft S ls tv).length = ls.length := by
 unfold lft
 split
 ·rw [List.length_set]
 ·rfl
def fs2 (c r : V) : List (Str × V) := [("choice", c), ("rain", r)]
def fs3 (c r : V) (d : Int) : List (Str × V) := [("choice", c), ("rain", r), ("drawn", .int d)]
def fs4 (c r : V) (d : Int) : List (Str × V) := [("choice", c), ("rain", r), ("drawn", .int d), ("paid", .bl (decide (d > 0)))]
def fs5 (c r : V) (d : Int) (u : Addr) : List (Str × V) := [("choice", c), ("rain", r), ("drawn", .int d), ("paid", .bl (decide (d > 0))), ("outs", .ref u)]
def fs6 (c r : V) (d : Int) (u lv : Addr) : List (Str × V) := [("choice", c), ("rain", r), ("drawn", .int d), ("paid", .bl (decide (d > 0))), ("outs", .ref u), ("levels", .ref lv)]
def fs7 (c r : V) (d : Int) (u lv : Addr) (wt : Int) : List (Str × V) := [("choice", c), ("rain", r), ("drawn", .int d), ("paid", .bl (decide (d > 0))), ("outs", .ref u), ("levels", .ref lv), ("wet", .int wt)]
theorem pf2 (c r : V) : Jm6 "rain" r (Jm6 "choice" c []) = fs2 c r := Jlq (show (["choice"] : List Str).contains "rain" = false by decide +kernel)
theorem pf3 (c r : V) (d : Int) : Jm6 "drawn" (.int d) (fs2 c r) = fs3 c r d := Jlq (show (["choice", "rain"] : List Str).contains "drawn" = false by decide +kernel)
theorem pf4 (c r : V) (d : Int) : Jm6 "paid" (.bl (decide (0 < d))) (fs3 c r d) = fs4 c r d := Jlq (show (["choice", "rain", "drawn"] : List Str).contains "paid" = false by decide +kernel)
theorem pf5 (c r : V) (d : Int) (u : Addr) : Jm6 "outs" (.ref u) (fs4 c r d) = fs5 c r d u := Jlq (show (["choice", "rain", "drawn", "paid"] : List Str).contains "outs" = false by decide +kernel)
theorem pf6 (c r : V) (d : Int) (u lv : Addr) : Jm6 "levels" (.ref lv) (fs5 c r d u) = fs6 c r d u lv := Jlq (show (["choice", "rain", "drawn", "paid", "outs"] : List Str).contains "levels" = false by decide +kernel)
theorem pf7 (c r : V) (d : Int) (u lv : Addr) (wt : Int) : Jm6 "wet" (.int wt) (fs6 c r d u lv) = fs7 c r d u lv wt := Jlq (show (["choice", "rain", "drawn", "paid", "outs", "levels"] : List Str).contains "wet" = false by decide +kernel)
theorem pf8 (c r : V) (d : Int) (u lv : Addr) (wt : Int) (q : Addr) : Jm6 "broken" (.ref q) (fs7 c r d u lv wt) = trnF c r d u lv wt q := Jlq (show (["choice", "rain", "drawn", "paid", "outs", "levels", "wet"] : List Str).contains "broken" = false by decide +kernel)
section
variable {P : Program} {w : World} {K : W.Frag} {mg : Str → Option Value} {base : Heap} {a : Ad}
theorem sc_Turn___init__ : Jky ["self", "river", "standing", "choice", "rain", "left"] ["self", "river", "standing", "choice", "rain"] (Jkt (Jkx (top 35) 0)) := ⟨rfl, rfl, rfl, by decide +kernel, rfl, by decide +kernel, by decide +kernel⟩
theorem Ju8 (T : Tx K mg a) : FnOk P w K mg base CX0 5 a.Jh8 a.Jh9 ["self", "river", "standing", "choice", "rain"] (Yan K a) := by
 have G_draw := Jx2 (P := P) (w := w) (base := base) T
 have G_levels_left := Js5 (P := P) (w := w) (base := base) T
 have G_outs_at := Jw0 (P := P) (w := w) (base := base) T
 have G_levels_behind := Jql (P := P) (w := w) (base := base) T
 have G_broken_at := Jub (P := P) (w := w) (base := base) T
 refine T.Jbv.fn.ok sc_Turn___init__ (fun vs H Q E h => ?_) (fun cdv A outer s H vs Q E hr h => ?_)
 ·obtain ⟨p, dx, o, ra, H0, S, Gs, x, c, ls, cs, rn, wt, tv, rfl, _⟩ := h
  rfl
 ·obtain ⟨p, dx, o, ra, H0, S, Gs, x, c, ls, cs, rn, wt, tv, rfl, np, s0, hp, ti, k⟩ := h
  refine ⟨?t, ?B, ?C⟩
  case B =>
   refine' Jkq ?s1 ?r1
   case s1 =>
    exact (Jlu (pv 0) (pv 3) rfl)
   case r1 =>
    refine' Jkq ?s3 ?r3
    case s3 =>
     exact (Jlu (pv 0) (pv 4) rfl)
    case r3 =>
     refine' Jkq ?s5 ?r5
     case s5 =>
      exact (Jlu (pv 0) (Jku T.Jc G_draw hr (by decide) (Jkn (pv 1) (Jkn (pv 2) (Jkn (pv 3) Jkp)))) rfl)
     case r5 =>
      refine' Jkq ?s7 ?r7
      case s7 =>
       exact (Jlu (pv 0) (Jmk Jv8 (Jlg (pv 0) (by rfl)) Jks (Jli _)) rfl)
      case r7 =>
       refine' Jkq ?s9 ?r9
       case s9 =>
        exact (Jl3 (i := 5) sc_Turn___init__.nd rfl (Or.inl rfl) (Jku T.Je G_levels_left hr (by decide) (pa4 (pv 1) (pv 2) (pv 3) (Jlg (pv 0) (by rfl)))))
       case r9 =>
        refine' Jkq ?s11 ?r11
        case s11 =>
         exact (Jlu (pv 0) (Jku T.Jf G_outs_at hr (by decide) (Jkn (pv 1) (Jkn (Jl7 Jlb (pv 3) Jks (fun _ _ => rfl)) (Jkn (pv 5) Jkp)))) rfl)
        case r11 =>
         refine' Jkq ?s13 ?r13
         case s13 =>
          exact (Jlu (pv 0) (Jku T.Jg G_levels_behind hr (by decide) (Jkn (pv 5) (Jkn (Jlg (pv 0) (by rfl)) (Jkn (pv 4) Jkp)))) rfl)
         case r13 =>
          refine' Jkq ?s15 ?r15
          case s15 =>
           exact (Jlu (pv 0) (Jkz (Jmy rfl) (by rfl) T.Jau Jpa (Jkn (Jl5 Jlk (Jl5 Jmd (Jl7 Jlb (pv 2) Jks (fun _ _ => rfl)) (Jkz (Jno rfl) (by rfl) T.Jay Jq9 (Jkn (pv 4) Jkp))) (Jlg (pv 1) (by rfl))) (Jkn (Jlg (pv 1) (by rfl)) Jkp))) rfl)
          case r15 =>
           refine' Jkr ?s17
           case s17 =>
            exact (Jlu (pv 0) (Jku T.Jh G_broken_at hr (by decide) (Jkn (pv 1) (Jkn (Jlg (pv 0) (by rfl)) Jkp))) rfl)
  have new : ∀ {Ha : Hp} {ob : HO}, Same H0 Ha → Same H0 (upd Ha p ob) := fun s b oo e => by rw [Jkv (Jkw e np)]; exact s _ _ e
  refine ⟨_, rfl, _, rfl, p, _, dx, [], rfl, hp, T.Jcx, T.Jcz, by simp, ?_⟩
  refine ⟨_, rfl, _, rfl, p, _, dx, _, rfl, Jko, T.Jcx, T.Jd0, by simp [Jm6], ?_⟩
  rw [Jmp, pf2]
  have h2 : Same H0 (upd H p (.ins a.Jke dx (fs2 c (.ref ra)))) := new s0
  have ti2 := ti.same h2
  refine ⟨_, rfl, _, rfl, _, rfl, o, S, x, c, ls, cs, wt, tv, rfl, ti2.ro, ti2.ti, ti2.st, ti2.ch, fun H3 s3 => ?_⟩
  have p3 := s3 _ _ (Jko (H := H) (a := p) (o := .ins a.Jke dx (fs2 c (.ref ra))))
  have h3 := h2.trans s3
  refine ⟨_, rfl, p, _, dx, _, rfl, p3, T.Jcx, T.Jd1, by simp [fs2], ?_⟩
  rw [pf3]
  refine ⟨_, rfl, p, _, dx, _, _, rfl, Jko, T.Jcx, T.Jd1, rfl, _, _, rfl, rfl, ?_⟩
  refine ⟨_, rfl, p, _, dx, _, rfl, Jko, T.Jcx, T.Jd2, by simp [fs3], ?_⟩
  rw [Jmp, pf4]
  have h4 : Same H0 (upd H3 p (.ins a.Jke dx (fs4 c (.ref ra) (drw S ls tv)))) := new h3
  have ti4 := ti.same h4
  refine ⟨_, rfl, _, rfl, _, rfl, _, rfl, p, _, dx, _, _, rfl, Jko, T.Jcx, T.Jd1, rfl, o, S, x, c, ls, cs, wt, tv, rfl, ti4.ro, ti4.ti, ti4.st, ti4.ch, fun l H5 hl0 s5 hl5 => ?_⟩
  have p5 := s5 _ _ (Jko (H := H3) (a := p) (o := .ins a.Jke dx (fs4 c (.ref ra) (drw S ls tv))))
  have h5 := h4.trans s5
  have ti5 := ti.same h5
  obtain ⟨y, yu, rfl, hy, hyu, ly⟩ := ti5.st
  obtain ⟨z, v, rfl, hz, hv, lc, tw⟩ := ti5.ch
  have sol := ti.so.len
  refine ⟨_, rfl, _, rfl, z, _, 0, _, rfl, rfl, SqT.of hz, rfl, _, rfl, o, v, l, S, Gs, cs, lft S ls tv, rfl, ti5.ro, ti5.gx, ti5.so, ti5.ln, hv, hl5, fun u H6 s6 hu6 => ?_⟩
  have p6 := s6 _ _ p5
  have np6 : ∀ {b : Addr} {ob : HO}, H6 b = some ob → (∀ C d fs, ob ≠ .ins C d fs) → b ≠ p := fun hb n e => by rw [e, p6] at hb; exact n _ _ _ (Option.some.inj hb).symm
  refine ⟨_, rfl, p, _, dx, _, rfl, p6, T.Jcx, T.Jd3, by simp [fs4], ?_⟩
  rw [pf5]
  have h6 : Same H0 (upd H6 p (.ins a.Jke dx (fs5 (.ref z) (.ref ra) (drw S ls tv) u))) := new (h5.trans s6)
  have ti6 := ti.same h6
  have u6 : (upd H6 p (.ins a.Jke dx (fs5 (.ref z) (.ref ra) (drw S ls tv) u))) u = some (.tup ((Jtu S Gs ls cs tv).map V.int)) := by rw [Jkv (np6 hu6 (fun _ _ _ z => by cases z))]; exact hu6
  have l6 : (upd H6 p (.ins a.Jke dx (fs5 (.ref z) (.ref ra) (drw S ls tv) u))) l = some (.lst ((lft S ls tv).map V.int)) := by rw [Jkv (np6 (s6 _ _ hl5) (fun _ _ _ z => by cases z))]; exact s6 _ _ hl5
  have n16 : S.Bs.length ≤ 16 := by obtain ⟨_, _, _, _, _, _, _, _, _, _, q, _⟩ := ti.ro; exact q
  have el : (lft S ls tv).length = S.Bs.length := by rw [Jx0]; exact ly
  have eo : (Jtu S Gs ls cs tv).length = S.Bs.length := by unfold Jtu; rw [Jqn sol.1 sol.2]; exact ti.ln.symm
  have rl := ti.rl
  have n1 := ti.n1
  refine ⟨_, rfl, _, rfl, p, _, dx, _, _, rfl, Jko, T.Jcx, T.Jd3, rfl, _, rfl, l, u, ra, _, _, rn, rfl, l6, u6, ti6.hr, by omega, by omega, by omega, fun lv H7 s7 hlv7 => ?_⟩
  have p7 := s7 _ _ (Jko (H := H6) (a := p) (o := .ins a.Jke dx (fs5 (.ref z) (.ref ra) (drw S ls tv) u)))
  have np7 : ∀ {b : Addr} {ob : HO}, H7 b = some ob → (∀ C d fs, ob ≠ .ins C d fs) → b ≠ p := fun hb n e => by rw [e, p7] at hb; exact n _ _ _ (Option.some.inj hb).symm
  refine ⟨_, rfl, p, _, dx, _, rfl, p7, T.Jcx, T.Jd4, by simp [fs5], ?_⟩
  rw [pf6]
  have h7 : Same H0 (upd H7 p (.ins a.Jke dx (fs6 (.ref z) (.ref ra) (drw S ls tv) u lv))) := new (h6.trans s7)
  have ti7 := ti.same h7
  obtain ⟨dxr, b, tt, os, ts, ho, hb, bl, ht, tl, m1, m2, m3⟩ := id ti7.ro
  obtain ⟨y7, yu7, ey, hy7, hyu7, ly7⟩ := ti7.st
  obtain rfl : y = y7 := V.ref.inj ey
  refine ⟨_, rfl, y, _, 1, _, rfl, rfl, SqT.of hy7, rfl, _, rfl, ra, rn, rfl, .inr (SqT.of ti7.hr), ti.sm, _, _, rfl, rfl, _, rfl, o, _, dxr, _, _, rfl, ho, T.Jef, T.Jej, rfl, _, _, rfl, rfl, _, rfl, o, _, dxr, _, _, rfl, ho, T.Jef, T.Jei, rfl, _, _, rfl, ?_⟩
  refine ⟨_, rfl, p, _, dx, _, rfl, Jko, T.Jcx, T.Jd5, by simp [fs6], ?_⟩
  rw [Jmp, pf7]
  have h8 : Same H0 (upd H7 p (.ins a.Jke dx (fs7 (.ref z) (.ref ra) (drw S ls tv) u lv (wetT S wt rn)))) := new (h6.trans s7)
  have ti8 := ti.same h8
  have lv8 : (upd H7 p (.ins a.Jke dx (fs7 (.ref z) (.ref ra) (drw S ls tv) u lv (wetT S wt rn)))) lv = some (.tup ((lvlT S Gs ls cs tv rn).map V.int)) := by rw [Jkv (np7 hlv7 (fun _ _ _ z => by cases z))]; exact hlv7
  have u8 : (upd H7 p (.ins a.Jke dx (fs7 (.ref z) (.ref ra) (drw S ls tv) u lv (wetT S wt rn)))) u = some (.tup ((Jtu S Gs ls cs tv).map V.int)) := by rw [Jkv (np7 (s7 _ _ u6) (fun _ _ _ z => by cases z))]; exact s7 _ _ u6
  have e8 : (lvlT S Gs ls cs tv rn).length = S.Bs.length := by unfold lvlT; rw [Jrh (by omega) (by omega)]; exact el
  refine ⟨_, rfl, _, rfl, p, _, dx, _, _, rfl, Jko, T.Jcx, T.Jd4, rfl, o, lv, S, _, rfl, ti8.ro, lv8, e8, fun q H9 s9 hq9 => ?_⟩
  have p9 := s9 _ _ (Jko (H := H7) (a := p) (o := .ins a.Jke dx (fs7 (.ref z) (.ref ra) (drw S ls tv) u lv (wetT S wt rn))))
  have np9 : ∀ {b : Addr} {ob : HO}, H9 b = some ob → (∀ C d fs, ob ≠ .ins C d fs) → b ≠ p := fun hb n e => by rw [e, p9] at hb; exact n _ _ _ (Option.some.inj hb).symm
  refine ⟨_, rfl, p, _, dx, _, rfl, p9, T.Jcx, T.Jd6, by simp [fs7], ?_⟩
  rw [pf8]
  have keep : ∀ {b : Addr} {ob ox : HO}, H9 b = some ob → (∀ C d fs, ob ≠ .ins C d fs) → upd H9 p ox b = some ob := fun hb n => by rw [Jkv (np9 hb n)]; exact hb
  exact k _ (new (h8.trans s9)) ⟨dx, u, lv, q, Jko, keep (s9 _ _ u8) (fun _ _ _ z => by cases z), keep (s9 _ _ lv8) (fun _ _ _ z => by cases z), keep hq9 (fun _ _ _ z => by cases z)⟩
end
theorem Y8 : ∀ {vs : List V} {ls hs : List Int}, vs.length = ls.length → ls.length = hs.length → (wl vs ls hs).all id = true → ∃ ns : List Int, vs = ns.map V.int ∧ ns.length = ls.length ∧ ∀ (i : Nat) (n l h : Int), ns[i]? = some n → ls[i]? = some l → hs[i]? = some h → l ≤ n ∧ n ≤ h
 | [], [], _, _, _, _ => ⟨[], rfl, rfl, fun i n l h e => by simp at e⟩
 | [], _ :: _, _, e, _, _ => by simp at e
 | _ :: _, [], _, e, _, _ => by simp at e
 | _ :: _, _ :: _, [], _, e, _ => by simp at e
 | v :: vs, l :: ls, h :: hs, e1, e2, a => by
  have a' : (Jl6 v l h && (wl vs ls hs).all id) = true := a
  rw [Bool.and_eq_true] at a'
  obtain ⟨ns, rfl, ln, q⟩ := Y8 (vs := vs) (ls := ls) (hs := hs) (by simpa using e1) (by simpa using e2) a'.2
  obtain ⟨i, rfl⟩ := Jnu a'.1
  have h2 : (decide (l ≤ i) && decide (i ≤ h)) = true := a'.1
  have h3 : l ≤ i ∧ i ≤ h := by simpa using h2
  refine ⟨i :: ns, rfl, by simp [ln], fun j n l' h' q1 q2 q3 => ?_⟩
  cases j with
  | zero => cases q1; cases q2; cases q3; exact h3
  | succ j => exact q j n l' h' (by simpa using q1) (by simpa using q2) (by simpa using q3)
theorem Juj {r : Option (List V)} {ls hs : List Int} (e : ls.length = hs.length) (h : Jo1 r ls hs = true) : ∃ ns : List Int, r = some (ns.map V.int) ∧ ns.length = ls.length ∧ ∀ (i : Nat) (n l h : Int), ns[i]? = some n → ls[i]? = some l → hs[i]? = some h → l ≤ n ∧ n ≤ h := by
 cases r with
 | none => cases h
 | some vs =>
  have h' : (decide (vs.length = ls.length) && (wl vs ls hs).all id) = true := h
  rw [Bool.and_eq_true, decide_eq_true_eq] at h'
  obtain ⟨ns, rfl, q⟩ := Y8 h'.1 e h'.2
  exact ⟨ns, rfl, q⟩
structure RvX (K : W.Frag) (a : Ad) (H : Hp) (o : Addr) (S : Riv) (Gs : List Jl9) : Prop where
 ro : RivAt K a H o S
 gx : GXL a H (S.Bs.map (·.g)) Gs
 ln : S.Bs.length = Gs.length
 ti : TIn S
 n1 : 1 ≤ S.Bs.length
 ok : ∀ (i : Nat) (B : Bsn) (G : Jl9), S.Bs[i]? = some B → Gs[i]? = some G → GGood G ∧ B.n = nOf G ∧ 0 ≤ B.lo ∧ B.hi ≤ 12
theorem RvX.same {K : W.Frag} {a : Ad} {H H' : Hp} {o : Addr} {S : Riv} {Gs : List Jl9} (s : Same H H') (h : RvX K a H o S Gs) : RvX K a H' o S Gs := ⟨h.ro.same s, h.gx.same s, h.ln, h.ti, h.n1, h.ok⟩
def LvIn (S : Riv) (ls : List Int) : Prop := ∀ (i : Nat) (n : Int) (B : Bsn), ls[i]? = some n → S.Bs[i]? = some B → B.lo ≤ n ∧ n ≤ B.hi
def CsIn (S : Riv) (cs : List Int) : Prop := ∀ (i : Nat) (n : Int) (B : Bsn), cs[i]? = some n → S.Bs[i]? = some B → 0 ≤ n ∧ n ≤ (B.n : Int) - 1
theorem st_is {K : W.Frag} {H : Hp} {x : V} {S : Riv} {q : Pr} (h : stB S q = true) (p : PrT K H x q) : ∃ (ls : List Int) (wt : Int), StA H x S ls wt ∧ LvIn S ls ∧ (0 ≤ wt ∧ wt ≤ S.c) ∧ Jq5 q = wt := by
 cases q with
 | no => cases h
 | oth => cases h
 | two u w r =>
  have h' : (Jl6 w 0 S.c && Jo1 r (S.Bs.map (·.lo)) (S.Bs.map (·.hi))) = true := h
  rw [Bool.and_eq_true] at h'
  obtain ⟨wt, rfl⟩ := Jnu h'.1
  have h2 : (decide (0 ≤ wt) && decide (wt ≤ S.c)) = true := h'.1
  obtain ⟨ls, rfl, ln, b⟩ := Juj (by simp) h'.2
  obtain ⟨y, rfl, hy, ⟨uu, rfl, hu, _, _⟩, _⟩ := p
  refine ⟨ls, wt, ⟨y, uu, rfl, hy, hu, by simpa using ln⟩, fun i n B e1 e2 => b i n B.lo B.hi e1 (by simp [e2]) (by simp [e2]), by simpa using h2, rfl⟩
theorem ch_is {K : W.Frag} {H : Hp} {x : V} {S : Riv} {q : Pr} (h : chB S q = true) (p : PrT K H x q) : ∃ (cs : List Int) (tv : V), ChA H x S cs tv ∧ CsIn S cs := by
 cases q with
 | no => cases h
 | oth => cases h
 | two u w r =>
  have h' : (Jr2 S.Ts.length w && Jo1 r (List.replicate S.Bs.length 0) (S.Bs.map fun B => (B.n : Int) - 1)) = true := h
  rw [Bool.and_eq_true] at h'
  obtain ⟨cs, rfl, ln, b⟩ := Juj (by simp) h'.2
  obtain ⟨y, rfl, hy, ⟨uu, rfl, hu, _, _⟩, tw⟩ := p
  have ln' : cs.length = S.Bs.length := by simpa using ln
  refine ⟨cs, w, ⟨y, uu, rfl, hy, hu, ln', ?_⟩, fun i n B e1 e2 => b i n 0 ((B.n : Int) - 1) e1 ?_ (by simp [e2])⟩
  ·by_cases hw : w = .non
   ·exact .inl hw
   ·have e : Jr2 S.Ts.length w = Jl6 w 0 ((S.Ts.length : Int) - 1) := by cases w <;> first | rfl | exact absurd rfl hw
    rw [e] at h'
    obtain ⟨j, rfl⟩ := Jnu h'.1
    have h2 : (decide (0 ≤ j) && decide (j ≤ (S.Ts.length : Int) - 1)) = true := h'.1
    have h3 : 0 ≤ j ∧ j ≤ (S.Ts.length : Int) - 1 := by simpa using h2
    exact .inr ⟨j, rfl, h3.1, by omega⟩
  ·have hi : i < S.Bs.length := (List.getElem?_eq_some_iff.mp e2).1
   simp [List.getElem?_replicate, hi]
theorem rn_is {K : W.Frag} {a : Ad} {H : Hp} {x : V} {o : Addr} {S : Riv} {wet : Int} {r : Option (List V)} (ro : RivAt K a H o S) (h : rnB S wet r = true) (p : RowT K H x r) : ∃ (ra : Addr) (rn : List Int), x = .ref ra ∧ H ra = some (.tup (rn.map V.int)) ∧ rn.length = S.Bs.length ∧ Sml rn := by
 obtain ⟨dx, b, t, os, ts, ho, hb, bl, ht, tl, n1, n2, n3⟩ := ro
 cases r with
 | none => cases h
 | some vs =>
  have h' : (Jo1 (some vs) (List.replicate S.Bs.length 0) (S.Bs.map (·.rn)) && (decide (Jqd S wet ≤ Jwi vs) && decide (Jwi vs ≤ wet))) = true := h
  rw [Bool.and_eq_true] at h'
  obtain ⟨ns, e, ln, q⟩ := Juj (by simp) h'.1
  cases e
  obtain ⟨_, ms, e', em, sm⟩ := Jvd h'.1 n1 n3
  cases e'
  have e2 : ns = ms := by
   have := congrArg (List.map Jtj) em
   simpa [List.map_map, Function.comp_def, Jtj] using this
  subst e2
  obtain ⟨ra, rfl, hr, _, _⟩ := p
  exact ⟨ra, ns, rfl, hr, by simpa using ln, sm⟩
theorem SetsOk.of : ∀ {Gs : List Jl9} {cs ls : List Int}, Gs.length = cs.length → cs.length = ls.length → (∀ (i : Nat) (G : Jl9) (c l : Int), Gs[i]? = some G → cs[i]? = some c → ls[i]? = some l → GGood G ∧ (0 ≤ c ∧ c < (nOf G : Int)) ∧ (0 ≤ l ∧ l ≤ 1000)) → SetsOk Gs cs ls
 | [], [], [], _, _, _ => True.intro
 | G :: Gs, c :: cs, l :: ls, e1, e2, h => ⟨h 0 G c l rfl rfl rfl, SetsOk.of (by simpa using e1) (by simpa using e2) fun i G c l q1 q2 q3 => h (i + 1) G c l (by simpa using q1) (by simpa using q2) (by simpa using q3)⟩
 | [], _ :: _, _, e, _, _ => by simp at e
 | _ :: _, [], _, e, _, _ => by simp at e
 | [], [], _ :: _, _, e, _ => by simp at e
 | _ :: _, _ :: _, [], _, e, _ => by simp at e
theorem drw_le {S : Riv} {ls : List Int} {tv : V} (ti : TIn S) : 0 ≤ drw S ls tv ∧ (drw S ls tv > 0 → drw S ls tv ≤ ls.getD (Jvb S tv) 0) := by
 cases tv with
 | int t =>
  show 0 ≤ (match S.Ts[t.toNat]? with | some T => if ls.getD (plc S T.b) 0 ≥ T.wt then T.wt else 0 | none => 0) ∧ ((match S.Ts[t.toNat]? with | some T => if ls.getD (plc S T.b) 0 ≥ T.wt then T.wt else 0 | none => 0) > 0 → (match S.Ts[t.toNat]? with | some T => if ls.getD (plc S T.b) 0 ≥ T.wt then T.wt else 0 | none => 0) ≤ ls.getD (match S.Ts[t.toNat]? with | some T => plc S T.b | none => 0) 0)
  cases e : S.Ts[t.toNat]? with
  | none => simp
  | some T =>
   have := ti T (List.mem_of_getElem? e)
   dsimp only
   split <;> omega
 | _ => exact ⟨Int.le_refl 0, fun h => absurd (show (0 : Int) > 0 from h) (by decide)⟩
theorem lft_in {S : Riv} {ls : List Int} {tv : V} (ti : TIn S) (h0 : ∀ n ∈ ls, 0 ≤ n ∧ n ≤ 12) : ∀ n ∈ lft S ls tv, 0 ≤ n ∧ n ≤ 12 := by
 have d := drw_le (ls := ls) (tv := tv) ti
 unfold lft
 split
 ·rename_i hd
  intro n hn
  rcases List.mem_or_eq_of_mem_set hn with h | h
  ·exact h0 n h
  ·by_cases hp : Jvb S tv < ls.length
   ·have e : ls.getD (Jvb S tv) 0 = ls[Jvb S tv] := by simp [List.getD_eq_getElem?_getD, hp]
    have := h0 _ (List.getElem_mem hp)
    rw [e] at h d
    have := d.2 hd
    omega
   ·have e : ls.getD (Jvb S tv) 0 = 0 := by simp [List.getD_eq_getElem?_getD, hp]
    rw [e] at d
    have := d.2 hd
    omega
 ·exact h0
theorem RvX.sets {K : W.Frag} {a : Ad} {H : Hp} {o : Addr} {S : Riv} {Gs : List Jl9} {ls cs : List Int} {tv : V} (h : RvX K a H o S Gs) (l1 : ls.length = S.Bs.length) (l2 : cs.length = S.Bs.length) (hl : LvIn S ls) (hc : CsIn S cs) : SetsOk Gs cs (lft S ls tv) := by
 have ln := h.ln
 have all : ∀ n ∈ ls, 0 ≤ n ∧ n ≤ 12 := fun n hn => by
  obtain ⟨i, hi⟩ := List.getElem?_of_mem hn
  have hi' : i < ls.length := (List.getElem?_eq_some_iff.mp hi).1
  have b := hl i n S.Bs[i] hi (List.getElem?_eq_getElem (by omega))
  have k := h.ok i S.Bs[i] (Gs[i]'(by omega)) (List.getElem?_eq_getElem (by omega)) (List.getElem?_eq_getElem (by omega))
  omega
 refine .of (by omega) (by rw [Jx0]; omega) fun i G c l q1 q2 q3 => ?_
 have hi : i < Gs.length := (List.getElem?_eq_some_iff.mp q1).1
 have k := h.ok i S.Bs[i] G (List.getElem?_eq_getElem (by omega)) q1
 have b := hc i c S.Bs[i] q2 (List.getElem?_eq_getElem (by omega))
 have f := lft_in (tv := tv) h.ti all l (List.mem_of_getElem? q3)
 exact ⟨k.1, by rw [← k.2.1]; omega, by omega⟩
def Juu (a : Ad) (S : Riv) (H : Hp) (x c : V) (q r : Pr) (E : XK) (k : Prop) : Prop := if stB S q = true then (if chB S r = true then k else ∀ cl eo H', RfC a.Jkb H H' c cl eo → E cl eo H') else ∀ cl eo H', RfC a.Jka H H' x cl eo → E cl eo H'
def spRefu (K : W.Frag) (a : Ad) : Sp := fun vs H Q E => ∃ (o : Addr) (S : Riv) (x c : V) (q r : Pr), vs = [.ref o, x, c] ∧ RivAt K a H o S ∧ PrT K H x q ∧ PrT K H c r ∧ Juu a S H x c q r E (∀ H', Same H H' → Q .non H')
def spPaid (K : W.Frag) (a : Ad) : Sp := fun vs H Q E => ∃ (o : Addr) (S : Riv) (Gs : List Jl9) (x c : V) (q r : Pr), vs = [.ref o, x, c] ∧ RvX K a H o S Gs ∧ PrT K H x q ∧ PrT K H c r ∧ Juu a S H x c q r E (∀ ls cs wt tv H', StA H x S ls wt → ChA H c S cs tv → Same H H' → Q (.bl (decide (drw S ls tv > 0))) H')
def Jzv (K : W.Frag) (a : Ad) : Sp := fun vs H Q E => ∃ (o : Addr) (S : Riv) (Gs : List Jl9) (x c y : V) (q r : Pr) (rr : Option (List V)), vs = [.ref o, x, c, y] ∧ RvX K a H o S Gs ∧ PrT K H x q ∧ PrT K H c r ∧ RowT K H y rr ∧ Juu a S H x c q r E (if rnB S (Jq5 q) rr = true then ∀ ls cs rn wt tv ra p H', StA H x S ls wt → ChA H c S cs tv → y = .ref ra → H ra = some (.tup (rn.map V.int)) → Same H H' → TrnAt a H' p c y S Gs ls cs wt tv rn → Q (.ref p) H' else ∀ cl eo H', RfC a.Jkc H H' y cl eo → E cl eo H')
section
variable {P : Program} {w : World} {K : W.Frag} {mg : Str → Option Value} {base : Heap} {a : Ad}
theorem Joq : Jky ["self", "thing"] ["self", "thing"] (Jkt (Jkx (top 10) 0)) := ⟨rfl, rfl, rfl, by decide +kernel, rfl, by decide +kernel, by decide +kernel⟩
theorem Jqg (T : Tx K mg a) : FnOk P w K mg base CX0 1 a.Jg2 a.Jg3 ["self", "thing"] (Jn2 K "thing") := by
 refine T.Jbs.fn.ok Joq (fun vs H Q E h => ?_) (fun cdv A outer s H vs Q E hr h => ?_)
 ·obtain ⟨e, C, W, fI, y, rfl, _⟩ := h
  rfl
 ·obtain ⟨e, C, W, fI, y, rfl, q, c, n, k⟩ := h
  refine ⟨_, (Jkr (Jn0 (pv 0) (pv 1) rfl)), ?_⟩
  exact ⟨_, rfl, _, rfl, e, C, W, fI, true, rfl, q, c, n, k⟩
theorem Jpk : Jky ["self", "thing"] ["self", "thing"] (Jkt (Jkx (top 11) 0)) := ⟨rfl, rfl, rfl, by decide +kernel, rfl, by decide +kernel, by decide +kernel⟩
theorem Jry (T : Tx K mg a) : FnOk P w K mg base CX0 1 a.Jg4 a.Jg5 ["self", "thing"] (Jn2 K "thing") := by
 refine T.Jbt.fn.ok Jpk (fun vs H Q E h => ?_) (fun cdv A outer s H vs Q E hr h => ?_)
 ·obtain ⟨e, C, W, fI, y, rfl, _⟩ := h
  rfl
 ·obtain ⟨e, C, W, fI, y, rfl, q, c, n, k⟩ := h
  refine ⟨_, (Jkr (Jn0 (pv 0) (pv 1) rfl)), ?_⟩
  exact ⟨_, rfl, _, rfl, e, C, W, fI, true, rfl, q, c, n, k⟩
theorem Jp6 : Jky ["river", "standing", "choice"] ["river", "standing", "choice"] (Jkt (top 27)) := ⟨rfl, rfl, rfl, by decide +kernel, rfl, by decide +kernel, by decide +kernel⟩
theorem Jn7 (T : Tx K mg a) : FnOk P w K mg base (CXX P w) 5 a.Jgs a.Jgt ["river", "standing", "choice"] (spRefu K a) := by
 have G_is_standing := Jnh (P := P) (w := w) (base := base) T
 have G_is_choice := Jpv (P := P) (w := w) (base := base) T
 have G_NoStanding___init__ := Jng (P := P) (w := w) (base := base) T
 have G_NoChoice___init__ := Jqg (P := P) (w := w) (base := base) T
 refine T.Ja.fn.okX Jp6 (fun vs H Q E h => ?_) (fun cdv A outer s H vs Q E hr h => ?_)
 ·obtain ⟨o, S, x, c, q, r, rfl, _⟩ := h
  rfl
 ·obtain ⟨o, S, x, c, q, r, rfl, ro, px, pc, k⟩ := h
  refine ⟨?t, ?B, ?C⟩
  case B =>
   refine' Jkq ?s1 ?r1
   case s1 =>
    refine' Jle ?c2 ?a2 ?b2
    case c2 =>
     exact (Jlc (Jld (Jku T.J6 G_is_standing hr (by decide) (Jkn (pv 0) (Jkn (pv 1) Jkp)))))
    case a2 =>
     refine' Jkr ?s3
     case s3 =>
      exact (Jln Jlp rfl (Jme T.Jcn G_NoStanding___init__ hr (by decide) T.Jbr.bd T.Jb8 (Jkn (pv 1) Jkp)))
    case b2 =>
     exact Jl2
   case r1 =>
    refine' Jkr ?s6
    case s6 =>
     refine' Jle ?c7 ?a7 ?b7
     case c7 =>
      exact (Jlc (Jld (Jku T.J7 G_is_choice hr (by decide) (Jkn (pv 0) (Jkn (pv 2) Jkp)))))
     case a7 =>
      refine' Jkr ?s8
      case s8 =>
       exact (Jln Jlp rfl (Jme T.Jcq G_NoChoice___init__ hr (by decide) T.Jbs.bd T.Jb9 (Jkn (pv 2) Jkp)))
     case b7 =>
      exact Jl2
  unfold Juu at k
  refine ⟨_, rfl, _, rfl, o, S, x, q, rfl, ro, px, fun H1 s1 => ⟨_, rfl, ?_⟩⟩
  cases es : stB S q with
  | false =>
   rw [es] at k
   exact Jlt (Jm9 T.Jcn T.Jcp rfl fun e dx h1 h2 h3 => k _ _ _ ((RfC.new h1 h2 h3).of s1))
  | true =>
   rw [if_pos es] at k
   refine Jlj ⟨_, rfl, _, rfl, o, S, c, r, rfl, ro.same s1, pc.same s1, fun H2 s2 => ⟨_, rfl, ?_⟩⟩
   have s12 := s1.trans s2
   cases ec : chB S r with
   | false =>
    rw [ec] at k
    exact Jlt (Jm9 T.Jcq T.Jcs rfl fun e dx h1 h2 h3 => k _ _ _ ((RfC.new h1 h2 h3).of s12))
   | true =>
    rw [if_pos ec] at k
    exact Jlj (k _ s12)
theorem Jwd : Jky ["river", "standing", "choice"] ["river", "standing", "choice"] (Jkt (top 30)) := ⟨rfl, rfl, rfl, by decide +kernel, rfl, by decide +kernel, by decide +kernel⟩
theorem Jw1 (T : Tx K mg a) : FnOk P w K mg base (CXX P w) 6 a.Jgy a.Jgz ["river", "standing", "choice"] (spPaid K a) := by
 have G_refuse_no_choice := Jn7 (P := P) (w := w) (base := base) T
 have G_draw := Jx2 (P := P) (w := w) (base := base) T
 refine T.Jd.fn.okX Jwd (fun vs H Q E h => ?_) (fun cdv A outer s H vs Q E hr h => ?_)
 ·obtain ⟨o, S, Gs, x, c, q, r, rfl, _⟩ := h
  rfl
 ·obtain ⟨o, S, Gs, x, c, q, r, rfl, rv, px, pc, k⟩ := h
  refine ⟨?t, ?B, ?C⟩
  case B =>
   refine' Jkq ?s1 ?r1
   case s1 =>
    exact (Jmu (Jmf T.Ja G_refuse_no_choice Jlp hr (by decide) (Jkn (pv 0) (Jkn (pv 1) (Jkn (pv 2) Jkp)))))
   case r1 =>
    refine' Jkr ?s3
    case s3 =>
     exact (Jl0 (Jmk Jv8 (Jku T.Jc G_draw hr (by decide) (Jkn (pv 0) (Jkn (pv 1) (Jkn (pv 2) Jkp)))) Jks (Jli _)))
  refine ⟨_, rfl, _, rfl, _, rfl, o, S, x, c, q, r, rfl, rv.ro, px, pc, ?_⟩
  unfold Juu at k ⊢
  cases es : stB S q with
  | false =>
   rw [es] at k
   exact k
  | true =>
   rw [if_pos es] at k
   rw [if_pos rfl]
   cases ec : chB S r with
   | false =>
    rw [ec] at k
    exact k
   | true =>
    rw [if_pos ec] at k
    rw [if_pos rfl]
    intro H1 s1
    obtain ⟨ls, wt, sa, _, _, _⟩ := st_is es px
    obtain ⟨cs, tv, ca, _⟩ := ch_is ec pc
    refine ⟨_, rfl, _, rfl, _, rfl, o, S, x, c, ls, cs, wt, tv, rfl, rv.ro.same s1, rv.ti, sa.same s1, ca.same s1, fun H2 s2 => ⟨_, _, rfl, rfl, ?_⟩⟩
    exact k ls cs wt tv _ sa ca (s1.trans s2)
theorem Jy1 : Jky ["river", "standing", "choice", "rain"] ["river", "standing", "choice", "rain"] (Jkt (top 36)) := ⟨rfl, rfl, rfl, by decide +kernel, rfl, by decide +kernel, by decide +kernel⟩
theorem Jxu (T : Tx K mg a) : FnOk P w K mg base (CXX P w) 7 a.Jha a.Jhb ["river", "standing", "choice", "rain"] (Jzv K a) := by
 have G_refuse_no_choice := Jn7 (P := P) (w := w) (base := base) T
 have G_is_rain := Js3 (P := P) (w := w) (base := base) T
 have G_NoRain___init__ := Jry (P := P) (w := w) (base := base) T
 have G_Turn___init__ := Ju8 (P := P) (w := w) (base := base) T
 refine T.Ji.fn.okX Jy1 (fun vs H Q E h => ?_) (fun cdv A outer s H vs Q E hr h => ?_)
 ·obtain ⟨o, S, Gs, x, c, y, q, r, rr, rfl, _⟩ := h
  rfl
 ·obtain ⟨o, S, Gs, x, c, y, q, r, rr, rfl, rv, px, pc, py, k⟩ := h
  refine ⟨?t, ?B, ?C⟩
  case B =>
   refine' Jkq ?s1 ?r1
   case s1 =>
    exact (Jmu (Jmf T.Ja G_refuse_no_choice Jlp hr (by decide) (Jkn (pv 0) (Jkn (pv 1) (Jkn (pv 2) Jkp)))))
   case r1 =>
    refine' Jkq ?s3 ?r3
    case s3 =>
     refine' Jle ?c4 ?a4 ?b4
     case c4 =>
      exact (Jlc (Jld (Jmf T.J9 G_is_rain Jlp hr (by decide) (Jkn (pv 0) (Jkn (pv 1) (Jkn (pv 3) Jkp))))))
     case a4 =>
      refine' Jkr ?s5
      case s5 =>
       exact (Jln Jlp rfl (Jme T.Jct G_NoRain___init__ hr (by decide) T.Jbt.bd T.Jba (Jkn (pv 3) Jkp)))
     case b4 =>
      exact Jl2
    case r3 =>
     refine' Jkr ?s8
     case s8 =>
      refine' Jl0 ?e10_0
      case e10_0 =>
       exact (Jnl T.Jcy G_Turn___init__ (hr.mono (by decide)) (by rfl) T.Jbc T.Jbv.bd .nil Jom (pa4 (pv 0) (pv 1) (pv 2) (pv 3)))
  refine ⟨_, rfl, _, rfl, _, rfl, o, S, x, c, q, r, rfl, rv.ro, px, pc, ?_⟩
  unfold Juu at k ⊢
  cases es : stB S q with
  | false =>
   rw [es] at k
   exact k
  | true =>
   rw [if_pos es] at k
   rw [if_pos rfl]
   cases ec : chB S r with
   | false =>
    rw [ec] at k
    exact k
   | true =>
    rw [if_pos ec] at k
    rw [if_pos rfl]
    intro H1 s1
    refine ⟨_, rfl, _, rfl, _, rfl, o, S, x, q, y, rr, rfl, rv.ro.same s1, px.same s1, py.same s1, ?_⟩
    rw [if_pos es]
    intro H2 s2
    have s12 := s1.trans s2
    refine ⟨_, rfl, ?_⟩
    cases er : rnB S (Jq5 q) rr with
    | false =>
     rw [er] at k
     exact Jlt (Jm9 T.Jct T.Jcv rfl fun e dx h1 h2 h3 => k _ _ _ ((RfC.new h1 h2 h3).of s12))
    | true =>
     rw [if_pos er] at k
     obtain ⟨ls, wt, sa, lvi, _, _⟩ := st_is es px
     obtain ⟨cs, tv, ca, csi⟩ := ch_is ec pc
     obtain ⟨ra, rn, rfl, hra, rl, sm⟩ := rn_is rv.ro er py
     refine Jlj ⟨_, rfl, _, rfl, _, rfl, _, rfl, fun p dx hp hd ne => ?_⟩
     have sn : Same H2 (upd (upd H2 dx (.own p)) p (.ins a.Jke dx [])) := fun b ob e => by rw [Jkv (Jkw e hp), Jkv (Jkw e hd)]; exact e
     have la : ls.length = S.Bs.length := by obtain ⟨_, _, _, _, _, z⟩ := sa; exact z
     have lc : cs.length = S.Bs.length := by obtain ⟨_, _, _, _, _, z, _⟩ := ca; exact z
     have rv2 := rv.same s12
     refine ⟨p, dx, o, ra, H2, S, Gs, x, c, ls, cs, rn, wt, tv, rfl, hp, sn, Jko, ⟨rv2.ro, rv2.ti, rv2.gx, rv2.ln, sa.same s12, ca.same s12, s12 _ _ hra, rl, sm, rv2.sets la lc lvi csi, rv2.n1⟩, fun H3 s3 ta => ⟨rfl, ?_⟩⟩
     exact k ls cs rn wt tv ra p H3 sa ca rfl hra (s12.trans s3) ta
end
section
variable {P : Program} {w : World} {K : W.Frag} {mg : Str → Option Value} {base : Heap} {a : Ad}
def LL (H H' : Hp) : Prop := ∀ b o, H b = some o → H' b = some o ∨ ((∃ xs, o = .lst xs) ∧ ∃ ys, H' b = some (.lst ys))
theorem LL.same {H H' : Hp} (s : Same H H') : LL H H' := fun b o e => .inl (s b o e)
theorem LL.but {p : Addr} {H H' : Hp} (st : Strm H p) (b : But p H H') : LL H H' := fun c o e => by
 by_cases z : c = p
 ·subst z
  obtain ⟨x, y, w', q⟩ := st
  obtain ⟨x', y', w'', q'⟩ := b.2
  rw [q] at e
  exact .inr ⟨⟨_, (Option.some.inj e).symm⟩, _, q'⟩
 ·exact .inl (b.1 c o z e)
theorem LL.trans {H1 H2 H3 : Hp} (a : LL H1 H2) (b : LL H2 H3) : LL H1 H3 := fun c o e => by
 rcases a c o e with h | ⟨⟨xs, rfl⟩, ys, h⟩
 ·exact b c o h
 ·rcases b c _ h with h' | ⟨_, zs, h'⟩
  ·exact .inr ⟨⟨xs, rfl⟩, ys, h'⟩
  ·exact .inr ⟨⟨xs, rfl⟩, zs, h'⟩
theorem LL.get {H H' : Hp} (s : LL H H') {b : Addr} {o : HO} (n : ∀ xs, o ≠ .lst xs) (e : H b = some o) : H' b = some o := by
 rcases s b o e with h | ⟨⟨xs, w'⟩, _⟩
 ·exact h
 ·exact absurd w' (n xs)
theorem Y4 {H H' : Hp} {x : V} {t : Value} (s : LL H H') (h : TyX K H x t) : TyX K H' x t := by
 cases h with
 | exc q qd c => exact .exc (s.get (by intro _ z; cases z) q) (s.get (by intro _ z; cases z) qd) c
 | of ty =>
  refine .of ?_
  cases ty with
  | non => exact .non
  | bl b => exact .bl b
  | int i => exact .int i
  | str z => exact .str z
  | flt z => exact .flt z
  | lst e =>
   rcases s _ _ e with h | ⟨_, ys, h⟩
   ·exact .lst h
   ·exact .lst h
  | frz e => exact .frz (s.get (by intro _ z; cases z) e)
  | tup e => exact .tup (s.get (by intro _ z; cases z) e)
  | dK e => exact .dK (s.get (by intro _ z; cases z) e)
  | dT e => exact .dT (s.get (by intro _ z; cases z) e)
  | ins e a b c d f => exact .ins (s.get (by intro _ z; cases z) e) a b c d f
theorem Jxb {H H' : Hp} {x : V} (s : LL H H') (h : Tm K H x) : Tm K H' x := by
 rcases h with h | ⟨t, ty, e⟩
 ·exact .inl h
 ·exact .inr ⟨t, Y4 s ty, e⟩
theorem cut_to (xs : List V) (k : Nat) (h : k ≤ xs.length) : Jp0 xs none (some (k : Int)) = xs.take k := by
 unfold Jp0
 rw [HT.sIx_none, HT.sIx_nat, Nat.min_eq_left h]
 rfl
theorem Jym (xs : List V) (k : Nat) (h : k ≤ xs.length) : Jp0 xs (some (k : Int)) none = xs.drop k := by
 unfold Jp0
 rw [HT.sIx_none, HT.sIx_nat, Nat.min_eq_left h, List.take_of_length_le (by rw [List.length_drop]; omega)]
theorem atI_in {xs : List V} {r : Int} (h0 : 0 ≤ r) (h1 : r < xs.length) : ∃ v, v ∈ xs ∧ atI xs r = some v := by
 obtain ⟨n, rfl⟩ := Int.eq_ofNat_of_zero_le h0
 have hn : n < xs.length := by omega
 exact ⟨xs[n], List.getElem_mem hn, Jox (List.getElem?_eq_getElem hn)⟩
end
section
variable {P : Program} {w : World} {K : W.Frag} {mg : Str → Option Value} {base : Heap} {a : Ad}
def AnyT (K : W.Frag) (H : Hp) (x : V) : Prop := (∃ r, RowT K H x r) ∧ (∃ q, PrT K H x q) ∧ Own H x
theorem Jnk {p : Addr} {H H' : Hp} (st : Strm H p) (b : But p H H') {c : Addr} {o : HO} (g : H c = some o) (n : ∀ x y z : Int, o ≠ .lst [.int x, .int y, .int z]) : H' c = some o := b.1 _ _ (Jmn st g n) g
theorem Jvo {H : Hp} {x : V} {t : Value} (h : TyX K H x t) (e : W.kitOne K t (.type "tuple") = some false) (o : Own H x) : AnyT K H x := ⟨⟨none, t, h, e⟩, ⟨.no, t, h, e⟩, o⟩
theorem Yv {H : Hp} {p : Addr} {vs : List V} (h : H p = some (.tup vs)) (n : ∀ v ∈ vs, Jv3 v) : Own H (.ref p) := .inr ⟨p, rfl, .inl ⟨vs, .inr h, n⟩⟩
theorem Yu {H : Hp} {p : Addr} {vs : List V} (h : H p = some (.lst vs)) (n : ∀ v ∈ vs, Jv3 v) : Own H (.ref p) := .inr ⟨p, rfl, .inl ⟨vs, .inl h, n⟩⟩
end
theorem Jxo (xs : List V) (k : Nat) (h : k + 1 ≤ xs.length) : Jp0 xs (some ((k : Int) + 1)) none = xs.drop (k + 1) := Jym xs (k + 1) h
theorem Ju6 {n k : Nat} (h : k < n) : ¬ (HT.sIx n 0 none = 0 ∧ HT.sIx n n (some (k : Int)) = n) := by
 rw [HT.sIx_none, HT.sIx_nat]
 omega
theorem Jrw {n k : Nat} (h : k < n) : ¬ (HT.sIx n 0 (some ((k : Int) + 1)) = 0 ∧ HT.sIx n n none = n) := by
 rw [HT.sIx_none, show ((k : Int) + 1) = ((k + 1 : Nat) : Int) from rfl, HT.sIx_nat]
 omega
theorem GS.ll {K : W.Frag} {a : Ad} {H H' : Hp} {x : V} {n : Nat} (s : LL H H') (h : GS K a H x n) : GS K a H' x n := by
 cases h with
 | plain i g l =>
  obtain ⟨dx, t, h1, h2⟩ := g
  exact .plain i ⟨dx, t, s.get (by intro _ z; cases z) h1, s.get (by intro _ z; cases z) h2⟩ l
 | stuck e => exact .stuck (s.get (by intro _ z; cases z) e)
theorem BasAt.ll {K : W.Frag} {a : Ad} {H H' : Hp} {b : Addr} {B : Bsn} (s : LL H H') (h : BasAt K a H b B) : BasAt K a H' b B := by
 obtain ⟨dx, h1, h2⟩ := h
 exact ⟨dx, s.get (by intro _ z; cases z) h1, h2.ll s⟩
theorem TwnAt.ll {a : Ad} {H H' : Hp} {b : Addr} {B : Twn} (s : LL H H') (h : TwnAt a H b B) : TwnAt a H' b B := by
 obtain ⟨dx, h1⟩ := h
 exact ⟨dx, s.get (by intro _ z; cases z) h1⟩
theorem RivAt.ll {K : W.Frag} {a : Ad} {H H' : Hp} {o : Addr} {R : Riv} (s : LL H H') (h : RivAt K a H o R) : RivAt K a H' o R := by
 obtain ⟨dx, b, t, os, ts, h1, h2, h3, h4, h5, h6⟩ := h
 exact ⟨dx, b, t, os, ts, s.get (by intro _ z; cases z) h1, s.get (by intro _ z; cases z) h2, h3.map fun _ _ h => h.ll s, s.get (by intro _ z; cases z) h4, h5.map fun _ _ h => h.ll s, h6⟩
theorem RowT.ll {K : W.Frag} {H H' : Hp} {x : V} (s : LL H H') : ∀ {r : Option (List V)}, RowT K H x r → RowT K H' x r
 | some _, ⟨p, e, h1, h2, h3⟩ => ⟨p, e, s.get (by intro _ z; cases z) h1, fun v hv => Jxb s (h2 v hv), h3⟩
 | none, ⟨t, h1, h2⟩ => ⟨t, Y4 s h1, h2⟩
theorem PrT.ll {K : W.Frag} {H H' : Hp} {x : V} (s : LL H H') : ∀ {r : Pr}, PrT K H x r → PrT K H' x r
 | .no, ⟨t, h1, h2⟩ => ⟨t, Y4 s h1, h2⟩
 | .oth _, ⟨p, e, h1, h2⟩ => ⟨p, e, s.get (by intro _ z; cases z) h1, h2⟩
 | .two _ _ _, ⟨p, e, h1, h2, h3⟩ => ⟨p, e, s.get (by intro _ z; cases z) h1, h2.ll s, Jxb s h3⟩
theorem Own.but {p : Addr} {H H' : Hp} {x : V} (st : Strm H p) (b : But p H H') (h : Own H x) : Own H' x := by
 rcases h with h | ⟨c, rfl, ⟨vs, h | h, hv⟩ | h | ⟨k, v, h⟩⟩
 ·exact .inl h
 ·by_cases z : c = p
  ·subst z
   obtain ⟨x, y, z, q⟩ := b.2
   refine .inr ⟨c, rfl, .inl ⟨_, .inl q, fun v hv => ?_⟩⟩
   simp only [List.mem_cons, List.not_mem_nil, or_false] at hv
   rcases hv with rfl | rfl | rfl <;> exact .inl rfl
  ·exact .inr ⟨c, rfl, .inl ⟨vs, .inl (b.1 _ _ z h), hv⟩⟩
 ·exact .inr ⟨c, rfl, .inl ⟨vs, .inr (Jnk st b h (by intro _ _ _ z; cases z)), hv⟩⟩
 ·exact .inr ⟨c, rfl, .inr (.inl (Jnk st b h (by intro _ _ _ z; cases z)))⟩
 ·exact .inr ⟨c, rfl, .inr (.inr ⟨k, v, Jnk st b h (by intro _ _ _ z; cases z)⟩)⟩
theorem Own.same {H H' : Hp} {x : V} (s : Same H H') (h : Own H x) : Own H' x := by
 rcases h with h | ⟨c, rfl, ⟨vs, h | h, hv⟩ | h | ⟨k, v, h⟩⟩
 ·exact .inl h
 ·exact .inr ⟨c, rfl, .inl ⟨vs, .inl (s _ _ h), hv⟩⟩
 ·exact .inr ⟨c, rfl, .inl ⟨vs, .inr (s _ _ h), hv⟩⟩
 ·exact .inr ⟨c, rfl, .inr (.inl (s _ _ h))⟩
 ·exact .inr ⟨c, rfl, .inr (.inr ⟨k, v, s _ _ h⟩)⟩
theorem Jz4 {α : Type} {R : Jmw} {S : Riv} (h : Like R S) (f : Str × Int × Int × Int × Int × Nat → α) : S.Bs.map (fun B => f (Jso B)) = R.Bs.map (fun B => f (Jvg B)) := by
 have e1 : S.Bs.map (fun B => f (Jso B)) = (S.Bs.map Jso).map f := by rw [List.map_map]; rfl
 have e2 : R.Bs.map (fun B => f (Jvg B)) = (R.Bs.map Jvg).map f := by rw [List.map_map]; rfl
 rw [e1, e2, h.Bs]
theorem Jz3 {R : Jmw} {S : Riv} (h : Like R S) : S.Bs.length = R.Bs.length := by
 have := congrArg List.length h.Bs
 simpa using this
def ElT (K : W.Frag) (H : Hp) (v : V) : Prop := Tm K H v ∧ Jv3 v ∧ ∃ r, RowT K H v r
theorem ElT.ll {K : W.Frag} {H H' : Hp} {v : V} (s : LL H H') (h : ElT K H v) : ElT K H' v := ⟨Jxb s h.1, h.2.1, let ⟨r, q⟩ := h.2.2; ⟨r, q.ll s⟩⟩
theorem ElT.int {K : W.Frag} {H : Hp} (n : Int) : ElT K H (.int n) := ⟨.inl ⟨n, rfl⟩, .inl rfl, none, _, .of (.int n), rfl⟩
theorem ElT.non {K : W.Frag} {H : Hp} : ElT K H .non := ⟨.inr ⟨_, .of .non, rfl⟩, .inl rfl, none, _, .of .non, rfl⟩
def AnyX (K : W.Frag) (H : Hp) (x : V) : Prop := AnyT K H x ∧ Tm K H x
theorem AnyX.el {K : W.Frag} {H : Hp} {x : V} (h : AnyX K H x) : ElT K H x := by
 refine ⟨h.2, ?_, h.1.1⟩
 rcases h.1.2.2 with q | ⟨a, q, _⟩
 ·exact .inl q
 ·exact .inr ⟨a, q⟩
theorem Jow {K : W.Frag} {H : Hp} {p : Addr} {vs : List V} (h : H p = some (.tup vs)) (el : ∀ v ∈ vs, ElT K H v) (ln : vs.length ≤ 40) : AnyX K H (.ref p) := by
 refine ⟨⟨⟨some vs, p, rfl, h, fun v hv => (el v hv).1, ln⟩, ?_, Yv h fun v hv => (el v hv).2.1⟩, .inr ⟨_, .of (.tup h), rfl⟩⟩
 match vs, h, el with
 | [u, w], h, el =>
  obtain ⟨r, q⟩ := (el u (by simp)).2.2
  exact ⟨.two u w r, p, rfl, h, q, (el w (by simp)).1⟩
 | [], h, _ => exact ⟨.oth _, p, rfl, h, by simp⟩
 | [_], h, _ => exact ⟨.oth _, p, rfl, h, by simp⟩
 | _ :: _ :: _ :: _, h, _ => exact ⟨.oth _, p, rfl, h, by simp⟩
theorem Jwp {K : W.Frag} {H : Hp} {p : Addr} {vs : List V} (h : H p = some (.lst vs)) (el : ∀ v ∈ vs, ElT K H v) : AnyX K H (.ref p) := ⟨Jvo (.of (.lst h)) rfl (Yu h fun v hv => (el v hv).2.1), .inr ⟨_, .of (.lst h), rfl⟩⟩
theorem AnyX.same {K : W.Frag} {H H' : Hp} {x : V} (s : Same H H') (h : AnyX K H x) : AnyX K H' x := by
 obtain ⟨⟨⟨r, q1⟩, ⟨q, q2⟩, o⟩, t⟩ := h
 exact ⟨⟨⟨r, q1.same s⟩, ⟨q, q2.same s⟩, Own.same s o⟩, t.same s⟩
theorem AnyX.but {K : W.Frag} {p : Addr} {H H' : Hp} {x : V} (st : Strm H p) (b : But p H H') (h : AnyX K H x) : AnyX K H' x := by
 obtain ⟨⟨⟨r, q1⟩, ⟨q, q2⟩, o⟩, t⟩ := h
 have s := LL.but st b
 exact ⟨⟨⟨r, q1.ll s⟩, ⟨q, q2.ll s⟩, Own.but st b o⟩, Jxb s t⟩
def Jzt (K : W.Frag) : Sp := fun vs H Q _ => ∃ (p t : Addr) (xs : List V), vs = [.ref p, .ref t] ∧ Strm H p ∧ H t = some (.tup xs) ∧ (∀ v ∈ xs, ElT K H v) ∧ (1 ≤ xs.length ∧ xs.length ≤ 16) ∧ ∀ (x : V) (H' : Hp), AnyX K H' x → But p H H' → Q x H'
section
variable {P : Program} {w : World} {K : W.Frag} {mg : Str → Option Value} {base : Heap} {a : Ad}
theorem odd8 {H : Hp} {l1 t1 : Addr} (g1 : H l1 = some (.lst [.int 1])) (g2 : H t1 = some (.tup [.int 0])) : ∀ v ∈ [V.non, .bl true, .int (-1), .int 13, .str "0", .int (10 ^ (30 : Int).toNat), .ref l1, .ref t1], ElT K H v := by
 intro v hv
 simp only [List.mem_cons, List.not_mem_nil, or_false] at hv
 rcases hv with rfl | rfl | rfl | rfl | rfl | rfl | rfl | rfl
 ·exact .non
 ·exact ⟨.inr ⟨_, .of (.bl _), rfl⟩, .inl rfl, none, _, .of (.bl _), rfl⟩
 ·exact .int _
 ·exact .int _
 ·exact ⟨.inr ⟨_, .of (.str _), rfl⟩, .inl rfl, none, _, .of (.str _), rfl⟩
 ·exact .int _
 ·exact (Jwp g1 (fun z hz => by rw [List.mem_singleton.mp hz]; exact .int 1)).el
 ·exact (Jow g2 (fun z hz => by rw [List.mem_singleton.mp hz]; exact .int 0) (by simp)).el
theorem sc_law_spoilt : Jky ["_law_stream_here", "_law_thing", "_law_way", "_law_at", "_law_odd"] ["_law_stream_here", "_law_thing"] (Jkt (top 79)) := ⟨rfl, rfl, rfl, by decide +kernel, rfl, by decide +kernel, by decide +kernel⟩
theorem Jp8 (T : Tx K mg a) : FnOk P w K mg base CX0 2 a.Jjg a.Jjh ["_law_stream_here", "_law_thing"] (Jzt K) := by
 have G__law_take := Jm4 (P := P) (w := w) (base := base) T
 refine T.Ja4.fn.ok sc_law_spoilt (fun vs H Q E h => ?_) (fun cdv A outer s H vs Q E hr h => ?_)
 ·obtain ⟨p, t, xs, rfl, _⟩ := h
  rfl
 ·obtain ⟨p, t, xs, rfl, st, ht, el, ln, k⟩ := h
  refine ⟨?t, ?B, ?C⟩
  case B =>
   refine' Jkq ?s1 ?r1
   case s1 =>
    exact (Jl3 (i := 2) sc_law_spoilt.nd rfl (Or.inl rfl) (Jku T.Jr G__law_take hr (by decide) (Jkn (pv 0) (Jkn Jks Jkp))))
   case r1 =>
    refine' Jkq ?s3 ?r3
    case s3 =>
     exact (Jl3 (i := 3) sc_law_spoilt.nd rfl (Or.inl rfl) (Jku T.Jr G__law_take hr (by decide) (Jkn (pv 0) (Jkn (Jkz Jl8 (by rfl) T.Jar Jmc (Jkn (pv 1) Jkp)) Jkp))))
    case r3 =>
     refine' Jkq ?s5 ?r5
     case s5 =>
      refine' Jle ?c6 ?a6 ?b6
      case c6 =>
       exact (Jlv Jx3 (pv 2) Jks (Jli _))
      case a6 =>
       refine' Jkr ?s7
       case s7 =>
        exact (Jl0 (pv 1))
      case b6 =>
       exact Jl2
     case r5 =>
      refine' Jkq ?s11 ?r11
      case s11 =>
       refine' Jle ?c12 ?a12 ?b12
       case c12 =>
        exact (Jlv Jx3 (pv 2) Jks (Jli _))
       case a12 =>
        refine' Jkq ?s13 ?r13
        case s13 =>
         exact (Jl3 (i := 4) sc_law_spoilt.nd rfl (Or.inl rfl) (Jl7 Jm1 (Jmh (pa8 Jmv Jly (pe_un Y5 Jks) Jks Jnn (Jl5 Jz7 Jks Jks) (Jmh (Jkn Jks Jkp)) (Jm8 (Jkn Jks Jkp)))) (Jku T.Jr G__law_take hr (by decide) (Jkn (pv 0) (Jkn Jks Jkp))) (fun _ _ => rfl)))
        case r13 =>
         refine' Jkr ?s15
         case s15 =>
          exact (Jl0 (Jl5 Jrd (Jl5 Jrd (Jon Jwf (pv 1) Jpy (Jpz (pv 3))) (Jm8 (Jkn (pv 4) Jkp))) (Jon Jwf (pv 1) (Jpz (Jl5 Jlk (pv 3) Jks)) Jpy)))
       case b12 =>
        exact Jl2
      case r11 =>
       refine' Jkr ?s19
       case s19 =>
        refine' Jl0 ?e21_0
        case e21_0 =>
         refine' Jl7 ?e22_0 ?e22_1 ?e22_2 ?e22_3
         case e22_0 =>
          exact Jm1
         case e22_1 =>
          refine' Jmh ?e23_0
          case e23_0 =>
           refine' pa4 ?e24_0 ?e24_1 ?e24_2 ?e24_3
           case e24_0 =>
            exact (Jlf Jml (by rfl) T.Jas Jn8 (Jkn (pv 1) Jkp))
           case e24_1 =>
            exact (Jl5 Jrd (pv 1) (Jm8 (Jkn Jks Jkp)))
           case e24_2 =>
            exact Jmv
           case e24_3 =>
            exact (Jku T.Jr G__law_take hr (by decide) (Jkn (pv 0) (Jkn Jks Jkp)))
         case e22_2 =>
          exact (Jl5 Jmd (pv 2) Jks)
         case e22_3 =>
          exact (fun _ _ => rfl)
  have nt : t ≠ p := Jmn st ht (fun _ _ _ z => by cases z)
  refine ⟨_, rfl, p, 12, rfl, st, by decide, by decide, fun c H1 c0 c1 b1 => ?_⟩
  have ht1 := b1.1 _ _ nt ht
  refine ⟨_, rfl, _, rfl, t, _, rfl, .inr (SqT.of ht1), p, _, rfl, b1.2, by omega, Joe (by omega), fun i H2 i0 i1 b2 => ?_⟩
  have b12 := b1.trans b2
  have ht2 := b12.1 _ _ nt ht
  have el2 : ∀ v ∈ xs, ElT K H2 v := fun v hv => (el v hv).ll (LL.but st b12)
  obtain ⟨j, rfl⟩ := Int.eq_ofNat_of_zero_le i0
  have hj : j < xs.length := by omega
  refine ⟨_, rfl, _, _, rfl, rfl, _, rfl, ?_⟩
  by_cases h5 : c < 5
  ·rw [decide_eq_true h5]
   exact Jlt ⟨_, rfl, k _ _ (Jow ht2 el2 (by omega)) b12⟩
  rw [decide_eq_false h5]
  refine Jlj ⟨_, rfl, _, _, rfl, rfl, _, rfl, ?_⟩
  by_cases h8 : c < 8
  ·rw [decide_eq_true h8]
   refine Jlt ?_
   refine ⟨_, rfl, _, _, rfl, rfl, ⟨by decide, by decide, by decide⟩, (show 1 ≤ sizeLine by decide), fun l1 hl1 => ⟨(show 1 ≤ sizeLine by decide), fun t1 ht1' => ⟨(show 8 ≤ sizeLine by decide), fun L hL => ?_⟩⟩⟩
   have s1 := Same.upd (o := .lst [.int 1]) hl1
   have s2 := Same.upd (o := .tup [.int 0]) ht1'
   have s3 := Same.upd (o := .lst [.non, .bl true, .int (-1), .int 13, .str "0", .int (10 ^ (30 : Int).toNat), .ref l1, .ref t1]) hL
   have nL : L ≠ p := (b12.same (s1.trans s2)).2.ne hL
   have b3 := (b12.same (s1.trans s2)).same s3
   refine ⟨_, rfl, p, 8, rfl, b3.2, by decide, by decide, fun r H3 r0 r1 b4 => ?_⟩
   have g1 := Jnk b3.2 b4 (s3 _ _ (s2 _ _ (Jko (a := l1) (o := .lst [.int 1])))) (by intro _ _ _ z; cases z)
   have g2 := Jnk b3.2 b4 (s3 _ _ (Jko (a := t1) (o := .tup [.int 0]))) (by intro _ _ _ z; cases z)
   obtain ⟨v, hv, hat⟩ := atI_in (xs := [V.non, .bl true, .int (-1), .int 13, .str "0", .int (10 ^ (30 : Int).toNat), .ref l1, .ref t1]) r0 r1
   have ev := odd8 (K := K) g1 g2 v hv
   have b14 := b3.trans b4
   have ht3 := b14.1 _ _ nt ht
   have el3 : ∀ v ∈ xs, ElT K H3 v := fun v hv => (el v hv).ll (LL.but st b14)
   refine ⟨L, _, _, v, rfl, rfl, SqL.of (b4.1 _ _ nL Jko), hat, ?_⟩
   refine ⟨_, rfl, _, rfl, _, rfl, t, _, rfl, SqT.of ht3, Ju6 hj, fun q1 e1 => ?_⟩
   rw [cut_to _ _ (by omega)]
   have sa := Same.upd (o := .tup (xs.take j)) e1
   refine ⟨_, rfl, (show 1 ≤ sizeLine by decide), fun q2 e2 => ?_⟩
   have sb := Same.upd (o := .tup [v]) e2
   refine ⟨q1, q2, _, _, rfl, rfl, sb _ _ Jko, Jko, Jmo _ (by rw [List.length_take]; simp; omega), fun q3 H4 s4 g3 => ?_⟩
   have s04 := (sa.trans sb).trans s4
   refine ⟨_, rfl, _, rfl, _, _, rfl, rfl, _, rfl, t, _, rfl, SqT.of (s04 _ _ ht3), Jrw hj, fun q4 e4 => ?_⟩
   rw [Jxo _ _ (by omega)]
   have sc := Same.upd (o := .tup (xs.drop (j + 1))) e4
   refine ⟨q3, q4, _, _, rfl, rfl, sc _ _ g3, Jko, Jmo _ (by rw [List.length_append, List.length_take, List.length_drop]; simp; omega), fun q5 H5 s5 g5 => ?_⟩
   have s05 := (s04.trans sc).trans s5
   refine k (.ref q5) H5 (Jow g5 (fun z hz => ?_) (by rw [List.length_append, List.length_append, List.length_take, List.length_drop]; simp; omega)) (b14.same s05)
   rcases List.mem_append.mp hz with h | h
   ·rcases List.mem_append.mp h with h | h
    ·exact (el3 z (List.mem_of_mem_take h)).ll (LL.same s05)
    ·rw [List.mem_singleton.mp h]
     exact ev.ll (LL.same s05)
   ·exact (el3 z (List.mem_of_mem_drop h)).ll (LL.same s05)
  ·rw [decide_eq_false h8]
   refine Jlj ⟨_, rfl, t, _, rfl, .inr (SqT.of ht2), fun l el' => ?_⟩
   have s1 := Same.upd (o := .lst xs) el'
   refine ⟨_, rfl, (show 1 ≤ sizeLine by decide), fun q1 e1 => ?_⟩
   have s2 := Same.upd (o := .tup [.int 0]) e1
   refine ⟨t, q1, _, _, rfl, rfl, s2 _ _ (s1 _ _ ht2), Jko, Jmo _ (by simp; omega), fun q2 H3 s3 g3 => ?_⟩
   have s03 := (s1.trans s2).trans s3
   have b3 := b12.same s03
   refine ⟨_, rfl, p, 9, rfl, b3.2, by decide, by decide, fun r H4 r0 r1 b4 => ⟨(show 4 ≤ sizeLine by decide), fun L hL => ?_⟩⟩
   have s5 := Same.upd (o := .lst [.ref l, .ref q2, .non, .int r]) hL
   have l34 := (LL.but b3.2 b4).trans (LL.same s5)
   have bb := (b3.trans b4).same s5
   have el4 : ∀ v ∈ xs, ElT K (upd H4 L (.lst [.ref l, .ref q2, .non, .int r])) v := fun v hv => (el2 v hv).ll ((LL.same s03).trans l34)
   have nl : l ≠ p := b12.2.ne el'
   have gl : (upd H4 L (.lst [.ref l, .ref q2, .non, .int r])) l = some (.lst xs) := s5 _ _ (b4.1 _ _ nl (s3 _ _ (s2 _ _ Jko)))
   have gq := l34.get (by intro _ z; cases z) g3
   have cs : c = 8 ∨ c = 9 ∨ c = 10 ∨ c = 11 := by omega
   rcases cs with rfl | rfl | rfl | rfl
   ·exact ⟨_, rfl, _, _, rfl, rfl, L, _, _, _, rfl, rfl, SqL.of Jko, rfl, k _ _ (Jwp gl el4) bb⟩
   ·exact ⟨_, rfl, _, _, rfl, rfl, L, _, _, _, rfl, rfl, SqL.of Jko, rfl, k _ _ (Jow gq (fun z hz => (List.mem_append.mp hz).elim (el4 z) (fun h => by rw [List.mem_singleton.mp h]; exact .int 0)) (by rw [List.length_append]; simp; omega)) bb⟩
   ·exact ⟨_, rfl, _, _, rfl, rfl, L, _, _, _, rfl, rfl, SqL.of Jko, rfl, k _ _ ⟨Jvo (.of .non) rfl (.inl rfl), .inr ⟨_, .of .non, rfl⟩⟩ bb⟩
   ·exact ⟨_, rfl, _, _, rfl, rfl, L, _, _, _, rfl, rfl, SqL.of Jko, rfl, k _ _ ⟨Jvo (.of (.int r)) rfl (.inl rfl), .inl ⟨r, rfl⟩⟩ bb⟩
def Jzr (K : W.Frag) : Sp := fun vs H Q _ => ∃ (p y u : Addr) (ns : List Int) (v : V), vs = [.ref p, .ref y] ∧ Strm H p ∧ H y = some (.tup [.ref u, v]) ∧ H u = some (.tup (ns.map V.int)) ∧ (1 ≤ ns.length ∧ ns.length ≤ 16) ∧ (v = .non ∨ ∃ n, v = .int n) ∧ ∀ (x : V) (H' : Hp), AnyX K H' x → But p H H' → Q x H'
theorem Jpo : Jky ["_law_stream_here", "_law_pair"] ["_law_stream_here", "_law_pair"] (Jkt (top 80)) := ⟨rfl, rfl, rfl, by decide +kernel, rfl, by decide +kernel, by decide +kernel⟩
theorem Jpf (T : Tx K mg a) : FnOk P w K mg base CX0 3 a.Jji a.Jjj ["_law_stream_here", "_law_pair"] (Jzr K) := by
 have G__law_take := Jm4 (P := P) (w := w) (base := base) T
 have G__law_spoilt := Jp8 (P := P) (w := w) (base := base) T
 refine T.Ja5.fn.ok Jpo (fun vs H Q E h => ?_) (fun cdv A outer s H vs Q E hr h => ?_)
 ·obtain ⟨p, y, u, ns, v, rfl, _⟩ := h
  rfl
 ·obtain ⟨p, y, u, ns, v, rfl, st, hy, hu, ln, hv, k⟩ := h
  refine ⟨?t, ?B, ?C⟩
  case B =>
   refine' Jkq ?s1 ?r1
   case s1 =>
    refine' Jle ?c2 ?a2 ?b2
    case c2 =>
     exact (Jlv Jo5 (Jku T.Jr G__law_take hr (by decide) (Jkn (pv 0) (Jkn Jks Jkp))) Jks (Jli _))
    case a2 =>
     refine' Jkr ?s3
     case s3 =>
      exact (Jl0 (Jku T.Ja4 G__law_spoilt hr (by decide) (Jkn (pv 0) (Jkn (pv 1) Jkp))))
    case b2 =>
     exact Jl2
   case r1 =>
    refine' Jkr ?s7
    case s7 =>
     exact (Jl0 (Jm8 (Jkn (Jku T.Ja4 G__law_spoilt hr (by decide) (Jkn (pv 0) (Jkn (Jl7 Jlb (pv 1) Jks (fun _ _ => rfl)) Jkp))) (Jkn (Jl7 Jlb (pv 1) Jks (fun _ _ => rfl)) Jkp))))
  have ny : y ≠ p := Jmn st hy (fun _ _ _ z => by cases z)
  have nu : u ≠ p := Jmn st hu (fun _ _ _ z => by cases z)
  have ev : ∀ {H : Hp}, ElT K H v := fun {H} => by
   rcases hv with rfl | ⟨n, rfl⟩
   ·exact .non
   ·exact .int n
  have ei : ∀ {H : Hp}, ∀ z ∈ ns.map V.int, ElT K H z := fun {H} z hz => by
   obtain ⟨n, _, rfl⟩ := List.mem_map.mp hz
   exact .int n
  refine ⟨_, rfl, p, 2, rfl, st, by decide, by decide, fun r H1 r0 r1 b1 => ⟨rfl, _, rfl, ?_⟩⟩
  have hy1 := b1.1 _ _ ny hy
  have hu1 := b1.1 _ _ nu hu
  by_cases hr : r = 0
  ·refine ifT (by simp [hr]) ⟨_, rfl, _, rfl, p, y, _, rfl, b1.2, hy1, fun z hz => ?_, ⟨by simp, by simp⟩, fun x H2 ax b2 => k x H2 ax (b1.trans b2)⟩
   simp only [List.mem_cons, List.not_mem_nil, or_false] at hz
   rcases hz with rfl | rfl
   ·exact (Jow hu1 ei (by rw [List.length_map]; omega)).el
   ·exact ev
  ·refine ifF (by simp [hr]) ⟨_, rfl, _, rfl, y, _, 0, _, rfl, rfl, SqT.of hy1, rfl, p, u, _, rfl, b1.2, hu1, ei, by rw [List.length_map]; exact ln, fun x H2 ax b2 => ?_⟩
   have b12 := b1.trans b2
   refine ⟨_, rfl, y, _, 1, v, rfl, rfl, SqT.of (b12.1 _ _ ny hy), rfl, (show 2 ≤ sizeLine by decide), fun t et => ?_⟩
   have s3 := Same.upd (o := .tup [x, v]) et
   refine k (.ref t) _ (Jow Jko (fun z hz => ?_) (by simp)) (b12.same s3)
   simp only [List.mem_cons, List.not_mem_nil, or_false] at hz
   rcases hz with rfl | rfl
   ·exact (ax.same s3).el
   ·exact ev
end
def clsR (a : Ad) : Nat → Addr
 | 0 => a.Jka
 | 1 => a.Jkb
 | _ => a.Jkc
def kndL (k : Nat) : List Bool := [k == 0, k == 1, k == 2, true, true]
def OV (D : Option (Nat × V)) (H : Hp) (v : V) : Prop := match D with
 | none => v = .non
 | some (k, x) => ∃ t l, v = .ref t ∧ H t = some (.tup [.ref l, x]) ∧ H l = some (.lst ((kndL k).map V.bl))
theorem OV.same {D : Option (Nat × V)} {H H' : Hp} {v : V} (s : Same H H') (h : OV D H v) : OV D H' v := by
 cases D with
 | none => exact h
 | some kx =>
  obtain ⟨t, l, e, h1, h2⟩ := h
  exact ⟨t, l, e, s _ _ h1, s _ _ h2⟩
def dueD (S : Riv) (x c y : V) (q r : Pr) (rr : Option (List V)) (m : Int) : Option (Nat × V) := if stB S q = true then (if chB S r = true then (if m = 3 ∧ rnB S (Jq5 q) rr = false then some (2, y) else none) else some (1, c)) else some (0, x)
def Yad (K : W.Frag) (a : Ad) : Sp := fun vs H Q _ => ∃ (e dx : Addr) (k : Nat) (fs : List (Str × V)) (fr : Bool), vs = [.ref e] ∧ k < 3 ∧ H e = some (XO e (clsR a k) (some dx) fr) ∧ H dx = some (XD dx fs) ∧ ∀ l H', Same H H' → H' l = some (.lst ((kndL k).map V.bl)) → Q (.ref l) H'
structure OutIn (K : W.Frag) (a : Ad) (H : Hp) (o : Addr) (S : Riv) (Gs : List Jl9) (x c y : V) (q r : Pr) (rr : Option (List V)) : Prop where
 rv : RvX K a H o S Gs
 px : PrT K H x q
 pc : PrT K H c r
 py : RowT K H y rr
theorem OutIn.same {K : W.Frag} {a : Ad} {H H' : Hp} {o : Addr} {S : Riv} {Gs : List Jl9} {x c y : V} {q r : Pr} {rr : Option (List V)} (s : Same H H') (h : OutIn K a H o S Gs x c y q r rr) : OutIn K a H' o S Gs x c y q r rr := ⟨h.rv.same s, h.px.same s, h.pc.same s, h.py.same s⟩
def spOutc (K : W.Frag) (a : Ad) : Sp := fun vs H Q _ => ∃ (o : Addr) (S : Riv) (Gs : List Jl9) (x c y : V) (q r : Pr) (rr : Option (List V)) (m : Int), vs = [.ref o, x, c, y, .int m] ∧ OutIn K a H o S Gs x c y q r rr ∧ (m = 2 ∨ m = 3) ∧ ∀ v H', Same H H' → OV (dueD S x c y q r rr m) H' v → Q v H'
section
variable {P : Program} {w : World} {K : W.Frag} {mg : Str → Option Value} {base : Heap} {a : Ad}
theorem Jsp : bootBuiltins "ValueError" = some (.type "ValueError") := by decide +kernel
theorem sc_law_kinds : Jky ["_law_e", "_law_kinds_here"] ["_law_e"] (Jkt (top 81)) := ⟨rfl, rfl, rfl, by decide +kernel, rfl, by decide +kernel, by decide +kernel⟩
theorem Jue (T : Tx K mg a) : Jyh P w K mg base 1 a.Jjk a.Jjl ["_law_e"] (Yad K a) := by
 refine T.Ja6.fn.okC sc_law_kinds (fun vs H Q E h => ?_) (fun er cdv A outer s H vs Q E hr h => ?_)
 ·obtain ⟨e, dx, k, fs, fr, rfl, _⟩ := h
  rfl
 ·obtain ⟨e, dx, c, fs, fr, rfl, hc, h1, h2, k⟩ := h
  refine ⟨?t, ?B, ?C⟩
  case B =>
   refine' Jkq ?s1 ?r1
   case s1 =>
    exact (Jl3 (i := 1) sc_law_kinds.nd rfl (Or.inl rfl) (Jmh (Jkn (Jkz Jlx (by rfl) T.Jaq Jl4 (Jkn (pv 0) (Jkn (Jls (by rfl) T.Jb8 (v := .ref _) rfl) Jkp))) (Jkn (Jkz Jlx (by rfl) T.Jaq Jl4 (Jkn (pv 0) (Jkn (Jls (by rfl) T.Jb9 (v := .ref _) rfl) Jkp))) (Jkn (Jkz Jlx (by rfl) T.Jaq Jl4 (Jkn (pv 0) (Jkn (Jls (by rfl) T.Jba (v := .ref _) rfl) Jkp))) Jkp)))))
   case r1 =>
    refine' Jkr ?s3
    case s3 =>
     exact (Jl0 (Jl5 op_cat (pv 1) (Jmh (Jkn (Jkz Jlx (by rfl) T.Jaq Jl4 (Jkn (pv 0) (Jkn (Jls (by rfl) T.Jb1 (v := .ref _) rfl) Jkp))) (Jkn (Jkz Jlx (by rfl) T.Jaq Jl4 (Jkn (pv 0) (Jkn (Jmj (v := .ty "ValueError") (by rfl) T.Jal Jsp rfl) Jkp))) Jkp)))))
  have cs : c = 0 ∨ c = 1 ∨ c = 2 := by omega
  rcases cs with rfl | rfl | rfl
  ·have ty : ∀ {H'}, Same H H' → TyX K H' (.ref e) (.ref a.Jka) := fun s => .exc (s _ _ h1) (s _ _ h2) T.Jcn
   refine ⟨_, rfl, _, _, _, _, _, rfl, rfl, ty (Same.refl H), T.Jf3, _, rfl, _, _, _, _, _, rfl, rfl, ty (Same.refl H), T.Jf4, _, rfl, _, _, _, _, _, rfl, rfl, ty (Same.refl H), T.Jf5, (show 3 ≤ sizeLine by decide), fun l hl => ?_⟩
   have s1 := Same.upd (o := .lst [.bl true, .bl false, .bl false]) hl
   refine ⟨_, rfl, _, rfl, _, _, _, _, _, rfl, rfl, ty s1, T.Jfc, _, rfl, _, _, _, _, _, rfl, rfl, ty s1, T.Jff, (show 2 ≤ sizeLine by decide), fun l2 hl2 => ?_⟩
   have s2 := Same.upd (o := .lst [.bl true, .bl true]) hl2
   exact ⟨l, l2, _, _, rfl, rfl, s2 _ _ Jko, Jko, (show 3 + 2 ≤ sizeLine by decide), fun l3 hl3 => k l3 _ ((s1.trans s2).trans (Same.upd hl3)) Jko⟩
  ·have ty : ∀ {H'}, Same H H' → TyX K H' (.ref e) (.ref a.Jkb) := fun s => .exc (s _ _ h1) (s _ _ h2) T.Jcq
   refine ⟨_, rfl, _, _, _, _, _, rfl, rfl, ty (Same.refl H), T.Jf6, _, rfl, _, _, _, _, _, rfl, rfl, ty (Same.refl H), T.Jf7, _, rfl, _, _, _, _, _, rfl, rfl, ty (Same.refl H), T.Jf8, (show 3 ≤ sizeLine by decide), fun l hl => ?_⟩
   have s1 := Same.upd (o := .lst [.bl false, .bl true, .bl false]) hl
   refine ⟨_, rfl, _, rfl, _, _, _, _, _, rfl, rfl, ty s1, T.Jfd, _, rfl, _, _, _, _, _, rfl, rfl, ty s1, T.Jfg, (show 2 ≤ sizeLine by decide), fun l2 hl2 => ?_⟩
   have s2 := Same.upd (o := .lst [.bl true, .bl true]) hl2
   exact ⟨l, l2, _, _, rfl, rfl, s2 _ _ Jko, Jko, (show 3 + 2 ≤ sizeLine by decide), fun l3 hl3 => k l3 _ ((s1.trans s2).trans (Same.upd hl3)) Jko⟩
  ·have ty : ∀ {H'}, Same H H' → TyX K H' (.ref e) (.ref a.Jkc) := fun s => .exc (s _ _ h1) (s _ _ h2) T.Jct
   refine ⟨_, rfl, _, _, _, _, _, rfl, rfl, ty (Same.refl H), T.Jf9, _, rfl, _, _, _, _, _, rfl, rfl, ty (Same.refl H), T.Jfa, _, rfl, _, _, _, _, _, rfl, rfl, ty (Same.refl H), T.Jfb, (show 3 ≤ sizeLine by decide), fun l hl => ?_⟩
   have s1 := Same.upd (o := .lst [.bl false, .bl false, .bl true]) hl
   refine ⟨_, rfl, _, rfl, _, _, _, _, _, rfl, rfl, ty s1, T.Jfe, _, rfl, _, _, _, _, _, rfl, rfl, ty s1, T.Jfh, (show 2 ≤ sizeLine by decide), fun l2 hl2 => ?_⟩
   have s2 := Same.upd (o := .lst [.bl true, .bl true]) hl2
   exact ⟨l, l2, _, _, rfl, rfl, s2 _ _ Jko, Jko, (show 3 + 2 ≤ sizeLine by decide), fun l3 hl3 => k l3 _ ((s1.trans s2).trans (Same.upd hl3)) Jko⟩
theorem sc_law_outcome : Jky ["_law_river_here", "_law_standing_here", "_law_choice_here", "_law_rain_here", "_law_many", "_law_found", "_law_e"] ["_law_river_here", "_law_standing_here", "_law_choice_here", "_law_rain_here", "_law_many"] (Jkt (top 82)) := ⟨rfl, rfl, rfl, by decide +kernel, rfl, by decide +kernel, by decide +kernel⟩
theorem Js4 (T : Tx K mg a) : FnOk P w K mg base CX0 8 a.Jjm a.Jjn ["_law_river_here", "_law_standing_here", "_law_choice_here", "_law_rain_here", "_law_many"] (spOutc K a) := by
 have C__law_kinds := Jue (P := P) (w := w) (base := base) T
 have G_paid_by := Jw1 (P := P) (w := w) (base := base) T
 have G_turned := Jxu (P := P) (w := w) (base := base) T
 refine T.Ja7.fn.ok sc_law_outcome (fun vs H Q E h => ?_) (fun cdv A outer s H vs Q E hr h => ?_)
 ·obtain ⟨o, S, Gs, x, c, y, q, r, rr, m, rfl, _⟩ := h
  rfl
 ·obtain ⟨o, S, Gs, x, c, y, q, r, rr, m, rfl, oi, hm, k⟩ := h
  refine ⟨?t, ?B, ?C⟩
  case B =>
   refine' Jkq ?s1 ?r1
   case s1 =>
    exact (Jl3 (i := 5) sc_law_outcome.nd rfl (Or.inl rfl) Jmv)
   case r1 =>
    refine' Jkq ?s3 ?r3
    case s3 =>
     exact (ps_try ⟨rfl, rfl⟩ (fun _ _ hw => (Jkr (Jle (Jlv Jo5 (pv 4) Jks (Jli _)) (Jkr (Jmu (Jmf T.Jd G_paid_by hw hr (by decide) (Jkn (pv 0) (Jkn (pv 1) (Jkn (pv 2) Jkp)))))) (Jkr (Jmu (Jmf T.Ji G_turned hw hr (by decide) (pa4 (pv 0) (pv 1) (pv 2) (pv 3)))))))) (by exact Jz9 T.Jco T.Jb8 sc_law_outcome.nd (i := 6) rfl rfl (fun _ => (Jkr (Jl3 (i := 5) sc_law_outcome.nd rfl (Or.inl rfl) (Jm8 (Jkn (Jsa T.Ja6 C__law_kinds hr (by decide) (Jkn (pv 6) Jkp)) (Jkn (Juh (pv 6) (by rfl)) Jkp)))))) (by exact Jz9 T.Jcr T.Jb9 sc_law_outcome.nd (i := 6) rfl rfl (fun _ => (Jkr (Jl3 (i := 5) sc_law_outcome.nd rfl (Or.inl rfl) (Jm8 (Jkn (Jsa T.Ja6 C__law_kinds hr (by decide) (Jkn (pv 6) Jkp)) (Jkn (Juh (pv 6) (by rfl)) Jkp)))))) (by exact Jz9 T.Jcu T.Jba sc_law_outcome.nd (i := 6) rfl rfl (fun _ => (Jkr (Jl3 (i := 5) sc_law_outcome.nd rfl (Or.inl rfl) (Jm8 (Jkn (Jsa T.Ja6 C__law_kinds hr (by decide) (Jkn (pv 6) Jkp)) (Jkn (Juh (pv 6) (by rfl)) Jkp)))))) ph_nil))))
    case r3 =>
     refine' Jkr ?s5
     case s5 =>
      exact (Jl0 (pv 5))
  refine fun pins => ?_
  unfold dueD at k
  rcases hm with rfl | rfl
  ·refine ⟨_, rfl, rfl, _, rfl, Jvs rfl ⟨_, rfl, _, rfl, _, rfl, o, S, Gs, x, c, q, r, rfl, oi.rv, oi.px, oi.pc, ?_⟩⟩
   unfold Juu
   cases es : stB S q with
   | false =>
    rw [es] at k
    rw [if_neg (by decide)] at k ⊢
    rintro cl eo H1 ⟨e, dx', rfl, rfl, s', q1, q2⟩
    exact ⟨e, _, true, rfl, rfl, T.Jfi, Jlt ⟨_, rfl, e, dx', 0, _, _, rfl, by decide, q1, q2, fun l H2 s2 hl => ⟨_, rfl, e, _, _, _, dx', _, _, _, rfl, s2 _ _ q1, s2 _ _ q2, T.Jcn, T.Jcp, rfl, (show 2 ≤ sizeLine by decide), fun t ht => ⟨_, rfl, k _ _ ((s'.trans s2).trans (Same.upd ht)) ⟨t, l, rfl, Jko, Same.upd ht _ _ hl⟩⟩⟩⟩⟩
   | true =>
    rw [if_pos es] at k
    rw [if_pos rfl]
    cases ec : chB S r with
    | false =>
     rw [ec] at k
     rw [if_neg (by decide)] at k ⊢
     rintro cl eo H1 ⟨e, dx', rfl, rfl, s', q1, q2⟩
     exact ⟨e, _, false, rfl, rfl, T.Jfj, Jlj ⟨e, _, true, rfl, rfl, T.Jfk, Jlt ⟨_, rfl, e, dx', 1, _, _, rfl, by decide, q1, q2, fun l H2 s2 hl => ⟨_, rfl, e, _, _, _, dx', _, _, _, rfl, s2 _ _ q1, s2 _ _ q2, T.Jcq, T.Jcs, rfl, (show 2 ≤ sizeLine by decide), fun t ht => ⟨_, rfl, k _ _ ((s'.trans s2).trans (Same.upd ht)) ⟨t, l, rfl, Jko, Same.upd ht _ _ hl⟩⟩⟩⟩⟩⟩
    | true =>
     rw [if_pos ec, if_neg (fun z => absurd z.1 (by decide))] at k
     rw [if_pos rfl]
     intro ls cs wt tv H' _ _ s'
     exact ⟨_, rfl, k _ _ s' rfl⟩
  ·refine ⟨_, rfl, rfl, _, rfl, Jv2 (fun z => absurd (V.int.inj z) (by decide)) ⟨_, rfl, _, rfl, _, rfl, _, rfl, o, S, Gs, x, c, y, q, r, rr, rfl, oi.rv, oi.px, oi.pc, oi.py, ?_⟩⟩
   unfold Juu
   cases es : stB S q with
   | false =>
    rw [es] at k
    rw [if_neg (by decide)] at k ⊢
    rintro cl eo H1 ⟨e, dx', rfl, rfl, s', q1, q2⟩
    exact ⟨e, _, true, rfl, rfl, T.Jfi, Jlt ⟨_, rfl, e, dx', 0, _, _, rfl, by decide, q1, q2, fun l H2 s2 hl => ⟨_, rfl, e, _, _, _, dx', _, _, _, rfl, s2 _ _ q1, s2 _ _ q2, T.Jcn, T.Jcp, rfl, (show 2 ≤ sizeLine by decide), fun t ht => ⟨_, rfl, k _ _ ((s'.trans s2).trans (Same.upd ht)) ⟨t, l, rfl, Jko, Same.upd ht _ _ hl⟩⟩⟩⟩⟩
   | true =>
    rw [if_pos es] at k
    rw [if_pos rfl]
    cases ec : chB S r with
    | false =>
     rw [ec] at k
     rw [if_neg (by decide)] at k ⊢
     rintro cl eo H1 ⟨e, dx', rfl, rfl, s', q1, q2⟩
     exact ⟨e, _, false, rfl, rfl, T.Jfj, Jlj ⟨e, _, true, rfl, rfl, T.Jfk, Jlt ⟨_, rfl, e, dx', 1, _, _, rfl, by decide, q1, q2, fun l H2 s2 hl => ⟨_, rfl, e, _, _, _, dx', _, _, _, rfl, s2 _ _ q1, s2 _ _ q2, T.Jcq, T.Jcs, rfl, (show 2 ≤ sizeLine by decide), fun t ht => ⟨_, rfl, k _ _ ((s'.trans s2).trans (Same.upd ht)) ⟨t, l, rfl, Jko, Same.upd ht _ _ hl⟩⟩⟩⟩⟩⟩
    | true =>
     rw [if_pos ec] at k
     rw [if_pos rfl]
     cases er : rnB S (Jq5 q) rr with
     | false =>
      rw [if_pos ⟨rfl, er⟩] at k
      rw [if_neg (by decide)]
      rintro cl eo H1 ⟨e, dx', rfl, rfl, s', q1, q2⟩
      exact ⟨e, _, false, rfl, rfl, T.Jfl, Jlj ⟨e, _, false, rfl, rfl, T.Jfm, Jlj ⟨e, _, true, rfl, rfl, T.Jfn, Jlt ⟨_, rfl, e, dx', 2, _, _, rfl, by decide, q1, q2, fun l H2 s2 hl => ⟨_, rfl, e, _, _, _, dx', _, _, _, rfl, s2 _ _ q1, s2 _ _ q2, T.Jct, T.Jcv, rfl, (show 2 ≤ sizeLine by decide), fun t ht => ⟨_, rfl, k _ _ ((s'.trans s2).trans (Same.upd ht)) ⟨t, l, rfl, Jko, Same.upd ht _ _ hl⟩⟩⟩⟩⟩⟩⟩
     | true =>
      rw [if_neg (fun z => by rw [er] at z; cases z.2)] at k
      rw [if_pos rfl]
      intro ls cs rn wt tv ra p H' _ _ _ _ s' _
      exact ⟨_, rfl, k _ _ s' rfl⟩
def Yab (K : W.Frag) (a : Ad) : Sp := fun vs H Q _ => ∃ (o : Addr) (S : Riv) (Gs : List Jl9) (x c y : V) (q r : Pr) (rr : Option (List V)) (m : Int), vs = [.ref o, x, c, y, .int m] ∧ OutIn K a H o S Gs x c y q r rr ∧ ∀ v H', Same H H' → OV (dueD S x c y q r rr m) H' v → Q v H'
theorem Jwb : Jky ["_law_river_here", "_law_standing_here", "_law_choice_here", "_law_rain_here", "_law_many"] ["_law_river_here", "_law_standing_here", "_law_choice_here", "_law_rain_here", "_law_many"] (Jkt (top 83)) := ⟨rfl, rfl, rfl, by decide +kernel, rfl, by decide +kernel, by decide +kernel⟩
theorem Jvz (T : Tx K mg a) : FnOk P w K mg base CX0 5 a.Jjo a.Jjp ["_law_river_here", "_law_standing_here", "_law_choice_here", "_law_rain_here", "_law_many"] (Yab K a) := by
 have G_is_standing := Jnh (P := P) (w := w) (base := base) T
 have G_is_choice := Jpv (P := P) (w := w) (base := base) T
 have G_is_rain := Js3 (P := P) (w := w) (base := base) T
 refine T.Ja8.fn.ok Jwb (fun vs H Q E h => ?_) (fun cdv A outer s H vs Q E hr h => ?_)
 ·obtain ⟨o, S, Gs, x, c, y, q, r, rr, m, rfl, _⟩ := h
  rfl
 ·obtain ⟨o, S, Gs, x, c, y, q, r, rr, m, rfl, oi, k⟩ := h
  refine ⟨?t, ?B, ?C⟩
  case B =>
   refine' Jkq ?s1 ?r1
   case s1 =>
    refine' Jle ?c2 ?a2 ?b2
    case c2 =>
     exact (Jlc (Jld (Jku T.J6 G_is_standing hr (by decide) (Jkn (pv 0) (Jkn (pv 1) Jkp)))))
    case a2 =>
     refine' Jkr ?s3
     case s3 =>
      refine' Jl0 ?e5_0
      case e5_0 =>
       refine' Jm8 ?e6_0
       case e6_0 =>
        exact (Jkn (Jmh (pa5 Jly Jly Jly Jly Jly)) (Jkn (pv 1) Jkp))
    case b2 =>
     exact Jl2
   case r1 =>
    refine' Jkq ?s9 ?r9
    case s9 =>
     refine' Jle ?c10 ?a10 ?b10
     case c10 =>
      exact (Jlc (Jld (Jku T.J7 G_is_choice hr (by decide) (Jkn (pv 0) (Jkn (pv 2) Jkp)))))
     case a10 =>
      refine' Jkr ?s11
      case s11 =>
       refine' Jl0 ?e13_0
       case e13_0 =>
        refine' Jm8 ?e14_0
        case e14_0 =>
         exact (Jkn (Jmh (pa5 Jly Jly Jly Jly Jly)) (Jkn (pv 2) Jkp))
     case b10 =>
      exact Jl2
    case r9 =>
     refine' Jkq ?s17 ?r17
     case s17 =>
      refine' Jle ?c18 ?a18 ?b18
      case c18 =>
       exact (Jze (Jlv Jo5 (pv 4) Jks (Jli _)) (Jx7 (Jlc (Jld (Jku T.J9 G_is_rain.calm hr (by decide) (Jkn (pv 0) (Jkn (pv 1) (Jkn (pv 3) Jkp)))))))).pt
      case a18 =>
       refine' Jkr ?s19
       case s19 =>
        refine' Jl0 ?e21_0
        case e21_0 =>
         refine' Jm8 ?e22_0
         case e22_0 =>
          exact (Jkn (Jmh (pa5 Jly Jly Jly Jly Jly)) (Jkn (pv 3) Jkp))
      case b18 =>
       exact Jl2
     case r17 =>
      refine' Jkr ?s25
      case s25 =>
       exact (Jl0 Jmv)
  unfold dueD at k
  refine ⟨_, rfl, _, rfl, o, S, x, q, rfl, oi.rv.ro, oi.px, fun H1 s1 => ⟨_, rfl, ?_⟩⟩
  cases es : stB S q with
  | false =>
   rw [es] at k
   rw [if_neg (by decide)] at k
   refine Jlt ⟨(show 5 ≤ sizeLine by decide), fun l hl => ⟨_, rfl, (show 2 ≤ sizeLine by decide), fun t ht => ?_⟩⟩
   exact k _ _ ((s1.trans (Same.upd hl)).trans (Same.upd ht)) ⟨t, l, rfl, Jko, Same.upd ht _ _ Jko⟩
  | true =>
   rw [if_pos es] at k
   refine Jlj ⟨_, rfl, _, rfl, o, S, c, r, rfl, oi.rv.ro.same s1, oi.pc.same s1, fun H2 s2 => ⟨_, rfl, ?_⟩⟩
   have s12 := s1.trans s2
   cases ec : chB S r with
   | false =>
    rw [ec] at k
    rw [if_neg (by decide)] at k
    refine Jlt ⟨(show 5 ≤ sizeLine by decide), fun l hl => ⟨_, rfl, (show 2 ≤ sizeLine by decide), fun t ht => ?_⟩⟩
    exact k _ _ ((s12.trans (Same.upd hl)).trans (Same.upd ht)) ⟨t, l, rfl, Jko, Same.upd ht _ _ Jko⟩
   | true =>
    rw [if_pos ec] at k
    refine Jlj ⟨_, rfl, rfl, _, rfl, ?_⟩
    by_cases h3 : m = 3
    ·subst h3
     refine ifT (decide_eq_true rfl) ⟨_, rfl, _, rfl, _, rfl, o, S, x, q, y, rr, rfl, oi.rv.ro.same s12, oi.px.same s12, oi.py.same s12, ?_⟩
     rw [if_pos es]
     intro H3 s3
     have s13 := s12.trans s3
     refine ⟨_, rfl, ?_⟩
     cases er : rnB S (Jq5 q) rr with
     | false =>
      rw [if_pos ⟨rfl, er⟩] at k
      refine Jlt ⟨(show 5 ≤ sizeLine by decide), fun l hl => ⟨_, rfl, (show 2 ≤ sizeLine by decide), fun t ht => ?_⟩⟩
      exact k _ _ ((s13.trans (Same.upd hl)).trans (Same.upd ht)) ⟨t, l, rfl, Jko, Same.upd ht _ _ Jko⟩
     | true =>
      rw [if_neg (fun z => by rw [er] at z; cases z.2)] at k
      exact Jlj (k _ _ s13 rfl)
    ·rw [if_neg (fun z => h3 z.1)] at k
     exact ifF (decide_eq_false (fun z => h3 (V.int.inj z))) (Jlj (k _ _ s12 rfl))
end
theorem Jqa {K : W.Frag} {H : Hp} : ∀ bs : List Bool, DatVs K H (bs.map V.bl) (bs.map PyData.bool)
 | [] => .nil
 | _ :: r => .cons (.bl _) (Jqa r)
theorem knd_ok (k : Nat) : SeqAt.shaped (.list ((kndL k).map PyData.bool)) = true ∧ PyData.eqv (.list ((kndL k).map PyData.bool)) (.list ((kndL k).map PyData.bool)) = true := by
 show SeqAt.shaped (.list [.bool (k == 0), .bool (k == 1), .bool (k == 2), .bool true, .bool true]) = true ∧ PyData.eqv (.list [.bool (k == 0), .bool (k == 1), .bool (k == 2), .bool true, .bool true]) (.list [.bool (k == 0), .bool (k == 1), .bool (k == 2), .bool true, .bool true]) = true
 generalize (k == 0) = b0
 generalize (k == 1) = b1
 generalize (k == 2) = b2
 cases b0 <;> cases b1 <;> cases b2 <;> exact ⟨by kernel_rfl, by kernel_rfl⟩
theorem own_bl {K : W.Frag} {H : Hp} {x : V} (h : Own H x) : ∃ t c, TyX K H x t ∧ W.kitOne K t (.type "bool") = some c := by
 rcases h with h | ⟨p, rfl, ⟨vs, h | h, hv⟩ | h | ⟨k, v, h⟩⟩
 ·cases x with
  | non => exact ⟨_, false, .of .non, rfl⟩
  | bl b => exact ⟨_, true, .of (.bl b), rfl⟩
  | int i => exact ⟨_, false, .of (.int i), rfl⟩
  | str z => exact ⟨_, false, .of (.str z), rfl⟩
  | _ => cases h
 ·exact ⟨_, false, .of (.lst h), rfl⟩
 ·exact ⟨_, false, .of (.tup h), rfl⟩
 ·exact ⟨_, false, .of (.dK h), rfl⟩
 ·exact ⟨_, false, .of (.dK h), rfl⟩
theorem Own.node {H : Hp} {x : V} (h : Own H x) : Jv3 x := by
 rcases h with q | ⟨a, q, _⟩
 ·exact .inl q
 ·exact .inr ⟨a, q⟩
def OwnD (D : Option (Nat × V)) (H : Hp) : Prop := ∀ k x, D = some (k, x) → Own H x
def Ya8 (K : W.Frag) : Sp := fun vs H Q _ => ∃ (v v' : V) (D : Option (Nat × V)), vs = [v, v'] ∧ OV D H v ∧ OV D H v' ∧ OwnD D H ∧ Q (.bl true) H
theorem rvx_of {K : W.Frag} {a : Ad} {H : Hp} {o : Addr} {S : Riv} {R : Jmw} (ro : RivAt K a H o S) (lk : Like R S) (rg : Job R) (gx : GXL a H (S.Bs.map (·.g)) (R.Bs.map (·.G))) : RvX K a H o S (R.Bs.map (·.G)) := by
 have hl := Jz3 lk
 have hz : S.Bs.map (·.z) = R.Bs.map (·.z) := Jz4 lk (·.1)
 refine ⟨ro, gx, by rw [List.length_map]; exact hl, fun T hT => ?_, by have := rg.n; omega, fun i B G hB hG => ?_⟩
 ·have : (T.z, T.b, T.wt) ∈ R.Ts.map (fun B => (B.z, B.b, B.wt)) := by rw [← lk.Ts]; exact List.mem_map_of_mem (f := fun B : Twn => (B.z, B.b, B.wt)) hT
  obtain ⟨C, hC, e⟩ := List.mem_map.mp this
  have q := rg.Ts C hC
  have e2 : C.b = T.b := congrArg (·.2.1) e
  have e3 : C.wt = T.wt := congrArg (·.2.2) e
  rw [hz, ← e2, ← e3]
  exact ⟨q.2.2.1, q.2.2.2.1, q.2.2.2.2⟩
 ·rw [List.getElem?_map] at hG
  obtain ⟨C, hC, rfl⟩ := Option.map_eq_some_iff.mp hG
  have k1 : (S.Bs.map Jso)[i]? = some (Jso B) := by rw [List.getElem?_map, hB]; rfl
  rw [lk.Bs, List.getElem?_map, hC] at k1
  have e : Jvg C = Jso B := Option.some.inj k1
  have bg := (rg.Bs C (List.mem_of_getElem? hC)).1
  have e1 : C.lo = B.lo := congrArg (·.2.1) e
  have e2 : C.hi = B.hi := congrArg (·.2.2.1) e
  have e3 : nOf C.G = B.n := congrArg (·.2.2.2.2.2) e
  exact ⟨bg.G, e3.symm, by rw [← e1]; exact bg.lo.1, by rw [← e2]; exact bg.hi.2⟩
def spLaw (K : W.Frag) : Sp := fun vs H Q _ => ∃ (a : Addr) (ns : List Int), vs = [.ref a] ∧ SqL K H a (ns.map V.int) ∧ ns.length ≤ 63 ∧ ∀ H', Q (.bl true) H'
theorem RTAt.move {p q : Addr} {H : Hp} {x : V} {R : Jmw} (rg : Job R) (hq : H q = none) (h : RTAt p H x R) : RTAt q H x R := by
 obtain ⟨t, lb, lt, bs, ts, e, ht, hb, btl, htt, ttl, nb, nt⟩ := h
 exact ⟨t, lb, lt, bs, ts, e, ht, hb, btl.map (fun _ _ _ h => h.move hq) (fun B hB => (rg.Bs B hB).1), htt, ttl, Jkw hb hq, Jkw htt hq⟩
theorem GXL.ll {a : Ad} {H H' : Hp} {xs : List V} {Gs : List Jl9} (s : LL H H') (h : GXL a H xs Gs) : GXL a H' xs Gs := h.map fun x G h => by
 obtain ⟨g, ⟨dx, t, h1, h2⟩, r⟩ := h
 refine ⟨g, ⟨dx, t, s.get (by intro _ z; cases z) h1, s.get (by intro _ z; cases z) h2⟩, ?_⟩
 cases e : G.sv with
 | none => rw [e] at r; exact r
 | some j =>
  rw [e] at r
  obtain ⟨q, dx, r1, r2⟩ := r
  exact ⟨q, dx, r1, s.get (by intro _ z; cases z) r2⟩
theorem RvX.ll {K : W.Frag} {a : Ad} {H H' : Hp} {o : Addr} {S : Riv} {Gs : List Jl9} (s : LL H H') (h : RvX K a H o S Gs) : RvX K a H' o S Gs := ⟨h.ro.ll s, h.gx.ll s, h.ln, h.ti, h.n1, h.ok⟩
section
variable {P : Program} {w : World} {K : W.Frag} {mg : Str → Option Value} {base : Heap} {a : Ad}
theorem Jun : Jky ["_law_found", "_law_due_here"] ["_law_found", "_law_due_here"] (Jkt (top 84)) := ⟨rfl, rfl, rfl, by decide +kernel, rfl, by decide +kernel, by decide +kernel⟩
theorem Juc (T : Tx K mg a) : FnOk P w K mg base CX0 1 a.Jjq a.Jjr ["_law_found", "_law_due_here"] (Ya8 K) := by
 refine T.Ja9.fn.ok Jun (fun vs H Q E h => ?_) (fun cdv A outer s H vs Q E hr h => ?_)
 ·obtain ⟨v, v', D, rfl, _⟩ := h
  rfl
 ·obtain ⟨v, v', D, rfl, h1, h2, od, k⟩ := h
  have hu100 := Jyx hr
  refine ⟨?t, ?B, ?C⟩
  case B =>
   refine' Jkq ?s1 ?r1
   case s1 =>
    refine' Jle ?c2 ?a2 ?b2
    case c2 =>
     exact (Jtv (Jlv Jqm (pv 0) Jmv (Jli _)) (Jqq (Jlv Jqm (pv 1) Jmv (Jli _)))).pt
    case a2 =>
     refine' Jkr ?s3
     case s3 =>
      exact (Jl0 (Js9 (Jmk Jqm (pv 0) Jmv (Jli _)) (Jsc (Jmk Jqm (pv 1) Jmv (Jli _)))))
    case b2 =>
     exact Jl2
   case r1 =>
    refine' Jkr ?s7
    case s7 =>
     exact (Jl0 (Js9 (Jmk (Yt hu100) (pv 0) (pv 1) (Jli _)) (Jsc (Jmk Jo5 (Jkz Jlx (by rfl) T.Jaq Jl4 (Jkn (Jl7 Jlb (pv 0) Jks (fun _ _ => rfl)) (Jkn (Jmj (v := .ty "bool") (by rfl) T.Jan Ju0 rfl) Jkp))) (Jkz Jlx (by rfl) T.Jaq Jl4 (Jkn (Jl7 Jlb (pv 1) Jks (fun _ _ => rfl)) (Jkn (Jmj (v := .ty "bool") (by rfl) T.Jan Ju0 rfl) Jkp))) (Jli _)))))
  cases D with
  | none =>
   obtain rfl : v = .non := h1
   obtain rfl : v' = .non := h2
   refine ⟨_, rfl, rfl, _, rfl, Jvs rfl (Jlt ?_)⟩
   exact ⟨_, rfl, rfl, _, rfl, Jvs rfl ⟨_, rfl, rfl, by rw [decide_eq_true rfl]; exact k⟩⟩
  | some kx =>
   obtain ⟨n, x⟩ := kx
   obtain ⟨t, l, rfl, ht, hl⟩ := h1
   obtain ⟨t', l', rfl, ht', hl'⟩ := h2
   have ox := od n x rfl
   obtain ⟨ty, b, tb, eb⟩ := own_bl (K := K) ox
   refine ⟨_, rfl, rfl, _, rfl, Jv2 (fun z => by cases z) ⟨_, rfl, rfl, _, rfl, Jv2 (fun z => by cases z) ?_⟩⟩
   have ko := knd_ok n
   refine ⟨_, rfl, _, rfl, t, t', _, _, [true, true], rfl, rfl, SqT.of ht, SqT.of ht', rfl, rfl, fun i u v b e1 e2 e3 => ?_, _, rfl, Jlt ?_⟩
   ·match i with
    | 0 =>
     obtain rfl : V.ref l = u := by simpa using e1
     obtain rfl : V.ref l' = v := by simpa using e2
     obtain rfl : true = b := by simpa using e3
     exact .inr ⟨_, _, .lst (SqL.of hl) (Jqa _), .lst (SqL.of hl') (Jqa _), ko.1, ko.1, ko.2⟩
    | 1 =>
     obtain rfl : x = u := by simpa using e1
     obtain rfl : x = v := by simpa using e2
     obtain rfl : true = b := by simpa using e3
     exact .inl (.self (Own.node ox))
    | i + 2 => simp at e1
   ·refine ⟨_, rfl, t, _, 1, x, rfl, rfl, SqT.of ht, rfl, _, _, _, ty, b, rfl, rfl, tb, eb, _, rfl, t', _, 1, x, rfl, rfl, SqT.of ht', rfl, _, _, _, ty, b, rfl, rfl, tb, eb, rfl, ?_⟩
    rw [decide_eq_true rfl]
    exact k
theorem sc_law : Jky ["_law_script", "_law_told", "_law_river_here", "_law_k", "_law_stream_here", "_law_good", "_law_standing_here", "_law_choice_here", "_law_rain_here", "_law_many", "_law_found"] ["_law_script"] (Jkt (top 85)) := ⟨rfl, rfl, rfl, by decide +kernel, rfl, by decide +kernel, by decide +kernel⟩
theorem ok_law (T : Tx K mg a) : FnOk P w K mg base CX0 9 a.a_law a.d_law ["_law_script"] (spLaw K) := by
 have G__law_cell := Jv4 (P := P) (w := w) (base := base) T
 have G__law_stream := Jp9 (P := P) (w := w) (base := base) T
 have G__law_river := Jug (P := P) (w := w) (base := base) T
 have G__law_made := Jv6 (P := P) (w := w) (base := base) T
 have G__law_standing := Jr8 (P := P) (w := w) (base := base) T
 have G__law_choice := Jsx (P := P) (w := w) (base := base) T
 have G__law_rain := Jv7 (P := P) (w := w) (base := base) T
 have G__law_spoilt := Jp8 (P := P) (w := w) (base := base) T
 have G__law_pair_spoilt := Jpf (P := P) (w := w) (base := base) T
 have G__law_outcome := Js4 (P := P) (w := w) (base := base) T
 have G__law_due := Jvz (P := P) (w := w) (base := base) T
 have G__law_alike := Juc (P := P) (w := w) (base := base) T
 refine T.f_law.fn.ok sc_law (fun vs H Q E h => ?_) (fun cdv A outer s H vs Q E hr h => ?_)
 ·obtain ⟨x, ns, rfl, _⟩ := h
  rfl
 ·obtain ⟨x, ns, rfl, hS, hl, k⟩ := h
  refine ⟨?t, ?B, ?C⟩
  case B =>
   refine' Jkq ?s1 ?r1
   case s1 =>
    exact (Jl3 (i := 1) sc_law.nd rfl (Or.inl rfl) (Jku T.Jv G__law_river hr (by decide) (Jkn (Jku T.Jp G__law_cell hr (by decide) (Jkn (pv 0) (Jkn Jks Jkp))) Jkp)))
   case r1 =>
    refine' Jkq ?s3 ?r3
    case s3 =>
     exact (Jl3 (i := 2) sc_law.nd rfl (Or.inl rfl) (Jku T.Jx G__law_made hr (by decide) (Jkn (pv 1) Jkp)))
    case r3 =>
     refine' Jkq ?s5 ?r5
     case s5 =>
      refine' Jo0 ?f6_0 ?f6_1 ?f6_2 ?f6_3 ?f6_4
      case f6_0 =>
       exact PassesOwn.never
      case f6_1 =>
       exact rfl
      case f6_2 =>
       exact (Jxy (by rfl) T.Jav (Jkn Jks (Jkn (Jkz (Jnc rfl) (by rfl) T.Jat Jq8 (Jkn Jks (Jkn (Jkz (Jmy rfl) (by rfl) T.Jau Jpa (Jkn (Jkz Jl8 (by rfl) T.Jar Jmc (Jkn (pv 0) Jkp)) (Jkn Jks Jkp))) Jkp))) Jkp)))
      case f6_3 =>
       exact (Jl1 (i := 3) sc_law.nd rfl (Or.inl rfl))
      case f6_4 =>
       refine' Jkq ?s7 ?r7
       case s7 =>
        exact (Jl3 (i := 4) sc_law.nd rfl (Or.inl rfl) (Jku T.Jq G__law_stream hr (by decide) (Jkn (Jku T.Jp G__law_cell hr (by decide) (Jkn (pv 0) (Jkn (pv 3) Jkp))) Jkp)))
       case r7 =>
        refine' Jkq ?s9 ?r9
        case s9 =>
         exact (Jl3 (i := 5) sc_law.nd rfl (Or.inl rfl) (Jku T.Jz G__law_standing hr (by decide) (Jkn (pv 4) (Jkn (pv 1) Jkp))))
        case r9 =>
         refine' Jkq ?s11 ?r11
         case s11 =>
          exact (Jl3 (i := 6) sc_law.nd rfl (Or.inl rfl) (Jku T.Ja5 G__law_pair_spoilt hr (by decide) (Jkn (pv 4) (Jkn (pv 5) Jkp))))
         case r11 =>
          refine' Jkq ?s13 ?r13
          case s13 =>
           exact (Jl3 (i := 7) sc_law.nd rfl (Or.inl rfl) (Jku T.Ja5 G__law_pair_spoilt hr (by decide) (Jkn (pv 4) (Jkn (Jku T.Ja0 G__law_choice hr (by decide) (Jkn (pv 4) (Jkn (pv 1) Jkp))) Jkp))))
          case r13 =>
           refine' Jkq ?s15 ?r15
           case s15 =>
            exact (Jl3 (i := 8) sc_law.nd rfl (Or.inl rfl) (Jku T.Ja4 G__law_spoilt hr (by decide) (Jkn (pv 4) (Jkn (Jku T.Ja3 G__law_rain hr (by decide) (Jkn (pv 4) (Jkn (pv 1) (Jkn (Jl7 Jlb (pv 5) Jks (fun _ _ => rfl)) Jkp)))) Jkp))))
           case r15 =>
            refine' Jkr ?s17
            case s17 =>
             refine' Jo0 ?f18_0 ?f18_1 ?f18_2 ?f18_3 ?f18_4
             case f18_0 =>
              exact PassesOwn.never
             case f18_1 =>
              exact rfl
             case f18_2 =>
              exact (Jm7 (Jmh (Jkn Jks (Jkn Jks Jkp))))
             case f18_3 =>
              exact (Jl1 (i := 9) sc_law.nd rfl (Or.inl rfl))
             case f18_4 =>
              refine' Jkq ?s19 ?r19
              case s19 =>
               exact (Jl3 (i := 10) sc_law.nd rfl (Or.inl rfl) (Jku T.Ja7 G__law_outcome hr (by decide) (pa5 (pv 2) (pv 6) (pv 7) (pv 8) (pv 9))))
              case r19 =>
               refine' Jkr ?s21
               case s21 =>
                refine' Jle ?c22 ?a22 ?b22
                case c22 =>
                 exact (Jlc (Jld (Jku T.Ja9 G__law_alike hr (by decide) (Jkn (pv 10) (Jkn (Jku T.Ja8 G__law_due hr (by decide) (pa5 (pv 2) (pv 6) (pv 7) (pv 8) (pv 9))) Jkp)))))
                case a22 =>
                 refine' Jkr ?s23
                 case s23 =>
                  exact (Jl0 Jly)
                case b22 =>
                 exact Jl2
     case r5 =>
      refine' Jkr ?s27
      case s27 =>
       exact (Jl0 Jly)
  refine ⟨_, rfl, x, ns, 0, rfl, hS, fun c0 => ⟨c0, rfl, fun td R p0 H1 hp0 s1 st0 rt rg => ?_⟩⟩
  refine ⟨_, rfl, p0, td, R, rfl, rt, rg, fun o S H2 s2 ro lk gx => ?_⟩
  have rt2 := rt.same rg s2
  have s12 := s1.trans s2
  have rv2 := rvx_of ro lk rg gx
  refine ⟨_, rfl, x, _, rfl, .inl (s12.seq hS), _, _, rfl, _, _, rfl, _, _, rfl, ⟨by decide, by decide, ?_, ?_⟩, ?_⟩
  ·split <;> split <;> omega
  ·split <;> split <;> omega
  refine Jth (fun i σ H' => ∃ o3 o4 o5 o6 o7 o8 o9 o10, σ = [some (.ref x), some td, some (.ref o), o3, o4, o5, o6, o7, o8, o9, o10] ∧ Same H2 H') ⟨_, _, _, _, _, _, _, _, rfl, Same.refl _⟩ ?_ ?_
  ·rintro i σ Hs hi ⟨o3, o4, o5, o6, o7, o8, o9, o10, rfl, sH⟩
   refine ⟨_, rfl, _, rfl, x, ns, 1 + i, by simp, (s12.trans sH).seq hS, fun cl => ⟨cl, rfl, fun p H3 hp s3 st => ?_⟩⟩
   have rt3 := ((rt2.same rg sH).move rg hp).same rg s3
   have rv3 := (rv2.same sH).same s3
   have nR := rg.n
   refine ⟨_, rfl, _, rfl, p, td, R, rfl, st, rt3, rg, fun yv ls wt H4 b4 sd => ?_⟩
   have rt4 := rt3.but rg st b4
   obtain ⟨⟨y, u, rfl, hy, hu⟩, ll, _, w0, w1⟩ := id sd
   refine ⟨_, rfl, _, rfl, p, y, u, ls, .int wt, rfl, b4.2, hy, hu, by omega, .inr ⟨wt, rfl⟩, fun xs H5 ax b5 => ?_⟩
   have rt5 := rt4.but rg b4.2 b5
   have hy5 := Jnk b4.2 b5 hy (by intro _ _ _ z; cases z)
   refine ⟨_, rfl, _, rfl, _, rfl, p, td, R, rfl, b5.2, rt5, rg, fun cv cs tv H6 b6 ch => ?_⟩
   have rt6 := rt5.but rg b5.2 b6
   have ax6 := ax.but b5.2 b6
   have hy6 := Jnk b5.2 b6 hy5 (by intro _ _ _ z; cases z)
   obtain ⟨⟨z, zu, rfl, hz, hzu⟩, lc, _, tw⟩ := id ch
   refine ⟨p, z, zu, cs, tv, rfl, b6.2, hz, hzu, by omega, ?_, fun cx H7 ac b7 => ?_⟩
   ·rcases tw with h | ⟨j, h, _, _⟩
    ·exact .inl h
    ·exact .inr ⟨j, h⟩
   have rt7 := rt6.but rg b6.2 b7
   have ax7 := ax6.but b6.2 b7
   have hy7 := Jnk b6.2 b7 hy6 (by intro _ _ _ z; cases z)
   have rc := rg.c
   refine ⟨_, rfl, _, rfl, _, rfl, _, rfl, y, _, 1, _, rfl, rfl, SqT.of hy7, rfl, p, td, R, wt, rfl, b7.2, rt7, rg, by omega, fun ru ms H8 b8 hru r6 => ?_⟩
   have ax8 := ax7.but b7.2 b8
   have ac8 := ac.but b7.2 b8
   have rl := r6.1
   refine ⟨p, ru, _, rfl, b8.2, hru, fun v hv => ?_, by rw [List.length_map]; omega, fun yr H9 ay b9 => ?_⟩
   ·obtain ⟨n, _, rfl⟩ := List.mem_map.mp hv
    exact .int n
   have ax9 := ax8.but b8.2 b9
   have ac9 := ac8.but b8.2 b9
   have b39 := (((((b4.trans b5).trans b6).trans b7).trans b8).trans b9)
   have rv9 := rv3.ll (LL.but st b39)
   refine ⟨(show 2 ≤ sizeLine by decide), fun L eL => ?_⟩
   have sL := Same.upd (o := .lst [.int 2, .int 3]) eL
   have gL := Jko (H := H9) (a := L) (o := .lst [.int 2, .int 3])
   obtain ⟨⟨_, ⟨q, px⟩, ox⟩, _⟩ := ax9.same sL
   obtain ⟨⟨_, ⟨r, pc⟩, oc⟩, _⟩ := ac9.same sL
   obtain ⟨⟨⟨rr, py⟩, _, oy⟩, _⟩ := ay.same sL
   have oi : OutIn K a _ o S _ xs cx yr q r rr := ⟨rv9.same sL, px, pc, py⟩
   have bb := b39.same sL
   refine ⟨L, rfl, ⟨_, SqL.of gL⟩, ?_⟩
   generalize upd H9 L (.lst [.int 2, .int 3]) = H10 at *
   refine Jod (xs := [.int 2, .int 3]) (fun j σ H' => ∃ p1 p2, σ = [some (.ref x), some td, some (.ref o), some (.int (1 + i)), some (.ref p), some (.ref y), some xs, some cx, some yr, p1, p2] ∧ Same H10 H') ⟨_, _, rfl, Same.refl _⟩ (fun j σ H' _ ⟨_, _, _, sm⟩ => SqL.of (sm _ _ gL)) ?_ ?_
   ·rintro j mv σ H' hm ⟨p1, p2, rfl, sm⟩
    obtain ⟨m, rfl, hm'⟩ : ∃ m : Int, mv = .int m ∧ (m = 2 ∨ m = 3) := by
     have := List.mem_of_getElem? hm
     simp only [List.mem_cons, List.not_mem_nil, or_false] at this
     rcases this with rfl | rfl
     ·exact ⟨2, rfl, .inl rfl⟩
     ·exact ⟨3, rfl, .inr rfl⟩
    refine ⟨_, rfl, _, rfl, _, rfl, _, rfl, _, rfl, o, S, _, xs, cx, yr, q, r, rr, m, rfl, oi.same sm, hm', fun v H11 s11 ov => ?_⟩
    have sm1 := sm.trans s11
    refine ⟨_, rfl, _, rfl, _, rfl, _, rfl, _, rfl, _, rfl, o, S, _, xs, cx, yr, q, r, rr, m, rfl, oi.same sm1, fun v' H12 s12' ov' => ?_⟩
    have sm2 := sm1.trans s12'
    refine ⟨v, v', _, rfl, ov.same s12', ov', fun kk z e => ?_, _, rfl, Jlj ?_⟩
    ·unfold dueD at e
     split at e
     ·split at e
      ·split at e
       ·cases e; exact Own.same sm2 oy
       ·cases e
      ·cases e; exact Own.same sm2 oc
     ·cases e; exact Own.same sm2 ox
    ·exact ⟨_, _, rfl, sm2⟩
   rintro σ H' ⟨p1, p2, rfl, sm⟩
   exact ⟨_, _, _, _, _, _, _, _, rfl, fun c ob e => sm _ _ (bb.1 _ _ (Jkw (sH _ _ e) hp) (s3 _ _ (sH _ _ e)))⟩
  ·rintro σ H' ⟨o3, o4, o5, o6, o7, o8, o9, o10, rfl, sH⟩
   exact k _
end
theorem tx_mk {K : W.Frag} {mg : Str → Option Value} {f1 f2 f3 f4 f5 f6 f7 f8 f9 f10 f11 f12 f13 f14 f15 f16 f17 f18 f19 f20 f21 f22 f23 f24 f25 f26 f27 f28 f29 f31 f32 f33 f35 f36 f37 f38 f40 f41 f42 f44 f45 f46 f48 f49 f50 f52 f53 f54 f55 f56 f57 f58 f59 f61 f62 f63 f64 f65 f66 f67 f68 f69 f70 f71 f72 f73 f74 f75 f76 f77 f78 f79 f80 f81 f82 C0 C1 C2 C3 C4 C5 C6 C7 C8 C9 C10 C11 C12 C13 C14 C15 C16 C17 C18 C19 : Addr} {d1 d2 d3 d4 d5 d6 d7 d8 d9 d10 d11 d12 d13 d14 d15 d16 d17 d18 d19 d20 d21 d22 d23 d24 d25 d26 d27 d28 d29 d31 d32 d33 d35 d36 d37 d38 d40 d41 d42 d44 d45 d46 d48 d49 d50 d52 d53 d54 d55 d56 d57 d58 d59 d61 d62 d63 d64 d65 d66 d67 d68 d69 d70 d71 d72 d73 d74 d75 d76 d77 d78 d79 d80 d81 d82 : FuncData} {t0 t1 t2 t3 t4 t5 t6 t7 t8 t9 t10 : Tok}
(p0 : FT K mg "is_whole" (top 16) ["thing", "low", "high"] f11 d11)
(p1 : FT K mg "is_made_of" (top 17) ["text", "signs"] f12 d12)
(p2 : FT K mg "is_name" (top 18) ["thing"] f13 d13)
(p3 : FT K mg "is_row" (top 20) ["thing", "lows", "highs"] f14 d14)
(p4 : FT K mg "is_row_up_to" (top 21) ["thing", "highs"] f15 d15)
(p5 : FT K mg "is_pair" (top 22) ["thing"] f16 d16)
(p6 : FT K mg "is_standing" (top 23) ["river", "thing"] f17 d17)
(p7 : FT K mg "is_choice" (top 24) ["river", "thing"] f18 d18)
(p8 : FT K mg "forced_rain" (top 25) ["river", "wet"] f19 d19)
(p9 : FT K mg "is_rain" (top 26) ["river", "standing", "thing"] f20 d20)
(p10 : FT K mg "refuse_no_choice" (top 27) ["river", "standing", "choice"] f21 d21)
(p11 : FT K mg "place_drawn_from" (top 28) ["river", "town"] f22 d22)
(p12 : FT K mg "draw" (top 29) ["river", "standing", "choice"] f23 d23)
(p13 : FT K mg "paid_by" (top 30) ["river", "standing", "choice"] f24 d24)
(p14 : FT K mg "levels_left" (top 31) ["river", "standing", "choice", "drawn"] f25 d25)
(p15 : FT K mg "outs_at" (top 32) ["river", "settings", "levels"] f26 d26)
(p16 : FT K mg "levels_behind" (top 33) ["left", "outs", "rain"] f27 d27)
(p17 : FT K mg "broken_at" (top 34) ["river", "levels"] f28 d28)
(p18 : FT K mg "turned" (top 36) ["river", "standing", "choice", "rain"] f31 d31)
(p19 : FT K mg "are_marks" (top 41) ["thing", "lowest"] f32 d32)
(p20 : FT K mg "kept_marks" (top 42) ["marks", "lowest"] f33 d33)
(p21 : FT K mg "refuse_no_level" (top 56) ["thing", "low", "high"] f52 d52)
(p22 : FT K mg "are_unlike" (top 59) ["names"] f55 d55)
(p23 : FT K mg "are_basins" (top 60) ["thing"] f56 d56)
(p24 : FT K mg "are_towns" (top 61) ["thing", "basins"] f57 d57)
(p25 : FT K mg "_law_cell" (top 64) ["_law_script", "_law_k"] f61 d61)
(p26 : FT K mg "_law_stream" (top 65) ["_law_cell_here"] f62 d62)
(p27 : FT K mg "_law_take" (top 66) ["_law_stream_here", "_law_many"] f63 d63)
(p28 : FT K mg "_law_names" (top 67) ["_law_stream_here", "_law_many"] f64 d64)
(p29 : FT K mg "_law_gate" (top 68) ["_law_stream_here"] f65 d65)
(p30 : FT K mg "_law_basin" (top 69) ["_law_stream_here", "_law_name"] f66 d66)
(p31 : FT K mg "_law_river" (top 70) ["_law_cell_here"] f67 d67)
(p32 : FT K mg "_law_made_gate" (top 71) ["_law_told"] f68 d68)
(p33 : FT K mg "_law_made" (top 72) ["_law_told"] f69 d69)
(p34 : FT K mg "_law_settings" (top 73) ["_law_gate_here"] f70 d70)
(p35 : FT K mg "_law_standing" (top 74) ["_law_stream_here", "_law_told"] f71 d71)
(p36 : FT K mg "_law_choice" (top 75) ["_law_stream_here", "_law_told"] f72 d72)
(p37 : FT K mg "_law_forced" (top 76) ["_law_told", "_law_wet"] f73 d73)
(p38 : FT K mg "_law_raised" (top 77) ["_law_told", "_law_wet", "_law_row"] f74 d74)
(p39 : FT K mg "_law_rain" (top 78) ["_law_stream_here", "_law_told", "_law_wet"] f75 d75)
(p40 : FT K mg "_law_spoilt" (top 79) ["_law_stream_here", "_law_thing"] f76 d76)
(p41 : FT K mg "_law_pair_spoilt" (top 80) ["_law_stream_here", "_law_pair"] f77 d77)
(p42 : FT K mg "_law_kinds" (top 81) ["_law_e"] f78 d78)
(p43 : FT K mg "_law_outcome" (top 82) ["_law_river_here", "_law_standing_here", "_law_choice_here", "_law_rain_here", "_law_many"] f79 d79)
(p44 : FT K mg "_law_due" (top 83) ["_law_river_here", "_law_standing_here", "_law_choice_here", "_law_rain_here", "_law_many"] f80 d80)
(p45 : FT K mg "_law_alike" (top 84) ["_law_found", "_law_due_here"] f81 d81)
(p46 : FT K mg "law" (top 85) ["_law_script"] f82 d82)
(p47 : mg "LETTERS" = some (.str "abcdefghijklmnopqrstuvwxyz" t0))
(p48 : mg "MOST_LETTERS" = some (.int 8 t1))
(p49 : mg "MOST_SETTINGS" = some (.int 4 t2))
(p50 : mg "HIGHEST_MARK" = some (.int 12 t3))
(p51 : mg "HIGHEST_LEVEL" = some (.int 1000 t4))
(p52 : mg "HIGHEST" = some (.int 12 t5))
(p53 : mg "MOST_RAIN" = some (.int 6 t6))
(p54 : mg "MOST_WANT" = some (.int 6 t7))
(p55 : mg "MOST_CLOUD" = some (.int 12 t8))
(p56 : mg "MOST_BASINS" = some (.int 16 t9))
(p57 : mg "MOST_TOWNS" = some (.int 3 t10))
(p58 : mg "ValueError" = none)
(p59 : mg "all" = none)
(p60 : mg "bool" = none)
(p61 : mg "enumerate" = none)
(p62 : mg "int" = none)
(p63 : mg "isinstance" = none)
(p64 : mg "len" = none)
(p65 : mg "list" = none)
(p66 : mg "max" = none)
(p67 : mg "min" = none)
(p68 : mg "range" = none)
(p69 : mg "set" = none)
(p70 : mg "str" = none)
(p71 : mg "sum" = none)
(p72 : mg "tuple" = none)
(p73 : mg "zip" = none)
(p74 : mg "WeirError" = some (.ref C0))
(p75 : mg "NoName" = some (.ref C1))
(p76 : mg "NoGate" = some (.ref C2))
(p77 : mg "NoBasin" = some (.ref C3))
(p78 : mg "NoTown" = some (.ref C4))
(p79 : mg "NoCloud" = some (.ref C5))
(p80 : mg "NoRiver" = some (.ref C6))
(p81 : mg "NoStanding" = some (.ref C7))
(p82 : mg "NoChoice" = some (.ref C8))
(p83 : mg "NoRain" = some (.ref C9))
(p84 : mg "NoNumber" = some (.ref C10))
(p85 : mg "Turn" = some (.ref C11))
(p86 : mg "Gate" = some (.ref C12))
(p87 : mg "StepGate" = some (.ref C13))
(p88 : mg "FlapGate" = some (.ref C14))
(p89 : mg "PartGate" = some (.ref C15))
(p90 : mg "StuckGate" = some (.ref C16))
(p91 : mg "Basin" = some (.ref C17))
(p92 : mg "Town" = some (.ref C18))
(p93 : mg "River" = some (.ref C19))
(p94 : W.findIn K (.ref C1) "__init__" = some (some (.ref f1)))
(p95 : FM K "__init__" "NoName.__init__" (Jkx (top 3) 0) ["self", "thing"] f1 d1)
(p96 : W.findIn K (.ref C2) "__init__" = some (some (.ref f2)))
(p97 : FM K "__init__" "NoGate.__init__" (Jkx (top 4) 0) ["self", "thing"] f2 d2)
(p98 : W.findIn K (.ref C3) "__init__" = some (some (.ref f3)))
(p99 : FM K "__init__" "NoBasin.__init__" (Jkx (top 5) 0) ["self", "thing"] f3 d3)
(p100 : W.findIn K (.ref C4) "__init__" = some (some (.ref f4)))
(p101 : FM K "__init__" "NoTown.__init__" (Jkx (top 6) 0) ["self", "thing"] f4 d4)
(p102 : W.findIn K (.ref C5) "__init__" = some (some (.ref f5)))
(p103 : FM K "__init__" "NoCloud.__init__" (Jkx (top 7) 0) ["self", "thing"] f5 d5)
(p104 : W.findIn K (.ref C6) "__init__" = some (some (.ref f6)))
(p105 : FM K "__init__" "NoRiver.__init__" (Jkx (top 8) 0) ["self", "thing"] f6 d6)
(p106 : W.findIn K (.ref C7) "__init__" = some (some (.ref f7)))
(p107 : FM K "__init__" "NoStanding.__init__" (Jkx (top 9) 0) ["self", "thing"] f7 d7)
(p108 : W.findIn K (.ref C8) "__init__" = some (some (.ref f8)))
(p109 : FM K "__init__" "NoChoice.__init__" (Jkx (top 10) 0) ["self", "thing"] f8 d8)
(p110 : W.findIn K (.ref C9) "__init__" = some (some (.ref f9)))
(p111 : FM K "__init__" "NoRain.__init__" (Jkx (top 11) 0) ["self", "thing"] f9 d9)
(p112 : W.findIn K (.ref C10) "__init__" = some (some (.ref f10)))
(p113 : FM K "__init__" "NoNumber.__init__" (Jkx (top 12) 0) ["self", "thing"] f10 d10)
(p114 : W.findIn K (.ref C11) "__init__" = some (some (.ref f29)))
(p115 : FM K "__init__" "Turn.__init__" (Jkx (top 35) 0) ["self", "river", "standing", "choice", "rain"] f29 d29)
(p116 : W.findIn K (.ref C12) "lets" = some (some (.ref f35)))
(p117 : FM K "lets" "Gate.lets" (Jkx (top 44) 0) ["self", "setting", "level"] f35 d35)
(p118 : W.findIn K (.ref C13) "__init__" = some (some (.ref f36)))
(p119 : FM K "__init__" "StepGate.__init__" (Jkx (top 45) 0) ["self", "marks"] f36 d36)
(p120 : W.findIn K (.ref C13) "settings" = some (some (.ref f37)))
(p121 : FM K "settings" "StepGate.settings" (Jkx (top 45) 1) ["self"] f37 d37)
(p122 : W.findIn K (.ref C13) "passes" = some (some (.ref f38)))
(p123 : FM K "passes" "StepGate.passes" (Jkx (top 45) 2) ["self", "setting", "level"] f38 d38)
(p124 : W.findIn K (.ref C14) "__init__" = some (some (.ref f40)))
(p125 : FM K "__init__" "FlapGate.__init__" (Jkx (top 46) 0) ["self", "marks"] f40 d40)
(p126 : W.findIn K (.ref C14) "settings" = some (some (.ref f41)))
(p127 : FM K "settings" "FlapGate.settings" (Jkx (top 46) 1) ["self"] f41 d41)
(p128 : W.findIn K (.ref C14) "passes" = some (some (.ref f42)))
(p129 : FM K "passes" "FlapGate.passes" (Jkx (top 46) 2) ["self", "setting", "level"] f42 d42)
(p130 : W.findIn K (.ref C15) "__init__" = some (some (.ref f44)))
(p131 : FM K "__init__" "PartGate.__init__" (Jkx (top 47) 0) ["self", "marks"] f44 d44)
(p132 : W.findIn K (.ref C15) "settings" = some (some (.ref f45)))
(p133 : FM K "settings" "PartGate.settings" (Jkx (top 47) 1) ["self"] f45 d45)
(p134 : W.findIn K (.ref C15) "passes" = some (some (.ref f46)))
(p135 : FM K "passes" "PartGate.passes" (Jkx (top 47) 2) ["self", "setting", "level"] f46 d46)
(p136 : W.findIn K (.ref C16) "__init__" = some (some (.ref f48)))
(p137 : FM K "__init__" "StuckGate.__init__" (Jkx (top 48) 0) ["self", "gate", "setting"] f48 d48)
(p138 : W.findIn K (.ref C16) "settings" = some (some (.ref f49)))
(p139 : FM K "settings" "StuckGate.settings" (Jkx (top 48) 1) ["self"] f49 d49)
(p140 : W.findIn K (.ref C16) "passes" = some (some (.ref f50)))
(p141 : FM K "passes" "StuckGate.passes" (Jkx (top 48) 2) ["self", "setting", "level"] f50 d50)
(p142 : W.findIn K (.ref C17) "__init__" = some (some (.ref f53)))
(p143 : FM K "__init__" "Basin.__init__" (Jkx (top 57) 0) ["self", "name", "low", "high", "start", "rain", "gate"] f53 d53)
(p144 : W.findIn K (.ref C18) "__init__" = some (some (.ref f54)))
(p145 : FM K "__init__" "Town.__init__" (Jkx (top 58) 0) ["self", "name", "basin", "want"] f54 d54)
(p146 : W.findIn K (.ref C19) "__init__" = some (some (.ref f58)))
(p147 : FM K "__init__" "River.__init__" (Jkx (top 62) 0) ["self", "cloud", "gain", "basins", "towns"] f58 d58)
(p148 : W.findIn K (.ref C19) "place_of" = some (some (.ref f59)))
(p149 : FM K "place_of" "River.place_of" (Jkx (top 62) 1) ["self", "name"] f59 d59)
(p150 : XCls K C1 C0 f1)
(p151 : W.findIn K (.ref C1) "thing" = some none)
(p152 : XCls K C2 C0 f2)
(p153 : W.findIn K (.ref C2) "thing" = some none)
(p154 : XCls K C3 C0 f3)
(p155 : W.findIn K (.ref C3) "thing" = some none)
(p156 : XCls K C4 C0 f4)
(p157 : W.findIn K (.ref C4) "thing" = some none)
(p158 : XCls K C5 C0 f5)
(p159 : XCls K C6 C0 f6)
(p160 : XCls K C7 C0 f7)
(p161 : W.findIn K (.ref C7) "thing" = some none)
(p162 : XCls K C8 C0 f8)
(p163 : W.findIn K (.ref C8) "thing" = some none)
(p164 : XCls K C9 C0 f9)
(p165 : W.findIn K (.ref C9) "thing" = some none)
(p166 : XCls K C10 C0 f10)
(p167 : Cls K C11)
(p168 : Mk K C11 f29)
(p169 : W.findIn K (.ref C11) "choice" = some none)
(p170 : W.findIn K (.ref C11) "rain" = some none)
(p171 : W.findIn K (.ref C11) "drawn" = some none)
(p172 : W.findIn K (.ref C11) "paid" = some none)
(p173 : W.findIn K (.ref C11) "outs" = some none)
(p174 : W.findIn K (.ref C11) "levels" = some none)
(p175 : W.findIn K (.ref C11) "wet" = some none)
(p176 : W.findIn K (.ref C11) "broken" = some none)
(p177 : Cls K C13)
(p178 : YCls K C13)
(p179 : Mk K C13 f36)
(p180 : Jmr K C13 "lets" f35)
(p181 : Jmr K C13 "settings" f37)
(p182 : Jmr K C13 "passes" f38)
(p183 : W.findIn K (.ref C13) "marks" = some none)
(p184 : Cls K C14)
(p185 : YCls K C14)
(p186 : Mk K C14 f40)
(p187 : Jmr K C14 "lets" f35)
(p188 : Jmr K C14 "settings" f41)
(p189 : Jmr K C14 "passes" f42)
(p190 : W.findIn K (.ref C14) "marks" = some none)
(p191 : Cls K C15)
(p192 : YCls K C15)
(p193 : Mk K C15 f44)
(p194 : Jmr K C15 "lets" f35)
(p195 : Jmr K C15 "settings" f45)
(p196 : Jmr K C15 "passes" f46)
(p197 : W.findIn K (.ref C15) "marks" = some none)
(p198 : Cls K C16)
(p199 : YCls K C16)
(p200 : Mk K C16 f48)
(p201 : Jmr K C16 "lets" f35)
(p202 : Jmr K C16 "settings" f49)
(p203 : Jmr K C16 "passes" f50)
(p204 : W.findIn K (.ref C16) "gate" = some none)
(p205 : W.findIn K (.ref C16) "setting" = some none)
(p206 : Cls K C17)
(p207 : YCls K C17)
(p208 : Mk K C17 f53)
(p209 : W.findIn K (.ref C17) "name" = some none)
(p210 : W.findIn K (.ref C17) "low" = some none)
(p211 : W.findIn K (.ref C17) "high" = some none)
(p212 : W.findIn K (.ref C17) "start" = some none)
(p213 : W.findIn K (.ref C17) "rain" = some none)
(p214 : W.findIn K (.ref C17) "gate" = some none)
(p215 : Cls K C18)
(p216 : YCls K C18)
(p217 : Mk K C18 f54)
(p218 : W.findIn K (.ref C18) "name" = some none)
(p219 : W.findIn K (.ref C18) "basin" = some none)
(p220 : W.findIn K (.ref C18) "want" = some none)
(p221 : Cls K C19)
(p222 : Mk K C19 f58)
(p223 : Jmr K C19 "place_of" f59)
(p224 : W.findIn K (.ref C19) "cloud" = some none)
(p225 : W.findIn K (.ref C19) "gain" = some none)
(p226 : W.findIn K (.ref C19) "basins" = some none)
(p227 : W.findIn K (.ref C19) "towns" = some none)
(p228 : W.kitOne K (.ref C13) (.ref C12) = some true)
(p229 : W.kitOne K (.ref C14) (.ref C12) = some true)
(p230 : W.kitOne K (.ref C15) (.ref C12) = some true)
(p231 : W.kitOne K (.ref C16) (.ref C12) = some true)
(p232 : W.kitOne K (.ref C17) (.ref C17) = some true)
(p233 : W.kitOne K (.ref C18) (.ref C18) = some true)
(p234 : W.kitOne K (.ref C13) (.type "bool") = some false)
(p235 : W.kitOne K (.ref C14) (.type "bool") = some false)
(p236 : W.kitOne K (.ref C15) (.type "bool") = some false)
(p237 : W.kitOne K (.ref C16) (.type "bool") = some false)
(p238 : W.kitAny K (.ref C13) [.ref C13, .ref C14, .ref C15, .ref C16] = some true)
(p239 : W.kitAny K (.ref C14) [.ref C13, .ref C14, .ref C15, .ref C16] = some true)
(p240 : W.kitAny K (.ref C15) [.ref C13, .ref C14, .ref C15, .ref C16] = some true)
(p241 : W.kitAny K (.ref C16) [.ref C13, .ref C14, .ref C15, .ref C16] = some true)
(p242 : W.kitOne K (.ref C13) (.ref C16) = some false)
(p243 : W.kitOne K (.ref C14) (.ref C16) = some false)
(p244 : W.kitOne K (.ref C15) (.ref C16) = some false)
(p245 : W.kitOne K (.ref C7) (.ref C7) = some true)
(p246 : W.kitOne K (.ref C7) (.ref C8) = some false)
(p247 : W.kitOne K (.ref C7) (.ref C9) = some false)
(p248 : W.kitOne K (.ref C8) (.ref C7) = some false)
(p249 : W.kitOne K (.ref C8) (.ref C8) = some true)
(p250 : W.kitOne K (.ref C8) (.ref C9) = some false)
(p251 : W.kitOne K (.ref C9) (.ref C7) = some false)
(p252 : W.kitOne K (.ref C9) (.ref C8) = some false)
(p253 : W.kitOne K (.ref C9) (.ref C9) = some true)
(p254 : W.kitOne K (.ref C7) (.ref C0) = some true)
(p255 : W.kitOne K (.ref C8) (.ref C0) = some true)
(p256 : W.kitOne K (.ref C9) (.ref C0) = some true)
(p257 : W.kitOne K (.ref C7) (.type "ValueError") = some true)
(p258 : W.kitOne K (.ref C8) (.type "ValueError") = some true)
(p259 : W.kitOne K (.ref C9) (.type "ValueError") = some true)
(p260 : W.mroIn K C7 (.ref C7) = some true)
(p261 : W.mroIn K C8 (.ref C7) = some false)
(p262 : W.mroIn K C8 (.ref C8) = some true)
(p263 : W.mroIn K C9 (.ref C7) = some false)
(p264 : W.mroIn K C9 (.ref C8) = some false)
(p265 : W.mroIn K C9 (.ref C9) = some true) :
  ∃ a : Ad, a.d_law = d82 ∧ Tx K mg a := ⟨⟨f1, d1, f2, d2, f3, d3, f4, d4, f5, d5, f6, d6, f7, d7, f8, d8, f9, d9, f10, d10, f11, d11, f12, d12, f13, d13, f14, d14, f15, d15, f16, d16, f17, d17, f18, d18, f19, d19, f20, d20, f21, d21, f22, d22, f23, d23, f24, d24, f25, d25, f26, d26, f27, d27, f28, d28, f29, d29, f31, d31, f32, d32, f33, d33, f35, d35, f36, d36, f37, d37, f38, d38, f40, d40, f41, d41, f42, d42, f44, d44, f45, d45, f46, d46, f48, d48, f49, d49, f50, d50, f52, d52, f53, d53, f54, d54, f55, d55, f56, d56, f57, d57, f58, d58, f59, d59, f61, d61, f62, d62, f63, d63, f64, d64, f65, d65, f66, d66, f67, d67, f68, d68, f69, d69, f70, d70, f71, d71, f72, d72, f73, d73, f74, d74, f75, d75, f76, d76, f77, d77, f78, d78, f79, d79, f80, d80, f81, d81, f82, d82, t0, t1, t2, t3, t4, t5, t6, t7, t8, t9, t10, C0, C1, C2, C3, C4, C5, C6, C7, C8, C9, C10, C11, C12, C13, C14, C15, C16, C17, C18, C19⟩, rfl, ⟨p0, p1, p2, p3, p4, p5, p6, p7, p8, p9, p10, p11, p12, p13, p14, p15, p16, p17, p18, p19, p20, p21, p22, p23, p24, p25, p26, p27, p28, p29, p30, p31, p32, p33, p34, p35, p36, p37, p38, p39, p40, p41, p42, p43, p44, p45, p46, p47, p48, p49, p50, p51, p52, p53, p54, p55, p56, p57, p58, p59, p60, p61, p62, p63, p64, p65, p66, p67, p68, p69, p70, p71, p72, p73, p74, p75, p76, p77, p78, p79, p80, p81, p82, p83, p84, p85, p86, p87, p88, p89, p90, p91, p92, p93, p95, p97, p99, p101, p103, p105, p107, p109, p111, p113, p115, p117, p119, p121, p123, p125, p127, p129, p131, p133, p135, p137, p139, p141, p143, p145, p147, p149, p150, p151, p152, p153, p154, p155, p156, p157, p158, p159, p160, p160.e, p161, p162, p162.e, p163, p164, p164.e, p165, p166, p167, p168, p169, p170, p171, p172, p173, p174, p175, p176, p177, p178, p179, p180, p181, p182, p183, p184, p185, p186, p187, p188, p189, p190, p191, p192, p193, p194, p195, p196, p197, p198, p199, p200, p201, p202, p203, p204, p205, p206, p207, p208, p209, p210, p211, p212, p213, p214, p215, p216, p217, p218, p219, p220, p221, p222, p223, p224, p225, p226, p227, p228, p229, p230, p231, p232, p233, p234, p235, p236, p237, p238, p239, p240, p241, p242, p243, p244, p245, p246, p247, p248, p249, p250, p251, p252, p253, p254, p255, p256, p257, p258, p259, p260, p261, p262, p263, p264, p265⟩⟩
theorem tx_fin {K : W.Frag} {mg : Str → Option Value} {d : FuncData} (h : ∃ a : Ad, a.d_law = d ∧ Tx K mg a) (b : ∀ (s : Shared) (v : Value), BindsTo s d ⟨[v], []⟩ [("_law_script", v)]) : ∃ a : Ad, (∀ (s : Shared) (v : Value), BindsTo s a.d_law ⟨[v], []⟩ [("_law_script", v)]) ∧ Tx K mg a := by
 obtain ⟨a, e, T⟩ := h
 exact ⟨a, by rw [e]; exact b, T⟩
end K13
namespace PySem.W.Fast
def tw2251794637860302377 := ()
def tw3017100668991397078 := ()
def tw3764305951235652479 := ()
def tw430869924261866457 := ()
def tw4349382786583260687 := ()
def tw645395483110481903 := ()
def tw6829866694023017227 := ()
def tw8131356400909142981 := ()
def tw17945779599114034945 := ()
def tw10238796948664622769 := ()
def tw10346987320424546935 := ()
def tw10991885460924597255 := ()
def tw11402233821843020228 := ()
def tw11881688964081314122 := ()
def tw12817304956769371633 := ()
def tw13508816735809924441 := ()
def tw13842288886323901588 := ()
def tw14655179140248572373 := ()
def tw15437107719028903360 := ()
def tw16221233031162246241 := ()
def tw16636051722410241569 := ()
def tw18346009040536952909 := ()
def tw18382494083007415266 := ()
def tw1902455692367365717 := ()
def tw3107871563919749192 := ()
def tw4418651944598993930 := ()
def tw6427570923051442039 := ()
def tw767263995057831513 := ()
def tw8770645909632929419 := ()
def tw8964041193266666041 := ()
def tw8982441698065991389 := ()
def tw9395792676192780306 := ()
def tw15060343775295694144 := ()
def tw1139362599361288612 := ()
def tw12077814652009140081 := ()
def tw12477967888734174405 := ()
def tw14410170115857342827 := ()
def tw14799540516497950348 := ()
def tw15300710884692587207 := ()
def tw15958584199718214394 := ()
def tw18021926572253224424 := ()
def tw275129362818087319 := ()
def tw3462929480843284012 := ()
def tw5834487115035891204 := ()
def tw7588268319332403730 := ()
def tw68441577570292759 := ()
def tw1686882425042497619 := ()
def tw16971814136218196643 := ()
def tw17307610225921188779 := ()
def tw5154101420320607433 := ()
def tw5940315975105493712 := ()
def tw12304305522929363204 := ()
def tw13002154164489596981 := ()
def tw13368534879938127502 := ()
def tw15354898892594374659 := ()
def tw17996466391199163345 := ()
def tw180538319638036793 := ()
def tw3245872112361228212 := ()
def tw3916087483700165272 := ()
def tw3961490773479296539 := ()
def tw569660028443584218 := ()
def tw6465983347512365166 := ()
def tw6945770992282076662 := ()
def tw9151721771516724242 := ()
def tw10788092445448768753 := ()
def tw1296029583935904653 := ()
def tw13848744519616428859 := ()
def tw13853439731221242813 := ()
def tw14039926302813396757 := ()
def tw15773161495202829265 := ()
def tw16337049284028383149 := ()
def tw1706380808564752197 := ()
def tw1757886149910972383 := ()
def tw18239585003510053678 := ()
def tw18324158146938176723 := ()
def tw3344182259805854746 := ()
def tw4787125992747418298 := ()
def tw6447734895861809045 := ()
def tw7839959389299380406 := ()
def tw9125998423125162027 := ()
def tw9932302808204301166 := ()
def tw13752549000268224297 := ()
def tw3079098400140225378 := ()
def tw3732525518087381512 := ()
def tw3852197779230623308 := ()
def tw5174984335677372491 := ()
def tw7496819355058205509 := ()
def tw7873426511713854933 := ()
def tw9600084259889263771 := ()
def tw10947793410418121032 := ()
def tw11538586651943184636 := ()
def tw11662968133680577013 := ()
def tw12973883597294634786 := ()
def tw15868179010684626002 := ()
def tw17779028606815524987 := ()
def tw2318438325386607519 := ()
def tw8247502442060982706 := ()
def tw10056156343971908413 := ()
def tw11047787889428687160 := ()
def tw11735575667025429409 := ()
def tw12884201642059536464 := ()
def tw13164866670253708948 := ()
def tw13207217339341062332 := ()
def tw14075693916043348310 := ()
def tw14996152201910494064 := ()
def tw15851463531119849968 := ()
def tw16136839371725902639 := ()
def tw16241391127670341920 := ()
def tw16948385869803353552 := ()
def tw17418313971699243597 := ()
def tw17731207680252579776 := ()
def tw3582000431106225798 := ()
def tw3689158690332187291 := ()
def tw5071959425378719681 := ()
def tw6781341388984937234 := ()
def tw6995454827575195657 := ()
def tw7852434669020357973 := ()
def tw9312671653499180144 := ()
def tw9364413718689084080 := ()
def tw2172613573836887818 := ()
def tw1022092032844373823 := ()
def tw11983114807897081271 := ()
def tw12142619552796137181 := ()
def tw12856991494362442518 := ()
def tw12933076647505319159 := ()
def tw13117771324391280272 := ()
def tw1333901707531150015 := ()
def tw13352148108017290358 := ()
def tw14229965000799206421 := ()
def tw15011702039900497003 := ()
def tw15526685533273011408 := ()
def tw15851287570434109898 := ()
def tw15964421480992678214 := ()
def tw17264549761404995431 := ()
def tw17498009105975987873 := ()
def tw17876424457955948337 := ()
def tw18352797020348261588 := ()
def tw2752626744640851159 := ()
def tw3376238329418195967 := ()
def tw3439556531119043979 := ()
def tw4042928055271160256 := ()
def tw4140956568890129952 := ()
def tw4658630102750583214 := ()
def tw4960345285539275023 := ()
def tw5311410239896510693 := ()
def tw7022331093209830092 := ()
def tw783950966505342114 := ()
def tw8230945966886448154 := ()
def tw8704322317667772524 := ()
def tw9701219942728400743 := ()
def tw6753777042259029077 := ()
def tw17182335075368166298 := ()
def tw3204327294290831581 := ()
def tw959837112307952950 := ()
def tw12692000873328085706 := ()
def tw17755754756886968957 := ()
def tw2770669833441481640 := ()
def tw9273846079194556692 := ()
def tw14222246975729708852 := ()
def tw9406032940968336876 := ()
def tw12605353883036017733 := ()
def tw12625171300675941705 := ()
def tw15993019064592916775 := ()
def tw12699076363474285226 := ()
def tw14838701964637077477 := ()
def tw17204132116229205346 := ()
def tw13190291362821625591 := ()
def tw1450651671678723825 := ()
def tw1473359360740363871 := ()
def tw15024783154608775321 := ()
def tw18400593103170390901 := ()
def tw206626057935633789 := ()
def tw3724050103930252059 := ()
def tw9161593998230973495 := ()
def tw9964343103998294974 := ()
def tw15967727469001763371 := ()
def tw12755612047440744323 := ()
def tw3078609156950099334 := ()
def tw6692482443816876239 := ()
def tw830316716562707595 := ()
def tw8509709084714040161 := ()
def tw2615654625846432242 := ()
def tw5239770808902250957 := ()
def tw6356754432620592419 := ()
def tw3761458847831641445 := ()
def tw441058172013984022 := ()
def tw5153806731497582280 := ()
def tw5739118413765837970 := ()
def tw6002641451248666931 := ()
def tw1237247199688366094 := ()
def tw66594657641720977 := ()
def tw7930684585542794415 := ()
def tw12879097452089926968 := ()
def tw14834745246113053701 := ()
def tw3704220741979953141 := ()
def tw4620343544728454161 := ()
def tw4889028473722006974 := ()
def tw5660198633838583233 := ()
def tw7792903736927269375 := ()
def tw9830641743137881354 := ()
def tw13035420569291752215 := ()
def tw5925335944492618082 := ()
def tw15390538603571099499 := ()
def tw6127457629575598103 := ()
def tw10602448476371108408 := ()
def tw10963792264573406569 := ()
def tw5746864699829268482 := ()
def tw10960607723294972276 := ()
def tw17488803476154266786 := ()
def tw8628377208992180935 := ()
def tw11012929078976844497 := ()
def tw7171599822410559350 := ()
def tw10851867401802037184 := ()
def tw11621629033135123282 := ()
def tw5676472680249782167 := ()
def tw11691283923265933592 := ()
def tw16247306324741512307 := ()
def tw847998330974681327 := ()
def tw15872629468927091718 := ()
def tw8380558181434336406 := ()
def tw1615327681071838041 := ()
def tw16209019285509964638 := ()
def tw5274447772968944841 := ()
def tw13562900311348741414 := ()
def tw4777356859467061611 := ()
def tw5565590914657079275 := ()
def tw7091273046575445202 := ()
def tw5850920778493133958 := ()
def tw3847830522743184151 := ()
def tw2562406463953511088 := ()
def tw8870063114910299566 := ()
def tw1445958615293608066 := ()
def tw1089271339435285938 := ()
def tw16336634089516406069 := ()
def tw6126327801572357072 := ()
def tw1081760599527744897 := ()
def tw869559189022666486 := ()
def tw17596213740609113097 := ()
def tw16035038781482749642 := ()
def tw5715518116566159378 := ()
def tw3509592182684405670 := ()
def tw7579812851115993526 := ()
def tw8699160475973010598 := ()
def tw17723657814723869007 := ()
def tw8609126943512239122 := ()
def tw1187477956620868716 := ()
def tw13770991736893005183 := ()
def tw8107420482142373814 := ()
def tw3909556428001357190 := ()
def tw11857605168499915455 := ()
def tw12683977922420368040 := ()
def tw323437698709560961 := ()
def tw18298405911410200552 := ()
def tw13601853197451495230 := ()
def tw15378442417755424452 := ()
def tw12186824130381435265 := ()
def tw10457263709438092754 := ()
def tw11726873666256202849 := ()
def tw12590332034533365334 := ()
def tw2909461714305297309 := ()
def tw5668532916288798476 := ()
def tw12025970037732702221 := ()
def tw261668045998353579 := ()
def tw10986924139250119254 := ()
def tw16512281738315691852 := ()
def tw7163852697820837996 := ()
def tw16880263128068198609 := ()
def tw3405450796262712617 := ()
def tw17004703819250290232 := ()
def tw4821198323553955019 := ()
def tw3639192992029907024 := ()
def tw5679487689882848738 := ()
def tw13803989432474099456 := ()
def tw8707470617398408822 := ()
def tw8784422074272469357 := ()
def tw7876198513953892989 := ()
def tw8614178623267697598 := ()
def tw3503778548647389121 := ()
def tw6713944762060186880 := ()
def tw11774875969919414895 := ()
def tw2522023478899749143 := ()
def tw14249229284920639203 := ()
def tw15370569626296753264 := ()
def tw16191500246049523941 := ()
def tw15643466675179294637 := ()
def tw15836167504724473465 := ()
def tw14817355255020177905 := ()
def tw11929126480013138017 := ()
def tw4143604645431268670 := ()
def tw16555211534871254298 := ()
def tw4902194901553503939 := ()
def tw17189821060065249979 := ()
def tw9849156637693904627 := ()
def tw8964954673077010873 := ()
def tw9248433702040920092 := ()
def tw8522220921790926885 := ()
def tw15323579157276992065 := ()
def tw4606782918491183367 := ()
def tw9634325158233159318 := ()
def tw718698888317203058 := ()
def tw11191777066244986669 := ()
def tw4322652138643517106 := ()
def tw16185164908192787998 := ()
def tw17791966584971079695 := ()
def tw17571711977978638527 := ()
def tw14679263956824433038 := ()
def tw15687903164241477198 := ()
def tw6770063960918309682 := ()
def tw10346466475622832488 := ()
def tw11618714104637231938 := ()
def tw10702459073509682095 := ()
def tw17545649596065481128 := ()
def tw5648058209129895632 := ()
def tw3385603372117085705 := ()
def tw13938056798592395355 := ()
def tw8900622351460717973 := ()
def tw13121644229370860674 := ()
def tw13951075686370927147 := ()
def tw10651721141346713148 := ()
def tw2437889193393664618 := ()
def tw12701183185329378137 := ()
def tw2743977767592805983 := ()
def tw15225701223558269180 := ()
def tw5939528870186571795 := ()
def tw7626327577172391992 := ()
def tw2064873104106867574 := ()
def tw6623309948078795972 := ()
def tw7704715510808374184 := ()
def tw1288432003904291555 := ()
def tw8443428937085109492 := ()
def tw16110267281137558974 := ()
def tw16351653171200302214 := ()
def tw3091165039181850182 := ()
def tw3017799390182613062 := ()
def tw5739840344951613961 := ()
def tw9074100447503430211 := ()
def tw13403883532533974306 := ()
def tw14352250882978447474 := ()
def tw9247842969188436917 := ()
def tw1096263205366395447 := ()
def tw332618440512284788 := ()
def tw17525320483808581605 := ()
def tw866574911399332381 := ()
def tw12838453844172990018 := ()
def tw9742423919017979820 := ()
def tw2604659898396982548 := ()
def tw16453630147170303559 := ()
def tw2374914206068160525 := ()
def tw13467962764661585020 := ()
def tw14435698708387754384 := ()
def tw7913219664701425283 := ()
def tw16574848077071098486 := ()
def tw7173930022617712145 := ()
def tw9721125586468785210 := ()
def tw842936368192041940 := ()
def tw8717570667042654474 := ()
def tw15774521460563019447 := ()
def tw728387268013123699 := ()
def tw5762239720021013057 := ()
def tw11388703978303398281 := ()
def tw2973700133138938206 := ()
def tw14516156760446480061 := ()
def tw10661423852093476918 := ()
def tw789913958315255769 := ()
def tw13897465008922923804 := ()
def tw9670676179523818984 := ()
def tw11300674372025021599 := ()
def tw17109705033489624471 := ()
def tw10770523509425553789 := ()
def tw13440065723051866877 := ()
def tw18010626412325925009 := ()
def tw1602956214406433954 := ()
def tw16241158721634409247 := ()
def tw9764441424806988582 := ()
def tw5946617983519489022 := ()
def tw2837247809606005767 := ()
def tw15413973724557690703 := ()
def tw576742522949589451 := ()
def tw3229870153491470012 := ()
def tw15824657330922451767 := ()
def tw5007212089867653148 := ()
def tw6678426648259260569 := ()
def tw11531287694475961881 := ()
def tw3066208288552849372 := ()
def tw3929294333820123292 := ()
def tw9786224619615137184 := ()
def tw9265388366984424585 := ()
def tw5792391013343318323 := ()
def tw12280357951674122905 := ()
def tw3954142612405358801 := ()
def tw17585920286309172003 := ()
def tw5226046306239357185 := ()
def tw18202238564600177177 := ()
def tw8407521970169992648 := ()
def tw17327625625519097116 := ()
def tw1844557116236400398 := ()
def tw10747414837995286269 := ()
def tw3189408934778408469 := ()
def tw1143984187718920005 := ()
def tw9468354812046121015 := ()
def tw1687285918294095145 := ()
def tw8712863515740103422 := ()
def tw4066205590399653397 := ()
def tw2093327041002681546 := ()
def tw12919671000718475411 := ()
def tw4228495672186481816 := ()
def tw8190050753633092448 := ()
def tw1057921796017372433 := ()
def tw17953792978002008100 := ()
def tw5228131910835429113 := ()
def tw2278438129995849348 := ()
def tw1833839423356401586 := ()
def tw9156655194280918408 := ()
def tw14404039034082547670 := ()
def tw11360473147352293449 := ()
def tw7172680921702582363 := ()
def tw14156339384606514303 := ()
def tw9075937017364323405 := ()
def tw680800359391954215 := ()
def tw14087994887886238338 := ()
def tw11496050693436839884 := ()
end PySem.W.Fast
open PySem PySem.W PyProof.Rows
set_option maxRecDepth 100000 in
set_option maxHeartbeats 0 in
theorem PySem.Challenge.cw_weirwatch_k13_turns_refused_holds : PySem.Challenge.rw_weirwatch_k13_turns_refused.Holds := by
 w_on; o_law; k_head; (case hw => w_witness2)
 k_fill
 refine L2.walk_ofK (l := PySem.Challenge.rw_weirwatch_k13_turns_refused) (n := 63) (k := 9) (x := "_law_script") (CX := L2.CX0) (sp := K13.spLaw) rfl (by decide) rfl ⟨rfl, by decide, by decide⟩ (fun w h Y => PySem.W.kIn_of Y) ?F ?S ?C
 case F =>
  intro w mg fa h KX G hmg
  have T : ∃ a : K13.Ad, (∀ (s : Shared) (v : Value), BindsTo s a.d_law ⟨[v], []⟩ [("_law_script", v)]) ∧ K13.Tx (L2.KOf KX) mg a := by
   dsimp only [L2.KOf]
   refine' K13.tx_fin ?tx ?bb
   case tx =>
    refine' K13.tx_mk (L2.ft_mk KX G ?h0 ?h1 ?h2 ?h3 fun _ _ _ _ _ _ u h => match u, h with | [_, _, _], _ => rfl) (L2.ft_mk KX G ?h4 ?h5 ?h6 ?h7 fun _ _ _ _ _ _ u h => match u, h with | [_, _], _ => rfl) (L2.ft_mk KX G ?h8 ?h9 ?h10 ?h11 fun _ _ _ _ _ _ u h => match u, h with | [_], _ => rfl) (L2.ft_mk KX G ?h12 ?h13 ?h14 ?h15 fun _ _ _ _ _ _ u h => match u, h with | [_, _, _], _ => rfl) (L2.ft_mk KX G ?h16 ?h17 ?h18 ?h19 fun _ _ _ _ _ _ u h => match u, h with | [_, _], _ => rfl) (L2.ft_mk KX G ?h20 ?h21 ?h22 ?h23 fun _ _ _ _ _ _ u h => match u, h with | [_], _ => rfl) (L2.ft_mk KX G ?h24 ?h25 ?h26 ?h27 fun _ _ _ _ _ _ u h => match u, h with | [_, _], _ => rfl) (L2.ft_mk KX G ?h28 ?h29 ?h30 ?h31 fun _ _ _ _ _ _ u h => match u, h with | [_, _], _ => rfl) (L2.ft_mk KX G ?h32 ?h33 ?h34 ?h35 fun _ _ _ _ _ _ u h => match u, h with | [_, _], _ => rfl) (L2.ft_mk KX G ?h36 ?h37 ?h38 ?h39 fun _ _ _ _ _ _ u h => match u, h with | [_, _, _], _ => rfl) (L2.ft_mk KX G ?h40 ?h41 ?h42 ?h43 fun _ _ _ _ _ _ u h => match u, h with | [_, _, _], _ => rfl) (L2.ft_mk KX G ?h44 ?h45 ?h46 ?h47 fun _ _ _ _ _ _ u h => match u, h with | [_, _], _ => rfl) (L2.ft_mk KX G ?h48 ?h49 ?h50 ?h51 fun _ _ _ _ _ _ u h => match u, h with | [_, _, _], _ => rfl) (L2.ft_mk KX G ?h52 ?h53 ?h54 ?h55 fun _ _ _ _ _ _ u h => match u, h with | [_, _, _], _ => rfl) (L2.ft_mk KX G ?h56 ?h57 ?h58 ?h59 fun _ _ _ _ _ _ u h => match u, h with | [_, _, _, _], _ => rfl) (L2.ft_mk KX G ?h60 ?h61 ?h62 ?h63 fun _ _ _ _ _ _ u h => match u, h with | [_, _, _], _ => rfl) (L2.ft_mk KX G ?h64 ?h65 ?h66 ?h67 fun _ _ _ _ _ _ u h => match u, h with | [_, _, _], _ => rfl) (L2.ft_mk KX G ?h68 ?h69 ?h70 ?h71 fun _ _ _ _ _ _ u h => match u, h with | [_, _], _ => rfl) (L2.ft_mk KX G ?h72 ?h73 ?h74 ?h75 fun _ _ _ _ _ _ u h => match u, h with | [_, _, _, _], _ => rfl) (L2.ft_mk KX G ?h76 ?h77 ?h78 ?h79 fun _ _ _ _ _ _ u h => match u, h with | [_, _], _ => rfl) (L2.ft_mk KX G ?h80 ?h81 ?h82 ?h83 fun _ _ _ _ _ _ u h => match u, h with | [_, _], _ => rfl) (L2.ft_mk KX G ?h84 ?h85 ?h86 ?h87 fun _ _ _ _ _ _ u h => match u, h with | [_, _, _], _ => rfl) (L2.ft_mk KX G ?h88 ?h89 ?h90 ?h91 fun _ _ _ _ _ _ u h => match u, h with | [_], _ => rfl) (L2.ft_mk KX G ?h92 ?h93 ?h94 ?h95 fun _ _ _ _ _ _ u h => match u, h with | [_], _ => rfl) (L2.ft_mk KX G ?h96 ?h97 ?h98 ?h99 fun _ _ _ _ _ _ u h => match u, h with | [_, _], _ => rfl) (L2.ft_mk KX G ?h100 ?h101 ?h102 ?h103 fun _ _ _ _ _ _ u h => match u, h with | [_, _], _ => rfl) (L2.ft_mk KX G ?h104 ?h105 ?h106 ?h107 fun _ _ _ _ _ _ u h => match u, h with | [_], _ => rfl) (L2.ft_mk KX G ?h108 ?h109 ?h110 ?h111 fun _ _ _ _ _ _ u h => match u, h with | [_, _], _ => rfl) (L2.ft_mk KX G ?h112 ?h113 ?h114 ?h115 fun _ _ _ _ _ _ u h => match u, h with | [_, _], _ => rfl) (L2.ft_mk KX G ?h116 ?h117 ?h118 ?h119 fun _ _ _ _ _ _ u h => match u, h with | [_], _ => rfl) (L2.ft_mk KX G ?h120 ?h121 ?h122 ?h123 fun _ _ _ _ _ _ u h => match u, h with | [_, _], _ => rfl) (L2.ft_mk KX G ?h124 ?h125 ?h126 ?h127 fun _ _ _ _ _ _ u h => match u, h with | [_], _ => rfl) (L2.ft_mk KX G ?h128 ?h129 ?h130 ?h131 fun _ _ _ _ _ _ u h => match u, h with | [_], _ => rfl) (L2.ft_mk KX G ?h132 ?h133 ?h134 ?h135 fun _ _ _ _ _ _ u h => match u, h with | [_], _ => rfl) (L2.ft_mk KX G ?h136 ?h137 ?h138 ?h139 fun _ _ _ _ _ _ u h => match u, h with | [_], _ => rfl) (L2.ft_mk KX G ?h140 ?h141 ?h142 ?h143 fun _ _ _ _ _ _ u h => match u, h with | [_, _], _ => rfl) (L2.ft_mk KX G ?h144 ?h145 ?h146 ?h147 fun _ _ _ _ _ _ u h => match u, h with | [_, _], _ => rfl) (L2.ft_mk KX G ?h148 ?h149 ?h150 ?h151 fun _ _ _ _ _ _ u h => match u, h with | [_, _], _ => rfl) (L2.ft_mk KX G ?h152 ?h153 ?h154 ?h155 fun _ _ _ _ _ _ u h => match u, h with | [_, _, _], _ => rfl) (L2.ft_mk KX G ?h156 ?h157 ?h158 ?h159 fun _ _ _ _ _ _ u h => match u, h with | [_, _, _], _ => rfl) (L2.ft_mk KX G ?h160 ?h161 ?h162 ?h163 fun _ _ _ _ _ _ u h => match u, h with | [_, _], _ => rfl) (L2.ft_mk KX G ?h164 ?h165 ?h166 ?h167 fun _ _ _ _ _ _ u h => match u, h with | [_, _], _ => rfl) (L2.ft_mk KX G ?h168 ?h169 ?h170 ?h171 fun _ _ _ _ _ _ u h => match u, h with | [_], _ => rfl) (L2.ft_mk KX G ?h172 ?h173 ?h174 ?h175 fun _ _ _ _ _ _ u h => match u, h with | [_, _, _, _, _], _ => rfl) (L2.ft_mk KX G ?h176 ?h177 ?h178 ?h179 fun _ _ _ _ _ _ u h => match u, h with | [_, _, _, _, _], _ => rfl) (L2.ft_mk KX G ?h180 ?h181 ?h182 ?h183 fun _ _ _ _ _ _ u h => match u, h with | [_, _], _ => rfl) (L2.ft_mk KX G ?h184 ?h185 ?h186 ?h187 fun _ _ _ _ _ _ u h => match u, h with | [_], _ => rfl) (PySem.W.mg_of KX G ?h188) (PySem.W.mg_of KX G ?h189) (PySem.W.mg_of KX G ?h190) (PySem.W.mg_of KX G ?h191) (PySem.W.mg_of KX G ?h192) (PySem.W.mg_of KX G ?h193) (PySem.W.mg_of KX G ?h194) (PySem.W.mg_of KX G ?h195) (PySem.W.mg_of KX G ?h196) (PySem.W.mg_of KX G ?h197) (PySem.W.mg_of KX G ?h198) (PySem.W.mg_none_of KX G ?h199) (PySem.W.mg_none_of KX G ?h200) (PySem.W.mg_none_of KX G ?h201) (PySem.W.mg_none_of KX G ?h202) (PySem.W.mg_none_of KX G ?h203) (PySem.W.mg_none_of KX G ?h204) (PySem.W.mg_none_of KX G ?h205) (PySem.W.mg_none_of KX G ?h206) (PySem.W.mg_none_of KX G ?h207) (PySem.W.mg_none_of KX G ?h208) (PySem.W.mg_none_of KX G ?h209) (PySem.W.mg_none_of KX G ?h210) (PySem.W.mg_none_of KX G ?h211) (PySem.W.mg_none_of KX G ?h212) (PySem.W.mg_none_of KX G ?h213) (PySem.W.mg_none_of KX G ?h214) (PySem.W.mg_of KX G ?h215) (PySem.W.mg_of KX G ?h216) (PySem.W.mg_of KX G ?h217) (PySem.W.mg_of KX G ?h218) (PySem.W.mg_of KX G ?h219) (PySem.W.mg_of KX G ?h220) (PySem.W.mg_of KX G ?h221) (PySem.W.mg_of KX G ?h222) (PySem.W.mg_of KX G ?h223) (PySem.W.mg_of KX G ?h224) (PySem.W.mg_of KX G ?h225) (PySem.W.mg_of KX G ?h226) (PySem.W.mg_of KX G ?h227) (PySem.W.mg_of KX G ?h228) (PySem.W.mg_of KX G ?h229) (PySem.W.mg_of KX G ?h230) (PySem.W.mg_of KX G ?h231) (PySem.W.mg_of KX G ?h232) (PySem.W.mg_of KX G ?h233) (PySem.W.mg_of KX G ?h234) ?h235 (L2.fm_mk ?h236 ?h237 ?h238 fun _ _ _ _ _ _ u h => match u, h with | [_, _], _ => rfl) ?h239 (L2.fm_mk ?h240 ?h241 ?h242 fun _ _ _ _ _ _ u h => match u, h with | [_, _], _ => rfl) ?h243 (L2.fm_mk ?h244 ?h245 ?h246 fun _ _ _ _ _ _ u h => match u, h with | [_, _], _ => rfl) ?h247 (L2.fm_mk ?h248 ?h249 ?h250 fun _ _ _ _ _ _ u h => match u, h with | [_, _], _ => rfl) ?h251 (L2.fm_mk ?h252 ?h253 ?h254 fun _ _ _ _ _ _ u h => match u, h with | [_, _], _ => rfl) ?h255 (L2.fm_mk ?h256 ?h257 ?h258 fun _ _ _ _ _ _ u h => match u, h with | [_, _], _ => rfl) ?h259 (L2.fm_mk ?h260 ?h261 ?h262 fun _ _ _ _ _ _ u h => match u, h with | [_, _], _ => rfl) ?h263 (L2.fm_mk ?h264 ?h265 ?h266 fun _ _ _ _ _ _ u h => match u, h with | [_, _], _ => rfl) ?h267 (L2.fm_mk ?h268 ?h269 ?h270 fun _ _ _ _ _ _ u h => match u, h with | [_, _], _ => rfl) ?h271 (L2.fm_mk ?h272 ?h273 ?h274 fun _ _ _ _ _ _ u h => match u, h with | [_, _], _ => rfl) ?h275 (L2.fm_mk ?h276 ?h277 ?h278 fun _ _ _ _ _ _ u h => match u, h with | [_, _, _, _, _], _ => rfl) ?h279 (L2.fm_mk ?h280 ?h281 ?h282 fun _ _ _ _ _ _ u h => match u, h with | [_, _, _], _ => rfl) ?h283 (L2.fm_mk ?h284 ?h285 ?h286 fun _ _ _ _ _ _ u h => match u, h with | [_, _], _ => rfl) ?h287 (L2.fm_mk ?h288 ?h289 ?h290 fun _ _ _ _ _ _ u h => match u, h with | [_], _ => rfl) ?h291 (L2.fm_mk ?h292 ?h293 ?h294 fun _ _ _ _ _ _ u h => match u, h with | [_, _, _], _ => rfl) ?h295 (L2.fm_mk ?h296 ?h297 ?h298 fun _ _ _ _ _ _ u h => match u, h with | [_, _], _ => rfl) ?h299 (L2.fm_mk ?h300 ?h301 ?h302 fun _ _ _ _ _ _ u h => match u, h with | [_], _ => rfl) ?h303 (L2.fm_mk ?h304 ?h305 ?h306 fun _ _ _ _ _ _ u h => match u, h with | [_, _, _], _ => rfl) ?h307 (L2.fm_mk ?h308 ?h309 ?h310 fun _ _ _ _ _ _ u h => match u, h with | [_, _], _ => rfl) ?h311 (L2.fm_mk ?h312 ?h313 ?h314 fun _ _ _ _ _ _ u h => match u, h with | [_], _ => rfl) ?h315 (L2.fm_mk ?h316 ?h317 ?h318 fun _ _ _ _ _ _ u h => match u, h with | [_, _, _], _ => rfl) ?h319 (L2.fm_mk ?h320 ?h321 ?h322 fun _ _ _ _ _ _ u h => match u, h with | [_, _, _], _ => rfl) ?h323 (L2.fm_mk ?h324 ?h325 ?h326 fun _ _ _ _ _ _ u h => match u, h with | [_], _ => rfl) ?h327 (L2.fm_mk ?h328 ?h329 ?h330 fun _ _ _ _ _ _ u h => match u, h with | [_, _, _], _ => rfl) ?h331 (L2.fm_mk ?h332 ?h333 ?h334 fun _ _ _ _ _ _ u h => match u, h with | [_, _, _, _, _, _, _], _ => rfl) ?h335 (L2.fm_mk ?h336 ?h337 ?h338 fun _ _ _ _ _ _ u h => match u, h with | [_, _, _, _], _ => rfl) ?h339 (L2.fm_mk ?h340 ?h341 ?h342 fun _ _ _ _ _ _ u h => match u, h with | [_, _, _, _, _], _ => rfl) ?h343 (L2.fm_mk ?h344 ?h345 ?h346 fun _ _ _ _ _ _ u h => match u, h with | [_, _], _ => rfl) (L2.xc_mk ?h347 ?h348 ?h349) ?h350 (L2.xc_mk ?h351 ?h352 ?h353) ?h354 (L2.xc_mk ?h355 ?h356 ?h357) ?h358 (L2.xc_mk ?h359 ?h360 ?h361) ?h362 (L2.xc_mk ?h363 ?h364 ?h365) (L2.xc_mk ?h366 ?h367 ?h368) (L2.xc_mk ?h369 ?h370 ?h371) ?h372 (L2.xc_mk ?h373 ?h374 ?h375) ?h376 (L2.xc_mk ?h377 ?h378 ?h379) ?h380 (L2.xc_mk ?h381 ?h382 ?h383) ⟨?h384, ?h385, ?h386, ?h387⟩ ⟨?h388, ?h389, ?h390, ?h391⟩ ?h392 ?h393 ?h394 ?h395 ?h396 ?h397 ?h398 ?h399 ⟨?h400, ?h401, ?h402, ?h403⟩ ⟨?h404, ?h405, ?h406, ?h407⟩ ⟨?h408, ?h409, ?h410, ?h411⟩ ⟨?h412, ?h413, ?h414⟩ ⟨?h415, ?h416, ?h417⟩ ⟨?h418, ?h419, ?h420⟩ ?h421 ⟨?h422, ?h423, ?h424, ?h425⟩ ⟨?h426, ?h427, ?h428, ?h429⟩ ⟨?h430, ?h431, ?h432, ?h433⟩ ⟨?h434, ?h435, ?h436⟩ ⟨?h437, ?h438, ?h439⟩ ⟨?h440, ?h441, ?h442⟩ ?h443 ⟨?h444, ?h445, ?h446, ?h447⟩ ⟨?h448, ?h449, ?h450, ?h451⟩ ⟨?h452, ?h453, ?h454, ?h455⟩ ⟨?h456, ?h457, ?h458⟩ ⟨?h459, ?h460, ?h461⟩ ⟨?h462, ?h463, ?h464⟩ ?h465 ⟨?h466, ?h467, ?h468, ?h469⟩ ⟨?h470, ?h471, ?h472, ?h473⟩ ⟨?h474, ?h475, ?h476, ?h477⟩ ⟨?h478, ?h479, ?h480⟩ ⟨?h481, ?h482, ?h483⟩ ⟨?h484, ?h485, ?h486⟩ ?h487 ?h488 ⟨?h489, ?h490, ?h491, ?h492⟩ ⟨?h493, ?h494, ?h495, ?h496⟩ ⟨?h497, ?h498, ?h499, ?h500⟩ ?h501 ?h502 ?h503 ?h504 ?h505 ?h506 ⟨?h507, ?h508, ?h509, ?h510⟩ ⟨?h511, ?h512, ?h513, ?h514⟩ ⟨?h515, ?h516, ?h517, ?h518⟩ ?h519 ?h520 ?h521 ⟨?h522, ?h523, ?h524, ?h525⟩ ⟨?h526, ?h527, ?h528, ?h529⟩ ⟨?h530, ?h531, ?h532⟩ ?h533 ?h534 ?h535 ?h536 ?h537 ?h538 ?h539 ?h540 ?h541 ?h542 ?h543 ?h544 ?h545 ?h546 ?h547 ?h548 ?h549 ?h550 ?h551 ?h552 ?h553 ?h554 ?h555 ?h556 ?h557 ?h558 ?h559 ?h560 ?h561 ?h562 ?h563 ?h564 ?h565 ?h566 ?h567 ?h568 ?h569 ?h570 ?h571 ?h572 ?h573 ?h574
    case h0 => k_is
    case h1 => k_is
    case h2 => k_is
    case h3 => k_is
    case h4 => k_is
    case h5 => k_is
    case h6 => k_is
    case h7 => k_is
    case h8 => k_is
    case h9 => k_is
    case h10 => k_is
    case h11 => k_is
    case h12 => k_is
    case h13 => k_is
    case h14 => k_is
    case h15 => k_is
    case h16 => k_is
    case h17 => k_is
    case h18 => k_is
    case h19 => k_is
    case h20 => k_is
    case h21 => k_is
    case h22 => k_is
    case h23 => k_is
    case h24 => k_is
    case h25 => k_is
    case h26 => k_is
    case h27 => k_is
    case h28 => k_is
    case h29 => k_is
    case h30 => k_is
    case h31 => k_is
    case h32 => k_is
    case h33 => k_is
    case h34 => k_is
    case h35 => k_is
    case h36 => k_is
    case h37 => k_is
    case h38 => k_is
    case h39 => k_is
    case h40 => k_is
    case h41 => k_is
    case h42 => k_is
    case h43 => k_is
    case h44 => k_is
    case h45 => k_is
    case h46 => k_is
    case h47 => k_is
    case h48 => k_is
    case h49 => k_is
    case h50 => k_is
    case h51 => k_is
    case h52 => k_is
    case h53 => k_is
    case h54 => k_is
    case h55 => k_is
    case h56 => k_is
    case h57 => k_is
    case h58 => k_is
    case h59 => k_is
    case h60 => k_is
    case h61 => k_is
    case h62 => k_is
    case h63 => k_is
    case h64 => k_is
    case h65 => k_is
    case h66 => k_is
    case h67 => k_is
    case h68 => k_is
    case h69 => k_is
    case h70 => k_is
    case h71 => k_is
    case h72 => k_is
    case h73 => k_is
    case h74 => k_is
    case h75 => k_is
    case h76 => k_is
    case h77 => k_is
    case h78 => k_is
    case h79 => k_is
    case h80 => k_is
    case h81 => k_is
    case h82 => k_is
    case h83 => k_is
    case h84 => k_is
    case h85 => k_is
    case h86 => k_is
    case h87 => k_is
    case h88 => k_is
    case h89 => k_is
    case h90 => k_is
    case h91 => k_is
    case h92 => k_is
    case h93 => k_is
    case h94 => k_is
    case h95 => k_is
    case h96 => k_is
    case h97 => k_is
    case h98 => k_is
    case h99 => k_is
    case h100 => k_is
    case h101 => k_is
    case h102 => k_is
    case h103 => k_is
    case h104 => k_is
    case h105 => k_is
    case h106 => k_is
    case h107 => k_is
    case h108 => k_is
    case h109 => k_is
    case h110 => k_is
    case h111 => k_is
    case h112 => k_is
    case h113 => k_is
    case h114 => k_is
    case h115 => k_is
    case h116 => k_is
    case h117 => k_is
    case h118 => k_is
    case h119 => k_is
    case h120 => k_is
    case h121 => k_is
    case h122 => k_is
    case h123 => k_is
    case h124 => k_is
    case h125 => k_is
    case h126 => k_is
    case h127 => k_is
    case h128 => k_is
    case h129 => k_is
    case h130 => k_is
    case h131 => k_is
    case h132 => k_is
    case h133 => k_is
    case h134 => k_is
    case h135 => k_is
    case h136 => k_is
    case h137 => k_is
    case h138 => k_is
    case h139 => k_is
    case h140 => k_is
    case h141 => k_is
    case h142 => k_is
    case h143 => k_is
    case h144 => k_is
    case h145 => k_is
    case h146 => k_is
    case h147 => k_is
    case h148 => k_is
    case h149 => k_is
    case h150 => k_is
    case h151 => k_is
    case h152 => k_is
    case h153 => k_is
    case h154 => k_is
    case h155 => k_is
    case h156 => k_is
    case h157 => k_is
    case h158 => k_is
    case h159 => k_is
    case h160 => k_is
    case h161 => k_is
    case h162 => k_is
    case h163 => k_is
    case h164 => k_is
    case h165 => k_is
    case h166 => k_is
    case h167 => k_is
    case h168 => k_is
    case h169 => k_is
    case h170 => k_is
    case h171 => k_is
    case h172 => k_is
    case h173 => k_is
    case h174 => k_is
    case h175 => k_is
    case h176 => k_is
    case h177 => k_is
    case h178 => k_is
    case h179 => k_is
    case h180 => k_is
    case h181 => k_is
    case h182 => k_is
    case h183 => k_is
    case h184 => k_is
    case h185 => k_is
    case h186 => k_is
    case h187 => k_is
    case h188 => k_is
    case h189 => k_is
    case h190 => k_is
    case h191 => k_is
    case h192 => k_is
    case h193 => k_is
    case h194 => k_is
    case h195 => k_is
    case h196 => k_is
    case h197 => k_is
    case h198 => k_is
    case h199 => k_is
    case h200 => k_is
    case h201 => k_is
    case h202 => k_is
    case h203 => k_is
    case h204 => k_is
    case h205 => k_is
    case h206 => k_is
    case h207 => k_is
    case h208 => k_is
    case h209 => k_is
    case h210 => k_is
    case h211 => k_is
    case h212 => k_is
    case h213 => k_is
    case h214 => k_is
    case h215 => k_is
    case h216 => k_is
    case h217 => k_is
    case h218 => k_is
    case h219 => k_is
    case h220 => k_is
    case h221 => k_is
    case h222 => k_is
    case h223 => k_is
    case h224 => k_is
    case h225 => k_is
    case h226 => k_is
    case h227 => k_is
    case h228 => k_is
    case h229 => k_is
    case h230 => k_is
    case h231 => k_is
    case h232 => k_is
    case h233 => k_is
    case h234 => k_is
    case h235 => k_is
    case h236 => k_is
    case h237 => k_is
    case h238 => k_is
    case h239 => k_is
    case h240 => k_is
    case h241 => k_is
    case h242 => k_is
    case h243 => k_is
    case h244 => k_is
    case h245 => k_is
    case h246 => k_is
    case h247 => k_is
    case h248 => k_is
    case h249 => k_is
    case h250 => k_is
    case h251 => k_is
    case h252 => k_is
    case h253 => k_is
    case h254 => k_is
    case h255 => k_is
    case h256 => k_is
    case h257 => k_is
    case h258 => k_is
    case h259 => k_is
    case h260 => k_is
    case h261 => k_is
    case h262 => k_is
    case h263 => k_is
    case h264 => k_is
    case h265 => k_is
    case h266 => k_is
    case h267 => k_is
    case h268 => k_is
    case h269 => k_is
    case h270 => k_is
    case h271 => k_is
    case h272 => k_is
    case h273 => k_is
    case h274 => k_is
    case h275 => k_is
    case h276 => k_is
    case h277 => k_is
    case h278 => k_is
    case h279 => k_is
    case h280 => k_is
    case h281 => k_is
    case h282 => k_is
    case h283 => k_is
    case h284 => k_is
    case h285 => k_is
    case h286 => k_is
    case h287 => k_is
    case h288 => k_is
    case h289 => k_is
    case h290 => k_is
    case h291 => k_is
    case h292 => k_is
    case h293 => k_is
    case h294 => k_is
    case h295 => k_is
    case h296 => k_is
    case h297 => k_is
    case h298 => k_is
    case h299 => k_is
    case h300 => k_is
    case h301 => k_is
    case h302 => k_is
    case h303 => k_is
    case h304 => k_is
    case h305 => k_is
    case h306 => k_is
    case h307 => k_is
    case h308 => k_is
    case h309 => k_is
    case h310 => k_is
    case h311 => k_is
    case h312 => k_is
    case h313 => k_is
    case h314 => k_is
    case h315 => k_is
    case h316 => k_is
    case h317 => k_is
    case h318 => k_is
    case h319 => k_is
    case h320 => k_is
    case h321 => k_is
    case h322 => k_is
    case h323 => k_is
    case h324 => k_is
    case h325 => k_is
    case h326 => k_is
    case h327 => k_is
    case h328 => k_is
    case h329 => k_is
    case h330 => k_is
    case h331 => k_is
    case h332 => k_is
    case h333 => k_is
    case h334 => k_is
    case h335 => k_is
    case h336 => k_is
    case h337 => k_is
    case h338 => k_is
    case h339 => k_is
    case h340 => k_is
    case h341 => k_is
    case h342 => k_is
    case h343 => k_is
    case h344 => k_is
    case h345 => k_is
    case h346 => k_is
    case h347 => k_is
    case h348 => kernel_rfl
    case h349 => kernel_rfl
    case h350 => k_is
    case h351 => k_is
    case h352 => kernel_rfl
    case h353 => kernel_rfl
    case h354 => k_is
    case h355 => k_is
    case h356 => kernel_rfl
    case h357 => kernel_rfl
    case h358 => k_is
    case h359 => k_is
    case h360 => kernel_rfl
    case h361 => kernel_rfl
    case h362 => k_is
    case h363 => k_is
    case h364 => kernel_rfl
    case h365 => kernel_rfl
    case h366 => k_is
    case h367 => kernel_rfl
    case h368 => kernel_rfl
    case h369 => k_is
    case h370 => kernel_rfl
    case h371 => kernel_rfl
    case h372 => k_is
    case h373 => k_is
    case h374 => kernel_rfl
    case h375 => kernel_rfl
    case h376 => k_is
    case h377 => k_is
    case h378 => kernel_rfl
    case h379 => kernel_rfl
    case h380 => k_is
    case h381 => k_is
    case h382 => kernel_rfl
    case h383 => kernel_rfl
    case h384 => k_is
    case h385 => k_is
    case h386 => k_is
    case h387 => k_is
    case h388 => k_is
    case h389 => k_is
    case h390 => k_is
    case h391 => k_is
    case h392 => k_is
    case h393 => k_is
    case h394 => k_is
    case h395 => k_is
    case h396 => k_is
    case h397 => k_is
    case h398 => k_is
    case h399 => k_is
    case h400 => k_is
    case h401 => k_is
    case h402 => k_is
    case h403 => k_is
    case h404 => k_is
    case h405 => k_is
    case h406 => k_is
    case h407 => k_is
    case h408 => k_is
    case h409 => k_is
    case h410 => k_is
    case h411 => k_is
    case h412 => k_is
    case h413 => k_is
    case h414 => k_is
    case h415 => k_is
    case h416 => k_is
    case h417 => k_is
    case h418 => k_is
    case h419 => k_is
    case h420 => k_is
    case h421 => k_is
    case h422 => k_is
    case h423 => k_is
    case h424 => k_is
    case h425 => k_is
    case h426 => k_is
    case h427 => k_is
    case h428 => k_is
    case h429 => k_is
    case h430 => k_is
    case h431 => k_is
    case h432 => k_is
    case h433 => k_is
    case h434 => k_is
    case h435 => k_is
    case h436 => k_is
    case h437 => k_is
    case h438 => k_is
    case h439 => k_is
    case h440 => k_is
    case h441 => k_is
    case h442 => k_is
    case h443 => k_is
    case h444 => k_is
    case h445 => k_is
    case h446 => k_is
    case h447 => k_is
    case h448 => k_is
    case h449 => k_is
    case h450 => k_is
    case h451 => k_is
    case h452 => k_is
    case h453 => k_is
    case h454 => k_is
    case h455 => k_is
    case h456 => k_is
    case h457 => k_is
    case h458 => k_is
    case h459 => k_is
    case h460 => k_is
    case h461 => k_is
    case h462 => k_is
    case h463 => k_is
    case h464 => k_is
    case h465 => k_is
    case h466 => k_is
    case h467 => k_is
    case h468 => k_is
    case h469 => k_is
    case h470 => k_is
    case h471 => k_is
    case h472 => k_is
    case h473 => k_is
    case h474 => k_is
    case h475 => k_is
    case h476 => k_is
    case h477 => k_is
    case h478 => k_is
    case h479 => k_is
    case h480 => k_is
    case h481 => k_is
    case h482 => k_is
    case h483 => k_is
    case h484 => k_is
    case h485 => k_is
    case h486 => k_is
    case h487 => k_is
    case h488 => k_is
    case h489 => k_is
    case h490 => k_is
    case h491 => k_is
    case h492 => k_is
    case h493 => k_is
    case h494 => k_is
    case h495 => k_is
    case h496 => k_is
    case h497 => k_is
    case h498 => k_is
    case h499 => k_is
    case h500 => k_is
    case h501 => k_is
    case h502 => k_is
    case h503 => k_is
    case h504 => k_is
    case h505 => k_is
    case h506 => k_is
    case h507 => k_is
    case h508 => k_is
    case h509 => k_is
    case h510 => k_is
    case h511 => k_is
    case h512 => k_is
    case h513 => k_is
    case h514 => k_is
    case h515 => k_is
    case h516 => k_is
    case h517 => k_is
    case h518 => k_is
    case h519 => k_is
    case h520 => k_is
    case h521 => k_is
    case h522 => k_is
    case h523 => k_is
    case h524 => k_is
    case h525 => k_is
    case h526 => k_is
    case h527 => k_is
    case h528 => k_is
    case h529 => k_is
    case h530 => k_is
    case h531 => k_is
    case h532 => k_is
    case h533 => k_is
    case h534 => k_is
    case h535 => k_is
    case h536 => k_is
    case h537 => kernel_rfl
    case h538 => kernel_rfl
    case h539 => kernel_rfl
    case h540 => kernel_rfl
    case h541 => kernel_rfl
    case h542 => kernel_rfl
    case h543 => kernel_rfl
    case h544 => kernel_rfl
    case h545 => kernel_rfl
    case h546 => kernel_rfl
    case h547 => kernel_rfl
    case h548 => kernel_rfl
    case h549 => kernel_rfl
    case h550 => kernel_rfl
    case h551 => kernel_rfl
    case h552 => kernel_rfl
    case h553 => kernel_rfl
    case h554 => kernel_rfl
    case h555 => kernel_rfl
    case h556 => kernel_rfl
    case h557 => kernel_rfl
    case h558 => kernel_rfl
    case h559 => kernel_rfl
    case h560 => kernel_rfl
    case h561 => kernel_rfl
    case h562 => kernel_rfl
    case h563 => kernel_rfl
    case h564 => kernel_rfl
    case h565 => kernel_rfl
    case h566 => kernel_rfl
    case h567 => kernel_rfl
    case h568 => kernel_rfl
    case h569 => kernel_rfl
    case h570 => kernel_rfl
    case h571 => kernel_rfl
    case h572 => kernel_rfl
    case h573 => kernel_rfl
    case h574 => kernel_rfl
   case bb => exact fun s v => .of_eq rfl
  obtain ⟨a, b, T⟩ := T
  have e := hmg.symm.trans T.f_law.mgx
  cases e
  exact ⟨a.d_law, b, fun base kb nb => K13.ok_law T⟩
 case S => exact fun K H a ns hl hO hS => ⟨a, ns, rfl, hS, hl, fun _ => rfl⟩
 case C => exact fun _ _ _ _ z => z
#print axioms PySem.Challenge.cw_weirwatch_k13_turns_refused_holds
