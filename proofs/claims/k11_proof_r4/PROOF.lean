import PyProof.Rows.All
import Wide.All
import OpenK.AllK
import Wide.FinOn
import Lean
import PyProof.EqAt
import PyProof.EqKinds
import PyProof.TupleCall
import PySem.Challenge.RW_weirwatch_k11_what_is_one
set_option Elab.async false
set_option linter.all false
set_option maxRecDepth 100000
namespace L2
open PySem PySem.Spec PyProof.Rows
abbrev Key := Sum Int Str
def keyIs : Key → Value → Bool
  | .inl k, v => Value.isInt k v
  | .inr x, v => Value.isStrOf x v
def keyH (w : World) : Key → Int
  | .inl k => hashInt k
  | .inr x => hashStr w x
theorem keyIs_shape : ∀ {k : Key} {v : Value}, keyIs k v = true → (∃ i t, k = Sum.inl i ∧ v = Value.int i t) ∨ (∃ x t, k = Sum.inr x ∧ v = Value.str x t)
  | .inl i, v, h => by
    obtain ⟨t, e⟩ := Value.isInt_shape (k := i) (v := v) h
    exact .inl ⟨i, t, rfl, e⟩
  | .inr x, v, h => by
    obtain ⟨t, e⟩ := Value.isStrOf_shape (x := x) (v := v) h
    exact .inr ⟨x, t, rfl, e⟩
theorem keyIs_int (i : Int) (t : Tok) : keyIs (.inl i) (.int i t) = true := by simp [keyIs, Value.isInt]
theorem keyIs_str (x : Str) (t : Tok) : keyIs (.inr x) (.str x t) = true := by simp [keyIs, Value.isStrOf]
theorem key_ll (a b : Int) : decide ((Sum.inl a : Key) = Sum.inl b) = (a == b) := by
  by_cases e : a = b
  · subst e; simp
  · have h : ¬ (Sum.inl a : Key) = Sum.inl b := fun q => e (Sum.inl.inj q)
    rw [decide_eq_false h]
    exact (beq_eq_false_iff_ne.mpr e).symm
theorem key_rr (a b : Str) : decide ((Sum.inr a : Key) = Sum.inr b) = decide (a = b) := by
  by_cases e : a = b
  · subst e; simp
  · have h : ¬ (Sum.inr a : Key) = Sum.inr b := fun q => e (Sum.inr.inj q)
    rw [decide_eq_false h, decide_eq_false e]
theorem key_lr (a : Int) (b : Str) : decide ((Sum.inl a : Key) = Sum.inr b) = false := decide_eq_false (fun q => nomatch q)
theorem key_rl (a : Str) (b : Int) : decide ((Sum.inr a : Key) = Sum.inl b) = false := decide_eq_false (fun q => nomatch q)
def mixKind (prog : Program) (w : World) : PySem.KeyKind prog w Key where
  is := keyIs
  hash := keyH w
  inj := fun v a b ha hb => by
    rcases keyIs_shape ha with ⟨i, t, rfl, rfl⟩ | ⟨x, t, rfl, rfl⟩
    · rcases keyIs_shape hb with ⟨j, u, rfl, e⟩ | ⟨y, u, rfl, e⟩
      · injection e with e1 _; rw [e1]
      · exact nomatch e
    · rcases keyIs_shape hb with ⟨j, u, rfl, e⟩ | ⟨y, u, rfl, e⟩
      · exact nomatch e
      · injection e with e1 _; rw [e1]
  byValue := fun k v h => by
    rcases keyIs_shape h with ⟨i, t, rfl, rfl⟩ | ⟨x, t, rfl, rfl⟩ <;> rfl
  pyHash := fun hv h => by
    rcases keyIs_shape hv with ⟨i, t, rfl, rfl⟩ | ⟨x, t, rfl, rfl⟩
    · exact wpAny_pyHash_int h
    · exact wpAny_pyHash_str h
  eqBool := fun hu hv h => by
    rcases keyIs_shape hu with ⟨i, t, rfl, rfl⟩ | ⟨x, t, rfl, rfl⟩
    · rcases keyIs_shape hv with ⟨j, u, rfl, rfl⟩ | ⟨y, u, rfl, rfl⟩
      · rw [key_ll] at h; exact wpAny_eqBool_int h
      · rw [key_lr] at h; exact SeqAt.EqAt.int_str i t y u _ _ _ _ h
    · rcases keyIs_shape hv with ⟨j, u, rfl, rfl⟩ | ⟨y, u, rfl, rfl⟩
      · rw [key_rl] at h; exact SeqAt.EqAt.str_int x t j u _ _ _ _ h
      · rw [key_rr] at h; exact wpAny_eqBool_str h
  «strs» := fun k x t v h => by
    rcases keyIs_shape h with ⟨i, u, rfl, e⟩ | ⟨y, u, rfl, e⟩
    · exact nomatch e
    · injection e with e1 _
      subst e1
      cases v <;> rfl
theorem mixKind_int (prog : Program) (w : World) (i : Int) (t : Tok) : (mixKind prog w).is (.inl i) (.int i t) = true := keyIs_int i t
theorem mixKind_str (prog : Program) (w : World) (x : Str) (t : Tok) : (mixKind prog w).is (.inr x) (.str x t) = true := keyIs_str x t
end L2
namespace L2
open PySem PySem.Spec PyProof.Rows
inductive V where
  | non | bl (b : Bool) | int (i : Int) | str (x : Str) | byt (b : Array UInt8) | flt (b : UInt64) | ref (a : Addr) | ty (n : String)
  deriving DecidableEq
def RelV : V → Value → Prop
  | .non, u => u = Value.none
  | .bl b, u => u = Value.bool b
  | .int i, u => ∃ t, u = Value.int i t
  | .str x, u => ∃ t, u = Value.str x t
  | .byt b, u => ∃ t, u = Value.bytes b t
  | .flt b, u => ∃ t, u = Value.float b t
  | .ref a, u => u = Value.ref a
  | .ty n, u => u = Value.type n
abbrev Vals : List V → List Value → Prop := Paired RelV
theorem Vals.length {xs : List V} {us : List Value} (r : Vals xs us) : xs.length = us.length := Paired.length r
theorem Vals.get : ∀ {xs : List V} {us : List Value} {i : Nat} {x : V}, Vals xs us → xs[i]? = some x → ∃ u, us[i]? = some u ∧ RelV x u
  | _, _, _, _, .nil, e => by simp at e
  | _, _, 0, _, .cons r _, e => by simp at e; subst e; exact ⟨_, rfl, r⟩
  | _, _, i + 1, x, .cons _ t, e => by
    obtain ⟨u, h1, h2⟩ := Vals.get (i := i) (x := x) t (by simpa using e)
    exact ⟨u, by simpa using h1, h2⟩
theorem Vals.set {x : V} {u : Value} (r : RelV x u) : ∀ {xs : List V} {us : List Value} (i : Nat), Vals xs us → Vals (xs.set i x) (us.set i u)
  | _, _, _, .nil => .nil
  | _, _, 0, .cons _ t => .cons r t
  | _, _, i + 1, .cons q t => .cons q (Vals.set r i t)
theorem Vals.append : ∀ {xs ys : List V} {us ws : List Value}, Vals xs us → Vals ys ws → Vals (xs ++ ys) (us ++ ws)
  | _, _, _, _, .nil, s => s
  | _, _, _, _, .cons r t, s => .cons r (Vals.append t s)
theorem Vals.take : ∀ {xs : List V} {us : List Value} (n : Nat), Vals xs us → Vals (xs.take n) (us.take n)
  | _, _, 0, _ => .nil
  | _, _, _ + 1, .nil => .nil
  | _, _, n + 1, .cons r t => .cons r (Vals.take n t)
theorem Vals.drop : ∀ {xs : List V} {us : List Value} (n : Nat), Vals xs us → Vals (xs.drop n) (us.drop n)
  | _, _, 0, r => r
  | _, _, _ + 1, .nil => .nil
  | _, _, n + 1, .cons _ t => Vals.drop n t
def RelO : Option V → Option Value → Prop
  | some v, some u => RelV v u
  | none, none => True
  | _, _ => False
def KV {κ : Type} : List (κ × V) → List (κ × Value) → Prop := Paired fun (p : κ × V) (q : κ × Value) => p.1 = q.1 ∧ RelV p.2 q.2
def kV : Key → V
  | .inl i => .int i
  | .inr x => .str x
inductive HO where
  | lst (xs : List V)
  | tup (xs : List V)
  | dK (kvs : List (Key × V)) | dT (kvs : List (List Key × V))
  | set (S : Int → Bool) (n : Nat)
  | ins (C dx : Addr) (fs : List (Str × V))
  | own (x : Addr)
  | xd (fs : List (Str × V))
  | met (f x : Addr)
  | rng (lo hi : Int)
  | frz (o : Obj) (u : HO)
  | tbl (ps : Array Value)
  | ext (φ : Heap → Prop)
abbrev Hp := Addr → Option HO
def upd (H : Hp) (a : Addr) (o : HO) : Hp := fun b => if b = a then some o else H b
theorem upd_same {H : Hp} {a : Addr} {o : HO} : upd H a o a = some o := by unfold upd; rw [if_pos rfl]
theorem upd_ne {H : Hp} {a b : Addr} {o : HO} (h : b ≠ a) : upd H a o b = H b := by unfold upd; rw [if_neg h]
theorem upd_upd {H : Hp} {a : Addr} {o u : HO} : upd (upd H a o) a u = upd H a u := by
  funext b; unfold upd; split <;> rfl
theorem ne_of {H : Hp} {a b : Addr} {o u : HO} (h : H a = some o) (h' : H b = some u) (d : o ≠ u) : a ≠ b := by
  intro e; subst e; rw [h] at h'; exact d (Option.some.inj h')
theorem ne_of_none {H : Hp} {a b : Addr} {o : HO} (h : H a = some o) (h' : H b = none) : a ≠ b := by
  intro e; subst e; rw [h] at h'; cases h'
section
variable (P : Program) (w : World)
def ObjOk (H : Hp) (h : Heap) (a : Addr) : HO → Prop
  | .lst xs => xs.length ≤ sizeLine ∧ ∃ (its : List Value) (n : Nat), Vals xs its ∧ h.get? a = some { cls := .type "list", data := .seq its.toArray n }
  | .tup xs => xs.length ≤ sizeLine ∧ ∃ its : List Value, Vals xs its ∧ IsTup h a its.toArray
  | .dK kvs => kvs.length ≤ sizeLine ∧ (a == sysModules) = false ∧ ∃ vs, KV kvs vs ∧ h.DictOf (mixKind P w) a vs
  | .dT kvs => kvs.length ≤ sizeLine ∧ (a == sysModules) = false ∧ ∃ xs : List (List Key × Addr × Value),
      Paired (fun (p : List Key × V) (q : List Key × Addr × Value) => p.1 = q.1 ∧ H q.2.1 = some (.tup (p.1.map kV)) ∧ RelV p.2 q.2.2) kvs xs ∧
      ∃ o es ep, h.get? a = some o ∧ o.ExactDict ∧ o.data = .dict es ep ∧ es.toList = xs.map (entryOfKey (tupleKind (mixKind P w))) ∧ (xs.map (·.1)).Nodup
  | .set S n => h.SetOf (intKind P w) a S n
  | .ins C dx fs => H dx = some (.own a) ∧ fs.length ≤ 1000 ∧ dx ≠ a ∧ h.get? a = some (PySem.W.instObj C dx) ∧
      ∃ mA, h.Ns1 dx mA ∧ (∀ f, RelO (fs.lookup f) (mA f)) ∧ PySem.Within mA (fs.map (·.1))
  | .own _ => ∃ o, h.get? a = some o
  | .xd fs => ∃ mA, h.Ns1 a mA ∧ ∀ f, RelO (fs.lookup f) (mA f)
  | .rng lo hi => ∃ t u v, h.get? a = some { cls := .type "range", data := .fields #[.int lo t, .int hi u, .int 1 v] }
  | .frz o u => h.get? a = some o ∧ ObjOk H h a u
  | .tbl ps => h.get? a = some { cls := .none, data := .fields ps }
  | .met f x => h.get? a = some (PySem.W.methodObj (.ref f) (.ref x))
  | .ext φ => φ h ∧ (∃ o, h.get? a = some o) ∧ ∀ h1 h2 : Heap, φ h1 → (∀ o, h1.get? a = some o → h2.get? a = some o) → φ h2
def HOk (H : Hp) (h : Heap) : Prop := ∀ a o, H a = some o → ObjOk P w H h a o
end
section
variable {P : Program} {w : World} {H H' : Hp} {h h' : Heap} {a : Addr} {o : HO}
theorem ObjOk.lt (x : ObjOk P w H h a o) : a < h.objs.size := by
  cases o with
  | lst xs => obtain ⟨_, _, _, _, e⟩ := x; exact Heap.lt_size e
  | tup xs => obtain ⟨_, _, _, p⟩ := x; exact p.lt
  | dK kvs => obtain ⟨_, _, _, _, o, _, _, e, _⟩ := x; exact Heap.lt_size e
  | dT kvs => obtain ⟨_, _, _, _, o, _, _, e, _⟩ := x; exact Heap.lt_size e
  | set S n => obtain ⟨o, _, _, _, e, _⟩ := x; exact Heap.lt_size e
  | ins C dx fs => obtain ⟨_, _, _, e, _⟩ := x; exact Heap.lt_size e
  | own y => obtain ⟨_, e⟩ := x; exact Heap.lt_size e
  | xd fs => obtain ⟨_, ⟨_, _, _, e, _⟩, _⟩ := x; exact Heap.lt_size e
  | rng lo hi => obtain ⟨_, _, _, e⟩ := x; exact Heap.lt_size e
  | frz ob u => obtain ⟨e, _⟩ := x; exact Heap.lt_size e
  | tbl ps => exact Heap.lt_size (show h.get? a = some _ from x)
  | met f y => exact Heap.lt_size (show h.get? a = some _ from x)
  | ext φ => obtain ⟨_, ⟨_, e⟩, _⟩ := x; exact Heap.lt_size e
theorem Paired.mapP {α β : Type} {F G : α → β → Prop} : ∀ {l₁ : List α} {l₂ : List β}, Paired F l₁ l₂ → (∀ a b, F a b → G a b) → Paired G l₁ l₂
  | _, _, .nil, _ => .nil
  | _, _, .cons r t, f => .cons (f _ _ r) (Paired.mapP t f)
theorem ObjOk.stay (x : ObjOk P w H h a o) (k : ∀ b u, (b = a ∨ H b = some (.own a)) → h.get? b = some u → h'.get? b = some u)
    (ho : ∀ b, H b = some (.own a) → H' b = some (.own a)) (ht : ∀ b xs, H b = some (.tup xs) → H' b = some (.tup xs)) : ObjOk P w H' h' a o := by
  induction o with
  | lst xs => obtain ⟨z, its, n, r, e⟩ := x; exact ⟨z, its, n, r, k _ _ (.inl rfl) e⟩
  | tup xs => obtain ⟨z, its, r, ob, e, c⟩ := x; exact ⟨z, its, r, ob, k _ _ (.inl rfl) e, c⟩
  | dK kvs => obtain ⟨z, y, vs, r, ob, es, ep, e, c⟩ := x; exact ⟨z, y, vs, r, ob, es, ep, k _ _ (.inl rfl) e, c⟩
  | dT kvs =>
    obtain ⟨z, y, xs, r, ob, es, ep, e, c⟩ := x
    exact ⟨z, y, xs, Paired.mapP r fun p q z => ⟨z.1, ht _ _ z.2.1, z.2.2⟩, ob, es, ep, k _ _ (.inl rfl) e, c⟩
  | set S n => obtain ⟨ob, es, ep, t, e, c⟩ := x; exact ⟨ob, es, ep, t, k _ _ (.inl rfl) e, c⟩
  | ins C dx fs =>
    obtain ⟨d, z, ne, e, mA, ⟨od, es, ep, e2, c⟩, r⟩ := x
    exact ⟨ho _ d, z, ne, k _ _ (.inl rfl) e, mA, ⟨od, es, ep, k _ _ (.inr d) e2, c⟩, r⟩
  | own y => obtain ⟨ob, e⟩ := x; exact ⟨ob, k _ _ (.inl rfl) e⟩
  | xd fs => obtain ⟨mA, ⟨od, es, ep, e, c⟩, r⟩ := x; exact ⟨mA, ⟨od, es, ep, k _ _ (.inl rfl) e, c⟩, r⟩
  | rng lo hi => obtain ⟨t, u, v, e⟩ := x; exact ⟨t, u, v, k _ _ (.inl rfl) e⟩
  | frz ob u ih => obtain ⟨e, q⟩ := x; exact ⟨k _ _ (.inl rfl) e, ih q⟩
  | tbl ps =>
    have e : h.get? a = some { cls := .none, data := .fields ps } := x
    show h'.get? a = some { cls := .none, data := .fields ps }
    exact k a _ (.inl rfl) e
  | met f y =>
    have e : h.get? a = some (PySem.W.methodObj (.ref f) (.ref y)) := x
    show h'.get? a = some (PySem.W.methodObj (.ref f) (.ref y))
    exact k a _ (.inl rfl) e
  | ext φ => obtain ⟨p, ⟨o, e⟩, st⟩ := x; exact ⟨st _ _ p fun o q => k _ _ (.inl rfl) q, ⟨o, k _ _ (.inl rfl) e⟩, st⟩
theorem HOk.lt (x : HOk P w H h) (e : H a = some o) : a < h.objs.size := (x a o e).lt
theorem HOk.fresh (x : HOk P w H h) (e : h.objs.size ≤ a) : H a = none := by
  cases q : H a with
  | none => rfl
  | some u => exact absurd (Nat.lt_of_lt_of_le (x.lt q) e) (Nat.lt_irrefl _)
theorem HOk.kept (x : HOk P w H h) (k : ∀ b u, h.get? b = some u → h'.get? b = some u) : HOk P w H h' := fun a o e =>
  (x a o e).stay (fun b u _ q => k b u q) (fun _ q => q) fun _ _ q => q
theorem HOk.laid (x : HOk P w H h) (k : ∀ b u, h.get? b = some u → h'.get? b = some u) (hp : h.objs.size ≤ a) (new : ObjOk P w (upd H a o) h' a o) : HOk P w (upd H a o) h' := fun b u e => by
  have hn := x.fresh hp
  by_cases hb : b = a
  · subst hb; rw [upd_same] at e; cases e; exact new
  · rw [upd_ne hb] at e
    exact (x b u e).stay (fun c v _ q => k c v q) (fun c q => by rw [upd_ne (ne_of_none q hn)]; exact q) fun c xs q => by rw [upd_ne (ne_of_none q hn)]; exact q
end
def Rd (H : Hp) (a : Addr) (u : HO) : Prop := H a = some u ∨ ∃ o, H a = some (.frz o u)
theorem Rd.ok {P : Program} {w : World} {H : Hp} {h : Heap} {a : Addr} {u : HO} (r : Rd H a u) (x : HOk P w H h) : ObjOk P w H h a u := by
  rcases r with r | ⟨o, r⟩
  · exact x a u r
  · obtain ⟨_, q⟩ := x a _ r
    exact q
def Mut : Option HO → Prop
  | some (.lst _) => True
  | some (.dK _) => True
  | some (.dT _) => True
  | some (.set _ _) => True
  | some (.ins _ _ _) => True
  | some (.ext _) => True
  | _ => False
section
variable {P : Program} {w : World} {H : Hp} {h h' : Heap} {x e : Addr} {o' : HO}
theorem HOk.write (ok : HOk P w H h) (mu : Mut (H x)) (he : e = x ∨ H e = some (.own x)) (k : ∀ b u, b ≠ e → h.get? b = some u → h'.get? b = some u) (heo : ∃ u, h'.get? e = some u)
    (new : ObjOk P w (upd H x o') h' x o') : HOk P w (upd H x o') h' := fun b u q => by
  have nown : ∀ c y, H c = some (.own y) → c ≠ x := fun c y r z => by subst z; rw [r] at mu; exact mu
  have ntup : ∀ c xs, H c = some (.tup xs) → c ≠ x := fun c xs r z => by subst z; rw [r] at mu; exact mu
  by_cases hb : b = x
  · subst hb; rw [upd_same] at q; cases q; exact new
  · rw [upd_ne hb] at q
    by_cases hbe : b = e
    · have q' : H b = some (.own x) := by
        rcases he with z | z
        · exact absurd (hbe.trans z) hb
        · rw [hbe]; exact z
      rw [q] at q'; cases q'
      obtain ⟨v, hv⟩ := heo
      exact ⟨v, by rw [hbe]; exact hv⟩
    · refine (ok b u q).stay (fun c v hc r => k c v ?_ r) (fun c r => by rw [upd_ne (nown c b r)]; exact r) fun c xs r => by rw [upd_ne (ntup c xs r)]; exact r
      rcases hc with rfl | hc
      · exact hbe
      · rintro rfl
        rcases he with z | z
        · exact nown c b hc z
        · rw [hc] at z; cases z; exact hb rfl
end
structure Un (fs ex : List Addr) (H H' : Hp) (h h' : Heap) : Prop where
  keep : ∀ b o, h.get? b = some o → H b = none → b ∉ fs → b ∉ ex → h'.get? b = some o
  slot : ∀ b o, h.get? b = some o → H b = none → b ∈ fs → b ∉ ex → ∃ sl, h'.get? b = some { o with slots := sl }
  free : ∀ b o, h.get? b = some o → H b = none → b ∉ ex → H' b = none
  there : ∀ b o, h.get? b = some o → b ∉ ex → ∃ o', h'.get? b = some o'
  tups : ∀ b xs, H b = some (.tup xs) → H' b = some (.tup xs)
  frzs : ∀ b o u, H b = some (.frz o u) → H' b = some (.frz o u)
  tbls : ∀ b ps, H b = some (.tbl ps) → ∃ more, H' b = some (.tbl (ps ++ more))
section
variable {fs fs' ex ex' : List Addr} {H H1 H2 : Hp} {h h1 h2 h' : Heap} {a x e : Addr} {o : HO}
theorem Un.any (u : Un fs ex H H1 h h1) {b : Addr} {ob : Obj} (q : h.get? b = some ob) (n : H b = none) (hx : b ∉ ex) : ∃ sl, h1.get? b = some { ob with slots := sl } := by
  by_cases hb : b ∈ fs
  · exact u.slot b ob q n hb hx
  · exact ⟨ob.slots, u.keep b ob q n hb hx⟩
theorem Un.trans (a : Un fs ex H H1 h h1) (b : Un fs ex H1 H2 h1 h2) : Un fs ex H H2 h h2 where
  keep := fun c ob q n hc hx => b.keep c ob (a.keep c ob q n hc hx) (a.free c ob q n hx) hc hx
  slot := fun c ob q n hc hx => by
    obtain ⟨sl, e1⟩ := a.slot c ob q n hc hx
    obtain ⟨sl', e2⟩ := b.slot c _ e1 (a.free c ob q n hx) hc hx
    exact ⟨sl', e2⟩
  free := fun c ob q n hx => by
    obtain ⟨o', e1⟩ := a.there c ob q hx
    exact b.free c o' e1 (a.free c ob q n hx) hx
  there := fun c ob q hx => by
    obtain ⟨o', e1⟩ := a.there c ob q hx
    exact b.there c o' e1 hx
  tups := fun c xs q => b.tups c xs (a.tups c xs q)
  frzs := fun c ob xs q => b.frzs c ob xs (a.frzs c ob xs q)
  tbls := fun c ps q => by
    obtain ⟨m1, e1⟩ := a.tbls c ps q
    obtain ⟨m2, e2⟩ := b.tbls c _ e1
    exact ⟨m1 ++ m2, by rw [e2, Array.append_assoc]⟩
theorem Un.kept (k : ∀ b u, h.get? b = some u → h'.get? b = some u) : Un fs ex H H h h' :=
  ⟨fun b ob q _ _ _ => k b ob q, fun b ob q _ _ _ => ⟨ob.slots, k b ob q⟩, fun _ _ _ n _ => n, fun b ob q _ => ⟨ob, k b ob q⟩, fun _ _ q => q, fun _ _ _ q => q, fun _ ps q => ⟨#[], by rw [q]; simp⟩⟩
theorem Un.refl : Un fs ex H H h h := Un.kept fun _ _ q => q
theorem Un.laid (k : ∀ b u, h.get? b = some u → h'.get? b = some u) (hp : h.objs.size ≤ a) (hn : H a = none) : Un fs ex H (upd H a o) h h' where
  keep := fun b u q _ _ _ => k b u q
  slot := fun b u q _ _ _ => ⟨u.slots, k b u q⟩
  free := fun b u q n _ => by rw [upd_ne (Nat.ne_of_lt (Nat.lt_of_lt_of_le (Heap.lt_size q) hp))]; exact n
  there := fun b u q _ => ⟨u, k b u q⟩
  tups := fun b xs q => by rw [upd_ne (ne_of_none q hn)]; exact q
  frzs := fun b u xs q => by rw [upd_ne (ne_of_none q hn)]; exact q
  tbls := fun b ps q => ⟨#[], by rw [upd_ne (ne_of_none q hn), q]; simp⟩
theorem Un.write (mu : Mut (H x)) (he : e = x ∨ H e = some (.own x)) (k : ∀ b u, b ≠ e → h.get? b = some u → h'.get? b = some u) (heo : ∃ u, h'.get? e = some u) : Un fs ex H (upd H x o) h h' := by
  have hx : ∀ b, H b = none → b ≠ x := fun b n z => by subst z; rw [n] at mu; exact mu
  have hb : ∀ b, H b = none → b ≠ e := fun b n z => by
    subst z
    rcases he with r | r
    · exact hx b n r
    · rw [n] at r; cases r
  have hm : ∀ b u, H b = some u → ¬ Mut (some u) → b ≠ x := fun b u q nm z => by subst z; rw [q] at mu; exact nm mu
  refine ⟨fun b u q n _ _ => k b u (hb b n) q, fun b u q n _ _ => ⟨u.slots, k b u (hb b n) q⟩, fun b u q n _ => by rw [upd_ne (hx b n)]; exact n, fun b u q _ => ?_,
    fun b xs q => by rw [upd_ne (hm b _ q fun z => z)]; exact q, fun b u xs q => by rw [upd_ne (hm b _ q fun z => z)]; exact q, fun b ps q => ⟨#[], by rw [upd_ne (hm b _ q fun z => z), q]; simp⟩⟩
  by_cases hbe : b = e
  · subst hbe; exact heo
  · exact ⟨u, k b u hbe q⟩
end
def trk (h : Heap) (H : Hp) : List Addr := (List.range h.objs.size).filter fun a => (H a).isSome
def hidT (h : Heap) (H : Hp) : Heap := PySem.W.hideAll h (trk h H)
theorem hidT_size (h : Heap) (H : Hp) : (hidT h H).objs.size = h.objs.size := PySem.W.hideAll_size _ _
theorem hidT_get {h : Heap} {H : Hp} {b : Addr} {o : Obj} (e : h.get? b = some o) (n : H b = none) : (hidT h H).get? b = some o :=
  PySem.W.hideAll_get _ e fun hm => by
    have q : (H b).isSome = true := (List.mem_filter.mp hm).2
    rw [n] at q; simp at q
theorem of_hidT {h : Heap} {H : Hp} {b : Addr} {o : Obj} (e : (hidT h H).get? b = some o) : h.get? b = some o ∧ H b = none := by
  have e' : h.get? b = some o := PySem.W.of_hideAll (trk h H) e
  refine ⟨e', ?_⟩
  cases q : H b with
  | none => rfl
  | some x =>
    have hm : b ∈ trk h H := List.mem_filter.mpr ⟨List.mem_range.mpr (Heap.lt_size e'), by simp [q]⟩
    have z : (hidT h H).get? b = none := PySem.W.hideAll_none (trk h H) hm
    rw [z] at e; cases e
end L2
namespace L2
open PySem PySem.Spec PyProof.Rows
structure Mod (K : PySem.W.Frag) (mg : Str → Option Value) (base : Heap) : Prop where
  kin : K.In base
  glob : base.Ns mainGlobals mg
  blt : ∃ mb, base.Ns builtinsNs mb ∧ ∀ x : Str, x ≠ "__name__" → mb x = bootBuiltins x
  nolimit : base.NoLimit
structure Cx where
  prog : Program
  w : World
  K : PySem.W.Frag
  mg : Str → Option Value
  base : Heap
  A : Around
  N : List Str
  s₀ : Shared
  H₀ : Hp
  env : Env
  outer : List Env
  stack : List Env
  ex : List Addr
  fn : Str → Bool
  calm : Bool
  pn : List (Addr × Obj)
  xe : Value → Shared → Prop
def frs (l : List Env) : List Addr := l.filterMap (·.frame)
abbrev Cx.fs (X : Cx) : List Addr := frs X.outer
def Vis (sc : Scope) (x : Str) : Prop := sc.names.lookup x = some .local ∨ sc.names.lookup x = some .cell ∨ sc.names.lookup x = some .free
def Loc (sc : Scope) (x : Str) : Prop := sc.names.lookup x = some .local ∨ sc.names.lookup x = some .cell
def Look (env : Env) (h : Heap) (m : Str → Option Value) (x : Str) (u : Value) : Prop :=
  (env.kindOf x = some .local ∧ m x = some u) ∨ ((env.kindOf x = some .cell ∨ env.kindOf x = some .free) ∧ ∃ c, env.cells.lookup x = some c ∧ h.IsCell c (some u))
structure Cx.Ok (X : Cx) : Prop where
  mod : Mod X.K X.mg X.base
  kind : X.env.scope.kind = .function
  glob : X.env.globals = mainGlobals
  blt : X.env.builtins = builtinsNs
  above : X.s₀.heap.objs.size ≤ X.env.locals
  inj : ∀ x y c, X.env.cells.lookup x = some c → X.env.cells.lookup y = some c → x = y
  has : ∀ x, (X.env.kindOf x = some .cell ∨ X.env.kindOf x = some .free) → ∃ c, X.env.cells.lookup x = some c
  cab : ∀ x c, X.fn x = true → X.env.cells.lookup x = some c → X.s₀.heap.objs.size ≤ c
  hd : X.calm = true → X.A.handled = none
  frames : X.A.frames = some X.stack
  stk : X.stack = X.outer ∨ (X.stack = X.env :: X.outer ∧ X.env.frame = some X.env.locals)
  exf : ∀ b ∈ X.ex, b ≠ X.env.locals ∧ ∀ x c, X.env.cells.lookup x = some c → c ≠ b
  bs : ∀ b o, X.base.get? b = some o → X.s₀.heap.get? b = some o ∧ X.H₀ b = none
  bsz : X.base.objs.size ≤ X.s₀.heap.objs.size
  noex : ∀ b o, X.base.get? b = some o → b ∉ X.ex
  exfs : ∀ b ∈ X.ex, b ∉ X.fs
  funs : X.s₀.heap.FunFrames X.base X.outer
  frf : ∀ b ∈ X.fs, X.H₀ b = none
structure Inv (X : Cx) (pins : List (Addr × Obj)) (σ : List (Option V)) (H : Hp) (s : Shared) : Prop where
  ok : X.Ok
  os : s.os = X.s₀.os
  bare : AllBare s.gens
  base : Un X.fs X.ex X.H₀ H X.s₀.heap s.heap
  loc : ∃ m, s.heap.Ns X.env.locals m ∧ ∀ (i : Nat) (x : Str) (v : V), X.N[i]? = some x → σ[i]? = some (some v) → Vis X.env.scope x → ∃ u, RelV v u ∧ Look X.env s.heap m x u
  cell : ∀ x c, X.env.cells.lookup x = some c → ∃ v, s.heap.IsCell c v
  free : H X.env.locals = none
  freeC : ∀ x c, X.env.cells.lookup x = some c → H c = none
  pin : ∀ p ∈ X.pn ++ pins, s.heap.get? p.1 = some p.2 ∧ H p.1 = none ∧ p.1 ≠ X.env.locals ∧ p.1 ∉ X.fs ∧ ∀ v, p.2.data ≠ .cell v
  hok : HOk X.prog X.w H s.heap
  len : σ.length = X.N.length
section
variable {X : Cx} {pins : List (Addr × Obj)} {σ : List (Option V)} {H H' : Hp} {s : Shared} {h' : Heap}
theorem Cx.Ok.nofr (ok : X.Ok) {b : Addr} {o : Obj} (e : X.base.get? b = some o) : b ∉ X.fs := fun hb => by
  have := (ok.funs.mem hb).1
  rw [e] at this; cases this
theorem Inv.bs (I : Inv X pins σ H s) : ∀ b o, X.base.get? b = some o → s.heap.get? b = some o ∧ H b = none := fun b o e =>
  ⟨I.base.keep b o (I.ok.bs b o e).1 (I.ok.bs b o e).2 (I.ok.nofr e) (I.ok.noex b o e), I.base.free b o (I.ok.bs b o e).1 (I.ok.bs b o e).2 (I.ok.noex b o e)⟩
theorem Inv.bk (I : Inv X pins σ H s) : ∀ b o, X.base.get? b = some o → s.heap.get? b = some o := fun b o e => (I.bs b o e).1
theorem Inv.mod (I : Inv X pins σ H s) : Mod X.K X.mg X.base := I.ok.mod
theorem Inv.kIn (I : Inv X pins σ H s) : X.K.In s.heap := I.ok.mod.kin.keeps I.bk
theorem Inv.lt (I : Inv X pins σ H s) : X.env.locals < s.heap.objs.size := let ⟨_, hn, _⟩ := I.loc; hn.lt
theorem Inv.sz (I : Inv X pins σ H s) : X.s₀.heap.objs.size ≤ s.heap.objs.size := Nat.le_trans I.ok.above (Nat.le_of_lt I.lt)
theorem Inv.nofs (I : Inv X pins σ H s) {a : Addr} (h : s.heap.objs.size ≤ a) : a ∉ X.fs := fun hb => by
  obtain ⟨_, o, ho, _⟩ := I.ok.funs.mem hb
  exact absurd (Nat.lt_of_lt_of_le (Heap.lt_size ho) (Nat.le_trans I.sz h)) (Nat.lt_irrefl _)
theorem Inv.cne (I : Inv X pins σ H s) : ∀ x c, X.env.cells.lookup x = some c → c ≠ X.env.locals := fun x c e z => by
  obtain ⟨v, o, ho, hd⟩ := I.cell x c e
  obtain ⟨m, ⟨o', es, ep, ho', hd', _⟩, _⟩ := I.loc
  rw [z, ho'] at ho; cases ho; rw [hd'] at hd; cases hd
theorem Inv.funs (I : Inv X pins σ H s) : s.heap.FunFrames X.base X.outer := by
  have all : ∀ (l : List Env), (∀ b ∈ frs l, b ∈ X.fs) → X.s₀.heap.FunFrames X.base l → s.heap.FunFrames X.base l := by
    intro l
    induction l with
    | nil => intro _ _; trivial
    | cons env r ih =>
      intro hs hl
      obtain ⟨hk, ⟨L, o, hf, hn, ho, hd⟩, hr⟩ := hl
      have hL : L ∈ X.fs := hs L (by unfold frs; rw [List.filterMap_cons, hf]; exact List.mem_cons_self)
      obtain ⟨sl, e⟩ := I.base.slot L o ho (I.ok.frf L hL) hL fun z => I.ok.exfs L z hL
      exact ⟨hk, ⟨L, _, hf, hn, e, hd⟩, ih (fun b hb => hs b (by unfold frs; rw [List.filterMap_cons, hf]; exact List.mem_cons_of_mem _ hb)) hr⟩
  exact all X.outer (fun _ hb => hb) I.ok.funs
theorem Inv.stack (I : Inv X pins σ H s) : s.heap.FunFrames X.base X.stack := by
  rcases I.ok.stk with e | ⟨e, hf⟩
  · rw [e]; exact I.funs
  · rw [e]
    obtain ⟨m, hn, _⟩ := I.loc
    refine .cons (by rw [I.ok.kind]; decide) hf hn ?_ I.funs
    exact Heap.get?_none_of_le (Nat.le_trans I.ok.bsz I.ok.above)
theorem Inv.stkSub (I : Inv X pins σ H s) : ∀ b ∈ frs X.stack, b ∈ X.env.locals :: X.fs := fun b hb => by
  rcases I.ok.stk with e | ⟨e, hf⟩
  · rw [e] at hb; exact List.mem_cons_of_mem _ hb
  · rw [e] at hb
    unfold frs at hb
    rw [List.filterMap_cons, hf] at hb
    exact hb
theorem Inv.stkFree (I : Inv X pins σ H s) : ∀ b ∈ frs X.stack, H b = none := fun b hb => by
  rcases List.mem_cons.mp (I.stkSub b hb) with e | hb
  · rw [e]; exact I.free
  · obtain ⟨_, o, ho, _⟩ := I.ok.funs.mem hb
    exact I.base.free b o ho (I.ok.frf b hb) fun z => I.ok.exfs b z hb
theorem Inv.step {g' : Array GenState} {t' : Nat} {d' : Drawn} {ch : List Addr} (I : Inv X pins σ H s)
    (hch : ∀ b ∈ ch, (b ∈ X.ex ∨ X.s₀.heap.objs.size ≤ b) ∧ b ≠ X.env.locals ∧ (∀ x c, X.env.cells.lookup x = some c → c ≠ b) ∧ ∀ p ∈ X.pn ++ pins, p.1 ≠ b)
    (keep : ∀ b o, b ≠ X.env.locals → b ∉ X.fs → b ∉ ch → s.heap.get? b = some o → H b = none → h'.get? b = some o)
    (slot : ∀ b o, b ≠ X.env.locals → b ∈ X.fs → b ∉ ch → s.heap.get? b = some o → H b = none → ∃ sl, h'.get? b = some { o with slots := sl }) (free : ∀ b o, b ∉ ch → s.heap.get? b = some o → H b = none → H' b = none)
    (there : ∀ b o, b ∉ ch → s.heap.get? b = some o → ∃ o', h'.get? b = some o')
    (tups : ∀ b xs, H b = some (.tup xs) → H' b = some (.tup xs)) (frzs : ∀ b o u, H b = some (.frz o u) → H' b = some (.frz o u)) (tbls : ∀ b ps, H b = some (.tbl ps) → ∃ more, H' b = some (.tbl (ps ++ more)))
    (ns : ∀ m, s.heap.Ns X.env.locals m → h'.Ns X.env.locals m) (hok : HOk X.prog X.w H' h') (hg : AllBare g') :
    Inv X pins σ H' { s with heap := h', gens := g', drawn := d', toks := t' } := by
  have neL : ∀ b o, X.s₀.heap.get? b = some o → b ≠ X.env.locals := fun b o e => Nat.ne_of_lt (Nat.lt_of_lt_of_le (Heap.lt_size e) I.ok.above)
  have neC : ∀ b o, X.s₀.heap.get? b = some o → b ∉ X.ex → b ∉ ch := fun b o e hx hb => by
    rcases (hch b hb).1 with z | z
    · exact hx z
    · exact absurd (Nat.lt_of_lt_of_le (Heap.lt_size e) z) (Nat.lt_irrefl _)
  have cellK : ∀ x c, X.env.cells.lookup x = some c → ∀ v, s.heap.IsCell c v → h'.IsCell c v := fun x c e v ⟨o, ho, hd⟩ => by
    have nch : c ∉ ch := fun z => (hch c z).2.2.1 x c e rfl
    by_cases hc : c ∈ X.fs
    · obtain ⟨sl, q⟩ := slot c o (I.cne x c e) hc nch ho (I.freeC x c e)
      exact ⟨_, q, hd⟩
    · exact ⟨o, keep c o (I.cne x c e) hc nch ho (I.freeC x c e), hd⟩
  refine ⟨I.ok, I.os, hg, ⟨fun b o e n hb hx => ?_, fun b o e n hb hx => ?_, fun b o e n hx => ?_, fun b o e hx => ?_, fun b xs e => tups b xs (I.base.tups b xs e), fun b o xs e => frzs b o xs (I.base.frzs b o xs e), fun b ps e => ?_⟩, ?_, fun x c e => ?_, ?_, fun x c e => ?_, fun p hp => ?_, hok, I.len⟩
  · exact keep b o (neL b o e) hb (neC b o e hx) (I.base.keep b o e n hb hx) (I.base.free b o e n hx)
  · obtain ⟨sl, e1⟩ := I.base.slot b o e n hb hx
    obtain ⟨sl', e2⟩ := slot b _ (neL b o e) hb (neC b o e hx) e1 (I.base.free b o e n hx)
    exact ⟨sl', e2⟩
  · obtain ⟨o', e1⟩ := I.base.there b o e hx
    exact free b o' (neC b o e hx) e1 (I.base.free b o e n hx)
  · obtain ⟨o', e1⟩ := I.base.there b o e hx
    exact there b o' (neC b o e hx) e1
  · obtain ⟨m1, e1⟩ := I.base.tbls b ps e
    obtain ⟨m2, e2⟩ := tbls b _ e1
    exact ⟨m1 ++ m2, by rw [e2, Array.append_assoc]⟩
  · obtain ⟨m, hn, hl⟩ := I.loc
    refine ⟨m, ns m hn, fun i x v e1 e2 e3 => ?_⟩
    obtain ⟨u, r, l⟩ := hl i x v e1 e2 e3
    refine ⟨u, r, ?_⟩
    rcases l with l | ⟨k, c, e, z⟩
    · exact .inl l
    · exact .inr ⟨k, c, e, cellK x c e _ z⟩
  · obtain ⟨v, z⟩ := I.cell x c e
    exact ⟨v, cellK x c e v z⟩
  · obtain ⟨m, ⟨o, _, _, ho, _⟩, _⟩ := I.loc
    exact free _ o (fun z => (hch _ z).2.1 rfl) ho I.free
  · obtain ⟨v, o, ho, hd⟩ := I.cell x c e
    exact free c o (fun z => (hch c z).2.2.1 x c e rfl) ho (I.freeC x c e)
  · obtain ⟨e, n, ne, nf, d⟩ := I.pin p hp
    have nch : p.1 ∉ ch := fun z => (hch p.1 z).2.2.2 p hp rfl
    exact ⟨keep p.1 p.2 ne nf nch e n, free p.1 p.2 nch e n, ne, nf, d⟩
theorem Inv.un {t' : Nat} (I : Inv X pins σ H s) (u : Un X.fs [] H H' s.heap h') (hok : HOk X.prog X.w H' h') : Inv X pins σ H' { s with heap := h', toks := t' } := by
  obtain ⟨m, ⟨o, es, ep, ho, r⟩, _⟩ := id I.loc
  obtain ⟨sl, hL⟩ := u.any ho I.free (by simp)
  exact I.step (g' := s.gens) (d' := s.drawn) (ch := []) (fun _ z => nomatch z) (fun b o _ hb _ e n => u.keep b o e n hb (by simp)) (fun b o _ hb _ e n => u.slot b o e n hb (by simp)) (fun b o _ e n => u.free b o e n (by simp)) (fun b o _ e => u.there b o e (by simp)) u.tups u.frzs u.tbls (fun m' hm => by
    obtain ⟨o', es', ep', ho', r'⟩ := hm
    rw [ho] at ho'; cases ho'
    exact ⟨_, es', ep', hL, r'⟩) hok I.bare
theorem Inv.call {g' : Array GenState} {t' : Nat} {d' : Drawn} {ch : List Addr} (I : Inv X pins σ H s) (u : Un (frs X.stack) ch H H' s.heap h') (hok : HOk X.prog X.w H' h') (hg : AllBare g')
    (hch : ∀ b ∈ ch, (b ∈ X.ex ∨ X.s₀.heap.objs.size ≤ b) ∧ b ≠ X.env.locals ∧ (∀ x c, X.env.cells.lookup x = some c → c ≠ b) ∧ ∀ p ∈ X.pn ++ pins, p.1 ≠ b) :
    Inv X pins σ H' { s with heap := h', gens := g', drawn := d', toks := t' } := by
  obtain ⟨m, ⟨o, es, ep, ho, r⟩, _⟩ := id I.loc
  obtain ⟨sl, hL⟩ := u.any ho I.free fun z => (hch _ z).2.1 rfl
  exact I.step (ch := ch) hch (fun b o hL hb hc e n => u.keep b o e n (fun z => (List.mem_cons.mp (I.stkSub b z)).elim hL hb) hc) (fun b o _ _ hc e n => u.any e n hc) (fun b o hc e n => u.free b o e n hc) (fun b o hc e => u.there b o e hc) u.tups u.frzs u.tbls (fun m' hm => by
    obtain ⟨o', es', ep', ho', r'⟩ := hm
    rw [ho] at ho'; cases ho'
    exact ⟨_, es', ep', hL, r'⟩) hok hg
theorem Inv.turned {t' : Nat} {it : Addr} (I : Inv X pins σ H s) (k : ∀ b o, b ≠ it → s.heap.get? b = some o → h'.get? b = some o) (hn : H it = none) (hL : it ≠ X.env.locals)
    (h1 : it ∈ X.ex ∨ X.s₀.heap.objs.size ≤ it) (h2 : ∀ x c, X.env.cells.lookup x = some c → c ≠ it) (h3 : ∀ p ∈ X.pn ++ pins, p.1 ≠ it) : Inv X pins σ H { s with heap := h', toks := t' } := by
  have nit : ∀ b u, H b = some u → b ≠ it := fun b u e z => by rw [z, hn] at e; cases e
  refine I.step (g' := s.gens) (d' := s.drawn) (ch := [it]) (fun b hb => ?_) (fun b o _ _ hc e _ => k b o (fun z => hc (by simp [z])) e) (fun b o _ _ hc e _ => ⟨o.slots, k b o (fun z => hc (by simp [z])) e⟩) (fun _ _ _ _ n => n)
    (fun b o hc e => ⟨o, k b o (fun z => hc (by simp [z])) e⟩) (fun _ _ e => e) (fun _ _ _ e => e) (fun b ps e => ⟨#[], by rw [e]; simp⟩) (fun m hm => ?_) (fun b u e => ?_) I.bare
  · have e : b = it := by simpa using hb
    subst e
    exact ⟨h1, hL, h2, h3⟩
  · obtain ⟨o, es, ep, ho, r⟩ := hm
    exact ⟨o, es, ep, k _ o (Ne.symm hL) ho, r⟩
  · refine (I.hok b u e).stay (fun c v hc q => k c v ?_ q) (fun _ q => q) fun _ _ q => q
    rcases hc with z | z
    · rw [z]; exact nit b u e
    · exact nit c _ z
theorem Inv.tok (I : Inv X pins σ H s) (t : Nat) : Inv X pins σ H { s with toks := t } := I.un (h' := s.heap) (t' := t) Un.refl I.hok
theorem Inv.kept {t' : Nat} (I : Inv X pins σ H s) (k : ∀ b u, s.heap.get? b = some u → h'.get? b = some u) : Inv X pins σ H { s with heap := h', toks := t' } := I.un (Un.kept k) (I.hok.kept k)
theorem Inv.laid {a : Addr} {o : HO} {t' : Nat} (I : Inv X pins σ H s) (k : ∀ b u, s.heap.get? b = some u → h'.get? b = some u) (hp : s.heap.objs.size ≤ a) (new : ObjOk X.prog X.w (upd H a o) h' a o) :
    Inv X pins σ (upd H a o) { s with heap := h', toks := t' } := I.un (Un.laid k hp (I.hok.fresh hp)) (I.hok.laid k hp new)
theorem Inv.write {x e : Addr} {o : HO} {t' : Nat} (I : Inv X pins σ H s) (mu : Mut (H x)) (he : e = x ∨ H e = some (.own x)) (k : ∀ b u, b ≠ e → s.heap.get? b = some u → h'.get? b = some u) (heo : ∃ u, h'.get? e = some u)
    (new : ObjOk X.prog X.w (upd H x o) h' x o) : Inv X pins σ (upd H x o) { s with heap := h', toks := t' } := I.un (Un.write mu he k heo) (I.hok.write mu he k heo new)
theorem Inv.pins_of {pins' : List (Addr × Obj)} (I : Inv X pins σ H s) (h : ∀ p ∈ pins', s.heap.get? p.1 = some p.2 ∧ H p.1 = none ∧ p.1 ≠ X.env.locals ∧ p.1 ∉ X.fs ∧ ∀ v, p.2.data ≠ .cell v) : Inv X pins' σ H s :=
  ⟨I.ok, I.os, I.bare, I.base, I.loc, I.cell, I.free, I.freeC, fun p hp => (List.mem_append.mp hp).elim (fun z => I.pin p (List.mem_append_left _ z)) (h p), I.hok, I.len⟩
theorem nodup_ix {N : List Str} (hN : N.Nodup) {i j : Nat} {x : Str} (a : N[i]? = some x) (b : N[j]? = some x) : i = j := by
  obtain ⟨h1, e1⟩ := List.getElem?_eq_some_iff.mp a
  obtain ⟨h2, e2⟩ := List.getElem?_eq_some_iff.mp b
  exact (List.getElem_inj hN).mp (e1.trans e2.symm)
theorem store_ok2 {M : Model} {A : Around} {E : Value → Shared → Prop} {i : Nat} {x : Str} {v : V} {u : Value} {Q : Unit → Shared → Prop} (I : Inv X pins σ H s) (hN : X.N.Nodup) (hi : X.N[i]? = some x) (hx : Loc X.env.scope x) (r : RelV v u)
    (h : ∀ s', Inv X pins (σ.set i (some v)) H s' → (∃ a, Heap.SameBut a s.heap s'.heap ∧ (a = X.env.locals ∨ X.env.cells.lookup x = some a)) → Q () s') (hf : X.fn x = true ∨ X.env.scope.names.lookup x = some .local := by first | exact .inl rfl | exact .inr rfl | assumption) : wpAny M A (storeName X.env x u) Q E s := by
  obtain ⟨m, hn, hl⟩ := id I.loc
  have hcls : (X.env.scope.kind == .class || (X.env.scope.kind == .module && X.env.locals != X.env.globals)) = false := by rw [I.ok.kind]; rfl
  have hiσ : i < σ.length := by rw [I.len]; exact (List.getElem?_eq_some_iff.mp hi).1
  have cne := I.cne
  have tracked : ∀ {a : Addr} {h' : Heap}, (∃ o, s.heap.get? a = some o ∧ H a = none) → Heap.SameBut a s.heap h' → HOk X.prog X.w H h' := fun {a h'} ha hs b ob e => by
    obtain ⟨_, _, hfree⟩ := ha
    refine (I.hok b ob e).stay (fun c w' hc q => (hs.2 c ?_).trans q) (fun _ q => q) fun _ _ q => q
    rintro rfl
    rcases hc with rfl | hc
    · rw [hfree] at e; cases e
    · rw [hfree] at hc; cases hc
  rcases hx with hk | hk
  · refine wpAny_storeName_local hk hn (fun h' hn' hs => ?_) hcls
    obtain ⟨oL, _, _, hoL, _⟩ := id hn
    refine h _ ⟨I.ok, I.os, I.bare, ⟨fun b o e n hb hx => ?_, fun b o e n hb hx => ?_, I.base.free, fun b o e hx => ?_, I.base.tups, I.base.frzs, I.base.tbls⟩, ⟨_, hn', fun j y v' e1 e2 e3 => ?_⟩, fun y c e => ?_, I.free, I.freeC, fun p hp => ?_, tracked ⟨oL, hoL, I.free⟩ hs, by simpa using I.len⟩ ⟨_, hs, .inl rfl⟩
    · exact (hs.2 b (Nat.ne_of_lt (Nat.lt_of_lt_of_le (Heap.lt_size e) I.ok.above))).trans (I.base.keep b o e n hb hx)
    · obtain ⟨sl, e1⟩ := I.base.slot b o e n hb hx
      exact ⟨sl, (hs.2 b (Nat.ne_of_lt (Nat.lt_of_lt_of_le (Heap.lt_size e) I.ok.above))).trans e1⟩
    · obtain ⟨o', e1⟩ := I.base.there b o e hx
      exact ⟨o', (hs.2 b (Nat.ne_of_lt (Nat.lt_of_lt_of_le (Heap.lt_size e) I.ok.above))).trans e1⟩
    · by_cases hj : j = i
      · subst hj
        rw [hi] at e1; cases e1
        rw [List.getElem?_set_self hiσ] at e2
        cases e2
        exact ⟨u, r, .inl ⟨hk, by simp⟩⟩
      · rw [List.getElem?_set_ne (Ne.symm hj)] at e2
        obtain ⟨u', r', q⟩ := hl j y v' e1 e2 e3
        refine ⟨u', r', ?_⟩
        rcases q with ⟨k, e⟩ | ⟨k, c, e, z⟩
        · refine .inl ⟨k, ?_⟩
          have : y ≠ x := fun e => hj (nodup_ix hN e1 (e ▸ hi))
          simp [this, e]
        · exact .inr ⟨k, c, e, z.sameBut hs (cne y c e)⟩
    · obtain ⟨w', z⟩ := I.cell y c e
      exact ⟨w', z.sameBut hs (cne y c e)⟩
    · obtain ⟨e, n, ne, nf, d⟩ := I.pin p hp
      exact ⟨(hs.2 p.1 ne).trans e, n, ne, nf, d⟩
  · have hfn : X.fn x = true := by
      rcases hf with z | z
      · exact z
      · rw [z] at hk; cases hk
    obtain ⟨c, hc⟩ := I.ok.has x (.inl hk)
    obtain ⟨w', z⟩ := I.cell x c hc
    refine wpAny_storeName_cell I.ok.kind hk hc z (fun h' hc' hs => ?_)
    obtain ⟨oc, hoc, hocd⟩ := id z
    refine h { s with heap := h' } ⟨I.ok, I.os, I.bare, ⟨fun b o e n hb hx => ?_, fun b o e n hb hx => ?_, I.base.free, fun b o e hx => ?_, I.base.tups, I.base.frzs, I.base.tbls⟩, ⟨m, hn.sameBut hs (Ne.symm (cne x c hc)), fun j y v' e1 e2 e3 => ?_⟩, fun y c' e => ?_, I.free, I.freeC, fun p hp => ?_, tracked ⟨oc, hoc, I.freeC x c hc⟩ hs, by simpa using I.len⟩ ⟨c, hs, .inr hc⟩
    · exact (hs.2 b (Nat.ne_of_lt (Nat.lt_of_lt_of_le (Heap.lt_size e) (I.ok.cab x c hfn hc)))).trans (I.base.keep b o e n hb hx)
    · obtain ⟨sl, e1⟩ := I.base.slot b o e n hb hx
      exact ⟨sl, (hs.2 b (Nat.ne_of_lt (Nat.lt_of_lt_of_le (Heap.lt_size e) (I.ok.cab x c hfn hc)))).trans e1⟩
    · obtain ⟨o', e1⟩ := I.base.there b o e hx
      exact ⟨o', (hs.2 b (Nat.ne_of_lt (Nat.lt_of_lt_of_le (Heap.lt_size e) (I.ok.cab x c hfn hc)))).trans e1⟩
    · by_cases hj : j = i
      · subst hj
        rw [hi] at e1; cases e1
        rw [List.getElem?_set_self hiσ] at e2
        cases e2
        exact ⟨u, r, .inr ⟨.inl hk, c, hc, hc'⟩⟩
      · rw [List.getElem?_set_ne (Ne.symm hj)] at e2
        obtain ⟨u', r', q⟩ := hl j y v' e1 e2 e3
        refine ⟨u', r', ?_⟩
        rcases q with q | ⟨k, c', e, z'⟩
        · exact .inl q
        · refine .inr ⟨k, c', e, z'.sameBut hs ?_⟩
          rintro rfl
          exact hj (nodup_ix hN e1 (I.ok.inj _ _ _ e hc ▸ hi))
    · by_cases hcc : c' = c
      · subst hcc; exact ⟨_, hc'⟩
      · obtain ⟨w2, z2⟩ := I.cell y c' e
        exact ⟨w2, z2.sameBut hs hcc⟩
    · obtain ⟨e, n, ne, nf, d⟩ := I.pin p hp
      refine ⟨(hs.2 p.1 ?_).trans e, n, ne, nf, d⟩
      intro q
      rw [q, hoc] at e
      have q' : oc = p.2 := Option.some.inj e
      exact d w' (by rw [← q']; exact hocd)
theorem store_ok {M : Model} {A : Around} {E : Value → Shared → Prop} {i : Nat} {x : Str} {v : V} {u : Value} {Q : Unit → Shared → Prop} (I : Inv X pins σ H s) (hN : X.N.Nodup) (hi : X.N[i]? = some x) (hx : Loc X.env.scope x) (r : RelV v u)
    (h : ∀ s', Inv X pins (σ.set i (some v)) H s' → Q () s') (hf : X.fn x = true ∨ X.env.scope.names.lookup x = some .local := by first | exact .inl rfl | exact .inr rfl | assumption) : wpAny M A (storeName X.env x u) Q E s :=
  store_ok2 I hN hi hx r (fun s' I' _ => h s' I') hf
theorem Inv.call' {s' : Shared} {ch : List Addr} (I : Inv X pins σ H s) (ho : s'.os = s.os) (u : Un (frs X.stack) ch H H' s.heap s'.heap) (hok : HOk X.prog X.w H' s'.heap) (hg : AllBare s'.gens)
    (hch : ∀ b ∈ ch, (b ∈ X.ex ∨ X.s₀.heap.objs.size ≤ b) ∧ b ≠ X.env.locals ∧ (∀ x c, X.env.cells.lookup x = some c → c ≠ b) ∧ ∀ p ∈ X.pn ++ pins, p.1 ≠ b) : Inv X pins σ H' s' := by
  obtain ⟨h', g', d', t', o'⟩ := s'
  have e : o' = s.os := ho
  subst e
  exact I.call (g' := g') (t' := t') (d' := d') u hok hg hch
end
abbrev XK := Value → Option Addr → Hp → Prop
abbrev St := List (Option V)
abbrev VK := V → Hp → Prop
abbrev TE := St → Hp → VK → Prop
abbrev TT := St → Hp → (Bool → Hp → Prop) → Prop
abbrev TA := St → Hp → (List V → Hp → Prop) → Prop
structure Ends where
  nx : St → Hp → Prop
  rt : VK
  bk : St → Hp → Prop := fun _ _ => False
  ct : St → Hp → Prop := fun _ _ => False
abbrev TS := Ends → St → Hp → Prop
def EP (X : Cx) (pins : List (Addr × Obj)) (σ : St) (Q : VK) (u : Value) (s' : Shared) : Prop := ∃ v H', Inv X pins σ H' s' ∧ RelV v u ∧ Q v H'
def TP (X : Cx) (pins : List (Addr × Obj)) (σ : St) (Q : Bool → Hp → Prop) (b : Bool) (s' : Shared) : Prop := ∃ H', Inv X pins σ H' s' ∧ Q b H'
def AP (X : Cx) (pins : List (Addr × Obj)) (σ : St) (Q : List V → Hp → Prop) (us : List Value) (s' : Shared) : Prop := ∃ vs H', Inv X pins σ H' s' ∧ Vals vs us ∧ Q vs H'
def SP (X : Cx) (pins : List (Addr × Obj)) (D : Ends) (f : Flow) (s' : Shared) : Prop :=
  match f with
  | .next => ∃ σ' H', Inv X pins σ' H' s' ∧ D.nx σ' H'
  | .brk => ∃ σ' H', Inv X pins σ' H' s' ∧ D.bk σ' H'
  | .cont => ∃ σ' H', Inv X pins σ' H' s' ∧ D.ct σ' H'
  | .ret u => ∃ v σ' H', Inv X pins σ' H' s' ∧ RelV v u ∧ D.rt v H'
def PE (X : Cx) (e : Expr) (t : TE) : Prop :=
  ∀ (pins : List (Addr × Obj)) (s : Shared) (σ : St) (H : Hp) (Q : VK), Inv X pins σ H s → t σ H Q → wpAny (model X.prog X.w) X.A (eval e X.env) (EP X pins σ Q) X.xe s
def PT (X : Cx) (e : Expr) (t : TT) : Prop :=
  ∀ (pins : List (Addr × Obj)) (s : Shared) (σ : St) (H : Hp) (Q : Bool → Hp → Prop), Inv X pins σ H s → t σ H Q → wpAny (model X.prog X.w) X.A (isTrue e X.env (eval e X.env)) (TP X pins σ Q) X.xe s
def PW (X : Cx) (e : Expr) (t : TT) : Prop :=
  ∀ (whole : Sem Value) (pins : List (Addr × Obj)) (s : Shared) (σ : St) (H : Hp) (Q : Bool → Hp → Prop), Inv X pins σ H s → t σ H Q → wpAny (model X.prog X.w) X.A (isTrue e X.env whole) (TP X pins σ Q) X.xe s
theorem PW.pt {X : Cx} {e : Expr} {t : TT} (h : PW X e t) : PT X e t := h _
def PA (X : Cx) (es : List Expr) (t : TA) : Prop :=
  ∀ (pos : Pos) (pins : List (Addr × Obj)) (s : Shared) (σ : St) (H : Hp) (Q : List V → Hp → Prop), Inv X pins σ H s → t σ H Q → wpAny (model X.prog X.w) X.A (spliced (backTo pos (starEach es X.env))) (AP X pins σ Q) X.xe s
def PS (X : Cx) (st : Stmt) (t : TS) : Prop :=
  ∀ (pins : List (Addr × Obj)) (s : Shared) (σ : St) (H : Hp) (D : Ends), Inv X pins σ H s → t D σ H → wpAny (model X.prog X.w) X.A (exec st X.env) (SP X pins D) X.xe s
def PSs (X : Cx) (st : List Stmt) (t : TS) : Prop :=
  ∀ (pins : List (Addr × Obj)) (s : Shared) (σ : St) (H : Hp) (D : Ends), Inv X pins σ H s → t D σ H → wpAny (model X.prog X.w) X.A (execs st X.env) (SP X pins D) X.xe s
theorem thn {α : Type} {t : Sem α} {Q Q' : α → Shared → Prop} {M : Model} {A : Around} {E : Value → Shared → Prop} {s : Shared} (h : wpAny M A t Q E s) (hQ : ∀ a s, Q a s → Q' a s) : wpAny M A t Q' E s := wpAny_mono h hQ fun _ _ x => x
end L2
namespace L2
open PySem PySem.Spec PyProof.Rows
section
variable {X : Cx}
def tVar (i : Nat) : TE := fun σ H Q => ∃ v, σ[i]? = some (some v) ∧ Q v H
def tC (v : V) : TE := fun _ H Q => Q v H
theorem pe_var {i : Nat} {x : Str} {pos : Pos} (hN : X.N[i]? = some x) (hv : Vis X.env.scope x) (hd : (x == ("__debug__" : Str)) = false := by decide) (hcd : (x == ("__classdict__" : Str)) = false := by decide) : PE X (.Name x pos) (tVar i) := by
  intro pins s σ H Q I h
  obtain ⟨v, e, h⟩ := h
  obtain ⟨m, hn, hl⟩ := I.loc
  obtain ⟨u, r, l⟩ := hl i x v hN e hv
  have fin : EP X pins σ Q u s := ⟨v, H, I, r, h⟩
  rcases l with ⟨hk, hm⟩ | ⟨hk, c, hc, hcell⟩
  · exact wpAny_Name (wpAny_loadName_local I.ok.kind hk hn hm fin) hd
  · rcases hk with hk | hk
    · exact wpAny_Name (wpAny_loadName_cell I.ok.kind hk hc hcell fin) hd
    · exact wpAny_Name (wpAny_loadName_free I.ok.kind hk hc hcell fin hcd) hd
theorem pe_int {i j pos} : PE X (.Constant (.int i) j pos) (tC (.int i)) := fun _ _ _ H _ I h => wpAny_Constant_int ⟨.int i, H, I.tok _, ⟨_, rfl⟩, h⟩
theorem pe_bl {b j pos} : PE X (.Constant (.bool b) j pos) (tC (.bl b)) := fun _ _ _ H _ I h => Constant_bool ⟨.bl b, H, I, rfl, h⟩
theorem pe_non {j pos} : PE X (.Constant .none j pos) (tC .non) := fun _ _ _ H _ I h => Constant_none ⟨.non, H, I, rfl, h⟩
theorem pe_str {x j pos} : PE X (.Constant (.str x) j pos) (tC (.str x)) := fun _ _ _ H _ I h => Calls.Constant_str ⟨.str x, H, I.tok _, ⟨_, rfl⟩, h⟩
def Gl (X : Cx) (x : Str) : Prop := X.env.kindOf x = some .globalImplicit
theorem ld_glob {E : Value → Shared → Prop} {pins : List (Addr × Obj)} {s : Shared} {σ : St} {H : Hp} {x : Str} {u : Value} {pos : Pos} {Q : Value → Shared → Prop} (I : Inv X pins σ H s) (hg : Gl X x) (hm : X.mg x = some u) (h : Q u s)
    (hd : (x == ("__debug__" : Str)) = false := by decide) : wpAny (model X.prog X.w) X.A (eval (.Name x pos) X.env) Q E s :=
  Calls.Name_function_global I.ok.kind hg (Calls.loadGlobal_global (by rw [I.ok.glob]; exact I.mod.glob.keeps I.bk) hm h) hd
theorem ld_blt {E : Value → Shared → Prop} {pins : List (Addr × Obj)} {s : Shared} {σ : St} {H : Hp} {x : Str} {u : Value} {pos : Pos} {Q : Value → Shared → Prop} (I : Inv X pins σ H s) (hg : Gl X x) (hm : X.mg x = none) (hv : bootBuiltins x = some u) (h : Q u s)
    (hn : x ≠ "__name__" := by decide) (hd : (x == ("__debug__" : Str)) = false := by decide) : wpAny (model X.prog X.w) X.A (eval (.Name x pos) X.env) Q E s := by
  obtain ⟨mb, h1, h2⟩ := I.mod.blt
  exact Calls.Name_function_global I.ok.kind hg (Calls.loadGlobal_builtin (by rw [I.ok.glob]; exact I.mod.glob.keeps I.bk) hm (by rw [I.ok.blt]; exact h1.keeps I.bk) ((h2 x hn).trans hv) h) hd
theorem pe_glob {x : Str} {v : V} {u : Value} {pos : Pos} (hg : Gl X x) (hm : X.mg x = some u) (r : RelV v u) (hd : (x == ("__debug__" : Str)) = false := by decide) : PE X (.Name x pos) (tC v) :=
  fun _ _ _ H _ I h => ld_glob I hg hm ⟨v, H, I, r, h⟩ hd
theorem pe_bltn {x : Str} {v : V} {u : Value} {pos : Pos} (hg : Gl X x) (hm : X.mg x = none) (hv : bootBuiltins x = some u) (r : RelV v u) (hn : x ≠ "__name__" := by decide) (hd : (x == ("__debug__" : Str)) = false := by decide) : PE X (.Name x pos) (tC v) :=
  fun _ _ _ H _ I h => ld_blt I hg hm hv ⟨v, H, I, r, h⟩ hn hd
variable {a b : Expr} {ta tb : TE} {pos : Pos}
def tB (t : TE) : TT := fun σ H Q => t σ H fun x H1 => ∃ c, x = .bl c ∧ Q c H1
theorem pt_val {e : Expr} {t : TE} (h : PE X e t) (he : ∀ whole, isTrue e X.env whole = (do let v ← whole; standAt e.pos; holding [v] (truthy v)) := by intro _; rfl) : PT X e (tB t) := by
  intro pins s σ H Q I hw
  refine isTrue_plain (thn (h pins s σ H _ I hw) fun v s1 ⟨x, H1, I1, r1, q1⟩ => ?_) (he _)
  obtain ⟨d, rfl, q⟩ := q1
  cases r1
  exact wpAny_truthy_bool ⟨H1, I1, q⟩
variable {tA tB' : TT} {rest : List Expr}
def tAnd (t u : TT) : TT := fun σ H Q => t σ H fun c H1 => if c = true then u σ H1 Q else Q false H1
def tOr (t u : TT) : TT := fun σ H Q => t σ H fun c H1 => if c = true then Q true H1 else u σ H1 Q
def tNot (t : TT) : TT := fun σ H Q => t σ H fun c H1 => Q (!c) H1
theorem pw_and1 (ha : PT X a tA) : PW X (.BoolOp .And [a] pos) tA := by
  intro wh pins s σ H Q I h
  refine isTrue_and (thn (ha pins s σ H Q I h) fun c s1 e => ?_)
  cases c with
  | true => exact isTrue_and_nil e
  | false => exact e
theorem pw_or1 (ha : PT X a tA) : PW X (.BoolOp .Or [a] pos) tA := by
  intro wh pins s σ H Q I h
  refine isTrue_or (thn (ha pins s σ H Q I h) fun c s1 e => ?_)
  cases c with
  | false => exact isTrue_or_nil e
  | true => exact e
theorem pw_and (ha : PT X a tA) (hb : PW X (.BoolOp .And (b :: rest) pos) tB') : PW X (.BoolOp .And (a :: b :: rest) pos) (tAnd tA tB') := by
  intro wh pins s σ H Q I h
  refine isTrue_and (thn (ha pins s σ H _ I h) fun c s1 ⟨H1, I1, q1⟩ => ?_)
  cases c with
  | true => exact hb wh pins s1 σ H1 Q I1 q1
  | false => exact ⟨H1, I1, q1⟩
theorem pw_or (ha : PT X a tA) (hb : PW X (.BoolOp .Or (b :: rest) pos) tB') : PW X (.BoolOp .Or (a :: b :: rest) pos) (tOr tA tB') := by
  intro wh pins s σ H Q I h
  refine isTrue_or (thn (ha pins s σ H _ I h) fun c s1 ⟨H1, I1, q1⟩ => ?_)
  cases c with
  | true => exact ⟨H1, I1, q1⟩
  | false => exact hb wh pins s1 σ H1 Q I1 q1
theorem pt_not (ha : PT X a tA) : PT X (.UnaryOp .Not a pos) (tNot tA) := by
  intro pins s σ H Q I h
  exact isTrue_not (ha pins s σ H (fun c H1 => Q (!c) H1) I h)
def tAndV (ta tb : TE) : TE := fun σ H Q => ta σ H fun x H1 => ∃ c, x = .bl c ∧ if c = true then tb σ H1 Q else Q (.bl false) H1
def tNotV (ta : TE) : TE := fun σ H Q => ta σ H fun x H1 => ∃ c, x = .bl c ∧ Q (.bl (!c)) H1
theorem pe_one {op} {t : TE} (h : PE X a t) : PE X (.BoolOp op [a] pos) t := fun pins s σ H Q I hw => BoolOp_one (h pins s σ H Q I hw)
theorem pe_and (ha : PE X a ta) (hb : PE X (.BoolOp .And (b :: rest) pos) tb) : PE X (.BoolOp .And (a :: b :: rest) pos) (tAndV ta tb) := by
  intro pins s σ H Q I h
  refine BoolOp_and (thn (ha pins s σ H _ I h) fun v s1 ⟨x, H1, I1, r1, q1⟩ => ?_)
  obtain ⟨c, rfl, q1⟩ := q1
  cases r1
  refine wpAny_truthy_bool ?_
  cases c with
  | true => exact hb pins s1 σ H1 Q I1 q1
  | false => exact ⟨.bl false, H1, I1, rfl, q1⟩
theorem pe_not (ha : PE X a ta) : PE X (.UnaryOp .Not a pos) (tNotV ta) := by
  intro pins s σ H Q I h
  refine UnaryOp_ (thn (ha pins s σ H _ I h) fun v s1 ⟨x, H1, I1, r1, q1⟩ => ?_)
  obtain ⟨c, rfl, q1⟩ := q1
  cases r1
  exact not_of (wpAny_truthy_bool ⟨.bl (!c), H1, I1, rfl, q1⟩)
end
end L2
namespace L2
open PySem PySem.Spec PyProof.Rows
def SqL (K : PySem.W.Frag) (H : Hp) (a : Addr) (xs : List V) : Prop :=
  Rd H a (.lst xs) ∨
    ∃ (o : Obj) (its : Array Value) (n : Nat), K.lookup a = some o ∧ o.cls = .type "list" ∧ o.dict = none ∧ o.data = .seq its n ∧ its.size ≤ sizeLine ∧ Vals xs its.toList
def SqT (K : PySem.W.Frag) (H : Hp) (a : Addr) (xs : List V) : Prop :=
  Rd H a (.tup xs) ∨
    ∃ (o : Obj) (its : Array Value) (n : Nat), K.lookup a = some o ∧ o.cls = .type "tuple" ∧ o.data = .seq its n ∧ its.size ≤ sizeLine ∧ Vals xs its.toList
def absV : Value → Option V
  | .none => some .non
  | .bool b => some (.bl b)
  | .int i _ => some (.int i)
  | .str x _ => some (.str x)
  | .bytes b _ => some (.byt b)
  | .float b _ => some (.flt b)
  | .ref a => some (.ref a)
  | .type n => some (.ty n)
  | _ => none
theorem RelV.abs {x : V} {u : Value} (r : RelV x u) : absV u = some x := by
  cases x with
  | non => cases r; rfl
  | bl _ => cases r; rfl
  | int _ => obtain ⟨t, rfl⟩ := r; rfl
  | str _ => obtain ⟨t, rfl⟩ := r; rfl
  | byt _ => obtain ⟨t, rfl⟩ := r; rfl
  | flt _ => obtain ⟨t, rfl⟩ := r; rfl
  | ref _ => cases r; rfl
  | ty _ => cases r; rfl
theorem RelV.inj {x y : V} {u : Value} (r : RelV x u) (q : RelV y u) : x = y := Option.some.inj (r.abs.symm.trans q.abs)
theorem Vals.inj : ∀ {xs ys : List V} {us : List Value}, Vals xs us → Vals ys us → xs = ys
  | _, _, _, .nil, .nil => rfl
  | _, _, _, .cons r t, .cons r' t' => by rw [r.inj r', Vals.inj t t']
section
variable {X : Cx} {pins : List (Addr × Obj)} {σ : St} {H : Hp} {s : Shared} {a : Addr} {xs ys : List V}
theorem SqL.of {K : PySem.W.Frag} (h : H a = some (.lst xs)) : SqL K H a xs := .inl (.inl h)
theorem SqT.of {K : PySem.W.Frag} (h : H a = some (.tup xs)) : SqT K H a xs := .inl (.inl h)
theorem Inv.list (I : Inv X pins σ H s) (h : SqL X.K H a xs) : ∃ its : List Value, Vals xs its ∧ PlainL s.heap a its.toArray ∧ xs.length ≤ sizeLine := by
  rcases h with h | ⟨o, its, n, hk, hc, hd, hs, hz, r⟩
  · obtain ⟨z, its, n, r, e⟩ := h.ok I.hok
    exact ⟨its, r, ⟨_, n, e, rfl, rfl, rfl⟩, z⟩
  · refine ⟨its.toList, r, ⟨o, n, I.kIn a o hk, hc, hd, by simpa using hs⟩, ?_⟩
    have e := r.length
    simp only [Array.length_toList] at e
    omega
theorem Inv.tuple (I : Inv X pins σ H s) (h : SqT X.K H a xs) : ∃ its : List Value, Vals xs its ∧ IsTup s.heap a its.toArray ∧ xs.length ≤ sizeLine := by
  rcases h with h | ⟨o, its, n, hk, hc, hs, hz, r⟩
  · obtain ⟨z, its, r, p⟩ := h.ok I.hok
    exact ⟨its, r, p, z⟩
  · refine ⟨its.toList, r, ⟨o, I.kIn a o hk, hc, n, by simpa using hs⟩, ?_⟩
    have e := r.length
    simp only [Array.length_toList] at e
    omega
theorem Inv.list_inj (I : Inv X pins σ H s) (h : SqL X.K H a xs) (h' : SqL X.K H a ys) : xs = ys := by
  obtain ⟨its, r, ⟨o, n, e, _, _, d⟩, _⟩ := I.list h
  obtain ⟨its', r', ⟨o', n', e', _, _, d'⟩, _⟩ := I.list h'
  rw [e] at e'; cases e'
  rw [d] at d'
  injection d' with d1 _
  have : its = its' := by simpa using congrArg Array.toList d1
  subst this
  exact r.inj r'
theorem Inv.tuple_inj (I : Inv X pins σ H s) (h : SqT X.K H a xs) (h' : SqT X.K H a ys) : xs = ys := by
  obtain ⟨its, r, ⟨o, e, _, n, d⟩, _⟩ := I.tuple h
  obtain ⟨its', r', ⟨o', e', _, n', d'⟩, _⟩ := I.tuple h'
  rw [e] at e'; cases e'
  rw [d] at d'
  injection d' with d1 _
  have : its = its' := by simpa using congrArg Array.toList d1
  subst this
  exact r.inj r'
end
abbrev Cx.wish (X : Cx) (E : Value → Shared → Prop) : Cx := { X with xe := E }
abbrev Cx.nox (X : Cx) : Cx := X.wish fun _ _ => False
theorem Cx.Ok.wish {X : Cx} (ok : X.Ok) (E : Value → Shared → Prop) : (X.wish E).Ok :=
  ⟨ok.mod, ok.kind, ok.glob, ok.blt, ok.above, ok.inj, ok.has, ok.cab, ok.hd, ok.frames, ok.stk, ok.exf, ok.bs, ok.bsz, ok.noex, ok.exfs, ok.funs, ok.frf⟩
theorem Cx.Ok.unwish {X : Cx} {E : Value → Shared → Prop} (ok : (X.wish E).Ok) : X.Ok :=
  ⟨ok.mod, ok.kind, ok.glob, ok.blt, ok.above, ok.inj, ok.has, ok.cab, ok.hd, ok.frames, ok.stk, ok.exf, ok.bs, ok.bsz, ok.noex, ok.exfs, ok.funs, ok.frf⟩
section
variable {X : Cx} {pins : List (Addr × Obj)} {σ : St} {H : Hp} {s : Shared} {E : Value → Shared → Prop}
theorem Inv.wish (I : Inv X pins σ H s) (E : Value → Shared → Prop) : Inv (X.wish E) pins σ H s := ⟨I.ok.wish E, I.os, I.bare, I.base, I.loc, I.cell, I.free, I.freeC, I.pin, I.hok, I.len⟩
theorem Inv.unwish (I : Inv (X.wish E) pins σ H s) : Inv X pins σ H s := ⟨I.ok.unwish, I.os, I.bare, I.base, I.loc, I.cell, I.free, I.freeC, I.pin, I.hok, I.len⟩
theorem SP.unwish {D : Ends} {f : Flow} {s' : Shared} (h : SP (X.wish E) pins D f s') : SP X pins D f s' := by
  cases f with
  | next => obtain ⟨σ', H', I, q⟩ := h; exact ⟨σ', H', I.unwish, q⟩
  | brk => obtain ⟨σ', H', I, q⟩ := h; exact ⟨σ', H', I.unwish, q⟩
  | cont => obtain ⟨σ', H', I, q⟩ := h; exact ⟨σ', H', I.unwish, q⟩
  | ret u => obtain ⟨v, σ', H', I, r, q⟩ := h; exact ⟨v, σ', H', I.unwish, r, q⟩
theorem PSs.nox {st : List Stmt} {t : TS} (h : PSs X.nox st t) : PSs X st t := fun pins s σ H D I hw =>
  wpAny_mono (h pins s σ H D (I.wish _) hw) (fun _ _ q => q.unwish) fun _ _ z => False.elim z
end
section
variable {X : Cx} {st : Stmt} {rest : List Stmt} {t u : TS} {e : Expr} {te : TE} {pos : Pos}
def tNext : TS := fun D σ H => D.nx σ H
def tSeq (t u : TS) : TS := fun D σ H => t { D with nx := u D } σ H
theorem pss_nil : PSs X [] tNext := fun _ _ σ H _ I h => wpAny_execs_nil ⟨σ, H, I, h⟩
theorem pss_cons (h1 : PS X st t) (h2 : PSs X rest u) : PSs X (st :: rest) (tSeq t u) := by
  intro pins s σ H D I h
  refine wpAny_execs_cons (thn (h1 pins s σ H { D with nx := u D } I h) fun f s1 q => ?_)
  cases f with
  | next =>
    obtain ⟨σ', H', I', q⟩ := q
    exact h2 pins s1 σ' H' D I' q
  | ret v => exact q
  | brk => exact q
  | cont => exact q
theorem pss_one (h1 : PS X st t) : PSs X [st] t := by
  intro pins s σ H D I h
  refine wpAny_execs_cons (thn (h1 pins s σ H D I h) fun f s1 q => ?_)
  cases f with
  | next => exact wpAny_execs_nil q
  | ret v => exact q
  | brk => exact q
  | cont => exact q
theorem Inv.quiet {pins : List (Addr × Obj)} {σ : St} {H : Hp} {s : Shared} (I : Inv X pins σ H s) : interactive X.env = false := by simp [interactive, I.ok.kind]
def tDrop (te : TE) : TS := fun D σ H => te σ H fun _ H1 => D.nx σ H1
theorem ps_expr (he : PE X e te) (hs : swapsWith e none pos.line X.env = pure false := by rfl) : PS X (.Expr e pos) (tDrop te) := by
  intro pins s σ H D I h
  exact wpAny_Expr_any (thn (he pins s σ H _ I h) fun v s1 ⟨x, H1, I1, r1, q1⟩ => ⟨σ, H1, I1, q1⟩) I.quiet hs
def tRet (te : TE) : TS := fun D σ H => te σ H D.rt
theorem ps_ret (he : PE X e te) : PS X (.Return (some e) pos) (tRet te) := by
  intro pins s σ H D I h
  exact wpAny_Return_some (thn (he pins s σ H _ I h) fun v s1 ⟨x, H1, I1, r1, q1⟩ => ⟨x, σ, H1, I1, r1, q1⟩)
def tIfS (c : TT) (t u : TS) : TS := fun D σ H => c σ H fun b H1 => if b = true then t D σ H1 else u D σ H1
theorem ps_if {c : Expr} {a b : List Stmt} {tc : TT} (hc : PT X c tc) (ha : PSs X a t) (hb : PSs X b u) : PS X (.If c a b pos) (tIfS tc t u) := by
  intro pins s σ H D I h
  refine wpAny_If (thn (hc pins s σ H _ I h) fun d s1 ⟨H1, I1, q1⟩ => ?_)
  cases d with
  | true => exact ha pins s1 σ H1 D I1 q1
  | false => exact hb pins s1 σ H1 D I1 q1
end
abbrev TG := V → St → Hp → (St → Hp → Prop) → Prop
abbrev TGs := List V → St → Hp → (St → Hp → Prop) → Prop
def PG (X : Cx) (target : Expr) (t : TG) : Prop :=
  ∀ (pins : List (Addr × Obj)) (s : Shared) (σ : St) (H : Hp) (v : V) (u : Value) (Q : St → Hp → Prop), Inv X pins σ H s → RelV v u → t v σ H Q →
    wpAny (model X.prog X.w) X.A (assign target X.env u) (fun _ s' => ∃ σ' H', Inv X pins σ' H' s' ∧ Q σ' H') X.xe s
def PGs (X : Cx) (ts : List Expr) (t : TGs) : Prop :=
  ∀ (pins : List (Addr × Obj)) (s : Shared) (σ : St) (H : Hp) (vs : List V) (us : List Value) (Q : St → Hp → Prop), Inv X pins σ H s → Vals vs us → t vs σ H Q →
    wpAny (model X.prog X.w) X.A (assignInOrder ((assignEach ts X.env).map (·.2)) us) (fun _ s' => ∃ σ' H', Inv X pins σ' H' s' ∧ Q σ' H') X.xe s
abbrev TSet := V → V → V → Hp → (Hp → Prop) → Prop
def PSet (X : Cx) (t : TSet) : Prop :=
  ∀ (pins : List (Addr × Obj)) (s : Shared) (σ : St) (H : Hp) (o i v : V) (ov iv u : Value) (Q : Hp → Prop), Inv X pins σ H s → RelV o ov → RelV i iv → RelV v u → t o i v H Q →
    wpAny (model X.prog X.w) X.A (setItem ov iv u) (fun _ s' => ∃ H', Inv X pins σ H' s' ∧ Q H') X.xe s
section
variable {X : Cx} {pos : Pos}
def gName (i : Nat) : TG := fun v σ H Q => Q (σ.set i (some v)) H
theorem pg_name {i : Nat} {x : Str} (hN : X.N.Nodup) (hi : X.N[i]? = some x) (hx : Loc X.env.scope x) (hf : X.fn x = true ∨ X.env.scope.names.lookup x = some .local := by first | exact .inl rfl | exact .inr rfl | assumption) : PG X (.Name x pos) (gName i) := by
  intro pins s σ H v u Q I r h
  exact wpAny_assign_Name (store_ok I hN hi hx r (fun s' I' => ⟨_, H, I', h⟩) hf)
def gNil : TGs := fun vs σ H Q => vs = [] ∧ Q σ H
def gCons (t : TG) (u : TGs) : TGs := fun vs σ H Q => ∃ v r, vs = v :: r ∧ t v σ H fun σ' H' => u r σ' H' Q
theorem pgs_nil : PGs X [] gNil := by
  intro pins s σ H vs us Q I r h
  obtain ⟨e, h⟩ := h
  subst e
  cases r
  exact assignInOrder_nil ⟨σ, H, I, h⟩
theorem pgs_cons {e : Expr} {es : List Expr} {t : TG} {u : TGs} (h1 : PG X e t) (h2 : PGs X es u)
    (hs : (assignEach (e :: es) X.env).map (·.2) = assign e X.env :: (assignEach es X.env).map (·.2) := by rfl) : PGs X (e :: es) (gCons t u) := by
  intro pins s σ H vs us Q I r h
  obtain ⟨v, vr, e1, h⟩ := h
  subst e1
  cases r with
  | cons r rr =>
    rw [hs]
    refine assignInOrder_cons (thn (h1 pins s σ H _ _ _ I r h) fun _ s1 ⟨σ1, H1, I1, q1⟩ => ?_)
    exact h2 pins s1 σ1 H1 _ _ Q I1 rr q1
def gTup (K : PySem.W.Frag) (n : Nat) (t : TGs) : TG := fun v σ H Q => ∃ a xs, v = .ref a ∧ SqT K H a xs ∧ xs.length = n ∧ t xs σ H Q
theorem pg_tup {es : List Expr} {k : Nat} {t : TGs} {n : Nat} (hc : X.calm = true) (h : PGs X es t)
    (hn : (assignEach es X.env).length = n := by rfl) (hst : (assignEach es X.env).findIdx? (·.1) = none := by rfl) : PG X (.Tuple es k pos) (gTup X.K n t) := by
  intro pins s σ H v u Q I r hw
  obtain ⟨a, xs, e1, hq, hl, hw⟩ := hw
  subst e1
  cases r
  obtain ⟨its, rv, ht, hz⟩ := I.tuple hq
  refine assign_Tuple_tuple (I.ok.hd hc) ht (by simp [hn, ← hl, rv.length]) hst fun h' hx => ?_
  have I1 : Inv X pins σ H { s with heap := h' } := I.kept (t' := s.toks) fun b o e => hx b o (Nat.ne_of_lt (Heap.lt_size e)) e
  exact h pins _ σ H xs _ Q I1 (by simpa using rv) hw
def gSub (to ti : TE) (t : TSet) : TG := fun v σ H Q => to σ H fun o H1 => ti σ H1 fun i H2 => t o i v H2 fun H3 => Q σ H3
theorem pg_sub {o i : Expr} {to ti : TE} {t : TSet} (ho : PE X o to) (hi : PE X i ti) (hs : PSet X t)
    (ha : ∀ v, assign (.Subscript o i pos) X.env v = (do
      let ov ← holding [v] (eval o X.env)
      let iv ← holding [v, ov] (eval i X.env)
      standAt pos
      holding [v, ov, iv] (setItem ov iv v)
      release [v, ov, iv] []) := by intro _; rfl) : PG X (.Subscript o i pos) (gSub to ti t) := by
  intro pins s σ H v u Q I r h
  rw [ha]
  refine wpAny_bind (wpAny_holding (thn (ho pins s σ H _ I h) fun ov s1 ⟨x, H1, I1, r1, q1⟩ => ?_))
  refine wpAny_bind (wpAny_holding (thn (hi pins s1 σ H1 _ I1 q1) fun iv s2 ⟨y, H2, I2, r2, q2⟩ => ?_))
  refine wpAny_bind (wpAny_standAt (wpAny_bind (wpAny_holding (thn (hs pins s2 σ H2 x y v ov iv u _ I2 r1 r2 r q2) fun _ s3 ⟨H3, I3, q3⟩ => ?_))))
  exact wpAny_release ⟨σ, H3, I3, q3⟩
def tAsg (te : TE) (g : TG) : TS := fun D σ H => te σ H fun x H1 => g x σ H1 D.nx
theorem ps_asg {tg e : Expr} {te : TE} {g : TG} (he : PE X e te) (hg : PG X tg g) (hs : swapsWithSole [tg] e pos.line X.env = pure false := by rfl) (hw : swappedStores [tg] e X.env = pure none := by rfl)
    (h1 : (assignEach [tg] X.env).map (·.2) = [assign tg X.env] := by rfl) : PS X (.Assign [tg] e pos) (tAsg te g) := by
  intro pins s σ H D I h
  refine wpAny_Assign_stores (thn (he pins s σ H _ I h) fun v s1 ⟨x, H1, I1, r1, q1⟩ => ?_) hs hw
  rw [h1]
  exact thn (hg pins s1 σ H1 x v _ I1 r1 q1) fun _ s2 q => q
theorem ps_set {i : Nat} {x : Str} {e : Expr} {te : TE} {pos' : Pos} (hN : X.N.Nodup) (hi : X.N[i]? = some x) (hx : Loc X.env.scope x) (he : PE X e te) (hs : swapsWith e (some (.Name x pos')) pos.line X.env = pure false := by rfl) (hf : X.fn x = true ∨ X.env.scope.names.lookup x = some .local := by first | exact .inl rfl | exact .inr rfl | assumption) :
    PS X (.Assign [.Name x pos'] e pos) (tAsg te (gName i)) := by
  intro pins s σ H D I h
  refine wpAny_Assign_Name (thn (he pins s σ H _ I h) fun v s1 ⟨y, H1, I1, r1, q1⟩ => ?_) hs
  exact store_ok I1 hN hi hx r1 (fun s2 I2 => ⟨_, H1, I2, q1⟩) hf
end
section
variable {X : Cx} {pos : Pos}
end
structure It where
  go : Nat → Hp → Prop
  yld : Nat → Hp → V → Hp → Prop
  stop : Nat → Hp → Prop
def FpOk (X : Cx) (pins : List (Addr × Obj)) (H : Hp) (b : Addr) : Prop :=
  H b = none ∧ b ≠ X.env.locals ∧ b ∉ X.fs ∧ (b ∈ X.ex ∨ X.s₀.heap.objs.size ≤ b) ∧ (∀ x c, X.env.cells.lookup x = some c → c ≠ b) ∧ ∀ p ∈ X.pn ++ pins, p.1 ≠ b
theorem Inv.fpOk {X : Cx} {pins : List (Addr × Obj)} {σ : St} {H H' : Hp} {s : Shared} {b : Addr} (I : Inv X pins σ H s) (hb : s.heap.objs.size ≤ b) (hn : H' b = none) : FpOk X pins H' b := by
  refine ⟨hn, Nat.ne_of_gt (Nat.lt_of_lt_of_le I.lt hb), I.nofs hb, .inr (Nat.le_trans I.sz hb), fun x c e z => ?_, fun p hp z => ?_⟩
  · obtain ⟨v, q⟩ := I.cell x c e
    exact absurd (Nat.lt_of_lt_of_le q.lt (by rw [z]; exact hb)) (Nat.lt_irrefl _)
  · exact absurd (Nat.lt_of_lt_of_le (Heap.lt_size (I.pin p hp).1) (by rw [z]; exact hb)) (Nat.lt_irrefl _)
structure Turn (P : Program) (w : World) (K : PySem.W.Frag) (tg : Expr) (J : It) (fp : List Addr) (it : Addr) (tn : Nat → Heap → Prop) : Prop where
  mem : it ∈ fp
  obj : ∀ i h, tn i h → ∀ b ∈ fp, ∃ o, h.get? b = some o ∧ ∀ v, o.data ≠ .cell v
  keep : ∀ i h h', tn i h → (∀ b ∈ fp, ∀ o, h.get? b = some o → h'.get? b = some o) → tn i h'
  item : ∀ (X : Cx), X.prog = P → X.w = w → X.K = K → X.calm = true → ∀ (i : Nat) (pins : List (Addr × Obj)) (s : Shared) (σ : St) (H : Hp) (E : Value → Shared → Prop), Inv X pins σ H s → (∀ b ∈ fp, FpOk X pins H b) → tn i s.heap → J.go i H →
    wpAny (model P w) X.A (pyNext (.ref it)) (fun r s1 => ∃ u, r = some u ∧
      wpAny (model P w) X.A (letOwnedTupleGo tg (.ref it) u) (fun _ s2 => ∃ x H', Inv X pins σ H' s2 ∧ RelV x u ∧ J.yld i H x H' ∧ tn (i + 1) s2.heap ∧ ∀ b ∈ fp, H' b = none) E s1) E s
  done : ∀ (X : Cx), X.prog = P → X.w = w → X.K = K → X.calm = true → ∀ (i : Nat) (pins : List (Addr × Obj)) (s : Shared) (σ : St) (H : Hp) (E : Value → Shared → Prop), Inv X pins σ H s → (∀ b ∈ fp, FpOk X pins H b) → tn i s.heap → J.stop i H →
    wpAny (model P w) X.A (pyNext (.ref it)) (fun r s1 => r = none ∧ Inv X pins σ H s1) E s
  self : ∀ (A : Around) (i : Nat) (s : Shared) (Q : Value → Shared → Prop) (E : Value → Shared → Prop), tn i s.heap → Q (.ref it) s → wpAny (model P w) A (pyIter (.ref it)) Q E s
abbrev TI := St → Hp → (It → Hp → Prop) → Prop
def PIE (X : Cx) (pins : List (Addr × Obj)) (σ : St) (tg : Expr) (R : It → Hp → Prop) (itv : Value) (s2 : Shared) : Prop :=
  ∃ (it : Addr) (fp : List Addr) (tn : Nat → Heap → Prop) (J : It) (H' : Hp), itv = .ref it ∧ Inv X pins σ H' s2 ∧ Turn X.prog X.w X.K tg J fp it tn ∧ tn 0 s2.heap ∧ (∀ b ∈ fp, FpOk X pins H' b) ∧ R J H'
def PI (X : Cx) (tg iter : Expr) (wi : TI) : Prop :=
  ∀ (pins : List (Addr × Obj)) (s : Shared) (σ : St) (H : Hp) (R : It → Hp → Prop), Inv X pins σ H s → wi σ H R →
    wpAny (model X.prog X.w) X.A (eval iter X.env) (fun v s1 => wpAny (model X.prog X.w) X.A (pyIter v) (PIE X pins σ tg R) X.xe s1) X.xe s
theorem go_of {M : Model} {A : Around} {E : Value → Shared → Prop} {s : Shared} {tg : Expr} {it : Addr} {u : Value} {o : Obj} {n : String} {vs : Array Value} {Q : Unit → Shared → Prop} (ho : s.heap.get? it = some o) (hc : o.cls = .type n) (hd : o.data = .fields vs)
    (hn : ["enumerate", "zip", "dict_itemiterator", "dict_reverseitemiterator", "odict_iterator", "itertools.zip_longest", "itertools.pairwise"].contains n = false) (hQ : Q () s) : wpAny M A (letOwnedTupleGo tg (.ref it) u) Q E s := by
  unfold letOwnedTupleGo
  cases tg <;> first
    | exact wpAny_pure hQ
    | (cases u <;> first
        | exact wpAny_pure hQ
        | (refine wpAny_bind (wpAny_load ho ?_)
           rw [hc, hd]
           show wpAny M A (if (["enumerate", "zip", "dict_itemiterator", "dict_reverseitemiterator", "odict_iterator", "itertools.zip_longest", "itertools.pairwise"].contains n && vs[0]? == some (rawInt _)) = true then _ else _) Q E s
           rw [if_neg (by intro h; rw [hn, Bool.false_and] at h; cases h)]
           exact wpAny_pure hQ))
def Itl (K : PySem.W.Frag) (a : Addr) : It :=
  ⟨fun i H => ∃ xs x, SqL K H a xs ∧ xs[i]? = some x, fun i H x H' => H' = H ∧ ∀ xs, SqL K H a xs → xs[i]? = some x, fun i H => ∃ xs, SqL K H a xs ∧ xs.length ≤ i⟩
def Itt (K : PySem.W.Frag) (a : Addr) : It :=
  ⟨fun i H => ∃ xs x, SqT K H a xs ∧ xs[i]? = some x, fun i H x H' => H' = H ∧ ∀ xs, SqT K H a xs → xs[i]? = some x, fun i H => ∃ xs, SqT K H a xs ∧ xs.length ≤ i⟩
def Itr (lo : Int) (n : Nat) : It := ⟨fun i _ => i < n, fun i H x H' => H' = H ∧ x = .int (lo + i), fun i _ => n ≤ i⟩
theorem turn_list {P : Program} {w : World} {K : PySem.W.Frag} {tg : Expr} (a it : Addr) : Turn P w K tg (Itl K a) [it] it (fun i h => h.IsListIter it a i) where
  mem := by simp
  obj := fun i h st b hb => by
    have e : b = it := by simpa using hb
    subst e
    obtain ⟨o, e, c, d⟩ := st
    exact ⟨o, e, fun v z => by rw [d] at z; cases z⟩
  keep := fun i h h' st k => st.at fun o e => k it (by simp) o e
  item := by
    intro X hP hw hK hc i pins s σ H E I hf st hg
    subst hP hw hK
    obtain ⟨xs, x, hq, hx⟩ := hg
    obtain ⟨its, rv, p, hz⟩ := I.list hq
    obtain ⟨u, hu, ru⟩ := rv.get hx
    obtain ⟨f0, f1, f2, f3, f4, f5⟩ := hf it (by simp)
    refine wpAny_pyNext_list_item st p.isList (x := u) (by simpa using hu) fun h' st' sb => ?_
    have I1 : Inv X pins σ H { s with heap := h' } := I.turned (t' := s.toks) (fun b o hb e => (sb.2 b hb).trans e) f0 f1 f3 f4 f5
    obtain ⟨o, e, c, d⟩ := id st'
    exact ⟨u, rfl, go_of (s := { s with heap := h' }) e c d (by decide) ⟨x, H, I1, ru, ⟨rfl, fun ys hy => by rw [I.list_inj hy hq]; exact hx⟩, st', fun b hb => (hf b hb).1⟩⟩
  done := by
    intro X hP hw hK hc i pins s σ H E I hf st hg
    subst hP hw hK
    obtain ⟨xs, hq, hx⟩ := hg
    obtain ⟨its, rv, p, hz⟩ := I.list hq
    obtain ⟨f0, f1, f2, f3, f4, f5⟩ := hf it (by simp)
    have hl := rv.length
    exact wpAny_pyNext_list_end (I.ok.hd hc) st p.isList (by simp; omega) fun h' eb => ⟨rfl, I.turned (t' := s.toks) (fun b o hb e => eb b o hb e) f0 f1 f3 f4 f5⟩
  self := fun _ _ _ _ _ st h => wpAny_pyIter_listiter st h
theorem turn_tuple {P : Program} {w : World} {K : PySem.W.Frag} {tg : Expr} (a it : Addr) : Turn P w K tg (Itt K a) [it] it (fun i h => h.IsTupleIter it a i) where
  mem := by simp
  obj := fun i h st b hb => by
    have e : b = it := by simpa using hb
    subst e
    obtain ⟨o, e, c, d⟩ := st
    exact ⟨o, e, fun v z => by rw [d] at z; cases z⟩
  keep := fun i h h' st k => st.at fun o e => k it (by simp) o e
  item := by
    intro X hP hw hK hc i pins s σ H E I hf st hg
    subst hP hw hK
    obtain ⟨xs, x, hq, hx⟩ := hg
    obtain ⟨its, rv, p, hz⟩ := I.tuple hq
    obtain ⟨u, hu, ru⟩ := rv.get hx
    obtain ⟨f0, f1, f2, f3, f4, f5⟩ := hf it (by simp)
    refine wpAny_pyNext_tuple_item st (show s.heap.IsTuple a its.toArray from p) (x := u) (by simpa using hu) fun h' st' sb => ?_
    have I1 : Inv X pins σ H { s with heap := h' } := I.turned (t' := s.toks) (fun b o hb e => (sb.2 b hb).trans e) f0 f1 f3 f4 f5
    obtain ⟨o, e, c, d⟩ := id st'
    exact ⟨u, rfl, go_of (s := { s with heap := h' }) e c d (by decide) ⟨x, H, I1, ru, ⟨rfl, fun ys hy => by rw [I.tuple_inj hy hq]; exact hx⟩, st', fun b hb => (hf b hb).1⟩⟩
  done := by
    intro X hP hw hK hc i pins s σ H E I hf st hg
    subst hP hw hK
    obtain ⟨xs, hq, hx⟩ := hg
    obtain ⟨its, rv, p, hz⟩ := I.tuple hq
    obtain ⟨f0, f1, f2, f3, f4, f5⟩ := hf it (by simp)
    have hl := rv.length
    exact wpAny_pyNext_tuple_end (I.ok.hd hc) st (show s.heap.IsTuple a its.toArray from p) (by simp; omega) fun h' eb => ⟨rfl, I.turned (t' := s.toks) (fun b o hb e => eb b o hb e) f0 f1 f3 f4 f5⟩
  self := fun _ _ _ _ _ st h => wpAny_pyIter_tupleiter st h
theorem turn_range {P : Program} {w : World} {K : PySem.W.Frag} {tg : Expr} (it : Addr) (lo : Int) (n : Nat) : Turn P w K tg (Itr lo n) [it] it (fun i h => IsRangeIter h it (lo + (i : Nat) * 1) ((n : Int) - (i : Nat)) 1) where
  mem := by simp
  obj := fun i h st b hb => by
    have e : b = it := by simpa using hb
    subst e
    exact ⟨_, st, fun v z => by
      have z' : Data.fields _ = Data.cell v := z
      cases z'⟩
  keep := fun i h h' st k => k it (by simp) _ st
  item := by
    intro X hP hw hK hc i pins s σ H E I hf st hg
    subst hP hw hK
    obtain ⟨f0, f1, f2, f3, f4, f5⟩ := hf it (by simp)
    have W := Walks.range (prog := X.prog) (w := X.w) (I.ok.hd hc) it lo 1 n
    refine W.item i s _ _ hg st fun v h' tk hv st' kk => ?_
    obtain ⟨t, rfl⟩ := hv
    have I1 : Inv X pins σ H { s with heap := h', toks := tk } := I.turned (fun b o hb e => kk b o (by simpa using hb) e) f0 f1 f3 f4 f5
    refine ⟨_, rfl, go_of (s := { s with heap := h', toks := tk }) (n := "range_iterator") st' rfl rfl (by decide) ⟨.int (lo + i), H, I1, ⟨t, ?_⟩, ⟨rfl, rfl⟩, st', fun b hb => (hf b hb).1⟩⟩
    rw [Int.mul_one]
  done := by
    intro X hP hw hK hc i pins s σ H E I hf st hg
    subst hP hw hK
    obtain ⟨f0, f1, f2, f3, f4, f5⟩ := hf it (by simp)
    exact wpAny_pyNext_range_end (I.ok.hd hc) st (by have : n ≤ i := hg; omega) fun h' eb => ⟨rfl, I.turned (t' := s.toks) (fun b o hb e => eb b o hb e) f0 f1 f3 f4 f5⟩
  self := fun _ _ _ _ _ st h => wpAny_pyIter_rangeiter st h
end L2
namespace L2
open PySem PySem.Spec PyProof.Rows
section
variable {X : Cx} {tg : Expr}
def iList (K : PySem.W.Frag) (tl : TE) : TI := fun σ H R => tl σ H fun x H1 => ∃ a, x = .ref a ∧ (∃ xs, SqL K H1 a xs) ∧ R (Itl K a) H1
def iTup (K : PySem.W.Frag) (tl : TE) : TI := fun σ H R => tl σ H fun x H1 => ∃ a, x = .ref a ∧ (∃ xs, SqT K H1 a xs) ∧ R (Itt K a) H1
theorem pi_list {l : Expr} {tl : TE} (hl : PE X l tl) : PI X tg l (iList X.K tl) := by
  intro pins s σ H R I h
  refine thn (hl pins s σ H _ I h) fun v s1 ⟨x, H1, I1, r1, q1⟩ => ?_
  obtain ⟨a, e, ⟨xs, hq⟩, q⟩ := q1
  subst e
  cases r1
  obtain ⟨its, rv, p, hz⟩ := I1.list hq
  refine wpAny_pyIter_list p.isList ?_
  refine ⟨s1.heap.objs.size, [s1.heap.objs.size], _, _, H1, rfl, I1.kept (t' := s1.toks) fun b o e => Heap.get?_push_of_some _ e, turn_list a _, ⟨_, Heap.get?_push_size _ rfl, rfl, rfl⟩, fun b hb => ?_, q⟩
  have e : b = s1.heap.objs.size := by simpa using hb
  subst e
  exact I1.fpOk (Nat.le_refl _) (I1.hok.fresh (Nat.le_refl _))
theorem pi_tup {l : Expr} {tl : TE} (hl : PE X l tl) : PI X tg l (iTup X.K tl) := by
  intro pins s σ H R I h
  refine thn (hl pins s σ H _ I h) fun v s1 ⟨x, H1, I1, r1, q1⟩ => ?_
  obtain ⟨a, e, ⟨xs, hq⟩, q⟩ := q1
  subst e
  cases r1
  obtain ⟨its, rv, p, hz⟩ := I1.tuple hq
  refine wpAny_pyIter_tuple (show s1.heap.IsTuple a its.toArray from p) ?_
  refine ⟨s1.heap.objs.size, [s1.heap.objs.size], _, _, H1, rfl, I1.kept (t' := s1.toks) fun b o e => Heap.get?_push_of_some _ e, turn_tuple a _, ⟨_, Heap.get?_push_size _ rfl, rfl, rfl⟩, fun b hb => ?_, q⟩
  have e : b = s1.heap.objs.size := by simpa using hb
  subst e
  exact I1.fpOk (Nat.le_refl _) (I1.hok.fresh (Nat.le_refl _))
theorem range_it {pins : List (Addr × Obj)} {σ : St} {H : Hp} {s : Shared} {R : It → Hp → Prop} {E : Value → Shared → Prop} {lo hi : Int} {t u v : Tok} {tk : Nat} (I : Inv X pins σ H s) (h1 : -(2 ^ 62) ≤ lo) (h2 : lo < 2 ^ 62) (h3 : -(2 ^ 62) ≤ hi) (h4 : hi < 2 ^ 62)
    (q : R (Itr lo (hi - lo).toNat) H) : wpAny (model X.prog X.w) X.A (pyIter (.ref s.heap.objs.size)) (PIE X pins σ tg R) E { s with heap := s.heap.push { cls := .type "range", data := .fields #[.int lo t, .int hi u, .int 1 v] }, toks := tk } := by
  refine wpAny_pyIter_range (IsRange.new ..) (small_one h1 h2 h3 h4) ?_
  have I1 : Inv X pins σ H { s with heap := s.heap.push { cls := .type "range", data := .fields #[.int lo t, .int hi u, .int 1 v] }, toks := tk } := I.kept fun b o e => Heap.get?_push_of_some _ e
  refine ⟨(s.heap.push { cls := .type "range", data := .fields #[.int lo t, .int hi u, .int 1 v] }).objs.size, [(s.heap.push { cls := .type "range", data := .fields #[.int lo t, .int hi u, .int 1 v] }).objs.size], _, _, H, rfl,
    I1.kept (t' := tk) fun b o e => Heap.get?_push_of_some _ e, turn_range _ lo (hi - lo).toNat, ?_, fun b hb => ?_, q⟩
  · have e1 : lo + ((0 : Nat) : Int) * 1 = lo := by simp
    have e2 : (((hi - lo).toNat : Nat) : Int) - ((0 : Nat) : Int) = Builtin.Range.rangeSize lo hi 1 := by rw [rangeSize_one]; split <;> omega
    show IsRangeIter _ _ (lo + ((0 : Nat) : Int) * 1) ((((hi - lo).toNat : Nat) : Int) - ((0 : Nat) : Int)) 1
    rw [e1, e2]
    exact Heap.get?_push_size _ rfl
  · have e : b = (s.heap.push { cls := .type "range", data := .fields #[.int lo t, .int hi u, .int 1 v] }).objs.size := by simpa using hb
    subst e
    exact I1.fpOk (Nat.le_refl _) (I1.hok.fresh (Nat.le_refl _))
def iRng1 (ta : TA) : TI := fun σ H R => ta σ H fun vs H1 => ∃ j : Int, vs = [.int j] ∧ -(2 ^ 62) ≤ j ∧ j < 2 ^ 62 ∧ R (Itr 0 j.toNat) H1
def iRng2 (ta : TA) : TI := fun σ H R => ta σ H fun vs H1 => ∃ i j : Int, vs = [.int i, .int j] ∧ (-(2 ^ 62) ≤ i ∧ i < 2 ^ 62 ∧ -(2 ^ 62) ≤ j ∧ j < 2 ^ 62) ∧ R (Itr i (j - i).toNat) H1
theorem pi_range1 {a : Expr} {ta : TA} {p pos : Pos} (hg : Gl X "range") (hm : X.mg "range" = none) (ha : PA X [a] ta) (hs : starEach [a] X.env = [(false, eval a X.env)] := by rfl) : PI X tg (.Call (.Name "range" p) [a] [] pos) (iRng1 ta) := by
  intro pins s σ H R I h
  refine Call_ (ld_blt I hg hm boot_range (PyProof.Rows.callWith_type1 (thn (ha pos pins s σ H _ I h) fun us s1 ⟨vs, H1, I1, r1, q1⟩ => ?_) hs rfl))
  obtain ⟨j, e, q1, q2, q⟩ := q1
  subst e
  cases r1 with
  | cons r rr =>
    cases rr
    obtain ⟨t, rfl⟩ := r
    exact call_range_1 (range_it I1 (by omega) (by omega) q1 q2 (by simpa using q))
theorem pi_range2 {a b : Expr} {ta : TA} {p pos : Pos} (hg : Gl X "range") (hm : X.mg "range" = none) (ha : PA X [a, b] ta) (hs : starEach [a, b] X.env = [(false, eval a X.env), (false, eval b X.env)] := by rfl) (hs2 : starEach [b] X.env = [(false, eval b X.env)] := by rfl) :
    PI X tg (.Call (.Name "range" p) [a, b] [] pos) (iRng2 ta) := by
  intro pins s σ H R I h
  refine Call_ (ld_blt I hg hm boot_range (PyProof.Rows.callWith_type1 (thn (ha pos pins s σ H _ I h) fun us s1 ⟨vs, H1, I1, r1, q1⟩ => ?_) (by rw [hs, hs2]) (by rw [hs2]; rfl)))
  obtain ⟨i, j, e, ⟨q1, q2, q3, q4⟩, q⟩ := q1
  subst e
  cases r1 with
  | cons r rr =>
    cases rr with
    | cons r' rr =>
      cases rr
      obtain ⟨t, rfl⟩ := r
      obtain ⟨t', rfl⟩ := r'
      exact call_range_2 (range_it I1 q1 q2 q3 q4 q)
def tFor (wi : TI) (g : TG) (tb : TS) : TS := fun D σ H => wi σ H fun J H1 => ∃ W : Nat → Nat → St → Hp → Prop, (∃ m, W 0 m σ H1) ∧ ∀ i m σ H, W i m σ H →
  (J.stop i H ∧ D.nx σ H) ∨ (J.go i H ∧ ∃ N : St → Hp → Prop, (∀ σ' H', N σ' H' → ∃ m', m' < m ∧ W (i + 1) m' σ' H') ∧ ∀ x H', J.yld i H x H' → g x σ H' fun σ2 H2 => tb { D with nx := N, ct := N, bk := D.nx } σ2 H2)
def pinsAt (fp : List Addr) (h : Heap) : List (Addr × Obj) := fp.filterMap fun b => (h.get? b).map fun o => (b, o)
theorem mem_pinsAt {fp : List Addr} {h : Heap} {b : Addr} {o : Obj} (hb : b ∈ fp) (e : h.get? b = some o) : (b, o) ∈ pinsAt fp h := List.mem_filterMap.mpr ⟨b, hb, by rw [e]; rfl⟩
theorem of_pinsAt {fp : List Addr} {h : Heap} {p : Addr × Obj} (hp : p ∈ pinsAt fp h) : p.1 ∈ fp ∧ h.get? p.1 = some p.2 := by
  obtain ⟨b, hb, e⟩ := List.mem_filterMap.mp hp
  cases q : h.get? b with
  | none => rw [q] at e; cases e
  | some o =>
    rw [q] at e
    have e' : (b, o) = p := Option.some.inj e
    subst e'
    exact ⟨hb, q⟩
theorem Inv.pinned {pins : List (Addr × Obj)} {σ : St} {H : Hp} {s : Shared} {fp : List Addr} (I : Inv X pins σ H s) (hf : ∀ b ∈ fp, FpOk X pins H b) (ho : ∀ b ∈ fp, ∃ o, s.heap.get? b = some o ∧ ∀ v, o.data ≠ .cell v) : Inv X (pins ++ pinsAt fp s.heap) σ H s :=
  I.pins_of fun p hp => (List.mem_append.mp hp).elim (fun z => I.pin p (List.mem_append_right _ z)) fun z => by
    obtain ⟨hb, e⟩ := of_pinsAt z
    obtain ⟨f0, f1, f2, _⟩ := hf p.1 hb
    obtain ⟨o, e', d⟩ := ho p.1 hb
    rw [e] at e'; cases e'
    exact ⟨e, f0, f1, f2, d⟩
theorem Inv.unpinned {pins pl : List (Addr × Obj)} {σ : St} {H : Hp} {s : Shared} (I : Inv X (pins ++ pl) σ H s) : Inv X pins σ H s := I.pins_of fun p hp => I.pin p (List.mem_append_right _ (List.mem_append_left _ hp))
theorem ps_for {iter : Expr} {body : List Stmt} {wi : TI} {g : TG} {tb : TS} {pos : Pos} (hp : PassesOwn (model X.prog X.w) X.A X.env X.xe) (hc : X.calm = true) (hi : PI X tg iter wi) (hg : PG X tg g) (hb : PSs X body tb)
    (hs : ∀ x, foldedSetIterable iter X.env x = pure x := by intro _; rfl) : PS X (.For tg iter body [] pos) (tFor wi g tb) := by
  intro pins s σ H D I h
  refine wpAny_For (thn (hi pins s σ H _ I h) fun v s1 h1 => thn h1 fun itv s2 h2 => ?_) hs
  obtain ⟨it, fp, tn, J, H2, e, I2, T, st2, f2, W, ⟨m0, w0⟩, turn⟩ := h2
  subst e
  have stat : ∀ {H' : Hp}, (∀ b ∈ fp, H' b = none) → ∀ b ∈ fp, FpOk X pins H' b := fun hn b hb => ⟨hn b hb, (f2 b hb).2⟩
  refine codeAny_forLoop_any (fun n s' => ∃ i σ' H', Inv X pins σ' H' s' ∧ tn i s'.heap ∧ (∀ b ∈ fp, H' b = none) ∧ W i n σ' H') ?_ m0 ⟨0, σ, H2, I2, st2, fun b hb => (f2 b hb).1, w0⟩
  rintro n s3 ⟨i, σ3, H3, I3, st3, fr3, w3⟩
  rcases turn i n σ3 H3 w3 with ⟨stop, qn⟩ | ⟨go, N, hN, step⟩
  · refine wpAny_passesOwn hp (thn (T.done X rfl rfl rfl hc i pins s3 σ3 H3 X.xe I3 (stat fr3) st3 stop) fun r s4 ⟨hr, I4⟩ => ?_)
    subst hr
    exact wpAny_execs_nil ⟨σ3, H3, I4, qn⟩
  · refine wpAny_passesOwn hp (thn (T.item X rfl rfl rfl hc i pins s3 σ3 H3 X.xe I3 (stat fr3) st3 go) fun r s4 ⟨u, hr, h4⟩ => ?_)
    subst hr
    refine wpAny_passesOwn hp (thn h4 fun _ s5 ⟨x, H5, I5, r5, y5, st5, fr5⟩ => ?_)
    have I5' := I5.pinned (stat fr5) (T.obj _ _ st5)
    refine wpAny_passesOwn hp (thn (hg _ s5 σ3 H5 x u _ I5' r5 (step x H5 y5)) fun _ s6 ⟨σ6, H6, I6, q6⟩ => ?_)
    refine wpAny_passesOwn hp (thn (hb _ s6 σ6 H6 _ I6 q6) fun f s7 q7 => ?_)
    have again : ∀ {σ7 : St} {H7 : Hp}, Inv X (pins ++ pinsAt fp s5.heap) σ7 H7 s7 → N σ7 H7 → ∃ m, m < n ∧ ∃ i σ' H', Inv X pins σ' H' s7 ∧ tn i s7.heap ∧ (∀ b ∈ fp, H' b = none) ∧ W i m σ' H' := fun {σ7 H7} I7 n7 => by
      obtain ⟨m', hm, w7⟩ := hN σ7 H7 n7
      refine ⟨m', hm, i + 1, σ7, H7, I7.unpinned, T.keep _ _ _ st5 fun b hb o e => (I7.pin (b, o) (List.mem_append_right _ (List.mem_append_right _ (mem_pinsAt hb e)))).1, fun b hb => ?_, w7⟩
      obtain ⟨o, e, d⟩ := T.obj _ _ st5 b hb
      exact (I7.pin (b, o) (List.mem_append_right _ (List.mem_append_right _ (mem_pinsAt hb e)))).2.1
    cases f with
    | next => obtain ⟨σ7, H7, I7, n7⟩ := q7; exact again I7 n7
    | cont => obtain ⟨σ7, H7, I7, n7⟩ := q7; exact again I7 n7
    | brk => obtain ⟨σ7, H7, I7, q7⟩ := q7; exact ⟨σ7, H7, I7.unpinned, q7⟩
    | ret v => obtain ⟨x7, σ7, H7, I7, r7, q7⟩ := q7; exact ⟨x7, σ7, H7, I7.unpinned, r7, q7⟩
end
theorem for_list {K : PySem.W.Frag} {a : Addr} {xs : List V} {g : TG} {tb : TS} {D : Ends} {σ : St} {H : Hp} (Pv : Nat → St → Hp → Prop) (h0 : Pv 0 σ H) (hl : ∀ i σ H, i ≤ xs.length → Pv i σ H → SqL K H a xs)
    (hs : ∀ i x σ H, xs[i]? = some x → Pv i σ H → g x σ H fun σ2 H2 => tb { D with nx := Pv (i + 1), ct := Pv (i + 1), bk := D.nx } σ2 H2) (hd : ∀ σ H, Pv xs.length σ H → D.nx σ H) :
    ∃ W : Nat → Nat → St → Hp → Prop, (∃ m, W 0 m σ H) ∧ ∀ i m σ H, W i m σ H →
      ((Itl K a).stop i H ∧ D.nx σ H) ∨ ((Itl K a).go i H ∧ ∃ N : St → Hp → Prop, (∀ σ' H', N σ' H' → ∃ m', m' < m ∧ W (i + 1) m' σ' H') ∧ ∀ x H', (Itl K a).yld i H x H' → g x σ H' fun σ2 H2 => tb { D with nx := N, ct := N, bk := D.nx } σ2 H2) := by
  refine ⟨fun i m σ H => m = xs.length - i ∧ i ≤ xs.length ∧ Pv i σ H, ⟨xs.length, by simp, Nat.zero_le _, h0⟩, ?_⟩
  rintro i m σ H ⟨rfl, hi, p⟩
  have q := hl i σ H hi p
  by_cases hlt : i < xs.length
  · refine .inr ⟨⟨xs, xs[i], q, by simp [hlt]⟩, Pv (i + 1), fun σ' H' p' => ⟨xs.length - (i + 1), by omega, rfl, hlt, p'⟩, fun x H' y => ?_⟩
    obtain ⟨e, y⟩ := y
    subst e
    exact hs i x σ _ (y xs q) p
  · have e : i = xs.length := by omega
    subst e
    exact .inl ⟨⟨xs, q, Nat.le_refl _⟩, hd σ H p⟩
theorem for_tup {K : PySem.W.Frag} {a : Addr} {xs : List V} {g : TG} {tb : TS} {D : Ends} {σ : St} {H : Hp} (Pv : Nat → St → Hp → Prop) (h0 : Pv 0 σ H) (hl : ∀ i σ H, i ≤ xs.length → Pv i σ H → SqT K H a xs)
    (hs : ∀ i x σ H, xs[i]? = some x → Pv i σ H → g x σ H fun σ2 H2 => tb { D with nx := Pv (i + 1), ct := Pv (i + 1), bk := D.nx } σ2 H2) (hd : ∀ σ H, Pv xs.length σ H → D.nx σ H) :
    ∃ W : Nat → Nat → St → Hp → Prop, (∃ m, W 0 m σ H) ∧ ∀ i m σ H, W i m σ H →
      ((Itt K a).stop i H ∧ D.nx σ H) ∨ ((Itt K a).go i H ∧ ∃ N : St → Hp → Prop, (∀ σ' H', N σ' H' → ∃ m', m' < m ∧ W (i + 1) m' σ' H') ∧ ∀ x H', (Itt K a).yld i H x H' → g x σ H' fun σ2 H2 => tb { D with nx := N, ct := N, bk := D.nx } σ2 H2) := by
  refine ⟨fun i m σ H => m = xs.length - i ∧ i ≤ xs.length ∧ Pv i σ H, ⟨xs.length, by simp, Nat.zero_le _, h0⟩, ?_⟩
  rintro i m σ H ⟨rfl, hi, p⟩
  have q := hl i σ H hi p
  by_cases hlt : i < xs.length
  · refine .inr ⟨⟨xs, xs[i], q, by simp [hlt]⟩, Pv (i + 1), fun σ' H' p' => ⟨xs.length - (i + 1), by omega, rfl, hlt, p'⟩, fun x H' y => ?_⟩
    obtain ⟨e, y⟩ := y
    subst e
    exact hs i x σ _ (y xs q) p
  · have e : i = xs.length := by omega
    subst e
    exact .inl ⟨⟨xs, q, Nat.le_refl _⟩, hd σ H p⟩
theorem for_range {lo : Int} {n : Nat} {g : TG} {tb : TS} {D : Ends} {σ : St} {H : Hp} (Pv : Nat → St → Hp → Prop) (h0 : Pv 0 σ H)
    (hs : ∀ i σ H, i < n → Pv i σ H → g (.int (lo + i)) σ H fun σ2 H2 => tb { D with nx := Pv (i + 1), ct := Pv (i + 1), bk := D.nx } σ2 H2) (hd : ∀ σ H, Pv n σ H → D.nx σ H) :
    ∃ W : Nat → Nat → St → Hp → Prop, (∃ m, W 0 m σ H) ∧ ∀ i m σ H, W i m σ H →
      ((Itr lo n).stop i H ∧ D.nx σ H) ∨ ((Itr lo n).go i H ∧ ∃ N : St → Hp → Prop, (∀ σ' H', N σ' H' → ∃ m', m' < m ∧ W (i + 1) m' σ' H') ∧ ∀ x H', (Itr lo n).yld i H x H' → g x σ H' fun σ2 H2 => tb { D with nx := N, ct := N, bk := D.nx } σ2 H2) := by
  refine ⟨fun i m σ H => m = n - i ∧ i ≤ n ∧ Pv i σ H, ⟨n, by simp, Nat.zero_le _, h0⟩, ?_⟩
  rintro i m σ H ⟨rfl, hi, p⟩
  by_cases hlt : i < n
  · refine .inr ⟨hlt, Pv (i + 1), fun σ' H' p' => ⟨n - (i + 1), by omega, rfl, hlt, p'⟩, fun x H' y => ?_⟩
    obtain ⟨e, y⟩ := y
    subst e y
    exact hs i σ _ hlt p
  · have e : i = n := by omega
    subst e
    exact .inl ⟨Nat.le_refl _, hd σ H p⟩
end L2
namespace L2
open PySem PySem.Spec PyProof.Rows
abbrev R2 := V → V → Hp → VK → Prop
def OpR (X : Cx) (f : Value → Value → Sem Value) (r : R2) : Prop :=
  ∀ (pins : List (Addr × Obj)) (s : Shared) (σ : St) (H : Hp) (x y : V) (v u : Value) (Q : VK), Inv X pins σ H s → RelV x v → RelV y u → r x y H Q →
    wpAny (model X.prog X.w) X.A (f v u) (EP X pins σ Q) X.xe s
def UnR (X : Cx) (f : Value → Sem Value) (r : V → Hp → VK → Prop) : Prop :=
  ∀ (pins : List (Addr × Obj)) (s : Shared) (σ : St) (H : Hp) (x : V) (v : Value) (Q : VK), Inv X pins σ H s → RelV x v → r x H Q →
    wpAny (model X.prog X.w) X.A (f v) (EP X pins σ Q) X.xe s
def CallR (X : Cx) (f : Value) (r : List V → Hp → VK → Prop) : Prop :=
  ∀ (pins : List (Addr × Obj)) (s : Shared) (σ : St) (H : Hp) (xs : List V) (us : List Value) (Q : VK), Inv X pins σ H s → Vals xs us → r xs H Q →
    wpAny (model X.prog X.w) X.A (call f us) (EP X pins σ Q) X.xe s
def tOp (r : R2) (ta tb : TE) : TE := fun σ H Q => ta σ H fun x H1 => tb σ H1 fun y H2 => r x y H2 Q
def tUn (r : V → Hp → VK → Prop) (ta : TE) : TE := fun σ H Q => ta σ H fun x H1 => r x H1 Q
def rI (C : Int → Int → Prop) (g : Int → Int → V) : R2 := fun x y H Q => ∃ i j, x = .int i ∧ y = .int j ∧ C i j ∧ Q (g i j) H
def rI0 (g : Int → Int → V) : R2 := fun x y H Q => ∃ i j, x = .int i ∧ y = .int j ∧ Q (g i j) H
def rU (g : Int → V) : V → Hp → VK → Prop := fun x H Q => ∃ i, x = .int i ∧ Q (g i) H
section
variable {X : Cx} {a b c : Expr} {ta tb tc : TE} {pos : Pos}
theorem binT (ha : PE X a ta) (hb : PE X b tb) {pins : List (Addr × Obj)} {s : Shared} {σ : St} {H : Hp} {R : V → V → Hp → Prop} (I : Inv X pins σ H s)
    (h : ta σ H fun x H1 => tb σ H1 fun y H2 => R x y H2) {Q : Value → Shared → Prop} {f : Value → Value → Sem Value}
    (hf : ∀ v u s2 x y H2, Inv X pins σ H2 s2 → RelV x v → RelV y u → R x y H2 → wpAny (model X.prog X.w) X.A (f v u) Q X.xe s2) :
    wpAny (model X.prog X.w) X.A (eval a X.env) (fun v s₁ => wpAny (model X.prog X.w) X.A (eval b X.env) (fun u s₂ => wpAny (model X.prog X.w) X.A (f v u) Q X.xe s₂) X.xe s₁) X.xe s := by
  refine thn (ha pins s σ H _ I h) fun v s1 ⟨x, H1, I1, r1, q1⟩ => ?_
  refine thn (hb pins s1 σ H1 _ I1 q1) fun u s2 ⟨y, H2, I2, r2, q2⟩ => ?_
  exact hf v u s2 x y H2 I2 r1 r2 q2
theorem pe_op {op : Operator} {r : R2} (ho : OpR X (binaryOp op) r) (ha : PE X a ta) (hb : PE X b tb) : PE X (.BinOp a op b pos) (tOp r ta tb) := by
  intro pins s σ H Q I h
  exact wpAny_BinOp (binT ha hb I h fun v u s2 x y H2 I2 rx ry q => ho pins s2 σ H2 x y v u Q I2 rx ry q)
theorem pe_un {op : UnaryOp} {r : V → Hp → VK → Prop} (ho : UnR X (unaryOp op) r) (ha : PE X a ta) : PE X (.UnaryOp op a pos) (tUn r ta) := by
  intro pins s σ H Q I h
  exact UnaryOp_ (thn (ha pins s σ H _ I h) fun v s1 ⟨x, H1, I1, r1, q1⟩ => ho pins s1 σ H1 x v Q I1 r1 q1)
theorem opI {f : Value → Value → Sem Value} {C : Int → Int → Prop} {g : Int → Int → Int}
    (rule : ∀ (i j : Int) (t u : Tok) (s : Shared) (Q : Value → Shared → Prop) (E : Value → Shared → Prop), C i j → Q (.int (g i j) s.toks) { s with toks := s.toks + 1 } → wpAny (model X.prog X.w) X.A (f (.int i t) (.int j u)) Q E s) :
    OpR X f (rI C fun i j => .int (g i j)) := by
  intro pins s σ H x y v u Q I rx ry h
  obtain ⟨i, j, rfl, rfl, hc, q⟩ := h
  obtain ⟨t, rfl⟩ := rx
  obtain ⟨t', rfl⟩ := ry
  exact rule i j t t' s _ _ hc ⟨.int (g i j), H, I.tok _, ⟨_, rfl⟩, q⟩
theorem opI0 {f : Value → Value → Sem Value} {g : Int → Int → Int}
    (rule : ∀ (i j : Int) (t u : Tok) (s : Shared) (Q : Value → Shared → Prop) (E : Value → Shared → Prop), Q (.int (g i j) s.toks) { s with toks := s.toks + 1 } → wpAny (model X.prog X.w) X.A (f (.int i t) (.int j u)) Q E s) :
    OpR X f (rI0 fun i j => .int (g i j)) := by
  intro pins s σ H x y v u Q I rx ry h
  obtain ⟨i, j, rfl, rfl, q⟩ := h
  obtain ⟨t, rfl⟩ := rx
  obtain ⟨t', rfl⟩ := ry
  exact rule i j t t' s _ _ ⟨.int (g i j), H, I.tok _, ⟨_, rfl⟩, q⟩
theorem opB0 {f : Value → Value → Sem Value} {g : Int → Int → Bool}
    (rule : ∀ (i j : Int) (t u : Tok) (s : Shared) (Q : Value → Shared → Prop) (E : Value → Shared → Prop), Q (.bool (g i j)) s → wpAny (model X.prog X.w) X.A (f (.int i t) (.int j u)) Q E s) :
    OpR X f (rI0 fun i j => .bl (g i j)) := by
  intro pins s σ H x y v u Q I rx ry h
  obtain ⟨i, j, rfl, rfl, q⟩ := h
  obtain ⟨t, rfl⟩ := rx
  obtain ⟨t', rfl⟩ := ry
  exact rule i j t t' s _ _ ⟨.bl (g i j), H, I, rfl, q⟩
def CPow (i j : Int) : Prop := 0 ≤ j ∧ j ≤ 1000000 ∧ i.natAbs < 2 ^ 64
def CMul (i j : Int) : Prop := (-(2 ^ 64) < i ∧ i < 2 ^ 64) ∨ (-(2 ^ 64) < j ∧ j < 2 ^ 64)
theorem CMul.ok {i j : Int} (h : CMul i j) : IntMulOk i j := by
  rcases h with ⟨h1, h2⟩ | ⟨h1, h2⟩
  · exact .of_left (intBits_le_64 h1 h2)
  · exact .of_right (intBits_le_64 h1 h2)
theorem op_add : OpR X (binaryOp .Add) (rI0 fun i j => .int (i + j)) := opI0 fun _ _ _ _ _ _ _ q => add_int q
theorem op_sub : OpR X (binaryOp .Sub) (rI0 fun i j => .int (i - j)) := opI0 fun _ _ _ _ _ _ _ q => sub_int q
theorem op_mul : OpR X (binaryOp .Mult) (rI CMul fun i j => .int (i * j)) := opI fun _ _ _ _ _ _ _ hc q => mul_int q hc.ok
theorem op_mod : OpR X (binaryOp .Mod) (rI (fun _ j => 0 < j) fun i j => .int (i % j)) := opI fun i j _ _ _ _ _ hc q => by
  have h1 : (0 : Int) < j := hc
  exact mod_int' (by omega) (by rw [Int.fmod_eq_emod_of_nonneg i (by omega)]; exact q)
theorem op_pow : OpR X (binaryOp .Pow) (rI CPow fun i j => .int (i ^ j.toNat)) := opI fun _ _ _ _ _ _ _ hc q => pow_int_small hc.1 hc.2.1 hc.2.2 q
theorem unI {f : Value → Sem Value} {g : Int → Int}
    (rule : ∀ (i : Int) (t : Tok) (s : Shared) (Q : Value → Shared → Prop) (E : Value → Shared → Prop), Q (.int (g i) s.toks) { s with toks := s.toks + 1 } → wpAny (model X.prog X.w) X.A (f (.int i t)) Q E s) :
    UnR X f (rU fun i => .int (g i)) := by
  intro pins s σ H x v Q I rx h
  obtain ⟨i, rfl, q⟩ := h
  obtain ⟨t, rfl⟩ := rx
  exact rule i t s _ _ ⟨.int (g i), H, I.tok _, ⟨_, rfl⟩, q⟩
theorem un_neg : UnR X (unaryOp .USub) (rU fun i => .int (-i)) := unI fun _ _ _ _ _ q => neg_int q
end
def scal : V → V → Bool
  | .non, .non => true | .non, .int _ => true | .int _, .non => true | .non, .bl _ => true | .bl _, .non => true | .non, .str _ => true | .str _, .non => true
  | .int _, .int _ => true | .bl _, .bl _ => true | .str _, .str _ => true | .byt _, .byt _ => true
  | .int _, .str _ => true | .str _, .int _ => true | .bl _, .str _ => true | .str _, .bl _ => true
  | _, _ => false
def rEq : R2 := fun x y H Q => scal x y = true ∧ Q (.bl (decide (x = y))) H
def rNe : R2 := fun x y H Q => scal x y = true ∧ Q (.bl (!decide (x = y))) H
theorem dec_int {i j : Int} : decide (V.int i = V.int j) = (i == j) := by
  rw [Bool.eq_iff_iff]
  simp
theorem dec_bl {i j : Bool} : decide (V.bl i = V.bl j) = (i == j) := by
  rw [Bool.eq_iff_iff]
  simp
theorem dec_str {i j : Str} : decide (V.str i = V.str j) = (i == j) := by
  rw [Bool.eq_iff_iff]
  simp
theorem dec_byt {i j : Array UInt8} : decide (V.byt i = V.byt j) = (i.toList == j.toList) := by
  rw [Bool.eq_iff_iff]
  cases i
  cases j
  simp
section
variable {X : Cx} {a b c : Expr} {ta tb tc : TE} {pos : Pos}
theorem fin_bl {pins : List (Addr × Obj)} {σ : St} {H : Hp} {s : Shared} {Q : VK} {k k' : Bool} (I : Inv X pins σ H s) (q : Q (.bl k) H) (e : k = k') : EP X pins σ Q (.bool k') s := by
  subst e
  exact ⟨.bl k, H, I, rfl, q⟩
theorem op_eq : OpR X (compareOp .Eq) rEq := by
  intro pins s σ H x y v u Q I rx ry h
  obtain ⟨hs, q⟩ := h
  cases x with
  | non =>
    cases rx
    cases y with
    | non => cases ry; exact PySem.EqNone.eq_none_none (fin_bl I q (by simp))
    | bl j => cases ry; exact PySem.EqNone.eq_none_bool (fin_bl I q (by simp))
    | int j => obtain ⟨t', rfl⟩ := ry; exact PySem.EqNone.eq_none_int (fin_bl I q (by simp))
    | str j => obtain ⟨t', rfl⟩ := ry; exact PySem.EqNone.eq_none_str (fin_bl I q (by simp))
    | _ => exact absurd (show false = true from hs) Bool.false_ne_true
  | bl i =>
    cases rx
    cases y with
    | non => cases ry; exact PySem.EqNone.eq_bool_none (fin_bl I q (by simp))
    | bl j => cases ry; exact eq_bool (fin_bl I q dec_bl)
    | str j => obtain ⟨t', rfl⟩ := ry; exact PySem.EqMixed.eq_bool_str (fin_bl I q (by simp))
    | _ => exact absurd (show false = true from hs) Bool.false_ne_true
  | int i =>
    obtain ⟨t, rfl⟩ := rx
    cases y with
    | non => cases ry; exact PySem.EqNone.eq_int_none (fin_bl I q (by simp))
    | int j => obtain ⟨t', rfl⟩ := ry; exact eq_int (fin_bl I q dec_int)
    | str j => obtain ⟨t', rfl⟩ := ry; exact PySem.EqMixed.eq_int_str (fin_bl I q (by simp))
    | _ => exact absurd (show false = true from hs) Bool.false_ne_true
  | str i =>
    obtain ⟨t, rfl⟩ := rx
    cases y with
    | non => cases ry; exact PySem.EqNone.eq_str_none (fin_bl I q (by simp))
    | bl j => cases ry; exact PySem.EqMixed.eq_str_bool (fin_bl I q (by simp))
    | int j => obtain ⟨t', rfl⟩ := ry; exact PySem.EqMixed.eq_str_int (fin_bl I q (by simp))
    | str j => obtain ⟨t', rfl⟩ := ry; exact eq_str (fin_bl I q dec_str)
    | _ => exact absurd (show false = true from hs) Bool.false_ne_true
  | byt i =>
    obtain ⟨t, rfl⟩ := rx
    cases y with
    | byt j => obtain ⟨t', rfl⟩ := ry; exact PySem.W.eq_bytes (fin_bl I q dec_byt)
    | _ => exact absurd (show false = true from hs) Bool.false_ne_true
  | _ => cases y <;> exact absurd (show false = true from hs) Bool.false_ne_true
theorem op_ne : OpR X (compareOp .NotEq) rNe := by
  intro pins s σ H x y v u Q I rx ry h
  obtain ⟨hs, q⟩ := h
  cases x with
  | non =>
    cases rx
    cases y with
    | non => cases ry; exact PySem.EqNone.ne_none_none (fin_bl I q (by simp))
    | bl j => cases ry; exact PySem.EqNone.ne_none_bool (fin_bl I q (by simp))
    | int j => obtain ⟨t', rfl⟩ := ry; exact PySem.EqNone.ne_none_int (fin_bl I q (by simp))
    | str j => obtain ⟨t', rfl⟩ := ry; exact PySem.EqNone.ne_none_str (fin_bl I q (by simp))
    | _ => exact absurd (show false = true from hs) Bool.false_ne_true
  | bl i =>
    cases rx
    cases y with
    | non => cases ry; exact PySem.EqNone.ne_bool_none (fin_bl I q (by simp))
    | bl j => cases ry; exact ne_bool (fin_bl I q (congrArg not dec_bl))
    | str j => obtain ⟨t', rfl⟩ := ry; exact PySem.EqMixed.ne_bool_str (fin_bl I q (by simp))
    | _ => exact absurd (show false = true from hs) Bool.false_ne_true
  | int i =>
    obtain ⟨t, rfl⟩ := rx
    cases y with
    | non => cases ry; exact PySem.EqNone.ne_int_none (fin_bl I q (by simp))
    | int j => obtain ⟨t', rfl⟩ := ry; exact ne_int (fin_bl I q (congrArg not dec_int))
    | str j => obtain ⟨t', rfl⟩ := ry; exact PySem.EqMixed.ne_int_str (fin_bl I q (by simp))
    | _ => exact absurd (show false = true from hs) Bool.false_ne_true
  | str i =>
    obtain ⟨t, rfl⟩ := rx
    cases y with
    | non => cases ry; exact PySem.EqNone.ne_str_none (fin_bl I q (by simp))
    | bl j => cases ry; exact PySem.EqMixed.ne_str_bool (fin_bl I q (by simp))
    | int j => obtain ⟨t', rfl⟩ := ry; exact PySem.EqMixed.ne_str_int (fin_bl I q (by simp))
    | str j => obtain ⟨t', rfl⟩ := ry; exact ne_str (fin_bl I q (congrArg not dec_str))
    | _ => exact absurd (show false = true from hs) Bool.false_ne_true
  | byt i =>
    obtain ⟨t, rfl⟩ := rx
    cases y with
    | byt j => obtain ⟨t', rfl⟩ := ry; exact PySem.W.ne_bytes (fin_bl I q (congrArg not dec_byt))
    | _ => exact absurd (show false = true from hs) Bool.false_ne_true
  | _ => cases y <;> exact absurd (show false = true from hs) Bool.false_ne_true
theorem op_lt : OpR X (compareOp .Lt) (rI0 fun i j => .bl (decide (i < j))) := opB0 fun _ _ _ _ _ _ _ q => lt_int q
theorem op_le : OpR X (compareOp .LtE) (rI0 fun i j => .bl (decide (i ≤ j))) := opB0 fun _ _ _ _ _ _ _ q => le_int q
theorem op_gt : OpR X (compareOp .Gt) (rI0 fun i j => .bl (decide (j < i))) := opB0 fun _ _ _ _ _ _ _ q => gt_int q
theorem op_in_str : OpR X (compareOp .In) (fun x y H Q => ∃ i j, x = .str i ∧ y = .str j ∧ Q (.bl (!(Builtin.Str.occurrences j i 0 j.length 1).isEmpty)) H) := by
  intro pins s σ H x y v u Q I rx ry h
  obtain ⟨i, j, rfl, rfl, q⟩ := h
  obtain ⟨t, rfl⟩ := rx
  obtain ⟨t', rfl⟩ := ry
  exact in_str (fin_bl I q rfl)
theorem op_isN : OpR X (compareOp .Is) (fun x y H Q => y = .non ∧ Q (.bl (decide (x = .non))) H) := by
  intro pins s σ H x y v u Q I rx ry h
  obtain ⟨rfl, q⟩ := h
  cases ry
  refine is_none_gen (fin_bl I q ?_)
  cases x <;> first
    | (cases rx; rfl)
    | (obtain ⟨t, rfl⟩ := rx; rfl)
theorem op_notN : OpR X (compareOp .IsNot) (fun x y H Q => y = .non ∧ Q (.bl (!decide (x = .non))) H) := by
  intro pins s σ H x y v u Q I rx ry h
  obtain ⟨rfl, q⟩ := h
  cases ry
  refine isnot_none_gen (fin_bl I q ?_)
  cases x <;> first
    | (cases rx; rfl)
    | (obtain ⟨t, rfl⟩ := rx; rfl)
theorem nomark (b : Expr) {op : CmpOp} (h : op ≠ .In := by decide) (h2 : op ≠ .NotIn := by decide) : behindInMarks op b = false := by
  have e1 : (op == CmpOp.In) = false := by cases op <;> first | rfl | exact absurd rfl h
  have e2 : (op == CmpOp.NotIn) = false := by cases op <;> first | rfl | exact absurd rfl h2
  cases b <;> simp [behindInMarks, e1, e2]
theorem pe_cmpR {op : CmpOp} {r : R2} (ho : OpR X (compareOp op) r) (ha : PE X a ta) (hb : PE X b tb) (hm : behindInMarks op b = false) : PE X (.Compare a [op] [b] pos) (tOp r ta tb) := by
  intro pins s σ H Q I h
  exact wpAny_Compare1 (binT ha hb I h fun v u s2 x y H2 I2 rx ry q => ho pins s2 σ H2 x y v u Q I2 rx ry q) hm
def tTest (t : TE) : TT := fun σ H Q => t σ H fun x H' => ∃ k, x = .bl k ∧ Q k H'
theorem pt_cmpR {op : CmpOp} {r : R2} (ho : OpR X (compareOp op) r) (ha : PE X a ta) (hb : PE X b tb) (hm : behindInMarks op b = false) : PT X (.Compare a [op] [b] pos) (tTest (tOp r ta tb)) := by
  intro pins s σ H Q I h
  refine wpAny_isTrue_Compare1 (thn (ha pins s σ H _ I h) fun v s1 ⟨x, H1, I1, r1, q1⟩ => thn (hb pins s1 σ H1 _ I1 q1) fun u s2 ⟨y, H2, I2, r2, q2⟩ =>
    thn (ho pins s2 σ H2 x y v u _ I2 r1 r2 q2) fun c s3 ⟨z, H3, I3, r3, k, e, q3⟩ => ?_) hm
  subst e
  cases r3
  exact wpAny_truthy_bool ⟨H3, I3, q3⟩
def tChain (r r' : R2) (ta tb tc : TE) : TE := fun σ H Q => ta σ H fun x H1 => tb σ H1 fun y H2 => r x y H2 fun z H3 => ∃ k, z = .bl k ∧
  (if k = true then tc σ H3 fun w' H4 => r' y w' H4 Q else Q (.bl false) H3)
theorem pe_chain {op op' : CmpOp} {r r' : R2} (ho : OpR X (compareOp op) r) (ho' : OpR X (compareOp op') r') (ha : PE X a ta) (hb : PE X b tb) (hc : PE X c tc)
    (hm : lastMarks [op, op'] [b, c] = false := by with_unfolding_all rfl) : PE X (.Compare a [op, op'] [b, c] pos) (tChain r r' ta tb tc) := by
  intro pins s σ H Q I h
  refine Compare_chain (thn (ha pins s σ H _ I h) fun v s1 ⟨x, H1, I1, r1, q1⟩ => chain_link (thn (hb pins s1 σ H1 _ I1 q1) fun u s2 ⟨y, H2, I2, r2, q2⟩ =>
    thn (ho pins s2 σ H2 x y v u _ I2 r1 r2 q2) fun d s3 ⟨z, H3, I3, r3, k, e, q3⟩ => ?_)) hm
  subst e
  cases r3
  refine wpAny_truthy_bool ?_
  cases k with
  | false => exact ite_ff ⟨.bl false, H3, I3, rfl, q3⟩
  | true => exact ite_tt (chain_last (thn (hc pins s3 σ H3 _ I3 q3) fun w' s4 ⟨z', H4, I4, r4, q4⟩ => ho' pins s4 σ H4 y z' u w' Q I4 r2 r4 q4))
theorem pt_chain {op op' : CmpOp} {r r' : R2} (ho : OpR X (compareOp op) r) (ho' : OpR X (compareOp op') r') (ha : PE X a ta) (hb : PE X b tb) (hc : PE X c tc)
    (hm : lastMarks [op, op'] [b, c] = false := by with_unfolding_all rfl) : PT X (.Compare a [op, op'] [b, c] pos) (tTest (tChain r r' ta tb tc)) := by
  intro pins s σ H Q I h
  refine isTrue_chain (thn (ha pins s σ H _ I h) fun v s1 ⟨x, H1, I1, r1, q1⟩ => test_link (thn (hb pins s1 σ H1 _ I1 q1) fun u s2 ⟨y, H2, I2, r2, q2⟩ =>
    thn (ho pins s2 σ H2 x y v u _ I2 r1 r2 q2) fun d s3 ⟨z, H3, I3, r3, k, e, q3⟩ => ?_)) hm
  subst e
  cases r3
  refine wpAny_truthy_bool ?_
  cases k with
  | false =>
    obtain ⟨k', e', q'⟩ := q3
    cases e'
    exact ite_ff ⟨H3, I3, q'⟩
  | true =>
    refine ite_tt (test_last (thn (hc pins s3 σ H3 _ I3 q3) fun w' s4 ⟨z', H4, I4, r4, q4⟩ => thn (ho' pins s4 σ H4 y z' u w' _ I4 r2 r4 q4) fun d' s5 ⟨z2, H5, I5, r5, k2, e2, q5⟩ => ?_))
    subst e2
    cases r5
    exact wpAny_truthy_bool ⟨H5, I5, q5⟩
theorem line63 : (sizeLine : Nat) < 2 ^ 63 := by rw [sizeLine_eq]; decide
theorem op_add_str : OpR X (binaryOp .Add) (fun x y H Q => ∃ i j, x = .str i ∧ y = .str j ∧ i.length + j.length ≤ sizeLine ∧ Q (.str (i ++ j)) H) := by
  intro pins s σ H x y v u Q I rx ry h
  obtain ⟨i, j, rfl, rfl, hz, q⟩ := h
  obtain ⟨t, rfl⟩ := rx
  obtain ⟨t', rfl⟩ := ry
  exact add_str (fun t' tk => ⟨.str (i ++ j), H, I.tok _, ⟨_, rfl⟩, q⟩) hz
theorem vals1 {x : V} {us : List Value} (r : Vals [x] us) : ∃ u, us = [u] ∧ RelV x u := by
  cases r with
  | cons r1 r2 => cases r2; exact ⟨_, rfl, r1⟩
theorem vals2 {x y : V} {us : List Value} (r : Vals [x, y] us) : ∃ u w', us = [u, w'] ∧ RelV x u ∧ RelV y w' := by
  cases r with
  | cons r1 r2 =>
    cases r2 with
    | cons r3 r4 => cases r4; exact ⟨_, _, rfl, r1, r3⟩
theorem call_max2 (hc : X.calm = true) : CallR X (.builtin "max") (fun xs H Q => ∃ i j, xs = [.int i, .int j] ∧ Q (.int (if j > i then j else i)) H) := by
  intro pins s σ H xs us Q I r h
  obtain ⟨i, j, rfl, q⟩ := h
  obtain ⟨u, w', rfl, ⟨t, rfl⟩, ⟨t', rfl⟩⟩ := vals2 r
  refine max_two_ints (I.ok.hd hc) fun h' tk k => ⟨_, H, I.kept k, ?_, q⟩
  by_cases hj : j > i
  · rw [if_pos hj, if_pos hj]; exact ⟨_, rfl⟩
  · rw [if_neg hj, if_neg hj]; exact ⟨_, rfl⟩
theorem call_min2 (hc : X.calm = true) : CallR X (.builtin "min") (fun xs H Q => ∃ i j, xs = [.int i, .int j] ∧ Q (.int (if j < i then j else i)) H) := by
  intro pins s σ H xs us Q I r h
  obtain ⟨i, j, rfl, q⟩ := h
  obtain ⟨u, w', rfl, ⟨t, rfl⟩, ⟨t', rfl⟩⟩ := vals2 r
  refine min_two_ints (I.ok.hd hc) fun h' tk k => ⟨_, H, I.kept k, ?_, q⟩
  by_cases hj : j < i
  · rw [if_pos hj, if_pos hj]; exact ⟨_, rfl⟩
  · rw [if_neg hj, if_neg hj]; exact ⟨_, rfl⟩
theorem call_int1 : CallR X (.type "int") (fun xs H Q => (∃ i, xs = [.int i] ∧ Q (.int i) H) ∨ ∃ k, xs = [.bl k] ∧ Q (.int (if k then 1 else 0)) H) := by
  intro pins s σ H xs us Q I r h
  rcases h with ⟨i, rfl, q⟩ | ⟨k, rfl, q⟩
  · obtain ⟨u, rfl, t, rfl⟩ := vals1 r
    exact call_int_int ⟨.int i, H, I, ⟨_, rfl⟩, q⟩
  · obtain ⟨u, rfl, r1⟩ := vals1 r
    cases r1
    exact call_int_bool ⟨.int (if k then 1 else 0), H, I.tok _, ⟨_, rfl⟩, q⟩
end
end L2
namespace L2
open PySem PySem.Spec PyProof.Rows
structure ObjM (h : Heap) (x dx C : Addr) (mA : Str → Option Value) : Prop where
  obj : h.get? x = some (PySem.W.instObj C dx)
  ns : h.Ns1 dx mA
  ne : dx ≠ x
theorem lookIn_ns {h : Heap} {dx : Addr} {mA : Str → Option Value} (n : h.Ns1 dx mA) : ∃ od, h.get? dx = some od ∧ ∀ name, PySem.W.lookIn name od = some (mA name) := by
  obtain ⟨o, es, ep, ho, hd, hk, _, hm⟩ := n
  refine ⟨o, ho, fun name => ?_⟩
  have e := hm name
  unfold nsFind findBy at e
  rw [← Array.find?_toList] at e
  unfold PySem.W.lookIn
  rw [hd]
  dsimp only
  split
  · rename_i y q
    rw [q] at e
    exact congrArg some e
  · rename_i q
    rw [q] at e
    have a : es.toList.any (·.refKey) = false := by
      rw [List.any_eq_false]
      intro y hy
      obtain ⟨z, t, hkey⟩ := hk y (Array.mem_toList_iff.mp hy)
      simp [DictEntry.refKey, hkey]
    have a' : ¬ es.toList.any (·.refKey) = true := by rw [a]; exact Bool.false_ne_true
    rw [if_neg a']
    exact congrArg some e
theorem ObjM.look {h : Heap} {x dx C : Addr} {mA : Str → Option Value} (I : ObjM h x dx C mA) : ∃ od, PySem.W.InstAt h x (PySem.W.instObj C dx) C (some od) ∧ ∀ name, PySem.W.lookIn name od = some (mA name) :=
  let ⟨od, ho, hl⟩ := lookIn_ns I.ns
  ⟨od, ⟨I.obj, rfl, rfl, ho⟩, hl⟩
section
variable {prog : Program} {w : World} {A : Around} {E : Value → Shared → Prop} {s : Shared} {K : PySem.W.Frag} {x dx C f : Addr} {mA : Str → Option Value} {name : Str} {v : Value}
theorem get_map {expr : Bool} {Q : Value → Shared → Prop} (X : K.In s.heap) (I : ObjM s.heap x dx C mA) (hg : PySem.W.plainGet K C name = true) (hh : PySem.W.hasDictIn K C = true)
    (ha : PySem.W.findIn K (.ref C) name = some none) (hv : mA name = some v) (hv' : PySem.W.handedIn v = true) (h : Q v { s with toks := s.toks + 1 }) :
    wpAny (model prog w) A (getAttr (.ref x) name expr) Q E s := by
  obtain ⟨od, J, hl⟩ := I.look
  exact PySem.W.get_value X J (PySem.W.plainGet_of hg).1 (PySem.W.findObj_own hh ha rfl (by rw [hl, hv])) hv' h
theorem get_meth {pl : Sem Bool} {Q : Value × List Value → Shared → Prop} (X : K.In s.heap) (I : ObjM s.heap x dx C mA) (hg : PySem.W.plainGet K C name = true)
    (hf : PySem.W.findIn K (.ref C) name = some (some (.ref f))) (ht : PySem.W.isFn K (.ref f) = true) (hv : mA name = none) (h : Q (.ref f, [.ref x]) s) :
    wpAny (model prog w) A (getMethod (.ref x) name pl) Q E s := by
  obtain ⟨od, J, hl⟩ := I.look
  exact PySem.W.method_fn X J (PySem.W.plainGet_of hg).1 (PySem.W.plainGet_of hg).2 hf (beq_iff_eq.mp ht) (by show (PySem.W.lookIn name od).map (·.isSome) = some false; rw [hl, hv]; rfl) h
theorem set_map {ns : List Str} {Q : Unit → Shared → Prop} (X : K.In s.heap) (I : ObjM s.heap x dx C mA)
    (hs : PySem.W.findIn K (.ref C) "__setattr__" = some (some (.builtin "object.__setattr__"))) (hp : PySem.W.plainOver K C = true) (ht : PySem.W.takerIn K C name = some none) (hh : PySem.W.hasDictIn K C = true)
    (hw : PySem.Within mA ns) (hsz : ns.length ≤ sizeLine)
    (h : ∀ h', ObjM h' x dx C (fun y => if y = name then some v else mA y) → Heap.SameBut dx s.heap h' → Q () { s with heap := h', toks := s.toks + 2 }) :
    wpAny (model prog w) A (setAttr (.ref x) name v) Q E s := by
  obtain ⟨od, J, hl⟩ := I.look
  refine PySem.W.set_plain X J hs (PySem.W.osa_open (s := { s with toks := s.toks + 1 }) (r := none) X J hp ht fun b => ?_)
  obtain ⟨cd, hc, hd'⟩ := PySem.W.any_some hh
  have hx : s.heap.get? x = some ⟨.ref C, some dx, .plain, #[]⟩ := I.obj
  refine wpAny_bind (wpAny_pure (wpAny_bind (wpAny_bind (wpAny_loadPart hx (wpAny_bind (PySem.W.Looks.here (s := { s with toks := s.toks + 1 }) (PySem.W.looks_clsIn X hc) ?_))))))
  rw [hd']
  refine wpAny_pure (a := some dx) (wpAny_bind (wpAny_pure (wpAny_bind ?_)))
  refine wpAny_nsSet1 (s := { s with toks := s.toks + 1 }) I.ns fun h' hn2 hs2 => ?_
  obtain ⟨oD, esD, epD, hoD, hdD, hcD⟩ := hn2.count (PySem.Within.cons name v hw)
  refine wpAny_bind (wpAny_lookBehind hoD (by rw [hdD]; exact pastItsLine_dict (Nat.le_trans hcD (by rw [List.length_cons]; omega))) ?_)
  exact wpAny_pure (h _ ⟨(hs2.2 _ (Ne.symm I.ne)).trans I.obj, hn2, I.ne⟩ hs2)
theorem make_map {R : Result → Shared → Prop} {vs : List Value} {kw : List (Str × Value)} (X : K.In s.heap) (hm : PySem.W.makesIn K C = true)
    (hi : PySem.W.findIn K (.ref C) "__init__" = some (some (.ref f))) (hf : PySem.W.typeIn K (.ref f) = some (.type "function"))
    (h : codeAny (model prog w) (A.under (.builtin "type.__call__" ⟨.ref C :: vs, kw⟩)) (.call (.ref f) ⟨.ref (s.heap.objs.size + 1) :: vs, kw⟩) (PySem.W.InitBack (s.heap.objs.size + 1) R)
      { s with heap := (s.heap.push PySem.W.emptyDict).push (PySem.W.instObj C s.heap.objs.size) }) :
    codeAny (model prog w) A (.call (.ref C) ⟨vs, kw⟩) R s := by
  obtain ⟨hh, g, d, t, os⟩ := s
  exact PySem.W.make_core (PySem.W.makes_of X hm) (PySem.W.looks_findIn X hi) (fun self => PySem.W.bind_fn X self hf) (.inl rfl) h
end
def putF (f : Str) (v : V) : List (Str × V) → List (Str × V)
  | [] => [(f, v)]
  | (g, x) :: r => if g = f then (g, v) :: r else (g, x) :: putF f v r
theorem lookup_putF (f g : Str) (v : V) : ∀ fs : List (Str × V), (putF f v fs).lookup g = if g = f then some v else fs.lookup g
  | [] => by
    show List.lookup g [(f, v)] = _
    by_cases h : g = f
    · have hb : (g == f) = true := beq_iff_eq.mpr h
      simp only [List.lookup, hb, if_pos h]
    · have hb : (g == f) = false := beq_eq_false_iff_ne.mpr h
      simp only [List.lookup, hb, if_neg h]
  | (k, x) :: r => by
    have ih := lookup_putF f g v r
    rw [show putF f v ((k, x) :: r) = (if k = f then (k, v) :: r else (k, x) :: putF f v r) from rfl]
    by_cases hk : k = f
    · rw [if_pos hk]
      by_cases h : g = k
      · have hb : (g == k) = true := beq_iff_eq.mpr h
        simp only [List.lookup, hb, if_pos (h.trans hk)]
      · have hb : (g == k) = false := beq_eq_false_iff_ne.mpr h
        simp only [List.lookup, hb, if_neg (fun e : g = f => h (e.trans hk.symm))]
    · rw [if_neg hk]
      by_cases h : g = k
      · have hb : (g == k) = true := beq_iff_eq.mpr h
        simp only [List.lookup, hb, if_neg (fun e : g = f => hk (h.symm.trans e))]
      · have hb : (g == k) = false := beq_eq_false_iff_ne.mpr h
        simp only [List.lookup, hb]
        exact ih
theorem keys_putF (f : Str) (v : V) : ∀ fs : List (Str × V), f ∈ (putF f v fs).map (·.1) ∧ ∀ g, g ∈ fs.map (·.1) → g ∈ (putF f v fs).map (·.1)
  | [] => ⟨by simp [putF], fun g h => by simp at h⟩
  | (k, x) :: r => by
    obtain ⟨i1, i2⟩ := keys_putF f v r
    rw [show putF f v ((k, x) :: r) = (if k = f then (k, v) :: r else (k, x) :: putF f v r) from rfl]
    by_cases hk : k = f
    · rw [if_pos hk]
      subst hk
      exact ⟨by simp, fun g h => by simpa using h⟩
    · rw [if_neg hk]
      refine ⟨?_, fun g h => ?_⟩
      · rw [List.map_cons]
        exact List.mem_cons_of_mem _ i1
      · rw [List.map_cons] at h ⊢
        rcases List.mem_cons.mp h with e | e
        · exact List.mem_cons.mpr (.inl e)
        · exact List.mem_cons_of_mem _ (i2 g e)
theorem length_putF (f : Str) (v : V) : ∀ fs : List (Str × V), (putF f v fs).length ≤ fs.length + 1
  | [] => by simp [putF]
  | (k, x) :: r => by
    have ih := length_putF f v r
    rw [show putF f v ((k, x) :: r) = (if k = f then (k, v) :: r else (k, x) :: putF f v r) from rfl]
    by_cases hk : k = f
    · rw [if_pos hk, List.length_cons, List.length_cons]; omega
    · rw [if_neg hk, List.length_cons, List.length_cons]; omega
theorem RelO.some_of {v : V} {o : Option Value} (r : RelO (some v) o) : ∃ u, o = some u ∧ RelV v u := by
  cases o with
  | none => exact (show False from r).elim
  | some u => exact ⟨u, rfl, r⟩
theorem RelO.none_of {o : Option Value} (r : RelO none o) : o = none := by
  cases o with
  | none => rfl
  | some u => exact (show False from r).elim
theorem handed_of {v : V} {u : Value} (r : RelV v u) : PySem.W.handedIn u = true := by
  cases v with
  | non => cases (show u = Value.none from r); rfl
  | bl b => cases (show u = Value.bool b from r); rfl
  | int i => obtain ⟨t, e⟩ := (show ∃ t, u = Value.int i t from r); cases e; rfl
  | str x => obtain ⟨t, e⟩ := (show ∃ t, u = Value.str x t from r); cases e; rfl
  | byt b => obtain ⟨t, e⟩ := (show ∃ t, u = Value.bytes b t from r); cases e; rfl
  | flt b => obtain ⟨t, e⟩ := (show ∃ t, u = Value.float b t from r); cases e; rfl
  | ref a => cases (show u = Value.ref a from r); rfl
  | ty n => cases (show u = Value.type n from r); rfl
section
variable {P : Program} {w : World} {H H' : Hp} {h h' : Heap} {a C dx : Addr} {fs fs' : List (Str × V)}
theorem ins_get (hok : HOk P w H h) (e : H a = some (.ins C dx fs)) : ∃ mA, ObjM h a dx C mA ∧ (∀ f, RelO (fs.lookup f) (mA f)) ∧ PySem.Within mA (fs.map (·.1)) ∧ fs.length ≤ 1000 ∧ H dx = some (.own a) := by
  obtain ⟨d, z, ne, ob, mA, n, r, q⟩ := (show ObjOk P w H h a (.ins C dx fs) from hok a _ e)
  exact ⟨mA, ⟨ob, n, ne⟩, r, q, z, d⟩
end
structure Cls (K : PySem.W.Frag) (C : Addr) : Prop where
  pg : PySem.W.plainGet K C Str.empty = true
  hd : PySem.W.hasDictIn K C = true
  po : PySem.W.plainOver K C = true
  sa : PySem.W.findIn K (.ref C) "__setattr__" = some (some (.builtin "object.__setattr__"))
theorem Cls.get {K : PySem.W.Frag} {C : Addr} (c : Cls K C) (f : Str) : PySem.W.plainGet K C f = true := c.pg
def NoAttr (K : PySem.W.Frag) (C : Addr) (f : Str) : Prop := PySem.W.findIn K (.ref C) f = some none
theorem NoAttr.taker {K : PySem.W.Frag} {C : Addr} {f : Str} (n : NoAttr K C f) : PySem.W.takerIn K C f = some none := by
  unfold PySem.W.takerIn
  rw [show PySem.W.findIn K (.ref C) f = some none from n]
  rfl
structure Con (K : PySem.W.Frag) (C : Addr) (f : Str) (v : V) (u : Value) : Prop where
  at_ : PySem.W.findIn K (.ref C) f = some (some u)
  rel : RelV v u
  get : PySem.W.specialIn K u "__get__" = some none
  cp : PySem.W.copiedNames.contains f = false
structure Meth (K : PySem.W.Frag) (C : Addr) (m : Str) (f : Addr) : Prop where
  at_ : PySem.W.findIn K (.ref C) m = some (some (.ref f))
  fn : PySem.W.isFn K (.ref f) = true
  kp : PySem.W.keepIn K (.ref f) = true
section
variable {X : Cx} {pins : List (Addr × Obj)} {σ : St} {H : Hp} {s : Shared} {a C dx : Addr} {fs : List (Str × V)} {f : Str} {v : V} {A : Around} {E : Value → Shared → Prop}
theorem getattr_ok {b : Bool} {Q : Value → Shared → Prop} (I : Inv X pins σ H s) (e : H a = some (.ins C dx fs)) (c : Cls X.K C) (n : NoAttr X.K C f) (l : fs.lookup f = some v)
    (h : ∀ u s', Inv X pins σ H s' → RelV v u → Q u s') : wpAny (model X.prog X.w) A (getAttr (.ref a) f b) Q E s := by
  obtain ⟨mA, O, r, _, _, _⟩ := ins_get I.hok e
  obtain ⟨u, hu, ru⟩ := RelO.some_of (v := v) (o := mA f) (by rw [← l]; exact r f)
  exact get_map I.kIn O (c.get f) c.hd n hu (handed_of ru) (h u _ (I.tok _) ru)
theorem getmeth_ok {m : Str} {g : Addr} {pl : Sem Bool} {Q : Value × List Value → Shared → Prop} (I : Inv X pins σ H s) (e : H a = some (.ins C dx fs)) (c : Cls X.K C) (k : Meth X.K C m g) (l : fs.lookup m = none)
    (h : Q (.ref g, [.ref a]) s) : wpAny (model X.prog X.w) A (getMethod (.ref a) m pl) Q E s := by
  obtain ⟨mA, O, r, _, _, _⟩ := ins_get I.hok e
  have hn : mA m = none := RelO.none_of (by rw [← l]; exact r m)
  exact get_meth I.kIn O (c.get m) k.at_ k.fn hn h
theorem setattr_ok {y : V} {u : Value} {Q : Unit → Shared → Prop} (I : Inv X pins σ H s) (e : H a = some (.ins C dx fs)) (c : Cls X.K C) (n : NoAttr X.K C f) (hl : fs.length < 1000) (ry : RelV y u)
    (h : ∀ s', Inv X pins σ (upd H a (.ins C dx (putF f y fs))) s' → Q () s') : wpAny (model X.prog X.w) A (setAttr (.ref a) f u) Q E s := by
  obtain ⟨mA, O, r, wi, _, ho⟩ := ins_get I.hok e
  have hz : (fs.map (·.1)).length ≤ sizeLine := by rw [List.length_map, sizeLine_eq]; omega
  refine set_map I.kIn O c.sa c.po n.taker c.hd wi hz fun h' O' sb => h _ ?_
  have hd : ∃ o, h'.get? dx = some o := let ⟨o, _, _, e', _⟩ := O'.ns; ⟨o, e'⟩
  refine I.write (x := a) (e := dx) (by rw [e]; exact True.intro) (.inr ho) (fun b q hb z => (sb.2 b hb).trans z) hd ?_
  refine ⟨by rw [upd_ne O.ne]; exact ho, ?_, O.ne, O'.obj, _, O'.ns, fun g => ?_, fun g hg => ?_⟩
  · have := length_putF f y fs; omega
  · show RelO ((putF f y fs).lookup g) (if g = f then some u else mA g)
    rw [lookup_putF]
    by_cases q : g = f
    · rw [if_pos q, if_pos q]; exact ry
    · rw [if_neg q, if_neg q]; exact r g
  · by_cases q : g = f
    · rw [q]; exact (keys_putF f y fs).1
    · refine (keys_putF f y fs).2 g (wi g fun z => hg ?_)
      show (if g = f then some u else mA g) = none
      rw [if_neg q]; exact z
theorem Inv.made (I : Inv X pins σ H s) : Inv X pins σ (upd (upd H s.heap.objs.size (.own (s.heap.objs.size + 1))) (s.heap.objs.size + 1) (.ins C s.heap.objs.size []))
    { s with heap := (s.heap.push PySem.W.emptyDict).push (PySem.W.instObj C s.heap.objs.size) } := by
  have e1 : (s.heap.push PySem.W.emptyDict).get? s.heap.objs.size = some PySem.W.emptyDict := Heap.get?_push_size s.heap rfl
  have e2 : ((s.heap.push PySem.W.emptyDict).push (PySem.W.instObj C s.heap.objs.size)).get? (s.heap.objs.size + 1) = some (PySem.W.instObj C s.heap.objs.size) := by
    have := Heap.get?_push_size (s.heap.push PySem.W.emptyDict) (o := PySem.W.instObj C s.heap.objs.size) rfl
    rwa [Heap.size_push] at this
  have e3 : (s.heap.push PySem.W.emptyDict).Ns s.heap.objs.size (fun _ => none) := ⟨PySem.W.emptyDict, #[], _, e1, rfl, (fun e he => absurd he (by simp)), fun _ => rfl⟩
  have I1 := I.laid (a := s.heap.objs.size) (o := .own (s.heap.objs.size + 1)) (h' := s.heap.push PySem.W.emptyDict) (t' := s.toks) (fun b u q => Heap.get?_push_of_some _ q) (Nat.le_refl _) ⟨_, e1⟩
  refine I1.laid (a := s.heap.objs.size + 1) (o := .ins C s.heap.objs.size []) (t' := s.toks) (fun b u q => Heap.get?_push_of_some _ q) (Nat.le_of_eq (Heap.size_push _ _)) ?_
  have ne : s.heap.objs.size ≠ s.heap.objs.size + 1 := Nat.ne_of_lt (Nat.lt_succ_self _)
  refine ⟨by rw [upd_ne ne, upd_same], Nat.zero_le _, ne, e2, fun _ => none, (Heap.Ns1.of_empty e3).at fun o q => Heap.get?_push_of_some _ q, fun _ => True.intro, fun y hy => absurd rfl hy⟩
theorem attr_of {prog : Program} {w : World} {env : Env} {e : Expr} {f : Str} {pos : Pos} {s : Shared} {Q : Value → Shared → Prop} (hb : attributeBase e f env (eval e env) = eval e env)
    (h : wpAny (model prog w) A (eval e env) (fun o s₁ => wpAny (model prog w) A (getAttr o f true) Q E s₁) E s) : wpAny (model prog w) A (eval (.Attribute e f pos) env) Q E s :=
  Attribute_any_ h (by rw [arm_eval_Attribute, hb])
end
def tFld (K : PySem.W.Frag) (ta : TE) (f : Str) : TE := fun σ H Q => ta σ H fun x H1 => ∃ a C dx fs v, x = .ref a ∧ H1 a = some (.ins C dx fs) ∧ Cls K C ∧ NoAttr K C f ∧ fs.lookup f = some v ∧ Q v H1
def sFld (K : PySem.W.Frag) (ta tv : TE) (f : Str) : TS := fun D σ H => tv σ H fun y H1 => ta σ H1 fun x H2 => ∃ a C dx fs, x = .ref a ∧ H2 a = some (.ins C dx fs) ∧ Cls K C ∧ NoAttr K C f ∧ fs.length < 1000 ∧
  D.nx σ (upd H2 a (.ins C dx (putF f y fs)))
section
variable {X : Cx} {o e value : Expr} {f : Str} {pos pos' tpos : Pos} {ta tv : TE}
theorem pe_fld (he : PE X e ta) (hb : attributeBase e f X.env (eval e X.env) = eval e X.env) : PE X (.Attribute e f pos) (tFld X.K ta f) := by
  intro pins s σ H Q I h
  refine attr_of hb (thn (he pins s σ H _ I h) fun u s1 ⟨x, H1, I1, rx, a, C, dx, fs, v, ex, ea, c, n, l, q⟩ => ?_)
  subst ex
  obtain rfl : u = Value.ref a := rx
  exact getattr_ok I1 ea c n l fun u' s2 I2 ru => ⟨v, H1, I2, ru, q⟩
theorem ps_fld (ha : PE X o ta) (hv : PE X value tv) (hs : swapsWith value (some (.Attribute o f pos')) pos.line X.env = pure false) : PS X (.Assign [.Attribute o f pos'] value pos) (sFld X.K ta tv f) := by
  intro pins s σ H D I h
  refine plainObj_wpAny_Assign_Attribute (thn (hv pins s σ H _ I h) fun u s1 ⟨y, H1, I1, ry, q⟩ => thn (ha pins s1 σ H1 _ I1 q) fun ov s2 ⟨x, H2, I2, rx, a, C, dx, fs, ex, ea, c, n, l, q2⟩ => ?_) hs
  subst ex
  obtain rfl : ov = Value.ref a := rx
  exact setattr_ok I2 ea c n l ry fun s3 I3 => ⟨σ, _, I3, q2⟩
end
section
variable {X : Cx} {pins : List (Addr × Obj)} {σ : St} {H : Hp} {s : Shared} {A : Around} {E : Value → Shared → Prop} {Q : Value → Shared → Prop} {c : Value} {b : Bool}
inductive TyOf (K : PySem.W.Frag) (H : Hp) : V → Value → Prop where
  | non : TyOf K H .non (.type "NoneType")
  | bl (x : Bool) : TyOf K H (.bl x) (.type "bool")
  | int (i : Int) : TyOf K H (.int i) (.type "int")
  | str (x : Str) : TyOf K H (.str x) (.type "str")
  | flt (x : UInt64) : TyOf K H (.flt x) (.type "float")
  | lst {a : Addr} {xs : List V} (e : H a = some (.lst xs)) : TyOf K H (.ref a) (.type "list")
  | frz {a : Addr} {o : Obj} {xs : List V} (e : H a = some (.frz o (.lst xs))) : TyOf K H (.ref a) (.type "list")
  | tup {a : Addr} {xs : List V} (e : H a = some (.tup xs)) : TyOf K H (.ref a) (.type "tuple")
  | dK {a : Addr} {kvs : List (Key × V)} (e : H a = some (.dK kvs)) : TyOf K H (.ref a) (.type "dict")
  | dT {a : Addr} {kvs : List (List Key × V)} (e : H a = some (.dT kvs)) : TyOf K H (.ref a) (.type "dict")
  | ins {a C dx : Addr} {fs : List (Str × V)} (e : H a = some (.ins C dx fs)) (cl : Cls K C) (ha : PySem.W.findIn K (.ref C) "__class__" = some (some (.builtin "object.__class__")))
      (hn : PySem.W.specialIn K (.builtin "object.__class__") "__get__" = some (some (.builtin "getset_descriptor.__get__"))) (htk : PySem.W.takesIn K (.builtin "object.__class__") = some true)
      (hm : PySem.W.mroIn K C (.type "object") = some true) : TyOf K H (.ref a) (.ref C)
end
end L2
namespace L2
open PySem PySem.Spec PyProof.Rows
structure Room (k : Nat) (A : Around) : Prop where
  hd : A.handled = none
  dp : A.depth + 3 * k + 5 < recursionLimit
  un : A.units + 16 * k + 200 < cLine
theorem Room.mono {j k : Nat} {A : Around} (r : Room k A) (h : j ≤ k) : Room j A := ⟨r.hd, by have := r.dp; omega, by have := r.un; omega⟩
theorem Room.deeper {k : Nat} {A : Around} (r : Room (k + 1) A) (env : Env) : Room k (A.deeper env) :=
  ⟨r.hd, by have := r.dp; show A.depth + 1 + 3 * k + 5 < _; omega, by have := r.un; show A.units + 3 + 16 * k + 200 < _; omega⟩
theorem make_depth {A : Around} {C : Addr} {us : List Value} {kw : List (Str × Value)} : (A.under (.builtin "type.__call__" ⟨.ref C :: us, kw⟩)).depth = A.depth + 1 := by
  first | rfl | simp [Around.under, Code.weight, Code.isCreation, Code.isGuard, Code.isCaller, Code.frames, Code.isFrame, guardIds]
theorem make_units {A : Around} {C : Addr} {us : List Value} {kw : List (Str × Value)} : (A.under (.builtin "type.__call__" ⟨.ref C :: us, kw⟩)).units = A.units + 1 := by
  first | rfl | simp [Around.under, Code.cUnits, Code.frames, Code.isFrame]
theorem Room.make {k : Nat} {A : Around} (r : Room (k + 1) A) (C : Addr) (us : List Value) (kw : List (Str × Value)) : Room k (A.under (.builtin "type.__call__" ⟨.ref C :: us, kw⟩)) :=
  ⟨r.hd, by have := r.dp; rw [make_depth]; omega, by have := r.un; rw [make_units]; omega⟩
theorem Room.depth {k : Nat} {A : Around} (r : Room k A) : A.depth < recursionLimit := by have := r.dp; omega
theorem Room.units {k : Nat} {A : Around} (r : Room k A) : A.units + 64 < cLine := by have := r.un; omega
def tNil : TA := fun _ H Q => Q [] H
def tCons (ta : TE) (tr : TA) : TA := fun σ H Q => ta σ H fun x H1 => tr σ H1 fun xs H2 => Q (x :: xs) H2
section
variable {X : Cx} {e : Expr} {es : List Expr} {te : TE} {t : TA} {pos : Pos}
theorem pa_nil : PA X [] tNil := fun _ _ _ _ H Q I h => Calls.spliced_nil ⟨[], H, I, .nil, h⟩
theorem pa_cons (ha : PE X e te) (hr : PA X es t) (hs : starEach (e :: es) X.env = (false, eval e X.env) :: starEach es X.env := by rfl) : PA X (e :: es) (tCons te t) := by
  intro pos pins s σ H Q I h
  rw [hs]
  show wpAny _ _ (spliced ((false, eval e X.env) :: backTo pos (starEach es X.env))) _ _ s
  refine Calls.spliced_cons (thn (ha pins s σ H _ I h) fun u s1 ⟨x, H1, I1, r1, q1⟩ => ?_)
  exact thn (hr pos pins s1 σ H1 _ I1 q1) fun us s2 ⟨xs, H2, I2, r2, q2⟩ => ⟨x :: xs, H2, I2, .cons r1 r2, q2⟩
def tTup (t : TA) : TE := fun σ H Q => t σ H fun xs H1 => xs.length ≤ sizeLine ∧ ∀ p, H1 p = none → Q (.ref p) (upd H1 p (.tup xs))
def tLst (t : TA) : TE := fun σ H Q => t σ H fun xs H1 => xs.length ≤ sizeLine ∧ ∀ p, H1 p = none → Q (.ref p) (upd H1 p (.lst xs))
theorem pe_tup {x1} (h : PA X es t) : PE X (.Tuple es x1 pos) (tTup t) := by
  intro pins s σ H Q I hq
  refine wpAny_Tuple_spliced (thn (h pos pins s σ H _ I hq) fun us s1 ⟨xs, H1, I1, r, z, q⟩ => ⟨by rw [← r.length]; exact z, ?_⟩)
  have hf : H1 s1.heap.objs.size = none := I1.hok.fresh (Nat.le_refl _)
  refine ⟨.ref s1.heap.objs.size, upd H1 s1.heap.objs.size (.tup xs), I1.laid (t' := s1.toks) (fun b u e => Heap.get?_push_of_some _ e) (Nat.le_refl _) ?_, rfl, q _ hf⟩
  exact ⟨z, us, r, ⟨_, Heap.get?_push_size _ rfl, rfl, _, rfl⟩⟩
theorem pe_lst (h : PA X es t) : PE X (.List es pos) (tLst t) := by
  intro pins s σ H Q I hq
  refine wpAny_List_spliced (thn (h pos pins s σ H _ I hq) fun us s1 ⟨xs, H1, I1, r, z, q⟩ => ⟨by rw [← r.length]; exact z, ?_⟩)
  have hf : H1 s1.heap.objs.size = none := I1.hok.fresh (Nat.le_refl _)
  refine ⟨.ref s1.heap.objs.size, upd H1 s1.heap.objs.size (.lst xs), I1.laid (t' := s1.toks) (fun b u e => Heap.get?_push_of_some _ e) (Nat.le_refl _) ?_, rfl, q _ hf⟩
  exact ⟨z, us, 0, r, Heap.get?_push_size _ rfl⟩
end
abbrev Sp := List V → Hp → VK → XK → Prop
abbrev CXT := List Env → Hp → Shared → XK → Value → Shared → Prop
structure Env0 (P : Program) (w : World) (K : PySem.W.Frag) (mg : Str → Option Value) (base : Heap) (A : Around) (outer : List Env) (s : Shared) (H : Hp) : Prop where
  frames : A.frames = some outer
  mod : Mod K mg base
  bs : ∀ b o, base.get? b = some o → s.heap.get? b = some o ∧ H b = none
  bsz : base.objs.size ≤ s.heap.objs.size
  funs : s.heap.FunFrames base outer
  frf : ∀ b ∈ frs outer, H b = none
  hok : HOk P w H s.heap
  bare : AllBare s.gens
def CE (outer : List Env) (P : Program) (w : World) (H : Hp) (s : Shared) (Q : VK) (u : Value) (s' : Shared) : Prop :=
  ∃ v H', s'.os = s.os ∧ AllBare s'.gens ∧ Un (frs outer) [] H H' s.heap s'.heap ∧ HOk P w H' s'.heap ∧ RelV v u ∧ Q v H'
def CR (CX : CXT) (outer : List Env) (P : Program) (w : World) (H : Hp) (s : Shared) (Q : VK) (E : XK) (r : Result) (s' : Shared) : Prop :=
  match r with
  | .ok (.ret u) => CE outer P w H s Q u s'
  | .ok _ => False
  | .error e => CX outer H s E e s'
structure FnOk (P : Program) (w : World) (K : PySem.W.Frag) (mg : Str → Option Value) (base : Heap) (CX : CXT) (k : Nat) (f : Addr) (fd : FuncData) (ps : List Str) (sp : Sp) : Prop where
  len : ∀ vs H Q E, sp vs H Q E → vs.length = ps.length
  run : ∀ (A : Around) (outer : List Env) (s : Shared) (H : Hp) (args : Args) (us : List Value) (vs : List V) (Q : VK) (E : XK), Room k A → Env0 P w K mg base A outer s H → BindsTo s fd args (ps.zip us) → Vals vs us → sp vs H Q E →
    codeAny (model P w) A (.call (.ref f) args) (CR CX outer P w H s Q E) s
theorem Env0.make {P : Program} {w : World} {K : PySem.W.Frag} {mg : Str → Option Value} {base : Heap} {A : Around} {outer : List Env} {s : Shared} {H : Hp} (e : Env0 P w K mg base A outer s H) (C : Addr) (us : List Value) (kw : List (Str × Value)) :
    Env0 P w K mg base (A.under (.builtin "type.__call__" ⟨.ref C :: us, kw⟩)) outer s H := ⟨by first | exact e.frames | (simpa [Around.under, Code.envs, Code.isFrame, pushEnvs] using e.frames), e.mod, e.bs, e.bsz, e.funs, e.frf, e.hok, e.bare⟩
section
variable {X : Cx} {pins : List (Addr × Obj)} {σ : St} {H : Hp} {s s' : Shared}
theorem Inv.env0 (I : Inv X pins σ H s) : Env0 X.prog X.w X.K X.mg X.base X.A X.stack s H :=
  ⟨I.ok.frames, I.ok.mod, I.bs, Nat.le_trans I.ok.bsz I.sz, I.stack, I.stkFree, I.hok, I.bare⟩
theorem Inv.after {Q : VK} {u : Value} (I : Inv X pins σ H s) (h : CE X.stack X.prog X.w H s Q u s') : EP X pins σ Q u s' := by
  obtain ⟨v, H', os, bare, un, hok, r, q⟩ := h
  obtain ⟨hh, g, d, t, os'⟩ := s'
  obtain rfl : os' = s.os := os
  exact ⟨v, H', I.call (h' := hh) (g' := g) (d' := d) (t' := t) (ch := []) un hok bare (fun b z => absurd z (by simp)), r, q⟩
end
def tCall (sp : Sp) (dvs : List V) (E : XK) (t : TA) : TE := fun σ H Q => t σ H fun vs H1 => sp (vs ++ dvs) H1 Q E
def tMake (C : Addr) (sp : Sp) (dvs : List V) (E : XK) (t : TA) : TE := fun σ H Q => t σ H fun vs H1 => ∀ x dx, H1 x = none → H1 dx = none → dx ≠ x →
  sp (.ref x :: (vs ++ dvs)) (upd (upd H1 dx (.own x)) x (.ins C dx [])) (fun v H2 => v = .non ∧ Q (.ref x) H2) E
def Binds (K : PySem.W.Frag) (fd : FuncData) (ps : List Str) (ds : List Value) : Prop :=
  ∀ (s : Shared) (us : List Value), K.In s.heap → (us ++ ds).length = ps.length → BindsTo s fd ⟨us, []⟩ (ps.zip (us ++ ds))
theorem Binds.all {K : PySem.W.Frag} {fd : FuncData} {ps : List Str} (h : ∀ us : List Value, us.length = ps.length → bindArgs fd ⟨us, []⟩ = pure (ps.zip us)) : Binds K fd ps [] := fun s us _ hl => by
  rw [List.append_nil] at hl ⊢
  exact .of_eq (h us hl)
def Passes (CX : CXT) (X : Cx) (E : XK) : Prop := ∀ (pins : List (Addr × Obj)) (σ : St) (H : Hp) (s : Shared) (e : Value) (s' : Shared), Inv X pins σ H s → CX X.stack H s E e s' → X.xe e s'
section
variable {X : Cx} {CX : CXT} {k : Nat} {f C : Addr} {fd : FuncData} {ps : List Str} {sp : Sp} {dvs : List V} {ds : List Value} {E : XK} {x m : Str} {p pos apos : Pos} {e o : Expr} {es : List Expr} {ta : TE} {t : TA}
theorem run_fn {pins : List (Addr × Obj)} {σ : St} {H : Hp} {s : Shared} {Q : VK} {us : List Value} {vs : List V} (F : FnOk X.prog X.w X.K X.mg X.base CX k f fd ps sp) (hr : Room k X.A) (hb : Binds X.K fd ps ds) (hd : Vals dvs ds) (hx : Passes CX X E)
    (I : Inv X pins σ H s) (r : Vals vs us) (h : sp (vs ++ dvs) H Q E) : wpAny (model X.prog X.w) X.A (call (.ref f) us) (EP X pins σ Q) X.xe s := by
  have r2 : Vals (vs ++ dvs) (us ++ ds) := r.append hd
  have hl : (us ++ ds).length = ps.length := by rw [← r2.length]; exact F.len _ _ _ _ h
  refine wpAny_call (codeAny_mono (F.run X.A X.stack s H ⟨us, []⟩ (us ++ ds) (vs ++ dvs) Q E hr I.env0 (hb s us I.kIn hl) r2 h) fun r s' hq => ?_)
  cases r with
  | error e => exact hx pins σ H s e s' I hq
  | ok fl =>
    cases fl with
    | ret u => exact I.after hq
    | next => exact False.elim hq
    | brk => exact False.elim hq
    | cont => exact False.elim hq
theorem pe_call (F : FnOk X.prog X.w X.K X.mg X.base CX k f fd ps sp) (hr : Room k X.A) (hg : Gl X x) (hm : X.mg x = some (.ref f)) (hk : PySem.W.keepIn X.K (.ref f) = true) (hb : Binds X.K fd ps ds) (hd : Vals dvs ds) (hx : Passes CX X E)
    (ha : PA X (e :: es) t) (hdb : (x == ("__debug__" : Str)) = false := by decide) (he : starEach (e :: es) X.env = (false, eval e X.env) :: starEach es X.env := by rfl) (hpl : (backTo pos (starEach es X.env)).any (·.1) = false := by rfl) :
    PE X (.Call (.Name x p) (e :: es) [] pos) (tCall sp dvs E t) := by
  intro pins s σ H Q I h
  refine wpAny_Call_Name_kw (ld_glob I hg hm ?_ hdb)
  refine PySem.W.callWith_K (h₀ := X.base) I.ok.mod.kin hk (thn (ha pos pins s σ H _ I h) fun us s1 ⟨vs, H1, I1, r, q⟩ => ⟨I1.kIn, ?_⟩) he hpl
  exact run_fn F hr hb hd hx I1 r q
structure Mk (K : PySem.W.Frag) (C f : Addr) : Prop where
  makes : PySem.W.makesIn K C = true
  init : PySem.W.findIn K (.ref C) "__init__" = some (some (.ref f))
  fn : PySem.W.isFn K (.ref f) = true
  kp : PySem.W.keepIn K (.ref C) = true
theorem run_make {pins : List (Addr × Obj)} {σ : St} {H : Hp} {s : Shared} {Q : VK} {us : List Value} {vs : List V} (M : Mk X.K C f) (F : FnOk X.prog X.w X.K X.mg X.base CX k f fd ps sp) (hr : Room (k + 1) X.A) (hb : Binds X.K fd ps ds) (hd : Vals dvs ds)
    (hx : Passes CX X E) (I : Inv X pins σ H s) (r : Vals vs us)
    (h : ∀ x dx, H x = none → H dx = none → dx ≠ x → sp (.ref x :: (vs ++ dvs)) (upd (upd H dx (.own x)) x (.ins C dx [])) (fun v H2 => v = .non ∧ Q (.ref x) H2) E) :
    wpAny (model X.prog X.w) X.A (call (.ref C) us) (EP X pins σ Q) X.xe s := by
  have hq := h (s.heap.objs.size + 1) s.heap.objs.size (I.hok.fresh (Nat.le_succ _)) (I.hok.fresh (Nat.le_refl _)) (Nat.ne_of_lt (Nat.lt_succ_self _))
  have I2 := Inv.made (C := C) I
  have r2 : Vals (V.ref (s.heap.objs.size + 1) :: (vs ++ dvs)) (Value.ref (s.heap.objs.size + 1) :: (us ++ ds)) := .cons rfl (r.append hd)
  have hl : (Value.ref (s.heap.objs.size + 1) :: us ++ ds).length = ps.length := by
    have e := r2.length
    rw [F.len _ _ _ _ hq] at e
    exact e.symm
  refine wpAny_call (make_map (f := f) I.kIn M.makes M.init (beq_iff_eq.mp M.fn) (codeAny_mono (F.run _ X.stack _ _ ⟨Value.ref (s.heap.objs.size + 1) :: us, []⟩ (Value.ref (s.heap.objs.size + 1) :: (us ++ ds)) _ _ E (hr.make C us [])
    (I2.env0.make C us []) (hb _ (Value.ref (s.heap.objs.size + 1) :: us) I2.kIn hl) r2 hq) fun r s' hq' => ?_))
  cases r with
  | error e => exact hx pins σ _ _ e s' I2 hq'
  | ok fl =>
    cases fl with
    | ret u =>
      obtain ⟨v, H', I3, rv, ev, q3⟩ := I2.after hq'
      subst ev
      exact ⟨rv, ⟨V.ref (s.heap.objs.size + 1), H', I3, rfl, q3⟩⟩
    | next => exact False.elim hq'
    | brk => exact False.elim hq'
    | cont => exact False.elim hq'
theorem pe_make (M : Mk X.K C f) (F : FnOk X.prog X.w X.K X.mg X.base CX k f fd ps sp) (hr : Room (k + 1) X.A) (hg : Gl X x) (hm : X.mg x = some (.ref C)) (hb : Binds X.K fd ps ds) (hd : Vals dvs ds) (hx : Passes CX X E)
    (ha : PA X (e :: es) t) (hdb : (x == ("__debug__" : Str)) = false := by decide) (he : starEach (e :: es) X.env = (false, eval e X.env) :: starEach es X.env := by rfl) (hpl : (backTo pos (starEach es X.env)).any (·.1) = false := by rfl) :
    PE X (.Call (.Name x p) (e :: es) [] pos) (tMake C sp dvs E t) := by
  intro pins s σ H Q I h
  refine wpAny_Call_Name_kw (ld_glob I hg hm ?_ hdb)
  refine PySem.W.callWith_K (h₀ := X.base) I.ok.mod.kin M.kp (thn (ha pos pins s σ H _ I h) fun us s1 ⟨vs, H1, I1, r, q⟩ => ⟨I1.kIn, ?_⟩) he hpl
  exact run_make M F hr hb hd hx I1 r q
end
section
variable {X : Cx} {CX : CXT} {k : Nat} {f C : Addr} {fd : FuncData} {ps ks : List Str} {sp : Sp} {E : XK} {x m : Str} {p pos apos kpos : Pos} {e o : Expr} {es : List Expr} {kws : List Keyword} {te ta : TE} {t tk : TA} {nm : Option Str}
structure KBinds (K : PySem.W.Frag) (fd : FuncData) (ps ks : List Str) (g : List Value → List Value → List Value) (gV : List V → List V → List V) : Prop where
  to : ∀ (s : Shared) (us ws : List Value), K.In s.heap → (g us ws).length = ps.length → BindsTo s fd ⟨us, ks.zip ws⟩ (ps.zip (g us ws))
  rel : ∀ {vs : List V} {us : List Value} {zs : List V} {ws : List Value}, Vals vs us → Vals zs ws → Vals (gV vs zs) (g us ws)
variable {g : List Value → List Value → List Value} {gV : List V → List V → List V}
end
structure FnScope (N P : List Str) (sc : Scope) : Prop where
  kind : sc.kind = .function
  co : sc.isCoroutine = false
  gen : sc.isGenerator = false
  nd : N.Nodup
  pre : N.take P.length = P
  par : ∀ x ∈ P, sc.names.lookup x = some .local ∨ sc.names.lookup x = some .cell
  nofree : ∀ y ∈ sc.names, y.2 ≠ .free
theorem bindL_out {kindOf : Str → Option NameKind} {x : Str} : ∀ {binds : List (Str × Value)} {m : Str → Option Value}, (∀ v, (x, v) ∉ binds) → bindL kindOf binds m x = m x
  | [], _, _ => rfl
  | (n, v) :: r, m, h => by
    unfold bindL
    rw [bindL_out fun w hw => h w (List.mem_cons_of_mem _ hw)]
    split
    · have : x ≠ n := by rintro rfl; exact h v List.mem_cons_self
      simp [this]
    · rfl
theorem bindC_out {kindOf : Str → Option NameKind} {x : Str} : ∀ {binds : List (Str × Value)} {m : Str → Option Value}, (∀ v, (x, v) ∉ binds) → bindC kindOf binds m x = m x
  | [], _, _ => rfl
  | (n, v) :: r, m, h => by
    unfold bindC
    rw [bindC_out fun w hw => h w (List.mem_cons_of_mem _ hw)]
    split
    · rfl
    · have : x ≠ n := by rintro rfl; exact h v List.mem_cons_self
      simp [this]
theorem bindL_get {kindOf : Str → Option NameKind} {x : Str} {v : Value} : ∀ {P : List Str} {vs : List Value} {i : Nat} {m : Str → Option Value}, P.Nodup → P[i]? = some x → vs[i]? = some v → kindOf x = some .local →
    bindL kindOf (P.zip vs) m x = some v
  | [], _, _, _, _, h, _, _ => by simp at h
  | _ :: _, [], _, _, _, _, h, _ => by simp at h
  | p :: P, w :: vs, 0, m, nd, h1, h2, hk => by
    simp at h1 h2; subst h1; subst h2
    show bindL kindOf ((p, w) :: P.zip vs) m p = _
    unfold bindL
    rw [bindL_out fun v hv => (List.nodup_cons.mp nd).1 (List.of_mem_zip hv).1, if_pos hk]
    simp
  | p :: P, w :: vs, i + 1, m, nd, h1, h2, hk => by
    show bindL kindOf ((p, w) :: P.zip vs) m x = _
    unfold bindL
    exact bindL_get (i := i) (List.nodup_cons.mp nd).2 (by simpa using h1) (by simpa using h2) hk
theorem bindC_get {kindOf : Str → Option NameKind} {x : Str} {v : Value} : ∀ {P : List Str} {vs : List Value} {i : Nat} {m : Str → Option Value}, P.Nodup → P[i]? = some x → vs[i]? = some v → kindOf x ≠ some .local →
    bindC kindOf (P.zip vs) m x = some v
  | [], _, _, _, _, h, _, _ => by simp at h
  | _ :: _, [], _, _, _, _, h, _ => by simp at h
  | p :: P, w :: vs, 0, m, nd, h1, h2, hk => by
    simp at h1 h2; subst h1; subst h2
    show bindC kindOf ((p, w) :: P.zip vs) m p = _
    unfold bindC
    rw [bindC_out fun v hv => (List.nodup_cons.mp nd).1 (List.of_mem_zip hv).1, if_neg hk]
    simp
  | p :: P, w :: vs, i + 1, m, nd, h1, h2, hk => by
    show bindC kindOf ((p, w) :: P.zip vs) m x = _
    unfold bindC
    exact bindC_get (i := i) (List.nodup_cons.mp nd).2 (by simpa using h1) (by simpa using h2) hk
def start (N : List Str) (vs : List V) : St := vs.map some ++ List.replicate (N.length - vs.length) none
def cxOf (CX : CXT) (P : Program) (w : World) (K : PySem.W.Frag) (mg : Str → Option Value) (base : Heap) (N : List Str) (qual : Str) (scope : Scope) (f : Addr) (cd : Value) (A : Around) (outer : List Env) (s : Shared) (H : Hp) (E : XK) : Cx where
  prog := P
  w := w
  K := K
  mg := mg
  base := base
  A := A.deeper (envOfC qual scope s.heap.objs.size f cd)
  N := N
  s₀ := s
  H₀ := H
  env := envOfC qual scope s.heap.objs.size f cd
  outer := outer
  stack := envOfC qual scope s.heap.objs.size f cd :: outer
  ex := []
  calm := true
  fn := fun _ => true
  pn := []
  xe := fun e s' => wpAny (model P w) (A.deeper (envOfC qual scope s.heap.objs.size f cd)) (leaving (envOfC qual scope s.heap.objs.size f cd) e) (fun _ s'' => CX outer H s E e s'') (fun e' s'' => CX outer H s E e' s'') s'
theorem cell_has {sc : Scope} {n : Nat} {x : Str} (h : sc.names.lookup x = some .cell) : ∃ c, (cellsFrom n sc.names []).lookup x = some c := by
  have q := PySem.W.cellsFrom_some sc.names n [] (.inl h)
  exact Option.isSome_iff_exists.mp q
theorem inv_start {CX : CXT} {P : Program} {w : World} {K : PySem.W.Frag} {mg : Str → Option Value} {base : Heap} {N ps : List Str} {qual : Str} {scope : Scope} {f : Addr} {cd : Value} {A : Around} {outer : List Env} {s s1 : Shared} {H : Hp} {E : XK} {us : List Value} {vs : List V}
    (S : FnScope N ps scope) (hd : A.handled = none) (e0 : Env0 P w K mg base A outer s H) (hl : vs.length = ps.length) (r : Vals vs us)
    (x : InCallC s s.heap.objs.size (bindL (envOfC qual scope s.heap.objs.size f cd).kindOf (ps.zip us) fun _ => none) (cellsFrom (s.heap.objs.size + 1) scope.names []) (bindC (envOfC qual scope s.heap.objs.size f cd).kindOf (ps.zip us) fun _ => none) s1) :
    Inv (cxOf CX P w K mg base N qual scope f cd A outer s H E) [] (start N vs) H s1 := by
  have hpl : ps.length ≤ N.length := by have := congrArg List.length S.pre; rw [List.length_take] at this; omega
  obtain ⟨h1, tk, rfl, hk⟩ := x.done
  have noA : ∀ b : Addr, b ∉ (cxOf CX P w K mg base N qual scope f cd A outer s H E).ex := fun b z => absurd (show b ∈ ([] : List Addr) from z) (by simp)
  refine ⟨⟨e0.mod, S.kind, rfl, rfl, Nat.le_refl _, fun y z c h1 h2 => ?_, fun y hy => ?_, fun y c _ h => ?_, fun _ => hd, Around.frames_deeper e0.frames, .inr ⟨rfl, rfl⟩, fun b z => absurd z (noA b), e0.bs, e0.bsz, fun b _ _ => noA b, fun b z => absurd z (noA b), e0.funs, e0.frf⟩,
    rfl, e0.bare, Un.kept hk, ⟨_, x.toInCall.ns, fun i y v h1 h2 h3 => ?_⟩, fun y c h => ⟨_, x.cell y c h⟩, e0.hok.fresh (Nat.le_refl _), fun y c h => ?_, fun p hp => absurd (show p ∈ ([] : List (Addr × Obj)) from hp) (by simp), e0.hok.kept hk, ?_⟩
  · exact name_of_addr x.apart (PySem.mem_of_lookup h1) (PySem.mem_of_lookup h2)
  · have hy : scope.names.lookup y = some .cell ∨ scope.names.lookup y = some .free := hy
    rcases hy with hy | hy
    · exact cell_has hy
    · exact absurd rfl (S.nofree _ (PySem.mem_of_lookup hy))
  · exact Nat.le_of_lt (x.above y c (PySem.mem_of_lookup h))
  · have hi : i < vs.length := by
      unfold start at h2
      by_cases hi : i < vs.length
      · exact hi
      · rw [List.getElem?_append_right (by simpa using hi)] at h2
        rw [List.getElem?_replicate] at h2
        split at h2 <;> cases h2
    have ha : vs[i]? = some v := by
      unfold start at h2
      rw [List.getElem?_append_left (by simpa using hi), List.getElem?_map] at h2
      cases e : vs[i]? with
      | none => rw [e] at h2; cases h2
      | some a => rw [e] at h2; cases h2; rfl
    obtain ⟨u, hu, rv⟩ := r.get ha
    have hp : ps[i]? = some y := by
      rw [← S.pre, List.getElem?_take_of_lt (by omega)]; exact h1
    have ndP : ps.Nodup := by rw [← S.pre]; exact S.nd.sublist (List.take_sublist _ _)
    refine ⟨u, rv, ?_⟩
    rcases S.par y (List.mem_of_getElem? hp) with k | k
    · exact .inl ⟨k, bindL_get ndP hp hu k⟩
    · obtain ⟨c, e⟩ := cell_has (n := s.heap.objs.size + 1) k
      refine .inr ⟨.inl k, c, e, ?_⟩
      have q := x.cell y c e
      rw [bindC_get ndP hp hu (by show scope.names.lookup y ≠ _; rw [k]; decide)] at q
      exact q
  · exact e0.hok.fresh (Nat.le_of_lt (x.above y c (PySem.mem_of_lookup h)))
  · unfold start
    show _ = N.length
    rw [List.length_append, List.length_map, List.length_replicate]
    omega
theorem fn_of {CX : CXT} {P : Program} {w : World} {K : PySem.W.Frag} {mg : Str → Option Value} {base : Heap} {k : Nat} {f : Addr} {name qual : Str} {params : Arguments} {body : List Stmt} {scope : Scope} {dV kV doc pm cdv ct oc : Value} {an od : Option Addr}
    {osl : Array (Option Value)} {N ps : List Str} {sp : Sp} (lk : K.lookup f = some ⟨oc, od, .func (PySem.W.fnOf name qual params body scope dV kV doc pm an cdv ct), osl⟩) (hcd : PySem.W.codeIn K cdv qual = true) (S : FnScope N ps scope)
    (len : ∀ vs H Q E, sp vs H Q E → vs.length = ps.length)
    (hbody : ∀ (A : Around) (outer : List Env) (s : Shared) (H : Hp) (vs : List V) (Q : VK) (E : XK), Room k (A.deeper (envOfC qual scope s.heap.objs.size f cdv)) → sp vs H Q E →
      ∃ t, PSs (cxOf CX P w K mg base N qual scope f cdv A outer s H E) body t ∧ t { nx := fun _ H' => Q .non H', rt := Q } (start N vs) H) :
    FnOk P w K mg base CX (k + 1) f (PySem.W.fnOf name qual params body scope dV kV doc pm an cdv ct) ps sp := by
  refine ⟨len, fun A outer s H args us vs Q E hr e0 hb r hsp => ?_⟩
  have hl := len _ _ _ _ hsp
  have KX : K.In s.heap := e0.mod.kin.keeps fun b o e => (e0.bs b o e).1
  have lim : s.heap.NoLimit := e0.mod.nolimit.keeps fun b o e => (e0.bs b o e).1
  have hkind : ∀ y ∈ ps.zip us, scope.names.lookup y.1 = some .local ∨ (scope.names.lookup y.1 = some .cell ∧ ((cellsFrom (s.heap.objs.size + 1) scope.names []).lookup y.1).isSome = true) := fun ⟨n, v⟩ hy => by
    rcases S.par n (List.of_mem_zip hy).1 with q | q
    · exact .inl q
    · exact .inr ⟨q, PySem.W.cellsFrom_some _ _ _ (.inl q)⟩
  refine codeAny_call_function hr.depth (KX _ _ lk) rfl S.co S.gen rfl (PySem.W.codeRec_of KX hcd) (hb _ _ _ _ ?_)
  refine wpAny_newFunctionEnv_cells S.kind hkind fun env he s1 x => ?_
  subst he
  refine ⟨lim.keeps x.toInCall.keep, codeAny_func ?_⟩
  obtain ⟨t, ht, hq⟩ := hbody A outer s H vs Q E (hr.deeper _) hsp
  have I : Inv (cxOf CX P w K mg base N qual scope f cdv A outer s H E) [] (start N vs) H s1 := inv_start S hr.hd e0 hl r x
  refine wpAny_mono (ht [] s1 (start N vs) H _ I hq) (fun fl s' hs => ?_) fun e s' hs => hs
  have fin : ∀ {σ' : St} {H' : Hp} {v : V} {u : Value}, Inv (cxOf CX P w K mg base N qual scope f cdv A outer s H E) [] σ' H' s' → RelV v u → Q v H' → CE outer P w H s Q u s' :=
    fun {σ' H' v u} J rv q => ⟨v, H', J.os, J.bare, J.base, J.hok, rv, q⟩
  cases fl with
  | ret u =>
    obtain ⟨v, σ', H', J, rv, q⟩ := hs
    exact fin J rv q
  | next =>
    obtain ⟨σ', H', J, q⟩ := hs
    exact fin (v := V.non) (u := Value.none) J rfl q
  | brk =>
    obtain ⟨_, _, _, q⟩ := hs
    exact False.elim q
  | cont =>
    obtain ⟨_, _, _, q⟩ := hs
    exact False.elim q
end L2
namespace L2
open PySem PySem.Spec PyProof.Rows
section
variable {X : Cx} {x : Str} {p pos : Pos} {e : Expr} {es : List Expr} {t : TA} {id T : String} {r : List V → Hp → VK → Prop}
def tCB (r : List V → Hp → VK → Prop) (t : TA) : TE := fun σ H Q => t σ H fun vs H1 => r vs H1 Q
theorem pe_callB (hc : CallR X (.builtin id) r) (hg : Gl X x) (hm : X.mg x = none) (hv : bootBuiltins x = some (.builtin id)) (ha : PA X (e :: es) t) (hn : x ≠ "__name__" := by decide) (hdb : (x == ("__debug__" : Str)) = false := by decide)
    (he : starEach (e :: es) X.env = (false, eval e X.env) :: starEach es X.env := by rfl) (hpl : (backTo pos (starEach es X.env)).any (·.1) = false := by rfl) : PE X (.Call (.Name x p) (e :: es) [] pos) (tCB r t) := by
  intro pins s σ H Q I h
  refine wpAny_Call_Name_kw (ld_blt I hg hm hv ?_ hn hdb)
  exact PyProof.Rows.callWith_builtin1 (thn (ha pos pins s σ H _ I h) fun us s1 ⟨vs, H1, I1, r1, q1⟩ => hc pins s1 σ H1 vs us Q I1 r1 q1) he hpl
theorem pe_callTy (hc : CallR X (.type T) r) (hg : Gl X x) (hm : X.mg x = none) (hv : bootBuiltins x = some (.type T)) (ha : PA X (e :: es) t) (hn : x ≠ "__name__" := by decide) (hdb : (x == ("__debug__" : Str)) = false := by decide)
    (he : starEach (e :: es) X.env = (false, eval e X.env) :: starEach es X.env := by rfl) (hpl : (backTo pos (starEach es X.env)).any (·.1) = false := by rfl) : PE X (.Call (.Name x p) (e :: es) [] pos) (tCB r t) := by
  intro pins s σ H Q I h
  refine wpAny_Call_Name_kw (ld_blt I hg hm hv ?_ hn hdb)
  exact PyProof.Rows.callWith_type1 (thn (ha pos pins s σ H _ I h) fun us s1 ⟨vs, H1, I1, r1, q1⟩ => hc pins s1 σ H1 vs us Q I1 r1 q1) he hpl
end
end L2
namespace HT
open PySem PyProof.Rows
section
open PySem.SeqAt
open PySem.AutoSeq1 (wpAny_loadPart')
open PySem.MeetsSeq PySem.MeetsSeq2 PySem.MeetsSeq3
end
section
variable {prog : Program} {w : World} {A : Around} {E : Value → Shared → Prop} {s : Shared}
theorem cat_tup {t b : Addr} {vs ws : List Value} {Q : Value → Shared → Prop} (ht : IsTup s.heap t vs.toArray) (hb : IsTup s.heap b ws.toArray) (hv : vs ≠ [])
    (h1 : ws = [] → Q (.ref t) s) (h2 : ws ≠ [] → Q (.ref s.heap.objs.size) { s with heap := s.heap.push { cls := .type "tuple", data := .seq (vs ++ ws).toArray } })
    (hsz : vs.length + ws.length ≤ sizeLine) : wpAny (model prog w) A (binaryOp .Add (.ref t) (.ref b)) Q E s := by
  obtain ⟨⟨cls, dd, data, sl⟩, ho, hc, n, hd⟩ := id ht
  obtain ⟨⟨cls2, dd2, data2, sl2⟩, ho2, hc2, n2, hd2⟩ := id hb
  simp only at hc hd hc2 hd2
  subst hc hd hc2 hd2
  have e : vs.toArray ++ ws.toArray = (vs ++ ws).toArray := by simp
  by_cases hw : ws = []
  · exact concat_meets ⟨_, ho, rfl⟩ ⟨_, ho2, rfl⟩ noFill_tuple_add seq_tuple_add PySem.F.slot_tuple_add PySem.F.entry_tuple_add (PySem.F.args_tuple_add_2 _ _)
      (tuple_addW1 t b vs.toArray ws.toArray n n2 dd dd2 sl sl2 (by simpa using hv) (by simp [hw])) ⟨ho, ho2, h1 hw⟩
  · refine concat_meets ⟨_, ho, rfl⟩ ⟨_, ho2, rfl⟩ noFill_tuple_add seq_tuple_add PySem.F.slot_tuple_add PySem.F.entry_tuple_add (PySem.F.args_tuple_add_2 _ _)
      (tuple_addW2 t b vs.toArray ws.toArray n n2 dd dd2 sl sl2 (by simpa using hv) (by simpa using hw) (by rw [List.size_toArray, List.size_toArray]; exact hsz)) ⟨ho, ho2, ?_⟩
    rw [e]
    exact h2 hw
def sIx (n d : Nat) : Option Int → Nat
  | none => d
  | some v => if v < 0 then (v + (n : Int)).toNat else min v.toNat n
theorem sIx_none (n d : Nat) : sIx n d none = d := rfl
theorem sIx_nat (n d k : Nat) : sIx n d (some (k : Int)) = min k n := by
  show (if (k : Int) < 0 then ((k : Int) + (n : Int)).toNat else min (k : Int).toNat n) = min k n
  rw [if_neg (by omega), Int.toNat_natCast]
theorem sIx_le (n d : Nat) (hd : d ≤ n) (o : Option Int) : sIx n d o ≤ n := by
  cases o with
  | none => exact hd
  | some v =>
    show (if v < 0 then (v + (n : Int)).toNat else min v.toNat n) ≤ n
    by_cases hv : v < 0
    · rw [if_pos hv]; omega
    · rw [if_neg hv]; exact Nat.min_le_right _ _
theorem clip_eq (v : Int) (n d : Nat) : (if v < 0 then max (v + (n : Int)) 0 else min v (n : Int)) = ((sIx n d (some v) : Nat) : Int) := by
  show (if v < 0 then max (v + (n : Int)) 0 else min v (n : Int)) = (((if v < 0 then (v + (n : Int)).toNat else min v.toNat n) : Nat) : Int)
  by_cases hv : v < 0
  · simp only [if_pos hv]; omega
  · simp only [if_neg hv]; omega
theorem adjust_gen (lo hi : Option Int) (n : Nat) : Builtin.Slice.sliceAdjust lo hi 1 (n : Int) = (((sIx n 0 lo : Nat) : Int), ((sIx n n hi : Nat) : Int)) := by
  have h1 : ¬ ((1 : Int) < 0) := by omega
  unfold Builtin.Slice.sliceAdjust
  simp only [h1, if_false]
  refine Prod.ext ?_ ?_
  · cases lo with
    | none => rfl
    | some v => exact clip_eq v n 0
  · cases hi with
    | none => rfl
    | some v => exact clip_eq v n n
theorem places_gen (i j : Nat) : Builtin.Slice.slicePlaces (i : Int) (j : Int) 1 = j - i := by
  unfold Builtin.Slice.slicePlaces
  have h1 : (1 : Int) > 0 := by omega
  simp only [h1, if_true, Int.ediv_one]
  split <;> omega
theorem slicePart_ {v : Value} {o : Option Int} {Q : Option Int → Shared → Prop} (p : IsPart v o) (h : Q o s) : wpAny (model prog w) A (Builtin.Slice.slicePartIndex v) Q E s := by
  cases p with
  | none => exact slicePart_none h
  | int i t => exact slicePart_int h
theorem sliceApplied_gen {sl : Addr} {vl vu : Value} {lo hi : Option Int} {n : Nat} {Q : Int × Int × Nat → Shared → Prop} (hs : s.heap.IsSliceOf sl vl vu .none) (pl : IsPart vl lo) (pu : IsPart vu hi)
    (h : Q (((sIx n 0 lo : Nat) : Int), 1, sIx n n hi - sIx n 0 lo) s) : wpAny (model prog w) A (Builtin.Slice.sliceApplied (.ref sl) (pure (n : Int))) Q E s := by
  obtain ⟨os, hos, hcs, hds⟩ := id hs
  unfold Builtin.Slice.sliceApplied Builtin.Slice.sliceFields
  refine wpAny_bind (wpAny_bind (wpAny_field hos hds (x := vl) rfl (wpAny_bind (wpAny_field hos hds (x := vu) rfl (wpAny_bind (wpAny_field hos hds (x := .none) rfl (wpAny_pure ?_)))))))
  refine wpAny_bind (slicePart_none ?_)
  show wpAny _ _ (if ((1 : Int) == 0) = true then _ else _) _ _ s
  rw [if_neg (by decide)]
  refine wpAny_bind (slicePart_ pl (wpAny_bind (slicePart_ pu (wpAny_bind (wpAny_pure ?_)))))
  show wpAny _ _ (match Builtin.Slice.sliceAdjust lo hi 1 (n : Int) with | (lo, hi) => pure (lo, (1 : Int), Builtin.Slice.slicePlaces lo hi 1)) _ _ s
  rw [adjust_gen lo hi n]
  show wpAny _ _ (pure (((sIx n 0 lo : Nat) : Int), (1 : Int), Builtin.Slice.slicePlaces ((sIx n 0 lo : Nat) : Int) ((sIx n n hi : Nat) : Int) 1)) _ _ s
  rw [places_gen]
  exact wpAny_pure h
theorem pick_gen (xs : Array Value) (i k : Nat) : ((List.range k).filterMap fun (m : Nat) => xs[((i : Int) + (m : Int) * 1).toNat]?).toArray = ((xs.toList.drop i).take k).toArray := by
  have e : (fun (m : Nat) => xs[((i : Int) + (m : Int) * 1).toNat]?) = fun m => xs[i + m]? := by
    funext m
    have : ((i : Int) + (m : Int) * 1).toNat = i + m := by omega
    rw [this]
  rw [e]
  have := pick_run xs i k
  rw [List.filterMap_map] at this
  have e2 : ((fun x => xs[x]?) ∘ fun x => i + x) = fun m => xs[i + m]? := rfl
  rw [e2] at this
  rw [this]
theorem getItem_tuple_cut {t sl : Addr} {items : Array Value} {vl vu : Value} {lo hi : Option Int} {Q : Value → Shared → Prop} (ht : IsTup s.heap t items) (hs : s.heap.IsSliceOf sl vl vu .none) (pl : IsPart vl lo) (pu : IsPart vu hi)
    (hw : ¬ (sIx items.size 0 lo = 0 ∧ sIx items.size items.size hi = items.size))
    (h : Q (.ref s.heap.objs.size) { s with heap := s.heap.push { cls := .type "tuple", data := .seq ((items.toList.drop (sIx items.size 0 lo)).take (sIx items.size items.size hi - sIx items.size 0 lo)).toArray } })
    (hsz : items.size ≤ sizeLine) : wpAny (model prog w) A (getItem (.ref t) (.ref sl)) Q E s := by
  have htake : sizeOk (.seq ((items.toList.drop (sIx items.size 0 lo)).take (sIx items.size items.size hi - sIx items.size 0 lo)).toArray) := by
    show ((items.toList.drop (sIx items.size 0 lo)).take (sIx items.size items.size hi - sIx items.size 0 lo)).toArray.size ≤ sizeLine
    rw [List.size_toArray, List.length_take, List.length_drop, Array.length_toList]
    omega
  have hj : sIx items.size items.size hi ≤ items.size := sIx_le _ _ (Nat.le_refl _) hi
  obtain ⟨os, hos, hcs, hds⟩ := id hs
  have hTs : s.TypeIs (.ref sl) "slice" := ⟨os, hos, hcs⟩
  unfold getItem
  try with_reducible refine wpAny_holding ?_
  first | refine wpAny_bind (wpAny_pure ?_) | skip
  refine wpAny_bind (wpAny_sequenceKey ht.typeIs (by decide) ?_)
  refine wpAny_bind (wpAny_callSpecial?_slot (name := Str.ofString "__getitem__") ht.typeIs PyProof.Rows.slot_tuple_getitem
    (wpAny_call_entry PyProof.Rows.slot_tuple_getitem ht.typeIs entry_tuple_getitem ?_ (args_tuple_getitem _ _)))
  show wpAny _ _ (Builtin.Tuple.tupleItemsOf (.ref t) >>= _) _ _ s
  refine wpAny_bind (tupleItemsOf_ ht ?_)
  refine wpAny_bind (wpAny_typeOf hTs ?_)
  rw [if_pos (by decide)]
  refine wpAny_bind (sliceApplied_gen hs pl pu ?_)
  have hno : ¬ ((((sIx items.size 0 lo : Nat) : Int) == 0 && (1 : Int) == 1 && (sIx items.size items.size hi - sIx items.size 0 lo) == items.size) = true) := by
    intro q
    rw [Bool.and_eq_true, Bool.and_eq_true] at q
    have q1 : ((sIx items.size 0 lo : Nat) : Int) = 0 := eq_of_beq q.1.1
    have q2 : sIx items.size items.size hi - sIx items.size 0 lo = items.size := eq_of_beq q.2
    exact hw ⟨by omega, by omega⟩
  show wpAny _ _ (if (((sIx items.size 0 lo : Nat) : Int) == 0 && (1 : Int) == 1 && (sIx items.size items.size hi - sIx items.size 0 lo) == items.size) = true then _ else _) _ _ s
  rw [if_neg hno, pick_gen]
  first
    | exact wpAny_bind (m := Builtin.Tuple.tupleExact _) (wpAny_newObj_type (wpAny_pure ⟨_, rfl, wpAny_pure h⟩) htake)
    | exact wpAny_bind (m := Builtin.Tuple.tupleExact _) (wpAny_newObj_type (wpAny_bind (wpAny_pure (wpAny_pure ⟨_, rfl, wpAny_pure h⟩))) htake)
    | exact wpAny_bind (wpAny_bind (m := Builtin.Tuple.tupleExact _) (wpAny_newObj_type (wpAny_pure (wpAny_pure ⟨_, rfl, wpAny_pure h⟩)) htake))
    | exact wpAny_bind (wpAny_bind (m := Builtin.Tuple.tupleExact _) (wpAny_newObj_type (wpAny_pure ⟨_, rfl, wpAny_pure h⟩) htake))
end
end HT
namespace L2
open PySem PySem.Spec PyProof.Rows
abbrev TO := St → Hp → (Option Int → Hp → Prop) → Prop
def PO (X : Cx) (e : Option Expr) (t : TO) : Prop :=
  ∀ (pins : List (Addr × Obj)) (s : Shared) (σ : St) (H : Hp) (Q : Option Int → Hp → Prop), Inv X pins σ H s → t σ H Q →
    wpAny (model X.prog X.w) X.A (evalPart e X.env) (fun u s' => ∃ o H', Inv X pins σ H' s' ∧ IsPart u o ∧ Q o H') X.xe s
def tNoPart : TO := fun _ H Q => Q none H
def tPart (t : TE) : TO := fun σ H Q => t σ H fun x H1 => ∃ i, x = .int i ∧ Q (some i) H1
section
variable {X : Cx} {e : Expr} {te : TE} {lo hi : Option Expr} {tl th : TO} {pos p2 : Pos}
theorem po_none : PO X none tNoPart := by
  intro pins s σ H Q I h
  rw [evalPart_none]
  exact wpAny_pure ⟨none, H, I, .none, h⟩
theorem po_some (h : PE X e te) : PO X (some e) (tPart te) := by
  intro pins s σ H Q I hw
  rw [evalPart_some]
  refine thn (h pins s σ H _ I hw) fun u s1 ⟨x, H1, I1, r1, q1⟩ => ?_
  obtain ⟨i, rfl, q⟩ := q1
  obtain ⟨t, rfl⟩ := r1
  exact ⟨some i, H1, I1, .int i t, q⟩
def SlR (X : Cx) (r : V → Option Int → Option Int → Hp → VK → Prop) : Prop :=
  ∀ (pins : List (Addr × Obj)) (s : Shared) (σ : St) (H : Hp) (x : V) (v vl vu : Value) (lo hi : Option Int) (sl : Addr) (Q : VK), Inv X pins σ H s → RelV x v → s.heap.IsSliceOf sl vl vu .none → IsPart vl lo → IsPart vu hi → r x lo hi H Q →
    ∃ T id, typeLookup (.type T) "__getitem__" = pure (some (.builtin id)) ∧ s.TypeIs v T ∧ wpAny (model X.prog X.w) X.A (getItem v (.ref sl)) (EP X pins σ Q) X.xe s
def tSl (r : V → Option Int → Option Int → Hp → VK → Prop) (te : TE) (tl th : TO) : TE := fun σ H Q => te σ H fun x H1 => tl σ H1 fun l H2 => th σ H2 fun u H3 => r x l u H3 Q
theorem pe_slice {r : V → Option Int → Option Int → Hp → VK → Prop} (hr : SlR X r) (he : PE X e te) (hl : PO X lo tl) (hu : PO X hi th) : PE X (.Subscript e (.Slice lo hi none p2) pos) (tSl r te tl th) := by
  intro pins s σ H Q I h
  refine Subscript_ (thn (he pins s σ H _ I h) fun v s1 ⟨x, H1, I1, r1, q1⟩ => ?_)
  refine wpAny_Slice (thn (hl pins s1 σ H1 _ I1 q1) fun vl s2 ⟨l, H2, I2, pl, q2⟩ => thn (hu pins s2 σ H2 _ I2 q2) fun vu s3 ⟨u, H3, I3, pu, q3⟩ => ?_)
  rw [evalPart_none]
  refine wpAny_pure ?_
  have I4 : Inv X pins σ H3 { s3 with heap := s3.heap.push { cls := .type "slice", data := .fields #[vl, vu, .none] } } := I3.kept (t' := s3.toks) fun b ob q => Heap.get?_push_of_some _ q
  obtain ⟨T, id, hT, ht, hg⟩ := hr pins { s3 with heap := s3.heap.push { cls := .type "slice", data := .fields #[vl, vu, .none] } } σ H3 x v vl vu l u s3.heap.objs.size Q I4 r1 (Heap.IsSliceOf.new ..) pl pu q3
  show wpAny (model X.prog X.w) X.A (subscriptTail e (.Slice lo hi none p2) v (.ref s3.heap.objs.size)) (EP X pins σ Q) X.xe { s3 with heap := s3.heap.push { cls := .type "slice", data := .fields #[vl, vu, .none] } }
  exact tail_any (ops := [.ref s3.heap.objs.size, v]) ht hT hg (by with_unfolding_all rfl)
def cutV (xs : List V) (lo hi : Option Int) : List V := (xs.drop (HT.sIx xs.length 0 lo)).take (HT.sIx xs.length xs.length hi - HT.sIx xs.length 0 lo)
theorem cutV_length (xs : List V) (lo hi : Option Int) : (cutV xs lo hi).length ≤ xs.length := by
  unfold cutV
  rw [List.length_take, List.length_drop]
  omega
def rSlT (K : PySem.W.Frag) : V → Option Int → Option Int → Hp → VK → Prop := fun x lo hi H Q => ∃ a xs, x = .ref a ∧ SqT K H a xs ∧
  ¬ (HT.sIx xs.length 0 lo = 0 ∧ HT.sIx xs.length xs.length hi = xs.length) ∧ ∀ p, H p = none → Q (.ref p) (upd H p (.tup (cutV xs lo hi)))
theorem sl_tup : SlR X (rSlT X.K) := by
  intro pins s σ H x v vl vu lo hi sl Q I rx hs pl pu h
  obtain ⟨a, xs, rfl, hx, hw, q⟩ := h
  cases rx
  obtain ⟨its, r, ht, hz⟩ := I.tuple hx
  have hlen : its.toArray.size = xs.length := by rw [List.size_toArray]; exact r.length.symm
  refine ⟨"tuple", _, PyProof.Rows.slot_tuple_getitem.lookup, ht.typeIs, ?_⟩
  refine HT.getItem_tuple_cut ht hs pl pu (by rw [hlen]; exact hw) ?_ (by rw [hlen]; exact hz)
  rw [hlen]
  refine ⟨.ref s.heap.objs.size, _, I.laid (t' := s.toks) (o := .tup (cutV xs lo hi)) (fun b ob q => Heap.get?_push_of_some _ q) (Nat.le_refl _) ?_, rfl, q _ (I.hok.fresh (Nat.le_refl _))⟩
  exact ⟨Nat.le_trans (cutV_length xs lo hi) hz, _, (r.drop (HT.sIx xs.length 0 lo)).take (HT.sIx xs.length xs.length hi - HT.sIx xs.length 0 lo), IsTup.new _ _⟩
def rCatT (K : PySem.W.Frag) : R2 := fun x y H Q => ∃ a b xs ys, x = .ref a ∧ y = .ref b ∧ SqT K H a xs ∧ SqT K H b ys ∧ xs ≠ [] ∧ xs.length + ys.length ≤ sizeLine ∧
  (ys = [] → Q (.ref a) H) ∧ (ys ≠ [] → ∀ p, H p = none → Q (.ref p) (upd H p (.tup (xs ++ ys))))
theorem Vals.nil_iff {xs : List V} {us : List Value} (r : Vals xs us) : us = [] ↔ xs = [] := by
  cases r with
  | nil => simp
  | cons _ _ => simp
theorem op_catT : OpR X (binaryOp .Add) (rCatT X.K) := by
  intro pins s σ H x y v u Q I rx ry h
  obtain ⟨a, b, xs, ys, rfl, rfl, ha, hb, hx, hz, q1, q2⟩ := h
  cases rx
  cases ry
  obtain ⟨its, r1, p1, _⟩ := I.tuple ha
  obtain ⟨its2, r2, p2, _⟩ := I.tuple hb
  refine HT.cat_tup p1 p2 (fun z => hx (r1.nil_iff.mp z)) (fun z => ⟨.ref a, H, I, rfl, q1 (r2.nil_iff.mp z)⟩) (fun z => ?_) (by rw [← r1.length, ← r2.length]; exact hz)
  refine ⟨.ref s.heap.objs.size, _, I.laid (t' := s.toks) (o := .tup (xs ++ ys)) (fun b ob q => Heap.get?_push_of_some _ q) (Nat.le_refl _) ?_, rfl, q2 (fun w => z (r2.nil_iff.mpr w)) _ (I.hok.fresh (Nat.le_refl _))⟩
  exact ⟨by rw [List.length_append]; exact hz, _, r1.append r2, IsTup.new _ _⟩
end
end L2
namespace L2
open PySem PySem.Spec PyProof.Rows
def ixN (n : Nat) (i : Int) : Option Nat := if 0 ≤ i then (if i < n then some i.toNat else none) else if -(n : Int) ≤ i then some (i + n).toNat else none
def atI {α : Type} (xs : List α) (i : Int) : Option α := (ixN xs.length i).bind fun j => xs[j]?
theorem ixN_seq {n : Nat} {i : Int} {j : Nat} (h : ixN n i = some j) : seqIndex? i n = some j ∧ j < n ∧ -(n : Int) ≤ i ∧ i < n := by
  unfold ixN at h
  by_cases h0 : 0 ≤ i
  · rw [if_pos h0] at h
    by_cases h1 : i < n
    · rw [if_pos h1] at h
      have e : i.toNat = j := Option.some.inj h
      exact ⟨by rw [seqIndex_of h0 h1, e], by omega, by omega, h1⟩
    · rw [if_neg h1] at h; cases h
  · rw [if_neg h0] at h
    by_cases h1 : -(n : Int) ≤ i
    · rw [if_pos h1] at h
      have e : (i + n).toNat = j := Option.some.inj h
      exact ⟨by rw [seqIndex_neg (by omega) h1, e], by omega, h1, by omega⟩
    · rw [if_neg h1] at h; cases h
theorem atI_get {α : Type} {xs : List α} {i : Int} {v : α} (h : atI xs i = some v) : ∃ j, seqIndex? i xs.length = some j ∧ xs[j]? = some v ∧ j < xs.length ∧ -(xs.length : Int) ≤ i ∧ i < xs.length := by
  unfold atI at h
  cases e : ixN xs.length i with
  | none => rw [e] at h; cases h
  | some j =>
    rw [e] at h
    obtain ⟨h1, h2, h3, h4⟩ := ixN_seq e
    exact ⟨j, h1, h, h2, h3, h4⟩
theorem atI_nat {α : Type} {xs : List α} {j : Nat} {v : α} (h : xs[j]? = some v) : atI xs (j : Int) = some v := by
  have hj : j < xs.length := (List.getElem?_eq_some_iff.mp h).1
  have e : ixN xs.length (j : Int) = some j := by
    unfold ixN
    rw [if_pos (by omega), if_pos (by omega)]; simp
  unfold atI; rw [e]; exact h
def PlainIx (b : Expr) : Prop := ∀ o i, subscripted b false o i = operate [o, i] (getItem o i)
def IxR (X : Cx) (r : R2) : Prop :=
  ∀ (value slice : Expr) (pins : List (Addr × Obj)) (s : Shared) (σ : St) (H : Hp) (x y : V) (v u : Value) (Q : VK), Inv X pins σ H s → RelV x v → RelV y u → r x y H Q →
    subscripted slice false v u = operate [v, u] (getItem v u) → wpAny (model X.prog X.w) X.A (subscriptTail value slice v u) (EP X pins σ Q) X.xe s
def MtR (X : Cx) (id : String) (r : V → List V → Hp → VK → Prop) : Prop :=
  ∀ (pins : List (Addr × Obj)) (s : Shared) (σ : St) (H : Hp) (x : V) (xs : List V) (v : Value) (us : List Value) (Q : VK), Inv X pins σ H s → RelV x v → Vals xs us → r x xs H Q →
    wpAny (model X.prog X.w) X.A (call (.builtin id) (v :: us)) (EP X pins σ Q) X.xe s
section
variable {X : Cx} {a b : Expr} {ta tb : TE} {pos : Pos}
theorem pe_ix {r : R2} (hr : IxR X r) (ha : PE X a ta) (hb : PE X b tb) (hs : PlainIx b) : PE X (.Subscript a b pos) (tOp r ta tb) := by
  intro pins s σ H Q I h
  exact Subscript_ (binT ha hb I h fun v u s2 x y H2 I2 rx ry q => hr a b pins s2 σ H2 x y v u Q I2 rx ry q (hs _ _))
def rIxL (K : PySem.W.Frag) : R2 := fun x y H Q => ∃ p xs i v, x = .ref p ∧ y = .int i ∧ SqL K H p xs ∧ atI xs i = some v ∧ Q v H
def rIxT (K : PySem.W.Frag) : R2 := fun x y H Q => ∃ p xs i v, x = .ref p ∧ y = .int i ∧ SqT K H p xs ∧ atI xs i = some v ∧ Q v H
def rIxS : R2 := fun x y H Q => ∃ z i c, x = .str z ∧ y = .int i ∧ z.length ≤ sizeLine ∧ atI z.cps.toList i = some c ∧ Q (.str ⟨#[c]⟩) H
theorem ix_list : IxR X (rIxL X.K) := by
  intro value slice pins s σ H x y v u Q I rx ry h hs
  obtain ⟨p, xs, i, z, rfl, rfl, hq, he, q⟩ := h
  cases rx
  obtain ⟨t, rfl⟩ := ry
  obtain ⟨its, r, pl, hz⟩ := I.list hq
  obtain ⟨j, h1, h2, h3, h4, h5⟩ := atI_get he
  obtain ⟨w, ew, rw'⟩ := r.get h2
  have hl := r.length
  have hn := line63
  have fin : EP X pins σ Q w s := ⟨z, H, I, rw', q⟩
  by_cases h0 : 0 ≤ i
  · have hj : i.toNat = j := by
      rw [seqIndex_of h0 h5] at h1
      exact Option.some.inj h1
    exact item_listR pl.isList h0 (by omega) (by rw [hj]; simpa using ew) fin hs
  · have hj : (i + (its.toArray.size : Int)).toNat = j := by
      rw [seqIndex_neg (by omega) h4] at h1
      rw [List.size_toArray, ← hl]
      exact Option.some.inj h1
    exact subscriptTail_builtinR (x := w) pl.isList.typeIs slot_list_getitem.lookup
      (wpAny_getItem_list_neg (Q := fun r s' => r = w ∧ EP X pins σ Q r s') pl.isList (by omega) (by rw [List.size_toArray] <;> omega) (by omega) (by rw [hj]; simpa using ew) ⟨rfl, fin⟩) hs
theorem ix_tup : IxR X (rIxT X.K) := by
  intro value slice pins s σ H x y v u Q I rx ry h hs
  obtain ⟨p, xs, i, z, rfl, rfl, hq, he, q⟩ := h
  cases rx
  obtain ⟨t, rfl⟩ := ry
  obtain ⟨its, r, pl, hz⟩ := I.tuple hq
  obtain ⟨j, h1, h2, h3, h4, h5⟩ := atI_get he
  obtain ⟨w, ew, rw'⟩ := r.get h2
  have hl := r.length
  have hn := line63
  have fin : EP X pins σ Q w s := ⟨z, H, I, rw', q⟩
  exact subscriptTail_builtinR (x := w) pl.typeIs slot_tuple_getitem.lookup
    (getItem_tuple (j := j) (Q := fun r s' => r = w ∧ EP X pins σ Q r s') pl (by omega) (by omega) (by rw [List.size_toArray, ← hl]; exact h1) (by simpa using ew) ⟨rfl, fin⟩) hs
theorem ix_str : IxR X rIxS := by
  intro value slice pins s σ H x y v u Q I rx ry h hs
  obtain ⟨z, i, c, rfl, rfl, hz, he, q⟩ := h
  obtain ⟨t, rfl⟩ := rx
  obtain ⟨t', rfl⟩ := ry
  obtain ⟨j, h1, h2, h3, h4, h5⟩ := atI_get he
  have hl : z.cps.toList.length = z.length := by simp [Str.length]
  rw [hl] at h1 h4 h5
  have hn := line63
  exact tail_any (typeIs_str s z t) slot_str_getitem.lookup (getItem_str (c := c) (by
    have e1 : decide (i < -(2 ^ 63 : Int)) = false := decide_eq_false (by omega)
    have e2 : decide (i ≥ 2 ^ 63) = false := decide_eq_false (by omega)
    rw [e1, e2, Bool.or_false]) (by rw [h1]; simpa using h2) ⟨.str ⟨#[c]⟩, H, I.tok _, ⟨_, rfl⟩, q⟩) hs
theorem mapSeq_set (its : List Value) (n j : Nat) (u : Value) : Obj.mapSeq (·.setIfInBounds j u) { cls := .type "list", data := .seq its.toArray n } = { cls := .type "list", data := .seq (its.set j u).toArray n } := by
  simp [Obj.mapSeq]
theorem Inv.lst {pins : List (Addr × Obj)} {σ : St} {H : Hp} {s : Shared} {p : Addr} {xs : List V} (I : Inv X pins σ H s) (h : H p = some (.lst xs)) :
    ∃ (its : List Value) (n : Nat), Vals xs its ∧ s.heap.get? p = some { cls := .type "list", data := .seq its.toArray n } ∧ xs.length ≤ sizeLine := by
  obtain ⟨z, its, n, r, e⟩ := I.hok p _ h
  exact ⟨its, n, r, e, z⟩
theorem Inv.lstUpd {pins : List (Addr × Obj)} {σ : St} {H : Hp} {s : Shared} {p : Addr} {xs ys : List V} {its its' : List Value} {n n' : Nat} {f : Obj → Obj} (I : Inv X pins σ H s) (h : H p = some (.lst xs))
    (ho : s.heap.get? p = some { cls := .type "list", data := .seq its.toArray n }) (hf : f { cls := .type "list", data := .seq its.toArray n } = { cls := .type "list", data := .seq its'.toArray n' }) (r : Vals ys its') (hz : ys.length ≤ sizeLine) (t : Nat) :
    Inv X pins σ (upd H p (.lst ys)) { s with heap := s.heap.update p f, toks := t } := by
  have e : (s.heap.update p f).get? p = some { cls := .type "list", data := .seq its'.toArray n' } := by
    rw [Heap.get?_update_self f ho (by rw [hf] <;> rfl), hf]
  refine I.write (x := p) (e := p) (by rw [h]; trivial) (.inl rfl) (fun b u hb q => (Heap.get?_update_other _ _ (Ne.symm hb)).trans q) ⟨_, e⟩ ?_
  exact ⟨hz, its', n', r, e⟩
def rSetL : V → V → V → Hp → (Hp → Prop) → Prop := fun o i v H Q => ∃ p xs k j, o = .ref p ∧ i = .int k ∧ H p = some (.lst xs) ∧ ixN xs.length k = some j ∧ Q (upd H p (.lst (xs.set j v)))
theorem set_list : PSet X rSetL := by
  intro pins s σ H o i v ov iv u Q I ro ri rv h
  obtain ⟨p, xs, k, j, rfl, rfl, hp, hj, q⟩ := h
  cases ro
  obtain ⟨t, rfl⟩ := ri
  obtain ⟨its, n, r, ho, hz⟩ := I.lst hp
  obtain ⟨h1, h2, h3, h4⟩ := ixN_seq hj
  have hl := r.length
  have hn := line63
  have I' : Inv X pins σ (upd H p (.lst (xs.set j v))) { s with heap := s.heap.update p (Obj.mapSeq (·.setIfInBounds j u)) } :=
    I.lstUpd hp ho (mapSeq_set its n j u) (r.set rv j) (by rw [List.length_set]; exact hz) s.toks
  by_cases h0 : 0 ≤ k
  · have hk : k.toNat = j := by
      rw [seqIndex_of h0 h4] at h1
      exact Option.some.inj h1
    exact PySem.W.ki_setAt ho h0 (by omega) (by rw [List.size_toArray, ← hl]; exact h4) (by rw [hk]; exact ⟨_, I', q⟩)
  · have hk : (k + (its.toArray.size : Int)).toNat = j := by
      rw [seqIndex_neg (by omega) h3] at h1
      rw [List.size_toArray, ← hl]
      exact Option.some.inj h1
    exact PySem.W.ki_setBack ho (by omega) (by rw [List.size_toArray, ← hl]; exact h3) (by omega) (by rw [hk]; exact ⟨_, I', q⟩)
theorem slice_bounds (lo hi : Option Int) (n : Nat) : (sliceBounds lo hi none n).1 = ((HT.sIx n 0 lo : Nat) : Int) ∧ (sliceBounds lo hi none n).2.1 = ((HT.sIx n n hi : Nat) : Int) ∧ (sliceBounds lo hi none n).2.2 = 1 := by
  refine ⟨?_, ?_, rfl⟩
  · cases lo with
    | none => simp [sliceBounds, HT.sIx]
    | some i =>
      simp only [sliceBounds, HT.sIx, Option.getD_none, show (1 : Int) > 0 by decide, if_true]
      by_cases h : i < 0
      · simp only [h, if_true] <;> omega
      · simp only [h, if_false] <;> omega
  · cases hi with
    | none => simp [sliceBounds, HT.sIx]
    | some i =>
      simp only [sliceBounds, HT.sIx, Option.getD_none, show (1 : Int) > 0 by decide, if_true]
      by_cases h : i < 0
      · simp only [h, if_true] <;> omega
      · simp only [h, if_false] <;> omega
theorem slicePick_cut (its : List Value) (lo hi : Option Int) : slicePick its.toArray lo hi none = ((its.drop (HT.sIx its.length 0 lo)).take (HT.sIx its.length its.length hi - HT.sIx its.length 0 lo)).toArray := by
  obtain ⟨h1, h2, h3⟩ := slice_bounds lo hi its.toArray.size
  unfold slicePick
  rw [h1, h2, h3]
  simp only [sliceRange_one, pick_run, List.size_toArray] <;> rfl
def rSlL (K : PySem.W.Frag) : V → Option Int → Option Int → Hp → VK → Prop := fun x lo hi H Q => ∃ a xs, x = .ref a ∧ SqL K H a xs ∧ ∀ p, H p = none → Q (.ref p) (upd H p (.lst (cutV xs lo hi)))
theorem sl_list : SlR X (rSlL X.K) := by
  intro pins s σ H x v vl vu lo hi sl Q I rx hs pl pu h
  obtain ⟨a, xs, rfl, hx, q⟩ := h
  cases rx
  obtain ⟨its, r, ht, hz⟩ := I.list hx
  have hlen := r.length
  refine ⟨"list", _, slot_list_getitem.lookup, ht.isList.typeIs, ?_⟩
  refine wpAny_getItem_list_slice ht.isList hs pl pu .none (by simp) ?_ (by rw [List.size_toArray] <;> omega)
  rw [slicePick_cut, ← hlen]
  refine ⟨.ref s.heap.objs.size, _, I.laid (t' := s.toks) (o := .lst (cutV xs lo hi)) (fun b ob q => Heap.get?_push_of_some _ q) (Nat.le_refl _) ?_, rfl, q _ (I.hok.fresh (Nat.le_refl _))⟩
  exact ⟨Nat.le_trans (cutV_length xs lo hi) hz, _, 0, (r.drop (HT.sIx xs.length 0 lo)).take (HT.sIx xs.length xs.length hi - HT.sIx xs.length 0 lo), Heap.get?_push_size _ rfl⟩
def flatV : V → Bool
  | .non => true
  | .bl _ => true
  | .int _ => true
  | .str _ => true
  | _ => false
def eqV : V → V → Bool
  | .non, .non => true
  | .bl a, .bl b => a == b
  | .bl a, .int b => (if a then 1 else 0) == b
  | .int a, .bl b => a == (if b then 1 else 0)
  | .int a, .int b => a == b
  | .str a, .str b => a == b
  | _, _ => false
theorem eqAt_V {A : Around} {s : Shared} {y x : V} {u v : Value} (ry : RelV y u) (rx : RelV x v) (fy : flatV y = true) (fx : flatV x = true) : SeqAt.EqAt A s u v (eqV y x) := by
  cases y with
  | non =>
    cases ry
    cases x with
    | non => cases rx; exact SeqAt.EqAt.same _
    | bl b => cases rx; exact SeqAt.EqAt.none_bool b
    | int b => obtain ⟨t, rfl⟩ := rx; exact SeqAt.EqAt.none_int b t
    | str b => obtain ⟨t, rfl⟩ := rx; exact SeqAt.EqAt.none_str b t
    | _ => exact absurd (show false = true from fx) Bool.false_ne_true
  | bl a =>
    cases ry
    cases x with
    | non => cases rx; exact SeqAt.EqAt.bool_none a
    | bl b => cases rx; exact SeqAt.EqAt.bool_bool a b
    | int b => obtain ⟨t, rfl⟩ := rx; exact SeqAt.EqAt.bool_int a b t
    | str b => obtain ⟨t, rfl⟩ := rx; exact SeqAt.EqAt.bool_str a b t
    | _ => exact absurd (show false = true from fx) Bool.false_ne_true
  | int a =>
    obtain ⟨t', rfl⟩ := ry
    cases x with
    | non => cases rx; exact SeqAt.EqAt.int_none a t'
    | bl b => cases rx; exact SeqAt.EqAt.int_bool a t' b
    | int b => obtain ⟨t, rfl⟩ := rx; exact SeqAt.EqAt.int_int a t' b t
    | str b => obtain ⟨t, rfl⟩ := rx; exact SeqAt.EqAt.int_str a t' b t
    | _ => exact absurd (show false = true from fx) Bool.false_ne_true
  | str a =>
    obtain ⟨t', rfl⟩ := ry
    cases x with
    | non => cases rx; exact SeqAt.EqAt.str_none a t'
    | bl b => cases rx; exact SeqAt.EqAt.str_bool a t' b
    | int b => obtain ⟨t, rfl⟩ := rx; exact SeqAt.EqAt.str_int a t' b t
    | str b => obtain ⟨t, rfl⟩ := rx; exact SeqAt.EqAt.str_str a t' b t
    | _ => exact absurd (show false = true from fx) Bool.false_ne_true
  | _ => exact absurd (show false = true from fy) Bool.false_ne_true
def eqU (x : V) (u : Value) : Bool := match u with
  | .none => eqV .non x
  | .bool b => eqV (.bl b) x
  | .int i _ => eqV (.int i) x
  | .str z _ => eqV (.str z) x
  | _ => false
theorem eqU_of {x y : V} {u : Value} (r : RelV y u) (f : flatV y = true) : eqU x u = eqV y x := by
  cases y with
  | non => cases r; rfl
  | bl b => cases r; rfl
  | int i => obtain ⟨t, rfl⟩ := r; rfl
  | str z => obtain ⟨t, rfl⟩ := r; rfl
  | _ => exact absurd (show false = true from f) Bool.false_ne_true
theorem any_eqU {x : V} : ∀ {xs : List V} {us : List Value}, Vals xs us → xs.all flatV = true → us.any (eqU x) = xs.any fun y => eqV y x
  | _, _, .nil, _ => rfl
  | y :: xs, u :: us, .cons r t, f => by
    rw [List.all_cons, Bool.and_eq_true] at f
    rw [List.any_cons, List.any_cons, eqU_of r f.1, any_eqU t f.2]
theorem mem_eqAt {A : Around} {s : Shared} {x : V} {v : Value} (rx : RelV x v) (fx : flatV x = true) : ∀ {xs : List V} {us : List Value}, Vals xs us → xs.all flatV = true → ∀ u ∈ us, SeqAt.EqAt A s u v (eqU x u)
  | _, _, .nil, _ => fun u hu => by cases hu
  | y :: xs, u :: us, .cons r t, f => fun u' hu => by
    rw [List.all_cons, Bool.and_eq_true] at f
    rcases List.mem_cons.mp hu with rfl | hu
    · rw [eqU_of r f.1]; exact eqAt_V r rx f.1 fx
    · exact mem_eqAt rx fx t f.2 u' hu
def inV (x : V) (xs : List V) : Bool := xs.any fun y => eqV y x
def rIn (K : PySem.W.Frag) (neg : Bool) : R2 := fun x y H Q => ∃ p xs, y = .ref p ∧ (SqL K H p xs ∨ SqT K H p xs) ∧ flatV x = true ∧ xs.all flatV = true ∧ Q (.bl (if neg then !inV x xs else inV x xs)) H
theorem op_in_seq : OpR X (compareOp .In) (rIn X.K false) := by
  intro pins s σ H x y v u Q I rx ry h
  obtain ⟨p, xs, rfl, hq, fx, fs, q⟩ := h
  cases ry
  rcases hq with hq | hq
  · obtain ⟨its, r, pl, hz⟩ := I.list hq
    refine SeqAt.in_listAt (eqU x) pl.isList (fun w hw => mem_eqAt rx fx r fs w (by simpa using hw)) ⟨.bl _, H, I, rfl, ?_⟩
    rw [show its.toArray.any (eqU x) = its.any (eqU x) by simp, any_eqU r fs]
    exact q
  · obtain ⟨its, r, pl, hz⟩ := I.tuple hq
    refine SeqAt.in_tupleAt (eqU x) pl (fun w hw => mem_eqAt rx fx r fs w (by simpa using hw)) ⟨.bl _, H, I, rfl, ?_⟩
    rw [show its.toArray.any (eqU x) = its.any (eqU x) by simp, any_eqU r fs]
    exact q
theorem call_len_seq : CallR X (.builtin "len") (fun xs H Q => ∃ p ys, xs = [.ref p] ∧ (SqL X.K H p ys ∨ SqT X.K H p ys) ∧ Q (.int ys.length) H) := by
  intro pins s σ H xs us Q I r h
  obtain ⟨p, ys, rfl, hq, q⟩ := h
  obtain ⟨u, rfl, rx⟩ := vals1 r
  cases rx
  have hn := line63
  rcases hq with hq | hq
  · obtain ⟨its, r', pl, hz⟩ := I.list hq
    have hlen := r'.length
    exact Calls.call_len_list pl.isList (by simp only [List.size_toArray] <;> omega) ⟨.int ys.length, H, I.tok _, ⟨s.toks + 1, by rw [List.size_toArray, hlen]⟩, q⟩
  · obtain ⟨its, r', pl, hz⟩ := I.tuple hq
    have hlen := r'.length
    exact len_tuple pl (by simp only [List.size_toArray] <;> omega) ⟨.int ys.length, H, I.tok _, ⟨s.toks + 1, by rw [List.size_toArray, hlen]⟩, q⟩
theorem call_len_str : CallR X (.builtin "len") (fun xs H Q => ∃ z, xs = [.str z] ∧ z.length ≤ sizeLine ∧ Q (.int z.length) H) := by
  intro pins s σ H xs us Q I r h
  obtain ⟨z, rfl, hz, q⟩ := h
  obtain ⟨u, rfl, t, rfl⟩ := vals1 r
  have hn := line63
  exact len_str (by omega) ⟨.int z.length, H, I.tok _, ⟨_, rfl⟩, q⟩
theorem call_list_of : CallR X (.type "list") (fun xs H Q => ∃ p ys, xs = [.ref p] ∧ (SqL X.K H p ys ∨ SqT X.K H p ys) ∧ ∀ l, H l = none → Q (.ref l) (upd H l (.lst ys))) := by
  intro pins s σ H xs us Q I r h
  obtain ⟨p, ys, rfl, hq, q⟩ := h
  obtain ⟨u, rfl, rx⟩ := vals1 r
  cases rx
  have fin : ∀ (its : List Value), Vals ys its → ys.length ≤ sizeLine → ∀ (h' : Heap) (c' : Nat), (∀ b o', s.heap.get? b = some o' → h'.get? b = some o') →
      h'.get? s.heap.objs.size = some { cls := .type "list", dict := none, data := .seq its.toArray c', slots := #[] } → EP X pins σ Q (.ref s.heap.objs.size) { s with heap := h' } := fun its r' hz h' c' kp e =>
    ⟨.ref s.heap.objs.size, _, I.laid (t' := s.toks) kp (Nat.le_refl _) (show ObjOk X.prog X.w _ h' _ (.lst ys) from ⟨hz, its, c', r', e⟩), rfl, q _ (I.hok.fresh (Nat.le_refl _))⟩
  rcases hq with hq | hq
  · obtain ⟨its, r', pl, hz⟩ := I.list hq
    have hlen := r'.length
    obtain ⟨o, ho, hc, n, hd⟩ := pl.isList
    exact call_list_seq p (.inl rfl) ho hc hd (fun h' c' kp e => fin its r' hz h' c' kp e) (by simp only [List.size_toArray] <;> omega)
  · obtain ⟨its, r', pl, hz⟩ := I.tuple hq
    have hlen := r'.length
    obtain ⟨o, ho, hc, n, hd⟩ := pl
    exact call_list_seq p (.inr rfl) ho hc hd (fun h' c' kp e => fin its r' hz h' c' kp e) (by simp only [List.size_toArray] <;> omega)
theorem call_tuple_of : CallR X (.type "tuple") (fun xs H Q => ∃ p ys, xs = [.ref p] ∧ ((SqL X.K H p ys ∧ ∀ l, H l = none → Q (.ref l) (upd H l (.tup ys))) ∨ (SqT X.K H p ys ∧ Q (.ref p) H))) := by
  intro pins s σ H xs us Q I r h
  obtain ⟨p, ys, rfl, h⟩ := h
  obtain ⟨u, rfl, rx⟩ := vals1 r
  cases rx
  rcases h with ⟨hq, q⟩ | ⟨hq, q⟩
  · obtain ⟨its, r', pl, hz⟩ := I.list hq
    have hlen := r'.length
    refine call_tuple_list pl.isList (fun h' kp => ?_) (by simp only [List.size_toArray] <;> omega)
    have I1 : Inv X pins σ H { s with heap := h' } := I.kept (t' := s.toks) kp
    have I2 : Inv X pins σ (upd H h'.objs.size (.tup ys)) { s with heap := h'.push { cls := .type "tuple", data := .seq its.toArray } } :=
      I1.laid (t' := s.toks) (fun b o e => Heap.get?_push_of_some _ e) (Nat.le_refl _) (show ObjOk X.prog X.w _ _ _ (.tup ys) from ⟨hz, its, r', IsTup.new _ _⟩)
    exact ⟨.ref h'.objs.size, _, I2, rfl, q _ (I1.hok.fresh (Nat.le_refl _))⟩
  · obtain ⟨its, r', pl, hz⟩ := I.tuple hq
    exact call_tuple_same pl ⟨.ref p, H, I, rfl, q⟩
def tyV (K : PySem.W.Frag) (T : String) (x : V) (H : Hp) : Prop := match x with
  | .str _ => T = "str"
  | .int _ => T = "int"
  | .ref p => (T = "list" ∧ ∃ xs, SqL K H p xs) ∨ (T = "tuple" ∧ ∃ o, K.lookup p = some o ∧ o.cls = .type "tuple" ∧ o.dict = none) ∨
      (T = "dict" ∧ ((∃ kvs, H p = some (.dK kvs)) ∨ ∃ kvs, H p = some (.dT kvs))) ∨ (T = "set" ∧ ∃ S n, H p = some (.set S n))
  | _ => False
theorem tyV_is {pins : List (Addr × Obj)} {σ : St} {H : Hp} {s : Shared} {T : String} {x : V} {v : Value} (I : Inv X pins σ H s) (r : RelV x v) (ty : tyV X.K T x H) :
    s.TypeIs v T ∧ ∀ a, v = .ref a → ∃ ob, s.heap.get? a = some ob ∧ ob.dict = none := by
  cases x with
  | str z =>
    obtain ⟨t, rfl⟩ := r
    cases (show T = "str" from ty)
    exact ⟨typeIs_str s z t, fun _ e => nomatch e⟩
  | int i =>
    obtain ⟨t, rfl⟩ := r
    cases (show T = "int" from ty)
    exact ⟨typeIs_int s i t, fun _ e => nomatch e⟩
  | ref p =>
    cases r
    rcases ty with ⟨rfl, xs, hq⟩ | ⟨rfl, o, hk, hc, hd⟩ | ⟨rfl, hk⟩ | ⟨rfl, S, n, hk⟩
    · obtain ⟨its, _, pl, _⟩ := I.list hq
      refine ⟨pl.isList.typeIs, fun a e => ?_⟩
      cases e
      obtain ⟨o, n, e, c, hd, _⟩ := pl
      exact ⟨o, e, hd⟩
    · refine ⟨⟨o, I.kIn p o hk, hc⟩, fun a e => ?_⟩
      cases e
      exact ⟨o, I.kIn _ o hk, hd⟩
    · have z : ∃ o, s.heap.get? p = some o ∧ o.ExactDict := by
        rcases hk with ⟨kvs, hk⟩ | ⟨kvs, hk⟩
        · obtain ⟨_, _, _, _, o, _, _, e, ex, _⟩ := I.hok p _ hk
          exact ⟨o, e, ex⟩
        · obtain ⟨_, _, _, _, o, _, _, e, ex, _⟩ := I.hok p _ hk
          exact ⟨o, e, ex⟩
      obtain ⟨o, e, ex⟩ := z
      refine ⟨⟨o, e, ex.1⟩, fun a e2 => ?_⟩
      cases e2
      exact ⟨o, e, ex.2.1⟩
    · obtain ⟨o, _, _, _, e, ex, _⟩ := I.hok p _ hk
      refine ⟨⟨o, e, ex.1⟩, fun a e2 => ?_⟩
      cases e2
      exact ⟨o, e, ex.2.1⟩
  | _ => exact False.elim ty
def tBM (K : PySem.W.Frag) (T : String) (r : V → List V → Hp → VK → Prop) (to : TE) (t : TA) : TE := fun σ H Q => to σ H fun x H1 => tyV K T x H1 ∧ t σ H1 fun xs H2 => r x xs H2 Q
variable {o e : Expr} {es : List Expr} {to : TE} {t : TA} {name : Str} {apos cpos : Pos} {T id : String} {r : V → List V → Hp → VK → Prop}
theorem pe_bm (pa : PlainAttrs T) (slot : Slot T name id) (hty : typeOf (.builtin id) = pure (.type "method_descriptor")) (hm : MtR X id r) (ho : PE X o to) (ha : PA X (e :: es) t)
    (hbase : attributeBase o name X.env (eval o X.env) = eval o X.env := by rfl)
    (hfew : ((backTo cpos (starEach (e :: es) X.env)).all (fun x => !x.1) && (backToKw cpos (keywordEach [] X.env)).all (fun x => x.1.isSome)
      && decide ((e :: es).length + ([] : List Keyword).length + (if ([] : List Keyword).isEmpty then 0 else 1) < 30)) = true := by rfl)
    (hline : (apos.endLine == cpos.line) = true := by rfl) (hs : starEach (e :: es) X.env = (false, eval e X.env) :: starEach es X.env := by rfl) (hplain : (backTo cpos (starEach es X.env)).any (·.1) = false := by rfl) :
    PE X (.Call (.Attribute o name apos) (e :: es) [] cpos) (tBM X.K T r to t) := by
  intro pins s σ H Q I h
  refine wpAny_Call_method_late hbase hfew hline rfl (thn (ho pins s σ H _ I h) fun v s1 ⟨x, H1, I1, r1, ty, q1⟩ => ?_)
  obtain ⟨h1, h2⟩ := tyV_is I1 r1 ty
  refine ⟨T, id, pa, slot, hty, h1, h2, ?_⟩
  have hA := ha cpos pins s1 σ H1 _ I1 q1
  rw [hs] at hA ⊢
  refine Calls.callWith_builtin (by show (false || (backTo cpos (starEach es X.env)).any (·.1)) = false; rw [hplain] <;> rfl) (Calls.evalArgs_plain ?_)
  exact thn hA fun us s2 ⟨vs, H2, I2, r2, q2⟩ => hm pins s2 σ H2 x vs v us Q I2 r1 r2 q2
end
end L2
namespace L2
open PySem PySem.Spec PyProof.Rows
def MtM (X : Cx) (id : String) (r : V → List V → Hp → VK → Prop) : Prop :=
  ∀ (pins : List (Addr × Obj)) (s : Shared) (σ : St) (H : Hp) (x : V) (xs : List V) (v : Value) (us : List Value) (Q : VK), Inv X pins σ H s → RelV x v → Vals xs us → r x xs H Q →
    wpAny (model X.prog X.w) X.A (call (.builtin id) (v :: us)) (EP X pins σ Q) X.xe s
theorem Vals.one : ∀ {x : V} {us : List Value}, Vals [x] us → ∃ u, us = [u] ∧ RelV x u
  | _, _, .cons r .nil => ⟨_, rfl, r⟩
section
variable {X : Cx} {pins : List (Addr × Obj)} {σ : St} {H : Hp} {s : Shared} {l b : Addr} {xs ys zs : List V}
theorem Inv.lset {its its' : List Value} {n : Nat} {f : Array Value → Array Value} {t' : Nat} (I : Inv X pins σ H s) (hH : H l = some (.lst xs))
    (e : s.heap.get? l = some { cls := .type "list", data := .seq its.toArray n }) (hf : f its.toArray = its'.toArray) (hv : Vals ys its') (hz : ys.length ≤ sizeLine) :
    Inv X pins σ (upd H l (.lst ys)) { s with heap := s.heap.update l (Obj.mapSeq f), toks := t' } := by
  have q := PySem.IsL.update e f
  rw [hf] at q
  refine I.write (x := l) (e := l) (by rw [hH]; exact trivial) (.inl rfl) (fun b' u hb hu => (Heap.get?_update_other s.heap (Obj.mapSeq f) (Ne.symm hb)).trans hu) ⟨_, q⟩ ?_
  exact ⟨hz, its', _, hv, q⟩
theorem Inv.lnew {its : List Value} {t' : Nat} (I : Inv X pins σ H s) (hv : Vals ys its) (hz : ys.length ≤ sizeLine) :
    Inv X pins σ (upd H s.heap.objs.size (.lst ys)) { s with heap := s.heap.push { cls := .type "list", data := .seq its.toArray }, toks := t' } :=
  I.laid (fun _ _ q => Heap.get?_push_of_some _ q) (Nat.le_refl _) ⟨hz, its, 0, hv, Heap.get?_push_size _ rfl⟩
theorem Inv.fresh (I : Inv X pins σ H s) : H s.heap.objs.size = none := I.hok.fresh (Nat.le_refl _)
theorem Inv.lstM (I : Inv X pins σ H s) (hH : H l = some (.lst xs)) : xs.length ≤ sizeLine ∧ ∃ (its : List Value) (n : Nat), Vals xs its ∧ xs.length = its.length ∧ s.heap.get? l = some { cls := .type "list", data := .seq its.toArray n } := by
  obtain ⟨z, its, n, r, e⟩ := I.hok l _ hH
  exact ⟨z, its, n, r, r.length, e⟩
end
section
variable {X : Cx}
def rAppend : V → List V → Hp → VK → Prop := fun x vs H Q => ∃ l xs y, x = .ref l ∧ vs = [y] ∧ H l = some (.lst xs) ∧ xs.length < sizeLine ∧ Q .non (upd H l (.lst (xs ++ [y])))
theorem mt_append : MtM X "list.append" rAppend := by
  intro pins s σ H x vs v us Q I rx rv h
  obtain ⟨l, xs, y, rfl, rfl, hH, hz, q⟩ := h
  cases rx
  obtain ⟨u, rfl, ru⟩ := rv.one
  obtain ⟨z, its, n, r, hl, e⟩ := I.lstM hH
  refine call_meets F.slot_list_append ⟨_, e, rfl⟩ F.entry_list_append (F.args_list_append_2 _ _) (PySem.list_append l its.toArray n u (by rw [List.size_toArray]; omega)) ⟨e, ?_⟩
  refine ⟨.non, _, I.lset (its' := its ++ [u]) hH e (by simp) (r.append (.cons ru .nil)) ?_, rfl, q⟩
  rw [List.length_append, List.length_singleton]
  omega
def rCat : R2 := fun x y H Q => ∃ l b xs zs, x = .ref l ∧ y = .ref b ∧ H l = some (.lst xs) ∧ H b = some (.lst zs) ∧ xs.length + zs.length ≤ sizeLine ∧ ∀ p, H p = none → Q (.ref p) (upd H p (.lst (xs ++ zs)))
theorem op_cat : OpR X (binaryOp .Add) rCat := by
  intro pins s σ H x y v u Q I rx ry h
  obtain ⟨l, b, xs, zs, rfl, rfl, hH, hB, hz, q⟩ := h
  cases rx
  cases ry
  obtain ⟨z, its, n, r, hl, e⟩ := I.lstM hH
  obtain ⟨z2, its2, n2, r2, hl2, e2⟩ := I.lstM hB
  refine PySem.P.add_list e e2 ?_ (by rw [List.size_toArray, List.size_toArray]; omega)
  have ea : its.toArray ++ its2.toArray = (its ++ its2).toArray := by simp
  rw [ea]
  exact ⟨.ref _, _, I.lnew (t' := s.toks) (r.append r2) (by rw [List.length_append]; omega), rfl, q _ I.fresh⟩
end
section
variable {prog : Program} {w : World} {A : Around} {E : Value → Shared → Prop} {s : Shared}
end
section
variable {X : Cx}
end
end L2
namespace L2
open PySem PySem.Spec PyProof.Rows
section
variable {κ : Type} [DecidableEq κ]
def putK (kvs : List (κ × V)) (k : κ) (v : V) : List (κ × V) :=
  if (kvs.any fun kv => decide (kv.1 = k)) = true then kvs.map (fun kv => if kv.1 = k then (kv.1, v) else kv) else kvs ++ [(k, v)]
theorem length_putK (kvs : List (κ × V)) (k : κ) (v : V) : (putK kvs k v).length ≤ kvs.length + 1 := by
  unfold putK
  split
  · rw [List.length_map]; omega
  · rw [List.length_append, List.length_cons, List.length_nil]; omega
theorem KV.any {kvs : List (κ × V)} {vs : List (κ × Value)} (r : KV kvs vs) (k : κ) : (kvs.any fun kv => decide (kv.1 = k)) = vs.any fun kv => decide (kv.1 = k) := by
  unfold KV at r
  induction r with
  | nil => rfl
  | cons h t ih => rw [List.any_cons, List.any_cons, ih, h.1]
theorem KV.repl {kvs : List (κ × V)} {vs : List (κ × Value)} (r : KV kvs vs) (k : κ) {y : V} {u : Value} (ry : RelV y u) :
    KV (kvs.map fun kv => if kv.1 = k then (kv.1, y) else kv) (vs.map fun kv => if kv.1 = k then (kv.1, u) else kv) := by
  unfold KV at r ⊢
  induction r with
  | nil => exact .nil
  | @cons p q ps qs h t ih =>
    rw [List.map_cons, List.map_cons]
    refine .cons ?_ ih
    obtain ⟨h1, h2⟩ := h
    by_cases e : p.1 = k
    · rw [if_pos e, if_pos (h1.symm.trans e)]; exact ⟨h1, ry⟩
    · rw [if_neg e, if_neg (fun z => e (h1.trans z))]; exact ⟨h1, h2⟩
theorem KV.put {kvs : List (κ × V)} {vs : List (κ × Value)} (r : KV kvs vs) (k : κ) {y : V} {u : Value} (ry : RelV y u) : KV (putK kvs k y) (stored vs k u) := by
  unfold putK stored
  rw [r.any k]
  by_cases e : (vs.any fun kv => decide (kv.1 = k)) = true
  · rw [if_pos e, if_pos e]; exact r.repl k ry
  · rw [if_neg e, if_neg e]; exact Paired.snoc r ⟨rfl, ry⟩
end
theorem kV_is {P : Program} {w : World} {k : Key} {u : Value} (r : RelV (kV k) u) : (mixKind P w).is k u = true := by
  cases k with
  | inl i => obtain ⟨t, e⟩ := (show ∃ t, u = Value.int i t from r); subst e; exact mixKind_int P w i t
  | inr x => obtain ⟨t, e⟩ := (show ∃ t, u = Value.str x t from r); subst e; exact mixKind_str P w x t
section
variable {P : Program} {w : World} {H : Hp} {h : Heap} {a : Addr}
theorem rd_of {u : HO} (ok : HOk P w H h) (e : Rd H a u) : ObjOk P w H h a u := e.ok ok
theorem dk_rd {kvs : List (Key × V)} (ok : HOk P w H h) (e : Rd H a (.dK kvs)) : kvs.length ≤ sizeLine ∧ (a == sysModules) = false ∧ ∃ vs, KV kvs vs ∧ h.DictOf (mixKind P w) a vs :=
  show ObjOk P w H h a (.dK kvs) from rd_of ok e
theorem dk_of {kvs : List (Key × V)} (ok : HOk P w H h) (e : H a = some (.dK kvs)) : kvs.length ≤ sizeLine ∧ (a == sysModules) = false ∧ ∃ vs, KV kvs vs ∧ h.DictOf (mixKind P w) a vs := dk_rd ok (.inl e)
end
section
variable {X : Cx} {pins : List (Addr × Obj)} {σ : St} {H : Hp} {s : Shared} {a : Addr} {y v : V} {u r : Value} {o : Option V} {A : Around} {E : Value → Shared → Prop}
theorem Inv.big (I : Inv X pins σ H s) : sysModules < s.heap.objs.size := by
  have h : mainGlobals < s.heap.objs.size := (I.mod.glob.keeps I.bk).lt
  exact Nat.lt_trans (by decide) h
theorem d_write {h' : Heap} {t' : Nat} {ob : HO} (I : Inv X pins σ H s) (mu : Mut (H a)) (hs : Heap.SameBut a s.heap h') (he : ∃ q, h'.get? a = some q) (new : ObjOk X.prog X.w (upd H a ob) h' a ob) :
    Inv X pins σ (upd H a ob) { s with heap := h', toks := t' } :=
  I.write (x := a) (e := a) mu (.inl rfl) (fun b q hb z => (hs.2 b hb).trans z) he new
theorem dk_new {P : Program} {w : World} {H' : Hp} {h' : Heap} {kvs : List (Key × V)} {vs : List (Key × Value)} (z : kvs.length ≤ sizeLine) (hd : (a == sysModules) = false) (rel : KV kvs vs) (dd : h'.DictOf (mixKind P w) a vs) :
    ObjOk P w H' h' a (.dK kvs) := ⟨z, hd, vs, rel, dd⟩
end
section
variable {X : Cx} {pins : List (Addr × Obj)} {σ : St} {H : Hp} {s : Shared} {a : Addr} {kvs : List (Key × V)} {k : Key} {u : Value} {A : Around} {E : Value → Shared → Prop}
end
section
variable {X : Cx} {o i e value : Expr} {pos pos' tpos : Pos} {td ty tv : TE}
end
theorem dk_empty {P : Program} {w : World} {H : Hp} (h : Heap) (hb : sysModules < h.objs.size) : ObjOk P w H (h.push { cls := .type "dict", data := .dict #[] }) h.objs.size (.dK []) :=
  ⟨Nat.zero_le _, beq_eq_false_iff_ne.mpr (Ne.symm (Nat.ne_of_lt hb)), [], .nil, Heap.DictOf.new h⟩
def tDNewK : TE := fun _ H Q => ∀ p, H p = none → Q (.ref p) (upd H p (.dK []))
section
variable {X : Cx} {pos : Pos}
theorem pe_dnewK : PE X (.Dict [] [] pos) tDNewK := fun pins s σ H Q I h =>
  wpAny_Dict_empty ⟨.ref s.heap.objs.size, _, I.laid (a := s.heap.objs.size) (o := .dK []) (t' := s.toks) (fun _ _ q => Heap.get?_push_of_some _ q) (Nat.le_refl _) (dk_empty s.heap I.big), rfl, h _ (I.hok.fresh (Nat.le_refl _))⟩
end
def tPairs : List (TE × TE) → St → Hp → (List (V × V) → Hp → Prop) → Prop
  | [], _, H, Q => Q [] H
  | (tk, tv) :: r, σ, H, Q => tk σ H fun x H1 => tv σ H1 fun y H2 => tPairs r σ H2 fun ps H3 => Q ((x, y) :: ps) H3
abbrev VV : List (V × V) → List (Value × Value) → Prop := Paired fun p q => RelV p.1 q.1 ∧ RelV p.2 q.2
def PPs (X : Cx) (pos : Pos) (keys : List (Option Expr)) (values : List Expr) (trs : List (TE × TE)) : Prop :=
  ∀ (pins : List (Addr × Obj)) (s : Shared) (σ : St) (H : Hp) (Q : List (V × V) → Hp → Prop), Inv X pins σ H s → tPairs trs σ H Q →
    wpAny (model X.prog X.w) X.A (evalPairs (pairTrees keys values X.env pos)) (fun vs s' => ∃ ps H', Inv X pins σ H' s' ∧ VV ps vs ∧ Q ps H') X.xe s
theorem pps_nil {X : Cx} {pos : Pos} : PPs X pos [] [] [] := fun pins s σ H Q I h => pairTrees_nil_walk ⟨[], H, I, .nil, h⟩
theorem pps_cons {X : Cx} {pos : Pos} {k v : Expr} {ks : List (Option Expr)} {vs : List Expr} {tk tv : TE} {trs : List (TE × TE)} (hk : PE X k tk) (hv : PE X v tv) (hr : PPs X pos ks vs trs) :
    PPs X pos (some k :: ks) (v :: vs) ((tk, tv) :: trs) := fun pins s σ H Q I h =>
  pairTrees_cons_walk (thn (hk pins s σ H _ I h) fun u s1 ⟨x, H1, I1, rx, q1⟩ => thn (hv pins s1 σ H1 _ I1 q1) fun w2 s2 ⟨y, H2, I2, ry, q2⟩ =>
    thn (hr pins s2 σ H2 _ I2 q2) fun ws s3 ⟨ps, H3, I3, rel, q3⟩ => ⟨(x, y) :: ps, H3, I3, .cons ⟨rx, ry⟩ rel, q3⟩)
def mergeK (kvs more : List (Key × V)) : List (Key × V) := more.foldl (fun acc kv => putK acc kv.1 kv.2) kvs
theorem KV.merge : ∀ {more : List (Key × V)} {rs : List (Key × Value)} {kvs : List (Key × V)} {vs : List (Key × Value)}, KV more rs → KV kvs vs → KV (mergeK kvs more) (merged vs rs) := by
  intro more rs kvs vs r
  unfold KV at r
  induction r generalizing kvs vs with
  | nil => intro q; exact q
  | @cons p q ps qs h t ih =>
    intro r0
    have e : KV (putK kvs p.1 p.2) (stored vs q.1 q.2) := by
      have := r0.put p.1 h.2
      rw [← h.1]; exact this
    exact ih e
theorem length_mergeK : ∀ (more kvs : List (Key × V)), (mergeK kvs more).length ≤ kvs.length + more.length
  | [], kvs => by show kvs.length ≤ kvs.length + 0; omega
  | p :: r, kvs => by
    have h1 := length_mergeK r (putK kvs p.1 p.2)
    have h2 := length_putK kvs p.1 p.2
    show (mergeK (putK kvs p.1 p.2) r).length ≤ _
    rw [List.length_cons]; omega
theorem carries_of {P : Program} {w : World} : ∀ {kvs : List (Key × V)} {ws : List (Value × Value)}, VV (kvs.map fun kv => (kV kv.1, kv.2)) ws → ∃ rs, Carries (mixKind P w) ws rs ∧ KV kvs rs
  | [], _, r => by rw [List.map_nil] at r; cases r; exact ⟨[], True.intro, .nil⟩
  | p :: kvs, _, r => by
    rw [List.map_cons] at r
    cases r with
    | @cons a b as bs h t =>
      obtain ⟨rs, c, q⟩ := carries_of (P := P) (w := w) t
      obtain ⟨b1, b2⟩ := b
      exact ⟨(p.1, b2) :: rs, ⟨kV_is h.1, rfl, c⟩, .cons ⟨rfl, h.2⟩ q⟩
def tDisp (trs : List (TE × TE)) : TE := fun σ H Q => ∀ p, H p = none → tPairs trs σ (upd H p (.dK [])) fun ps H2 => H2 p = some (.dK []) ∧ ∃ kvs : List (Key × V), ps = kvs.map (fun kv => (kV kv.1, kv.2)) ∧ kvs.length ≤ 15 ∧ Q (.ref p) (upd H2 p (.dK (mergeK [] kvs)))
theorem pe_disp {X : Cx} {pos : Pos} {keys : List (Option Expr)} {values : List Expr} {trs : List (TE × TE)} (h : PPs X pos keys values trs) (hall : keys.all (·.isSome) = true) (hl : keys.length = values.length) (h0 : keys ≠ [])
    (h15 : keys.length ≤ 15) : PE X (.Dict keys values pos) (tDisp trs) := by
  intro pins s σ H Q I q
  have hn := I.hok.fresh (Nat.le_refl s.heap.objs.size)
  have I1 := I.laid (a := s.heap.objs.size) (o := .dK []) (h' := s.heap.push { cls := .type "dict", data := .dict #[] }) (t' := s.toks) (fun _ _ q => Heap.get?_push_of_some _ q) (Nat.le_refl _) (dk_empty s.heap I.big)
  refine wpAny_Dict_walk (knd := mixKind X.prog X.w) hall hl h0 h15 (thn (h pins _ σ _ _ I1 (q _ hn)) fun ws s2 ⟨ps, H2, I2, rel, e, kvs, ep, lk, q2⟩ => ?_)
  subst ep
  obtain ⟨rs, c, rk⟩ := carries_of (P := X.prog) (w := X.w) rel
  obtain ⟨z, hd, vs0, r0, dd⟩ := dk_of I2.hok e
  cases r0
  refine ⟨rs, c, dd, fun h' dd' hs => ⟨.ref s.heap.objs.size, _, ?_, rfl, q2⟩⟩
  have hz : (mergeK [] kvs).length ≤ sizeLine := by
    have h1 := length_mergeK kvs []
    rw [List.length_nil] at h1
    rw [sizeLine_eq]; omega
  have he : ∃ q, h'.get? s.heap.objs.size = some q := let ⟨q, _, _, hq, _⟩ := dd'; ⟨q, hq⟩
  exact d_write I2 (by rw [e]; exact True.intro) hs he (dk_new hz hd (rk.merge .nil) dd')
structure M1 (X : Cx) (o : Expr) (m : Str) (apos : Pos) (e : Expr) (cpos : Pos) : Prop where
  base : attributeBase o m X.env (eval o X.env) = eval o X.env
  few : ((backTo cpos (starEach [e] X.env)).all (fun x => !x.1) && (backToKw cpos (keywordEach [] X.env)).all (fun x => x.1.isSome)
    && decide (([e] : List Expr).length + ([] : List Keyword).length + (if ([] : List Keyword).isEmpty then 0 else 1) < 30)) = true
  line : (apos.endLine == cpos.line) = true
  trees : backTo cpos (starEach [e] X.env) = [(false, eval e X.env)]
structure M2 (X : Cx) (o : Expr) (m : Str) (apos : Pos) (e f : Expr) (cpos : Pos) : Prop where
  base : attributeBase o m X.env (eval o X.env) = eval o X.env
  few : ((backTo cpos (starEach [e, f] X.env)).all (fun x => !x.1) && (backToKw cpos (keywordEach [] X.env)).all (fun x => x.1.isSome)
    && decide (([e, f] : List Expr).length + ([] : List Keyword).length + (if ([] : List Keyword).isEmpty then 0 else 1) < 30)) = true
  line : (apos.endLine == cpos.line) = true
  trees : backTo cpos (starEach [e, f] X.env) = [(false, eval e X.env), (false, eval f X.env)]
section
variable {X : Cx} {pins : List (Addr × Obj)} {σ : St} {H : Hp} {s : Shared} {a : Addr} {y d : V} {u r : Value} {o : Option V} {A : Around} {E : Value → Shared → Prop}
end
section
variable {X : Cx} {o e f : Expr} {apos cpos : Pos} {td ty tx : TE}
end
section
variable {X : Cx} {pins : List (Addr × Obj)} {σ : St} {H : Hp} {s : Shared} {a : Addr} {kvs : List (Key × V)} {A : Around} {E : Value → Shared → Prop}
end
section
variable {X : Cx} {pins : List (Addr × Obj)} {σ : St} {H : Hp} {s : Shared} {a : Addr} {y : V} {u : Value} {A : Around} {E : Value → Shared → Prop}
end
end L2
namespace Att
open PySem PySem.W PySem.Calls PyProof.Rows
theorem ints_of_wellAll {P : Params} {h : Heap} : ∀ (ns : List Int) (vs : List Value), WellAll P h vs (ns.map WData.int) → IntsAre vs ns := by
  intro ns
  induction ns with
  | nil =>
    intro vs w
    rw [List.map_nil] at w
    cases w
    exact .nil
  | cons n ns ih =>
    intro vs w
    rw [List.map_cons] at w
    cases w with
    | cons a b =>
      cases a
      exact .cons _ _ (ih _ b)
theorem script_of {l : OpenLaw} {n : Nat} (hn : l.most = some n) {P : Params} {h : Heap} {args : List WData} {vals : List Value}
    (hpre : l.row.toRowW.claim.pre args = true) (hwl : WellAll P h vals args) :
    ∃ a vs ns, vals = [Value.ref a] ∧ args = [WData.list (ns.map WData.int)] ∧ h.get? a = some { cls := .type "list", data := .seq vs.toArray } ∧ IntsAre vs ns ∧ ns.length ≤ n := by
  have hsh : WShape.hasAll [] args [.list .int] = true := (pre_splitW hpre).1
  have hc : l.pre.holds [] { args := args } = true := (pre_splitW hpre).2
  obtain ⟨d, r, rfl, h1, h2⟩ := hasAllW_cons hsh
  obtain rfl := hasAllW_nil h2
  obtain ⟨xs, rfl, h3⟩ := hasW_list h1
  obtain ⟨ns, rfl⟩ := items_int h3
  have hlen : ns.length ≤ n := by
    unfold OpenLaw.pre at hc
    have h4 : (WTm.not (.lt (.lit (.int (n : Int))) (.len (.arg 0)))).holds [] { args := [.list (ns.map .int)] } = true := by
      have h4 := (holds_andW hc).1
      rw [hn] at h4
      exact h4
    have h5 := condW_of h4 (w_not (w_lt w_lit (w_len_list (w_arg rfl))))
    rw [List.length_map] at h5
    refine Nat.le_of_not_lt fun q => ?_
    have q' : (n : Int) < ((ns.length : Nat) : Int) := by omega
    first
      | (rw [decide_eq_true q'] at h5; exact absurd h5 (by decide))
      | (simp at h5; omega)
  cases hwl with
  | cons w1 w2 =>
    cases w2
    cases w1 with
    | list ho hall => exact ⟨_, _, ns, rfl, rfl, ho, ints_of_wellAll ns _ hall, hlen⟩
theorem post_true (l : OpenLaw) (args : List WData) : l.row.toRowW.claim.post args (.bool true) args = true :=
  postW_of (r := l.row.toRowW) (X := (true == true))
    (show WShape.has [] (.bool true) .bool = true by first | rfl | decide | simp [WShape.has, WShape.arms, WShape.armsAll])
    (show (WTm.eq .res (.lit (.bool true))).value [] { args := args, res := some (.bool true), after := args } = some (.bool (true == true)) from w_eq_bool (w_res rfl) w_lit) rfl
theorem attach_call {l : OpenLaw} {n : Nat} {q : Program} {loose : List Str} {XP : (Str → Option Value) → Heap → Prop} {YP : World → Heap → Prop} {d : DefRec}
    (hn : l.most = some n) (hdf : d.params.defaults = [])
    (call : ∀ (w : World) (s₀ s₁ : Shared) (mg mb : Str → Option Value) (fa : Addr) (o : Obj) (pm cd doc : Value) (a : Addr) (vs : List Value) (ns : List Int),
      Ground q loose [] XP w s₀ mg mb s₁.heap → YP w s₁.heap →
      s₁.heap.get? fa = some o → o.data = .func (docDef d.name d.params d.body d.scope pm cd doc) → s₁.heap.CodeRec cd d.name → mg d.name = some (.ref fa) →
      s₁.heap.get? a = some { cls := .type "list", data := .seq vs.toArray } → IntsAre vs ns → ns.length ≤ n → s₁.gens = #[] →
      codeAny (model l.prog w) callerA (.call (.ref fa) ⟨[.ref a], []⟩) (fun r s' => r = .ok (.ret (.bool true)) ∧ OldK s₁.heap s'.heap ∧ s'.os = s₁.os ∧ AllBare s'.gens) s₁) :
    WalkO q loose XP YP l.row.toRowW d [] (fun f vs => PySem.call f vs) := by
  intro w s₀ s₁ mg mb G Y fa o pm cd doc dV kV ho hd hcd hD hmg hg args vals as hpre hlay hrd hwl hlo
  obtain rfl : dV = .none := Dflts.none hD hdf
  obtain rfl : kV = .none := Dflts.noKw hD
  obtain ⟨a, vs, ns, rfl, rfl, hobj, hints, hlen⟩ := script_of hn hpre hwl
  refine enter_call (codeAny_mono (call w s₀ s₁ mg mb fa o pm cd doc a vs ns G Y ho (fd_plain hd) hcd hmg hobj hints hlen hg) fun r s' hq => ?_)
  obtain ⟨rfl, h2, h3, h4⟩ := hq
  exact ⟨.inl ⟨.bool true, .bool true, [], rfl, fun _ => rfl, .bool true, post_true l _, fun _ => ⟨List.Pairwise.nil, fun _ hm => (nomatch hm)⟩⟩, h2, h3, h4⟩
section
variable {prog : Program} {w : World} {A : Around} {E : Value → Shared → Prop} {s : Shared} {K : Frag}
end
end Att
namespace L2
open PySem PySem.Spec PyProof.Rows
theorem vals_ints : ∀ {vs : List Value} {ns : List Int}, IntsAre vs ns → Vals (ns.map V.int) vs
  | _, _, .nil => .nil
  | _, _, .cons n t h => .cons ⟨t, rfl⟩ (vals_ints h)
def Only (H : Hp) : Prop := ∀ b, H b = none ∨ ∃ o xs, H b = some (.frz o (.lst xs))
theorem law_call {P : Program} {w : World} {K : PySem.W.Frag} {mg mb : Str → Option Value} {CX : CXT} {k : Nat} {fa a : Addr} {fd : FuncData} {x : Str} {sp : Sp} {s₁ : Shared} {vs : List Value} {ns : List Int}
    (KX : K.In s₁.heap) (hns : s₁.heap.Ns mainGlobals mg) (hb : s₁.heap.Ns builtinsNs mb) (hbb : ∀ x : Str, x ≠ "__name__" → mb x = bootBuiltins x) (hlim : s₁.heap.NoLimit) (hg : s₁.gens = #[])
    (ha : s₁.heap.get? a = some { cls := .type "list", data := .seq vs.toArray }) (hi : IntsAre vs ns) (hl : ns.length ≤ sizeLine) (hr : Room k callerA)
    (F : ∀ base : Heap, K.In base → base.Ns mainGlobals mg → FnOk P w K mg base CX k fa fd [x] sp) (hbind : ∀ (s : Shared) (u : Value), BindsTo s fd ⟨[u], []⟩ [(x, u)])
    (hsp : ∀ H : Hp, Only H → SqL K H a (ns.map V.int) → sp [.ref a] H (fun v _ => v = .bl true) fun _ _ _ => False)
    (hCX : ∀ H e s', CX [] H s₁ (fun _ _ _ => False) e s' → False) :
    codeAny (model P w) callerA (.call (.ref fa) ⟨[.ref a], []⟩) (fun r s' => r = .ok (.ret (.bool true)) ∧ OldK s₁.heap s'.heap ∧ s'.os = s₁.os ∧ AllBare s'.gens) s₁ := by
  have rv := vals_ints hi
  have lenV := hi.length
  have core : ∀ H : Hp, Only H → SqL K H a (ns.map V.int) → HOk P w H s₁.heap → (∀ b, H b ≠ none → b = a) → (H a ≠ none → K.lookup a = none) →
      codeAny (model P w) callerA (.call (.ref fa) ⟨[.ref a], []⟩) (fun r s' => r = .ok (.ret (.bool true)) ∧ OldK s₁.heap s'.heap ∧ s'.os = s₁.os ∧ AllBare s'.gens) s₁ := by
    intro H hO hS hok hA hK
    have base_of : ∀ {b : Addr} {o : Obj}, s₁.heap.get? b = some o → H b = none → (hidT s₁.heap H).get? b = some o := fun e n => hidT_get e n
    have noA : ∀ {b : Addr} {o : Obj} {es : Array DictEntry} {ep : Nat}, s₁.heap.get? b = some o → o.data = .dict es ep → H b = none := fun {b o es ep} e d => by
      cases q : H b with
      | none => rfl
      | some u =>
        have e' : b = a := hA b (by rw [q]; simp)
        subst e'
        rw [ha] at e; cases e
        have d' : Data.seq vs.toArray _ = Data.dict es ep := d
        cases d'
    have nsK : ∀ {b : Addr} {m : Str → Option Value}, s₁.heap.Ns b m → (hidT s₁.heap H).Ns b m := fun {b m} ⟨o, es, ep, e, d, r⟩ => ⟨o, es, ep, base_of e (noA e d), d, r⟩
    have hKb : K.In (hidT s₁.heap H) := fun b o e => base_of (KX b o e) (by
      cases q : H b with
      | none => rfl
      | some u =>
        have e' : b = a := hA b (by rw [q]; simp)
        subst e'
        rw [hK (by rw [q]; simp)] at e; cases e)
    have hM : Mod K mg (hidT s₁.heap H) := ⟨hKb, nsK hns, ⟨mb, nsK hb, hbb⟩, let ⟨mc, h1, h2⟩ := hlim; ⟨mc, nsK h1, h2⟩⟩
    have e0 : Env0 P w K mg (hidT s₁.heap H) callerA [] s₁ H := ⟨rfl, hM, fun b o e => of_hidT e, Nat.le_of_eq (hidT_size _ _), trivial, fun b hb => absurd (show b ∈ ([] : List Addr) from hb) (by simp), hok, .of_eq hg⟩
    refine codeAny_mono ((F _ hKb (nsK hns)).run callerA [] s₁ H ⟨[.ref a], []⟩ [.ref a] [.ref a] _ _ hr e0 (hbind s₁ (.ref a)) (.cons rfl .nil) (hsp H hO hS)) fun r s' h => ?_
    cases r with
    | error e => exact (hCX H e s' h).elim
    | ok fl =>
      cases fl with
      | next => exact False.elim h
      | brk => exact False.elim h
      | cont => exact False.elim h
      | ret u =>
        obtain ⟨v, H', os, bare, un, hok', r', q⟩ := h
        have q' : v = .bl true := q
        subst q'
        obtain rfl : u = Value.bool true := r'
        refine ⟨rfl, OldK.of_keep fun b o e => ?_, os, bare⟩
        cases q : H b with
        | none => exact un.keep b o e q (by intro z; exact absurd (show b ∈ ([] : List Addr) from z) (by simp)) (by simp)
        | some u =>
          rcases hO b with z | ⟨ob, xs, z⟩
          · rw [q] at z; cases z
          · have z2 := un.frzs b ob _ z
            obtain ⟨e1, _⟩ := hok b _ z
            obtain ⟨e2, _⟩ := hok' b _ z2
            rw [e] at e1; cases e1
            exact e2
  cases hk : K.lookup a with
  | some o =>
    have e := KX a o hk
    rw [ha] at e
    cases e
    refine core (fun _ => none) (fun _ => .inl rfl) (.inr ⟨_, vs.toArray, _, hk, rfl, rfl, rfl, by rw [List.size_toArray, lenV]; exact hl, by simpa using rv⟩) (fun b u z => by have z' : (none : Option HO) = some u := z; cases z') (fun b z => absurd rfl z) fun z => absurd rfl z
  | none =>
    refine core (fun b => if b = a then some (.frz { cls := .type "list", data := .seq vs.toArray } (.lst (ns.map V.int))) else none) (fun b => ?_) (.inl (.inr ⟨{ cls := .type "list", data := .seq vs.toArray }, if_pos rfl⟩)) (fun b u z => ?_) (fun b z => ?_) fun _ => hk
    · by_cases hb : b = a
      · exact .inr ⟨_, _, if_pos hb⟩
      · exact .inl (if_neg hb)
    · by_cases hb : b = a
      · have z' := (if_pos hb).symm.trans z
        cases z'
        subst hb
        exact ⟨ha, by rw [List.length_map]; exact hl, vs, _, rv, ha⟩
      · have z' := (if_neg hb).symm.trans z
        cases z'
    · by_cases hb : b = a
      · exact hb
      · exact absurd (if_neg hb) z
end L2
namespace L2
open PySem PySem.Spec PyProof.Rows
abbrev KOf {K : PySem.W.Frag} {h : Heap} (_ : K.In h) : PySem.W.Frag := K
theorem walk_of {l : PySem.W.OpenLaw} {n k : Nat} {q : Program} {loose : List Str} {XP : (Str → Option Value) → Heap → Prop} {YP : World → Heap → Prop} {d : DefRec} {K : Params → PySem.W.Frag} {CX : World → CXT} {sp : World → Sp} {x : Str}
    (hn : l.most = some n) (hn2 : n ≤ sizeLine) (hdf : d.params.defaults = []) (hr : Room k callerA)
    (hY : ∀ (w : World) (h : Heap), YP w h → (K w.params).In h)
    (F : ∀ (w : World) (mg : Str → Option Value) (fa : Addr) (h : Heap), (K w.params).In h → h.Ns mainGlobals mg → mg d.name = some (.ref fa) →
      ∃ fd : FuncData, (∀ (s : Shared) (u : Value), BindsTo s fd ⟨[u], []⟩ [(x, u)]) ∧
        ∀ base : Heap, (K w.params).In base → base.Ns mainGlobals mg → FnOk l.prog w (K w.params) mg base (CX w) k fa fd [x] (sp w))
    (hsp : ∀ (w : World) (H : Hp) (a : Addr) (ns : List Int), ns.length ≤ n → Only H → SqL (K w.params) H a (ns.map V.int) → sp w [.ref a] H (fun v _ => v = .bl true) fun _ _ _ => False)
    (hCX : ∀ (w : World) (H : Hp) (s : Shared) (e : Value) (s' : Shared), CX w [] H s (fun _ _ _ => False) e s' → False) :
    PySem.W.WalkO q loose XP YP l.row.toRowW d [] (fun f vs => PySem.call f vs) := by
  refine Att.attach_call hn hdf fun w s₀ s₁ mg mb fa o pm cd doc a vs ns G Y ho hd hcd hmg hobj hints hlen hg => ?_
  have KX := hY w _ Y
  obtain ⟨fd, hb, hF⟩ := F w mg fa _ KX G.T.g hmg
  exact law_call KX G.T.g G.T.b G.T.builtins G.T.nolimit hg hobj hints (Nat.le_trans hlen hn2) hr hF hb (fun H hO hS => hsp w H a ns hlen hO hS) fun H e s' => hCX w H s₁ e s'
theorem walk_ofK {l : PySem.W.OpenLaw} {n k : Nat} {q : Program} {loose : List Str} {XP : (Str → Option Value) → Heap → Prop} {YP : World → Heap → Prop} {d : DefRec} {K : Params → PySem.W.Frag} {CX : CXT} {sp : PySem.W.Frag → Sp} {x : Str}
    (hn : l.most = some n) (hn2 : n ≤ sizeLine) (hdf : d.params.defaults = []) (hr : Room k callerA)
    (hY : ∀ (w : World) (h : Heap), YP w h → (K w.params).In h)
    (F : ∀ (w : World) (mg : Str → Option Value) (fa : Addr) (h : Heap), (K w.params).In h → h.Ns mainGlobals mg → mg d.name = some (.ref fa) →
      ∃ fd : FuncData, (∀ (s : Shared) (u : Value), BindsTo s fd ⟨[u], []⟩ [(x, u)]) ∧
        ∀ base : Heap, (K w.params).In base → base.Ns mainGlobals mg → FnOk l.prog w (K w.params) mg base CX k fa fd [x] (sp (K w.params)))
    (hsp : ∀ (K : PySem.W.Frag) (H : Hp) (a : Addr) (ns : List Int), ns.length ≤ n → Only H → SqL K H a (ns.map V.int) → sp K [.ref a] H (fun v _ => v = .bl true) fun _ _ _ => False)
    (hCX : ∀ (H : Hp) (s : Shared) (e : Value) (s' : Shared), CX [] H s (fun _ _ _ => False) e s' → False) :
    PySem.W.WalkO q loose XP YP l.row.toRowW d [] (fun f vs => PySem.call f vs) :=
  walk_of (K := K) (CX := fun _ => CX) (sp := fun w => sp (K w.params)) hn hn2 hdf hr hY F (fun w H a ns h1 h2 h3 => hsp (K w.params) H a ns h1 h2 h3) fun _ H s e s' => hCX H s e s'
end L2
namespace L2
open PySem PySem.Spec PyProof.Rows
def inClass (s : Stmt) (j : Nat) : Stmt := match s with
  | .ClassDef _ _ _ body _ _ _ _ _ _ _ => body.getD j (.Pass ⟨0, 0, 0, 0⟩)
  | _ => .Pass ⟨0, 0, 0, 0⟩
def defArgs (s : Stmt) : Arguments := match s with
  | .FunctionDef _ a _ _ _ _ _ _ _ _ => a
  | _ => { posonlyargs := [], args := [], vararg := none, kwonlyargs := [], kw_defaults := [], kwarg := none, defaults := [] }
def defBody (s : Stmt) : List Stmt := match s with
  | .FunctionDef _ _ b _ _ _ _ _ _ _ => b
  | _ => []
def defScope (s : Stmt) : Scope := match s with
  | .FunctionDef _ _ _ _ _ _ sc _ _ _ => sc
  | _ => { kind := .function, names := [], isGenerator := false, isCoroutine := false }
abbrev CX0 : CXT := fun _ _ _ _ _ _ => False
abbrev E0 : XK := fun _ _ _ => False
theorem pass0 {X : Cx} : Passes CX0 X E0 := fun _ _ _ _ _ _ _ h => h.elim
structure Fun (K : PySem.W.Frag) (x qual : Str) (st : Stmt) (f : Addr) (fd : FuncData) : Prop where
  ex : ∃ (oc : Value) (od : Option Addr) (kV doc pm : Value) (an : Option Addr) (cdv ct : Value) (osl : Array (Option Value)),
    fd = PySem.W.fnOf x qual (defArgs st) (defBody st) (defScope st) .none kV doc pm an cdv ct ∧ K.lookup f = some ⟨oc, od, .func fd, osl⟩ ∧ PySem.W.codeIn K cdv qual = true
  kp : PySem.W.keepIn K (.ref f) = true
section
variable {P : Program} {w : World} {K : PySem.W.Frag} {mg : Str → Option Value} {base : Heap}
theorem Fun.ok {x qual : Str} {st : Stmt} {f : Addr} {fd : FuncData} {N ps : List Str} {k : Nat} {sp : Sp} (F : Fun K x qual st f fd) (S : FnScope N ps (defScope st)) (len : ∀ vs H Q E, sp vs H Q E → vs.length = ps.length)
    (hbody : ∀ (cdv : Value) (A : Around) (outer : List Env) (s : Shared) (H : Hp) (vs : List V) (Q : VK) (E : XK), Room k (A.deeper (envOfC qual (defScope st) s.heap.objs.size f cdv)) → sp vs H Q E →
      ∃ t, PSs (cxOf CX0 P w K mg base N qual (defScope st) f cdv A outer s H E).nox (defBody st) t ∧ t { nx := fun _ H' => Q .non H', rt := Q } (start N vs) H) : FnOk P w K mg base CX0 (k + 1) f fd ps sp := by
  obtain ⟨oc, od, kV, doc, pm, an, cdv, ct, osl, rfl, lk, hcd⟩ := F.ex
  refine fn_of lk hcd S len fun A outer s H vs Q E hr hsp => ?_
  obtain ⟨t, h, q⟩ := hbody cdv A outer s H vs Q E hr hsp
  exact ⟨t, h.nox, q⟩
theorem Fun.binds {x qual : Str} {st : Stmt} {f : Addr} {fd : FuncData} {ps : List Str} (F : Fun K x qual st f fd)
    (h : ∀ (kV doc pm : Value) (an : Option Addr) (cdv ct : Value) (us : List Value), us.length = ps.length → bindArgs (PySem.W.fnOf x qual (defArgs st) (defBody st) (defScope st) .none kV doc pm an cdv ct) ⟨us, []⟩ = pure (ps.zip us)) : Binds K fd ps [] := by
  obtain ⟨oc, od, kV, doc, pm, an, cdv, ct, osl, rfl, lk, hcd⟩ := F.ex
  exact .all (h kV doc pm an cdv ct)
theorem fun_mk {x qual : Str} {st : Stmt} {f : Addr} {oc : Value} {od an : Option Addr} {osl : Array (Option Value)} {kV doc pm cdv ct : Value} (l : K.lookup f = some ⟨oc, od, .func (PySem.W.fnOf x qual (defArgs st) (defBody st) (defScope st) .none kV doc pm an cdv ct), osl⟩)
    (c : PySem.W.codeIn K cdv qual = true) (k : PySem.W.keepIn K (.ref f) = true) : Fun K x qual st f (PySem.W.fnOf x qual (defArgs st) (defBody st) (defScope st) .none kV doc pm an cdv ct) := ⟨⟨oc, od, kV, doc, pm, an, cdv, ct, osl, rfl, l, c⟩, k⟩
end
section
variable {X : Cx}
theorem pv (i : Nat) {x : Str} {pos : Pos} (hN : X.N[i]? = some x := by rfl) (hv : Vis X.env.scope x := by first | exact Or.inl rfl | exact Or.inr (Or.inl rfl) | exact Or.inr (Or.inr rfl)) (hd : (x == ("__debug__" : Str)) = false := by decide)
    (hcd : (x == ("__classdict__" : Str)) = false := by decide) : PE X (.Name x pos) (tVar i) := pe_var hN hv hd hcd
end
theorem iteF {A B : Prop} (h : B) : if false = true then A else B := by
  rw [if_neg Bool.false_ne_true]
  exact h
theorem iteT {A B : Prop} (h : A) : if true = true then A else B := by
  rw [if_pos rfl]
  exact h
theorem ite2 {c A B : Prop} [Decidable c] (h1 : c → A) (h2 : ¬ c → B) : if c then A else B := by
  by_cases h : c
  · rw [if_pos h]
    exact h1 h
  · rw [if_neg h]
    exact h2 h
def Same (H H' : Hp) : Prop := ∀ b o, H b = some o → H' b = some o
theorem Same.refl (H : Hp) : Same H H := fun _ _ h => h
theorem Same.trans {H H1 H2 : Hp} (a : Same H H1) (b : Same H1 H2) : Same H H2 := fun c o h => b c o (a c o h)
theorem Same.seq {K : PySem.W.Frag} {H H' : Hp} {a : Addr} {xs : List V} (e : Same H H') (h : SqL K H a xs) : SqL K H' a xs := by
  rcases h with (h | ⟨o, h⟩) | h
  · exact .inl (.inl (e _ _ h))
  · exact .inl (.inr ⟨o, e _ _ h⟩)
  · exact .inr h
section
variable {κ : Type} [DecidableEq κ]
end
end L2
set_option Elab.async false
set_option linter.all false
set_option maxRecDepth 100000
set_option maxHeartbeats 4000000
namespace L2
open PySem PySem.Spec PyProof.Rows
def closF (cells : List (Str × Addr)) : List (Str × NameKind) → List (Str × Addr) → List (Str × Addr)
  | [], acc => acc
  | (n, k) :: r, acc => if (k == NameKind.free) = true then (match cells.lookup n with | some c => closF cells r ((n, c) :: acc) | none => closF cells r acc) else closF cells r acc
theorem closF_in {cells : List (Str × Addr)} : ∀ (ns : List (Str × NameKind)) (acc : List (Str × Addr)), (∀ x c, acc.lookup x = some c → cells.lookup x = some c) → ∀ x c, (closF cells ns acc).lookup x = some c → cells.lookup x = some c
  | [], _, h, x, c, e => h x c e
  | (n, k) :: r, acc, h, x, c, e => by
    unfold closF at e
    by_cases hk : (k == NameKind.free) = true
    · rw [if_pos hk] at e
      cases hc : cells.lookup n with
      | none => rw [hc] at e; exact closF_in r acc h x c e
      | some d =>
        rw [hc] at e
        refine closF_in r ((n, d) :: acc) (fun y b q => ?_) x c e
        rw [List.lookup_cons] at q
        by_cases hy : (y == n) = true
        · rw [hy] at q
          have hy' : y = n := beq_iff_eq.mp hy
          rw [hy', hc]
          exact q
        · have hy' : (y == n) = false := by simpa using hy
          rw [hy'] at q
          exact h y b q
    · rw [if_neg hk] at e
      exact closF_in r acc h x c e
theorem closF_keep {cells : List (Str × Addr)} : ∀ (ns : List (Str × NameKind)) (acc : List (Str × Addr)) (x : Str), (acc.lookup x).isSome = true → ((closF cells ns acc).lookup x).isSome = true
  | [], _, _, h => h
  | (n, k) :: r, acc, x, h => by
    unfold closF
    by_cases hk : (k == NameKind.free) = true
    · rw [if_pos hk]
      cases hc : cells.lookup n with
      | none => exact closF_keep r acc x h
      | some d =>
        refine closF_keep r ((n, d) :: acc) x ?_
        rw [List.lookup_cons]
        cases hy : x == n with
        | true => rfl
        | false => exact h
    · rw [if_neg hk]
      exact closF_keep r acc x h
theorem closF_has {cells : List (Str × Addr)} {x : Str} : ∀ (ns : List (Str × NameKind)) (acc : List (Str × Addr)), (x, NameKind.free) ∈ ns → (∃ c, cells.lookup x = some c) → ((closF cells ns acc).lookup x).isSome = true
  | [], _, h, _ => by simp at h
  | (n, k) :: r, acc, h, hc => by
    unfold closF
    rcases List.mem_cons.mp h with e | e
    · cases e
      obtain ⟨c, hc⟩ := hc
      rw [if_pos (by decide), hc]
      exact closF_keep r _ x (by rw [List.lookup_cons, beq_self_eq_true]; rfl)
    · by_cases hk : (k == NameKind.free) = true
      · rw [if_pos hk]
        cases hd : cells.lookup n with
        | none => exact closF_has r acc e hc
        | some d => exact closF_has r _ e hc
      · rw [if_neg hk]
        exact closF_has r acc e hc
theorem closureFor_eq {sc : Scope} {env : Env} (h : ∀ y ∈ sc.names, y.2 = .free → ∃ c, env.cells.lookup y.1 = some c) : closureFor sc env = pure (closF env.cells sc.names []) := by
  have key : ∀ (ns : List (Str × NameKind)) (acc : List (Str × Addr)), (∀ y ∈ ns, y.2 = .free → ∃ c, env.cells.lookup y.1 = some c) →
      (forIn ns acc fun (x : Str × NameKind) (r : List (Str × Addr)) => if (x.2 == NameKind.free) = true then (cellOf env x.1 >>= fun c => pure (ForInStep.yield ((x.1, c) :: r)) : Sem _) else pure (ForInStep.yield r)) = (pure (closF env.cells ns acc) : Sem _) := by
    intro ns
    induction ns with
    | nil => intro acc _; rfl
    | cons y r ih =>
      intro acc hy
      obtain ⟨n, k⟩ := y
      rw [List.forIn_cons]
      unfold closF
      by_cases hk : (k == NameKind.free) = true
      · have hk' : k = .free := by simpa using hk
        obtain ⟨c, hc⟩ := hy (n, k) List.mem_cons_self hk'
        have hc' : env.cells.lookup n = some c := hc
        simp only [hk, if_true]
        have e1 : cellOf env n = pure c := by unfold cellOf; rw [hc']
        rw [e1, hc']
        exact ih _ fun z hz => hy z (List.mem_cons_of_mem _ hz)
      · simp only [hk, if_false]
        exact ih _ fun z hz => hy z (List.mem_cons_of_mem _ hz)
  have k0 := key sc.names [] h
  unfold closureFor
  first
    | exact k0
    | (refine Eq.trans ?_ (congrArg (fun m : Sem (List (Str × Addr)) => m >>= fun r => pure r) k0); rfl)
def blk (X : Cx) (sc : Scope) (N : List Str) (C : Addr) (s : Shared) (H : Hp) (fp : List Addr) (pn : List (Addr × Obj)) : Cx :=
  { X with N := N, s₀ := s, H₀ := H, env := compEnvC sc (closF X.env.cells sc.names []) C X.env, outer := X.stack, ex := fp, fn := fun _ => false, pn := pn, xe := fun _ _ => False }
def capt (ini : List (Option Nat)) (σ : St) : St := ini.map fun o => match o with | none => none | some j => (σ[j]?).join
def scB (sc : Scope) : Bool := decide (sc.kind = .function) && sc.names.all (fun y => decide (y.2 ≠ .cell)) && sc.names.all (fun y => !decide (y.2 = .local) || decide (sc.names.lookup y.1 = some .local))
def frB (outer : List (Str × NameKind)) (sc : Scope) : Bool := sc.names.all fun y => !decide (y.2 = .free) || (decide (outer.lookup y.1 = some .cell) || decide (outer.lookup y.1 = some .free))
def iniB (No N : List Str) (ini : List (Option Nat)) (outer : List (Str × NameKind)) (sc : Scope) : Bool :=
  (N.zip ini).all fun y => match y.2 with | none => true | some j => decide (No[j]? = some y.1) && decide (sc.names.lookup y.1 = some .free) && (decide (outer.lookup y.1 = some .cell) || decide (outer.lookup y.1 = some .free))
def PIf (X : Cx) (ifs : List Expr) (t : TT) : Prop :=
  ∀ (pins : List (Addr × Obj)) (s : Shared) (σ : St) (H : Hp) (Q : Bool → Hp → Prop), Inv X pins σ H s → t σ H Q →
    wpAny (model X.prog X.w) X.A (forIn ifs true fun c r => if r = true then do let ok ← isTrue c X.env (eval c X.env); pure (ForInStep.yield ok) else pure (ForInStep.yield r)) (TP X pins σ Q) X.xe s
def tYes : TT := fun _ H Q => Q true H
theorem pif_nil {X : Cx} : PIf X [] tYes := fun _ _ _ H _ I h => wpAny_tests_nil ⟨H, I, h⟩
theorem pif_one {X : Cx} {c : Expr} {t : TT} (h : PT X c t) : PIf X [c] t := fun pins s σ H Q I q => wpAny_tests_one (h pins s σ H Q I q)
def tComp (wi : TI) (ini : List (Option Nat)) (g : TG) (tt : TT) (te : TE) : TE := fun σ H Q => wi σ H fun J H1 => ∀ D, H1 D = none → ∃ W : Nat → Nat → St → Hp → Prop, (∃ m, W 0 m (capt ini σ) (upd H1 D (.lst []))) ∧
  ∀ i m σ' H', W i m σ' H' → (J.stop i H' ∧ Q (.ref D) H') ∨ (J.go i H' ∧ ∃ N : St → Hp → Prop, (∀ σ2 H2, N σ2 H2 → ∃ m', m' < m ∧ W (i + 1) m' σ2 H2) ∧
    ∀ x H2, J.yld i H' x H2 → g x σ' H2 fun σ3 H3 => tt σ3 H3 fun b H4 => if b = true then te σ3 H4 (fun v H5 => ∃ ys, H5 D = some (.lst ys) ∧ ys.length < sizeLine ∧ N σ3 (upd H5 D (.lst (ys ++ [v])))) else N σ3 H4)
section
variable {prog : Program} {w : World} {A : Around} {R : Result → Shared → Prop} {s : Shared}
theorem compLoop_gen {elt target iter : Expr} {ifs : List Expr} {scope : Scope} {pos : Pos} {it acc : Value} {env : Env} (I : Nat → Shared → Prop)
    (turn : ∀ n s, I n s → wpAny (model prog w) A (pyNext it) (fun r s1 => match r with
      | none => R (.ok .next) s1
      | some v => wpAny (model prog w) A (letOwnedTupleGo target it v) (fun _ s1' => wpAny (model prog w) A (assign target env v) (fun _ s2 =>
          wpAny (model prog w) A (forIn ifs true fun c r => if r = true then do let ok ← isTrue c env (eval c env); pure (ForInStep.yield ok) else pure (ForInStep.yield r)) (fun ok s3 =>
            if ok = true then wpAny (model prog w) A (eval elt env) (fun x s4 =>
              wpAny (model prog w) A (call (.builtin "list.append") [acc, x]) (fun _ s5 => ∃ m, m < n ∧ I m s5) (fun _ _ => False) s4) (fun _ _ => False) s3
            else ∃ m, m < n ∧ I m s3) (fun _ _ => False) s2) (fun _ _ => False) s1') (fun _ _ => False) s1) (fun _ _ => False) s)
    (n : Nat) (h : I n s) : codeAny (model prog w) A (.compLoop (.ListComp elt [⟨target, iter, ifs, 0⟩] scope pos) 0 it acc env) R s := by
  refine codeAny_loop rfl I (fun n s hI => ?_) n h
  show wpAny _ A ((compTurn (.ListComp elt [⟨target, iter, ifs, 0⟩] scope pos) 0 it acc env).onRaise (fun x => do noteFrame x env; theTreesLotGoes x)) _ _ s
  refine wpAny_noted (wpAny_noRaise ?_)
  rw [compTurn_list]
  refine wpAny_bind (wpAny_standAt (wpAny_bind (wpAny_mono (turn n s hI) (fun r s1 h1 => ?_) fun _ _ h' => h')))
  cases r with
  | none => exact wpAny_pure h1
  | some v =>
    refine wpAny_bind (wpAny_mono h1 (fun _ s1' h1' => ?_) fun _ _ h' => h')
    refine wpAny_bind (wpAny_mono h1' (fun _ s2 h2 => wpAny_bind (wpAny_mono h2 (fun ok s3 h3 => ?_) fun _ _ h' => h')) fun _ _ h' => h')
    cases ok with
    | false => exact wpAny_pure ⟨rfl, h3⟩
    | true =>
      exact wpAny_bind (wpAny_bind (wpAny_mono h3 (fun x s4 h4 => wpAny_bind (wpAny_mono h4 (fun _ s5 h5 => wpAny_pure (wpAny_pure ⟨rfl, h5⟩)) fun _ _ h' => h')) fun _ _ h' => h'))
end
section
variable {X : Cx} {pins : List (Addr × Obj)} {σ : St} {H : Hp} {s : Shared}
theorem blk_ok {sc : Scope} {N : List Str} {C : Addr} {fp : List Addr} {pn : List (Addr × Obj)} (I : Inv X pins σ H s) (hk : sc.kind = .function) (hcell : ∀ y ∈ sc.names, y.2 ≠ .cell)
    (hfr : ∀ y ∈ sc.names, y.2 = .free → X.env.kindOf y.1 = some .cell ∨ X.env.kindOf y.1 = some .free) (hC : C = s.heap.objs.size) (hf : ∀ b ∈ fp, FpOk X pins H b ∧ b < s.heap.objs.size) : (blk X sc N C s H fp pn).Ok := by
  have hin : ∀ x c, (closF X.env.cells sc.names []).lookup x = some c → X.env.cells.lookup x = some c := closF_in sc.names [] (fun x c e => by simp at e)
  refine ⟨I.ok.mod, hk, I.ok.glob, I.ok.blt, Nat.le_of_eq hC.symm, fun x y c h1 h2 => I.ok.inj x y c (hin _ _ h1) (hin _ _ h2), fun x hx => ?_, fun x c h _ => (by cases h), I.ok.hd, I.ok.frames, .inl rfl, fun b hb => ?_, I.bs, Nat.le_trans I.ok.bsz I.sz, fun b o e hb => ?_, fun b hb z => ?_, I.stack, I.stkFree⟩
  · have hx' : (relabel sc X.env).names.lookup x = some .cell ∨ (relabel sc X.env).names.lookup x = some .free := hx
    have hm : (x, NameKind.free) ∈ sc.names := by
      have : ∀ k, (relabel sc X.env).names.lookup x = some k → (k = .cell ∨ k = .free) → (x, NameKind.free) ∈ sc.names := fun k e hkk => by
        have m := PySem.mem_of_lookup e
        obtain ⟨⟨n', k'⟩, m1, m2⟩ := List.mem_map.mp m
        dsimp only at m2
        by_cases hc : (k' == NameKind.free && X.env.scope.kind == .function && X.env.kindOf n' == some .cell) = true
        · rw [if_pos hc] at m2
          have e1 : n' = x := congrArg Prod.fst m2
          have e2 : k' = NameKind.free := by simp at hc; exact hc.1.1
          rw [← e1, ← e2]
          exact m1
        · rw [if_neg hc] at m2
          have e1 : n' = x := congrArg Prod.fst m2
          have e2 : k' = k := congrArg Prod.snd m2
          rcases hkk with z | z
          · exact absurd (e2.trans z) (hcell _ m1)
          · rw [← e1, ← z, ← e2]; exact m1
      rcases hx' with e | e
      · exact this _ e (.inl rfl)
      · exact this _ e (.inr rfl)
    have hh := closF_has (cells := X.env.cells) sc.names [] hm (I.ok.has x (hfr _ hm rfl))
    exact Option.isSome_iff_exists.mp hh
  · obtain ⟨⟨f0, f1, f2, f3, f4, f5⟩, lt⟩ := hf b hb
    exact ⟨fun z => Nat.ne_of_lt lt (z.trans hC), fun x c e => f4 x c (hin _ _ e)⟩
  · obtain ⟨⟨f0, f1, f2, f3, f4, f5⟩, lt⟩ := hf b hb
    rcases f3 with z | z
    · exact I.ok.noex b o e z
    · exact absurd (Nat.lt_of_lt_of_le (Heap.lt_size (I.ok.bs b o e).1) z) (Nat.lt_irrefl _)
  · obtain ⟨⟨f0, f1, f2, f3, f4, f5⟩, lt⟩ := hf b hb
    rcases List.mem_cons.mp (I.stkSub b z) with e | e
    · exact f1 e
    · exact f2 e
theorem blk_inv {sc : Scope} {N : List Str} {ini : List (Option Nat)} {fp : List Addr} {h1 : Heap} {t' : Nat} (I : Inv X pins σ H s) (hk : sc.kind = .function) (hcell : ∀ y ∈ sc.names, y.2 ≠ .cell)
    (hfr : ∀ y ∈ sc.names, y.2 = .free → X.env.kindOf y.1 = some .cell ∨ X.env.kindOf y.1 = some .free) (hf : ∀ b ∈ fp, FpOk X pins H b ∧ b < s.heap.objs.size) (hlen : N.length = ini.length)
    (hini : ∀ (i : Nat) (x : Str) (j : Nat), N[i]? = some x → ini[i]? = some (some j) → X.N[j]? = some x ∧ sc.names.lookup x = some .free ∧ (X.env.kindOf x = some .cell ∨ X.env.kindOf x = some .free))
    (hn : h1.Ns s.heap.objs.size (fun _ => none)) (kp : ∀ b o, s.heap.get? b = some o → h1.get? b = some o) :
    Inv (blk X sc N s.heap.objs.size s H fp (X.pn ++ pins)) [] (capt ini σ) H { s with heap := h1, toks := t' } := by
  have hin : ∀ x c, (closF X.env.cells sc.names []).lookup x = some c → X.env.cells.lookup x = some c := closF_in sc.names [] (fun x c e => by simp at e)
  refine ⟨blk_ok I hk hcell hfr rfl hf, rfl, I.bare, Un.kept kp, ⟨_, hn, fun i x v e1 e2 e3 => ?_⟩, fun x c e => ?_, I.hok.fresh (Nat.le_refl _), fun x c e => I.freeC x c (hin _ _ e), fun p hp => ?_, I.hok.kept kp, ?_⟩
  · have e1' : N[i]? = some x := e1
    have e2' : (capt ini σ)[i]? = some (some v) := e2
    unfold capt at e2'
    rw [List.getElem?_map] at e2'
    cases hi : ini[i]? with
    | none => rw [hi] at e2'; cases e2'
    | some o =>
      rw [hi] at e2'
      cases o with
      | none => cases e2'
      | some j =>
        have e4 : (σ[j]?).join = some v := Option.some.inj e2'
        have e5 : σ[j]? = some (some v) := by
          cases q : σ[j]? with
          | none => rw [q] at e4; cases e4
          | some z => rw [q] at e4; exact congrArg some e4
        obtain ⟨a1, a2, a3⟩ := hini i x j e1' hi
        obtain ⟨m, hm, hl⟩ := I.loc
        have hvis : Vis X.env.scope x := by
          rcases a3 with z | z
          · exact .inr (.inl z)
          · exact .inr (.inr z)
        obtain ⟨u, r, l⟩ := hl j x v a1 e5 hvis
        refine ⟨u, r, .inr ⟨?_, ?_⟩⟩
        · have hm2 := PySem.mem_of_lookup a2
          have e3' : Vis (relabel sc X.env) x := e3
          rcases e3' with z | z | z
          · exfalso
            have m1 := PySem.mem_of_lookup z
            obtain ⟨⟨n', k'⟩, m2, m3⟩ := List.mem_map.mp m1
            dsimp only at m3
            have key : ∀ {ns : List (Str × NameKind)}, ns.lookup x = some .free → (ns.map fun (n, k) => if (k == NameKind.free && X.env.scope.kind == .function && X.env.kindOf n == some .cell) then (n, NameKind.cell) else (n, k)).lookup x ≠ some .local := by
              intro ns
              induction ns with
              | nil => intro q; simp at q
              | cons y r ih =>
                obtain ⟨n, k⟩ := y
                intro q
                rw [List.lookup_cons] at q
                rw [List.map_cons]
                dsimp only
                cases hx : x == n with
                | true =>
                  rw [hx] at q
                  have q' : k = .free := Option.some.inj q
                  subst q'
                  split
                  · rw [List.lookup_cons, hx]; intro z; cases z
                  · rw [List.lookup_cons, hx]; intro z; cases z
                | false =>
                  rw [hx] at q
                  split
                  · rw [List.lookup_cons, hx]; exact ih q
                  · rw [List.lookup_cons, hx]; exact ih q
            exact key a2 z
          · exact .inl z
          · exact .inr z
        · rcases l with ⟨k1, _⟩ | ⟨_, c, hc, hcl⟩
          · exfalso
            rcases a3 with z | z
            · rw [z] at k1; cases k1
            · rw [z] at k1; cases k1
          · have hh := closF_has (cells := X.env.cells) sc.names [] (PySem.mem_of_lookup a2) ⟨c, hc⟩
            obtain ⟨c', hc'⟩ := Option.isSome_iff_exists.mp hh
            have : c' = c := by
              have q := hin _ _ hc'
              rw [hc] at q
              exact (Option.some.inj q).symm
            subst this
            obtain ⟨oc, hoc, hod⟩ := hcl
            exact ⟨c', hc', oc, kp _ _ hoc, hod⟩
  · obtain ⟨v, oc, hoc, hod⟩ := I.cell x c (hin _ _ e)
    exact ⟨v, oc, kp _ _ hoc, hod⟩
  · have hp' : p ∈ X.pn ++ pins := by simpa [blk] using hp
    obtain ⟨e, n, ne, nf, d⟩ := I.pin p hp'
    refine ⟨kp _ _ e, n, Nat.ne_of_lt (Heap.lt_size e), fun z => ?_, d⟩
    rcases List.mem_cons.mp (I.stkSub p.1 z) with q | q
    · exact ne q
    · exact nf q
  · unfold capt
    show (ini.map _).length = N.length
    rw [List.length_map]
    exact hlen.symm
end
end L2
namespace L2
open PySem PySem.Spec PyProof.Rows
section
variable {X : Cx} {elt iter tg : Expr} {ifs : List Expr} {sc : Scope} {pos : Pos} {N : List Str} {ini : List (Option Nat)} {wi : TI} {g : TG} {tt : TT} {te : TE}
theorem comp_core {pins : List (Addr × Obj)} {σ : St} {H : Hp} {s : Shared} {Q : VK} {use : Option (Value → Sem Unit)} {Q' : Value → Shared → Prop} {p : Pos} (hc : X.calm = true) (hi : PI X tg iter wi)
    (hsc : scB sc = true) (hfr : frB X.env.scope.names sc = true) (hlen : N.length = ini.length) (hini : iniB X.N N ini X.env.scope.names sc = true)
    (hg : ∀ C s H fp pn, PG (blk X sc N C s H fp pn) tg g) (ht : ∀ C s H fp pn, PIf (blk X sc N C s H fp pn) ifs tt) (he : ∀ C s H fp pn, PE (blk X sc N C s H fp pn) elt te)
    (hs : ∀ x, foldedSetIterable iter X.env x = pure x) (I : Inv X pins σ H s) (h : tComp wi ini g tt te σ H Q)
    (hfin : ∀ (D : Addr) (H' : Hp) (s' : Shared) (C : Addr) (m : Str → Option Value), Inv X pins σ H' s' → FpOk X pins H' C → s'.heap.Ns C m → Q (.ref D) H' → compPost (model X.prog X.w) X.A X.xe use Q' (.ref D) C (.ok .next) s') :
    wpAny (model X.prog X.w) X.A (comprehension (.ListComp elt [⟨tg, iter, ifs, 0⟩] sc pos) sc X.env p (newList []) false (eval iter X.env) use) Q' X.xe s := by
  have hsc' := hsc
  unfold scB at hsc'
  rw [Bool.and_eq_true, Bool.and_eq_true] at hsc'
  obtain ⟨⟨hk0, hcell0⟩, hnames0⟩ := hsc'
  have hk : sc.kind = .function := of_decide_eq_true hk0
  have hcell : ∀ y ∈ sc.names, y.2 ≠ .cell := fun y hy => of_decide_eq_true (List.all_eq_true.mp hcell0 y hy)
  have hnames : ∀ y ∈ sc.names, y.2 = .local → sc.names.lookup y.1 = some .local := fun y hy hl => by
    have q := List.all_eq_true.mp hnames0 y hy
    rw [decide_eq_true hl] at q
    exact of_decide_eq_true (by simpa using q)
  have hfrP : ∀ y ∈ sc.names, y.2 = .free → X.env.kindOf y.1 = some .cell ∨ X.env.kindOf y.1 = some .free := fun y hy hl => by
    have q := List.all_eq_true.mp hfr y hy
    rw [decide_eq_true hl] at q
    have q2 : decide (X.env.scope.names.lookup y.1 = some .cell) = true ∨ decide (X.env.scope.names.lookup y.1 = some .free) = true := by simpa using q
    rcases q2 with z | z
    · exact .inl (of_decide_eq_true z)
    · exact .inr (of_decide_eq_true z)
  have hiniP : ∀ (i : Nat) (x : Str) (j : Nat), N[i]? = some x → ini[i]? = some (some j) → X.N[j]? = some x ∧ sc.names.lookup x = some .free ∧ (X.env.kindOf x = some .cell ∨ X.env.kindOf x = some .free) := fun i x j e1 e2 => by
    have hm : (x, some j) ∈ N.zip ini := by
      refine List.mem_of_getElem? (i := i) ?_
      rw [List.getElem?_zip_eq_some]
      exact ⟨e1, e2⟩
    have q := List.all_eq_true.mp hini _ hm
    dsimp only at q
    rw [Bool.and_eq_true, Bool.and_eq_true, Bool.or_eq_true] at q
    obtain ⟨⟨q1, q2⟩, q3⟩ := q
    refine ⟨of_decide_eq_true q1, of_decide_eq_true q2, ?_⟩
    rcases q3 with z | z
    · exact .inl (of_decide_eq_true z)
    · exact .inr (of_decide_eq_true z)
  refine wpAny_comprehension_free (use := use) rfl hs (closureFor_eq fun y hy hl => I.ok.has y.1 (hfrP y hy hl)) hk hnames ?_
  refine thn (hi pins s σ H _ I h) fun v s1 h1 => thn h1 fun itv s2 h2 => ?_
  obtain ⟨it, fp, tn, J, H2, e, I2, T, st2, f2, step⟩ := h2
  subst e
  refine wpAny_newObj_type (wpAny_newFunctionEnv hcell (by intro y hy; simp at hy) (fun h1 hns1 hsb1 => ?_) hk)
  dsimp only at hns1 hsb1 ⊢
  have hD : H2 s2.heap.objs.size = none := I2.hok.fresh (Nat.le_refl _)
  have kp3 : ∀ b o, s2.heap.get? b = some o → (s2.heap.push { cls := .type "list", dict := none, data := .seq ([] : List Value).toArray }).get? b = some o := fun b o e => Heap.get?_push_of_some _ e
  have I3 : Inv X pins σ (upd H2 s2.heap.objs.size (.lst [])) { s2 with heap := s2.heap.push { cls := .type "list", dict := none, data := .seq ([] : List Value).toArray } } :=
    I2.laid (t' := s2.toks) kp3 (Nat.le_refl _) ⟨Nat.zero_le _, [], 0, .nil, Heap.get?_push_size _ rfl⟩
  obtain ⟨W, ⟨m0, w0⟩, turn⟩ := step s2.heap.objs.size hD
  generalize hs3 : ({ s2 with heap := s2.heap.push { cls := .type "list", dict := none, data := .seq ([] : List Value).toArray } } : Shared) = s3 at I3
  have e3h : s3.heap = s2.heap.push { cls := .type "list", dict := none, data := .seq ([] : List Value).toArray } := by rw [← hs3]
  rw [← e3h] at hns1 hsb1 kp3 ⊢
  have sz3 : s2.heap.objs.size < s3.heap.objs.size := by rw [e3h, Heap.size_push]; exact Nat.lt_succ_self _
  have hf3 : ∀ b ∈ fp, FpOk X pins (upd H2 s2.heap.objs.size (.lst [])) b ∧ b < s3.heap.objs.size := fun b hb => by
    obtain ⟨o, eo, _⟩ := T.obj 0 _ st2 b hb
    have lt := Heap.lt_size eo
    obtain ⟨f0, fr⟩ := f2 b hb
    exact ⟨⟨by rw [upd_ne (Nat.ne_of_lt lt)]; exact f0, fr⟩, Nat.lt_trans lt sz3⟩
  have kp4 : ∀ b o, s3.heap.get? b = some o → h1.get? b = some o := fun b o e => (hsb1.2 b (Nat.ne_of_lt (Heap.lt_size e))).trans (Heap.get?_push_of_some _ e)
  have I4 : Inv (blk X sc N s3.heap.objs.size s3 (upd H2 s2.heap.objs.size (.lst [])) fp (X.pn ++ pins)) [] (capt ini σ) (upd H2 s2.heap.objs.size (.lst [])) { s3 with heap := h1, toks := s3.toks + ([] : List (Str × Value)).length } :=
    blk_inv I3 hk hcell hfrP hf3 hlen hiniP hns1 kp4
  have st4 : tn 0 h1 := T.keep 0 _ _ st2 fun b hb o e => kp4 b o (kp3 b o e)
  have e4s : ({ s2 with heap := h1, toks := s2.toks + ([] : List (Str × Value)).length } : Shared) = { s3 with heap := h1, toks := s3.toks + ([] : List (Str × Value)).length } := by rw [← hs3]
  have stat : ∀ {H' : Hp}, (∀ b ∈ fp, H' b = none) → ∀ b ∈ fp, FpOk (blk X sc N s3.heap.objs.size s3 (upd H2 s2.heap.objs.size (.lst [])) fp (X.pn ++ pins)) [] H' b := fun {H'} hn b hb => by
    obtain ⟨⟨f0, f1, f2', f3, f4, f5⟩, lt⟩ := hf3 b hb
    refine ⟨hn b hb, Nat.ne_of_lt lt, fun z => ?_, .inl hb, fun x c e => f4 x c (closF_in sc.names [] (fun x c e => by simp at e) x c e), fun p hp => f5 p (by simpa [blk] using hp)⟩
    rcases List.mem_cons.mp (I3.stkSub b z) with q | q
    · exact f1 q
    · exact f2' q
  have loop : ∀ s4 : Shared, s4 = { s3 with heap := h1, toks := s3.toks + ([] : List (Str × Value)).length } → codeAny (model X.prog X.w) X.A (.compLoop (.ListComp elt [⟨tg, iter, ifs, 0⟩] sc pos) 0 (.ref it) (.ref s2.heap.objs.size) (compEnvC sc (closF X.env.cells sc.names []) s3.heap.objs.size X.env))
      (compPost (model X.prog X.w) X.A X.xe use Q' (.ref s2.heap.objs.size) s3.heap.objs.size) s4 := by
    rintro s4 rfl
    refine compLoop_gen (fun n s' => ∃ i σ' H', Inv (blk X sc N s3.heap.objs.size s3 (upd H2 s2.heap.objs.size (.lst [])) fp (X.pn ++ pins)) [] σ' H' s' ∧ tn i s'.heap ∧ (∀ b ∈ fp, H' b = none) ∧ W i n σ' H') ?_ m0
      ⟨0, _, _, I4, st4, fun b hb => (hf3 b hb).1.1, w0⟩
    rintro n s5 ⟨i, σ5, H5, I5, st5, fr5, w5⟩
    rcases turn i n σ5 H5 w5 with ⟨stop, q⟩ | ⟨go, N', hN', step'⟩
    · refine thn (T.done (blk X sc N s3.heap.objs.size s3 (upd H2 s2.heap.objs.size (.lst [])) fp (X.pn ++ pins)) rfl rfl rfl hc i [] s5 σ5 H5 _ I5 (stat fr5) st5 stop) fun r s6 ⟨hr, I6⟩ => ?_
      subst hr
      have un : Un (frs X.stack) fp H2 H5 s2.heap s6.heap := (Un.laid (fs := frs X.stack) (ex := fp) kp3 (Nat.le_refl _) hD).trans I6.base
      have os6 : s6.os = s2.os := I6.os.trans (show s3.os = s2.os by rw [← hs3])
      have IX : Inv X pins σ H5 s6 := I2.call' (ch := fp) os6 un I6.hok I6.bare fun b hb => by
        obtain ⟨⟨f0, f1, f2', f3, f4, f5⟩, lt⟩ := hf3 b hb
        exact ⟨f3, f1, f4, f5⟩
      obtain ⟨m, hm, _⟩ := I6.loc
      exact hfin _ H5 s6 s3.heap.objs.size m IX (I2.fpOk (Nat.le_of_lt sz3) I6.free) hm q
    · refine thn (T.item (blk X sc N s3.heap.objs.size s3 (upd H2 s2.heap.objs.size (.lst [])) fp (X.pn ++ pins)) rfl rfl rfl hc i [] s5 σ5 H5 _ I5 (stat fr5) st5 go) fun r s6 ⟨u, hr, h6⟩ => ?_
      subst hr
      refine thn h6 fun _ s7 ⟨x, H7, I7, r7, y7, st7, fr7⟩ => ?_
      have I7' := I7.pinned (stat fr7) (T.obj _ _ st7)
      refine thn (hg _ _ _ _ _ _ s7 σ5 H7 x u _ I7' r7 (step' x H7 y7)) fun _ s8 ⟨σ8, H8, I8, q8⟩ => ?_
      refine thn (ht _ _ _ _ _ _ s8 σ8 H8 _ I8 q8) fun ok s9 ⟨H9, I9, q9⟩ => ?_
      have again : ∀ {σ' : St} {H' : Hp} {s' : Shared}, Inv (blk X sc N s3.heap.objs.size s3 (upd H2 s2.heap.objs.size (.lst [])) fp (X.pn ++ pins)) ([] ++ pinsAt fp s7.heap) σ' H' s' → N' σ' H' →
          ∃ m, m < n ∧ ∃ i σ' H', Inv (blk X sc N s3.heap.objs.size s3 (upd H2 s2.heap.objs.size (.lst [])) fp (X.pn ++ pins)) [] σ' H' s' ∧ tn i s'.heap ∧ (∀ b ∈ fp, H' b = none) ∧ W i m σ' H' := fun {σ' H' s'} J n' => by
        obtain ⟨m', hm, w'⟩ := hN' σ' H' n'
        refine ⟨m', hm, i + 1, σ', H', J.unpinned, T.keep _ _ _ st7 fun b hb o e => (J.pin (b, o) (List.mem_append_right _ (List.mem_append_right _ (mem_pinsAt hb e)))).1, fun b hb => ?_, w'⟩
        obtain ⟨o, e, d⟩ := T.obj _ _ st7 b hb
        exact (J.pin (b, o) (List.mem_append_right _ (List.mem_append_right _ (mem_pinsAt hb e)))).2.1
      cases ok with
      | false =>
        rw [if_neg Bool.false_ne_true] at q9 ⊢
        exact again I9 q9
      | true =>
        rw [if_pos rfl] at q9 ⊢
        refine thn (he _ _ _ _ _ _ s9 σ8 H9 _ I9 q9) fun v10 s10 ⟨x10, H10, I10, r10, ys, hys, hyl, q10⟩ => ?_
        refine thn (mt_append _ s10 σ8 H10 (.ref s2.heap.objs.size) [x10] _ [v10] (fun _ H' => N' σ8 H') I10 rfl (.cons r10 .nil) ⟨_, ys, x10, rfl, rfl, hys, hyl, q10⟩) fun _ s11 ⟨_, H11, I11, _, q11⟩ => ?_
        exact again I11 q11
  have fin := codeAny_compStart_list (R := compPost (model X.prog X.w) X.A X.xe use Q' (.ref s2.heap.objs.size) s3.heap.objs.size) (loop _ rfl) (T.self X.A 0 { s3 with heap := h1, toks := s3.toks + ([] : List (Str × Value)).length } _ _ st4 (loop _ rfl))
  rw [← e4s] at fin
  exact fin
theorem pe_comp (hc : X.calm = true) (hi : PI X tg iter wi) (hg : ∀ C s H fp pn, PG (blk X sc N C s H fp pn) tg g) (ht : ∀ C s H fp pn, PIf (blk X sc N C s H fp pn) ifs tt) (he : ∀ C s H fp pn, PE (blk X sc N C s H fp pn) elt te)
    (hsc : scB sc = true := by rfl) (hfr : frB X.env.scope.names sc = true := by rfl) (hlen : N.length = ini.length := by rfl) (hini : iniB X.N N ini X.env.scope.names sc = true := by rfl)
    (hs : ∀ x, foldedSetIterable iter X.env x = pure x := by intro _; rfl) : PE X (.ListComp elt [⟨tg, iter, ifs, 0⟩] sc pos) (tComp wi ini g tt te) := by
  intro pins s σ H Q I h
  rw [eval_ListComp]
  refine comp_core (use := none) hc hi hsc hfr hlen hini hg ht he hs I h fun D H' s' C m I' f hn q => ?_
  obtain ⟨f0, f1, f2, f3, f4, f5⟩ := f
  exact ⟨m, hn, fun h' sb => ⟨.ref D, H', I'.turned (it := C) (t' := s'.toks) (fun b o hb e => (sb.2 b hb).trans e) f0 f1 f3 f4 f5, rfl, q⟩⟩
def tSetC (i : Nat) (te : TE) : TS := fun D σ H => te σ H fun v H1 => D.nx (σ.set i (some v)) H1
theorem ps_setC {i : Nat} {y : Str} {py spos : Pos} (hN : X.N.Nodup) (hiy : X.N[i]? = some y) (hx : Loc X.env.scope y) (hc : X.calm = true) (hi : PI X tg iter wi) (hg : ∀ C s H fp pn, PG (blk X sc N C s H fp pn) tg g) (ht : ∀ C s H fp pn, PIf (blk X sc N C s H fp pn) ifs tt) (he : ∀ C s H fp pn, PE (blk X sc N C s H fp pn) elt te)
    (hf : X.fn y = true ∨ X.env.scope.names.lookup y = some .local := by first | exact .inl rfl | exact .inr rfl | assumption)
    (hsw : swapsWith (.ListComp elt [⟨tg, iter, ifs, 0⟩] sc pos) (some (.Name y py)) spos.line X.env = pure true := by rfl)
    (hsc : scB sc = true := by rfl) (hfr : frB X.env.scope.names sc = true := by rfl) (hlen : N.length = ini.length := by rfl) (hini : iniB X.N N ini X.env.scope.names sc = true := by rfl)
    (hs : ∀ x, foldedSetIterable iter X.env x = pure x := by intro _; rfl) : PS X (.Assign [.Name y py] (.ListComp elt [⟨tg, iter, ifs, 0⟩] sc pos) spos) (tSetC i (tComp wi ini g tt te)) := by
  intro pins s σ H D I h
  rw [exec_Assign_Name_used _ _ _ _ hsw]
  refine wpAny_bind (wpAny_standAt (wpAny_bind ?_))
  show wpAny _ X.A (do let _ ← comprehension (.ListComp elt [⟨tg, iter, ifs, 0⟩] sc pos) sc X.env _ (newList []) false (eval iter X.env) (some (assign (.Name y py) X.env))) _ _ s
  refine wpAny_bind (wpAny_mono (comp_core (use := some (assign (.Name y py) X.env)) (Q' := fun _ s' => SP X pins D .next s') hc hi hsc hfr hlen hini hg ht he hs I h fun D' H' s' C m I' f hn q => ?_) (fun _ s' hq => wpAny_pure (wpAny_pure hq)) fun _ _ e => e)
  obtain ⟨f0, f1, f2, f3, f4, f5⟩ := f
  show wpAny _ X.A (assign (.Name y py) X.env (.ref D')) _ _ _
  refine wpAny_assign_Name (store_ok2 I' hN hiy hx (v := .ref D') rfl (fun s'' I'' sb => ?_) hf)
  obtain ⟨a, sb, ha⟩ := sb
  have hCa : C ≠ a := by
    rcases ha with z | z
    · rw [z]; exact f1
    · exact fun e => f4 y a z e.symm
  refine ⟨m, hn.sameBut sb hCa, fun h' sb' => ⟨_, H', I''.turned (it := C) (t' := s''.toks) (fun b o hb e => (sb'.2 b hb).trans e) f0 f1 f3 f4 f5, q⟩⟩
end
section
variable {g : TG} {tt : TT} {te : TE} {H : Hp} {D : Addr} {σ : St} {R : Hp → Prop}
theorem comp_range {lo : Int} {n : Nat} (Pv : Nat → St → Hp → Prop) (h0 : Pv 0 σ H)
    (hs : ∀ i σ H, i < n → Pv i σ H → g (.int (lo + i)) σ H fun σ3 H3 => tt σ3 H3 fun b H4 => if b = true then te σ3 H4 (fun v H5 => ∃ ys, H5 D = some (.lst ys) ∧ ys.length < sizeLine ∧ Pv (i + 1) σ3 (upd H5 D (.lst (ys ++ [v])))) else Pv (i + 1) σ3 H4)
    (hd : ∀ σ H, Pv n σ H → R H) :
    ∃ W : Nat → Nat → St → Hp → Prop, (∃ m, W 0 m σ H) ∧ ∀ i m σ' H', W i m σ' H' → ((Itr lo n).stop i H' ∧ R H') ∨ ((Itr lo n).go i H' ∧ ∃ N : St → Hp → Prop, (∀ σ2 H2, N σ2 H2 → ∃ m', m' < m ∧ W (i + 1) m' σ2 H2) ∧
      ∀ x H2, (Itr lo n).yld i H' x H2 → g x σ' H2 fun σ3 H3 => tt σ3 H3 fun b H4 => if b = true then te σ3 H4 (fun v H5 => ∃ ys, H5 D = some (.lst ys) ∧ ys.length < sizeLine ∧ N σ3 (upd H5 D (.lst (ys ++ [v])))) else N σ3 H4) := by
  refine ⟨fun i m σ H => m = n - i ∧ i ≤ n ∧ Pv i σ H, ⟨n, by simp, Nat.zero_le _, h0⟩, ?_⟩
  rintro i m σ H ⟨rfl, hi, p⟩
  by_cases hlt : i < n
  · refine .inr ⟨hlt, Pv (i + 1), fun σ' H' p' => ⟨n - (i + 1), by omega, rfl, hlt, p'⟩, fun x H' y => ?_⟩
    obtain ⟨e, y⟩ := y
    subst e y
    exact hs i σ _ hlt p
  · have e : i = n := by omega
    subst e
    exact .inl ⟨Nat.le_refl _, hd σ H p⟩
theorem comp_list {K : PySem.W.Frag} {a : Addr} {xs : List V} (Pv : Nat → St → Hp → Prop) (h0 : Pv 0 σ H) (hl : ∀ i σ H, i ≤ xs.length → Pv i σ H → SqL K H a xs)
    (hs : ∀ i x σ H, xs[i]? = some x → Pv i σ H → g x σ H fun σ3 H3 => tt σ3 H3 fun b H4 => if b = true then te σ3 H4 (fun v H5 => ∃ ys, H5 D = some (.lst ys) ∧ ys.length < sizeLine ∧ Pv (i + 1) σ3 (upd H5 D (.lst (ys ++ [v])))) else Pv (i + 1) σ3 H4)
    (hd : ∀ σ H, Pv xs.length σ H → R H) :
    ∃ W : Nat → Nat → St → Hp → Prop, (∃ m, W 0 m σ H) ∧ ∀ i m σ' H', W i m σ' H' → ((Itl K a).stop i H' ∧ R H') ∨ ((Itl K a).go i H' ∧ ∃ N : St → Hp → Prop, (∀ σ2 H2, N σ2 H2 → ∃ m', m' < m ∧ W (i + 1) m' σ2 H2) ∧
      ∀ x H2, (Itl K a).yld i H' x H2 → g x σ' H2 fun σ3 H3 => tt σ3 H3 fun b H4 => if b = true then te σ3 H4 (fun v H5 => ∃ ys, H5 D = some (.lst ys) ∧ ys.length < sizeLine ∧ N σ3 (upd H5 D (.lst (ys ++ [v])))) else N σ3 H4) := by
  refine ⟨fun i m σ H => m = xs.length - i ∧ i ≤ xs.length ∧ Pv i σ H, ⟨xs.length, by simp, Nat.zero_le _, h0⟩, ?_⟩
  rintro i m σ H ⟨rfl, hi, p⟩
  have q := hl i σ H hi p
  by_cases hlt : i < xs.length
  · refine .inr ⟨⟨xs, xs[i], q, by simp [hlt]⟩, Pv (i + 1), fun σ' H' p' => ⟨xs.length - (i + 1), by omega, rfl, hlt, p'⟩, fun x H' y => ?_⟩
    obtain ⟨e, y⟩ := y
    subst e
    exact hs i x σ _ (y xs q) p
  · have e : i = xs.length := by omega
    subst e
    exact .inl ⟨⟨xs, q, Nat.le_refl _⟩, hd σ H p⟩
end
theorem turn_yes {i : Nat} {v : V} {σ : St} {H : Hp} {A B : St → Hp → Prop} (h : A (σ.set i (some v)) H) : gName i v σ H fun σ3 H3 => tYes σ3 H3 fun b H4 => if b = true then A σ3 H4 else B σ3 H4 := by
  show if true = true then A (σ.set i (some v)) H else B (σ.set i (some v)) H
  rw [if_pos rfl]
  exact h
def sgn (c : Nat) : V := .str ⟨#[c]⟩
def Its (z : Str) : It := ⟨fun i _ => i < z.cps.size, fun i H x H' => H' = H ∧ ∃ c, z.cps[i]? = some c ∧ x = sgn c, fun i _ => z.cps.size = i⟩
def iStr (tl : TE) : TI := fun σ H R => tl σ H fun x H1 => ∃ z, x = .str z ∧ R (Its z) H1
theorem turn_str {P : Program} {w : World} {K : PySem.W.Frag} {tg : Expr} {z : Str} {it : Addr} {n : String} {fl : Nat → Array Value} {St : Nat → Heap → Prop}
    (Wk : ∀ A' : Around, A'.handled = none → Walks P w A' it [it] [it] z.cps.size (SignAt z) St) (hst : ∀ i h, St i h → ∃ o, h.get? it = some o ∧ o.cls = .type n ∧ ∃ a, o.data = .fields a)
    (hn : ["enumerate", "zip", "dict_itemiterator", "dict_reverseitemiterator", "odict_iterator", "itertools.zip_longest", "itertools.pairwise"].contains n = false)
    (hself : ∀ (A : Around) (i : Nat) (s : Shared) (Q : Value → Shared → Prop) (E : Value → Shared → Prop), St i s.heap → Q (.ref it) s → wpAny (model P w) A (pyIter (.ref it)) Q E s) : Turn P w K tg (Its z) [it] it St where
  mem := by simp
  obj := fun i h st b hb => by
    have e : b = it := by simpa using hb
    subst e
    obtain ⟨o, e, _, a, d⟩ := hst i h st
    exact ⟨o, e, fun v z => by rw [d] at z; cases z⟩
  keep := fun i h h' st k => by
    have W0 := Wk callerA rfl
    exact W0.frame i h h' st fun b hb o e => k b hb o e
  item := by
    intro X hP hw hK hc i pins s σ H E I hf st hg
    subst hP hw hK
    obtain ⟨f0, f1, f2, f3, f4, f5⟩ := hf it (by simp)
    have W := Wk X.A (I.ok.hd hc)
    refine W.item i s _ _ hg st fun v h' tk hv st' kk => ?_
    obtain ⟨c, u, hcp, rfl⟩ := hv
    have I1 : Inv X pins σ H { s with heap := h', toks := tk } := I.turned (fun b o hb e => kk b o (by simpa using hb) e) f0 f1 f3 f4 f5
    obtain ⟨o, e, cl, a, d⟩ := hst _ _ st'
    exact ⟨_, rfl, go_of (s := { s with heap := h', toks := tk }) e cl d hn ⟨sgn c, H, I1, ⟨u, rfl⟩, ⟨rfl, c, hcp, rfl⟩, st', fun b hb => (hf b hb).1⟩⟩
  done := by
    intro X hP hw hK hc i pins s σ H E I hf st hg
    subst hP hw hK
    obtain ⟨f0, f1, f2, f3, f4, f5⟩ := hf it (by simp)
    have W := Wk X.A (I.ok.hd hc)
    have hg' : z.cps.size = i := hg
    subst hg'
    exact W.done s _ _ st fun h' tk kk => ⟨rfl, I.turned (fun b o hb e => kk b o (by simpa using hb) e) f0 f1 f3 f4 f5⟩
  self := hself
theorem pi_str {X : Cx} {tg l : Expr} {tl : TE} (hl : PE X l tl) : PI X tg l (iStr tl) := by
  intro pins s σ H R I h
  refine thn (hl pins s σ H _ I h) fun v s1 ⟨x, H1, I1, r1, z, e, q⟩ => ?_
  subst e
  obtain ⟨t, rfl⟩ := r1
  have fin : ∀ (o : Obj) (St : Nat → Heap → Prop) (n : String), Turn X.prog X.w X.K tg (Its z) [s1.heap.objs.size] s1.heap.objs.size St → St 0 (s1.heap.push o) → PIE X pins σ tg R (.ref s1.heap.objs.size) { s1 with heap := s1.heap.push o } := fun o St n T st0 => by
    refine ⟨s1.heap.objs.size, [s1.heap.objs.size], St, Its z, H1, rfl, I1.kept (t' := s1.toks) fun b o e => Heap.get?_push_of_some _ e, T, st0, fun b hb => ?_, q⟩
    have e : b = s1.heap.objs.size := by simpa using hb
    subst e
    exact I1.fpOk (Nat.le_refl _) (I1.hok.fresh (Nat.le_refl _))
  cases ha : z.cps.all (· < 128)
  · refine wpAny_pyIter_wide ha (fin _ (fun i h => h.IsStrIter s1.heap.objs.size "str_iterator" z t i) "str_iterator" (turn_str (n := "str_iterator") (fl := fun _ => #[]) (fun A' hA => Walks.strWide hA _ z t) (fun i h st => ?_) (by decide) (fun A i s Q E st q => wpAny_pyIter_striter_wide st q)) ⟨_, Heap.get?_push_size _ rfl, rfl, rfl⟩)
    obtain ⟨o, e, c, d⟩ := st
    exact ⟨o, e, c, _, d⟩
  · refine wpAny_pyIter_ascii ha (fin _ (fun i h => h.IsStrIter s1.heap.objs.size "str_ascii_iterator" z t i) "str_ascii_iterator" (turn_str (n := "str_ascii_iterator") (fl := fun _ => #[]) (fun A' hA => Walks.strAscii hA _ z t) (fun i h st => ?_) (by decide) (fun A i s Q E st q => wpAny_pyIter_striter_ascii st q)) ⟨_, Heap.get?_push_size _ rfl, rfl, rfl⟩)
    obtain ⟨o, e, c, d⟩ := st
    exact ⟨o, e, c, _, d⟩
theorem comp_str {z : Str} {g : TG} {tt : TT} {te : TE} {H : Hp} {D : Addr} {σ : St} {R : Hp → Prop} (Pv : Nat → St → Hp → Prop) (h0 : Pv 0 σ H)
    (hs : ∀ i c σ H, z.cps[i]? = some c → Pv i σ H → g (sgn c) σ H fun σ3 H3 => tt σ3 H3 fun b H4 => if b = true then te σ3 H4 (fun v H5 => ∃ ys, H5 D = some (.lst ys) ∧ ys.length < sizeLine ∧ Pv (i + 1) σ3 (upd H5 D (.lst (ys ++ [v])))) else Pv (i + 1) σ3 H4)
    (hd : ∀ σ H, Pv z.cps.size σ H → R H) :
    ∃ W : Nat → Nat → St → Hp → Prop, (∃ m, W 0 m σ H) ∧ ∀ i m σ' H', W i m σ' H' → ((Its z).stop i H' ∧ R H') ∨ ((Its z).go i H' ∧ ∃ N : St → Hp → Prop, (∀ σ2 H2, N σ2 H2 → ∃ m', m' < m ∧ W (i + 1) m' σ2 H2) ∧
      ∀ x H2, (Its z).yld i H' x H2 → g x σ' H2 fun σ3 H3 => tt σ3 H3 fun b H4 => if b = true then te σ3 H4 (fun v H5 => ∃ ys, H5 D = some (.lst ys) ∧ ys.length < sizeLine ∧ N σ3 (upd H5 D (.lst (ys ++ [v])))) else N σ3 H4) := by
  refine ⟨fun i m σ H => m = z.cps.size - i ∧ i ≤ z.cps.size ∧ Pv i σ H, ⟨z.cps.size, by simp, Nat.zero_le _, h0⟩, ?_⟩
  rintro i m σ H ⟨rfl, hi, p⟩
  by_cases hlt : i < z.cps.size
  · refine .inr ⟨hlt, Pv (i + 1), fun σ' H' p' => ⟨z.cps.size - (i + 1), by omega, rfl, hlt, p'⟩, fun x H' y => ?_⟩
    obtain ⟨e, c, hcp, y⟩ := y
    subst e y
    exact hs i c σ _ hcp p
  · have e : i = z.cps.size := by omega
    subst e
    exact .inl ⟨rfl, hd σ H p⟩
end L2
namespace L2
open PySem PySem.Spec PyProof.Rows
section
variable {X : Cx}
theorem op_fdivB : OpR X (binaryOp .FloorDiv) (rI (fun _ j => 0 < j ∧ j.natAbs.log2 < 9000) fun i j => .int (i / j)) := opI fun i j _ _ _ _ _ hc q => by
  have h1 : (0 : Int) < j := hc.1
  exact floordiv_int (by omega) (by rw [Int.fdiv_eq_ediv_of_nonneg i (by omega)]; exact q) (.inl (PyProof.noPylong_of_log2 hc.2))
def clsV : V → Option Value
  | .ty n => some (.type n)
  | .ref a => some (.ref a)
  | _ => none
theorem strs_of : ∀ {ys : List Str} {us : List Value}, Vals (ys.map V.str) us → StrsAre us ys
  | [], _, .nil => .nil
  | _ :: _, _, .cons ⟨_, rfl⟩ t => .cons _ _ (strs_of t)
def rJoin (K : PySem.W.Frag) : V → List V → Hp → VK → Prop := fun x xs H Q => ∃ (z : Str) (a : Addr) (ys : List Str), x = .str z ∧ xs = [.ref a] ∧ SqL K H a (ys.map V.str) ∧ (ys.map (·.length)).sum + ys.length * z.length ≤ 16777216 ∧ Q (.str (Txt.join z ys)) H
theorem mt_join : MtR X "str.join" (rJoin X.K) := by
  intro pins s σ H x xs v us Q I rx rs h
  obtain ⟨z, a, ys, rfl, rfl, hq, hz, q⟩ := h
  obtain ⟨t, rfl⟩ := rx
  obtain ⟨u, rfl, ru⟩ := vals1 rs
  cases ru
  obtain ⟨its, r, pl, _⟩ := I.list hq
  exact join_list pl.isList (by simpa using strs_of r) hz fun t' k => ⟨.str _, H, I.tok _, ⟨_, rfl⟩, q⟩
def rAll (K : PySem.W.Frag) : List V → Hp → VK → Prop := fun xs H Q => ∃ (a : Addr) (bs : List Bool), xs = [.ref a] ∧ SqL K H a (bs.map V.bl) ∧ Q (.bl (bs.all id)) H
theorem call_all (hc : X.calm = true) : CallR X (.builtin "all") (rAll X.K) := by
  intro pins s σ H xs us Q I r h
  obtain ⟨a, bs, rfl, hq, q⟩ := h
  obtain ⟨u, rfl, ru⟩ := vals1 r
  cases ru
  obtain ⟨its, rv, pl, hz⟩ := I.list hq
  have hlen := rv.length
  refine call_all_walk (wpAny_pyIter_list pl.isList ⟨s.heap.objs.size, [s.heap.objs.size, a], [s.heap.objs.size], its.toArray.size, _, _, fun i => bs.getD i true, rfl, Walks.list (prog := X.prog) (w := X.w) (A := X.A.in1) (show X.A.in1.handled = none from I.ok.hd hc) s.heap.objs.size a ?_ its.toArray, ⟨⟨_, Heap.get?_push_size _ rfl, rfl, rfl⟩, pl.isList.at fun o e => Heap.get?_push_of_some _ e⟩, ?_, fun h' tk k => ?_⟩)
  · obtain ⟨o, _, e, _⟩ := pl
    exact Nat.ne_of_lt (Heap.lt_size e)
  · intro i v s' Q' E' hv hq'
    have hv' : its[i]? = some v := by simpa using hv
    have hi : i < its.length := (List.getElem?_eq_some_iff.mp hv').1
    have hb : i < bs.length := by rw [List.length_map] at hlen; omega
    obtain ⟨u', hu', ru'⟩ := rv.get (i := i) (x := V.bl bs[i]) (by rw [List.getElem?_map, List.getElem?_eq_getElem hb]; rfl)
    rw [hv'] at hu'
    cases hu'
    cases ru'
    refine wpAny_truthy_bool ?_
    have : bs.getD i true = bs[i] := by rw [List.getD_eq_getElem?_getD, List.getElem?_eq_getElem hb]; rfl
    rw [← this]
    exact hq'
  · have e : ((List.range its.toArray.size).all fun i => bs.getD i true) = bs.all id := by
      have hl2 : its.toArray.size = bs.length := by rw [List.length_map] at hlen; rw [List.size_toArray]; exact hlen.symm
      rw [hl2, Bool.eq_iff_iff, List.all_eq_true, List.all_eq_true]
      constructor
      · intro hh b hb
        obtain ⟨i, hi, rfl⟩ := List.getElem_of_mem hb
        have := hh i (List.mem_range.mpr hi)
        rw [List.getD_eq_getElem?_getD, List.getElem?_eq_getElem hi] at this
        exact this
      · intro hh i hi
        have hi' := List.mem_range.mp hi
        rw [List.getD_eq_getElem?_getD, List.getElem?_eq_getElem hi']
        exact hh _ (List.getElem_mem hi')
    rw [e]
    exact ⟨.bl _, H, I.kept fun b o e => k b o (fun z => by
      have z' : b = s.heap.objs.size := by simpa using z
      exact absurd (Heap.lt_size e) (by rw [z']; exact Nat.lt_irrefl _)) (Heap.get?_push_of_some _ e), rfl, q⟩
end
mutual
inductive DatV (K : PySem.W.Frag) (H : Hp) : V → PyData → Prop
  | non : DatV K H .non .none
  | bl (b : Bool) : DatV K H (.bl b) (.bool b)
  | int (i : Int) : DatV K H (.int i) (.int i)
  | str (z : Str) : DatV K H (.str z) (.str z)
  | lst {a : Addr} {xs : List V} {ds : List PyData} : SqL K H a xs → DatVs K H xs ds → DatV K H (.ref a) (.list ds)
  | tup {a : Addr} {xs : List V} {ds : List PyData} : SqT K H a xs → DatVs K H xs ds → DatV K H (.ref a) (.tuple ds)
inductive DatVs (K : PySem.W.Frag) (H : Hp) : List V → List PyData → Prop
  | nil : DatVs K H [] []
  | cons {x : V} {d : PyData} {xs : List V} {ds : List PyData} : DatV K H x d → DatVs K H xs ds → DatVs K H (x :: xs) (d :: ds)
end
section
variable {X : Cx} {pins : List (Addr × Obj)} {σ : St} {H : Hp} {s : Shared}
mutual
theorem DatV.reads (I : Inv X pins σ H s) : ∀ {x : V} {d : PyData}, DatV X.K H x d → ∀ {v : Value}, RelV x v → ∃ as, Reads s.heap v d as
  | _, _, .non, _, r => by cases r; exact ⟨_, .none⟩
  | _, _, .bl b, _, r => by cases r; exact ⟨_, .bool b⟩
  | _, _, .int i, _, r => by obtain ⟨t, rfl⟩ := r; exact ⟨_, .int i t⟩
  | _, _, .str z, _, r => by obtain ⟨t, rfl⟩ := r; exact ⟨_, .str z t⟩
  | _, _, .lst (a := a) hq hd, _, r => by
    cases r
    obtain ⟨its, rv, ⟨o, n, e, c, dd, dt⟩, _⟩ := I.list hq
    obtain ⟨as, ra⟩ := DatVs.reads I hd rv
    exact ⟨_, .list e c dt (by simpa using ra)⟩
  | _, _, .tup (a := a) hq hd, _, r => by
    cases r
    obtain ⟨its, rv, ⟨o, e, c, n, dt⟩, _⟩ := I.tuple hq
    obtain ⟨as, ra⟩ := DatVs.reads I hd rv
    exact ⟨_, .tuple e c dt (by simpa using ra)⟩
theorem DatVs.reads (I : Inv X pins σ H s) : ∀ {xs : List V} {ds : List PyData}, DatVs X.K H xs ds → ∀ {us : List Value}, Vals xs us → ∃ as, ReadsAll s.heap us ds as
  | _, _, .nil, _, r => by cases r; exact ⟨_, .nil⟩
  | _, _, .cons h t, _, r => by
    cases r with
    | cons r1 r2 =>
      obtain ⟨as, ra⟩ := DatV.reads I h r1
      obtain ⟨bs, rb⟩ := DatVs.reads I t r2
      exact ⟨_, .cons ra rb⟩
end
def rEqD (K : PySem.W.Frag) (neg : Bool) : R2 := fun x y H Q => ∃ d e, DatV K H x d ∧ DatV K H y e ∧ SeqAt.shaped d = true ∧ SeqAt.shaped e = true ∧ Q (.bl (if neg then !PyData.eqv d e else PyData.eqv d e)) H
theorem op_eqD (hu : X.A.units + 64 < cLine) : OpR X (compareOp .Eq) (rEqD X.K false) := by
  intro pins s σ H x y v u Q I rx ry h
  obtain ⟨d, e, hd, he, sd, se, q⟩ := h
  obtain ⟨as, ra⟩ := hd.reads I rx
  obtain ⟨bs, rb⟩ := he.reads I ry
  exact eq_dataH ra rb sd se hu (fin_bl I q rfl)
end
end L2
namespace L2
open PySem PySem.Spec PyProof.Rows
theorem bt_isinstance : bootBuiltins "isinstance" = some (.builtin "isinstance") := by decide +kernel
theorem bt_len : bootBuiltins "len" = some (.builtin "len") := by decide +kernel
theorem bt_max : bootBuiltins "max" = some (.builtin "max") := by decide +kernel
theorem bt_min : bootBuiltins "min" = some (.builtin "min") := by decide +kernel
theorem bt_all : bootBuiltins "all" = some (.builtin "all") := by decide +kernel
theorem bt_int : bootBuiltins "int" = some (.type "int") := by decide +kernel
theorem bt_str : bootBuiltins "str" = some (.type "str") := by decide +kernel
theorem bt_bool : bootBuiltins "bool" = some (.type "bool") := by decide +kernel
theorem bt_list : bootBuiltins "list" = some (.type "list") := by decide +kernel
theorem bt_tuple : bootBuiltins "tuple" = some (.type "tuple") := by decide +kernel
structure FT (K : PySem.W.Frag) (mg : Str → Option Value) (x : Str) (st : Stmt) (ps : List Str) (f : Addr) (fd : FuncData) : Prop where
  mgx : mg x = some (.ref f)
  fn : Fun K x x st f fd
  bd : Binds K fd ps []
section
variable {X : Cx} {x : Str} {st : Stmt} {ps : List Str} {f : Addr} {fd : FuncData} {sp : Sp} {k j : Nat} {p pos : Pos} {e : Expr} {es : List Expr} {t : TA}
theorem pe_callF (F : FT X.K X.mg x st ps f fd) (G : FnOk X.prog X.w X.K X.mg X.base CX0 k f fd ps sp) (hr : Room j X.A) (hk : k ≤ j) (ha : PA X (e :: es) t) (hg : Gl X x := by rfl) (hdb : (x == ("__debug__" : Str)) = false := by decide)
    (he : starEach (e :: es) X.env = (false, eval e X.env) :: starEach es X.env := by rfl) (hpl : (backTo pos (starEach es X.env)).any (·.1) = false := by rfl) : PE X (.Call (.Name x p) (e :: es) [] pos) (tCall sp [] E0 t) :=
  pe_call G (hr.mono hk) hg F.mgx F.fn.kp F.bd .nil pass0 ha hdb he hpl
end
theorem Same.upd {H : Hp} {D : Addr} {o : HO} (h : H D = none) : Same H (upd H D o) := fun b u e => by rw [upd_ne (ne_of_none e h)]; exact e
def Strm (H : Hp) (p : Addr) : Prop := ∃ a b c : Int, H p = some (.lst [.int a, .int b, .int c])
def But (p : Addr) (H H' : Hp) : Prop := (∀ b o, b ≠ p → H b = some o → H' b = some o) ∧ Strm H' p
theorem But.trans {p : Addr} {H H1 H2 : Hp} (a : But p H H1) (b : But p H1 H2) : But p H H2 := ⟨fun c o n e => b.1 c o n (a.1 c o n e), b.2⟩
theorem But.refl {p : Addr} {H : Hp} (s : Strm H p) : But p H H := ⟨fun _ _ _ e => e, s⟩
theorem But.same {p : Addr} {H H1 H2 : Hp} (a : But p H H1) (b : Same H1 H2) : But p H H2 := ⟨fun c o n e => b c o (a.1 c o n e), let ⟨x, y, z, e⟩ := a.2; ⟨x, y, z, b p _ e⟩⟩
theorem Strm.same {p : Addr} {H H1 : Hp} (a : Strm H p) (b : Same H H1) : Strm H1 p := let ⟨x, y, z, e⟩ := a; ⟨x, y, z, b p _ e⟩
theorem But.of {p : Addr} {H H1 : Hp} (a : Strm H p) (b : Same H H1) : But p H H1 := (But.refl a).same b
theorem But.free {p : Addr} {H H' : Hp} (s : Strm H p) (b : But p H H') {D : Addr} (h : H' D = none) : H D = none := by
  by_cases e : D = p
  · obtain ⟨x, y, z, q⟩ := b.2
    rw [e, q] at h
    cases h
  · cases q : H D with
    | none => rfl
    | some o =>
      rw [b.1 D o e q] at h
      cases h
theorem But.updD {p D : Addr} {H H' : Hp} {o : HO} (b : But p H H') (hD : H D = none) (ne : D ≠ p) : But p H (upd H' D o) := by
  refine ⟨fun c u n e => ?_, ?_⟩
  · rw [upd_ne (ne_of_none e hD)]
    exact b.1 c u n e
  · obtain ⟨x, y, z, q⟩ := b.2
    exact ⟨x, y, z, by rw [upd_ne (Ne.symm ne)]; exact q⟩
theorem Strm.ne {p D : Addr} {H : Hp} (s : Strm H p) (hD : H D = none) : D ≠ p := by
  obtain ⟨x, y, z, q⟩ := s
  exact (ne_of_none q hD).symm
theorem ne_strm {p : Addr} {H : Hp} {a : Addr} {o : HO} (s : Strm H p) (h : H a = some o) (hn : ∀ x y z : Int, o ≠ .lst [.int x, .int y, .int z]) : a ≠ p := by
  intro e
  obtain ⟨x, y, z, q⟩ := s
  rw [e, q] at h
  exact hn x y z (Option.some.inj h).symm
def spTake : Sp := fun vs H Q _ => ∃ (p : Addr) (m : Int), vs = [.ref p, .int m] ∧ Strm H p ∧ 0 < m ∧ m.natAbs.log2 < 9000 ∧ ∀ (r : Int) (H' : Hp), 0 ≤ r → r < m → But p H H' → Q (.int r) H'
def spStream : Sp := fun vs H Q _ => ∃ c : Int, vs = [.int c] ∧ ∀ (p : Addr) (H' : Hp), H p = none → Same H H' → Strm H' p → Q (.ref p) H'
def spCell (K : PySem.W.Frag) : Sp := fun vs H Q _ => ∃ (a : Addr) (ns : List Int) (k : Nat), vs = [.ref a, .int k] ∧ SqL K H a (ns.map V.int) ∧ ∀ n : Int, Q (.int n) H
theorem atI_of {xs : List V} {i : Int} {j : Nat} {v : V} (hi : i = j) (h : xs[j]? = some v) : atI xs i = some v := by rw [hi]; exact atI_nat h
theorem ints_at {ns : List Int} {k : Nat} (h : k < ns.length) : atI (ns.map V.int) (k : Int) = some (.int ns[k]) := atI_nat (by rw [List.getElem?_map, List.getElem?_eq_getElem h]; rfl)
theorem hu64_of {A : Around} {k : Nat} (hr : Room k A) : A.units + 64 < cLine := hr.units
end L2
namespace L2
open PySem PySem.Spec PyProof.Rows Builtin Builtin.ObjectAttr
abbrev VEm : List Value := [.type "ValueError", .type "Exception", .type "BaseException", .type "object"]
def xcB (K : PySem.W.Frag) (C fI : Addr) : Bool :=
  PySem.W.findIn K (.ref C) "__getattribute__" == some (some (.builtin "BaseException.__getattribute__")) && PySem.W.findIn K (.ref C) "__getattr__" == some none && PySem.W.findIn K (.ref C) "__setattr__" == some (some (.builtin "object.__setattr__")) &&
  PySem.W.findIn K (.ref C) "__init__" == some (some (.ref fI)) && PySem.W.typeIn K (.ref fI) == some (.type "function") && PySem.W.keepIn K (.ref C) && PySem.W.hasDictIn K C && PySem.W.mroIn K C (.type "BaseException") == some true && PySem.W.mroIn K C (.type "object") == some true &&
  PySem.W.findIn K (.ref C) "__class__" == some (some (.builtin "object.__class__")) && PySem.W.specialIn K (.builtin "object.__class__") "__get__" == some (some (.builtin "getset_descriptor.__get__")) && PySem.W.takesIn K (.builtin "object.__class__") == some true
structure XCls (K : PySem.W.Frag) (C W fI : Addr) : Prop where
  obj : ∃ (nm q : Str) (N : Addr) (bs : List Value) (sn : List Str) (sub : List Value) (ab : Bool) (col : Option Bool) (dd : Option Addr) (k0 k1 k2 k3 k5 : Option Value),
    K.lookup C = some (excClassObj nm q C N bs (.ref W :: VEm) true sn sub ab col dd k0 k1 k2 k3 k5 "ValueError.__new__")
  tl : PySem.W.tailIn K VEm (.ref W :: VEm) = true
  all : xcB K C fI = true
theorem xcB_parts {K : PySem.W.Frag} {C fI : Addr} (h : xcB K C fI = true) :
    (PySem.W.findIn K (.ref C) "__getattribute__" = some (some (.builtin "BaseException.__getattribute__")) ∧ PySem.W.findIn K (.ref C) "__getattr__" = some none ∧ PySem.W.findIn K (.ref C) "__setattr__" = some (some (.builtin "object.__setattr__"))) ∧
    (PySem.W.findIn K (.ref C) "__init__" = some (some (.ref fI)) ∧ PySem.W.typeIn K (.ref fI) = some (.type "function") ∧ PySem.W.keepIn K (.ref C) = true ∧ PySem.W.hasDictIn K C = true) ∧ PySem.W.mroIn K C (.type "BaseException") = some true ∧ PySem.W.mroIn K C (.type "object") = some true ∧
    PySem.W.findIn K (.ref C) "__class__" = some (some (.builtin "object.__class__")) ∧ PySem.W.specialIn K (.builtin "object.__class__") "__get__" = some (some (.builtin "getset_descriptor.__get__")) ∧ PySem.W.takesIn K (.builtin "object.__class__") = some true := by
  unfold xcB at h
  simp only [Bool.and_eq_true, beq_iff_eq] at h
  obtain ⟨⟨⟨⟨⟨⟨⟨⟨⟨⟨⟨a, b⟩, c⟩, d⟩, e⟩, f⟩, g⟩, i⟩, j⟩, k⟩, l⟩, m⟩ := h
  exact ⟨⟨a, b, c⟩, ⟨d, e, f, g⟩, i, j, k, l, m⟩
section
variable {K : PySem.W.Frag} {C W fI : Addr} (c : XCls K C W fI)
include c
theorem XCls.ga : PySem.W.findIn K (.ref C) "__getattribute__" = some (some (.builtin "BaseException.__getattribute__")) := (xcB_parts c.all).1.1
theorem XCls.gh : PySem.W.findIn K (.ref C) "__getattr__" = some none := (xcB_parts c.all).1.2.1
theorem XCls.sa : PySem.W.findIn K (.ref C) "__setattr__" = some (some (.builtin "object.__setattr__")) := (xcB_parts c.all).1.2.2
theorem XCls.ini : PySem.W.findIn K (.ref C) "__init__" = some (some (.ref fI)) := (xcB_parts c.all).2.1.1
theorem XCls.fn : PySem.W.typeIn K (.ref fI) = some (.type "function") := (xcB_parts c.all).2.1.2.1
theorem XCls.kp : PySem.W.keepIn K (.ref C) = true := (xcB_parts c.all).2.1.2.2.1
theorem XCls.hd : PySem.W.hasDictIn K C = true := (xcB_parts c.all).2.1.2.2.2
theorem XCls.mb : PySem.W.mroIn K C (.type "BaseException") = some true := (xcB_parts c.all).2.2.1
theorem XCls.mo : PySem.W.mroIn K C (.type "object") = some true := (xcB_parts c.all).2.2.2.1
theorem XCls.cl : PySem.W.findIn K (.ref C) "__class__" = some (some (.builtin "object.__class__")) := (xcB_parts c.all).2.2.2.2.1
theorem XCls.cg : PySem.W.specialIn K (.builtin "object.__class__") "__get__" = some (some (.builtin "getset_descriptor.__get__")) := (xcB_parts c.all).2.2.2.2.2.1
theorem XCls.ct : PySem.W.takesIn K (.builtin "object.__class__") = some true := (xcB_parts c.all).2.2.2.2.2.2
end
theorem ve_refuse (self : Value) (C W : Addr) : refuseLoop self "__setattr__" (.ref C :: .ref W :: VEm) = pure () := by
  rw [refuseLoop_ref, refuseLoop_ref]
  exact PySem.F.store_ValueError.passes self
theorem XCls.mro {K : PySem.W.Frag} {C W fI : Addr} (c : XCls K C W fI) : ∃ cd, PySem.W.clsIn K C = some cd ∧ cd.mro = .ref C :: .ref W :: VEm ∧ cd.hasDict = true := by
  obtain ⟨nm, q, N, bs, sn, sub, ab, col, dd, k0, k1, k2, k3, k5, l⟩ := c.obj
  unfold PySem.W.clsIn
  rw [l]
  exact ⟨_, rfl, rfl, rfl⟩
section
variable {prog : Program} {w : World} {A : Around} {E : Value → Shared → Prop} {s : Shared} {K : PySem.W.Frag} {x C W fI : Addr} {ox : Obj} {od : Option Obj} {name : Str}
theorem xc_kind : builtinKind "BaseException.__getattribute__" = some .slot := by decide +kernel
theorem xc_split : splitId "BaseException.__getattribute__" = some ("BaseException", "__getattribute__") := by decide +kernel
theorem xc_call {r : Found} {tk : Tok} {R : Result → Shared → Prop} (c : XCls K C W fI) (X : K.In s.heap) (I : PySem.W.InstAt s.heap x ox C od) (hf : PySem.W.findObj K C od name = some r)
    (h : wpAny (model prog w) A.in1 (match r with | .value v => ret v | .bind g b => bindTo g b (.ref x) (.ref C) | .missing => unsupported "none")
      (fun fin s' => match fin with | .done f => R (.ok f) s' | .again c' => c'.quiet = true ∧ codeAny (model prog w) A c' R s') (fun e s' => R (.error e) s') s) (hr : r ≠ .missing) :
    codeAny (model prog w) A (.call (.builtin "BaseException.__getattribute__") ⟨[.ref x, .str name tk], []⟩) R s := by
  have T0 := I.type (M := model prog w)
  have T3 := PySem.W.looks_find (M := model prog w) X I hf
  have T4 : PySem.W.Looks (model prog w) s.heap (isInstance (.ref x) (.type "BaseException")) true := T0.andThen (PySem.W.looks_mroIn X c.mb)
  have ck : ∀ {Q' : Unit → Shared → Prop} {E' : Value → Shared → Prop} {A' : Around}, Q' () s → wpAny (model prog w) A' (checkBuiltinCall "BaseException.__getattribute__" ⟨[.ref x, .str name tk], []⟩) Q' E' s := fun {Q' E' A'} q =>
    @PySem.W.check_slot (model prog w) A' E' s "BaseException.__getattribute__" "BaseException" "__getattribute__" (.ref x) [.str name tk] [] Q' xc_kind xc_split T4 (F.args_bexc_ga (.ref x) (.str name tk)) q
  refine codeAny_call_builtin F.excAttr_ValueError.ga.plain F.entry_bexc_ga (ck ?_)
  unfold Builtin.«object.__getattribute__»
  refine wpAny_bind (wpAny_pure (wpAny_bind (wpAny_pure (wpAny_bind (T0.here (wpAny_bind (T3.here ?_)))))))
  cases r with
  | missing => exact absurd rfl hr
  | value v => exact h
  | bind gg b => exact h
theorem xc_get {v : Value} {expr : Bool} {Q : Value → Shared → Prop} (c : XCls K C W fI) (X : K.In s.heap) (I : PySem.W.InstAt s.heap x ox C od) (hf : PySem.W.findObj K C od name = some (.value v)) (hh : PySem.W.handedIn v = true)
    (q : Q v { s with toks := s.toks + 1 }) : wpAny (model prog w) A (getAttr (.ref x) name expr) Q E s := by
  obtain ⟨hp, g, d, t, os⟩ := s
  have T0 := I.type (M := model prog w)
  have T1 := PySem.W.looks_findIn (M := model prog w) X c.ga
  have T2 := PySem.W.looks_findIn (M := model prog w) X c.gh
  unfold getAttr getAttrBy
  refine wpAny_bind (wpAny_mkText (wpAny_holding (wpAny_bind (T0.at (wpAny_bind (T1.at ?_))))))
  show wpAny _ _ (getAttrByItsOwn (.ref x) _ (.ref C) _ _ _) _ _ _
  unfold getAttrByItsOwn
  refine wpAny_bind (show wpAny _ _ (typeLookup (.ref C) "__getattr__") _ _ _ from T2.at ?_)
  have e0 : callGetattribute (.ref x) (.str name t) (.builtin "BaseException.__getattribute__") expr = boundAndCalled (.builtin "BaseException.__getattribute__") (.ref x) (.str name t) := by cases expr <;> rfl
  rw [e0]
  unfold boundAndCalled
  rw [F.excAttr_ValueError.ga.bind]
  refine wpAny_bind (wpAny_attempt (wpAny_holding (wpAny_bind (wpAny_pure (wpAny_call (xc_call (s := ⟨hp, g, d, t + 1, os⟩) (r := .value v) c X I hf ?_ (fun z => nomatch z)))))))
  refine wpAny_pure ?_
  show wpAny _ _ (handedOut v) _ _ _
  rw [PySem.W.handedOut_of hh]
  exact wpAny_pure q
end
end L2
namespace L2
open PySem PySem.Spec PyProof.Rows Builtin Builtin.ObjectAttr
section
variable {prog : Program} {w : World} {A : Around} {E : Value → Shared → Prop} {s : Shared} {K : PySem.W.Frag} {x C W fI : Addr} {ox : Obj} {od : Option Obj} {name : Str} {v : Value}
theorem xc_osa {tk : Tok} {R : Result → Shared → Prop} (c : XCls K C W fI) (X : K.In s.heap) (I : PySem.W.InstAt s.heap x ox C od) (hn : PySem.W.findIn K (.ref C) name = some none)
    (h : wpAny (model prog w) A.in1 (storeInOwnDict (.ref x) (.ref C) (.str name tk) name v false)
      (fun fin s' => match fin with | .done f => R (.ok f) s' | .again c' => c'.quiet = true ∧ codeAny (model prog w) A c' R s') (fun e s' => R (.error e) s') s) :
    codeAny (model prog w) A (.call (.builtin "object.__setattr__") ⟨[.ref x, .str name tk, v], []⟩) R s := by
  have SF := PySem.F.store_object
  obtain ⟨cd, hc, hm, _⟩ := c.mro
  have T0 := I.type (M := model prog w)
  have sub : PySem.W.Looks (model prog w) s.heap (isInstance (.ref x) (.type "object")) true := T0.andThen (PySem.W.looks_mroIn X c.mo)
  have hmr : PySem.W.Looks (model prog w) s.heap (mroOf (.ref C)) cd.mro := (PySem.W.looks_clsIn X hc).andThen .now
  have T2 := PySem.W.looks_findIn (M := model prog w) X hn
  refine codeAny_call_builtin SF.slot.plain SF.entry (@PySem.W.check_slot (model prog w) _ _ s "object.__setattr__" "object" "__setattr__" (.ref x) [.str name tk, v] [] _ SF.kind SF.split sub (SF.args (.ref x) (.str name tk) v) ?_)
  rw [PySem.W.osa_eq, refuse_eq]
  refine wpAny_bind (wpAny_bind (T0.here (wpAny_bind (hmr.here ?_))))
  rw [hm, ve_refuse]
  exact wpAny_pure (wpAny_bind (T0.here (wpAny_bind (T2.here (wpAny_bind (wpAny_pure h))))))
theorem xc_set_new {vs : Array Value} {Q : Unit → Shared → Prop} (c : XCls K C W fI) (X : K.In s.heap) (hx : s.heap.get? x = some ox) (hcl : ox.cls = .ref C) (hdi : ox.dict = none) (hd : ox.data = .fields vs) (hn : PySem.W.findIn K (.ref C) name = some none)
    (h : ∀ h', (∀ b u, b ≠ x → s.heap.get? b = some u → h'.get? b = some u) → h'.get? x = some { ox with dict := some s.heap.objs.size } → h'.Ns1 s.heap.objs.size (fun y => if y = name then some v else none) → Q () { s with heap := h', toks := s.toks + 2 }) :
    wpAny (model prog w) A (setAttr (.ref x) name v) Q E s := by
  have I : PySem.W.InstAt s.heap x ox C none := ⟨hx, hcl, by unfold PySem.W.notCls; rw [hd], by rw [hdi]; trivial⟩
  obtain ⟨cd, hc, _, hdct⟩ := c.mro
  refine PySem.W.set_plain X I c.sa (xc_osa (s := { s with toks := s.toks + 1 }) c X I hn ?_)
  obtain ⟨oc, odi, oda, osl⟩ := ox
  dsimp only at hcl hdi hd
  subst hcl hdi hd
  refine wpAny_bind (wpAny_pure (wpAny_bind (wpAny_bind (wpAny_loadPart hx (wpAny_bind (PySem.W.Looks.here (s := { s with toks := s.toks + 1 }) (PySem.W.looks_clsIn X hc) ?_))))))
  rw [hdct]
  dsimp only
  simp only [Bool.not_true, Bool.false_eq_true, if_false, typeHasDict, Bool.or_false]
  have e1 : (s.heap.push { cls := .type "dict", data := .dict #[] }).get? x = some ⟨.ref C, none, .fields vs, osl⟩ := Heap.get?_push_of_some _ hx
  have nx : s.heap.objs.size ≠ x := Nat.ne_of_gt (Heap.lt_size hx)
  have n0 : (s.heap.push { cls := .type "dict", data := .dict #[] }).Ns s.heap.objs.size (fun _ => none) := ⟨_, #[], _, Heap.get?_push_size s.heap rfl, rfl, (fun e he => absurd he (by simp)), fun _ => rfl⟩
  refine wpAny_bind (wpAny_alloc (wpAny_bind (wpAny_update e1 ?_)))
  have e2 := Heap.get?_update_self (fun o => { o with dict := some s.heap.objs.size }) e1 rfl
  have n1 : ((s.heap.push { cls := .type "dict", data := .dict #[] }).update x fun o => { o with dict := some s.heap.objs.size }).Ns1 s.heap.objs.size (fun _ => none) :=
    (Heap.Ns1.of_empty n0).at fun o q => by rw [Heap.get?_update_other _ _ (Ne.symm nx)]; exact q
  refine wpAny_pure (wpAny_bind (wpAny_pure (wpAny_bind ?_)))
  refine wpAny_nsSet1 n1 fun h' n2 sb => ?_
  obtain ⟨oD, esD, epD, hoD, hdD, hcD⟩ := n2.count (PySem.Within.cons name v PySem.Within.nil)
  refine wpAny_bind (wpAny_lookBehind hoD (by rw [hdD]; exact pastItsLine_dict (Nat.le_trans hcD (Nat.le_add_left 1 sizeLine))) ?_)
  refine wpAny_pure (h h' (fun b u hb q => ?_) ((sb.2 _ (Ne.symm nx)).trans e2) n2)
  have nb : b ≠ s.heap.objs.size := Nat.ne_of_lt (Heap.lt_size q)
  rw [sb.2 b nb, Heap.get?_update_other _ _ (Ne.symm hb)]
  exact Heap.get?_push_of_some _ q
end
abbrev xTup (us : List Value) : Obj := { cls := .type "tuple", data := .seq us.toArray }
abbrev xObj (C : Addr) (t : Addr) : Obj := { cls := .ref C, data := .fields #[.ref t, .none, .none, .none, .bool false, .none] }
section
variable {prog : Program} {w : World} {A : Around} {E : Value → Shared → Prop} {K : PySem.W.Frag} {C W fI : Addr} {us : List Value} {hp : Heap} {g : Array GenState} {d : Drawn} {t : Nat} {os : OsState}
theorem xc_tcall {Q : PySem.Fin → Shared → Prop} (c : XCls K C W fI) (X : K.In hp) (hz : us.length ≤ sizeLine)
    (h : wpAny (model prog w) A (call (.ref fI) (.ref (hp.objs.size + 1) :: us)) (fun r s' => r = .none ∧ Q (.done (.ret (.ref (hp.objs.size + 1)))) s') E ⟨(hp.push (xTup us)).push (xObj C hp.objs.size), g, d, t, os⟩) :
    wpAny (model prog w) A (Builtin.«type.__call__» ⟨.ref C :: us, []⟩) Q E ⟨hp, g, d, t, os⟩ := by
  obtain ⟨nm, q, N, bs, sn, sub, ab, col, dd, k0, k1, k2, k3, k5, l⟩ := c.obj
  have FV := F.excBase_ValueError
  have kC := X _ _ l
  have TL : OwnTail hp VEm (.ref W :: VEm) := PySem.W.tail_of_in X c.tl
  have up : ∀ b o, hp.get? b = some o → ((hp.push (xTup us)).push (xObj C hp.objs.size)).get? b = some o := fun b o e => Heap.get?_push_of_some _ (Heap.get?_push_of_some _ e)
  have gE : ((hp.push (xTup us)).push (xObj C hp.objs.size)).get? (hp.objs.size + 1) = some ({ cls := .ref C, data := .fields #[.ref hp.objs.size, .none, .none, .none, .bool false, .none] } : Obj) := Heap.get?_push_at (by simp only [Heap.size_push]) rfl
  have X2 := X.keeps up
  have kC2 := X2 _ _ l
  have hcC : (Value.ref C :: .ref W :: VEm).contains (.ref C) = true := by simp
  repeat (first | with_reducible refine wpAny_loadPart_at kC ?_ | with_reducible refine wpAny_madeBy_exc kC ?_ | wp_step)
  refine codeAny_call_builtin_code (Code.quiet_builtin _ FV.quiet) (wpAny_check_new_subT FV TL kC (codeAny_exc_new_subT FV TL kC ?_ hz))
  show wpAny _ _ _ _ _ _
  unfold isInstance
  repeat (first | with_reducible refine wpAny_loadPart_at gE ?_ | (with_reducible refine wpAny_isSubtype_exc kC2 ?_; rw [hcC]) | wp_step)
  show wpAny _ _ (typeLookup (.ref C) _) _ _ _
  refine (PySem.W.looks_findIn X2 c.ini).at (wpAny_holding (wpAny_bind ((PySem.W.bind_fn X2 _ c.fn).at ?_)))
  refine wpAny_bind (wpAny_mono h (fun r s' hr => ?_) fun _ _ z => z)
  obtain ⟨rfl, hQ⟩ := hr
  wp_walk
  exact hQ
theorem xc_make {s : Shared} {Q : Value → Shared → Prop} (c : XCls K C W fI) (X : K.In s.heap) (hz : us.length ≤ sizeLine)
    (h : wpAny (model prog w) (A.under (.builtin "type.__call__" ⟨.ref C :: us, []⟩)) (call (.ref fI) (.ref (s.heap.objs.size + 1) :: us)) (fun r s' => r = .none ∧ Q (.ref (s.heap.objs.size + 1)) s') E { s with heap := (s.heap.push (xTup us)).push (xObj C s.heap.objs.size) }) :
    wpAny (model prog w) A (call (.ref C) us) Q E s := by
  obtain ⟨hp, g, d, t, os⟩ := s
  obtain ⟨nm, q, N, bs, sn, sub, ab, col, dd, k0, k1, k2, k3, k5, l⟩ := c.obj
  have kC := X _ _ l
  have v1 := tc_lookup
  have v2 := tc_bind (.ref C)
  have hT : (⟨hp, g, d, t, os⟩ : Shared).TypeIs (.ref C) "type" := ⟨_, kC, rfl⟩
  refine wpAny_call (codeAny_of_tree ?_)
  show wpAny _ _ (callAny (.ref C) _) _ _ _
  repeat (any_goals (first | assumption | with_reducible refine wpAny_loadPart_at kC ?_ | wp_step))
  exact ⟨rfl, codeAny_call_builtin_at (Code.quiet_builtin _ (by decide +kernel)) entry_typeCall (wpAny_check_type_call_sub kC (xc_tcall c X hz h))⟩
end
end L2
namespace L2
open PySem PySem.Spec PyProof.Rows
def XO (e C : Addr) (dx : Option Addr) (fr : Bool) : HO := .ext fun h => ∃ o vs, h.get? e = some o ∧ o.cls = .ref C ∧ o.dict = dx ∧ o.data = .fields vs ∧ (∃ t, vs[0]? = some (.ref t)) ∧ ∃ y, vs[1]? = some y ∧ (fr = true → y = .none)
def XD (dx : Addr) (fs : List (Str × V)) : HO := .ext fun h => ∃ mA, h.Ns1 dx mA ∧ (∀ f, RelO (fs.lookup f) (mA f)) ∧ PySem.Within mA (fs.map (·.1)) ∧ fs.length ≤ 1000
section
variable {P : Program} {w : World} {H : Hp} {h : Heap} {e C dx : Addr} {od : Option Addr} {fr : Bool} {fs : List (Str × V)}
theorem xo_ok {o : Obj} {vs : Array Value} (he : h.get? e = some o) (h1 : o.cls = .ref C) (h2 : o.dict = od) (h3 : o.data = .fields vs) (h4 : ∃ t, vs[0]? = some (.ref t)) (h5 : ∃ y, vs[1]? = some y ∧ (fr = true → y = .none)) : ObjOk P w H h e (XO e C od fr) :=
  ⟨⟨o, vs, he, h1, h2, h3, h4, h5⟩, ⟨o, he⟩, fun _ _ ⟨o, vs, a, r⟩ k => ⟨o, vs, k o a, r⟩⟩
theorem xo_get (hok : HOk P w H h) (q : H e = some (XO e C od fr)) : ∃ o vs, h.get? e = some o ∧ o.cls = .ref C ∧ o.dict = od ∧ o.data = .fields vs ∧ (∃ t, vs[0]? = some (.ref t)) ∧ ∃ y, vs[1]? = some y ∧ (fr = true → y = .none) := (hok e _ q).1
theorem xd_ok {mA : Str → Option Value} (n : h.Ns1 dx mA) (r : ∀ f, RelO (fs.lookup f) (mA f)) (w' : PySem.Within mA (fs.map (·.1))) (z : fs.length ≤ 1000) : ObjOk P w H h dx (XD dx fs) :=
  ⟨⟨mA, n, r, w', z⟩, (let ⟨o, _, _, q, _⟩ := n; ⟨o, q⟩), fun _ _ ⟨m, a, r⟩ k => ⟨m, a.at k, r⟩⟩
theorem xd_get (hok : HOk P w H h) (q : H dx = some (XD dx fs)) : ∃ mA, h.Ns1 dx mA ∧ (∀ f, RelO (fs.lookup f) (mA f)) ∧ PySem.Within mA (fs.map (·.1)) ∧ fs.length ≤ 1000 := (hok dx _ q).1
theorem xo_inst (hok : HOk P w H h) (q : H e = some (XO e C (some dx) fr)) (qd : H dx = some (XD dx fs)) : ∃ (ox oD : Obj) (mA : Str → Option Value), PySem.W.InstAt h e ox C (some oD) ∧ (∀ n, PySem.W.lookIn n oD = some (mA n)) ∧ ∀ f, RelO (fs.lookup f) (mA f) := by
  obtain ⟨o, vs, he, hc, hd, hf, _⟩ := xo_get hok q
  obtain ⟨mA, n1, r, _⟩ := xd_get hok qd
  obtain ⟨oD, hD, hl⟩ := lookIn_ns n1
  exact ⟨o, oD, mA, ⟨he, hc, by unfold PySem.W.notCls; rw [hf], by rw [hd]; exact hD⟩, hl, r⟩
end
section
variable {X : Cx} {pins : List (Addr × Obj)} {σ : St} {H : Hp} {s : Shared} {e C W fI dx : Addr} {fs : List (Str × V)} {fr : Bool} {f : Str} {v : V} {A : Around} {E : Value → Shared → Prop}
theorem xgetattr_ok {b : Bool} {Q : Value → Shared → Prop} (I : Inv X pins σ H s) (q : H e = some (XO e C (some dx) fr)) (qd : H dx = some (XD dx fs)) (c : XCls X.K C W fI) (n : NoAttr X.K C f) (l : fs.lookup f = some v)
    (h : ∀ u s', Inv X pins σ H s' → RelV v u → Q u s') : wpAny (model X.prog X.w) A (getAttr (.ref e) f b) Q E s := by
  obtain ⟨ox, oD, mA, J, hl, r⟩ := xo_inst I.hok q qd
  obtain ⟨u, hu, ru⟩ := RelO.some_of (v := v) (o := mA f) (by rw [← l]; exact r f)
  exact xc_get c I.kIn J (PySem.W.findObj_own c.hd n rfl (by rw [hl, hu])) (handed_of ru) (h u _ (I.tok _) ru)
theorem xset_new {y : V} {u : Value} {Q : Unit → Shared → Prop} (I : Inv X pins σ H s) (q : H e = some (XO e C none fr)) (c : XCls X.K C W fI) (n : NoAttr X.K C f) (ry : RelV y u)
    (h : ∀ dx s', H dx = none → dx ≠ e → Inv X pins σ (upd (upd H dx (XD dx [(f, y)])) e (XO e C (some dx) fr)) s' → Q () s') : wpAny (model X.prog X.w) A (setAttr (.ref e) f u) Q E s := by
  obtain ⟨o, vs, he, hc, hd, hf, h0, h1⟩ := xo_get I.hok q
  have ne : s.heap.objs.size ≠ e := Nat.ne_of_gt (Heap.lt_size he)
  have hn : H s.heap.objs.size = none := I.hok.fresh (Nat.le_refl _)
  refine xc_set_new c I.kIn he hc hd hf n fun h' kp ke n1 => h s.heap.objs.size _ hn ne ?_
  have hD : h'.get? s.heap.objs.size ≠ none := by obtain ⟨oD, _, _, q1, _⟩ := n1; rw [q1]; exact fun z => nomatch z
  have qd : ∀ m : Hp, ObjOk X.prog X.w m h' s.heap.objs.size (XD s.heap.objs.size [(f, y)]) := fun m => xd_ok n1 (fun g => by
    by_cases z : g = f
    · have zb : (g == f) = true := beq_iff_eq.mpr z
      simp only [List.lookup, zb, if_pos z]; exact ry
    · have zb : (g == f) = false := beq_eq_false_iff_ne.mpr z
      simp only [List.lookup, zb, if_neg z]; exact True.intro) (fun g hg => by
    by_cases z : g = f
    · rw [z]; simp
    · exact absurd (if_neg z) hg) (by simp)
  have un1 : Un X.fs [] H (upd (upd H s.heap.objs.size (XD s.heap.objs.size [(f, y)])) e (XO e C (some s.heap.objs.size) fr)) s.heap h' := by
    have nb : ∀ b ob, s.heap.get? b = some ob → b ≠ s.heap.objs.size := fun b ob z => Nat.ne_of_lt (Heap.lt_size z)
    have sm : ∀ b u', H b = some u' → u' ≠ XO e C none fr → upd (upd H s.heap.objs.size (XD s.heap.objs.size [(f, y)])) e (XO e C (some s.heap.objs.size) fr) b = some u' := fun b u' z d => by
      rw [upd_ne (fun w' : b = e => d (by rw [w', q] at z; exact (Option.some.inj z).symm)), upd_ne (ne_of_none z hn)]; exact z
    refine ⟨fun b ob z n _ _ => kp b ob (fun w' => by rw [w', q] at n; cases n) z, fun b ob z n _ _ => ⟨ob.slots, kp b ob (fun w' => by rw [w', q] at n; cases n) z⟩, fun b ob z n _ => ?_, fun b ob z _ => ?_, fun b xs z => sm b _ z (fun w' => by cases w'), fun b ob u' z => sm b _ z (fun w' => by cases w'), fun b ps z => ⟨#[], by rw [sm b _ z (fun w' => by cases w')]; simp⟩⟩
    · rw [upd_ne (fun w' => by rw [w', q] at n; cases n), upd_ne (nb b ob z)]; exact n
    · by_cases w' : b = e
      · exact ⟨_, by rw [w']; exact ke⟩
      · exact ⟨ob, kp b ob w' z⟩
  refine I.un (t' := s.toks + 2) un1 fun b ob z => ?_
  by_cases w1 : b = e
  · subst w1
    rw [upd_same] at z; cases z
    exact xo_ok ke hc rfl hf h0 h1
  · rw [upd_ne w1] at z
    by_cases w2 : b = s.heap.objs.size
    · subst w2
      rw [upd_same] at z; cases z
      exact qd _
    · rw [upd_ne w2] at z
      have keep : ∀ c' u', H c' = some u' → u' ≠ XO e C none fr → upd (upd H s.heap.objs.size (XD s.heap.objs.size [(f, y)])) e (XO e C (some s.heap.objs.size) fr) c' = some u' := fun c' u' zz d => by
        rw [upd_ne (fun w' : c' = e => d (by rw [w', q] at zz; exact (Option.some.inj zz).symm)), upd_ne (ne_of_none zz hn)]; exact zz
      refine (I.hok b ob z).stay (fun c' v' hc' zz => kp c' v' ?_ zz) (fun c' zz => keep c' _ zz (fun w' => by cases w')) fun c' xs zz => keep c' _ zz (fun w' => by cases w')
      rcases hc' with rfl | hc'
      · exact w1
      · rintro rfl; rw [q] at hc'; cases hc'
theorem Inv.xmade {us : List Value} (I : Inv X pins σ H s) : Inv X pins σ (upd H (s.heap.objs.size + 1) (XO (s.heap.objs.size + 1) C none true)) { s with heap := (s.heap.push (xTup us)).push (xObj C s.heap.objs.size) } := by
  have I1 := I.kept (h' := s.heap.push (xTup us)) (t' := s.toks) fun b u q => Heap.get?_push_of_some _ q
  refine I1.laid (a := s.heap.objs.size + 1) (t' := s.toks) (fun b u q => Heap.get?_push_of_some _ q) (Nat.le_of_eq (Heap.size_push _ _)) ?_
  exact xo_ok (Heap.get?_push_at (by simp only [Heap.size_push]) rfl) rfl rfl rfl ⟨_, rfl⟩ ⟨_, rfl, fun _ => rfl⟩
end
def tFldX (K : PySem.W.Frag) (ta : TE) (f : Str) : TE := fun σ H Q => ta σ H fun x H1 => ∃ e C W fI dx fs v fr, x = .ref e ∧ H1 e = some (XO e C (some dx) fr) ∧ H1 dx = some (XD dx fs) ∧ XCls K C W fI ∧ NoAttr K C f ∧ fs.lookup f = some v ∧ Q v H1
def sFldN (K : PySem.W.Frag) (ta tv : TE) (f : Str) : TS := fun D σ H => tv σ H fun y H1 => ta σ H1 fun x H2 => ∃ e C W fI fr, x = .ref e ∧ H2 e = some (XO e C none fr) ∧ XCls K C W fI ∧ NoAttr K C f ∧ ∀ dx, H2 dx = none → dx ≠ e →
  D.nx σ (upd (upd H2 dx (XD dx [(f, y)])) e (XO e C (some dx) fr))
def tExc (C : Addr) (sp : Sp) (t : TA) : TE := fun σ H Q => t σ H fun vs H1 => vs.length ≤ 1000 ∧ ∀ e, H1 e = none → sp (.ref e :: vs) (upd H1 e (XO e C none true)) (fun v H2 => v = .non ∧ Q (.ref e) H2) E0
section
variable {X : Cx} {o e value : Expr} {f : Str} {pos pos' tpos p : Pos} {ta tv : TE} {C W fI : Addr} {fd : FuncData} {ps : List Str} {sp : Sp} {k j : Nat} {x : Str} {es : List Expr} {t : TA}
theorem pe_fldX (he : PE X e ta) (hb : attributeBase e f X.env (eval e X.env) = eval e X.env) : PE X (.Attribute e f pos) (tFldX X.K ta f) := by
  intro pins s σ H Q I h
  refine attr_of hb (thn (he pins s σ H _ I h) fun u s1 ⟨x, H1, I1, rx, a, C, W, fI, dx, fs, v, fr, ex, q, qd, c, n, l, k⟩ => ?_)
  subst ex
  obtain rfl : u = Value.ref a := rx
  exact xgetattr_ok I1 q qd c n l fun u' s2 I2 ru => ⟨v, H1, I2, ru, k⟩
theorem ps_fldN (ha : PE X o ta) (hv : PE X value tv) (hs : swapsWith value (some (.Attribute o f pos')) pos.line X.env = pure false) : PS X (.Assign [.Attribute o f pos'] value pos) (sFldN X.K ta tv f) := by
  intro pins s σ H D I h
  refine plainObj_wpAny_Assign_Attribute (thn (hv pins s σ H _ I h) fun u s1 ⟨y, H1, I1, ry, q⟩ => thn (ha pins s1 σ H1 _ I1 q) fun ov s2 ⟨x, H2, I2, rx, a, C, W, fI, fr, ex, ea, c, n, q2⟩ => ?_) hs
  subst ex
  obtain rfl : ov = Value.ref a := rx
  exact xset_new I2 ea c n ry fun dx s3 h1 h2 I3 => ⟨σ, _, I3, q2 dx h1 h2⟩
theorem run_exc {pins : List (Addr × Obj)} {σ : St} {H : Hp} {s : Shared} {Q : VK} {us : List Value} {vs : List V} (c : XCls X.K C W fI) (G : FnOk X.prog X.w X.K X.mg X.base CX0 k fI fd ps sp) (hr : Room (k + 1) X.A) (hb : Binds X.K fd ps []) (I : Inv X pins σ H s) (r : Vals vs us) (hz : vs.length ≤ 1000)
    (h : ∀ e, H e = none → sp (.ref e :: vs) (upd H e (XO e C none true)) (fun v H2 => v = .non ∧ Q (.ref e) H2) E0) : wpAny (model X.prog X.w) X.A (call (.ref C) us) (EP X pins σ Q) X.xe s := by
  have hq := h (s.heap.objs.size + 1) (I.hok.fresh (Nat.le_succ _))
  have I2 := Inv.xmade (C := C) (us := us) I
  have r2 : Vals (V.ref (s.heap.objs.size + 1) :: vs) (Value.ref (s.heap.objs.size + 1) :: us) := .cons rfl r
  have hl : (Value.ref (s.heap.objs.size + 1) :: us ++ []).length = ps.length := by
    rw [List.append_nil, ← r2.length, G.len _ _ _ _ hq]
  refine xc_make c I.kIn (by rw [← r.length]; exact Nat.le_trans hz (by decide)) (wpAny_call (codeAny_mono (G.run _ X.stack _ _ ⟨Value.ref (s.heap.objs.size + 1) :: us, []⟩ (Value.ref (s.heap.objs.size + 1) :: us) _ _ E0 (hr.make C us [])
    (I2.env0.make C us []) (by have := hb _ (Value.ref (s.heap.objs.size + 1) :: us) I2.kIn hl; rw [List.append_nil] at this; exact this) r2 hq) fun r s' hq' => ?_))
  cases r with
  | error e => exact False.elim hq'
  | ok fl =>
    cases fl with
    | ret u =>
      obtain ⟨v, H', I3, rv, ev, q3⟩ := I2.after hq'
      subst ev
      exact ⟨rv, ⟨V.ref (s.heap.objs.size + 1), H', I3, rfl, q3⟩⟩
    | next => exact False.elim hq'
    | brk => exact False.elim hq'
    | cont => exact False.elim hq'
theorem pe_exc (c : XCls X.K C W fI) (G : FnOk X.prog X.w X.K X.mg X.base CX0 k fI fd ps sp) (hr : Room j X.A) (hk : k + 1 ≤ j) (hb : Binds X.K fd ps []) (hm : X.mg x = some (.ref C)) (ha : PA X (e :: es) t) (hg : Gl X x := by rfl)
    (hdb : (x == ("__debug__" : Str)) = false := by decide) (he : starEach (e :: es) X.env = (false, eval e X.env) :: starEach es X.env := by rfl) (hpl : (backTo pos (starEach es X.env)).any (·.1) = false := by rfl) :
    PE X (.Call (.Name x p) (e :: es) [] pos) (tExc C sp t) := by
  intro pins s σ H Q I h
  refine wpAny_Call_Name_kw (ld_glob I hg hm ?_ hdb)
  refine PySem.W.callWith_K (h₀ := X.base) I.ok.mod.kin c.kp (thn (ha pos pins s σ H _ I h) fun us s1 ⟨vs, H1, I1, r, z, q⟩ => ⟨I1.kIn, ?_⟩) he hpl
  exact run_exc c G (hr.mono hk) hb I1 r z q
end
section
variable {K : PySem.W.Frag} {C W fI : Addr} {x : Addr}
theorem xkit (c : XCls K C W fI) : PySem.W.KitX K (.ref x) (.ref C) (fun h => ∃ ox od, PySem.W.InstAt h x ox C (some od)) where
  ty := fun _ _ _ ⟨_, _, I⟩ => I.type
  it := fun _ _ X _ => by
    obtain ⟨nm, q, N, bs, sn, sub, ab, col, dd, k0, k1, k2, k3, k5, l⟩ := c.obj
    intro A' Q' E' s' k q
    unfold isType loadHead
    exact wpAny_bind (wpAny_loadPart (k _ _ (X _ _ l)) (wpAny_pure q))
  ne := fun h tp dd its n sl X htp => by
    obtain ⟨nm, q, N, bs, sn, sub, ab, col, dd, k0, k1, k2, k3, k5, l⟩ := c.obj
    refine Bool.eq_false_iff.mpr fun z => ?_
    have e : C = tp := Value.ref.inj (beq_iff_eq.mp z)
    subst e
    have z := congrArg (Option.map (·.cls)) ((X _ _ l).symm.trans htp)
    simp at z
  ca := fun {prog w A E Q s} X ⟨ox, od, I⟩ kq => by
    have hf : PySem.W.findObj K C (some od) "__class__" = some (.bind (.builtin "getset_descriptor.__get__") (.builtin "object.__class__")) := PySem.W.findObj_data (by obtain ⟨cd, hc, _⟩ := c.mro; rw [hc]; rfl) c.cl c.cg c.ct
    obtain ⟨hp, g, d, t, os⟩ := s
    have T0 := I.type (M := model prog w)
    have T1 := PySem.W.looks_findIn (M := model prog w) X c.ga
    have T2 := PySem.W.looks_findIn (M := model prog w) X c.gh
    unfold getAttr? getAttrBy? getAttrBy
    refine wpAny_bind (wpAny_mkText (wpAny_bind (wpAny_attempt (wpAny_holding (wpAny_bind (T0.at (wpAny_bind (T1.at ?_))))))))
    show wpAny _ _ (getAttrByItsOwn (.ref x) _ (.ref C) _ _ _) _ _ _
    unfold getAttrByItsOwn
    refine wpAny_bind (show wpAny _ _ (typeLookup (.ref C) "__getattr__") _ _ _ from T2.at ?_)
    show wpAny _ _ ((holding _ (boundAndCalled (.builtin "BaseException.__getattribute__") (.ref x) (.str "__class__" t))).attempt >>= _) _ _ _
    unfold boundAndCalled
    rw [F.excAttr_ValueError.ga.bind]
    refine wpAny_bind (wpAny_attempt (wpAny_holding (wpAny_bind (wpAny_pure (wpAny_call (xc_call (s := ⟨hp, g, d, t + 1, os⟩) c X I hf ?_ (fun z => nomatch z)))))))
    show wpAny _ _ (holding [_] (call _ [_, .ref x, .ref C]) >>= ret) _ _ _
    refine wpAny_bind (wpAny_holding (wpAny_call (PySem.W.class_get (s := ⟨hp, g, d, t + 1, os⟩) X I c.mo (wpAny_pure ?_))))
    show wpAny _ _ (handedOut (.ref C)) _ _ _
    rw [PySem.W.handedOut_of rfl]
    exact wpAny_pure (wpAny_pure kq)
end
end L2
namespace L2
open PySem PySem.Spec PyProof.Rows
section
variable {M : Model} {A : Around} {E : Value → Shared → Prop} {s : Shared} {env : Env} {outer : List Env} {base : Heap} {L e T : Addr} {oe oT : Obj} {vs ts : Array Value} {Q : Unit → Shared → Prop}
theorem note_core {head : Value} {hadNext : Bool} (hfr : A.frames = some (env :: outer)) (hl : s.heap.FunFrames base (env :: outer)) (hf : env.frame = some L) (he : s.heap.get? e = some oe) (hd : oe.data = .fields vs) (hz : 1 < vs.size)
    (hQ : ∀ h' T, (∀ b o, s.heap.get? b = some o → b ∉ frs (env :: outer) → b ≠ e → h'.get? b = some o) → (∀ b o, s.heap.get? b = some o → b ≠ e → ∃ sl, h'.get? b = some { o with slots := sl }) → s.heap.objs.size ≤ T →
      h'.get? e = some (oe.mapFields (·.setIfInBounds 1 (.ref T))) → (∃ oT ts, h'.get? T = some oT ∧ oT.data = .fields ts ∧ ts[3]? = some (rawInt L)) → Q () { s with heap := h' }) :
    wpAny M A (do let a ← frameOf env; let pl ← entryPlaceOf L hadNext; let b ← EntryCells.newEntry head a .none (rawInt L) .none pl; setField (.ref e) 1 b) Q E s := by
  have hen : e ∉ frs (env :: outer) := fun z => by
    obtain ⟨_, o, ho, nf⟩ := hl.mem z
    rw [he] at ho
    cases ho
    exact nf vs hd
  refine wpAny_bind (wpAny_frameOf_fun hfr hl hf fun h1 sl1 => wpAny_bind (wpAny_entryPlaceOf fun pl hpl => ?_))
  unfold EntryCells.newEntry newFields
  have he1 : h1.get? e = some oe := (sl1.2.1 e hen).trans he
  have nT : h1.objs.size ≠ e := Nat.ne_of_gt (Heap.lt_size he1)
  refine wpAny_bind (wpAny_newObj_type (wpAny_setField (Heap.get?_push_of_some _ he1) hd hz (hQ _ h1.objs.size (fun b o hb hn ne => ?_) (fun b o hb ne => ?_) (Nat.le_of_eq sl1.1.symm) (Heap.get?_update_self _ (Heap.get?_push_of_some _ he1) (Obj.isFreed_of_fields (Obj.data_mapFields hd _))) ?_)) (hpl.sizeOk5 _ _ _ _ _))
  · rw [Heap.get?_update_other _ _ (Ne.symm ne)]
    exact Heap.get?_push_of_some _ ((sl1.2.1 b hn).trans hb)
  · obtain ⟨sl, q⟩ := sl1.2.2 b o hb
    exact ⟨sl, by rw [Heap.get?_update_other _ _ (Ne.symm ne)]; exact Heap.get?_push_of_some _ q⟩
  · refine ⟨_, _, (Heap.get?_update_other _ _ (Ne.symm nT)).trans (Heap.get?_push_size h1 rfl), rfl, ?_⟩
    first | (simp; done) | (rcases hpl with rfl | ⟨_, _, _, _, _, _, _, rfl⟩ <;> simp)
theorem note_first (hfr : A.frames = some (env :: outer)) (hl : s.heap.FunFrames base (env :: outer)) (hf : env.frame = some L) (he : s.heap.get? e = some oe) (hd : oe.data = .fields vs) (h1 : vs[1]? = some .none)
    (hQ : ∀ h' T, (∀ b o, s.heap.get? b = some o → b ∉ frs (env :: outer) → b ≠ e → h'.get? b = some o) → (∀ b o, s.heap.get? b = some o → b ≠ e → ∃ sl, h'.get? b = some { o with slots := sl }) → s.heap.objs.size ≤ T →
      h'.get? e = some (oe.mapFields (·.setIfInBounds 1 (.ref T))) → (∃ oT ts, h'.get? T = some oT ∧ oT.data = .fields ts ∧ ts[3]? = some (rawInt L)) → Q () { s with heap := h' }) :
    wpAny M A (noteFrame (.ref e) env) Q E s := by
  unfold noteFrame
  simp only [hf]
  refine wpAny_bind (wpAny_field he hd h1 ?_)
  rw [if_neg (by decide : ¬ (Value.none != Value.none) = true)]
  exact note_core hfr hl hf he hd (Array.getElem?_eq_some_iff.mp h1).1 hQ
theorem note_next (hfr : A.frames = some (env :: outer)) (hl : s.heap.FunFrames base (env :: outer)) (hf : env.frame = some L) (he : s.heap.get? e = some oe) (hd : oe.data = .fields vs) (h1 : vs[1]? = some (.ref T))
    (hT : s.heap.get? T = some oT) (hdT : oT.data = .fields ts) (h3 : ts[3]? = some .none) (ne : T ≠ e)
    (hQ : ∀ h' T', (∀ b o, s.heap.get? b = some o → b ∉ frs (env :: outer) → b ≠ e → b ≠ T → h'.get? b = some o) → (∀ b o, s.heap.get? b = some o → b ≠ e → b ≠ T → ∃ sl, h'.get? b = some { o with slots := sl }) → s.heap.objs.size ≤ T' →
      h'.get? e = some (oe.mapFields (·.setIfInBounds 1 (.ref T'))) → (∃ oT ts, h'.get? T' = some oT ∧ oT.data = .fields ts ∧ ts[3]? = some (rawInt L)) → Q () { s with heap := h' }) :
    wpAny M A (noteFrame (.ref e) env) Q E s := by
  unfold noteFrame
  simp only [hf]
  refine wpAny_bind (wpAny_field he hd h1 ?_)
  rw [if_pos (by simp : (Value.ref T != Value.none) = true)]
  refine wpAny_bind (wpAny_field hT hdT h3 ?_)
  rw [if_neg (by simp [rawInt] : ¬ (Value.none == rawInt L) = true)]
  have ot : ∀ b, b ≠ T → (s.heap.update T (Obj.mapFields (·.setIfInBounds 3 Value.none))).get? b = s.heap.get? b := fun b hb => Heap.get?_update_other _ _ (Ne.symm hb)
  have nr : ∀ b o, s.heap.get? b = some o → (∀ ws, o.data ≠ .fields ws) → b ≠ T := fun b o hb nf z => by
    rw [z, hT] at hb
    cases hb
    exact nf ts hdT
  refine wpAny_bind (wpAny_setField hT hdT (Array.getElem?_eq_some_iff.mp h3).1 ?_)
  refine note_core (s := { s with heap := s.heap.update T (Obj.mapFields (·.setIfInBounds 3 Value.none)) }) hfr (hl.of_keeps fun b o hb nf => ⟨o, (ot b (nr b o hb nf)).trans hb, rfl⟩) hf ((ot e (Ne.symm ne)).trans he) hd (Array.getElem?_eq_some_iff.mp h1).1 fun h' T' k1 k2 k3 k4 k5 => ?_
  refine hQ h' T' (fun b o hb hn h1 h2 => k1 b o ((ot b h2).trans hb) hn h1) (fun b o hb h1 h2 => k2 b o ((ot b h2).trans hb) h1) ?_ k4 k5
  have z : (s.heap.update T (Obj.mapFields (·.setIfInBounds 3 Value.none))).objs.size = s.heap.objs.size := Heap.size_after_update ..
  rw [← z]; exact k3
end
def Flt (X : Cx) (pins : List (Addr × Obj)) (H : Hp) (h : Heap) (e : Addr) (fl : Value) : Prop :=
  ∃ oe vs T oT ts, h.get? e = some oe ∧ oe.data = .fields vs ∧ vs[1]? = some (.ref T) ∧ H T = none ∧ h.get? T = some oT ∧ oT.data = .fields ts ∧ ts[3]? = some fl ∧ X.s₀.heap.objs.size ≤ T ∧ ∀ p ∈ X.pn ++ pins, p.1 ≠ T
def OnStack (X : Cx) : Prop := X.stack = X.env :: X.outer ∧ X.env.frame = some X.env.locals
section
variable {X : Cx} {pins : List (Addr × Obj)} {σ : St} {H : Hp} {s : Shared} {e C : Addr} {od : Option Addr} {fr fr' : Bool} {A : Around} {M : Model} {E : Value → Shared → Prop} {Q : Unit → Shared → Prop} {fl : Value} {h' : Heap}
theorem Inv.freeOf (I : Inv X pins σ H s) {b : Addr} {o : Obj} {ts : Array Value} (hb : s.heap.get? b = some o) (hd : o.data = .fields ts) : b ≠ X.env.locals ∧ ∀ x c, X.env.cells.lookup x = some c → c ≠ b := by
  refine ⟨fun z => ?_, fun x c e z => ?_⟩
  · obtain ⟨m, ⟨o', es, ep, ho', hd', _⟩, _⟩ := I.loc
    rw [z, ho'] at hb; cases hb; rw [hd'] at hd; cases hd
  · obtain ⟨v, o', ho', hd'⟩ := I.cell x c e
    rw [z, hb] at ho'; cases ho'; rw [hd] at hd'; cases hd'
theorem Inv.fly {ch : List Addr} (I : Inv X pins σ H s) (q : H e = some (XO e C od fr)) (hch : ∀ b ∈ ch, X.s₀.heap.objs.size ≤ b ∧ H b = none ∧ (∃ o ts, s.heap.get? b = some o ∧ o.data = .fields ts) ∧ ∀ p ∈ X.pn ++ pins, p.1 ≠ b)
    (k : ∀ b o, s.heap.get? b = some o → b ∉ frs X.stack → b ≠ e → b ∉ ch → h'.get? b = some o) (ks : ∀ b o, s.heap.get? b = some o → b ≠ e → b ∉ ch → ∃ sl, h'.get? b = some { o with slots := sl })
    (new : ObjOk X.prog X.w (upd H e (XO e C od fr')) h' e (XO e C od fr')) : Inv X pins σ (upd H e (XO e C od fr')) { s with heap := h' } := by
  have ne : ∀ b u, H b = some u → u ≠ XO e C od fr → b ≠ e := fun b u z d w' => d (by rw [w', q] at z; exact (Option.some.inj z).symm)
  have nn : ∀ b, H b = none → b ≠ e := fun b z w' => by rw [w', q] at z; cases z
  have u : Un (frs X.stack) ch H (upd H e (XO e C od fr')) s.heap h' := by
    refine ⟨fun b o hb n hs hc => k b o hb hs (nn b n) hc, fun b o hb n _ hc => ks b o hb (nn b n) hc, fun b o _ n _ => by rw [upd_ne (nn b n)]; exact n, fun b o hb hc => ?_, fun b xs z => ?_, fun b o u z => ?_, fun b ps z => ⟨#[], ?_⟩⟩
    · by_cases w' : b = e
      · rw [w']; exact new.2.1
      · obtain ⟨sl, z⟩ := ks b o hb w' hc
        exact ⟨_, z⟩
    · rw [upd_ne (ne b _ z (fun w' => by cases w'))]; exact z
    · rw [upd_ne (ne b _ z (fun w' => by cases w'))]; exact z
    · rw [upd_ne (ne b _ z (fun w' => by cases w')), z]; simp
  refine I.call (g' := s.gens) (d' := s.drawn) (t' := s.toks) (ch := ch) u (fun b o z => ?_) I.bare fun b hb => ?_
  · by_cases w' : b = e
    · subst w'
      rw [upd_same] at z; cases z
      exact new
    · rw [upd_ne w'] at z
      refine (I.hok b o z).stay (fun c v hc zz => k c v zz ?_ ?_ ?_) (fun c zz => by rw [upd_ne (ne c _ zz (fun w' => by cases w'))]; exact zz) fun c xs zz => by rw [upd_ne (ne c _ zz (fun w' => by cases w'))]; exact zz
      · intro hs
        have := I.stkFree c hs
        rcases hc with rfl | hc
        · rw [this] at z; cases z
        · rw [this] at hc; cases hc
      · rcases hc with rfl | hc
        · exact w'
        · exact ne c _ hc (fun w' => by cases w')
      · intro hb
        have := (hch c hb).2.1
        rcases hc with rfl | hc
        · rw [this] at z; cases z
        · rw [this] at hc; cases hc
  · obtain ⟨h1, _, ⟨o, ts, ho, hd⟩, h4⟩ := hch b hb
    exact ⟨.inr h1, (I.freeOf ho hd).1, (I.freeOf ho hd).2, h4⟩
theorem note_ok (I : Inv X pins σ H s) (hs : OnStack X) (hA : A.frames = some X.stack) (q : H e = some (XO e C od fr)) (hfl : fr = true ∨ Flt X pins H s.heap e .none)
    (h : ∀ s', Inv X pins σ (upd H e (XO e C od false)) s' → Flt X pins (upd H e (XO e C od false)) s'.heap e (rawInt X.env.locals) → Q () s') : wpAny M A (noteFrame (.ref e) X.env) Q E s := by
  obtain ⟨o, vs, he, hc, hd, hf, ⟨t0, h0⟩, y, h1, hy⟩ := xo_get I.hok q
  have hA' : A.frames = some (X.env :: X.outer) := by rw [hA, hs.1]
  have FF : s.heap.FunFrames X.base (X.env :: X.outer) := by rw [← hs.1]; exact I.stack
  have sub : ∀ b, b ∉ frs X.stack → b ∉ frs (X.env :: X.outer) := fun b z w' => z (by rw [hs.1]; exact w')
  have new : ∀ {h' : Heap} {T : Addr}, h'.get? e = some (o.mapFields (·.setIfInBounds 1 (.ref T))) → ObjOk X.prog X.w (upd H e (XO e C od false)) h' e (XO e C od false) := fun {h' T} z => by
    have hz : 1 < vs.size := (Array.getElem?_eq_some_iff.mp h1).1
    refine xo_ok z ((Obj.cls_mapFields _ _).trans hc) ?_ (Obj.data_mapFields hf _) ⟨t0, by rw [Array.getElem?_setIfInBounds_ne (by decide)]; exact h0⟩ ⟨.ref T, by simp [hz], fun z => nomatch z⟩
    obtain ⟨_, _, dt, _⟩ := o
    cases dt <;> first | exact hd | cases hf
  have fin : ∀ {h' : Heap} {T : Addr}, Inv X pins σ (upd H e (XO e C od false)) { s with heap := h' } → s.heap.objs.size ≤ T → h'.get? e = some (o.mapFields (·.setIfInBounds 1 (.ref T))) → (∃ oT ts, h'.get? T = some oT ∧ oT.data = .fields ts ∧ ts[3]? = some (rawInt X.env.locals)) → Q () { s with heap := h' } := fun {h' T} J k3 k4 ⟨oT, ts, k5, k6, k7⟩ => by
    have hz : 1 < vs.size := (Array.getElem?_eq_some_iff.mp h1).1
    refine h _ J ⟨_, _, T, oT, ts, k4, Obj.data_mapFields hf _, by simp [hz], ?_, k5, k6, k7, Nat.le_trans I.sz k3, fun p hp z => ?_⟩
    · rw [upd_ne (fun z => absurd (Heap.lt_size he) (by rw [← z]; exact Nat.not_lt.mpr k3))]
      exact I.hok.fresh k3
    · obtain ⟨z1, _⟩ := I.pin p hp
      exact absurd (Heap.lt_size z1) (by rw [z]; exact Nat.not_lt.mpr k3)
  by_cases hfr : y = .none
  · subst hfr
    refine note_first hA' FF hs.2 he hf h1 fun h' T k1 k2 k3 k4 k5 => fin (I.fly (ch := []) q (fun b z => absurd z (by simp)) (fun b o hb hn ne _ => k1 b o hb (sub b hn) ne) (fun b o hb ne _ => k2 b o hb ne) (new k4)) k3 k4 k5
  · rcases hfl with z | ⟨oe, ws, T, oT, ts, z1, z2, z3, z4, z5, z6, z7, z8, z9⟩
    · exact absurd (hy z) hfr
    · rw [he] at z1; cases z1
      rw [hf] at z2; cases z2
      have ne : T ≠ e := fun w' => by rw [w', q] at z4; cases z4
      refine note_next hA' FF hs.2 he hf z3 z5 z6 z7 ne fun h' T' k1 k2 k3 k4 k5 => fin (I.fly (ch := [T]) q (fun b hb => ?_) (fun b o hb hn ne hc => k1 b o hb (sub b hn) ne (by simpa using hc)) (fun b o hb ne hc => k2 b o hb ne (by simpa using hc)) (new k4)) k3 k4 k5
      obtain rfl : b = T := by simpa using hb
      exact ⟨z8, z4, ⟨oT, ts, z5, z6⟩, z9⟩
theorem flight_ok (I : Inv X pins σ H s) (q : H e = some (XO e C od fr)) (hfl : Flt X pins H s.heap e fl) (h : ∀ s', Inv X pins σ H s' → Flt X pins H s'.heap e .none → Q () s') : wpAny M A (setFlight (.ref e) none) Q E s := by
  obtain ⟨oe, vs, T, oT, ts, z1, z2, z3, z4, z5, z6, z7, z8, z9⟩ := hfl
  have hz : 3 < ts.size := (Array.getElem?_eq_some_iff.mp z7).1
  have ne : T ≠ e := fun w' => by rw [w', q] at z4; cases z4
  have ot : ∀ b, b ≠ T → (s.heap.update T (Obj.mapFields (·.setIfInBounds 3 Value.none))).get? b = s.heap.get? b := fun b hb => Heap.get?_update_other _ _ (Ne.symm hb)
  refine wpAny_setFlight_none z1 z2 z3 z5 z6 hz (h _ (I.turned (it := T) (t' := s.toks) (fun b o hb z => (ot b hb).trans z) z4 (I.freeOf z5 z6).1 (.inr z8) (I.freeOf z5 z6).2 z9) ?_)
  exact ⟨oe, vs, T, _, _, (ot e (Ne.symm ne)).trans z1, z2, z3, z4, Heap.get?_update_self _ z5 (Obj.isFreed_of_fields (Obj.data_mapFields z6 _)), Obj.data_mapFields z6 _, by simp [hz], z8, z9⟩
end
def CXX (P : Program) (w : World) : CXT := fun outer H s E ev s' => ∃ e C dx H', ev = .ref e ∧ s'.os = s.os ∧ AllBare s'.gens ∧ Un (frs outer) [] H H' s.heap s'.heap ∧ HOk P w H' s'.heap ∧ H' e = some (XO e C (some dx) false) ∧
  (∃ oe vs T oT ts, s'.heap.get? e = some oe ∧ oe.data = .fields vs ∧ vs[1]? = some (.ref T) ∧ H' T = none ∧ s'.heap.get? T = some oT ∧ oT.data = .fields ts ∧ ts[3]? = some .none ∧ s.heap.objs.size ≤ T) ∧ E (.ref C) (some e) H'
def XWish (X : Cx) (R : St → XK) : Prop := ∀ pins σ H s e C dx fr, Inv X pins σ H s → H e = some (XO e C (some dx) fr) → (fr = true ∨ Flt X pins H s.heap e .none) → R σ (.ref C) (some e) (upd H e (XO e C (some dx) false)) → X.xe (.ref e) s
theorem xw_def {P : Program} {w : World} {K : PySem.W.Frag} {mg : Str → Option Value} {base : Heap} {N : List Str} {qual : Str} {scope : Scope} {f : Addr} {cd : Value} {A : Around} {outer : List Env} {s : Shared} {H : Hp} {E : XK} :
    XWish (cxOf (CXX P w) P w K mg base N qual scope f cd A outer s H E) (fun _ => E) := by
  intro pins σ H1 s1 e C dx fr I q hfl hE
  show wpAny _ _ (leaving _ _) _ _ _
  unfold leaving
  refine wpAny_bind (note_ok I ⟨rfl, rfl⟩ I.ok.frames q hfl fun s2 I2 f2 => flight_ok I2 upd_same f2 fun s3 I3 f3 => ?_)
  obtain ⟨oe, vs, T, oT, ts, z1, z2, z3, z4, z5, z6, z7, z8, _⟩ := f3
  exact ⟨e, C, dx, _, rfl, I3.os, I3.bare, I3.base, I3.hok, upd_same, ⟨oe, vs, T, oT, ts, z1, z2, z3, z4, z5, z6, z7, z8⟩, hE⟩
theorem upd_id {H : Hp} {a : Addr} {o : HO} (h : H a = some o) : upd H a o = H := by
  funext b
  unfold upd
  split
  · rename_i z; rw [z, h]
  · rfl
section
variable {X : Cx} {pins : List (Addr × Obj)} {σ : St} {H : Hp} {s s' : Shared} {R : St → XK} {ev : Value}
theorem xw_call (hw : XWish X R) (I : Inv X pins σ H s) (h : CXX X.prog X.w X.stack H s (R σ) ev s') : X.xe ev s' := by
  obtain ⟨e, C, dx, H', rfl, ho, hg, un, hok, q, ⟨oe, vs, T, oT, ts, z1, z2, z3, z4, z5, z6, z7, z8⟩, hR⟩ := h
  have I' : Inv X pins σ H' s' := I.call' (ch := []) ho un hok hg fun b z => absurd z (by simp)
  refine hw pins σ H' s' e C dx false I' q (.inr ⟨oe, vs, T, oT, ts, z1, z2, z3, z4, z5, z6, z7, Nat.le_trans I.sz z8, fun p hp z => ?_⟩) (by rw [upd_id q]; exact hR)
  obtain ⟨y1, _⟩ := I.pin p hp
  exact absurd (Heap.lt_size y1) (by rw [z]; exact Nat.not_lt.mpr z8)
end
theorem FnOk.calm {P : Program} {w : World} {K : PySem.W.Frag} {mg : Str → Option Value} {base : Heap} {k : Nat} {f : Addr} {fd : FuncData} {ps : List Str} {sp : Sp} (G : FnOk P w K mg base (CXX P w) k f fd ps sp) : FnOk P w K mg base CX0 k f fd ps (fun vs H Q _ => sp vs H Q E0) :=
  ⟨fun vs H Q _ h => G.len vs H Q E0 h, fun A outer s H args us vs Q E hr he hb hv hs => codeAny_mono (G.run A outer s H args us vs Q E0 hr he hb hv hs) fun r s' hq => by
    cases r with
    | error e => obtain ⟨_, _, _, _, _, _, _, _, _, _, _, z⟩ := hq; exact z.elim
    | ok fl => cases fl <;> exact hq⟩
theorem Fun.okX {P : Program} {w : World} {K : PySem.W.Frag} {mg : Str → Option Value} {base : Heap} {x qual : Str} {st : Stmt} {f : Addr} {fd : FuncData} {N ps : List Str} {k : Nat} {sp : Sp} (F : Fun K x qual st f fd) (S : FnScope N ps (defScope st)) (len : ∀ vs H Q E, sp vs H Q E → vs.length = ps.length)
    (hbody : ∀ (cdv : Value) (A : Around) (outer : List Env) (s : Shared) (H : Hp) (vs : List V) (Q : VK) (E : XK), Room k (A.deeper (envOfC qual (defScope st) s.heap.objs.size f cdv)) → sp vs H Q E →
      ∃ t, PSs (cxOf (CXX P w) P w K mg base N qual (defScope st) f cdv A outer s H E) (defBody st) t ∧ t { nx := fun _ H' => Q .non H', rt := Q } (start N vs) H) : FnOk P w K mg base (CXX P w) (k + 1) f fd ps sp := by
  obtain ⟨oc, od, kV, doc, pm, an, cdv, ct, osl, rfl, lk, hcd⟩ := F.ex
  exact fn_of lk hcd S len fun A outer s H vs Q E hr hsp => hbody cdv A outer s H vs Q E hr hsp
def tCallX (sp : Sp) (R : St → XK) (t : TA) : TE := fun σ H Q => t σ H fun vs H1 => sp vs H1 Q (R σ)
section
variable {X : Cx} {k j : Nat} {f C : Addr} {fd : FuncData} {ps : List Str} {sp : Sp} {R : St → XK} {x m : Str} {p pos apos : Pos} {e o : Expr} {es : List Expr} {ta : TE} {t : TA}
theorem run_fnX {pins : List (Addr × Obj)} {σ : St} {H : Hp} {s : Shared} {Q : VK} {us : List Value} {vs : List V} (G : FnOk X.prog X.w X.K X.mg X.base (CXX X.prog X.w) k f fd ps sp) (hw : XWish X R) (hr : Room k X.A) (hb : Binds X.K fd ps [])
    (I : Inv X pins σ H s) (r : Vals vs us) (h : sp vs H Q (R σ)) : wpAny (model X.prog X.w) X.A (call (.ref f) us) (EP X pins σ Q) X.xe s := by
  have hl : (us ++ []).length = ps.length := by rw [List.append_nil, ← r.length, G.len _ _ _ _ h]
  have hb' := hb s us I.kIn hl
  rw [List.append_nil] at hb'
  refine wpAny_call (codeAny_mono (G.run X.A X.stack s H ⟨us, []⟩ us vs Q (R σ) hr I.env0 hb' r h) fun r s' hq => ?_)
  cases r with
  | error e => exact xw_call hw I hq
  | ok fl =>
    cases fl with
    | ret u => exact I.after hq
    | next => exact False.elim hq
    | brk => exact False.elim hq
    | cont => exact False.elim hq
theorem pe_callX {st : Stmt} (F : FT X.K X.mg x st ps f fd) (G : FnOk X.prog X.w X.K X.mg X.base (CXX X.prog X.w) k f fd ps sp) (hw : XWish X R) (hr : Room j X.A) (hk : k ≤ j) (ha : PA X (e :: es) t) (hg : Gl X x := by rfl)
    (hdb : (x == ("__debug__" : Str)) = false := by decide) (he : starEach (e :: es) X.env = (false, eval e X.env) :: starEach es X.env := by rfl) (hpl : (backTo pos (starEach es X.env)).any (·.1) = false := by rfl) :
    PE X (.Call (.Name x p) (e :: es) [] pos) (tCallX sp R t) := by
  intro pins s σ H Q I h
  refine wpAny_Call_Name_kw (ld_glob I hg F.mgx ?_ hdb)
  refine PySem.W.callWith_K (h₀ := X.base) I.ok.mod.kin F.fn.kp (thn (ha pos pins s σ H _ I h) fun us s1 ⟨vs, H1, I1, r, q⟩ => ⟨I1.kIn, ?_⟩) he hpl
  exact run_fnX G hw (hr.mono hk) F.bd I1 r q
end
end L2
namespace L2
open PySem PySem.Spec PyProof.Rows
def sRaise (K : PySem.W.Frag) (R : St → XK) (te : TE) : TS := fun _ σ H => te σ H fun v H1 => ∃ e C W fI dx, v = .ref e ∧ H1 e = some (XO e C (some dx) true) ∧ XCls K C W fI ∧ R σ (.ref C) (some e) (upd H1 e (XO e C (some dx) false))
section
variable {X : Cx} {R : St → XK} {x : Expr} {pos : Pos} {te : TE}
theorem ps_raise (hw : XWish X R) (hc : X.calm = true) (hx : PE X x te) : PS X (.Raise (some x) none pos) (sRaise X.K R te) := by
  intro pins s σ H D I h
  rw [arm_exec_Raise]
  refine wpAny_bind (wpAny_standAt ?_)
  show wpAny _ _ (raiseStmt X.env (some (do let v ← eval x X.env; standAt pos; pure v)) none) _ _ _
  unfold raiseStmt
  refine wpAny_bind (wpAny_bind (thn (hx pins s σ H _ I h) fun u s1 ⟨y, H1, I1, ry, e, C, W, fI, dx, ey, q, c, k⟩ => wpAny_bind (wpAny_standAt (wpAny_pure ?_))))
  subst ey
  obtain rfl : u = Value.ref e := ry
  obtain ⟨o, vs, he, hcl, hd, hf, h0, y, h1, hy⟩ := xo_get I1.hok q
  have hy' := hy rfl
  subst hy'
  have fin : X.xe (.ref e) s1 := hw pins σ H1 s1 e C dx true I1 q (.inl rfl) k
  have hh : X.A.handled = none := I.ok.hd hc
  obtain ⟨nm, qn, N, bs, sn, sub, ab, col, dd, k0, k1, k2, k3, k5, l⟩ := c.obj
  have kC := I1.kIn _ _ l
  have hcB : (Value.ref C :: .ref W :: VEm).contains (.type "BaseException") = true := by simp
  obtain ⟨oc, odi, oda, osl⟩ := o
  dsimp only at hcl hd hf
  subst hcl hd hf
  obtain ⟨hp, g, d, tk, os⟩ := s1
  repeat (first | with_reducible refine wpAny_loadPart_at he ?_ | with_reducible refine wpAny_loadPart_at kC ?_ | (with_reducible refine wpAny_isSubtype_exc kC ?_; rw [hcB]) | with_reducible refine wpAny_field he rfl h1 ?_ | wp_step)
  exact wpAny_raiseNew_none hh fin
end
structure ECls (K : PySem.W.Frag) (C : Addr) : Prop where
  obj : ∃ (dd : Option Addr) (cd : ClassData) (sl : Array (Option Value)), K.lookup C = some ⟨.type "type", dd, .cls cd, sl⟩
  mb : PySem.W.mroIn K C (.type "BaseException") = some true
theorem XCls.e {K : PySem.W.Frag} {C W fI : Addr} (c : XCls K C W fI) : ECls K C := by
  obtain ⟨nm, qn, N, bs, sn, sub, ab, col, dd, k0, k1, k2, k3, k5, l⟩ := c.obj
  exact ⟨⟨_, _, _, l⟩, c.mb⟩
section
variable {prog : Program} {w : World} {A : Around} {E : Value → Shared → Prop} {s : Shared} {K : PySem.W.Frag} {e C C0 : Addr} {oe : Obj} {b : Bool}
theorem matches_ok {Q : Bool → Shared → Prop} (X : K.In s.heap) (c0 : ECls K C0) (he : s.heap.get? e = some oe) (hc : oe.cls = .ref C) (hm : PySem.W.mroIn K C (.ref C0) = some b) (q : Q b s) : wpAny (model prog w) A (excMatches (.ref e) (.ref C0)) Q E s := by
  obtain ⟨dd, cd, sl, l⟩ := c0.obj
  have k0 := X _ _ l
  have f0 := tc_notTuple
  have m1 := PySem.W.looks_mroIn (M := model prog w) X c0.mb
  have m2 := PySem.W.looks_mroIn (M := model prog w) X hm
  obtain ⟨oc, odi, oda, osl⟩ := oe
  dsimp only at hc
  subst hc
  obtain ⟨hp, g, d, tk, os⟩ := s
  unfold excMatches
  repeat (first | with_reducible refine wpAny_loadPart_at he ?_ | with_reducible refine wpAny_loadPart_at k0 ?_ | with_reducible refine m1.at ?_ | with_reducible refine m2.at ?_ | wp_step)
  cases b <;> (repeat wp_step) <;> exact q
end
def Cx.caught (X : Cx) (e : Addr) : Cx := { X with A := X.A.mark (some (.ref e)), calm := false, xe := fun _ _ => False }
def Cx.tried (X : Cx) (pins : List (Addr × Obj)) (R : St → XK) : Cx :=
  { X with pn := X.pn ++ pins, xe := fun ev s' => ∃ σ H e C dx fr, ev = .ref e ∧ Inv X pins σ H s' ∧ H e = some (XO e C (some dx) fr) ∧ (fr = true ∨ Flt X pins H s'.heap e .none) ∧ R σ (.ref C) (some e) (upd H e (XO e C (some dx) false)) }
section
variable {X : Cx} {pins pins' : List (Addr × Obj)} {σ : St} {H : Hp} {s : Shared} {R : St → XK} {e : Addr}
theorem Inv.caught (I : Inv X pins σ H s) (e : Addr) : Inv (X.caught e) pins σ H s :=
  ⟨⟨I.ok.mod, I.ok.kind, I.ok.glob, I.ok.blt, I.ok.above, I.ok.inj, I.ok.has, I.ok.cab, (fun z => nomatch z), I.ok.frames, I.ok.stk, I.ok.exf, I.ok.bs, I.ok.bsz, I.ok.noex, I.ok.exfs, I.ok.funs, I.ok.frf⟩, I.os, I.bare, I.base, I.loc, I.cell, I.free, I.freeC, I.pin, I.hok, I.len⟩
theorem Inv.uncaught (ok : X.Ok) (I : Inv (X.caught e) pins σ H s) : Inv X pins σ H s := ⟨ok, I.os, I.bare, I.base, I.loc, I.cell, I.free, I.freeC, I.pin, I.hok, I.len⟩
theorem Inv.tried (I : Inv X pins σ H s) (R : St → XK) : Inv (X.tried pins R) [] σ H s :=
  ⟨⟨I.ok.mod, I.ok.kind, I.ok.glob, I.ok.blt, I.ok.above, I.ok.inj, I.ok.has, I.ok.cab, I.ok.hd, I.ok.frames, I.ok.stk, I.ok.exf, I.ok.bs, I.ok.bsz, I.ok.noex, I.ok.exfs, I.ok.funs, I.ok.frf⟩, I.os, I.bare, I.base, I.loc, I.cell, I.free, I.freeC, (fun p hp => I.pin p (by rw [List.append_nil] at hp; exact hp)), I.hok, I.len⟩
theorem Inv.untried (I : Inv (X.tried pins R) pins' σ H s) : Inv X pins σ H s :=
  ⟨⟨I.ok.mod, I.ok.kind, I.ok.glob, I.ok.blt, I.ok.above, I.ok.inj, I.ok.has, I.ok.cab, I.ok.hd, I.ok.frames, I.ok.stk, I.ok.exf, I.ok.bs, I.ok.bsz, I.ok.noex, I.ok.exfs, I.ok.funs, I.ok.frf⟩, I.os, I.bare, I.base, I.loc, I.cell, I.free, I.freeC, (fun p hp => I.pin p (List.mem_append_left _ hp)), I.hok, I.len⟩
theorem xw_try : XWish (X.tried pins R) R := fun pins' σ H s e C dx fr I q hfl hR => ⟨σ, H, e, C, dx, fr, rfl, I.untried, q, hfl.imp id fun ⟨oe, vs, T, oT, ts, z1, z2, z3, z4, z5, z6, z7, z8, z9⟩ => ⟨oe, vs, T, oT, ts, z1, z2, z3, z4, z5, z6, z7, z8, fun p hp => z9 p (List.mem_append_left _ hp)⟩, hR⟩
theorem SP.map {X Y : Cx} {pl pm : List (Addr × Obj)} {D : Ends} {f : Flow} {s' : Shared} (hI : ∀ σ H, Inv X pl σ H s' → Inv Y pm σ H s') (h : SP X pl D f s') : SP Y pm D f s' := by
  cases f with
  | next => obtain ⟨σ', H', I, q⟩ := h; exact ⟨σ', H', hI _ _ I, q⟩
  | brk => obtain ⟨σ', H', I, q⟩ := h; exact ⟨σ', H', hI _ _ I, q⟩
  | cont => obtain ⟨σ', H', I, q⟩ := h; exact ⟨σ', H', hI _ _ I, q⟩
  | ret u => obtain ⟨v, σ', H', I, r, q⟩ := h; exact ⟨v, σ', H', hI _ _ I, r, q⟩
theorem unbind_ok {M : Model} {A : Around} {E : Value → Shared → Prop} {i : Nat} {n : Str} {pos : Pos} {Q : Unit → Shared → Prop} (I : Inv X pins σ H s) (hN : X.N.Nodup) (hi : X.N[i]? = some n) (hk : X.env.scope.names.lookup n = some .local)
    (h : ∀ s', Inv X pins (σ.set i none) H s' → Q () s') : wpAny M A (do bindName X.env n .none; unbindBehindTheSuite X.env n pos) Q E s := by
  obtain ⟨m, hn, hl⟩ := id I.loc
  have hcls : (X.env.scope.kind == .class || (X.env.scope.kind == .module && X.env.locals != X.env.globals)) = false := by rw [I.ok.kind]; rfl
  have cne := I.cne
  refine wpAny_nameGoes_keeps hk hn hcls fun h' v hn' sb => h _ ?_
  obtain ⟨oL, _, _, hoL, _⟩ := id hn
  have lo : ∀ b o, X.s₀.heap.get? b = some o → b ≠ X.env.locals := fun b o z => Nat.ne_of_lt (Nat.lt_of_lt_of_le (Heap.lt_size z) I.ok.above)
  refine ⟨I.ok, I.os, I.bare, ⟨fun b o z n hb hx => (sb.2 b (lo b o z)).trans (I.base.keep b o z n hb hx), fun b o z n hb hx => ?_, I.base.free, fun b o z hx => ?_, I.base.tups, I.base.frzs, I.base.tbls⟩, ⟨_, hn', fun j y v' e1 e2 e3 => ?_⟩, fun y c z => ?_, I.free, I.freeC, fun p hp => ?_, fun b ob z => ?_, by simpa using I.len⟩
  · obtain ⟨sl, z1⟩ := I.base.slot b o z n hb hx
    exact ⟨sl, (sb.2 b (lo b o z)).trans z1⟩
  · obtain ⟨o', z1⟩ := I.base.there b o z hx
    exact ⟨o', (sb.2 b (lo b o z)).trans z1⟩
  · have hj : j ≠ i := fun z => by
      subst z
      have : j < σ.length := by rw [I.len]; exact (List.getElem?_eq_some_iff.mp hi).1
      rw [List.getElem?_set_self this] at e2
      cases e2
    rw [List.getElem?_set_ne (Ne.symm hj)] at e2
    obtain ⟨u', r', q⟩ := hl j y v' e1 e2 e3
    refine ⟨u', r', ?_⟩
    rcases q with ⟨k, z⟩ | ⟨k, c, z, zz⟩
    · refine .inl ⟨k, ?_⟩
      have : y ≠ n := fun z => hj (nodup_ix hN e1 (z ▸ hi))
      show (if y = n then v else m y) = some u'
      rw [if_neg this]; exact z
    · exact .inr ⟨k, c, z, zz.sameBut sb (cne y c z)⟩
  · obtain ⟨w', zz⟩ := I.cell y c z
    exact ⟨w', zz.sameBut sb (cne y c z)⟩
  · obtain ⟨z, n, ne, nf, d⟩ := I.pin p hp
    exact ⟨(sb.2 p.1 ne).trans z, n, ne, nf, d⟩
  · refine (I.hok b ob z).stay (fun c w' hc q => (sb.2 c ?_).trans q) (fun _ q => q) fun _ _ q => q
    rintro rfl
    rcases hc with rfl | hc
    · rw [I.free] at z; cases z
    · rw [I.free] at hc; cases hc
end
abbrev TH := Ends → St → Value → Option Addr → Hp → Prop
def PH (X : Cx) (hs : List ExceptHandler) (th : TH) : Prop :=
  ∀ (pins : List (Addr × Obj)) (s : Shared) (σ : St) (H : Hp) (D : Ends) (e C dx : Addr), Inv X pins σ H s → H e = some (XO e C (some dx) false) → Flt X pins H s.heap e .none → th D σ (.ref C) (some e) H →
    wpAny (model X.prog X.w) X.A (handleBy (.ref e) X.env hs) (SP X pins D) X.xe s
def hNil : TH := fun _ _ _ _ _ => False
theorem ph_nil {X : Cx} : PH X [] hNil := fun _ _ _ _ _ _ _ _ _ _ _ h => h.elim
def Ends.less (D : Ends) (i : Nat) : Ends := ⟨fun σ H => D.nx (σ.set i none) H, D.rt, fun σ H => D.bk (σ.set i none) H, fun σ H => D.ct (σ.set i none) H⟩
def hAs (K : PySem.W.Frag) (C0 : Addr) (i : Nat) (ts : Addr → TS) (th : TH) : TH := fun D σ c eo H => ∃ e C b, c = .ref C ∧ eo = some e ∧ PySem.W.mroIn K C (.ref C0) = some b ∧ if b = true then ts e (D.less i) (σ.set i (some (.ref e))) H else th D σ c eo H
section
variable {X : Cx} {x n : Str} {np pos : Pos} {C0 : Addr} {i : Nat} {b₀ : Stmt} {suite : List Stmt} {rest : List ExceptHandler} {ts : Addr → TS} {th : TH}
theorem ph_as (c0 : ECls X.K C0) (hm : X.mg x = some (.ref C0)) (hN : X.N.Nodup) (hi : X.N[i]? = some n) (hl : X.env.scope.names.lookup n = some .local) (hsu : ∀ e, PSs (X.caught e) (b₀ :: suite) (ts e)) (hr : PH X rest th) (hg : Gl X x := by rfl)
    (hdb : (x == ("__debug__" : Str)) = false := by decide) : PH X (.ExceptHandler (some (.Name x np)) (some n) (b₀ :: suite) pos :: rest) (hAs X.K C0 i ts th) := by
  rintro pins s σ H D e C dx I q hfl ⟨e', C', b, hC, he, hmr, h⟩
  cases hC
  cases he
  obtain ⟨o, vs, go, gc, _⟩ := xo_get I.hok q
  refine wpAny_handleBy_cons (codeAny_handlers_test (ld_glob (X := X.caught e) (I.caught e) hg hm (matches_ok I.kIn c0 go gc hmr ?_) hdb)) (fun z => by cases z)
  cases b with
  | false => exact hr pins s σ H D e C dx I q hfl h
  | true =>
    refine codeAny_handlers_suite_as (flight_ok I q hfl fun s1 I1 f1 => store_ok (v := .ref e) I1 hN hi (.inl hl) rfl (fun s2 I2 => ?_) (.inr hl))
    refine wpAny_mono (hsu e pins s2 _ H (D.less i) (I2.caught e) h) (fun f s3 hf => ?_) fun _ _ z => False.elim z
    have go : ∀ {f : Flow} {σ' : St} {H' : Hp}, Inv (X.caught e) pins σ' H' s3 → (∀ s', Inv X pins (σ'.set i none) H' s' → SP X pins D f s') → wpAny (model X.prog X.w) X.A (do bindName X.env n .none; unbindBehindTheSuite X.env n pos) (fun _ s' => SP X pins D f s') X.xe s3 :=
      fun {f σ' H'} I3 k => unbind_ok (Inv.uncaught I.ok I3) hN hi hl k
    cases f with
    | next => obtain ⟨σ', H', I3, k⟩ := hf; exact go I3 fun s' I' => ⟨_, H', I', k⟩
    | brk => obtain ⟨σ', H', I3, k⟩ := hf; exact go I3 fun s' I' => ⟨_, H', I', k⟩
    | cont => obtain ⟨σ', H', I3, k⟩ := hf; exact go I3 fun s' I' => ⟨_, H', I', k⟩
    | ret u => obtain ⟨v, σ', H', I3, r, k⟩ := hf; exact go I3 fun s' I' => ⟨v, _, H', I', r, k⟩
end
def tTry (tb : List (Addr × Obj) → (St → XK) → TS) (th : TH) : TS := fun D σ H => ∀ pins, tb pins (fun σ' c e H' => th D σ' c e H') D σ H
theorem ps_try {X : Cx} {body : List Stmt} {h₀ : ExceptHandler} {hs : List ExceptHandler} {pos : Pos} {tb : List (Addr × Obj) → (St → XK) → TS} {th : TH} (hst : OnStack X) (hb : ∀ pins R, XWish (X.tried pins R) R → PSs (X.tried pins R) body (tb pins R)) (hh : PH X (h₀ :: hs) th) :
    PS X (.Try body (h₀ :: hs) [] [] pos) (tTry tb th) := by
  intro pins s σ H D I h
  refine wpAny_Try_except (wpAny_mono (hb pins (fun σ' c e H' => th D σ' c e H') xw_try [] s σ H D (I.tried _) (h pins)) (fun f s1 hf => ?_) fun ev s1 hx => ?_)
  · have hf' : SP X pins D f s1 := hf.map fun _ _ J => J.untried
    cases f with
    | next => exact wpAny_execs_nil hf'
    | brk => exact hf'
    | cont => exact hf'
    | ret u => exact hf'
  · obtain ⟨σ', H', e, C, dx, fr, rfl, I', q, hfl, hR⟩ := hx
    exact note_ok I' hst I'.ok.frames q hfl fun s2 I2 f2 => flight_ok I2 upd_same f2 fun s3 I3 f3 => hh pins s3 σ' _ D e C dx I3 upd_same f3 hR
end L2
namespace L2
open PySem PySem.Spec PyProof.Rows
structure FM (K : PySem.W.Frag) (x qual : Str) (st : Stmt) (ps : List Str) (f : Addr) (fd : FuncData) : Prop where
  fn : Fun K x qual st f fd
  bd : Binds K fd ps []
structure YCls (K : PySem.W.Frag) (C : Addr) : Prop where
  ya : PySem.W.findIn K (.ref C) "__class__" = some (some (.builtin "object.__class__"))
  yb : PySem.W.specialIn K (.builtin "object.__class__") "__get__" = some (some (.builtin "getset_descriptor.__get__"))
  yc : PySem.W.takesIn K (.builtin "object.__class__") = some true
  yd : PySem.W.mroIn K C (.type "object") = some true
theorem YCls.ty {K : PySem.W.Frag} {C a dx : Addr} {H : Hp} {fs : List (Str × V)} (y : YCls K C) (c : Cls K C) (e : H a = some (.ins C dx fs)) : TyOf K H (.ref a) (.ref C) := .ins e c y.ya y.yb y.yc y.yd
def spIni1 (K : PySem.W.Frag) (f : Str) : Sp := fun vs H Q _ => ∃ e C W fI y, vs = [.ref e, y] ∧ H e = some (XO e C none true) ∧ XCls K C W fI ∧ NoAttr K C f ∧ ∀ dx, H dx = none → dx ≠ e → Q .non (upd (upd H dx (XD dx [(f, y)])) e (XO e C (some dx) true))
theorem ini1_made {K : PySem.W.Frag} {C W fI : Addr} {f : Str} {y : V} {H : Hp} {Q : VK} (c : XCls K C W fI) (n : NoAttr K C f) (k : ∀ e dx, H e = none → H dx = none → dx ≠ e → Q (.ref e) (upd (upd H dx (XD dx [(f, y)])) e (XO e C (some dx) true))) :
    [y].length ≤ 1000 ∧ ∀ e, H e = none → spIni1 K f (.ref e :: [y]) (upd H e (XO e C none true)) (fun v H2 => v = .non ∧ Q (.ref e) H2) E0 := by
  refine ⟨by simp, fun e he => ⟨e, C, W, fI, y, rfl, upd_same, c, n, fun dx h1 h2 => ⟨rfl, ?_⟩⟩⟩
  have z := k e dx he (by rw [upd_ne h2] at h1; exact h1) h2
  have e2 : upd (upd (upd H e (XO e C none true)) dx (XD dx [(f, y)])) e (XO e C (some dx) true) = upd (upd H dx (XD dx [(f, y)])) e (XO e C (some dx) true) := by
    funext b
    unfold upd
    split
    · rfl
    · split <;> rfl
  rw [e2]
  exact z
end L2
namespace L2
open PySem PySem.Spec PyProof.Rows
section
variable {X : Cx} {pins : List (Addr × Obj)} {σ : St} {H : Hp} {s : Shared}
theorem Inv.turnTup {ch : List Addr} {T : Addr} {xs : List V} {h' : Heap} {t' : Nat} (I : Inv X pins σ H s) (hch : ∀ b ∈ ch, FpOk X pins H b) (k : ∀ b o, b ∉ ch → s.heap.get? b = some o → h'.get? b = some o) (hT : s.heap.objs.size ≤ T)
    (new : ObjOk X.prog X.w (upd H T (.tup xs)) h' T (.tup xs)) : Inv X pins σ (upd H T (.tup xs)) { s with heap := h', toks := t' } := by
  have hn : H T = none := I.hok.fresh hT
  have nb : ∀ b o, s.heap.get? b = some o → b ≠ T := fun b o z w' => absurd (Heap.lt_size z) (by rw [w']; exact Nat.not_lt.mpr hT)
  have nt : ∀ b u, H b = some u → b ≠ T := fun b u z => ne_of_none z hn
  have nc : ∀ b u, H b = some u → b ∉ ch := fun b u z w' => by rw [(hch b w').1] at z; cases z
  have u : Un (frs X.stack) ch H (upd H T (.tup xs)) s.heap h' := by
    refine ⟨fun b o hb n hs hc => k b o hc hb, fun b o hb n _ hc => ⟨o.slots, k b o hc hb⟩, fun b o hb n _ => by rw [upd_ne (nb b o hb)]; exact n, fun b o hb hc => ⟨o, k b o hc hb⟩, fun b ys z => by rw [upd_ne (nt b _ z)]; exact z, fun b o v z => by rw [upd_ne (nt b _ z)]; exact z, fun b ps z => ⟨#[], by rw [upd_ne (nt b _ z), z]; simp⟩⟩
  refine I.call (g' := s.gens) (d' := s.drawn) (ch := ch) u (fun b o z => ?_) I.bare fun b hb => ?_
  · by_cases w' : b = T
    · subst w'
      rw [upd_same] at z; cases z
      exact new
    · rw [upd_ne w'] at z
      refine (I.hok b o z).stay (fun c v hc zz => k c v ?_ zz) (fun c zz => by rw [upd_ne (nt c _ zz)]; exact zz) fun c ys zz => by rw [upd_ne (nt c _ zz)]; exact zz
      rcases hc with rfl | hc
      · exact nc c o z
      · exact nc c _ hc
  · obtain ⟨_, h1, _, h3, h4, h5⟩ := hch b hb
    exact ⟨h3, h1, h4, h5⟩
theorem Inv.turnMany {ch : List Addr} {h' : Heap} {t' : Nat} (I : Inv X pins σ H s) (hch : ∀ b ∈ ch, FpOk X pins H b) (k : ∀ b o, b ∉ ch → s.heap.get? b = some o → h'.get? b = some o) : Inv X pins σ H { s with heap := h', toks := t' } := by
  have nc : ∀ b u, H b = some u → b ∉ ch := fun b u z w' => by rw [(hch b w').1] at z; cases z
  have u : Un (frs X.stack) ch H H s.heap h' :=
    ⟨fun b o hb n hs hc => k b o hc hb, fun b o hb n _ hc => ⟨o.slots, k b o hc hb⟩, fun b o hb n _ => n, fun b o hb hc => ⟨o, k b o hc hb⟩, fun b ys z => z, fun b o v z => z, fun b ps z => ⟨#[], by rw [z]; simp⟩⟩
  refine I.call (g' := s.gens) (d' := s.drawn) (ch := ch) u (fun b o z => (I.hok b o z).stay (fun c v hc zz => k c v ?_ zz) (fun _ zz => zz) fun _ _ zz => zz) I.bare fun b hb => ?_
  · rcases hc with rfl | hc
    · exact nc c o z
    · exact nc c _ hc
  · obtain ⟨_, h1, _, h3, h4, h5⟩ := hch b hb
    exact ⟨h3, h1, h4, h5⟩
end
theorem bt_zip : bootBuiltins "zip" = some (.type "zip") := by decide +kernel
end L2
namespace L2
open PySem PySem.Spec PyProof.Rows
section
variable {X : Cx} {pins : List (Addr × Obj)} {σ : St} {H : Hp} {s : Shared}
inductive TyX (K : PySem.W.Frag) (H : Hp) : V → Value → Prop where
  | of {x : V} {t : Value} : TyOf K H x t → TyX K H x t
  | exc {e C W fI dx : Addr} {fs : List (Str × V)} {fr : Bool} : H e = some (XO e C (some dx) fr) → H dx = some (XD dx fs) → XCls K C W fI → TyX K H (.ref e) (.ref C)
theorem TyX.kit {x : V} {u t : Value} (I : Inv X pins σ H s) (rx : RelV x u) (ty : TyX X.K H x t) : u ≠ .builtin "__main__.__loader__#opaque" ∧ ∃ Hh, PySem.W.KitX X.K u t Hh ∧ Hh s.heap := by
  cases ty with
  | exc q qd c =>
    obtain rfl : u = Value.ref _ := rx
    obtain ⟨ox, oD, mA, J, _, _⟩ := xo_inst I.hok q qd
    exact ⟨(fun z => nomatch z), _, xkit c, ox, oD, J⟩
  | of ty =>
    cases ty with
    | non => cases (show u = Value.none from rx); exact ⟨(fun z => nomatch z), _, PySem.W.kitx_none, trivial⟩
    | bl y => cases (show u = Value.bool y from rx); exact ⟨(fun z => nomatch z), _, PySem.W.kitx_bool, trivial⟩
    | int i => obtain ⟨t, q⟩ := (show ∃ t, u = Value.int i t from rx); cases q; exact ⟨(fun z => nomatch z), _, PySem.W.kitx_int, trivial⟩
    | str y => obtain ⟨t, q⟩ := (show ∃ t, u = Value.str y t from rx); cases q; exact ⟨(fun z => nomatch z), _, PySem.W.kitx_str, trivial⟩
    | flt y => obtain ⟨t, q⟩ := (show ∃ t, u = Value.float y t from rx); cases q; exact ⟨(fun z => nomatch z), _, PySem.W.kitx_float, trivial⟩
    | @lst a xs ea =>
      cases (show u = Value.ref a from rx)
      obtain ⟨_, _, n, _, h1⟩ := (show ObjOk X.prog X.w H s.heap a (.lst xs) from I.hok a _ ea)
      exact ⟨(fun z => nomatch z), _, PySem.W.kitx_list, _, h1, rfl⟩
    | @frz a ob xs ea =>
      cases (show u = Value.ref a from rx)
      obtain ⟨_, _, _, n, _, h1⟩ := (show ObjOk X.prog X.w H s.heap a (.frz ob (.lst xs)) from I.hok a _ ea)
      exact ⟨(fun z => nomatch z), _, PySem.W.kitx_list, _, h1, rfl⟩
    | @tup a xs ea =>
      cases (show u = Value.ref a from rx)
      obtain ⟨_, _, _, o, h1, h2, _⟩ := (show ObjOk X.prog X.w H s.heap a (.tup xs) from I.hok a _ ea)
      exact ⟨(fun z => nomatch z), _, PySem.W.kitx_tuple, o, h1, h2⟩
    | @dK a kvs ea =>
      cases (show u = Value.ref a from rx)
      obtain ⟨_, _, vs, _, o, es, ep, h1, h2, _⟩ := (show ObjOk X.prog X.w H s.heap a (.dK kvs) from I.hok a _ ea)
      exact ⟨(fun z => nomatch z), _, PySem.W.kitx_dict, o, h1, h2.1⟩
    | @dT a kvs ea =>
      cases (show u = Value.ref a from rx)
      obtain ⟨_, _, xs, _, o, es, ep, h1, h2, _⟩ := (show ObjOk X.prog X.w H s.heap a (.dT kvs) from I.hok a _ ea)
      exact ⟨(fun z => nomatch z), _, PySem.W.kitx_dict, o, h1, h2.1⟩
    | @ins a C dx fs ea cl ha hn htk hm =>
      cases (show u = Value.ref a from rx)
      obtain ⟨mA, O, _⟩ := ins_get I.hok ea
      obtain ⟨od, J, _⟩ := O.look
      exact ⟨(fun z => nomatch z), _, PySem.W.kitx_own (cl.get _) cl.hd ha hn htk hm, J⟩
def rIsA (K : PySem.W.Frag) : List V → Hp → VK → Prop := fun xs H Q => ∃ x c u t b, xs = [x, c] ∧ clsV c = some u ∧ TyX K H x t ∧ PySem.W.kitOne K t u = some b ∧ Q (.bl b) H
theorem call_isA : CallR X (.builtin "isinstance") (rIsA X.K) := by
  rintro pins s σ H vs us Q I r ⟨x, c, u, t, b, rfl, hc, ty, ek, k⟩
  obtain ⟨v, w', rfl, r1, r2⟩ := vals2 r
  have e2 : w' = u := by
    cases c with
    | ty n => cases hc; cases r2; rfl
    | ref a => cases hc; cases r2; rfl
    | _ => cases hc
  subst e2
  obtain ⟨hx, Hh, Z, p⟩ := ty.kit I r1
  exact PySem.W.kia_one Z I.kIn p ek hx fun tk => ⟨.bl b, H, I.tok _, rfl, k⟩
theorem cls_vals : ∀ {cs : List V} {us ws : List Value}, cs.mapM clsV = some us → Vals cs ws → ws = us
  | [], us, _, e, .nil => by cases e; rfl
  | c :: cs, us, _, e, .cons r t => by
    rw [List.mapM_cons] at e
    simp only [Option.bind_eq_bind, Option.bind_eq_some_iff, Option.pure_def, Option.some.injEq] at e
    obtain ⟨u, hu, us', hus, rfl⟩ := e
    rw [cls_vals hus t]
    cases c with
    | ty n => cases hu; cases r; rfl
    | ref a => cases hu; cases r; rfl
    | _ => cases hu
def rIsT (K : PySem.W.Frag) : List V → Hp → VK → Prop := fun xs H Q => ∃ x p cs us t b, xs = [x, .ref p] ∧ H p = some (.tup cs) ∧ cs.mapM clsV = some us ∧ TyX K H x t ∧ PySem.W.kitAny K t us = some b ∧ Q (.bl b) H
theorem call_isT : CallR X (.builtin "isinstance") (rIsT X.K) := by
  rintro pins s σ H vs us Q I r ⟨x, p, cs, us', t, b, rfl, hp, hc, ty, ek, k⟩
  obtain ⟨v, w', rfl, r1, r2⟩ := vals2 r
  obtain rfl : w' = Value.ref p := r2
  obtain ⟨hx, Hh, Z, q⟩ := ty.kit I r1
  obtain ⟨_, its, rv, o, h1, h2, n, h3⟩ := (show ObjOk X.prog X.w H s.heap p (.tup cs) from I.hok p _ hp)
  have e := cls_vals hc rv
  subst e
  obtain ⟨oc, odi, oda, osl⟩ := o
  dsimp only at h2 h3
  subst h2 h3
  exact PySem.W.kia_tup Z I.kIn q h1 ek hx fun tk => ⟨.bl b, H, I.tok _, rfl, k⟩
def iSeq (K : PySem.W.Frag) (tl : TE) : TI := fun σ H R => tl σ H fun x H1 => ∃ a, x = .ref a ∧ (((∃ xs, SqL K H1 a xs) ∧ R (Itl K a) H1) ∨ ((∃ xs, SqT K H1 a xs) ∧ R (Itt K a) H1))
theorem pi_seq {tg l : Expr} {tl : TE} (hl : PE X l tl) : PI X tg l (iSeq X.K tl) := by
  intro pins s σ H R I h
  refine thn (hl pins s σ H _ I h) fun v s1 ⟨x, H1, I1, r1, a, e, q1⟩ => ?_
  subst e
  cases r1
  have fin : ∀ {J : It} {tn : Nat → Heap → Prop} {o : Obj}, Turn X.prog X.w X.K tg J [s1.heap.objs.size] s1.heap.objs.size tn → tn 0 (s1.heap.push o) → R J H1 → PIE X pins σ tg R (.ref s1.heap.objs.size) { s1 with heap := s1.heap.push o } := fun {J tn o} T st q => by
    refine ⟨s1.heap.objs.size, [s1.heap.objs.size], tn, J, H1, rfl, I1.kept (t' := s1.toks) fun b o e => Heap.get?_push_of_some _ e, T, st, fun b hb => ?_, q⟩
    have e : b = s1.heap.objs.size := by simpa using hb
    subst e
    exact I1.fpOk (Nat.le_refl _) (I1.hok.fresh (Nat.le_refl _))
  rcases q1 with ⟨⟨xs, hq⟩, q⟩ | ⟨⟨xs, hq⟩, q⟩
  · obtain ⟨its, rv, p, hz⟩ := I1.list hq
    exact wpAny_pyIter_list p.isList (fin (turn_list a _) ⟨_, Heap.get?_push_size _ rfl, rfl, rfl⟩ q)
  · obtain ⟨its, rv, p, hz⟩ := I1.tuple hq
    exact wpAny_pyIter_tuple (show s1.heap.IsTuple a its.toArray from p) (fin (turn_tuple a _) ⟨_, Heap.get?_push_size _ rfl, rfl, rfl⟩ q)
def SameOr (x y : V) (b : Bool) : Prop := (∃ a, x = .ref a ∧ y = .ref a ∧ b = true) ∨ (flatV x = true ∧ flatV y = true ∧ eqV x y = b)
theorem eqV_self {x : V} (h : flatV x = true) : eqV x x = true := by
  cases x <;> first | rfl | (simp [eqV]; done) | cases h
theorem SameOr.self {x : V} (h : flatV x = true ∨ ∃ a, x = .ref a) : SameOr x x true := by
  rcases h with h | ⟨a, rfl⟩
  · exact .inr ⟨h, h, eqV_self h⟩
  · exact .inl ⟨a, rfl, rfl, rfl⟩
theorem SameOr.at {A : Around} {x y : V} {b : Bool} {u v : Value} (h : SameOr x y b) (rx : RelV x u) (ry : RelV y v) : SeqAt.EqAt A s u v b := by
  rcases h with ⟨a, rfl, rfl, rfl⟩ | ⟨f1, f2, rfl⟩
  · cases rx; cases ry; exact SeqAt.EqAt.same _
  · exact eqAt_V rx ry f1 f2
def rEqL (K : PySem.W.Frag) : R2 := fun x y H Q => ∃ (p q : Addr) (xs ys : List V) (bs : List Bool), x = .ref p ∧ y = .ref q ∧ SqL K H p xs ∧ SqL K H q ys ∧ xs.length = ys.length ∧ bs.length = xs.length ∧
  (∀ (i : Nat) x y b, xs[i]? = some x → ys[i]? = some y → bs[i]? = some b → SameOr x y b) ∧ Q (.bl (bs.all id)) H
theorem op_eqL (hu : X.A.units + 64 < cLine) : OpR X (compareOp .Eq) (rEqL X.K) := by
  rintro pins s σ H x y v u Q I rx ry ⟨p, q, xs, ys, bs, rfl, rfl, h1, h2, l1, l2, hs, k⟩
  obtain rfl : v = Value.ref p := rx
  obtain rfl : u = Value.ref q := ry
  obtain ⟨its, r1, p1, _⟩ := I.list h1
  obtain ⟨jts, r2, p2, _⟩ := I.list h2
  have e1 := r1.length
  have e2 := r2.length
  refine SeqAt.eq_listAt (e := fun j => bs.getD j false) p1.isList p2.isList (by simp only [List.size_toArray]; omega) (by omega) (fun j j1 j2 => ?_) ⟨.bl _, H, I, rfl, ?_⟩
  · simp only [List.size_toArray] at j1 j2
    have a1 : xs[j]? = some xs[j] := List.getElem?_eq_getElem (by omega)
    have a2 : ys[j]? = some ys[j] := List.getElem?_eq_getElem (by omega)
    have a3 : bs[j]? = some bs[j] := List.getElem?_eq_getElem (by omega)
    obtain ⟨u, hu1, ru⟩ := r1.get a1
    obtain ⟨w', hw1, rw'⟩ := r2.get a2
    have b1 : its.toArray[j] = u := by simpa [List.getElem?_eq_getElem j1] using hu1
    have b2 : jts.toArray[j] = w' := by simpa [List.getElem?_eq_getElem j2] using hw1
    have b3 : bs.getD j false = bs[j] := by simp [List.getD, a3]
    rw [b1, b2, b3]
    exact (hs j _ _ _ a1 a2 a3).at ru rw'
  · have e : ((List.range its.toArray.size).all fun j => bs.getD j false) = bs.all id := by
      simp only [List.size_toArray]
      rw [show its.length = bs.length by omega, Bool.eq_iff_iff, List.all_eq_true, List.all_eq_true]
      constructor
      · intro h b hb
        obtain ⟨j, hj, rfl⟩ := List.getElem_of_mem hb
        have := h j (List.mem_range.mpr hj)
        simpa [List.getD, List.getElem?_eq_getElem hj] using this
      · intro h j hj
        have hj' := List.mem_range.mp hj
        have := h bs[j] (List.getElem_mem hj')
        simpa [List.getD, List.getElem?_eq_getElem hj'] using this
    rw [e]
    exact k
end
def tMethD (P : Program) (w : World) (K : PySem.W.Frag) (mg : Str → Option Value) (base : Heap) (j : Nat) (m : Str) (ta : TE) (t : TA) : TE := fun σ H Q => ta σ H fun x H1 => ∃ a C dx fs f fd ps sp k, x = .ref a ∧ H1 a = some (.ins C dx fs) ∧ fs.lookup m = none ∧ Cls K C ∧ Meth K C m f ∧ FnOk P w K mg base CX0 k f fd ps sp ∧ k ≤ j ∧ Binds K fd ps [] ∧
  t σ H1 fun vs H2 => sp (x :: vs) H2 Q E0
section
variable {X : Cx} {j : Nat} {m : Str} {apos pos : Pos} {e o : Expr} {es : List Expr} {ta : TE} {t : TA} {R : St → XK}
theorem pe_methD0 {pl : Sem Bool} (he : PE X o ta) (hr : Room j X.A)
    (ht : eval (.Call (.Attribute o m apos) [] [] pos) X.env = (do
      let ov ← eval o X.env
      standAt apos.atName
      let (f, first) ← holding [ov] (getMethod ov m pl)
      callWith pos f first (backTo pos (starEach [] X.env)) (backToKw pos (keywordEach [] X.env))) := by rfl) :
    PE X (.Call (.Attribute o m apos) [] [] pos) (tMethD X.prog X.w X.K X.mg X.base j m ta tNil) := by
  intro pins s σ H Q I h
  refine PySem.W.methodCall_KW (pl := pl) (thn (he pins s σ H _ I h) fun u s1 ⟨x, H1, I1, rx, a, C, dx, fs, f, fd, ps, sp, k, ex, ea, l, c, hm, G, hk, hb, q⟩ => ?_) ht
  subst ex
  obtain rfl : u = Value.ref a := rx
  refine getmeth_ok I1 ea c hm l ?_
  exact PySem.W.callWith_K0 (first := [.ref a]) I1.kIn hm.kp (run_fn (us := [.ref a]) (vs := [.ref a]) (dvs := []) (ds := []) G (hr.mono hk) hb .nil pass0 I1 (.cons rfl .nil) q)
end
end L2
namespace L2
open PySem PySem.Spec PyProof.Rows
theorem small2k {n : Nat} (h : n ≤ 2000) : n < sizeLine := Nat.lt_of_le_of_lt h (by decide)
theorem small_lit (n : Nat) (h : n ≤ 2000) : n ≤ sizeLine := Nat.le_of_lt (small2k h)
def tpB (t : Value) : Bool := [Value.type "bool", .type "str", .type "NoneType", .type "list", .type "tuple", .type "dict"].contains t
def Tm (K : PySem.W.Frag) (H : Hp) (x : V) : Prop := (∃ i : Int, x = .int i) ∨ ∃ t, TyX K H x t ∧ tpB t = true
def wholeB : V → Int → Int → Bool
  | .int i, lo, hi => decide (lo ≤ i) && decide (i ≤ hi)
  | _, _, _ => false
theorem tp_int {K : PySem.W.Frag} {t : Value} (h : tpB t = true) : PySem.W.kitOne K t (.type "int") = some (t == .type "bool") ∧ PySem.W.kitOne K t (.type "bool") = some (t == .type "bool") := by
  unfold tpB at h
  simp only [List.contains_cons, List.contains_nil, Bool.or_false, Bool.or_eq_true, beq_iff_eq] at h
  rcases h with rfl | rfl | rfl | rfl | rfl | rfl <;> exact ⟨rfl, rfl⟩
theorem not_int {K : PySem.W.Frag} {H : Hp} {x : V} {t : Value} (ty : TyX K H x t) (h : tpB t = true) : ∀ lo hi, wholeB x lo hi = false := by
  intro lo hi
  cases ty with
  | exc => rfl
  | of ty =>
    cases ty <;> first | rfl | (exfalso; revert h; decide)
def spWhole (K : PySem.W.Frag) : Sp := fun vs H Q _ => ∃ (x : V) (lo hi : Int), vs = [x, .int lo, .int hi] ∧ Tm K H x ∧ Q (.bl (wholeB x lo hi)) H
theorem TyX.same {K : PySem.W.Frag} {H H' : Hp} {x : V} {t : Value} (s : ∀ b o, x = .ref b → H b = some o → H' b = some o) (sx : ∀ b fs, H b = some (XD b fs) → H' b = some (XD b fs)) (ty : TyX K H x t) : TyX K H' x t := by
  cases ty with
  | exc q qd c => exact .exc (s _ _ rfl q) (sx _ _ qd) c
  | of ty =>
    refine .of ?_
    cases ty with
    | non => exact .non
    | bl b => exact .bl b
    | int i => exact .int i
    | str z => exact .str z
    | flt z => exact .flt z
    | lst e => exact .lst (s _ _ rfl e)
    | frz e => exact .frz (s _ _ rfl e)
    | tup e => exact .tup (s _ _ rfl e)
    | dK e => exact .dK (s _ _ rfl e)
    | dT e => exact .dT (s _ _ rfl e)
    | ins e a b c d f => exact .ins (s _ _ rfl e) a b c d f
theorem Tm.same {K : PySem.W.Frag} {H H' : Hp} {x : V} (s : Same H H') (h : Tm K H x) : Tm K H' x := by
  rcases h with h | ⟨t, ty, e⟩
  · exact .inl h
  · exact .inr ⟨t, ty.same (fun b o _ q => s b o q) (fun b fs q => s b _ q), e⟩
theorem for_seq {K : PySem.W.Frag} {q : Addr} {xs : List V} {g : TG} {tb : TS} {D : Ends} {σ : St} {H : Hp} (Pv : Nat → St → Hp → Prop) (h0 : Pv 0 σ H) (hl : (∀ i σ H, i ≤ xs.length → Pv i σ H → SqL K H q xs) ∨ (∀ i σ H, i ≤ xs.length → Pv i σ H → SqT K H q xs))
    (hs : ∀ i x σ H, xs[i]? = some x → Pv i σ H → g x σ H fun σ2 H2 => tb { D with nx := Pv (i + 1), ct := Pv (i + 1), bk := D.nx } σ2 H2) (hd : ∀ σ H, Pv xs.length σ H → D.nx σ H) :
    ((∃ xs, SqL K H q xs) ∧ ∃ W : Nat → Nat → St → Hp → Prop, (∃ m, W 0 m σ H) ∧ ∀ i m σ H, W i m σ H →
      ((Itl K q).stop i H ∧ D.nx σ H) ∨ ((Itl K q).go i H ∧ ∃ N : St → Hp → Prop, (∀ σ' H', N σ' H' → ∃ m', m' < m ∧ W (i + 1) m' σ' H') ∧ ∀ x H', (Itl K q).yld i H x H' → g x σ H' fun σ2 H2 => tb { D with nx := N, ct := N, bk := D.nx } σ2 H2)) ∨
    ((∃ xs, SqT K H q xs) ∧ ∃ W : Nat → Nat → St → Hp → Prop, (∃ m, W 0 m σ H) ∧ ∀ i m σ H, W i m σ H →
      ((Itt K q).stop i H ∧ D.nx σ H) ∨ ((Itt K q).go i H ∧ ∃ N : St → Hp → Prop, (∀ σ' H', N σ' H' → ∃ m', m' < m ∧ W (i + 1) m' σ' H') ∧ ∀ x H', (Itt K q).yld i H x H' → g x σ H' fun σ2 H2 => tb { D with nx := N, ct := N, bk := D.nx } σ2 H2)) := by
  rcases hl with hl | hl
  · exact .inl ⟨⟨xs, hl 0 σ H (Nat.zero_le _) h0⟩, for_list Pv h0 hl hs hd⟩
  · exact .inr ⟨⟨xs, hl 0 σ H (Nat.zero_le _) h0⟩, for_tup Pv h0 hl hs hd⟩
theorem rd_raise {K : PySem.W.Frag} {R : L2.St → XK} {C W fI : Addr} {f : Str} {i : Nat} {y : V} {σ : L2.St} {H : Hp} {D : Ends} (c : XCls K C W fI) (n : NoAttr K C f) (hi : σ[i]? = some (some y))
    (k : ∀ e dx, H e = none → H dx = none → dx ≠ e → R σ (.ref C) (some e) (upd (upd (upd H dx (XD dx [(f, y)])) e (XO e C (some dx) true)) e (XO e C (some dx) false))) : sRaise K R (tExc C (spIni1 K f) (tCons (tVar i) tNil)) D σ H := by
  refine ⟨y, hi, ?_⟩
  exact ini1_made (Q := fun v H1 => ∃ e C W fI dx, v = .ref e ∧ H1 e = some (XO e C (some dx) true) ∧ XCls K C W fI ∧ R σ (.ref C) (some e) (upd H1 e (XO e C (some dx) false))) c n fun e dx h1 h2 h3 => ⟨e, C, W, fI, dx, rfl, upd_same, c, k e dx h1 h2 h3⟩
theorem iteD {c A B : Prop} [Decidable c] (hc : c) (h : A) : if decide c = true then A else B := by
  rw [decide_eq_true hc]
  exact iteT h
theorem iteN {c A B : Prop} [Decidable c] (hc : ¬ c) (h : B) : if decide c = true then A else B := by
  rw [decide_eq_false hc]
  exact iteF h
def isStar : Expr → Bool
  | .Starred _ _ => true
  | _ => false
theorem star_cons (e : Expr) (es : List Expr) (env : Env) (h : isStar e = false) : starEach (e :: es) env = (false, eval e env) :: starEach es env := by
  cases e <;> first | rfl | cases h
theorem pa_c {X : Cx} {e : Expr} {es : List Expr} {te : TE} {t : TA} (ha : PE X e te) (hr : PA X es t) (hs : isStar e = false := by rfl) : PA X (e :: es) (tCons te t) := pa_cons ha hr (star_cons e es X.env hs)
theorem pa4 {X : Cx} {e0 : Expr} {t0 : TE} {e1 : Expr} {t1 : TE} {e2 : Expr} {t2 : TE} {e3 : Expr} {t3 : TE} (h0 : PE X e0 t0) (h1 : PE X e1 t1) (h2 : PE X e2 t2) (h3 : PE X e3 t3) (s0 : isStar e0 = false := by rfl) (s1 : isStar e1 = false := by rfl) (s2 : isStar e2 = false := by rfl) (s3 : isStar e3 = false := by rfl) : PA X [e0, e1, e2, e3] (tCons t0 (tCons t1 (tCons t2 (tCons t3 (tNil))))) := pa_c h0 (pa_c h1 (pa_c h2 (pa_c h3 (pa_nil) s3) s2) s1) s0
theorem pa5 {X : Cx} {e0 : Expr} {t0 : TE} {e1 : Expr} {t1 : TE} {e2 : Expr} {t2 : TE} {e3 : Expr} {t3 : TE} {e4 : Expr} {t4 : TE} (h0 : PE X e0 t0) (h1 : PE X e1 t1) (h2 : PE X e2 t2) (h3 : PE X e3 t3) (h4 : PE X e4 t4) (s0 : isStar e0 = false := by rfl) (s1 : isStar e1 = false := by rfl) (s2 : isStar e2 = false := by rfl) (s3 : isStar e3 = false := by rfl) (s4 : isStar e4 = false := by rfl) : PA X [e0, e1, e2, e3, e4] (tCons t0 (tCons t1 (tCons t2 (tCons t3 (tCons t4 (tNil)))))) := pa_c h0 (pa_c h1 (pa_c h2 (pa_c h3 (pa_c h4 (pa_nil) s4) s3) s2) s1) s0
theorem pa6 {X : Cx} {e0 : Expr} {t0 : TE} {e1 : Expr} {t1 : TE} {e2 : Expr} {t2 : TE} {e3 : Expr} {t3 : TE} {e4 : Expr} {t4 : TE} {e5 : Expr} {t5 : TE} (h0 : PE X e0 t0) (h1 : PE X e1 t1) (h2 : PE X e2 t2) (h3 : PE X e3 t3) (h4 : PE X e4 t4) (h5 : PE X e5 t5) (s0 : isStar e0 = false := by rfl) (s1 : isStar e1 = false := by rfl) (s2 : isStar e2 = false := by rfl) (s3 : isStar e3 = false := by rfl) (s4 : isStar e4 = false := by rfl) (s5 : isStar e5 = false := by rfl) : PA X [e0, e1, e2, e3, e4, e5] (tCons t0 (tCons t1 (tCons t2 (tCons t3 (tCons t4 (tCons t5 (tNil))))))) := pa_c h0 (pa_c h1 (pa_c h2 (pa_c h3 (pa_c h4 (pa_c h5 (pa_nil) s5) s4) s3) s2) s1) s0
theorem pa8 {X : Cx} {e0 : Expr} {t0 : TE} {e1 : Expr} {t1 : TE} {e2 : Expr} {t2 : TE} {e3 : Expr} {t3 : TE} {e4 : Expr} {t4 : TE} {e5 : Expr} {t5 : TE} {e6 : Expr} {t6 : TE} {e7 : Expr} {t7 : TE} (h0 : PE X e0 t0) (h1 : PE X e1 t1) (h2 : PE X e2 t2) (h3 : PE X e3 t3) (h4 : PE X e4 t4) (h5 : PE X e5 t5) (h6 : PE X e6 t6) (h7 : PE X e7 t7) (s0 : isStar e0 = false := by rfl) (s1 : isStar e1 = false := by rfl) (s2 : isStar e2 = false := by rfl) (s3 : isStar e3 = false := by rfl) (s4 : isStar e4 = false := by rfl) (s5 : isStar e5 = false := by rfl) (s6 : isStar e6 = false := by rfl) (s7 : isStar e7 = false := by rfl) : PA X [e0, e1, e2, e3, e4, e5, e6, e7] (tCons t0 (tCons t1 (tCons t2 (tCons t3 (tCons t4 (tCons t5 (tCons t6 (tCons t7 (tNil))))))))) := pa_c h0 (pa_c h1 (pa_c h2 (pa_c h3 (pa_c h4 (pa_c h5 (pa_c h6 (pa_c h7 (pa_nil) s7) s6) s5) s4) s3) s2) s1) s0
theorem pa10 {X : Cx} {e0 : Expr} {t0 : TE} {e1 : Expr} {t1 : TE} {e2 : Expr} {t2 : TE} {e3 : Expr} {t3 : TE} {e4 : Expr} {t4 : TE} {e5 : Expr} {t5 : TE} {e6 : Expr} {t6 : TE} {e7 : Expr} {t7 : TE} {e8 : Expr} {t8 : TE} {e9 : Expr} {t9 : TE} (h0 : PE X e0 t0) (h1 : PE X e1 t1) (h2 : PE X e2 t2) (h3 : PE X e3 t3) (h4 : PE X e4 t4) (h5 : PE X e5 t5) (h6 : PE X e6 t6) (h7 : PE X e7 t7) (h8 : PE X e8 t8) (h9 : PE X e9 t9) (s0 : isStar e0 = false := by rfl) (s1 : isStar e1 = false := by rfl) (s2 : isStar e2 = false := by rfl) (s3 : isStar e3 = false := by rfl) (s4 : isStar e4 = false := by rfl) (s5 : isStar e5 = false := by rfl) (s6 : isStar e6 = false := by rfl) (s7 : isStar e7 = false := by rfl) (s8 : isStar e8 = false := by rfl) (s9 : isStar e9 = false := by rfl) : PA X [e0, e1, e2, e3, e4, e5, e6, e7, e8, e9] (tCons t0 (tCons t1 (tCons t2 (tCons t3 (tCons t4 (tCons t5 (tCons t6 (tCons t7 (tCons t8 (tCons t9 (tNil))))))))))) := pa_c h0 (pa_c h1 (pa_c h2 (pa_c h3 (pa_c h4 (pa_c h5 (pa_c h6 (pa_c h7 (pa_c h8 (pa_c h9 (pa_nil) s9) s8) s7) s6) s5) s4) s3) s2) s1) s0
end L2
namespace L2
open PySem PySem.Spec PyProof.Rows PySem.W
section
variable {X : Cx}
theorem ix_listK {K : PySem.W.Frag} (h : X.K = K) : IxR X (rIxL K) := by subst h; exact ix_list
theorem ix_tupK {K : PySem.W.Frag} (h : X.K = K) : IxR X (rIxT K) := by subst h; exact ix_tup
theorem call_isAK {K : PySem.W.Frag} (h : X.K = K) : CallR X (.builtin "isinstance") (rIsA K) := by subst h; exact call_isA
end
end L2
namespace L2
open PySem PySem.Spec PyProof.Rows PySem.W
section
variable {prog : Program} {w : World} {A : Around} {E : Value → Shared → Prop} {s : Shared}
end
section
variable {X : Cx} {pos : Pos}
def rEqT (K : PySem.W.Frag) : R2 := fun x y H Q => ∃ (p q : Addr) (xs ys : List V) (bs : List Bool), x = .ref p ∧ y = .ref q ∧ SqT K H p xs ∧ SqT K H q ys ∧ xs.length = ys.length ∧ bs.length = xs.length ∧
  (∀ (i : Nat) x y b, xs[i]? = some x → ys[i]? = some y → bs[i]? = some b → SameOr x y b) ∧ Q (.bl (bs.all id)) H
theorem op_eqT (hu : X.A.units + 64 < cLine) : OpR X (compareOp .Eq) (rEqT X.K) := by
  rintro pins s σ H x y v u Q I rx ry ⟨p, q, xs, ys, bs, rfl, rfl, h1, h2, l1, l2, hs, k⟩
  obtain rfl : v = Value.ref p := rx
  obtain rfl : u = Value.ref q := ry
  obtain ⟨its, r1, p1, _⟩ := I.tuple h1
  obtain ⟨jts, r2, p2, _⟩ := I.tuple h2
  have e1 := r1.length
  have e2 := r2.length
  refine SeqAt.eq_tupleAt (e := fun j => bs.getD j false) p1 p2 (by omega) (fun j j1 j2 => ?_) ⟨.bl _, H, I, rfl, ?_⟩
  · simp only [List.size_toArray] at j1 j2
    have a1 : xs[j]? = some xs[j] := List.getElem?_eq_getElem (by omega)
    have a2 : ys[j]? = some ys[j] := List.getElem?_eq_getElem (by omega)
    have a3 : bs[j]? = some bs[j] := List.getElem?_eq_getElem (by omega)
    obtain ⟨u, hu1, ru⟩ := r1.get a1
    obtain ⟨w', hw1, rw'⟩ := r2.get a2
    have b1 : its.toArray[j] = u := by simpa [List.getElem?_eq_getElem j1] using hu1
    have b2 : jts.toArray[j] = w' := by simpa [List.getElem?_eq_getElem j2] using hw1
    have b3 : bs.getD j false = bs[j] := by simp [List.getD, a3]
    rw [b1, b2, b3]
    exact (hs j _ _ _ a1 a2 a3).at ru rw'
  · have e : ((List.range its.toArray.size).all fun j => bs.getD j false) = bs.all id := by
      simp only [List.size_toArray]
      rw [show its.length = bs.length by omega, Bool.eq_iff_iff, List.all_eq_true, List.all_eq_true]
      constructor
      · intro h b hb
        obtain ⟨j, hj, rfl⟩ := List.getElem_of_mem hb
        have := h j (List.mem_range.mpr hj)
        simpa [List.getD, List.getElem?_eq_getElem hj] using this
      · intro h j hj
        have hj' := List.mem_range.mp hj
        have := h bs[j] (List.getElem_mem hj')
        simpa [List.getD, List.getElem?_eq_getElem hj'] using this
    have e3 : ((List.range (min its.toArray.size jts.toArray.size)).all (fun j => bs.getD j false) && its.toArray.size == jts.toArray.size) = bs.all id := by
      rw [show min its.toArray.size jts.toArray.size = its.toArray.size by simp only [List.size_toArray]; omega, e, show (its.toArray.size == jts.toArray.size) = true by simp only [List.size_toArray, beq_iff_eq]; omega, Bool.and_true]
    rw [e3]
    exact k
end
end L2
namespace L2
open PySem PySem.Spec PyProof.Rows PySem.W
structure FnOkC (P : Program) (w : World) (K : PySem.W.Frag) (mg : Str → Option Value) (base : Heap) (k : Nat) (f : Addr) (fd : FuncData) (ps : List Str) (sp : Sp) : Prop where
  len : ∀ vs H Q E, sp vs H Q E → vs.length = ps.length
  run : ∀ (e : Addr) (A : Around) (outer : List Env) (s : Shared) (H : Hp) (args : Args) (us : List Value) (vs : List V) (Q : VK) (E : XK), Room k A → Env0 P w K mg base A outer s H → BindsTo s fd args (ps.zip us) → Vals vs us → sp vs H Q E →
    codeAny (model P w) (A.mark (some (.ref e))) (.call (.ref f) args) (CR CX0 outer P w H s Q E) s
section
variable {P : Program} {w : World} {K : PySem.W.Frag} {mg : Str → Option Value} {base : Heap}
end
section
variable {X : Cx} {x : Str} {st : Stmt} {ps : List Str} {f : Addr} {fd : FuncData} {sp : Sp} {k j : Nat} {p pos : Pos} {e : Expr} {es : List Expr} {t : TA} {er : Addr}
end
end L2
namespace L2
open PySem PySem.Spec PyProof.Rows PySem.W
def stU (acc : List Str) (z : Str) : List Str := if acc.contains z = true then acc else acc ++ [z]
def uq (zs : List Str) : List Str := zs.foldl stU []
def inU (zs : List Str) : Key → Bool
  | .inl _ => false
  | .inr z => (uq zs).contains z
theorem uq_snoc (zs : List Str) (z : Str) : uq (zs ++ [z]) = stU (uq zs) z := by unfold uq; rw [List.foldl_append]; rfl
theorem uq_len (zs : List Str) : (uq zs).length ≤ zs.length := by
  have h : ∀ (l acc : List Str), (l.foldl stU acc).length ≤ acc.length + l.length := by
    intro l
    induction l with
    | nil => intro acc; simp
    | cons z r ih =>
      intro acc
      rw [List.foldl_cons]
      have h1 := ih (stU acc z)
      have h2 : (stU acc z).length ≤ acc.length + 1 := by unfold stU; split <;> simp
      rw [List.length_cons]
      omega
  simpa [uq] using h zs []
theorem uq_nodup {zs : List Str} (h : zs.Nodup) : uq zs = zs := by
  have g : ∀ (l acc : List Str), (acc ++ l).Nodup → l.foldl stU acc = acc ++ l := by
    intro l
    induction l with
    | nil => intro acc _; simp
    | cons z r ih =>
      intro acc hn
      rw [List.foldl_cons]
      have hz : acc.contains z = false := by
        cases e : acc.contains z with
        | false => rfl
        | true =>
          have hm : z ∈ acc := List.contains_iff_mem.mp e
          exact absurd rfl ((List.nodup_append.mp hn).2.2 z hm z List.mem_cons_self)
      have e : stU acc z = acc ++ [z] := by unfold stU; rw [hz]; rfl
      rw [e, ih (acc ++ [z]) (by simpa using hn)]
      simp
  simpa [uq] using g zs [] (by simpa using h)
theorem inU_snoc (zs : List Str) (z : Str) (k : Key) : inU (zs ++ [z]) k = (inU zs k || decide (k = .inr z)) := by
  cases k with
  | inl i => simp [inU]
  | inr y =>
    show (uq (zs ++ [z])).contains y = ((uq zs).contains y || decide ((.inr y : Key) = .inr z))
    have e : decide ((.inr y : Key) = .inr z) = decide (y = z) := by
      by_cases h : y = z
      · subst h; simp
      · rw [decide_eq_false h, decide_eq_false (fun q => h (Sum.inr.inj q))]
    rw [uq_snoc, e]
    unfold stU
    split
    · rename_i hc
      by_cases h : y = z
      · subst h; rw [hc]; simp
      · simp [h]
    · rw [Bool.eq_iff_iff]
      simp [List.contains_iff_mem]
theorem uq_grow (zs : List Str) (z : Str) : (uq (zs ++ [z])).length = if inU zs (.inr z) = true then (uq zs).length else (uq zs).length + 1 := by
  rw [uq_snoc]
  show (stU (uq zs) z).length = if (uq zs).contains z = true then _ else _
  unfold stU
  split <;> simp
section
variable {prog : Program} {w : World} {A : Around} {R : Result → Shared → Prop} {I : Addr} {fp wr : List Addr} {n : Nat} {P : Nat → Value → Prop} {St : Nat → Heap → Prop}
theorem set_cast {h h' : Heap} {a : Addr} {S T : Key → Bool} {m m' : Nat} (hS : h.SetOf (mixKind prog w) a S m) (k : ∀ o, h.get? a = some o → h'.get? a = some o) (e : ∀ x, S x = T x) (en : m = m') : h'.SetOf (mixKind prog w) a T m' := by
  obtain rfl : S = T := funext e
  subst en
  obtain ⟨o, es, ep, t, ho, rest⟩ := hS
  exact ⟨o, es, ep, t, k o ho, rest⟩
theorem texts_loop (W : Walks prog w A.in1 I fp wr n P St) (S : Addr) (hSf : S ∉ fp) (zs : List Str) (hn : zs.length = n) (hP : ∀ i v, P i v → ∃ z t, zs[i]? = some z ∧ v = .str z t) (hb : n + 1 < scanBound) :
    ∀ (k i : Nat) (s : Shared), n - i = k → i ≤ n → St i s.heap → s.heap.SetOf (mixKind prog w) S (inU (zs.take i)) (uq (zs.take i)).length →
      (∀ h' tk, (∀ b o, b ≠ S → b ∉ wr → s.heap.get? b = some o → h'.get? b = some o) → h'.SetOf (mixKind prog w) S (inU zs) (uq zs).length → R (.ok (.ret .none)) { s with heap := h', toks := tk }) →
      codeAny (model prog w) A (.builtin "set.update.loop" ⟨[.ref S, .ref I], []⟩) R s := by
  have hSw : S ∉ wr := fun h => hSf (W.sub _ h)
  intro k
  induction k with
  | zero =>
    intro i s hk hi hst hS hR
    obtain rfl : i = n := by omega
    refine codeAny_builtin PyProof.Rows.F.entry_set_update_loop ?_
    rw [Around.under_plainId PyProof.Rows.F.plain_set_update_loop _]
    refine wpAny_bind (W.done s _ _ hst fun h' tk km => ?_)
    refine wpAny_pure (hR h' tk (fun b o _ nb e => km b o nb e) (set_cast hS (fun o e => km S o hSw e) (fun x => ?_) ?_))
    · rw [List.take_of_length_le (by omega)]
    · rw [List.take_of_length_le (by omega)]
  | succ k ih =>
    intro i s hk hi hst hS hR
    have hlt : i < n := by omega
    refine codeAny_builtin PyProof.Rows.F.entry_set_update_loop ?_
    rw [Around.under_plainId PyProof.Rows.F.plain_set_update_loop _]
    refine wpAny_bind (W.item i s _ _ hlt hst fun v h1 tk hv hst1 km => ?_)
    obtain ⟨z, t, hz, rfl⟩ := hP i v hv
    have et : zs.take (i + 1) = zs.take i ++ [z] := by rw [List.take_add_one, hz]; rfl
    have hS1 : h1.SetOf (mixKind prog w) S (inU (zs.take i)) (uq (zs.take i)).length := set_cast hS (fun o e => km S o hSw e) (fun _ => rfl) rfl
    have room : (uq (zs.take i)).length + 1 < scanBound := by
      have h1 := uq_len (zs.take i)
      rw [List.length_take] at h1
      omega
    refine wpAny_bind (wpAny_holding ?_)
    unfold setAdd
    refine wpAny_holding (wpAny_bind ((mixKind prog w).pyHash (k := .inr z) (mixKind_str _ _ _ _) ?_))
    refine wpAny_setAddHashed_of (knd := mixKind prog w) (k := .inr z) (mixKind_str _ _ _ _) rfl hS1 room fun h2 sb hS2 => ?_
    refine wpAny_pure ⟨plainId_quiet PyProof.Rows.F.plain_set_update_loop _, ih (i + 1) _ (by omega) hlt (W.frame _ _ _ hst1 fun b hbf o e => ?_) (set_cast hS2 (fun o e => e) (fun x => ?_) ?_) fun h3 tk3 k3 hS3 => ?_⟩
    · show h2.get? b = some o
      rw [sb.2 b (fun q => hSf (by rw [← q]; exact hbf))]
      exact e
    · rw [et, inU_snoc]
    · rw [et, uq_grow]
    · exact hR h3 tk3 (fun b o nS nw e => k3 b o nS nw (by show h2.get? b = some o; rw [sb.2 b nS]; exact km b o nw e)) hS3
end
section
variable {prog : Program} {w : World} {A : Around} {E : Value → Shared → Prop} {s : Shared}
set_option maxRecDepth 100000 in
set_option maxHeartbeats 3200000 in
theorem set_texts {l : Addr} {items : Array Value} {zs : List Str} {Q : Value → Shared → Prop} (hh : A.handled = none) (hl : s.heap.IsList l items) (hz : zs.length = items.size) (hi : ∀ (i : Nat) (v : Value), items[i]? = some v → ∃ z t, zs[i]? = some z ∧ v = .str z t) (hb : items.size + 1 < scanBound)
    (h : ∀ (h' : Heap) (tk : Nat), h'.SetOf (mixKind prog w) s.heap.objs.size (inU zs) (uq zs).length → (∀ b o, s.heap.get? b = some o → h'.get? b = some o) → Q (.ref s.heap.objs.size) { s with heap := h', toks := tk }) : wpAny (model prog w) A (call (.type "set") [.ref l]) Q E s := by
  obtain ⟨cc, tl, hmro⟩ := F.called_set.mro
  have hmade := F.called_set.made
  have hsub := F.called_set.sub
  refine wpAny_call (codeAny_of_tree ?_)
  show wpAny _ _ (callAny (.type "set") _) _ _ _
  refine wpAny_pure ⟨Code.quiet_builtin _ (by decide +kernel), codeAny_builtin F.entry_type_call ?_⟩
  rw [Around.under_plain (weight_type_call_type "set" [.ref l] []) rfl]
  have g1 := F.called_set.notType
  have g2 := F.called_set.canCreate
  have g3 := F.typeCall_set_1 (.ref l)
  repeat (any_goals (first | assumption | wp_step))
  refine codeAny_mono (code_set_new_1 (.ref l) (E := E) (Q₁ := fun obj s1 => ∃ led : Bool, obj = .ref s.heap.objs.size ∧ s1 = { s with heap := s.heap.push { cls := .type "set", dict := none, data := .set #[] 0 (.fresh 0 0 led) } }) fun led => ⟨led, rfl, rfl⟩) fun r s1 hr => ?_
  cases r with
  | error e => exact hr
  | ok fl =>
    cases fl with
    | ret obj =>
      obtain ⟨led, rfl, rfl⟩ := hr
      have hS : (s.heap.push { cls := .type "set", dict := none, data := .set #[] 0 (.fresh 0 0 led) }).get? s.heap.objs.size = some { cls := .type "set", dict := none, data := .set #[] 0 (.fresh 0 0 led) } := Heap.get?_push_size _ rfl
      have hT : Shared.TypeIs { s with heap := s.heap.push { cls := .type "set", dict := none, data := .set #[] 0 (.fresh 0 0 led) } } (.ref s.heap.objs.size) "set" := ⟨_, hS, rfl⟩
      have g4 := F.called_set.init.lookup
      have g5 := F.called_set.init.bind (.ref s.heap.objs.size)
      repeat (any_goals (first | assumption | wp_step))
      refine codeAny_mono (codeAny_call_builtin (R := wants (fun r s2 => r = .none ∧ ∃ h' tk, s2 = { s with heap := h', toks := tk } ∧ h'.SetOf (mixKind prog w) s.heap.objs.size (inU zs) (uq zs).length ∧ (∀ b o, s.heap.get? b = some o → h'.get? b = some o)) E) F.called_set.init.plain F.entry_set_init (check_set_init_1 hT ?_)) fun r2 s2 hr2 => ?_
      · obtain ⟨⟨oc, od, oda, osl⟩, hol, hcl, nl, hdl⟩ := hl
        simp only at hcl hdl
        subst hcl hdl
        have hol' : (s.heap.push { cls := .type "set", dict := none, data := .set #[] 0 (.fresh 0 0 led) }).get? l = some { cls := .type "list", dict := od, data := .seq items nl, slots := osl } := Heap.get?_push_of_some _ hol
        have g6 := F.sub_list_set
        have g7 := F.sub_list_frozenset
        have g8 : (Value.type "list" == Value.type "dict") = false := by decide
        have hl1 : (s.heap.push { cls := .type "set", dict := none, data := .set #[] 0 (.fresh 0 0 led) }).IsList l items := ⟨_, hol', rfl, nl, rfl⟩
        unfold Builtin.«set.__init__» noKeywords Builtin.Frozenset.updateFrom
        generalize hPI : pyIter = PI
        wp_walk
        subst hPI
        refine wpAny_pyIter_list hl1 (wpAny_bind (wpAny_runValue ?_))
        have lS : l < s.heap.objs.size := Heap.lt_size hol
        have h3 : A.in1.in1.in1.handled = none := by simp [hh]
        have nI : l ≠ (s.heap.push { cls := .type "set", dict := none, data := .set #[] 0 (.fresh 0 0 led) }).objs.size := by rw [Heap.size_push]; exact Nat.ne_of_lt (Nat.lt_succ_of_lt lS)
        have nS : s.heap.objs.size ∉ [(s.heap.push { cls := .type "set", dict := none, data := .set #[] 0 (.fresh 0 0 led) }).objs.size, l] := by
          rw [Heap.size_push]
          simp only [List.mem_cons, List.not_mem_nil, or_false, not_or]
          exact ⟨Nat.ne_of_lt (Nat.lt_succ_self _), Nat.ne_of_gt lS⟩
        refine texts_loop (Walks.list h3 _ l nI items) s.heap.objs.size nS zs hz hi hb (items.size - 0) 0 _ (by omega) (Nat.zero_le _) ⟨⟨_, Heap.get?_push_size _ rfl, rfl, rfl⟩, hl1.push _⟩ ?S0 ?R0
        case S0 =>
          have q : ((s.heap.push { cls := .type "set", dict := none, data := .set #[] 0 (.fresh 0 0 led) }).push { cls := .type "list_iterator", data := .fields #[.ref l, .int 0 0] }).get? s.heap.objs.size = some { cls := .type "set", dict := none, data := .set #[] 0 (.fresh 0 0 led) } := Heap.get?_push_of_some _ hS
          refine ⟨_, #[], 0, _, q, ⟨rfl, rfl, rfl⟩, rfl, fun e he => by simp at he, fun x => ?_, by decide, by rfl, rfl⟩
          cases x <;> simp [inU, uq]
        case R0 =>
          intro h' tk km hS'
          show wpAny _ _ _ _ _ _
          refine wpAny_pure ?_
          show wpAny _ _ (ret Value.none) _ _ _
          refine wpAny_pure ⟨rfl, h', tk, rfl, hS', fun b o e => ?_⟩
          have lb : b < s.heap.objs.size := Heap.lt_size e
          refine km b o (Nat.ne_of_lt lb) ?_ (Heap.get?_push_of_some _ (Heap.get?_push_of_some _ e))
          rw [Heap.size_push]
          simp only [List.mem_cons, List.not_mem_nil, or_false]
          exact Nat.ne_of_lt (Nat.lt_succ_of_lt lb)
      · cases r2 with
        | error e => exact hr2
        | ok fl2 =>
          cases fl2 with
          | ret r =>
            obtain ⟨rfl, h', tk, rfl, hS', hk'⟩ := hr2
            repeat (any_goals (first | assumption | wp_step))
            exact h _ _ hS' hk'
          | _ => exact hr2.elim
    | _ => exact hr.elim
end
def TxS (P : Program) (w : World) (a : Addr) (zs : List Str) : HO := .ext fun h => h.SetOf (mixKind P w) a (inU zs) (uq zs).length
theorem txs_ok {P : Program} {w : World} {H : Hp} {h : Heap} {a : Addr} {zs : List Str} (hS : h.SetOf (mixKind P w) a (inU zs) (uq zs).length) : ObjOk P w H h a (TxS P w a zs) :=
  ⟨hS, (let ⟨o, _, _, _, ho, _⟩ := hS; ⟨o, ho⟩), fun _ _ p k => set_cast p k (fun _ => rfl) rfl⟩
section
variable {X : Cx}
theorem call_set_texts (hc : X.calm = true) : CallR X (.type "set") (fun xs H Q => ∃ (l : Addr) (zs : List Str), xs = [.ref l] ∧ SqL X.K H l (zs.map V.str) ∧ zs.length ≤ 2000 ∧ ∀ a, H a = none → Q (.ref a) (upd H a (TxS X.prog X.w a zs))) := by
  intro pins s σ H xs us Q I r h
  obtain ⟨l, zs, rfl, hq, hz, q⟩ := h
  obtain ⟨u, rfl, ru⟩ := vals1 r
  obtain rfl : u = Value.ref l := ru
  obtain ⟨its, rv, pl, _⟩ := I.list hq
  have hlen := rv.length
  rw [List.length_map] at hlen
  refine set_texts (zs := zs) (I.ok.hd hc) pl.isList (by simpa using hlen) (fun i v hv => ?_) (by simp only [List.size_toArray]; unfold scanBound; omega) fun h' tk hS kk => ⟨.ref s.heap.objs.size, _, I.laid (a := s.heap.objs.size) (o := TxS X.prog X.w s.heap.objs.size zs) (t' := tk) kk (Nat.le_refl _) (txs_ok hS), rfl, q _ (I.hok.fresh (Nat.le_refl _))⟩
  · have hv' : its[i]? = some v := by simpa using hv
    have hlt : i < zs.length := by have := (List.getElem?_eq_some_iff.mp hv').1; omega
    obtain ⟨u, hu, ru⟩ := rv.get (i := i) (x := V.str zs[i]) (by rw [List.getElem?_map, List.getElem?_eq_getElem hlt]; rfl)
    rw [hv'] at hu
    cases hu
    obtain ⟨t, rfl⟩ := ru
    exact ⟨zs[i], t, List.getElem?_eq_getElem hlt, rfl⟩
theorem call_len_texts : CallR X (.builtin "len") (fun xs H Q => ∃ (a : Addr) (zs : List Str), xs = [.ref a] ∧ H a = some (TxS X.prog X.w a zs) ∧ Q (.int (uq zs).length) H) := by
  intro pins s σ H xs us Q I r h
  obtain ⟨a, zs, rfl, ha, q⟩ := h
  obtain ⟨u, rfl, ru⟩ := vals1 r
  obtain rfl : u = Value.ref a := ru
  obtain ⟨o, es, ep, t, ho, hex, hd, _, _, hb, hf, hn⟩ := (I.hok a _ ha).1
  refine call_len_set ho hex hd hf (by unfold scanBound at hb; omega) ?_
  rw [hn]
  exact ⟨.int _, H, I.tok _, ⟨_, rfl⟩, q⟩
end
end L2
namespace L2
open PySem PySem.Spec PyProof.Rows PySem.W
theorem bt_sum : bootBuiltins "sum" = some (.builtin "sum") := by decide +kernel
theorem bt_set : bootBuiltins "set" = some (.type "set") := by decide +kernel
theorem bt_enumerate : bootBuiltins "enumerate" = some (.type "enumerate") := by decide +kernel
def Sml (ns : List Int) : Prop := ns.length ≤ 2000 ∧ ∀ n ∈ ns, -1000000 ≤ n ∧ n ≤ 1000000
theorem pre_sum (ns : List Int) : ∀ i, i ≤ ns.length → preSum (fun j => ns.getD j 0) i = (ns.take i).sum
  | 0, _ => by simp [preSum]
  | i + 1, h => by
    have ih := pre_sum ns i (by omega)
    have hlt : i < ns.length := by omega
    have e : ns.take (i + 1) = ns.take i ++ [ns[i]] := by rw [List.take_add_one, List.getElem?_eq_getElem hlt]; rfl
    have e2 : ns.getD i 0 = ns[i] := by simp [List.getD, List.getElem?_eq_getElem hlt]
    rw [e, List.sum_append]
    simp only [List.sum_cons, List.sum_nil]
    show preSum (fun j => ns.getD j 0) i + ns.getD i 0 = _
    rw [ih, e2]
    omega
theorem sum_bd : ∀ (l : List Int), (∀ n ∈ l, -1000000 ≤ n ∧ n ≤ 1000000) → -1000000 * (l.length : Int) ≤ l.sum ∧ l.sum ≤ 1000000 * (l.length : Int)
  | [], _ => by simp
  | n :: r, h => by
    have h1 := h n List.mem_cons_self
    have h2 := sum_bd r fun m hm => h m (List.mem_cons_of_mem _ hm)
    rw [List.sum_cons, List.length_cons]
    constructor <;> omega
section
variable {X : Cx}
def rSum (K : PySem.W.Frag) : List V → Hp → VK → Prop := fun xs H Q => ∃ (a : Addr) (ns : List Int), xs = [.ref a] ∧ (SqL K H a (ns.map V.int) ∨ SqT K H a (ns.map V.int)) ∧ Sml ns ∧ Q (.int ns.sum) H
theorem call_sum (hc : X.calm = true) : CallR X (.builtin "sum") (rSum X.K) := by
  intro pins s σ H xs us Q I r h
  obtain ⟨a, ns, rfl, hq, hs, q⟩ := h
  obtain ⟨u, rfl, ru⟩ := vals1 r
  obtain rfl : u = Value.ref a := ru
  have fit : ∀ j, j < ns.length → InLong ((fun j => ns.getD j 0) j) ∧ InLong (preSum (fun j => ns.getD j 0) (j + 1)) := fun j hj => by
    have e2 : ns.getD j 0 = ns[j] := by simp [List.getD, List.getElem?_eq_getElem hj]
    have b1 := hs.2 _ (List.getElem_mem hj)
    have b2 := sum_bd (ns.take (j + 1)) fun m hm => hs.2 m (List.mem_of_mem_take hm)
    have b3 : ((ns.take (j + 1)).length : Int) ≤ 2000 := by have := hs.1; rw [List.length_take]; omega
    rw [pre_sum ns (j + 1) (by omega)]
    refine ⟨?_, ?_⟩
    · show InLong (ns.getD j 0)
      rw [e2]
      unfold InLong
      constructor <;> omega
    · unfold InLong
      constructor <;> omega
  have fin : ∀ {its : List Value} (rv : Vals (ns.map V.int) its) (i : Nat) (v : Value), its.toArray[i]? = some v → ∃ t, v = .int ((fun j => ns.getD j 0) i) t := fun {its} rv i v hv => by
    have hv' : its[i]? = some v := by simpa using hv
    have hl := rv.length
    rw [List.length_map] at hl
    have hi : i < ns.length := by have := (List.getElem?_eq_some_iff.mp hv').1; omega
    obtain ⟨u', hu', ru'⟩ := rv.get (i := i) (x := V.int ns[i]) (by rw [List.getElem?_map, List.getElem?_eq_getElem hi]; rfl)
    rw [hv'] at hu'
    cases hu'
    obtain ⟨t, rfl⟩ := ru'
    exact ⟨t, by simp [List.getD, List.getElem?_eq_getElem hi]⟩
  rcases hq with hq | hq
  · obtain ⟨its, rv, pl, _⟩ := I.list hq
    have hl := rv.length
    rw [List.length_map] at hl
    have ne : a ≠ s.heap.objs.size := by obtain ⟨o, _, e, _⟩ := pl; exact Nat.ne_of_lt (Heap.lt_size e)
    refine call_sum_walk (wpAny_pyIter_list pl.isList ⟨s.heap.objs.size, _, _, its.toArray.size, _, _, fun j => ns.getD j 0, rfl, Walks.list (prog := X.prog) (w := X.w) (A := X.A.in1) (show X.A.in1.handled = none from I.ok.hd hc) s.heap.objs.size a ne its.toArray, ⟨⟨_, Heap.get?_push_size _ rfl, rfl, rfl⟩, pl.isList.push _⟩, fun b hb => ?_, fin rv, fun j hj => fit j (by simp only [List.size_toArray] at hj; omega), fun h' tk t' k => ?_⟩)
    · rw [Heap.size_push]
      simp only [List.mem_cons, List.not_mem_nil, or_false] at hb
      rcases hb with rfl | rfl
      · exact Nat.lt_succ_self _
      · obtain ⟨o, _, e, _⟩ := pl
        exact Nat.lt_succ_of_lt (Heap.lt_size e)
    · have e : preSum (fun j => ns.getD j 0) its.toArray.size = ns.sum := by
        rw [pre_sum ns _ (by simp only [List.size_toArray]; omega), List.take_of_length_le (by simp only [List.size_toArray]; omega)]
      rw [e]
      exact ⟨.int _, H, I.kept fun b o e => k b o (fun z => by
        have z' : b = s.heap.objs.size := by simpa using z
        exact absurd (Heap.lt_size e) (by rw [z']; exact Nat.lt_irrefl _)) (Heap.get?_push_of_some _ e), ⟨_, rfl⟩, q⟩
  · obtain ⟨its, rv, pt, _⟩ := I.tuple hq
    have hl := rv.length
    rw [List.length_map] at hl
    have ne : a ≠ s.heap.objs.size := by obtain ⟨o, e, _⟩ := pt; exact Nat.ne_of_lt (Heap.lt_size e)
    refine call_sum_walk (wpAny_pyIter_tuple (show s.heap.IsTuple a its.toArray from pt) ⟨s.heap.objs.size, _, _, its.toArray.size, _, _, fun j => ns.getD j 0, rfl, Walks.tuple (prog := X.prog) (w := X.w) (A := X.A.in1) (show X.A.in1.handled = none from I.ok.hd hc) s.heap.objs.size a ne its.toArray, ⟨⟨_, Heap.get?_push_size _ rfl, rfl, rfl⟩, Heap.IsTuple.push pt _⟩, fun b hb => ?_, fin rv, fun j hj => fit j (by simp only [List.size_toArray] at hj; omega), fun h' tk t' k => ?_⟩)
    · rw [Heap.size_push]
      simp only [List.mem_cons, List.not_mem_nil, or_false] at hb
      rcases hb with rfl | rfl
      · exact Nat.lt_succ_self _
      · obtain ⟨o, e, _⟩ := pt
        exact Nat.lt_succ_of_lt (Heap.lt_size e)
    · have e : preSum (fun j => ns.getD j 0) its.toArray.size = ns.sum := by
        rw [pre_sum ns _ (by simp only [List.size_toArray]; omega), List.take_of_length_le (by simp only [List.size_toArray]; omega)]
      rw [e]
      exact ⟨.int _, H, I.kept fun b o e => k b o (fun z => by
        have z' : b = s.heap.objs.size := by simpa using z
        exact absurd (Heap.lt_size e) (by rw [z']; exact Nat.lt_irrefl _)) (Heap.get?_push_of_some _ e), ⟨_, rfl⟩, q⟩
end
end L2
namespace L2
open PySem PySem.Spec PyProof.Rows PySem.W
def ItE (K : PySem.W.Frag) (a : Addr) : It := ⟨fun i H => ∃ xs x, SqL K H a xs ∧ xs[i]? = some x,
  fun i H x H' => ∃ T u, H T = none ∧ x = .ref T ∧ (∀ xs, SqL K H a xs → xs[i]? = some u) ∧ H' = upd H T (.tup [.int i, u]),
  fun i H => ∃ xs, SqL K H a xs ∧ i = xs.length⟩
def EnuSt (e it l : Addr) (i : Nat) (h : Heap) : Prop := (∃ old, IsEnum h e it i old) ∧ h.IsListIter it l i
theorem EnuSt.obj {e it l : Addr} {i : Nat} {h : Heap} (st : EnuSt e it l i h) : ∀ b ∈ [e, it], ∃ o, h.get? b = some o ∧ ∀ v, o.data ≠ .cell v := fun b hb => by
  obtain ⟨⟨old, h1⟩, ⟨o4, h4, _, d4⟩⟩ := st
  simp only [List.mem_cons, List.not_mem_nil, or_false] at hb
  rcases hb with rfl | rfl
  · exact ⟨_, h1, fun v z => by cases z⟩
  · exact ⟨o4, h4, fun v z => by rw [d4] at z; cases z⟩
theorem turn_enu {P : Program} {w : World} {K : PySem.W.Frag} {elts : List Expr} {kt : Nat} {pt : Pos} (e it l : Addr) (n1 : e ≠ it) (n2 : l ≠ e) (n3 : l ≠ it) :
    Turn P w K (.Tuple elts kt pt) (ItE K l) [e, it] e (EnuSt e it l) where
  mem := by simp
  obj := fun i h st => st.obj
  keep := fun i h h' st k => by
    obtain ⟨⟨old, h1⟩, h2⟩ := st
    exact ⟨⟨old, k e (by simp) _ h1⟩, h2.at fun o q => k it (by simp) o q⟩
  item := by
    intro X hP hw hK hc i pins s σ H E I hf st hg
    subst hP hw hK
    obtain ⟨xs, x, q1, hx⟩ := hg
    obtain ⟨its, rv, p1, _⟩ := I.list q1
    obtain ⟨u, hu, ru⟩ := rv.get hx
    have W := WalksT.enumerate (prog := X.prog) (w := X.w) (I.ok.hd hc) e it l n1 n2 n3 its.toArray
    obtain ⟨s1, s2⟩ := st
    have li : i < its.length := (List.getElem?_eq_some_iff.mp hu).1
    refine W.item i s _ _ (by simp only [List.size_toArray]; omega) ⟨s1, s2, p1.isList⟩ fun T vals h' tk hP fT tT mid kk => ?_
    refine ⟨_, rfl, W.go elts kt pt i T _ _ _ mid fun h'' st'' kk2 => ?_⟩
    obtain ⟨t, a, ha, rfl⟩ := hP
    have ea : a = u := by simpa [hu] using ha.symm
    subst ea
    obtain ⟨t1, t2, _⟩ := st''
    have kT : h''.IsTuple T #[.int i t, a] := by
      obtain ⟨o, q, r⟩ := tT
      exact ⟨o, kk2 T o (W.apart i T h' mid) q, r⟩
    refine ⟨.ref T, upd H T (.tup [.int i, x]), I.turnTup (ch := [e, it]) (t' := tk) hf (fun c o hc q => kk2 c o hc (kk c o hc q)) fT ⟨(show 2 ≤ sizeLine by decide), [.int i t, a], .cons ⟨t, rfl⟩ (.cons ru .nil), kT⟩, rfl, ⟨T, x, I.hok.fresh fT, rfl, fun xs' hq => by rw [I.list_inj hq q1]; exact hx, rfl⟩, ⟨t1, t2⟩, fun c hc => ?_⟩
    have hcn := (hf c hc).1
    rw [upd_ne (fun w' => ?_)]
    · exact hcn
    · subst w'
      obtain ⟨o, q, _⟩ := EnuSt.obj (show EnuSt e it l i s.heap from ⟨s1, s2⟩) c hc
      exact absurd (Heap.lt_size q) (Nat.not_lt.mpr fT)
  done := by
    intro X hP hw hK hc i pins s σ H E I hf st hg
    subst hP hw hK
    obtain ⟨xs, q1, hi⟩ := hg
    obtain ⟨its, rv, p1, _⟩ := I.list q1
    have W := WalksT.enumerate (prog := X.prog) (w := X.w) (I.ok.hd hc) e it l n1 n2 n3 its.toArray
    obtain ⟨s1, s2⟩ := st
    have e1 := rv.length
    have ei : i = its.toArray.size := by simp only [List.size_toArray]; omega
    subst ei
    refine W.done s _ _ ⟨s1, s2, p1.isList⟩ fun h' tk kk => ⟨rfl, ?_⟩
    exact I.turnMany (ch := [e, it]) hf fun c o hc q => kk c o hc q
  self := fun _ _ _ _ _ st h => let ⟨_, q⟩ := st.1; wpAny_pyIter_enum q h
def iEnu (K : PySem.W.Frag) (ta : TA) : TI := fun σ H R => ta σ H fun vs H1 => ∃ a, vs = [.ref a] ∧ (∃ xs, SqL K H1 a xs) ∧ R (ItE K a) H1
theorem pi_enum {X : Cx} {elts : List Expr} {kt : Nat} {pt : Pos} {a : Expr} {ta : TA} {p pos : Pos} (hg : Gl X "enumerate") (hm : X.mg "enumerate" = none) (ha : PA X [a] ta) (hs : starEach [a] X.env = [(false, eval a X.env)] := by rfl) :
    PI X (.Tuple elts kt pt) (.Call (.Name "enumerate" p) [a] [] pos) (iEnu X.K ta) := by
  intro pins s σ H R I h
  refine Call_ (ld_blt I hg hm bt_enumerate (PyProof.Rows.callWith_type1 (thn (ha pos pins s σ H _ I h) fun us s1 ⟨vs, H1, I1, r1, q1⟩ => ?_) (by rw [hs]; rfl) rfl))
  obtain ⟨l, rfl, ⟨xs, q1⟩, q⟩ := q1
  obtain ⟨u, rfl, r2⟩ := vals1 r1
  obtain rfl : u = Value.ref l := r2
  obtain ⟨its, rv, p1, _⟩ := I1.list q1
  have a1 : l < s1.heap.objs.size := by obtain ⟨o, n, e, _⟩ := p1; exact Heap.lt_size e
  refine call_enumerate_list p1.isList fun h' z1 z2 z3 kk => ?_
  have I2 : Inv X pins σ H1 { s1 with heap := h' } := I1.kept (t' := s1.toks) kk
  refine wpAny_pyIter_enum z1 ⟨_, _, _, _, H1, rfl, I2, turn_enu (s1.heap.objs.size + 1) s1.heap.objs.size l (Nat.succ_ne_self _) (Nat.ne_of_lt (Nat.lt_succ_of_lt a1)) (Nat.ne_of_lt a1), ⟨⟨_, z1⟩, z2⟩, fun c hc => ?_, q⟩
  have hc' : s1.heap.objs.size ≤ c := by
    simp only [List.mem_cons, List.not_mem_nil, or_false] at hc
    rcases hc with rfl | rfl
    · exact Nat.le_succ _
    · exact Nat.le_refl _
  exact I1.fpOk hc' (I1.hok.fresh hc')
end L2
namespace L2
open PySem PySem.Spec PyProof.Rows PySem.W
section
variable {prog : Program} {w : World} {A : Around} {E : Value → Shared → Prop} {s : Shared}
theorem tupnext_item {it t : Addr} {i : Nat} {items : Array Value} {x : Value} {Q : Value → Shared → Prop} (hit : s.heap.IsTupleIter it t i) (ht : s.heap.IsTuple t items) (hx : items[i]? = some x)
    (hQ : ∀ h', h'.IsTupleIter it t (i + 1) → Heap.SameBut it s.heap h' → Q x { s with heap := h' }) : wpAny (model prog w) A (Builtin.SmallTypes.nextOf (.ref it)) Q E s := by
  obtain ⟨o, ho, hc, hd⟩ := id hit
  obtain ⟨ol, hol, _, nl, hdl⟩ := ht
  have hT : s.TypeIs (.ref it) "tuple_iterator" := ⟨o, ho, hc⟩
  unfold Builtin.SmallTypes.nextOf
  refine wpAny_bind (wpAny_callSpecial?_slot (name := Str.ofString "__next__") hT slot_tupleiter_next (wpAny_call_entry slot_tupleiter_next hT entry_tupleiter_next ?_ (args_tupleiter_next _)))
  refine wpAny_bind (m := field (.ref it) 0) (wpAny_field ho hd (x := .ref t) rfl ?_)
  show wpAny _ _ (if (Value.ref t == Value.none) = true then _ else _) _ _ s
  rw [if_neg (show ¬ ((Value.ref t == Value.none) = true) from Bool.false_ne_true)]
  refine wpAny_bind (m := field (.ref it) 1) (wpAny_field ho hd (x := .int i 0) rfl ?_)
  refine wpAny_bind (m := seqItems? (.ref t)) (wpAny_seqItems hol hdl ?_)
  simp only [Int.toNat_natCast, hx]
  refine wpAny_bind (wpAny_setField ho hd (by simp) (wpAny_pure ⟨x, rfl, wpAny_pure (hQ _ ⟨_, Heap.get?_update_self _ ho (Obj.isFreed_of_fields (Obj.data_mapFields hd _)), (Obj.cls_mapFields ..).trans hc, ?_⟩ (Heap.SameBut.update ..))⟩))
  rw [Obj.data_mapFields hd]
  simp [rawInt]
theorem tupnext_end {it t : Addr} {i : Nat} {items : Array Value} {Q : Value → Shared → Prop} (hh : A.handled = none) (hit : s.heap.IsTupleIter it t i) (ht : s.heap.IsTuple t items) (hx : items[i]? = none)
    (hE : ∀ h' e, Heap.ExtBut it s.heap h' → (∃ o, h'.get? e = some o ∧ o.cls = .type "StopIteration") → E (.ref e) { s with heap := h' }) : wpAny (model prog w) A (Builtin.SmallTypes.nextOf (.ref it)) Q E s := by
  obtain ⟨o, ho, hc, hd⟩ := id hit
  obtain ⟨ol, hol, _, nl, hdl⟩ := ht
  have hT : s.TypeIs (.ref it) "tuple_iterator" := ⟨o, ho, hc⟩
  unfold Builtin.SmallTypes.nextOf
  refine wpAny_bind (wpAny_callSpecial?_slot (name := Str.ofString "__next__") hT slot_tupleiter_next (wpAny_call_entry slot_tupleiter_next hT entry_tupleiter_next ?_ (args_tupleiter_next _)))
  refine wpAny_bind (m := field (.ref it) 0) (wpAny_field ho hd (x := .ref t) rfl ?_)
  show wpAny _ _ (if (Value.ref t == Value.none) = true then _ else _) _ _ s
  rw [if_neg (show ¬ ((Value.ref t == Value.none) = true) from Bool.false_ne_true)]
  refine wpAny_bind (m := field (.ref it) 1) (wpAny_field ho hd (x := .int i 0) rfl ?_)
  refine wpAny_bind (m := seqItems? (.ref t)) (wpAny_seqItems hol hdl ?_)
  simp only [Int.toNat_natCast, hx]
  refine wpAny_bind (wpAny_rule (wpAny_bind (wpAny_setField ho hd (by simp) ?_)))
  refine wpAny_bind (m := newExc (.type "StopIteration") []) ?_
  simp only [newExc, newTuple]
  refine wpAny_bind (wpAny_newObj_type (wpAny_bind (m := firstArgMember _ _) (wpAny_of_eq (a := Value.none) (by first | rfl | (simp only [firstArgMember]; rfl)) (wpAny_newObj_type ?_ (by size_fits)))) (by size_fits))
  simp only [raiseNew]
  refine wpAny_bind (wpAny_handled ?_)
  first | rw [show A.in1.handled = none from hh] | rw [hh]
  exact wpAny_bind (wpAny_pure (wpAny_throw (hE _ _ (((Heap.SameBut.update ..).extBut.push _).push _) ⟨_, Heap.get?_push_size _ rfl, rfl⟩)))
end
theorem draws_tup {prog : Program} {w : World} {A : Around} (hh : A.handled = none) (it l : Addr) (hne : l ≠ it) (items : Array Value) :
    Draws prog w A it [it, l] items.size (fun i v => items[i]? = some v) (fun i h => h.IsTupleIter it l i ∧ h.IsTuple l items) where
  live := fun _ _ st => let ⟨o, ho, _⟩ := st.1; ⟨o, ho⟩
  frame := fun _ _ _ st hk => ⟨st.1.at fun o e => hk it (by simp) o e, st.2.at fun o e => hk l (by simp) o e⟩
  item := fun i s Q E hi st hQ => tupnext_item st.1 st.2 (x := items[i]) (by simp [hi]) fun h' hit' hs' => hQ _ h' s.toks (by simp [hi]) ⟨hit', st.2.extBut hs'.extBut hne⟩ hs'
  done := fun s Q E st hE => tupnext_end hh st.1 st.2 (by simp) hE
end L2
namespace L2
open PySem PySem.Spec PyProof.Rows PySem.W
set_option maxRecDepth 100000 in
set_option maxHeartbeats 2000000 in
theorem enu_newT (l : Addr) (items : Array Value) (n : Nat) (dct : Option Addr) (sl : Array (Option Value)) :
    Meets (Builtin.«enumerate.__new__» ⟨[.type "enumerate", .ref l], []⟩) (fun _ R s => s.heap.get? l = some { cls := .type "tuple", dict := dct, data := .seq items n, slots := sl } ∧
      R (.ok (.ret (.ref (s.heap.push { cls := .type "tuple_iterator", data := .fields #[.ref l, .int 0 0] }).objs.size)))
        { s with heap := (s.heap.push { cls := .type "tuple_iterator", data := .fields #[.ref l, .int 0 0] }).push { cls := .type "enumerate", data := .fields #[.none, .bool false, .ref s.heap.objs.size, rawInt 0, .none, .none] } }) :=
  .of_wp fun prog w A R s h => by
    obtain ⟨hp, g, d, tk, os⟩ := s
    obtain ⟨hl, h⟩ := h
    have e1 := sub_enumerate
    have e2 : Heap.IsTuple (Shared.heap ⟨hp, g, d, tk, os⟩) l items := ⟨_, hl, rfl, n, rfl⟩
    wp_walk using AutoSeq1.wpAny_loadPart' hl
    refine wpAny_stack_any fun st => wpAny_pure ?_
    split
    · rename_i c _ _ _ _ _
      cases (c == Value.type "enumerate")
      · wp_walk using AutoSeq1.wpAny_loadPart' hl, wpAny_pyIter_tuple e2
        exact ⟨_, rfl, h⟩
      · wp_walk using AutoSeq1.wpAny_loadPart' hl, wpAny_pyIter_tuple e2
        exact ⟨_, rfl, h⟩
    · wp_walk using AutoSeq1.wpAny_loadPart' hl, wpAny_pyIter_tuple e2
      exact ⟨_, rfl, h⟩
section
variable {prog : Program} {w : World} {A : Around} {E : Value → Shared → Prop} {s : Shared}
theorem call_enuT {l : Addr} {items : Array Value} {Q : Value → Shared → Prop} (hL : s.heap.IsTuple l items)
    (h : ∀ h', IsEnum h' (s.heap.objs.size + 1) s.heap.objs.size 0 .none → h'.IsTupleIter s.heap.objs.size l 0 → (∀ b o, s.heap.get? b = some o → h'.get? b = some o) → Q (.ref (s.heap.objs.size + 1)) { s with heap := h' }) :
    wpAny (model prog w) A (call (.type "enumerate") [.ref l]) Q E s := by
  obtain ⟨⟨c, dct, dt, sl⟩, hl, hc, n, hd⟩ := hL
  replace hc : c = .type "tuple" := hc
  replace hd : dt = .seq items n := hd
  subst hc hd
  refine callType_new F.called_enumerate (by decide) (F.typeCall_enumerate_1 _) (F.newCall_enumerate_1 _) (fun obj => F.args_object_init_2 obj _) F.entry_enumerate_new (enu_newT l items n dct sl) ⟨hl, ?_⟩
  have hz : (s.heap.push { cls := .type "tuple_iterator", data := .fields #[.ref l, .int 0 0] }).objs.size = s.heap.objs.size + 1 := Heap.size_push ..
  show _ ∧ _
  rw [hz]
  have he : IsEnum ((s.heap.push { cls := .type "tuple_iterator", data := .fields #[.ref l, .int 0 0] }).push { cls := .type "enumerate", data := .fields #[.none, .bool false, .ref s.heap.objs.size, rawInt 0, .none, .none] }) (s.heap.objs.size + 1) s.heap.objs.size 0 .none := by
    have q := Heap.get?_push_size (s.heap.push { cls := .type "tuple_iterator", data := .fields #[.ref l, .int 0 0] }) (o := { cls := .type "enumerate", data := .fields #[.none, .bool false, .ref s.heap.objs.size, rawInt 0, .none, .none] }) rfl
    rw [hz] at q
    exact q
  exact ⟨⟨_, he, rfl⟩, h _ he ⟨_, Heap.get?_push_of_some _ (Heap.get?_push_size _ rfl), rfl, rfl⟩ fun b o x => Heap.get?_push_of_some _ (Heap.get?_push_of_some _ x)⟩
end
def ItU (K : PySem.W.Frag) (a : Addr) : It := ⟨fun i H => ∃ xs x, SqT K H a xs ∧ xs[i]? = some x,
  fun i H x H' => ∃ T u, H T = none ∧ x = .ref T ∧ (∀ xs, SqT K H a xs → xs[i]? = some u) ∧ H' = upd H T (.tup [.int i, u]),
  fun i H => ∃ xs, SqT K H a xs ∧ i = xs.length⟩
def EnuTt (e it l : Addr) (i : Nat) (h : Heap) : Prop := (∃ old, IsEnum h e it i old) ∧ h.IsTupleIter it l i
theorem EnuTt.obj {e it l : Addr} {i : Nat} {h : Heap} (st : EnuTt e it l i h) : ∀ b ∈ [e, it], ∃ o, h.get? b = some o ∧ ∀ v, o.data ≠ .cell v := fun b hb => by
  obtain ⟨⟨old, h1⟩, ⟨o4, h4, _, d4⟩⟩ := st
  simp only [List.mem_cons, List.not_mem_nil, or_false] at hb
  rcases hb with rfl | rfl
  · exact ⟨_, h1, fun v z => by cases z⟩
  · exact ⟨o4, h4, fun v z => by rw [d4] at z; cases z⟩
theorem turn_enuT {P : Program} {w : World} {K : PySem.W.Frag} {elts : List Expr} {kt : Nat} {pt : Pos} (e it l : Addr) (n1 : e ≠ it) (n2 : l ≠ e) (n3 : l ≠ it) :
    Turn P w K (.Tuple elts kt pt) (ItU K l) [e, it] e (EnuTt e it l) where
  mem := by simp
  obj := fun i h st => st.obj
  keep := fun i h h' st k => by
    obtain ⟨⟨old, h1⟩, h2⟩ := st
    exact ⟨⟨old, k e (by simp) _ h1⟩, h2.at fun o q => k it (by simp) o q⟩
  item := by
    intro X hP hw hK hc i pins s σ H E I hf st hg
    subst hP hw hK
    obtain ⟨xs, x, q1, hx⟩ := hg
    obtain ⟨its, rv, p1, _⟩ := I.tuple q1
    obtain ⟨u, hu, ru⟩ := rv.get hx
    have hh : X.A.in1.handled = none := I.ok.hd hc
    have W := WalksT.enumerateD (prog := X.prog) (w := X.w) (A := X.A) (draws_tup hh it l n3 its.toArray) e n1 (by simp [n1, Ne.symm n2]) (by simp)
    obtain ⟨s1, s2⟩ := st
    have li : i < its.length := (List.getElem?_eq_some_iff.mp hu).1
    refine W.item i s _ _ (by simp only [List.size_toArray]; omega) ⟨s1, s2, p1⟩ fun T vals h' tk hP fT tT mid kk => ?_
    refine ⟨_, rfl, W.go elts kt pt i T _ _ _ mid fun h'' st'' kk2 => ?_⟩
    obtain ⟨t, a, ha, rfl⟩ := hP
    have ea : a = u := by simpa [hu] using ha.symm
    subst ea
    obtain ⟨t1, t2, _⟩ := st''
    have kT : h''.IsTuple T #[.int i t, a] := by
      obtain ⟨o, q, r⟩ := tT
      exact ⟨o, kk2 T o (W.apart i T h' mid) q, r⟩
    refine ⟨.ref T, upd H T (.tup [.int i, x]), I.turnTup (ch := [e, it]) (t' := tk) hf (fun c o hc q => kk2 c o hc (kk c o hc q)) fT ⟨(show 2 ≤ sizeLine by decide), [.int i t, a], .cons ⟨t, rfl⟩ (.cons ru .nil), kT⟩, rfl, ⟨T, x, I.hok.fresh fT, rfl, fun xs' hq => by rw [I.tuple_inj hq q1]; exact hx, rfl⟩, ⟨t1, t2⟩, fun c hc => ?_⟩
    have hcn := (hf c hc).1
    rw [upd_ne (fun w' => ?_)]
    · exact hcn
    · subst w'
      obtain ⟨o, q, _⟩ := EnuTt.obj (show EnuTt e it l i s.heap from ⟨s1, s2⟩) c hc
      exact absurd (Heap.lt_size q) (Nat.not_lt.mpr fT)
  done := by
    intro X hP hw hK hc i pins s σ H E I hf st hg
    subst hP hw hK
    obtain ⟨xs, q1, hi⟩ := hg
    obtain ⟨its, rv, p1, _⟩ := I.tuple q1
    have hh : X.A.in1.handled = none := I.ok.hd hc
    have W := WalksT.enumerateD (prog := X.prog) (w := X.w) (A := X.A) (draws_tup hh it l n3 its.toArray) e n1 (by simp [n1, Ne.symm n2]) (by simp)
    obtain ⟨s1, s2⟩ := st
    have e1 := rv.length
    have ei : i = its.toArray.size := by simp only [List.size_toArray]; omega
    subst ei
    refine W.done s _ _ ⟨s1, s2, p1⟩ fun h' tk kk => ⟨rfl, ?_⟩
    exact I.turnMany (ch := [e, it]) hf fun c o hc q => kk c o hc q
  self := fun _ _ _ _ _ st h => let ⟨_, q⟩ := st.1; wpAny_pyIter_enum q h
def iEnuT (K : PySem.W.Frag) (ta : TA) : TI := fun σ H R => ta σ H fun vs H1 => ∃ a, vs = [.ref a] ∧ (∃ xs, SqT K H1 a xs) ∧ R (ItU K a) H1
theorem pi_enumT {X : Cx} {elts : List Expr} {kt : Nat} {pt : Pos} {a : Expr} {ta : TA} {p pos : Pos} (hg : Gl X "enumerate") (hm : X.mg "enumerate" = none) (ha : PA X [a] ta) (hs : starEach [a] X.env = [(false, eval a X.env)] := by rfl) :
    PI X (.Tuple elts kt pt) (.Call (.Name "enumerate" p) [a] [] pos) (iEnuT X.K ta) := by
  intro pins s σ H R I h
  refine Call_ (ld_blt I hg hm bt_enumerate (PyProof.Rows.callWith_type1 (thn (ha pos pins s σ H _ I h) fun us s1 ⟨vs, H1, I1, r1, q1⟩ => ?_) (by rw [hs]; rfl) rfl))
  obtain ⟨l, rfl, ⟨xs, q1⟩, q⟩ := q1
  obtain ⟨u, rfl, r2⟩ := vals1 r1
  obtain rfl : u = Value.ref l := r2
  obtain ⟨its, rv, p1, _⟩ := I1.tuple q1
  have a1 : l < s1.heap.objs.size := by obtain ⟨o, e, _⟩ := p1; exact Heap.lt_size e
  refine call_enuT (show s1.heap.IsTuple l its.toArray from p1) fun h' z1 z2 kk => ?_
  have I2 : Inv X pins σ H1 { s1 with heap := h' } := I1.kept (t' := s1.toks) kk
  refine wpAny_pyIter_enum z1 ⟨_, _, _, _, H1, rfl, I2, turn_enuT (s1.heap.objs.size + 1) s1.heap.objs.size l (Nat.succ_ne_self _) (Nat.ne_of_lt (Nat.lt_succ_of_lt a1)) (Nat.ne_of_lt a1), ⟨⟨_, z1⟩, z2⟩, fun c hc => ?_, q⟩
  have hc' : s1.heap.objs.size ≤ c := by
    simp only [List.mem_cons, List.not_mem_nil, or_false] at hc
    rcases hc with rfl | rfl
    · exact Nat.le_succ _
    · exact Nat.le_refl _
  exact I1.fpOk hc' (I1.hok.fresh hc')
end L2
namespace L2
open PySem PySem.Spec PyProof.Rows PySem.W
abbrev IsTri (h : Heap) (T : Addr) (a b c : Value) : Prop := h.get? T = some { cls := .type "tuple", data := .seq #[a, b, c] }
abbrev DrA (prog : Program) (w : World) (i l : Addr) (n : Nat) (P : Nat → Value → Prop) (St : Nat → Heap → Prop) : Prop := ∀ A : Around, A.handled = none → Draws prog w A i [i, l] n P St
structure Z3 (z TI TO i1 i2 i3 l1 l2 l3 : Addr) : Prop where
  nd : [z, TI, TO, i1, i2, i3].Nodup
  m1 : l1 ∉ [z, TI, TO, i1, i2, i3]
  m2 : l2 ∉ [z, TI, TO, i1, i2, i3]
  m3 : l3 ∉ [z, TI, TO, i1, i2, i3]
section
variable {prog : Program} {w : World} {A : Around} {E : Value → Shared → Prop} {s : Shared}
theorem updTri {T : Addr} {a b c x : Value} {k : Nat} {Q : Unit → Shared → Prop} (hT : IsTri s.heap T a b c)
    (h : ∀ h', h'.get? T = some { cls := .type "tuple", data := .seq ((#[a, b, c] : Array Value).setIfInBounds k x) } → Heap.SameBut T s.heap h' → Q () { s with heap := h' }) : wpAny (model prog w) A (updateSeq T (·.setIfInBounds k x)) Q E s := by
  refine wpAny_updateSeq hT rfl (h _ ?_ (Heap.SameBut.update ..))
  rw [Heap.get?_update_self _ hT rfl]
  simp [Obj.mapSeq]
variable {z TI TO i1 i2 i3 l1 l2 l3 : Addr} {n k : Nat} {P1 P2 P3 : Nat → Value → Prop} {S1 S2 S3 : Nat → Heap → Prop} {a b c : Value}
theorem z3_item {Q : Value → Shared → Prop} (Z : Z3 z TI TO i1 i2 i3 l1 l2 l3) (hz : IsZip s.heap z TI TO .none) (hTI : IsTri s.heap TI (.ref i1) (.ref i2) (.ref i3)) (hTO : IsTri s.heap TO a b c)
    (hh : A.handled = none) (D1 : DrA prog w i1 l1 n P1 S1) (D2 : DrA prog w i2 l2 n P2 S2) (D3 : DrA prog w i3 l3 n P3 S3) (hk : k < n) (t1 : S1 k s.heap) (t2 : S2 k s.heap) (t3 : S3 k s.heap)
    (hQ : ∀ x y u h' tk, P1 k x → P2 k y → P3 k u → IsZip h' z TI TO (rawInt s.heap.objs.size) → IsTri h' TO x y u → S1 (k + 1) h' → S2 (k + 1) h' → S3 (k + 1) h' → IsTri h' s.heap.objs.size x y u →
      (∀ d o, d ≠ z → d ≠ TO → d ≠ i1 → d ≠ i2 → d ≠ i3 → s.heap.get? d = some o → h'.get? d = some o) → Q (.ref s.heap.objs.size) { s with heap := h', toks := tk }) :
    wpAny (model prog w) A (Builtin.«zip.__next__» ⟨[.ref z], []⟩) (fun fin s' => ∃ v, fin = .done (.ret v) ∧ Q v s') E s := by
  obtain ⟨nd, m1, m2, m3⟩ := Z
  simp only [List.nodup_cons, List.mem_cons, List.not_mem_nil, or_false, not_or, List.nodup_nil, and_true, not_false_eq_true] at nd m1 m2 m3
  obtain ⟨⟨zTI, zTO, z1, z2, z3⟩, ⟨TITO, TI1, TI2, TI3⟩, ⟨TO1, TO2, TO3⟩, ⟨n12, n13⟩, n23⟩ := nd
  obtain ⟨l1z, l1TI, l1TO, l11, l12, l13⟩ := m1
  obtain ⟨l2z, l2TI, l2TO, l21, l22, l23⟩ := m2
  obtain ⟨l3z, l3TI, l3TO, l31, l32, l33⟩ := m3
  have fr : ∀ {S : Nat → Heap → Prop} {P : Nat → Value → Prop} {i l b : Addr} {m : Nat} {h h' : Heap}, DrA prog w i l n P S → i ≠ b → l ≠ b → Heap.SameBut b h h' → S m h → S m h' := fun D e1 e2 sb st =>
    (D A hh).frame _ _ _ st fun d hd o e => by
      simp only [List.mem_cons, List.not_mem_nil, or_false] at hd
      rcases hd with rfl | rfl
      · exact sb.extBut _ _ e1 e
      · exact sb.extBut _ _ e2 e
  show wpAny _ _ (field (.ref z) 2 >>= _) _ _ _
  refine wpAny_bind (wpAny_field hz rfl (x := .bool false) rfl ?_)
  refine wpAny_bind (m := field (.ref z) 3) (wpAny_field hz rfl (x := .ref TI) rfl ?_)
  refine wpAny_bind (wpAny_seqItems hTI rfl ?_)
  refine wpAny_bind (m := Builtin.SmallTypes.ownedTupleIsFree (.ref z)) ?_
  unfold Builtin.SmallTypes.ownedTupleIsFree
  refine wpAny_bind (wpAny_field hz rfl (x := .none) rfl (wpAny_pure ?_))
  simp only [if_true]
  refine wpAny_bind (wpAny_rule (wpAny_bind (wpAny_field hz rfl (x := .ref TO) rfl (wpAny_bind (wpAny_setField_rec hz (by simp) fun h1 hz1 s1 => ?_)))))
  replace hz1 : IsZip h1 z TI TO .ellipsis := hz1
  refine wpAny_bind ?_
  simp only [List.zipIdx_cons, List.zipIdx_nil, List.forIn_cons, List.forIn_nil]
  refine wpAny_bind (wpAny_bind (wpAny_onRaise ?_))
  refine wpAny_bind (m := Builtin.SmallTypes.nextOf (.ref i1)) ((D1 A hh).item k _ _ _ hk (fr D1 (Ne.symm z1) l1z s1 t1) fun x h2 k2 px u1 s2 => wpAny_pure ?_)
  have o2 : IsTri h2 TO a b c := s2.extBut _ _ TO1 (s1.extBut _ _ (Ne.symm zTO) hTO)
  refine wpAny_bind (wpAny_seqItems o2 rfl (wpAny_bind (updTri o2 fun h3 o3 s3 => wpAny_bind (wpAny_letGo (wpAny_pure ?_)))))
  replace o3 : IsTri h3 TO x b c := o3
  refine wpAny_bind (wpAny_bind (wpAny_onRaise ?_))
  refine wpAny_bind (m := Builtin.SmallTypes.nextOf (.ref i2)) ((D2 A hh).item k _ _ _ hk (fr D2 (Ne.symm TO2) l2TO s3 (fr D2 (Ne.symm n12) l21 s2 (fr D2 (Ne.symm z2) l2z s1 t2))) fun y h4 k4 py u2 s4 => wpAny_pure ?_)
  have o4 : IsTri h4 TO x b c := s4.extBut _ _ TO2 o3
  refine wpAny_bind (wpAny_seqItems o4 rfl (wpAny_bind (updTri o4 fun h5 o5 s5 => wpAny_bind (wpAny_letGo (wpAny_pure ?_)))))
  replace o5 : IsTri h5 TO x y c := o5
  refine wpAny_bind (wpAny_bind (wpAny_onRaise ?_))
  refine wpAny_bind (m := Builtin.SmallTypes.nextOf (.ref i3)) ((D3 A hh).item k _ _ _ hk (fr D3 (Ne.symm TO3) l3TO s5 (fr D3 (Ne.symm n23) l32 s4 (fr D3 (Ne.symm TO3) l3TO s3 (fr D3 (Ne.symm n13) l31 s2 (fr D3 (Ne.symm z3) l3z s1 t3))))) fun u h6 k6 pu u3 s6 => wpAny_pure ?_)
  have o6 : IsTri h6 TO x y c := s6.extBut _ _ TO3 o5
  refine wpAny_bind (wpAny_seqItems o6 rfl (wpAny_bind (updTri o6 fun h7 o7 s7 => wpAny_bind (wpAny_letGo (wpAny_pure (wpAny_pure ?_))))))
  replace o7 : IsTri h7 TO x y u := o7
  refine wpAny_bind (wpAny_seqItems o7 rfl (wpAny_bind (wpAny_newTuple ?_)))
  have sz : h7.objs.size = s.heap.objs.size := by rw [s7.1, s6.1, s5.1, s4.1, s3.1, s2.1, s1.1]
  have zz : IsZip h7 z TI TO .ellipsis := s7.extBut _ _ zTO (s6.extBut _ _ z3 (s5.extBut _ _ zTO (s4.extBut _ _ z2 (s3.extBut _ _ zTO (s2.extBut _ _ z1 hz1)))))
  have kk : ∀ d o, d ≠ z → d ≠ TO → d ≠ i1 → d ≠ i2 → d ≠ i3 → s.heap.get? d = some o → h7.get? d = some o := fun d o c1 c2 c3 c4 c5 e =>
    s7.extBut _ _ c2 (s6.extBut _ _ c5 (s5.extBut _ _ c2 (s4.extBut _ _ c4 (s3.extBut _ _ c2 (s2.extBut _ _ c3 (s1.extBut _ _ c1 e))))))
  have w1 : S1 (k + 1) h7 := fr D1 (Ne.symm TO1) l1TO s7 (fr D1 n13 l13 s6 (fr D1 (Ne.symm TO1) l1TO s5 (fr D1 n12 l12 s4 (fr D1 (Ne.symm TO1) l1TO s3 u1))))
  have w2 : S2 (k + 1) h7 := fr D2 (Ne.symm TO2) l2TO s7 (fr D2 n23 l23 s6 (fr D2 (Ne.symm TO2) l2TO s5 u2))
  have w3 : S3 (k + 1) h7 := fr D3 (Ne.symm TO3) l3TO s7 u3
  have zlt : z < h7.objs.size := Heap.lt_size zz
  refine wpAny_bind (m := Builtin.SmallTypes.ownedTupleHandOut (.ref z) (.ref h7.objs.size)) ?_
  unfold Builtin.SmallTypes.ownedTupleHandOut
  have zp : IsZip (h7.push { cls := .type "tuple", data := .seq #[x, y, u] }) z TI TO .ellipsis := Heap.get?_push_of_some _ zz
  refine wpAny_bind (wpAny_setField_rec zp (by simp) fun h8 hz8 s8 => ?_)
  replace hz8 : IsZip h8 z TI TO (rawInt h7.objs.size) := hz8
  refine wpAny_setField_rec hz8 (by simp) fun h9 hz9 s9 => ?_
  replace hz9 : IsZip h9 z TI TO (rawInt h7.objs.size) := hz9
  have up : ∀ d o, d ≠ z → h7.get? d = some o → h9.get? d = some o := fun d o c1 e => s9.extBut _ _ c1 (s8.extBut _ _ c1 (Heap.get?_push_of_some _ e))
  have nw : IsTri h9 h7.objs.size x y u := s9.extBut _ _ (Nat.ne_of_gt zlt) (s8.extBut _ _ (Nat.ne_of_gt zlt) (Heap.get?_push_size _ rfl))
  have fz : ∀ {S : Nat → Heap → Prop} {P : Nat → Value → Prop} {i l : Addr} {m : Nat}, DrA prog w i l n P S → i ≠ z → l ≠ z → S m h7 → S m h9 := fun D e1 e2 st => (D A hh).frame _ _ _ st fun d hd o e => by
    simp only [List.mem_cons, List.not_mem_nil, or_false] at hd
    rcases hd with rfl | rfl
    · exact up _ _ e1 e
    · exact up _ _ e2 e
  rw [sz] at hz9 nw
  refine wpAny_pure ⟨_, rfl, ?_⟩
  show Q (.ref h7.objs.size) _
  rw [sz]
  exact hQ x y u h9 _ px py pu hz9 (up _ _ (Ne.symm zTO) o7) (fz D1 (Ne.symm z1) l1z w1) (fz D2 (Ne.symm z2) l2z w2) (fz D3 (Ne.symm z3) l3z w3) nw fun d o c1 c2 c3 c4 c5 e => up d o c1 (kk d o c1 c2 c3 c4 c5 e)
theorem z3_end {Q : Fin → Shared → Prop} (Z : Z3 z TI TO i1 i2 i3 l1 l2 l3) (hz : IsZip s.heap z TI TO .none) (hTI : IsTri s.heap TI (.ref i1) (.ref i2) (.ref i3))
    (hh : A.handled = none) (D1 : DrA prog w i1 l1 n P1 S1) (t1 : S1 n s.heap)
    (hE : ∀ h' e, (∀ d o, d ≠ z → d ≠ i1 → s.heap.get? d = some o → h'.get? d = some o) → (∃ o, h'.get? e = some o ∧ o.cls = .type "StopIteration") → E (.ref e) { s with heap := h' }) :
    wpAny (model prog w) A (Builtin.«zip.__next__» ⟨[.ref z], []⟩) Q E s := by
  obtain ⟨nd, m1, _, _⟩ := Z
  simp only [List.nodup_cons, List.mem_cons, List.not_mem_nil, or_false, not_or, List.nodup_nil, and_true, not_false_eq_true] at nd m1
  obtain ⟨⟨zTI, zTO, z1, z2, z3⟩, _⟩ := nd
  obtain ⟨l1z, l1TI, l1TO, l11, l12, l13⟩ := m1
  show wpAny _ _ (field (.ref z) 2 >>= _) _ _ _
  refine wpAny_bind (wpAny_field hz rfl (x := .bool false) rfl ?_)
  refine wpAny_bind (m := field (.ref z) 3) (wpAny_field hz rfl (x := .ref TI) rfl ?_)
  refine wpAny_bind (wpAny_seqItems hTI rfl ?_)
  refine wpAny_bind (m := Builtin.SmallTypes.ownedTupleIsFree (.ref z)) ?_
  unfold Builtin.SmallTypes.ownedTupleIsFree
  refine wpAny_bind (wpAny_field hz rfl (x := .none) rfl (wpAny_pure ?_))
  simp only [if_true]
  refine wpAny_bind (wpAny_rule (wpAny_bind (wpAny_field hz rfl (x := .ref TO) rfl (wpAny_bind (wpAny_setField_rec hz (by simp) fun h1 hz1 s1 => ?_)))))
  replace hz1 : IsZip h1 z TI TO .ellipsis := hz1
  refine wpAny_bind ?_
  simp only [List.zipIdx_cons, List.zipIdx_nil, List.forIn_cons, List.forIn_nil]
  refine wpAny_bind (wpAny_bind (wpAny_onRaise ?_))
  refine wpAny_bind (m := Builtin.SmallTypes.nextOf (.ref i1)) ((D1 A hh).done _ _ _ ((D1 A hh).frame _ _ _ t1 fun d hd o e => ?_) fun h2 e s2 he => ?_)
  · simp only [List.mem_cons, List.not_mem_nil, or_false] at hd
    rcases hd with rfl | rfl
    · exact s1.extBut _ _ (Ne.symm z1) e
    · exact s1.extBut _ _ l1z e
  · obtain ⟨oe, hoe, hce⟩ := he
    have hz2 : IsZip h2 z TI TO .ellipsis := s2 _ _ z1 hz1
    have ez : e ≠ z := fun q => by subst q; rw [hz2] at hoe; cases hoe; simp at hce
    exact wpAny_setField_rec hz2 (by simp) fun h3 _ s3 => hE h3 e (fun d o c1 c2 q => s3.extBut _ _ c1 (s2 _ _ c2 (s1.extBut _ _ c1 q))) ⟨oe, s3.extBut _ _ ez hoe, hce⟩
end
end L2
namespace L2
open PySem PySem.Spec PyProof.Rows PySem.W
def Z3St (z TI TO i1 i2 i3 : Addr) (S1 S2 S3 : Nat → Heap → Prop) (i : Nat) (h : Heap) : Prop := IsZip h z TI TO .none ∧ IsTri h TI (.ref i1) (.ref i2) (.ref i3) ∧ (∃ a b c, IsTri h TO a b c) ∧ S1 i h ∧ S2 i h ∧ S3 i h
section
variable {prog : Program} {w : World} {z TI TO i1 i2 i3 l1 l2 l3 : Addr} {n : Nat} {P1 P2 P3 : Nat → Value → Prop} {S1 S2 S3 : Nat → Heap → Prop}
theorem walks3 {A : Around} (hh : A.handled = none) (Z : Z3 z TI TO i1 i2 i3 l1 l2 l3) (D1 : DrA prog w i1 l1 n P1 S1) (D2 : DrA prog w i2 l2 n P2 S2) (D3 : DrA prog w i3 l3 n P3 S3) :
    WalksT prog w A z [z, TI, TO, i1, i2, i3, l1, l2, l3] [z, TO, i1, i2, i3] n (fun i vals => ∃ x y u, P1 i x ∧ P2 i y ∧ P3 i u ∧ vals = #[x, y, u]) (Z3St z TI TO i1 i2 i3 S1 S2 S3)
      (fun i T h => IsZip h z TI TO (rawInt T) ∧ IsTri h TI (.ref i1) (.ref i2) (.ref i3) ∧ (∃ a b c, IsTri h TO a b c) ∧ S1 (i + 1) h ∧ S2 (i + 1) h ∧ S3 (i + 1) h ∧ T ∉ [z, TO, i1, i2, i3]) where
  sub := fun c hc => by simp at hc ⊢; rcases hc with rfl | rfl | rfl | rfl | rfl <;> simp
  frame := fun i h h' hst hk => by
    obtain ⟨hz, hTI, ⟨a, b, c, hTO⟩, h1, h2, h3⟩ := hst
    exact ⟨hk z (by simp) _ hz, hk TI (by simp) _ hTI, ⟨a, b, c, hk TO (by simp) _ hTO⟩, (D1 A hh).frame _ _ _ h1 fun d hd o e => hk d (by simp at hd; rcases hd with rfl | rfl <;> simp) o e,
      (D2 A hh).frame _ _ _ h2 fun d hd o e => hk d (by simp at hd; rcases hd with rfl | rfl <;> simp) o e, (D3 A hh).frame _ _ _ h3 fun d hd o e => hk d (by simp at hd; rcases hd with rfl | rfl <;> simp) o e⟩
  item := fun i s Q E hi hst hQ => by
    obtain ⟨hz, hTI, ⟨a, b, c, hTO⟩, h1, h2, h3⟩ := hst
    have hT : s.TypeIs (.ref z) "zip" := ⟨_, hz, rfl⟩
    have nd := Z.nd
    simp only [List.nodup_cons, List.mem_cons, List.not_mem_nil, or_false, not_or, List.nodup_nil, and_true, not_false_eq_true] at nd
    obtain ⟨⟨zTI, _⟩, ⟨TITO, TI1, TI2, TI3⟩, _⟩ := nd
    obtain ⟨e1, g1⟩ := (D1 A hh).live _ _ h1
    obtain ⟨e2, g2⟩ := (D2 A hh).live _ _ h2
    obtain ⟨e3, g3⟩ := (D3 A hh).live _ _ h3
    unfold pyNext
    refine wpAny_bind (wpAny_attempt (wpAny_callSpecial?_slot (name := Str.ofString "__next__") hT F.slot_zip_next (wpAny_call_entry F.slot_zip_next hT F.entry_zip_next
      (z3_item (A := A.in1) Z hz hTI hTO hh D1 D2 D3 hi h1 h2 h3 fun x y u h' tk px py pu a1 a2 a3 a4 a5 a6 hk => wpAny_pure ?_) (F.args_zip_next_1 _))))
    refine hQ s.heap.objs.size #[x, y, u] h' tk ⟨x, y, u, px, py, pu, rfl⟩ (Nat.le_refl _) ⟨_, a6, rfl, _, rfl⟩ ⟨a1, hk _ _ (Ne.symm zTI) TITO TI1 TI2 TI3 hTI, ⟨_, _, _, a2⟩, a3, a4, a5, ?_⟩ fun d o hd e => hk d o (fun q => hd (by simp [q])) (fun q => hd (by simp [q])) (fun q => hd (by simp [q])) (fun q => hd (by simp [q])) (fun q => hd (by simp [q])) e
    have lt : ∀ {d o}, s.heap.get? d = some o → s.heap.objs.size ≠ d := fun e => Nat.ne_of_gt (Heap.lt_size e)
    simp only [List.mem_cons, List.not_mem_nil, or_false, not_or]
    exact ⟨lt hz, lt hTO, lt g1, lt g2, lt g3⟩
  go := fun elts k pos i T s Q E hm hQ => by
    obtain ⟨hz, hTI, ⟨a, b, c, hTO⟩, h1, h2, h3, _⟩ := hm
    have nd := Z.nd
    have m1 := Z.m1
    have m2 := Z.m2
    have m3 := Z.m3
    simp only [List.nodup_cons, List.mem_cons, List.not_mem_nil, or_false, not_or, List.nodup_nil, and_true, not_false_eq_true] at nd m1 m2 m3
    obtain ⟨⟨zTI, zTO, z1, z2, z3⟩, _⟩ := nd
    have fz : ∀ {S : Nat → Heap → Prop} {P : Nat → Value → Prop} {j l : Addr} {m : Nat} {h' : Heap}, DrA prog w j l n P S → j ≠ z → l ≠ z → Heap.SameBut z s.heap h' → S m s.heap → S m h' := fun D e1 e2 sb st => (D A hh).frame _ _ _ st fun d hd o e => by
      simp only [List.mem_cons, List.not_mem_nil, or_false] at hd
      rcases hd with rfl | rfl
      · exact sb.extBut _ _ e1 e
      · exact sb.extBut _ _ e2 e
    exact wpAny_letOwnedTupleGo_zip hz fun h' hz' sb => hQ h' ⟨hz', sb.extBut _ _ (Ne.symm zTI) hTI, ⟨a, b, c, sb.extBut _ _ (Ne.symm zTO) hTO⟩, fz D1 (Ne.symm z1) m1.1 sb h1, fz D2 (Ne.symm z2) m2.1 sb h2, fz D3 (Ne.symm z3) m3.1 sb h3⟩ fun d o hd e => sb.extBut _ _ (fun q => hd (by simp [q])) e
  apart := fun i T h hm hT => hm.2.2.2.2.2.2 hT
  done := fun s Q E hst hQ => by
    obtain ⟨hz, hTI, _, h1, h2, h3⟩ := hst
    have hT : s.TypeIs (.ref z) "zip" := ⟨_, hz, rfl⟩
    unfold pyNext
    refine wpAny_bind (wpAny_attempt (wpAny_callSpecial?_slot (name := Str.ofString "__next__") hT F.slot_zip_next (wpAny_call_entry F.slot_zip_next hT F.entry_zip_next
      (z3_end (A := A.in1) Z hz hTI hh D1 h1 fun h' e hk he => ?_) (F.args_zip_next_1 _))))
    obtain ⟨o, ho, hc⟩ := he
    refine wpAny_bind (wpAny_isInstance (T := "StopIteration") (b := true) ⟨o, ho, hc⟩ isSubtype_stop (wpAny_pure ?_))
    exact hQ h' s.toks fun d o' hd e' => hk d o' (fun q => hd (by simp [q])) (fun q => hd (by simp [q])) e'
  self := fun i s Q E hst hQ => wpAny_pyIter_zip hst.1 hQ
end
end L2
namespace L2
open PySem PySem.Spec PyProof.Rows PySem.W
def SqB (K : PySem.W.Frag) (H : Hp) (l : Addr) : Bool → List V → Prop
  | false, xs => SqL K H l xs
  | true, xs => SqT K H l xs
def IsB (h : Heap) (l : Addr) : Bool → Array Value → Prop
  | false, items => h.IsList l items
  | true, items => h.IsTuple l items
def IS (it l : Addr) : Bool → Nat → Heap → Prop
  | false, i, h => h.IsListIter it l i
  | true, i, h => h.IsTupleIter it l i
def itO (l : Addr) : Bool → Obj
  | false => { cls := .type "list_iterator", data := .fields #[.ref l, .int 0 0] }
  | true => { cls := .type "tuple_iterator", data := .fields #[.ref l, .int 0 0] }
theorem IS.at {it l : Addr} {b : Bool} {i : Nat} {h h' : Heap} (x : IS it l b i h) (k : ∀ o, h.get? it = some o → h'.get? it = some o) : IS it l b i h' := by
  cases b
  · exact Heap.IsListIter.at x k
  · exact Heap.IsTupleIter.at x k
theorem IS.obj {it l : Addr} {b : Bool} {i : Nat} {h : Heap} (x : IS it l b i h) : ∃ o, h.get? it = some o ∧ ∀ v, o.data ≠ .cell v := by
  cases b
  · obtain ⟨o, e, _, d⟩ := x
    exact ⟨o, e, fun v z => by rw [d] at z; cases z⟩
  · obtain ⟨o, e, _, d⟩ := x
    exact ⟨o, e, fun v z => by rw [d] at z; cases z⟩
theorem drA {prog : Program} {w : World} {it l : Addr} (b : Bool) (ne : l ≠ it) (items : Array Value) : DrA prog w it l items.size (fun i v => items[i]? = some v) (fun i h => IS it l b i h ∧ IsB h l b items) := fun A hh => by
  cases b
  · exact Draws.list hh it l ne items
  · exact draws_tup hh it l ne items
section
variable {prog : Program} {w : World} {A : Around} {E : Value → Shared → Prop} {s : Shared}
theorem IsB.push {h : Heap} {l : Addr} {b : Bool} {items : Array Value} (x : IsB h l b items) (o : Obj) : IsB (h.push o) l b items := by
  cases b
  · exact Heap.IsList.push x o
  · exact Heap.IsTuple.push x o
theorem IsB.lt {h : Heap} {l : Addr} {b : Bool} {items : Array Value} (x : IsB h l b items) : l < h.objs.size := by
  cases b
  · obtain ⟨o, e, _⟩ := x; exact Heap.lt_size e
  · obtain ⟨o, e, _⟩ := x; exact Heap.lt_size e
theorem iterB {l : Addr} {b : Bool} {items : Array Value} {Q : Value → Shared → Prop} (x : IsB s.heap l b items) (hQ : Q (.ref s.heap.objs.size) { s with heap := s.heap.push (itO l b) }) : wpAny (model prog w) A (pyIter (.ref l)) Q E s := by
  cases b
  · exact wpAny_pyIter_list x hQ
  · exact wpAny_pyIter_tuple x hQ
end
abbrev zA (h : Heap) (l1 : Addr) (b1 : Bool) : Heap := h.push (itO l1 b1)
abbrev zB (h : Heap) (l1 l2 : Addr) (b1 b2 : Bool) : Heap := (zA h l1 b1).push (itO l2 b2)
abbrev zC (h : Heap) (l1 l2 l3 : Addr) (b1 b2 b3 : Bool) : Heap := (zB h l1 l2 b1 b2).push (itO l3 b3)
abbrev zD (h : Heap) (l1 l2 l3 : Addr) (b1 b2 b3 : Bool) : Heap := (zC h l1 l2 l3 b1 b2 b3).push { cls := .type "tuple", data := .seq #[.ref h.objs.size, .ref (zA h l1 b1).objs.size, .ref (zB h l1 l2 b1 b2).objs.size] }
abbrev zE (h : Heap) (l1 l2 l3 : Addr) (b1 b2 b3 : Bool) : Heap := (zD h l1 l2 l3 b1 b2 b3).push { cls := .type "tuple", data := .seq #[.none, .none, .none] }
abbrev zF (h : Heap) (l1 l2 l3 : Addr) (b1 b2 b3 : Bool) : Heap := (zE h l1 l2 l3 b1 b2 b3).push { cls := .type "zip", data := .fields #[.none, .bool false, .bool false, .ref (zC h l1 l2 l3 b1 b2 b3).objs.size, .ref (zD h l1 l2 l3 b1 b2 b3).objs.size] }
set_option maxRecDepth 100000 in
set_option maxHeartbeats 2000000 in
theorem zip3_new (l1 l2 l3 : Addr) (b1 b2 b3 : Bool) (xs ys us : Array Value) :
    Meets (Builtin.«zip.__new__» ⟨[.type "zip", .ref l1, .ref l2, .ref l3], []⟩) (fun _ R s => IsB s.heap l1 b1 xs ∧ IsB s.heap l2 b2 ys ∧ IsB s.heap l3 b3 us ∧
      R (.ok (.ret (.ref (zE s.heap l1 l2 l3 b1 b2 b3).objs.size))) { s with heap := zF s.heap l1 l2 l3 b1 b2 b3 }) :=
  .of_wp fun prog w A R s h => by
    obtain ⟨hp, g, d, tk, os⟩ := s
    obtain ⟨hl1, hl2, hl3, h⟩ := h
    have e0 := sub_zip
    have e1 : IsB (Shared.heap ⟨hp, g, d, tk, os⟩) l1 b1 xs := hl1
    have e2 : IsB (Shared.heap ⟨hp.push (itO l1 b1), g, d, tk, os⟩) l2 b2 ys := IsB.push hl2 _
    have e3 : IsB (Shared.heap ⟨(hp.push (itO l1 b1)).push (itO l2 b2), g, d, tk, os⟩) l3 b3 us := IsB.push (IsB.push hl3 _) _
    wp_walk using iterB e1, iterB e2, iterB e3
    exact ⟨_, rfl, h⟩
theorem typeCall_zip_3 (a b c : Value) : checkTypeCall "zip" ⟨[a, b, c], []⟩ = pure () := by kernel_rfl
theorem newCall_zip_3 (a b c : Value) : checkBuiltinCall "zip.__new__" ⟨[.type "zip", a, b, c], []⟩ = pure () := by kernel_rfl
end L2
namespace L2
open PySem PySem.Spec PyProof.Rows PySem.W
theorem args_init_4 (a b c d : Value) : argsOk "object.__init__" ⟨[a, b, c, d], []⟩ := by
  unfold argsOk; rw [signature?_of (id := "object.__init__") (n := ['_', '_', 't', 'i', 'n', 'i', '_', '_']) (o := ['t', 'c', 'e', 'j', 'b', 'o']) (by kernel_rfl) F.owner_object]; kernel_rfl
section
variable {prog : Program} {w : World} {A : Around} {E : Value → Shared → Prop} {s : Shared}
theorem call_zip3 {l1 l2 l3 : Addr} {b1 b2 b3 : Bool} {xs ys us : Array Value} {Q : Value → Shared → Prop} (h1 : IsB s.heap l1 b1 xs) (h2 : IsB s.heap l2 b2 ys) (h3 : IsB s.heap l3 b3 us)
    (h : ∀ h', IsZip h' (s.heap.objs.size + 5) (s.heap.objs.size + 3) (s.heap.objs.size + 4) .none → IsTri h' (s.heap.objs.size + 3) (.ref s.heap.objs.size) (.ref (s.heap.objs.size + 1)) (.ref (s.heap.objs.size + 2)) →
      IsTri h' (s.heap.objs.size + 4) .none .none .none → IS s.heap.objs.size l1 b1 0 h' → IS (s.heap.objs.size + 1) l2 b2 0 h' → IS (s.heap.objs.size + 2) l3 b3 0 h' →
      (∀ c o, s.heap.get? c = some o → h'.get? c = some o) → Q (.ref (s.heap.objs.size + 5)) { s with heap := h' }) :
    wpAny (model prog w) A (call (.type "zip") [.ref l1, .ref l2, .ref l3]) Q E s := by
  refine callType_new F.called_zip (by decide) (typeCall_zip_3 _ _ _) (newCall_zip_3 _ _ _) (fun obj => args_init_4 obj _ _ _) F.entry_zip_new (zip3_new l1 l2 l3 b1 b2 b3 xs ys us) ⟨h1, h2, h3, ?_⟩
  have z1 : (zA s.heap l1 b1).objs.size = s.heap.objs.size + 1 := Heap.size_push ..
  have z2 : (zB s.heap l1 l2 b1 b2).objs.size = s.heap.objs.size + 2 := by rw [Heap.size_push, z1]
  have z3 : (zC s.heap l1 l2 l3 b1 b2 b3).objs.size = s.heap.objs.size + 3 := by rw [Heap.size_push, z2]
  have z4 : (zD s.heap l1 l2 l3 b1 b2 b3).objs.size = s.heap.objs.size + 4 := by rw [Heap.size_push, z3]
  have z5 : (zE s.heap l1 l2 l3 b1 b2 b3).objs.size = s.heap.objs.size + 5 := by rw [Heap.size_push, z4]
  have p : ∀ {h : Heap} {c : Addr} {o q : Obj}, h.get? c = some o → (h.push q).get? c = some o := fun e => Heap.get?_push_of_some _ e
  have g6 : (zF s.heap l1 l2 l3 b1 b2 b3).get? (zE s.heap l1 l2 l3 b1 b2 b3).objs.size = some _ := Heap.get?_push_size _ rfl
  have g5 : (zF s.heap l1 l2 l3 b1 b2 b3).get? (zD s.heap l1 l2 l3 b1 b2 b3).objs.size = some _ := p (Heap.get?_push_size _ rfl)
  have g4 : (zF s.heap l1 l2 l3 b1 b2 b3).get? (zC s.heap l1 l2 l3 b1 b2 b3).objs.size = some _ := p (p (Heap.get?_push_size _ rfl))
  have fr : ∀ (l : Addr) (b : Bool), (itO l b).isFreed = false := fun l b => by cases b <;> rfl
  have g3 : (zF s.heap l1 l2 l3 b1 b2 b3).get? (zB s.heap l1 l2 b1 b2).objs.size = some (itO l3 b3) := p (p (p (Heap.get?_push_size _ (fr _ _))))
  have g2 : (zF s.heap l1 l2 l3 b1 b2 b3).get? (zA s.heap l1 b1).objs.size = some (itO l2 b2) := p (p (p (p (Heap.get?_push_size _ (fr _ _)))))
  have g1 : (zF s.heap l1 l2 l3 b1 b2 b3).get? s.heap.objs.size = some (itO l1 b1) := p (p (p (p (p (Heap.get?_push_size _ (fr _ _))))))
  have is : ∀ {it l : Addr} {b : Bool} {h : Heap}, h.get? it = some (itO l b) → IS it l b 0 h := fun {it l b h} e => by
    cases b
    · exact ⟨_, e, rfl, rfl⟩
    · exact ⟨_, e, rfl, rfl⟩
  show _ ∧ _
  rw [z3, z4, z5] at g6
  rw [z1, z2, z3] at g4
  rw [z4] at g5
  rw [z2] at g3
  rw [z1] at g2
  rw [z5]
  exact ⟨⟨_, g6, rfl⟩, h _ g6 g4 g5 (is g1) (is g2) (is g3) fun c o x => p (p (p (p (p (p x)))))⟩
end
end L2
namespace L2
open PySem PySem.Spec PyProof.Rows PySem.W
section
variable {X : Cx} {pins : List (Addr × Obj)} {σ : St} {H : Hp} {s : Shared}
theorem Inv.seqB {l : Addr} {b : Bool} {xs : List V} (I : Inv X pins σ H s) (h : SqB X.K H l b xs) : ∃ its, Vals xs its ∧ IsB s.heap l b its.toArray := by
  cases b
  · obtain ⟨its, rv, p, _⟩ := I.list h
    exact ⟨its, rv, p.isList⟩
  · obtain ⟨its, rv, p, _⟩ := I.tuple h
    exact ⟨its, rv, p⟩
theorem Inv.seqB_inj {l : Addr} {b : Bool} {xs ys : List V} (I : Inv X pins σ H s) (h : SqB X.K H l b xs) (h' : SqB X.K H l b ys) : xs = ys := by
  cases b
  · exact I.list_inj h h'
  · exact I.tuple_inj h h'
end
def ItZ3 (K : PySem.W.Frag) (l1 l2 l3 : Addr) (b1 b2 b3 : Bool) : It :=
  ⟨fun i H => ∃ xs ys us, SqB K H l1 b1 xs ∧ SqB K H l2 b2 ys ∧ SqB K H l3 b3 us ∧ xs.length = ys.length ∧ xs.length = us.length ∧ i < xs.length,
   fun i H x H' => ∃ T p q r, H T = none ∧ x = .ref T ∧ (∀ xs, SqB K H l1 b1 xs → xs[i]? = some p) ∧ (∀ ys, SqB K H l2 b2 ys → ys[i]? = some q) ∧ (∀ us, SqB K H l3 b3 us → us[i]? = some r) ∧ H' = upd H T (.tup [p, q, r]),
   fun i H => ∃ xs ys us, SqB K H l1 b1 xs ∧ SqB K H l2 b2 ys ∧ SqB K H l3 b3 us ∧ xs.length = ys.length ∧ xs.length = us.length ∧ i = xs.length⟩
def Z3T (z TI TO i1 i2 i3 l1 l2 l3 : Addr) (b1 b2 b3 : Bool) (i : Nat) (h : Heap) : Prop := IsZip h z TI TO .none ∧ IsTri h TI (.ref i1) (.ref i2) (.ref i3) ∧ (∃ a b c, IsTri h TO a b c) ∧ IS i1 l1 b1 i h ∧ IS i2 l2 b2 i h ∧ IS i3 l3 b3 i h
theorem Z3T.obj {z TI TO i1 i2 i3 l1 l2 l3 : Addr} {b1 b2 b3 : Bool} {i : Nat} {h : Heap} (st : Z3T z TI TO i1 i2 i3 l1 l2 l3 b1 b2 b3 i h) : ∀ b ∈ [z, TI, TO, i1, i2, i3], ∃ o, h.get? b = some o ∧ ∀ v, o.data ≠ .cell v := fun b hb => by
  obtain ⟨h1, h2, ⟨x, y, u, h3⟩, h4, h5, h6⟩ := st
  simp only [List.mem_cons, List.not_mem_nil, or_false] at hb
  rcases hb with rfl | rfl | rfl | rfl | rfl | rfl
  · exact ⟨_, h1, fun v z => by cases z⟩
  · exact ⟨_, h2, fun v z => by cases z⟩
  · exact ⟨_, h3, fun v z => by cases z⟩
  · exact h4.obj
  · exact h5.obj
  · exact h6.obj
theorem Z3.ne {z TI TO i1 i2 i3 l1 l2 l3 : Addr} (Z : Z3 z TI TO i1 i2 i3 l1 l2 l3) : l1 ≠ i1 ∧ l2 ≠ i2 ∧ l3 ≠ i3 := by
  obtain ⟨_, m1, m2, m3⟩ := Z
  simp only [List.mem_cons, List.not_mem_nil, or_false, not_or] at m1 m2 m3
  exact ⟨m1.2.2.2.1, m2.2.2.2.2.1, m3.2.2.2.2.2⟩
theorem turn_zip3 {P : Program} {w : World} {K : PySem.W.Frag} {elts : List Expr} {kt : Nat} {pt : Pos} (z TI TO i1 i2 i3 l1 l2 l3 : Addr) (b1 b2 b3 : Bool) (Z : Z3 z TI TO i1 i2 i3 l1 l2 l3) :
    Turn P w K (.Tuple elts kt pt) (ItZ3 K l1 l2 l3 b1 b2 b3) [z, TI, TO, i1, i2, i3] z (Z3T z TI TO i1 i2 i3 l1 l2 l3 b1 b2 b3) where
  mem := by simp
  obj := fun i h st => st.obj
  keep := fun i h h' st k => by
    obtain ⟨h1, h2, ⟨a, c, d, h3⟩, h4, h5, h6⟩ := st
    exact ⟨k z (by simp) _ h1, k TI (by simp) _ h2, ⟨a, c, d, k TO (by simp) _ h3⟩, h4.at fun o e => k i1 (by simp) o e, h5.at fun o e => k i2 (by simp) o e, h6.at fun o e => k i3 (by simp) o e⟩
  item := by
    intro X hP hw hK hc i pins s σ H E I hf st hg
    subst hP hw hK
    obtain ⟨xs, ys, us, q1, q2, q3, e12, e13, hi⟩ := hg
    obtain ⟨its, rv, p1⟩ := I.seqB q1
    obtain ⟨jts, rv2, p2⟩ := I.seqB q2
    obtain ⟨kts, rv3, p3⟩ := I.seqB q3
    have a1 := rv.length
    have a2 := rv2.length
    have a3 := rv3.length
    obtain ⟨n1, n2, n3⟩ := Z.ne
    have D1 := drA (prog := X.prog) (w := X.w) b1 n1 its.toArray
    have D2 := drA (prog := X.prog) (w := X.w) b2 n2 jts.toArray
    have D3 := drA (prog := X.prog) (w := X.w) b3 n3 kts.toArray
    rw [show jts.toArray.size = its.toArray.size by simp only [List.size_toArray]; omega] at D2
    rw [show kts.toArray.size = its.toArray.size by simp only [List.size_toArray]; omega] at D3
    have W := walks3 (I.ok.hd hc) Z D1 D2 D3
    have st0 := st
    obtain ⟨s1, s2, s3, s4, s5, s6⟩ := st
    refine W.item i s _ _ (by simp only [List.size_toArray]; omega) ⟨s1, s2, s3, ⟨s4, p1⟩, ⟨s5, p2⟩, ⟨s6, p3⟩⟩ fun T vals h' tk hP fT tT mid kk => ?_
    refine ⟨_, rfl, W.go elts kt pt i T _ _ _ mid fun h'' st'' kk2 => ?_⟩
    obtain ⟨x, y, u, hx, hy, hu, rfl⟩ := hP
    obtain ⟨u1, hu1, r1⟩ := rv.get (i := i) (x := xs[i]) (List.getElem?_eq_getElem hi)
    obtain ⟨u2, hu2, r2⟩ := rv2.get (i := i) (x := ys[i]'(by omega)) (List.getElem?_eq_getElem (by omega))
    obtain ⟨u3, hu3, r3⟩ := rv3.get (i := i) (x := us[i]'(by omega)) (List.getElem?_eq_getElem (by omega))
    obtain rfl : x = u1 := by simpa [hu1] using hx.symm
    obtain rfl : y = u2 := by simpa [hu2] using hy.symm
    obtain rfl : u = u3 := by simpa [hu3] using hu.symm
    obtain ⟨t1, t2, t3, t4, t5, t6⟩ := st''
    have kT : h''.IsTuple T #[x, y, u] := by
      obtain ⟨o, q, r⟩ := tT
      exact ⟨o, kk2 T o (W.apart i T h' mid) q, r⟩
    have cht : ∀ c, c ∈ [z, TO, i1, i2, i3] → c ∈ [z, TI, TO, i1, i2, i3] := fun c hc => by simp at hc ⊢; rcases hc with rfl | rfl | rfl | rfl | rfl <;> simp
    refine ⟨.ref T, upd H T (.tup [xs[i], ys[i]'(by omega), us[i]'(by omega)]), I.turnTup (ch := [z, TO, i1, i2, i3]) (t' := tk) (fun c hc => hf c (cht c hc)) (fun c o hc e => kk2 c o hc (kk c o hc e)) fT ⟨(show 3 ≤ sizeLine by decide), [x, y, u], .cons r1 (.cons r2 (.cons r3 .nil)), kT⟩, rfl,
      ⟨T, _, _, _, I.hok.fresh fT, rfl, fun xs' hq => by rw [I.seqB_inj hq q1]; exact List.getElem?_eq_getElem hi, fun ys' hq => by rw [I.seqB_inj hq q2]; exact List.getElem?_eq_getElem (by omega), fun us' hq => by rw [I.seqB_inj hq q3]; exact List.getElem?_eq_getElem (by omega), rfl⟩, ⟨t1, t2, t3, t4.1, t5.1, t6.1⟩, fun c hc => ?_⟩
    have hcn := (hf c hc).1
    rw [upd_ne (fun w' => ?_)]
    · exact hcn
    · subst w'
      obtain ⟨o, e, _⟩ := Z3T.obj st0 c hc
      exact absurd (Heap.lt_size e) (Nat.not_lt.mpr fT)
  done := by
    intro X hP hw hK hc i pins s σ H E I hf st hg
    subst hP hw hK
    obtain ⟨xs, ys, us, q1, q2, q3, e12, e13, hi⟩ := hg
    obtain ⟨its, rv, p1⟩ := I.seqB q1
    obtain ⟨jts, rv2, p2⟩ := I.seqB q2
    obtain ⟨kts, rv3, p3⟩ := I.seqB q3
    have a1 := rv.length
    have a2 := rv2.length
    have a3 := rv3.length
    obtain ⟨n1, n2, n3⟩ := Z.ne
    have D1 := drA (prog := X.prog) (w := X.w) b1 n1 its.toArray
    have D2 := drA (prog := X.prog) (w := X.w) b2 n2 jts.toArray
    have D3 := drA (prog := X.prog) (w := X.w) b3 n3 kts.toArray
    rw [show jts.toArray.size = its.toArray.size by simp only [List.size_toArray]; omega] at D2
    rw [show kts.toArray.size = its.toArray.size by simp only [List.size_toArray]; omega] at D3
    have W := walks3 (I.ok.hd hc) Z D1 D2 D3
    obtain ⟨s1, s2, s3, s4, s5, s6⟩ := st
    have ei : i = its.toArray.size := by simp only [List.size_toArray]; omega
    subst ei
    refine W.done s _ _ ⟨s1, s2, s3, ⟨s4, p1⟩, ⟨s5, p2⟩, ⟨s6, p3⟩⟩ fun h' tk kk => ⟨rfl, ?_⟩
    exact I.turnMany (ch := [z, TO, i1, i2, i3]) (fun c hc => hf c (by simp at hc ⊢; rcases hc with rfl | rfl | rfl | rfl | rfl <;> simp)) fun c o hc e => kk c o hc e
  self := fun _ _ _ _ _ st h => wpAny_pyIter_zip st.1 h
def iZip3 (K : PySem.W.Frag) (b1 b2 b3 : Bool) (ta : TA) : TI := fun σ H R => ta σ H fun vs H1 => ∃ a b c, vs = [.ref a, .ref b, .ref c] ∧ (∃ xs, SqB K H1 a b1 xs) ∧ (∃ ys, SqB K H1 b b2 ys) ∧ (∃ us, SqB K H1 c b3 us) ∧ R (ItZ3 K a b c b1 b2 b3) H1
theorem pi_zip3 {X : Cx} {elts : List Expr} {kt : Nat} {pt : Pos} {a b c : Expr} {ta : TA} {p pos : Pos} (b1 b2 b3 : Bool) (hg : Gl X "zip") (hm : X.mg "zip" = none) (ha : PA X [a, b, c] ta) (hs : starEach [a, b, c] X.env = [(false, eval a X.env), (false, eval b X.env), (false, eval c X.env)] := by rfl) (hs2 : starEach [b, c] X.env = [(false, eval b X.env), (false, eval c X.env)] := by rfl) :
    PI X (.Tuple elts kt pt) (.Call (.Name "zip" p) [a, b, c] [] pos) (iZip3 X.K b1 b2 b3 ta) := by
  intro pins s σ H R I h
  refine Call_ (ld_blt I hg hm bt_zip (PyProof.Rows.callWith_type1 (thn (ha pos pins s σ H _ I h) fun us s1 ⟨vs, H1, I1, r1, q1⟩ => ?_) (by rw [hs, hs2]) (by rw [hs2]; rfl)))
  obtain ⟨l1, l2, l3, rfl, ⟨xs, q1⟩, ⟨ys, q2⟩, ⟨zs, q3⟩, q⟩ := q1
  obtain ⟨u, v, y, rfl, r1, r2, r3⟩ : ∃ u v y, us = [u, v, y] ∧ RelV (.ref l1) u ∧ RelV (.ref l2) v ∧ RelV (.ref l3) y := by
    cases r1 with
    | cons a1 t1 =>
      cases t1 with
      | cons a2 t2 =>
        cases t2 with
        | cons a3 t3 =>
          cases t3
          exact ⟨_, _, _, rfl, a1, a2, a3⟩
  obtain rfl : u = Value.ref l1 := r1
  obtain rfl : v = Value.ref l2 := r2
  obtain rfl : y = Value.ref l3 := r3
  obtain ⟨its, rv, p1⟩ := I1.seqB q1
  obtain ⟨jts, rv2, p2⟩ := I1.seqB q2
  obtain ⟨kts, rv3, p3⟩ := I1.seqB q3
  have a1 := p1.lt
  have a2 := p2.lt
  have a3 := p3.lt
  refine call_zip3 p1 p2 p3 fun h' z1 z2 z3 z4 z5 z6 kk => ?_
  have I2 : Inv X pins σ H1 { s1 with heap := h' } := I1.kept (t' := s1.toks) kk
  have ap : Z3 (s1.heap.objs.size + 5) (s1.heap.objs.size + 3) (s1.heap.objs.size + 4) s1.heap.objs.size (s1.heap.objs.size + 1) (s1.heap.objs.size + 2) l1 l2 l3 := by
    generalize hN : s1.heap.objs.size = N at *
    have big : ∀ l : Addr, l < N → l ∉ [N + 5, N + 3, N + 4, N, N + 1, N + 2] := fun l hl hm => by
      simp only [List.mem_cons, List.not_mem_nil, or_false] at hm
      have le : N ≤ l := by rcases hm with rfl | rfl | rfl | rfl | rfl | rfl <;> first | exact Nat.le_refl _ | exact Nat.le_add_right _ _
      exact Nat.not_lt.mpr le hl
    exact ⟨by simp, big _ a1, big _ a2, big _ a3⟩
  refine wpAny_pyIter_zip z1 ⟨_, _, _, _, H1, rfl, I2, turn_zip3 _ _ _ _ _ _ l1 l2 l3 b1 b2 b3 ap, ⟨z1, z2, ⟨_, _, _, z3⟩, z4, z5, z6⟩, fun d hd => ?_, q⟩
  have hd' : s1.heap.objs.size ≤ d := by
    simp only [List.mem_cons, List.not_mem_nil, or_false] at hd
    rcases hd with rfl | rfl | rfl | rfl | rfl | rfl <;> omega
  exact I1.fpOk hd' (I1.hok.fresh hd')
section
variable {K : PySem.W.Frag} {g : TG} {σ : St} {H : Hp}
theorem comp_zip3 {l1 l2 l3 D : Addr} {b1 b2 b3 : Bool} {xs ys us : List V} {tt : TT} {te : TE} {R : Hp → Prop} (Pv : Nat → St → Hp → Prop) (h0 : Pv 0 σ H) (hl : ∀ i σ H, i ≤ xs.length → Pv i σ H → SqB K H l1 b1 xs ∧ SqB K H l2 b2 ys ∧ SqB K H l3 b3 us) (e1 : xs.length = ys.length) (e2 : xs.length = us.length)
    (hs : ∀ i x y u σ H T, xs[i]? = some x → ys[i]? = some y → us[i]? = some u → Pv i σ H → H T = none → g (.ref T) σ (upd H T (.tup [x, y, u])) fun σ3 H3 => tt σ3 H3 fun b H4 => if b = true then te σ3 H4 (fun v H5 => ∃ vs, H5 D = some (.lst vs) ∧ vs.length < sizeLine ∧ Pv (i + 1) σ3 (upd H5 D (.lst (vs ++ [v])))) else Pv (i + 1) σ3 H4)
    (hd : ∀ σ H, Pv xs.length σ H → R H) :
    ∃ W : Nat → Nat → St → Hp → Prop, (∃ m, W 0 m σ H) ∧ ∀ i m σ' H', W i m σ' H' → ((ItZ3 K l1 l2 l3 b1 b2 b3).stop i H' ∧ R H') ∨ ((ItZ3 K l1 l2 l3 b1 b2 b3).go i H' ∧ ∃ N : St → Hp → Prop, (∀ σ2 H2, N σ2 H2 → ∃ m', m' < m ∧ W (i + 1) m' σ2 H2) ∧
      ∀ x H2, (ItZ3 K l1 l2 l3 b1 b2 b3).yld i H' x H2 → g x σ' H2 fun σ3 H3 => tt σ3 H3 fun b H4 => if b = true then te σ3 H4 (fun v H5 => ∃ vs, H5 D = some (.lst vs) ∧ vs.length < sizeLine ∧ N σ3 (upd H5 D (.lst (vs ++ [v])))) else N σ3 H4) := by
  refine ⟨fun i m σ H => m = xs.length - i ∧ i ≤ xs.length ∧ Pv i σ H, ⟨xs.length, by simp, Nat.zero_le _, h0⟩, ?_⟩
  rintro i m σ H ⟨rfl, hi, p⟩
  obtain ⟨q1, q2, q3⟩ := hl i σ H hi p
  by_cases hlt : i < xs.length
  · refine .inr ⟨⟨xs, ys, us, q1, q2, q3, e1, e2, hlt⟩, Pv (i + 1), fun σ' H' p' => ⟨xs.length - (i + 1), by omega, rfl, hlt, p'⟩, fun x H' y => ?_⟩
    obtain ⟨T, u, v, w', hT, rfl, hu, hv, hw, rfl⟩ := y
    exact hs i u v w' σ _ T (hu xs q1) (hv ys q2) (hw us q3) p hT
  · have e : i = xs.length := by omega
    subst e
    exact .inl ⟨⟨xs, ys, us, q1, q2, q3, e1, e2, rfl⟩, hd σ H p⟩
theorem for_enu {a : Addr} {xs : List V} {tb : TS} {D : Ends} (Pv : Nat → St → Hp → Prop) (h0 : Pv 0 σ H) (hl : ∀ i σ H, i ≤ xs.length → Pv i σ H → SqL K H a xs)
    (hs : ∀ i x σ H T, xs[i]? = some x → Pv i σ H → H T = none → g (.ref T) σ (upd H T (.tup [.int i, x])) fun σ2 H2 => tb { D with nx := Pv (i + 1), ct := Pv (i + 1), bk := D.nx } σ2 H2) (hd : ∀ σ H, Pv xs.length σ H → D.nx σ H) :
    ∃ W : Nat → Nat → St → Hp → Prop, (∃ m, W 0 m σ H) ∧ ∀ i m σ H, W i m σ H →
      ((ItE K a).stop i H ∧ D.nx σ H) ∨ ((ItE K a).go i H ∧ ∃ N : St → Hp → Prop, (∀ σ' H', N σ' H' → ∃ m', m' < m ∧ W (i + 1) m' σ' H') ∧ ∀ x H', (ItE K a).yld i H x H' → g x σ H' fun σ2 H2 => tb { D with nx := N, ct := N, bk := D.nx } σ2 H2) := by
  refine ⟨fun i m σ H => m = xs.length - i ∧ i ≤ xs.length ∧ Pv i σ H, ⟨xs.length, by simp, Nat.zero_le _, h0⟩, ?_⟩
  rintro i m σ H ⟨rfl, hi, p⟩
  have q := hl i σ H hi p
  by_cases hlt : i < xs.length
  · refine .inr ⟨⟨xs, xs[i], q, by simp [hlt]⟩, Pv (i + 1), fun σ' H' p' => ⟨xs.length - (i + 1), by omega, rfl, hlt, p'⟩, fun x H' y => ?_⟩
    obtain ⟨T, u, hT, rfl, hu, rfl⟩ := y
    exact hs i u σ _ T (hu xs q) p hT
  · have e : i = xs.length := by omega
    subst e
    exact .inl ⟨⟨xs, q, rfl⟩, hd σ H p⟩
theorem comp_enuT {a D : Addr} {xs : List V} {tt : TT} {te : TE} {R : Hp → Prop} (Pv : Nat → St → Hp → Prop) (h0 : Pv 0 σ H) (hl : ∀ i σ H, i ≤ xs.length → Pv i σ H → SqT K H a xs)
    (hs : ∀ i x σ H T, xs[i]? = some x → Pv i σ H → H T = none → g (.ref T) σ (upd H T (.tup [.int i, x])) fun σ3 H3 => tt σ3 H3 fun b H4 => if b = true then te σ3 H4 (fun v H5 => ∃ vs, H5 D = some (.lst vs) ∧ vs.length < sizeLine ∧ Pv (i + 1) σ3 (upd H5 D (.lst (vs ++ [v])))) else Pv (i + 1) σ3 H4)
    (hd : ∀ σ H, Pv xs.length σ H → R H) :
    ∃ W : Nat → Nat → St → Hp → Prop, (∃ m, W 0 m σ H) ∧ ∀ i m σ' H', W i m σ' H' → ((ItU K a).stop i H' ∧ R H') ∨ ((ItU K a).go i H' ∧ ∃ N : St → Hp → Prop, (∀ σ2 H2, N σ2 H2 → ∃ m', m' < m ∧ W (i + 1) m' σ2 H2) ∧
      ∀ x H2, (ItU K a).yld i H' x H2 → g x σ' H2 fun σ3 H3 => tt σ3 H3 fun b H4 => if b = true then te σ3 H4 (fun v H5 => ∃ vs, H5 D = some (.lst vs) ∧ vs.length < sizeLine ∧ N σ3 (upd H5 D (.lst (vs ++ [v])))) else N σ3 H4) := by
  refine ⟨fun i m σ H => m = xs.length - i ∧ i ≤ xs.length ∧ Pv i σ H, ⟨xs.length, by simp, Nat.zero_le _, h0⟩, ?_⟩
  rintro i m σ H ⟨rfl, hi, p⟩
  have q := hl i σ H hi p
  by_cases hlt : i < xs.length
  · refine .inr ⟨⟨xs, xs[i], q, by simp [hlt]⟩, Pv (i + 1), fun σ' H' p' => ⟨xs.length - (i + 1), by omega, rfl, hlt, p'⟩, fun x H' y => ?_⟩
    obtain ⟨T, u, hT, rfl, hu, rfl⟩ := y
    exact hs i u σ _ T (hu xs q) p hT
  · have e : i = xs.length := by omega
    subst e
    exact .inl ⟨⟨xs, q, rfl⟩, hd σ H p⟩
end
end L2
namespace L2
open PySem PySem.Spec PyProof.Rows PySem.W
section
variable {X : Cx}
theorem op_in_seqK {K : PySem.W.Frag} (h : X.K = K) : OpR X (compareOp .In) (rIn K false) := by subst h; exact op_in_seq
theorem pe_fldK {K : PySem.W.Frag} {e : Expr} {f : Str} {ta : TE} {pos : Pos} (h : X.K = K) (he : PE X e ta) (hb : attributeBase e f X.env (eval e X.env) = eval e X.env) : PE X (.Attribute e f pos) (tFld K ta f) := by subst h; exact pe_fld he hb
theorem pe_methD0K {P : Program} {w : World} {K : PySem.W.Frag} {mg : Str → Option Value} {base : Heap} {o : Expr} {m : Str} {ta : TE} {apos pos : Pos} {j : Nat} {pl : Sem Bool} (h1 : X.prog = P) (h2 : X.w = w) (h3 : X.K = K) (h4 : X.mg = mg) (h5 : X.base = base) (he : PE X o ta) (hr : Room j X.A)
    (ht : eval (.Call (.Attribute o m apos) [] [] pos) X.env = (do
      let ov ← eval o X.env
      standAt apos.atName
      let (f, first) ← holding [ov] (getMethod ov m pl)
      callWith pos f first (backTo pos (starEach [] X.env)) (backToKw pos (keywordEach [] X.env))) := by rfl) : PE X (.Call (.Attribute o m apos) [] [] pos) (tMethD P w K mg base j m ta tNil) := by
  subst h1 h2 h3 h4 h5
  exact pe_methD0 (pl := pl) he hr ht
end
end L2
namespace L2
open PySem PySem.Spec PyProof.Rows PySem.W
section
variable {X : Cx} {pos : Pos}
theorem pg_tupK {K : PySem.W.Frag} {es : List Expr} {k : Nat} {t : TGs} {n : Nat} (h1 : X.K = K) (hc : X.calm = true) (h : PGs X es t)
    (hn : (assignEach es X.env).length = n := by rfl) (hst : (assignEach es X.env).findIdx? (·.1) = none := by rfl) : PG X (.Tuple es k pos) (gTup K n t) := by
  subst h1
  exact pg_tup hc h hn hst
end
section
variable {g : TG} {tt : TT} {te : TE} {H : Hp} {D : Addr} {σ : St} {R : Hp → Prop}
theorem comp_tup {K : PySem.W.Frag} {a : Addr} {xs : List V} (Pv : Nat → St → Hp → Prop) (h0 : Pv 0 σ H) (hl : ∀ i σ H, i ≤ xs.length → Pv i σ H → SqT K H a xs)
    (hs : ∀ i x σ H, xs[i]? = some x → Pv i σ H → g x σ H fun σ3 H3 => tt σ3 H3 fun b H4 => if b = true then te σ3 H4 (fun v H5 => ∃ ys, H5 D = some (.lst ys) ∧ ys.length < sizeLine ∧ Pv (i + 1) σ3 (upd H5 D (.lst (ys ++ [v])))) else Pv (i + 1) σ3 H4)
    (hd : ∀ σ H, Pv xs.length σ H → R H) :
    ∃ W : Nat → Nat → St → Hp → Prop, (∃ m, W 0 m σ H) ∧ ∀ i m σ' H', W i m σ' H' → ((Itt K a).stop i H' ∧ R H') ∨ ((Itt K a).go i H' ∧ ∃ N : St → Hp → Prop, (∀ σ2 H2, N σ2 H2 → ∃ m', m' < m ∧ W (i + 1) m' σ2 H2) ∧
      ∀ x H2, (Itt K a).yld i H' x H2 → g x σ' H2 fun σ3 H3 => tt σ3 H3 fun b H4 => if b = true then te σ3 H4 (fun v H5 => ∃ ys, H5 D = some (.lst ys) ∧ ys.length < sizeLine ∧ N σ3 (upd H5 D (.lst (ys ++ [v])))) else N σ3 H4) := by
  refine ⟨fun i m σ H => m = xs.length - i ∧ i ≤ xs.length ∧ Pv i σ H, ⟨xs.length, by simp, Nat.zero_le _, h0⟩, ?_⟩
  rintro i m σ H ⟨rfl, hi, p⟩
  have q := hl i σ H hi p
  by_cases hlt : i < xs.length
  · refine .inr ⟨⟨xs, xs[i], q, by simp [hlt]⟩, Pv (i + 1), fun σ' H' p' => ⟨xs.length - (i + 1), by omega, rfl, hlt, p'⟩, fun x H' y => ?_⟩
    obtain ⟨e, y⟩ := y
    subst e
    exact hs i x σ _ (y xs q) p
  · have e : i = xs.length := by omega
    subst e
    exact .inl ⟨⟨xs, q, Nat.le_refl _⟩, hd σ H p⟩
end
theorem comp_listF {K : PySem.W.Frag} {a D : Addr} {xs : List V} {te : TE} {R : Hp → Prop} {H : Hp} {o : Option V} {rest : List (Option V)} (ys : List V) (hD : H D = none) (el : ys.length = xs.length) (sz : xs.length ≤ 2000) (hq : H a = some (.lst xs))
    (he : ∀ (i : Nat) (x y : V) (H' : Hp) (Q : VK), xs[i]? = some x → ys[i]? = some y → Same H H' → (∀ H5, Same H' H5 → Q y H5) → te (some x :: rest) H' Q) (hd : ∀ H', Same H H' → H' D = some (.lst ys) → R H') :
    ∃ W : Nat → Nat → St → Hp → Prop, (∃ m, W 0 m (o :: rest) (upd H D (.lst []))) ∧ ∀ i m σ' H', W i m σ' H' → ((Itl K a).stop i H' ∧ R H') ∨ ((Itl K a).go i H' ∧ ∃ N : St → Hp → Prop, (∀ σ2 H2, N σ2 H2 → ∃ m', m' < m ∧ W (i + 1) m' σ2 H2) ∧
      ∀ x H2, (Itl K a).yld i H' x H2 → gName 0 x σ' H2 fun σ3 H3 => tYes σ3 H3 fun b H4 => if b = true then te σ3 H4 (fun v H5 => ∃ ys, H5 D = some (.lst ys) ∧ ys.length < sizeLine ∧ N σ3 (upd H5 D (.lst (ys ++ [v])))) else N σ3 H4) := by
  refine comp_list (fun i σ H' => (∃ o, σ = o :: rest) ∧ H' D = some (.lst (ys.take i)) ∧ Same H H') ⟨⟨_, rfl⟩, upd_same, Same.upd hD⟩ (fun i σ H' _ ⟨_, _, sm⟩ => SqL.of (sm _ _ hq)) ?_ ?_
  · rintro i x σ H' hx ⟨⟨o, rfl⟩, hDs, sm⟩
    have hi : i < ys.length := by rw [el]; exact (List.getElem?_eq_some_iff.mp hx).1
    refine turn_yes (he i x ys[i] H' _ hx (List.getElem?_eq_getElem hi) sm fun H5 s5 => ⟨_, s5 _ _ hDs, ?_, ⟨_, rfl⟩, ?_, fun c u z => ?_⟩)
    · rw [List.length_take]
      exact small2k (by omega)
    · rw [upd_same, List.take_add_one, List.getElem?_eq_getElem hi]
      rfl
    · rw [upd_ne (ne_of_none z hD)]
      exact s5 _ _ (sm _ _ z)
  · rintro σ H' ⟨_, hDs, sm⟩
    rw [List.take_of_length_le (by omega)] at hDs
    exact hd H' sm hDs
theorem comp_tupF {K : PySem.W.Frag} {a D : Addr} {xs : List V} {te : TE} {R : Hp → Prop} {H : Hp} {o : Option V} {rest : List (Option V)} (ys : List V) (hD : H D = none) (el : ys.length = xs.length) (sz : xs.length ≤ 2000) (hq : H a = some (.tup xs))
    (he : ∀ (i : Nat) (x y : V) (H' : Hp) (Q : VK), xs[i]? = some x → ys[i]? = some y → Same H H' → (∀ H5, Same H' H5 → Q y H5) → te (some x :: rest) H' Q) (hd : ∀ H', Same H H' → H' D = some (.lst ys) → R H') :
    ∃ W : Nat → Nat → St → Hp → Prop, (∃ m, W 0 m (o :: rest) (upd H D (.lst []))) ∧ ∀ i m σ' H', W i m σ' H' → ((Itt K a).stop i H' ∧ R H') ∨ ((Itt K a).go i H' ∧ ∃ N : St → Hp → Prop, (∀ σ2 H2, N σ2 H2 → ∃ m', m' < m ∧ W (i + 1) m' σ2 H2) ∧
      ∀ x H2, (Itt K a).yld i H' x H2 → gName 0 x σ' H2 fun σ3 H3 => tYes σ3 H3 fun b H4 => if b = true then te σ3 H4 (fun v H5 => ∃ ys, H5 D = some (.lst ys) ∧ ys.length < sizeLine ∧ N σ3 (upd H5 D (.lst (ys ++ [v])))) else N σ3 H4) := by
  refine comp_tup (fun i σ H' => (∃ o, σ = o :: rest) ∧ H' D = some (.lst (ys.take i)) ∧ Same H H') ⟨⟨_, rfl⟩, upd_same, Same.upd hD⟩ (fun i σ H' _ ⟨_, _, sm⟩ => SqT.of (sm _ _ hq)) ?_ ?_
  · rintro i x σ H' hx ⟨⟨o, rfl⟩, hDs, sm⟩
    have hi : i < ys.length := by rw [el]; exact (List.getElem?_eq_some_iff.mp hx).1
    refine turn_yes (he i x ys[i] H' _ hx (List.getElem?_eq_getElem hi) sm fun H5 s5 => ⟨_, s5 _ _ hDs, ?_, ⟨_, rfl⟩, ?_, fun c u z => ?_⟩)
    · rw [List.length_take]
      exact small2k (by omega)
    · rw [upd_same, List.take_add_one, List.getElem?_eq_getElem hi]
      rfl
    · rw [upd_ne (ne_of_none z hD)]
      exact s5 _ _ (sm _ _ z)
  · rintro σ H' ⟨_, hDs, sm⟩
    rw [List.take_of_length_le (by omega)] at hDs
    exact hd H' sm hDs
end L2
namespace L2
open PySem PySem.Spec PyProof.Rows PySem.W
section
variable {X : Cx}
theorem mt_joinK {K : PySem.W.Frag} (h : X.K = K) : MtR X "str.join" (rJoin K) := by subst h; exact mt_join
theorem sl_listK {K : PySem.W.Frag} (h : X.K = K) : SlR X (rSlL K) := by subst h; exact sl_list
theorem pe_bmK {K : PySem.W.Frag} {o e : Expr} {es : List Expr} {to : TE} {t : TA} {name : Str} {apos cpos : Pos} {T id : String} {r : V → List V → Hp → VK → Prop} (h : X.K = K) (pa : PlainAttrs T) (slot : Slot T name id) (hty : typeOf (.builtin id) = pure (.type "method_descriptor")) (hm : MtR X id r) (ho : PE X o to) (ha : PA X (e :: es) t)
    (hbase : attributeBase o name X.env (eval o X.env) = eval o X.env := by rfl)
    (hfew : ((backTo cpos (starEach (e :: es) X.env)).all (fun x => !x.1) && (backToKw cpos (keywordEach [] X.env)).all (fun x => x.1.isSome)
      && decide ((e :: es).length + ([] : List Keyword).length + (if ([] : List Keyword).isEmpty then 0 else 1) < 30)) = true := by rfl)
    (hline : (apos.endLine == cpos.line) = true := by rfl) (hs : starEach (e :: es) X.env = (false, eval e X.env) :: starEach es X.env := by rfl) (hplain : (backTo cpos (starEach es X.env)).any (·.1) = false := by rfl) :
    PE X (.Call (.Attribute o name apos) (e :: es) [] cpos) (tBM K T r to t) := by
  subst h
  exact pe_bm pa slot hty hm ho ha hbase hfew hline hs hplain
end
theorem But.new {p D : Addr} {H H' : Hp} {o : HO} (b : But p H H') (hD : H D = none) (hp : Strm H p) : But p H (upd H' D o) := by
  have ne : p ≠ D := fun e => by obtain ⟨_, _, _, q⟩ := hp; rw [e, hD] at q; cases q
  refine ⟨fun c u n e => ?_, ?_⟩
  · rw [upd_ne (fun z => by subst z; rw [hD] at e; cases e)]
    exact b.1 c u n e
  · obtain ⟨x, y, z, q⟩ := b.2
    exact ⟨x, y, z, by rw [upd_ne ne]; exact q⟩
end L2
namespace L2
open PySem PySem.Spec PyProof.Rows PySem.W
def rCatA : R2 := fun x y H Q => ∃ a b xs ys, x = .ref a ∧ y = .ref b ∧ H a = some (.tup xs) ∧ H b = some (.tup ys) ∧ xs.length + ys.length ≤ sizeLine ∧ ∀ p H', Same H H' → H' p = some (.tup (xs ++ ys)) → Q (.ref p) H'
section
variable {X : Cx}
theorem op_catA : OpR X (binaryOp .Add) rCatA := by
  intro pins s σ H x y v u Q I rx ry h
  obtain ⟨a, b, xs, ys, rfl, rfl, ha, hb, hz, q⟩ := h
  by_cases hx : xs = []
  · subst hx
    obtain rfl : v = Value.ref a := rx
    obtain rfl : u = Value.ref b := ry
    obtain ⟨its, r1, ht, _⟩ := I.tuple (SqT.of ha)
    obtain ⟨its2, r2, hb', _⟩ := I.tuple (SqT.of hb)
    obtain rfl : its = [] := r1.nil_iff.mpr rfl
    obtain ⟨⟨cls, dd, data, sl⟩, ho, hc, n, hd⟩ := id ht
    obtain ⟨⟨cls2, dd2, data2, sl2⟩, ho2, hc2, n2, hd2⟩ := id hb'
    simp only at hc hd hc2 hd2
    subst hc hd hc2 hd2
    exact concat_meets ⟨_, ho, rfl⟩ ⟨_, ho2, rfl⟩ noFill_tuple_add seq_tuple_add PySem.F.slot_tuple_add PySem.F.entry_tuple_add (PySem.F.args_tuple_add_2 _ _)
      (tuple_addW0 a b _ _ n n2 dd dd2 sl sl2 (by simp)) ⟨ho, ho2, ⟨.ref b, H, I, rfl, q b H (Same.refl H) hb⟩⟩
  · refine op_catT pins s σ H _ _ v u Q I rx ry ⟨a, b, xs, ys, rfl, rfl, SqT.of ha, SqT.of hb, hx, hz, fun e => ?_, fun _ p hp => q p _ (Same.upd hp) upd_same⟩
    subst e
    exact q a H (Same.refl H) (by rw [List.append_nil]; exact ha)
def nodeV (x : V) : Prop := flatV x = true ∨ ∃ a, x = .ref a
def Own (H : Hp) (x : V) : Prop := flatV x = true ∨ ∃ a, x = .ref a ∧ ((∃ vs, (H a = some (.lst vs) ∨ H a = some (.tup vs)) ∧ ∀ v ∈ vs, nodeV v) ∨ H a = some (.dK []) ∨ ∃ k v, H a = some (.dK [(k, v)]))
theorem all_true : ∀ n : Nat, (List.replicate n true).all id = true
  | 0 => rfl
  | n + 1 => by rw [List.replicate_succ, List.all_cons, all_true n]; rfl
theorem same_self {vs : List V} (h : ∀ v ∈ vs, nodeV v) : ∀ (i : Nat) x y b, vs[i]? = some x → vs[i]? = some y → (List.replicate vs.length true)[i]? = some b → SameOr x y b := by
  intro i x y b e1 e2 e3
  rw [e1] at e2
  cases e2
  have : b = true := by
    rw [List.getElem?_replicate] at e3
    split at e3
    · exact (Option.some.inj e3).symm
    · cases e3
  subst this
  exact SameOr.self (h x (List.mem_of_getElem? e1))
theorem op_eqO (hu : X.A.units + 64 < cLine) : OpR X (compareOp .Eq) (fun x y H Q => x = y ∧ Own H x ∧ Q (.bl true) H) := by
  intro pins s σ H x y v u Q I rx ry h
  obtain ⟨rfl, hs, q⟩ := h
  rcases hs with h | ⟨a, rfl, ⟨vs, h | h, hv⟩ | h | ⟨k, w1, h⟩⟩
  · have z : scal x x = true := by
      cases x with
      | non => rfl
      | bl b => rfl
      | int i => rfl
      | str i => rfl
      | _ => cases h
    exact op_eq pins s σ H x x v u Q I rx ry ⟨z, by simpa using q⟩
  · exact op_eqL hu pins s σ H _ _ v u Q I rx ry ⟨a, a, vs, vs, List.replicate vs.length true, rfl, rfl, SqL.of h, SqL.of h, rfl, by simp, same_self hv, by rw [all_true]; exact q⟩
  · exact op_eqT hu pins s σ H _ _ v u Q I rx ry ⟨a, a, vs, vs, List.replicate vs.length true, rfl, rfl, SqT.of h, SqT.of h, rfl, by simp, same_self hv, by rw [all_true]; exact q⟩
  · obtain rfl : v = Value.ref a := rx
    obtain rfl : u = Value.ref a := ry
    obtain ⟨_, hd, vs, rv, dd⟩ := dk_of I.hok h
    obtain rfl : vs = [] := by cases rv; rfl
    exact keq_eq (r := true) hd hd dd dd (by omega) (fun _ => .nil) ⟨.bl true, H, I, rfl, q⟩
  · obtain rfl : v = Value.ref a := rx
    obtain rfl : u = Value.ref a := ry
    obtain ⟨_, hd, vs, rv, dd⟩ := dk_of I.hok h
    obtain ⟨w', rfl⟩ : ∃ w', vs = [(k, w')] := by
      cases rv with
      | @cons p q ps qs h t =>
        cases t
        obtain ⟨q1, q2⟩ := q
        exact ⟨q2, by rw [show q1 = k from h.1.symm]⟩
    refine keq_eq (r := true && true) hd hd dd dd (by omega) (fun _ => .hit (y := w') (by simp [valueAt]) (SeqAt.EqAt.same _) .nil) ⟨.bl true, H, I, rfl, q⟩
end
end L2
namespace L2
open PySem PySem.Spec PyProof.Rows PySem.W
theorem pa14 {X : Cx} {e0 : Expr} {t0 : TE} {e1 : Expr} {t1 : TE} {e2 : Expr} {t2 : TE} {e3 : Expr} {t3 : TE} {e4 : Expr} {t4 : TE} {e5 : Expr} {t5 : TE} {e6 : Expr} {t6 : TE} {e7 : Expr} {t7 : TE} {e8 : Expr} {t8 : TE} {e9 : Expr} {t9 : TE} {e10 : Expr} {t10 : TE} {e11 : Expr} {t11 : TE} {e12 : Expr} {t12 : TE} {e13 : Expr} {t13 : TE} (h0 : PE X e0 t0) (h1 : PE X e1 t1) (h2 : PE X e2 t2) (h3 : PE X e3 t3) (h4 : PE X e4 t4) (h5 : PE X e5 t5) (h6 : PE X e6 t6) (h7 : PE X e7 t7) (h8 : PE X e8 t8) (h9 : PE X e9 t9) (h10 : PE X e10 t10) (h11 : PE X e11 t11) (h12 : PE X e12 t12) (h13 : PE X e13 t13) (s0 : isStar e0 = false := by rfl) (s1 : isStar e1 = false := by rfl) (s2 : isStar e2 = false := by rfl) (s3 : isStar e3 = false := by rfl) (s4 : isStar e4 = false := by rfl) (s5 : isStar e5 = false := by rfl) (s6 : isStar e6 = false := by rfl) (s7 : isStar e7 = false := by rfl) (s8 : isStar e8 = false := by rfl) (s9 : isStar e9 = false := by rfl) (s10 : isStar e10 = false := by rfl) (s11 : isStar e11 = false := by rfl) (s12 : isStar e12 = false := by rfl) (s13 : isStar e13 = false := by rfl) : PA X [e0, e1, e2, e3, e4, e5, e6, e7, e8, e9, e10, e11, e12, e13] (tCons t0 (tCons t1 (tCons t2 (tCons t3 (tCons t4 (tCons t5 (tCons t6 (tCons t7 (tCons t8 (tCons t9 (tCons t10 (tCons t11 (tCons t12 (tCons t13 (tNil))))))))))))))) := pa_c h0 (pa_c h1 (pa_c h2 (pa_c h3 (pa_c h4 (pa_c h5 (pa_c h6 (pa_c h7 (pa_c h8 (pa_c h9 (pa_c h10 (pa_c h11 (pa_c h12 (pa_c h13 (pa_nil) s13) s12) s11) s10) s9) s8) s7) s6) s5) s4) s3) s2) s1) s0
end L2
namespace L2
open PySem PySem.Spec PyProof.Rows PySem.W
theorem swaps_list {es : List Expr} {p : Pos} {t : Option Expr} {l : Nat} {env : Env} : swapsWith (.List es p) t l env = pure false := rfl
end L2

namespace K11
open PySem L2 PyProof.Rows PySem.NumText
def top (i : Nat) : Stmt := PySem.Challenge.pw_weirwatch_k11_what_is_one.main.body.getD i (.Pass ⟨0, 0, 0, 0⟩)
structure Ad where
  a_NoName___init__ : Addr
  d_NoName___init__ : FuncData
  a_NoGate___init__ : Addr
  d_NoGate___init__ : FuncData
  a_NoBasin___init__ : Addr
  d_NoBasin___init__ : FuncData
  a_NoTown___init__ : Addr
  d_NoTown___init__ : FuncData
  a_NoCloud___init__ : Addr
  d_NoCloud___init__ : FuncData
  a_NoRiver___init__ : Addr
  d_NoRiver___init__ : FuncData
  a_NoStanding___init__ : Addr
  d_NoStanding___init__ : FuncData
  a_is_whole : Addr
  d_is_whole : FuncData
  a_is_made_of : Addr
  d_is_made_of : FuncData
  a_is_name : Addr
  d_is_name : FuncData
  a_is_row : Addr
  d_is_row : FuncData
  a_is_row_up_to : Addr
  d_is_row_up_to : FuncData
  a_is_pair : Addr
  d_is_pair : FuncData
  a_is_standing : Addr
  d_is_standing : FuncData
  a_is_choice : Addr
  d_is_choice : FuncData
  a_forced_rain : Addr
  d_forced_rain : FuncData
  a_is_rain : Addr
  d_is_rain : FuncData
  a_are_marks : Addr
  d_are_marks : FuncData
  a_kept_marks : Addr
  d_kept_marks : FuncData
  a_StepGate___init__ : Addr
  d_StepGate___init__ : FuncData
  a_StepGate_settings : Addr
  d_StepGate_settings : FuncData
  a_FlapGate___init__ : Addr
  d_FlapGate___init__ : FuncData
  a_FlapGate_settings : Addr
  d_FlapGate_settings : FuncData
  a_PartGate___init__ : Addr
  d_PartGate___init__ : FuncData
  a_PartGate_settings : Addr
  d_PartGate_settings : FuncData
  a_StuckGate___init__ : Addr
  d_StuckGate___init__ : FuncData
  a_StuckGate_settings : Addr
  d_StuckGate_settings : FuncData
  a_refuse_no_level : Addr
  d_refuse_no_level : FuncData
  a_Basin___init__ : Addr
  d_Basin___init__ : FuncData
  a_Town___init__ : Addr
  d_Town___init__ : FuncData
  a_are_unlike : Addr
  d_are_unlike : FuncData
  a_are_basins : Addr
  d_are_basins : FuncData
  a_are_towns : Addr
  d_are_towns : FuncData
  a_River___init__ : Addr
  d_River___init__ : FuncData
  a__law_cell : Addr
  d__law_cell : FuncData
  a__law_stream : Addr
  d__law_stream : FuncData
  a__law_take : Addr
  d__law_take : FuncData
  a__law_names : Addr
  d__law_names : FuncData
  a__law_gate : Addr
  d__law_gate : FuncData
  a__law_basin : Addr
  d__law_basin : FuncData
  a__law_river : Addr
  d__law_river : FuncData
  a__law_made_gate : Addr
  d__law_made_gate : FuncData
  a__law_made : Addr
  d__law_made : FuncData
  a__law_settings : Addr
  d__law_settings : FuncData
  a__law_standing : Addr
  d__law_standing : FuncData
  a__law_choice : Addr
  d__law_choice : FuncData
  a__law_forced : Addr
  d__law_forced : FuncData
  a__law_raised : Addr
  d__law_raised : FuncData
  a__law_rain : Addr
  d__law_rain : FuncData
  a__law_whole : Addr
  d__law_whole : FuncData
  a__law_row : Addr
  d__law_row : FuncData
  a__law_is_standing : Addr
  d__law_is_standing : FuncData
  a__law_is_choice : Addr
  d__law_is_choice : FuncData
  a__law_is_rain : Addr
  d__law_is_rain : FuncData
  a__law_odd : Addr
  d__law_odd : FuncData
  a__law_row_put : Addr
  d__law_row_put : FuncData
  a__law_pair_put : Addr
  d__law_pair_put : FuncData
  a__law_any : Addr
  d__law_any : FuncData
  a__law_told : Addr
  d__law_told : FuncData
  a__law_pairs_right : Addr
  d__law_pairs_right : FuncData
  a__law_refused : Addr
  d__law_refused : FuncData
  a_law : Addr
  d_law : FuncData
  t_LETTERS : Tok
  t_MOST_LETTERS : Tok
  t_MOST_SETTINGS : Tok
  t_HIGHEST_MARK : Tok
  t_HIGHEST : Tok
  t_MOST_RAIN : Tok
  t_MOST_WANT : Tok
  t_MOST_CLOUD : Tok
  t_MOST_BASINS : Tok
  t_MOST_TOWNS : Tok
  c_WeirError : Addr
  c_NoName : Addr
  c_NoGate : Addr
  c_NoBasin : Addr
  c_NoTown : Addr
  c_NoCloud : Addr
  c_NoRiver : Addr
  c_NoStanding : Addr
  c_NoChoice : Addr
  c_NoRain : Addr
  c_NoNumber : Addr
  c_Gate : Addr
  c_StepGate : Addr
  c_FlapGate : Addr
  c_PartGate : Addr
  c_StuckGate : Addr
  c_Basin : Addr
  c_Town : Addr
  c_River : Addr
structure Tx (K : W.Frag) (mg : Str → Option Value) (a : Ad) : Prop where
  f_is_whole : FT K mg "is_whole" (top 16) ["thing", "low", "high"] a.a_is_whole a.d_is_whole
  f_is_made_of : FT K mg "is_made_of" (top 17) ["text", "signs"] a.a_is_made_of a.d_is_made_of
  f_is_name : FT K mg "is_name" (top 18) ["thing"] a.a_is_name a.d_is_name
  f_is_row : FT K mg "is_row" (top 20) ["thing", "lows", "highs"] a.a_is_row a.d_is_row
  f_is_row_up_to : FT K mg "is_row_up_to" (top 21) ["thing", "highs"] a.a_is_row_up_to a.d_is_row_up_to
  f_is_pair : FT K mg "is_pair" (top 22) ["thing"] a.a_is_pair a.d_is_pair
  f_is_standing : FT K mg "is_standing" (top 23) ["river", "thing"] a.a_is_standing a.d_is_standing
  f_is_choice : FT K mg "is_choice" (top 24) ["river", "thing"] a.a_is_choice a.d_is_choice
  f_forced_rain : FT K mg "forced_rain" (top 25) ["river", "wet"] a.a_forced_rain a.d_forced_rain
  f_is_rain : FT K mg "is_rain" (top 26) ["river", "standing", "thing"] a.a_is_rain a.d_is_rain
  f_are_marks : FT K mg "are_marks" (top 31) ["thing", "lowest"] a.a_are_marks a.d_are_marks
  f_kept_marks : FT K mg "kept_marks" (top 32) ["marks", "lowest"] a.a_kept_marks a.d_kept_marks
  f_refuse_no_level : FT K mg "refuse_no_level" (top 46) ["thing", "low", "high"] a.a_refuse_no_level a.d_refuse_no_level
  f_are_unlike : FT K mg "are_unlike" (top 49) ["names"] a.a_are_unlike a.d_are_unlike
  f_are_basins : FT K mg "are_basins" (top 50) ["thing"] a.a_are_basins a.d_are_basins
  f_are_towns : FT K mg "are_towns" (top 51) ["thing", "basins"] a.a_are_towns a.d_are_towns
  f__law_cell : FT K mg "_law_cell" (top 54) ["_law_script", "_law_k"] a.a__law_cell a.d__law_cell
  f__law_stream : FT K mg "_law_stream" (top 55) ["_law_cell_here"] a.a__law_stream a.d__law_stream
  f__law_take : FT K mg "_law_take" (top 56) ["_law_stream_here", "_law_many"] a.a__law_take a.d__law_take
  f__law_names : FT K mg "_law_names" (top 57) ["_law_stream_here", "_law_many"] a.a__law_names a.d__law_names
  f__law_gate : FT K mg "_law_gate" (top 58) ["_law_stream_here"] a.a__law_gate a.d__law_gate
  f__law_basin : FT K mg "_law_basin" (top 59) ["_law_stream_here", "_law_name"] a.a__law_basin a.d__law_basin
  f__law_river : FT K mg "_law_river" (top 60) ["_law_cell_here"] a.a__law_river a.d__law_river
  f__law_made_gate : FT K mg "_law_made_gate" (top 61) ["_law_told_here"] a.a__law_made_gate a.d__law_made_gate
  f__law_made : FT K mg "_law_made" (top 62) ["_law_told_here"] a.a__law_made a.d__law_made
  f__law_settings : FT K mg "_law_settings" (top 63) ["_law_gate_here"] a.a__law_settings a.d__law_settings
  f__law_standing : FT K mg "_law_standing" (top 64) ["_law_stream_here", "_law_told_here"] a.a__law_standing a.d__law_standing
  f__law_choice : FT K mg "_law_choice" (top 65) ["_law_stream_here", "_law_told_here"] a.a__law_choice a.d__law_choice
  f__law_forced : FT K mg "_law_forced" (top 66) ["_law_told_here", "_law_wet"] a.a__law_forced a.d__law_forced
  f__law_raised : FT K mg "_law_raised" (top 67) ["_law_told_here", "_law_wet", "_law_row_here"] a.a__law_raised a.d__law_raised
  f__law_rain : FT K mg "_law_rain" (top 68) ["_law_stream_here", "_law_told_here", "_law_wet"] a.a__law_rain a.d__law_rain
  f__law_whole : FT K mg "_law_whole" (top 69) ["_law_thing", "_law_low", "_law_high"] a.a__law_whole a.d__law_whole
  f__law_row : FT K mg "_law_row" (top 70) ["_law_thing", "_law_lows", "_law_highs"] a.a__law_row a.d__law_row
  f__law_is_standing : FT K mg "_law_is_standing" (top 71) ["_law_told_here", "_law_thing"] a.a__law_is_standing a.d__law_is_standing
  f__law_is_choice : FT K mg "_law_is_choice" (top 72) ["_law_told_here", "_law_thing"] a.a__law_is_choice a.d__law_is_choice
  f__law_is_rain : FT K mg "_law_is_rain" (top 73) ["_law_told_here", "_law_wet", "_law_thing"] a.a__law_is_rain a.d__law_is_rain
  f__law_odd : FT K mg "_law_odd" (top 74) ["_law_stream_here", "_law_number"] a.a__law_odd a.d__law_odd
  f__law_row_put : FT K mg "_law_row_put" (top 75) ["_law_stream_here", "_law_row_here"] a.a__law_row_put a.d__law_row_put
  f__law_pair_put : FT K mg "_law_pair_put" (top 76) ["_law_stream_here", "_law_pair"] a.a__law_pair_put a.d__law_pair_put
  f__law_any : FT K mg "_law_any" (top 77) ["_law_stream_here"] a.a__law_any a.d__law_any
  f__law_told : FT K mg "_law_told" (top 78) ["_law_found", "_law_due"] a.a__law_told a.d__law_told
  f__law_pairs_right : FT K mg "_law_pairs_right" (top 79) ["_law_told_here", "_law_river_here", "_law_stream_here", "_law_standing_here", "_law_choice_here"] a.a__law_pairs_right a.d__law_pairs_right
  f__law_refused : FT K mg "_law_refused" (top 80) ["_law_river_here", "_law_thing", "_law_rain_here"] a.a__law_refused a.d__law_refused
  f_law : FT K mg "law" (top 81) ["_law_script"] a.a_law a.d_law
  c_LETTERS : mg "LETTERS" = some (.str "abcdefghijklmnopqrstuvwxyz" a.t_LETTERS)
  c_MOST_LETTERS : mg "MOST_LETTERS" = some (.int 8 a.t_MOST_LETTERS)
  c_MOST_SETTINGS : mg "MOST_SETTINGS" = some (.int 4 a.t_MOST_SETTINGS)
  c_HIGHEST_MARK : mg "HIGHEST_MARK" = some (.int 12 a.t_HIGHEST_MARK)
  c_HIGHEST : mg "HIGHEST" = some (.int 12 a.t_HIGHEST)
  c_MOST_RAIN : mg "MOST_RAIN" = some (.int 6 a.t_MOST_RAIN)
  c_MOST_WANT : mg "MOST_WANT" = some (.int 6 a.t_MOST_WANT)
  c_MOST_CLOUD : mg "MOST_CLOUD" = some (.int 12 a.t_MOST_CLOUD)
  c_MOST_BASINS : mg "MOST_BASINS" = some (.int 16 a.t_MOST_BASINS)
  c_MOST_TOWNS : mg "MOST_TOWNS" = some (.int 3 a.t_MOST_TOWNS)
  n_ValueError : mg "ValueError" = none
  n_all : mg "all" = none
  n_bool : mg "bool" = none
  n_enumerate : mg "enumerate" = none
  n_int : mg "int" = none
  n_isinstance : mg "isinstance" = none
  n_len : mg "len" = none
  n_list : mg "list" = none
  n_max : mg "max" = none
  n_min : mg "min" = none
  n_range : mg "range" = none
  n_set : mg "set" = none
  n_str : mg "str" = none
  n_sum : mg "sum" = none
  n_tuple : mg "tuple" = none
  n_zip : mg "zip" = none
  m_WeirError : mg "WeirError" = some (.ref a.c_WeirError)
  m_NoName : mg "NoName" = some (.ref a.c_NoName)
  m_NoGate : mg "NoGate" = some (.ref a.c_NoGate)
  m_NoBasin : mg "NoBasin" = some (.ref a.c_NoBasin)
  m_NoTown : mg "NoTown" = some (.ref a.c_NoTown)
  m_NoCloud : mg "NoCloud" = some (.ref a.c_NoCloud)
  m_NoRiver : mg "NoRiver" = some (.ref a.c_NoRiver)
  m_NoStanding : mg "NoStanding" = some (.ref a.c_NoStanding)
  m_NoChoice : mg "NoChoice" = some (.ref a.c_NoChoice)
  m_NoRain : mg "NoRain" = some (.ref a.c_NoRain)
  m_Gate : mg "Gate" = some (.ref a.c_Gate)
  m_StepGate : mg "StepGate" = some (.ref a.c_StepGate)
  m_FlapGate : mg "FlapGate" = some (.ref a.c_FlapGate)
  m_PartGate : mg "PartGate" = some (.ref a.c_PartGate)
  m_StuckGate : mg "StuckGate" = some (.ref a.c_StuckGate)
  m_Basin : mg "Basin" = some (.ref a.c_Basin)
  m_Town : mg "Town" = some (.ref a.c_Town)
  m_River : mg "River" = some (.ref a.c_River)
  f_NoName___init__ : FM K "__init__" "NoName.__init__" (inClass (top 3) 0) ["self", "thing"] a.a_NoName___init__ a.d_NoName___init__
  f_NoGate___init__ : FM K "__init__" "NoGate.__init__" (inClass (top 4) 0) ["self", "thing"] a.a_NoGate___init__ a.d_NoGate___init__
  f_NoBasin___init__ : FM K "__init__" "NoBasin.__init__" (inClass (top 5) 0) ["self", "thing"] a.a_NoBasin___init__ a.d_NoBasin___init__
  f_NoTown___init__ : FM K "__init__" "NoTown.__init__" (inClass (top 6) 0) ["self", "thing"] a.a_NoTown___init__ a.d_NoTown___init__
  f_NoCloud___init__ : FM K "__init__" "NoCloud.__init__" (inClass (top 7) 0) ["self", "thing"] a.a_NoCloud___init__ a.d_NoCloud___init__
  f_NoRiver___init__ : FM K "__init__" "NoRiver.__init__" (inClass (top 8) 0) ["self", "thing"] a.a_NoRiver___init__ a.d_NoRiver___init__
  f_NoStanding___init__ : FM K "__init__" "NoStanding.__init__" (inClass (top 9) 0) ["self", "thing"] a.a_NoStanding___init__ a.d_NoStanding___init__
  f_StepGate___init__ : FM K "__init__" "StepGate.__init__" (inClass (top 35) 0) ["self", "marks"] a.a_StepGate___init__ a.d_StepGate___init__
  f_StepGate_settings : FM K "settings" "StepGate.settings" (inClass (top 35) 1) ["self"] a.a_StepGate_settings a.d_StepGate_settings
  f_FlapGate___init__ : FM K "__init__" "FlapGate.__init__" (inClass (top 36) 0) ["self", "marks"] a.a_FlapGate___init__ a.d_FlapGate___init__
  f_FlapGate_settings : FM K "settings" "FlapGate.settings" (inClass (top 36) 1) ["self"] a.a_FlapGate_settings a.d_FlapGate_settings
  f_PartGate___init__ : FM K "__init__" "PartGate.__init__" (inClass (top 37) 0) ["self", "marks"] a.a_PartGate___init__ a.d_PartGate___init__
  f_PartGate_settings : FM K "settings" "PartGate.settings" (inClass (top 37) 1) ["self"] a.a_PartGate_settings a.d_PartGate_settings
  f_StuckGate___init__ : FM K "__init__" "StuckGate.__init__" (inClass (top 38) 0) ["self", "gate", "setting"] a.a_StuckGate___init__ a.d_StuckGate___init__
  f_StuckGate_settings : FM K "settings" "StuckGate.settings" (inClass (top 38) 1) ["self"] a.a_StuckGate_settings a.d_StuckGate_settings
  f_Basin___init__ : FM K "__init__" "Basin.__init__" (inClass (top 47) 0) ["self", "name", "low", "high", "start", "rain", "gate"] a.a_Basin___init__ a.d_Basin___init__
  f_Town___init__ : FM K "__init__" "Town.__init__" (inClass (top 48) 0) ["self", "name", "basin", "want"] a.a_Town___init__ a.d_Town___init__
  f_River___init__ : FM K "__init__" "River.__init__" (inClass (top 52) 0) ["self", "cloud", "gain", "basins", "towns"] a.a_River___init__ a.d_River___init__
  x_NoName : XCls K a.c_NoName a.c_WeirError a.a_NoName___init__
  n_NoName_thing : NoAttr K a.c_NoName "thing"
  x_NoGate : XCls K a.c_NoGate a.c_WeirError a.a_NoGate___init__
  n_NoGate_thing : NoAttr K a.c_NoGate "thing"
  x_NoBasin : XCls K a.c_NoBasin a.c_WeirError a.a_NoBasin___init__
  n_NoBasin_thing : NoAttr K a.c_NoBasin "thing"
  x_NoTown : XCls K a.c_NoTown a.c_WeirError a.a_NoTown___init__
  n_NoTown_thing : NoAttr K a.c_NoTown "thing"
  x_NoCloud : XCls K a.c_NoCloud a.c_WeirError a.a_NoCloud___init__
  x_NoRiver : XCls K a.c_NoRiver a.c_WeirError a.a_NoRiver___init__
  x_NoStanding : XCls K a.c_NoStanding a.c_WeirError a.a_NoStanding___init__
  e_NoStanding : ECls K a.c_NoStanding
  n_NoStanding_thing : NoAttr K a.c_NoStanding "thing"
  s_StepGate : Cls K a.c_StepGate
  y_StepGate : YCls K a.c_StepGate
  k_StepGate : Mk K a.c_StepGate a.a_StepGate___init__
  me_StepGate_settings : Meth K a.c_StepGate "settings" a.a_StepGate_settings
  n_StepGate_marks : NoAttr K a.c_StepGate "marks"
  s_FlapGate : Cls K a.c_FlapGate
  y_FlapGate : YCls K a.c_FlapGate
  k_FlapGate : Mk K a.c_FlapGate a.a_FlapGate___init__
  me_FlapGate_settings : Meth K a.c_FlapGate "settings" a.a_FlapGate_settings
  n_FlapGate_marks : NoAttr K a.c_FlapGate "marks"
  s_PartGate : Cls K a.c_PartGate
  y_PartGate : YCls K a.c_PartGate
  k_PartGate : Mk K a.c_PartGate a.a_PartGate___init__
  me_PartGate_settings : Meth K a.c_PartGate "settings" a.a_PartGate_settings
  n_PartGate_marks : NoAttr K a.c_PartGate "marks"
  s_StuckGate : Cls K a.c_StuckGate
  y_StuckGate : YCls K a.c_StuckGate
  k_StuckGate : Mk K a.c_StuckGate a.a_StuckGate___init__
  me_StuckGate_settings : Meth K a.c_StuckGate "settings" a.a_StuckGate_settings
  n_StuckGate_gate : NoAttr K a.c_StuckGate "gate"
  n_StuckGate_setting : NoAttr K a.c_StuckGate "setting"
  s_Basin : Cls K a.c_Basin
  y_Basin : YCls K a.c_Basin
  k_Basin : Mk K a.c_Basin a.a_Basin___init__
  n_Basin_name : NoAttr K a.c_Basin "name"
  n_Basin_low : NoAttr K a.c_Basin "low"
  n_Basin_high : NoAttr K a.c_Basin "high"
  n_Basin_start : NoAttr K a.c_Basin "start"
  n_Basin_rain : NoAttr K a.c_Basin "rain"
  n_Basin_gate : NoAttr K a.c_Basin "gate"
  s_Town : Cls K a.c_Town
  y_Town : YCls K a.c_Town
  k_Town : Mk K a.c_Town a.a_Town___init__
  n_Town_name : NoAttr K a.c_Town "name"
  n_Town_basin : NoAttr K a.c_Town "basin"
  n_Town_want : NoAttr K a.c_Town "want"
  s_River : Cls K a.c_River
  k_River : Mk K a.c_River a.a_River___init__
  n_River_cloud : NoAttr K a.c_River "cloud"
  n_River_gain : NoAttr K a.c_River "gain"
  n_River_basins : NoAttr K a.c_River "basins"
  n_River_towns : NoAttr K a.c_River "towns"
  i_StepGate : W.kitOne K (.ref a.c_StepGate) (.ref a.c_Gate) = some true
  i_FlapGate : W.kitOne K (.ref a.c_FlapGate) (.ref a.c_Gate) = some true
  i_PartGate : W.kitOne K (.ref a.c_PartGate) (.ref a.c_Gate) = some true
  i_StuckGate : W.kitOne K (.ref a.c_StuckGate) (.ref a.c_Gate) = some true
  i_o_Basin : W.kitOne K (.ref a.c_Basin) (.ref a.c_Basin) = some true
  i_o_Town : W.kitOne K (.ref a.c_Town) (.ref a.c_Town) = some true
  i_b_StepGate : W.kitOne K (.ref a.c_StepGate) (.type "bool") = some false
  i_b_FlapGate : W.kitOne K (.ref a.c_FlapGate) (.type "bool") = some false
  i_b_PartGate : W.kitOne K (.ref a.c_PartGate) (.type "bool") = some false
  i_b_StuckGate : W.kitOne K (.ref a.c_StuckGate) (.type "bool") = some false
  i_f_StepGate : W.kitAny K (.ref a.c_StepGate) [.ref a.c_StepGate, .ref a.c_FlapGate, .ref a.c_PartGate, .ref a.c_StuckGate] = some true
  i_f_FlapGate : W.kitAny K (.ref a.c_FlapGate) [.ref a.c_StepGate, .ref a.c_FlapGate, .ref a.c_PartGate, .ref a.c_StuckGate] = some true
  i_f_PartGate : W.kitAny K (.ref a.c_PartGate) [.ref a.c_StepGate, .ref a.c_FlapGate, .ref a.c_PartGate, .ref a.c_StuckGate] = some true
  i_f_StuckGate : W.kitAny K (.ref a.c_StuckGate) [.ref a.c_StepGate, .ref a.c_FlapGate, .ref a.c_PartGate, .ref a.c_StuckGate] = some true
  i_x_NoStanding_NoChoice : W.kitOne K (.ref a.c_NoStanding) (.ref a.c_NoChoice) = some false
  i_x_NoStanding_NoRain : W.kitOne K (.ref a.c_NoStanding) (.ref a.c_NoRain) = some false
  i_w_NoStanding : W.kitOne K (.ref a.c_NoStanding) (.ref a.c_WeirError) = some true
  i_v_NoStanding : W.kitOne K (.ref a.c_NoStanding) (.type "ValueError") = some true
  i_m_NoStanding_NoStanding : W.mroIn K a.c_NoStanding (.ref a.c_NoStanding) = some true
def marksB : Int → List V → Bool
  | _, [] => true
  | lo, .int i :: r => (decide (lo ≤ i) && decide (i ≤ 12)) && marksB (i + 1) r
  | _, _ :: _ => false
def areB (lo : Int) (xs : List V) : Bool := decide (1 ≤ xs.length ∧ xs.length ≤ 4) && marksB lo xs
theorem marksB_cons (lo : Int) (x : V) (r : List V) : marksB lo (x :: r) = (wholeB x lo 12 && match x with | .int i => marksB (i + 1) r | _ => false) := by
  cases x <;> simp [marksB, wholeB]
inductive Sq (H : Hp) : V → List V → Prop where
  | lst {p : Addr} {xs : List V} : H p = some (.lst xs) → Sq H (.ref p) xs
  | tup {p : Addr} {xs : List V} : H p = some (.tup xs) → Sq H (.ref p) xs
theorem Sq.same {H H' : Hp} {x : V} {xs : List V} (s : Same H H') (h : Sq H x xs) : Sq H' x xs := by
  cases h with
  | lst e => exact .lst (s _ _ e)
  | tup e => exact .tup (s _ _ e)
theorem Sq.ty {K : W.Frag} {H : Hp} {x : V} {xs : List V} (h : Sq H x xs) : ∃ t, TyX K H x t ∧ tpB t = true ∧ W.kitAny K t [.type "list", .type "tuple"] = some true := by
  cases h with
  | lst e => exact ⟨_, .of (.lst e), rfl, rfl⟩
  | tup e => exact ⟨_, .of (.tup e), rfl, rfl⟩
inductive Shp (K : W.Frag) (H : Hp) (lo : Int) : V → Bool → Prop where
  | seq {x : V} {xs : List V} : Sq H x xs → (∀ y ∈ xs, Tm K H y) → Shp K H lo x (areB lo xs)
  | non {x : V} {t : Value} : TyX K H x t → W.kitAny K t [.type "list", .type "tuple"] = some false → Shp K H lo x false
def spAre (K : W.Frag) : Sp := fun vs H Q _ => ∃ (x : V) (lo : Int) (b : Bool), vs = [x, .int lo] ∧ Shp K H lo x b ∧ ∀ H', Same H H' → Q (.bl b) H'
def Rf (a : Ad) (H H' : Hp) (x : V) (c : Value) (eo : Option Addr) : Prop := ∃ e dx, c = .ref a.c_NoGate ∧ eo = some e ∧ Same H H' ∧ H' e = some (XO e a.c_NoGate (some dx) false) ∧ H' dx = some (XD dx [("thing", x)])
theorem Rf.of {a : Ad} {H H1 H' : Hp} {x : V} {c : Value} {eo : Option Addr} (s : Same H H1) (h : Rf a H1 H' x c eo) : Rf a H H' x c eo := by
  obtain ⟨e, dx, h1, h2, h3, h4, h5⟩ := h
  exact ⟨e, dx, h1, h2, s.trans h3, h4, h5⟩
theorem Rf.new {a : Ad} {H : Hp} {x : V} {e dx : Addr} (h1 : H e = none) (h2 : H dx = none) (ne : dx ≠ e) : Rf a H (upd (upd (upd H dx (XD dx [("thing", x)])) e (XO e a.c_NoGate (some dx) true)) e (XO e a.c_NoGate (some dx) false)) x (.ref a.c_NoGate) (some e) := by
  refine ⟨e, dx, rfl, rfl, ?_, upd_same, ?_⟩
  · rw [upd_upd]
    intro b o q
    rw [upd_ne (ne_of_none q h1), upd_ne (ne_of_none q h2)]
    exact q
  · rw [upd_ne ne, upd_ne ne, upd_same]
def spKept (K : W.Frag) (a : Ad) : Sp := fun vs H Q E => ∃ (x : V) (lo : Int), vs = [x, .int lo] ∧
  ((∃ xs, Sq H x xs ∧ (∀ y ∈ xs, Tm K H y) ∧ areB lo xs = true ∧ ∀ t H', Same H H' → H' t = some (.tup xs) → Q (.ref t) H') ∨ (Shp K H lo x false ∧ ∀ c eo H', Rf a H H' x c eo → E c eo H'))
def IsC (a : Ad) (C : Addr) : Prop := C = a.c_StepGate ∨ C = a.c_FlapGate ∨ C = a.c_PartGate
def GateAt (C : Addr) (H : Hp) (g : Addr) (xs : List V) : Prop := ∃ dx t, H g = some (.ins C dx [("marks", .ref t)]) ∧ H t = some (.tup xs)
theorem GateAt.same {C : Addr} {H H' : Hp} {g : Addr} {xs : List V} (s : Same H H') (h : GateAt C H g xs) : GateAt C H' g xs := let ⟨dx, t, h1, h2⟩ := h; ⟨dx, t, s _ _ h1, s _ _ h2⟩
def spInit (K : W.Frag) (a : Ad) (lo : Int) : Sp := fun vs H Q E => ∃ (p C dx : Addr) (x : V), vs = [.ref p, x] ∧ H p = some (.ins C dx []) ∧ Cls K C ∧ NoAttr K C "marks" ∧
  ((∃ xs, Sq H x xs ∧ (∀ y ∈ xs, Tm K H y) ∧ areB lo xs = true ∧ ∀ t H', Same H H' → H' t = some (.tup xs) → Q .non (upd H' p (.ins C dx [("marks", .ref t)]))) ∨ (Shp K H lo x false ∧ ∀ c eo H', Rf a H H' x c eo → E c eo H'))
def spSet (C : Addr) : Sp := fun vs H Q _ => ∃ (p : Addr) (xs : List V), vs = [.ref p] ∧ GateAt C H p xs ∧ Q (.int xs.length) H
def spOne : Sp := fun vs H Q _ => ∃ x, vs = [x] ∧ Q (.int 1) H
inductive GS (K : W.Frag) (a : Ad) (H : Hp) : V → Nat → Prop where
  | plain {g C : Addr} {xs : List V} : IsC a C → GateAt C H g xs → xs.length ≤ 4 → GS K a H (.ref g) xs.length
  | stuck {g dx : Addr} {x y : V} : H g = some (.ins a.c_StuckGate dx [("gate", x), ("setting", y)]) → GS K a H (.ref g) 1
theorem GS.same {K : W.Frag} {a : Ad} {H H' : Hp} {x : V} {n : Nat} (s : Same H H') (h : GS K a H x n) : GS K a H' x n := by
  cases h with
  | plain i g l => exact .plain i (g.same s) l
  | stuck e => exact .stuck (s _ _ e)
def spInitS (K : W.Frag) (a : Ad) : Sp := fun vs H Q E => ∃ (p dx : Addr) (x y : V), vs = [.ref p, x, y] ∧ H p = some (.ins a.c_StuckGate dx []) ∧
  ((∃ t, TyX K H x t ∧ W.kitOne K t (.ref a.c_Gate) = some false ∧ ∀ c eo H', Rf a H H' x c eo → E c eo H') ∨
   (∃ n, GS K a H x n ∧ Tm K H y ∧ wholeB y 0 (n - 1) = false ∧ ∀ c eo H', Rf a H H' y c eo → E c eo H') ∨
   (∃ n, GS K a H x n ∧ Tm K H y ∧ wholeB y 0 (n - 1) = true ∧ Q .non (upd H p (.ins a.c_StuckGate dx [("gate", x), ("setting", y)]))))
def Knd (z : Str) : Prop := z = ("step" : Str) ∨ z = ("flap" : Str) ∨ z = ("part" : Str)
def loOf (z : Str) : Int := if z = ("part" : Str) then 1 else 0
def cOf (a : Ad) (z : Str) : Addr := if z = ("step" : Str) then a.c_StepGate else if z = ("flap" : Str) then a.c_FlapGate else a.c_PartGate
theorem cOf_is {a : Ad} {z : Str} : IsC a (cOf a z) := by
  unfold cOf
  split
  · exact .inl rfl
  · split
    · exact .inr (.inl rfl)
    · exact .inr (.inr rfl)
theorem ne_ps : ¬ (("part" : Str) = "step") := by decide +kernel
theorem ne_pf : ¬ (("part" : Str) = "flap") := by decide +kernel
theorem ne_fs : ¬ (("flap" : Str) = "step") := by decide +kernel
theorem ne_fp : ¬ (("flap" : Str) = "part") := by decide +kernel
theorem ne_sp : ¬ (("step" : Str) = "part") := by decide +kernel
theorem strN {x y : Str} (h : ¬ x = y) : ¬ V.str x = V.str y := fun e => h (V.str.inj e)
def LET : Str := "abcdefghijklmnopqrstuvwxyz"
def allIn (g z : Str) : Bool := z.cps.toList.all fun c => decide (c ∈ g.cps.toList)
def nameB (z : Str) : Bool := decide (1 ≤ z.length ∧ z.length ≤ 8) && allIn LET z
structure Wd (n : Nat) (z : Str) : Prop where
  len : z.length ≤ n
  low : ∀ c ∈ z.cps.toList, c < 128
theorem len_cps (z : Str) : z.cps.toList.length = z.length := Array.length_toList
theorem sum_one : ∀ ys : List Str, (∀ y ∈ ys, Wd 1 y) → (ys.map (·.length)).sum ≤ ys.length
  | [], _ => Nat.le_refl _
  | y :: r, h => by
    have h1 := (h y List.mem_cons_self).len
    have ih := sum_one r fun z hz => h z (List.mem_cons_of_mem _ hz)
    simp only [List.map_cons, List.sum_cons, List.length_cons]
    omega
theorem at_str {g : Str} {r : Int} (h0 : 0 ≤ r) (h1 : r < g.length) : ∃ c, c ∈ g.cps.toList ∧ atI g.cps.toList r = some c := by
  obtain ⟨n, rfl⟩ := Int.eq_ofNat_of_zero_le h0
  have hn : n < g.cps.toList.length := by rw [len_cps]; omega
  exact ⟨g.cps.toList[n], List.getElem_mem hn, atI_nat (List.getElem?_eq_getElem hn)⟩
theorem wd_lit {z : Str} {n : Nat} (h : (decide (z.length ≤ n) && z.cps.toList.all (fun c => decide (c < 128))) = true) : Wd n z := by
  rw [Bool.and_eq_true] at h
  exact ⟨of_decide_eq_true h.1, fun c hc => of_decide_eq_true (List.all_eq_true.mp h.2 c hc)⟩
theorem wd_let : Wd 26 LET := wd_lit (by decide +kernel)
def nameV : V → Bool
  | .str z => nameB z
  | _ => false
def Nmd (K : W.Frag) (H : Hp) (x : V) : Prop := Tm K H x ∧ ∀ z, x = .str z → Wd 50 z
def spMade : Sp := fun vs H Q _ => ∃ z g : Str, vs = [.str z, .str g] ∧ z.length ≤ 2000 ∧ ∀ H', Same H H' → Q (.bl (allIn g z)) H'
def spName (K : W.Frag) : Sp := fun vs H Q _ => ∃ x : V, vs = [x] ∧ Nmd K H x ∧ ∀ H', Same H H' → Q (.bl (nameV x)) H'
def RfC (C : Addr) (H H' : Hp) (x : V) (c : Value) (eo : Option Addr) : Prop := ∃ e dx, c = .ref C ∧ eo = some e ∧ Same H H' ∧ H' e = some (XO e C (some dx) false) ∧ H' dx = some (XD dx [("thing", x)])
theorem RfC.of {C : Addr} {H H1 H' : Hp} {x : V} {c : Value} {eo : Option Addr} (s : Same H H1) (h : RfC C H1 H' x c eo) : RfC C H H' x c eo := by
  obtain ⟨e, dx, h1, h2, h3, h4, h5⟩ := h
  exact ⟨e, dx, h1, h2, s.trans h3, h4, h5⟩
theorem RfC.new {C : Addr} {H : Hp} {x : V} {e dx : Addr} (h1 : H e = none) (h2 : H dx = none) (ne : dx ≠ e) : RfC C H (upd (upd (upd H dx (XD dx [("thing", x)])) e (XO e C (some dx) true)) e (XO e C (some dx) false)) x (.ref C) (some e) := by
  refine ⟨e, dx, rfl, rfl, ?_, upd_same, ?_⟩
  · rw [upd_upd]
    intro b o q
    rw [upd_ne (ne_of_none q h1), upd_ne (ne_of_none q h2)]
    exact q
  · rw [upd_ne ne, upd_ne ne, upd_same]
def spNoLevel (K : W.Frag) (a : Ad) : Sp := fun vs H Q E => ∃ (x : V) (lo hi : Int), vs = [x, .int lo, .int hi] ∧ Tm K H x ∧ ((wholeB x lo hi = true ∧ Q .non H) ∨ (wholeB x lo hi = false ∧ ∀ c eo H', RfC a.c_NoBasin H H' x c eo → E c eo H'))
inductive Due (n lo hi st rn g : V) (gb : Bool) : Option (Nat × V) → Prop
  | name : nameV n = false → Due n lo hi st rn g gb (some (0, n))
  | low : nameV n = true → wholeB lo 0 12 = false → Due n lo hi st rn g gb (some (1, lo))
  | high (l : Int) : nameV n = true → lo = .int l → wholeB lo 0 12 = true → wholeB hi l 12 = false → Due n lo hi st rn g gb (some (1, hi))
  | start (l h : Int) : nameV n = true → lo = .int l → hi = .int h → wholeB lo 0 12 = true → wholeB hi l 12 = true → wholeB st l h = false → Due n lo hi st rn g gb (some (1, st))
  | rain (l h : Int) : nameV n = true → lo = .int l → hi = .int h → wholeB lo 0 12 = true → wholeB hi l 12 = true → wholeB st l h = true → wholeB rn 0 6 = false → Due n lo hi st rn g gb (some (1, rn))
  | gate (l h : Int) : nameV n = true → lo = .int l → hi = .int h → wholeB lo 0 12 = true → wholeB hi l 12 = true → wholeB st l h = true → wholeB rn 0 6 = true → gb = false → Due n lo hi st rn g gb (some (2, g))
  | good (l h : Int) : nameV n = true → lo = .int l → hi = .int h → wholeB lo 0 12 = true → wholeB hi l 12 = true → wholeB st l h = true → wholeB rn 0 6 = true → gb = true → Due n lo hi st rn g gb none
theorem whole_int {x : V} {lo hi : Int} (h : wholeB x lo hi = true) : ∃ i, x = .int i := by
  cases x with
  | int i => exact ⟨i, rfl⟩
  | _ => cases h
inductive DueT (n b wt : V) : Option (Nat × V) → Prop
  | name : nameV n = false → DueT n b wt (some (0, n))
  | basin : nameV n = true → nameV b = false → DueT n b wt (some (0, b))
  | want : nameV n = true → nameV b = true → wholeB wt 1 6 = false → DueT n b wt (some (3, wt))
  | good : nameV n = true → nameV b = true → wholeB wt 1 6 = true → DueT n b wt none
def clsK (a : Ad) : Nat → Addr
  | 0 => a.c_NoName
  | 1 => a.c_NoBasin
  | 2 => a.c_NoGate
  | _ => a.c_NoTown
def GtI (K : W.Frag) (a : Ad) (H : Hp) (g : V) (gb : Bool) : Prop := ∃ t, TyX K H g t ∧ W.kitOne K t (.ref a.c_Gate) = some gb ∧ W.kitAny K t [.ref a.c_StepGate, .ref a.c_FlapGate, .ref a.c_PartGate, .ref a.c_StuckGate] = some gb ∧
  ∃ b, W.kitOne K t (.type "bool") = some b ∧ (gb = true → b = false) ∧ t ≠ .type "float"
def basF (n lo hi st rn g : V) : List (Str × V) := [("name", n), ("low", lo), ("high", hi), ("start", st), ("rain", rn), ("gate", g)]
def twnF (n b wt : V) : List (Str × V) := [("name", n), ("basin", b), ("want", wt)]
def Ends1 (a : Ad) (d : Option (Nat × V)) (H : Hp) (E : XK) (G : Prop) : Prop := match d with
  | none => G
  | some (k, x) => ∀ c eo H', RfC (clsK a k) H H' x c eo → E c eo H'
def spBasin (K : W.Frag) (a : Ad) : Sp := fun vs H Q E => ∃ (p dx : Addr) (n lo hi st rn g : V) (gb : Bool) (d : Option (Nat × V)), vs = [.ref p, n, lo, hi, st, rn, g] ∧ H p = some (.ins a.c_Basin dx []) ∧ Nmd K H n ∧ Tm K H lo ∧ Tm K H hi ∧ Tm K H st ∧ Tm K H rn ∧ GtI K a H g gb ∧ Due n lo hi st rn g gb d ∧
  Ends1 a d H E (∀ H', Same H H' → Q .non (upd H' p (.ins a.c_Basin dx (basF n lo hi st rn g))))
def spTown (K : W.Frag) (a : Ad) : Sp := fun vs H Q E => ∃ (p dx : Addr) (n b wt : V) (d : Option (Nat × V)), vs = [.ref p, n, b, wt] ∧ H p = some (.ins a.c_Town dx []) ∧ Nmd K H n ∧ Nmd K H b ∧ Tm K H wt ∧ DueT n b wt d ∧
  Ends1 a d H E (∀ H', Same H H' → Q .non (upd H' p (.ins a.c_Town dx (twnF n b wt))))
theorem Nmd.same {K : W.Frag} {H H' : Hp} {x : V} (s : Same H H') (h : Nmd K H x) : Nmd K H' x := ⟨h.1.same s, h.2⟩
theorem tx_same {K : W.Frag} {H H' : Hp} {x : V} {t : Value} (s : Same H H') (h : TyX K H x t) : TyX K H' x t := h.same (fun b o _ q => s b o q) (fun b fs q => s b _ q)
theorem GtI.same {K : W.Frag} {a : Ad} {H H' : Hp} {g : V} {gb : Bool} (s : Same H H') (h : GtI K a H g gb) : GtI K a H' g gb := let ⟨t, ty, r⟩ := h; ⟨t, tx_same s ty, r⟩
theorem ty_str {K : W.Frag} {H : Hp} {x : V} {t : Value} (h : TyX K H x t) (e : t = .type "str") : ∃ z, x = .str z := by
  cases h with
  | exc => cases e
  | of ty =>
    cases ty with
    | str z => exact ⟨z, rfl⟩
    | ins => cases e
    | non => exact absurd (Value.type.inj e) (by decide)
    | bl => exact absurd (Value.type.inj e) (by decide)
    | int => exact absurd (Value.type.inj e) (by decide)
    | flt => exact absurd (Value.type.inj e) (by decide)
    | lst => exact absurd (Value.type.inj e) (by decide)
    | frz => exact absurd (Value.type.inj e) (by decide)
    | tup => exact absurd (Value.type.inj e) (by decide)
    | dK => exact absurd (Value.type.inj e) (by decide)
    | dT => exact absurd (Value.type.inj e) (by decide)
structure Bsn where
  z : Str
  lo : Int
  hi : Int
  st : Int
  rn : Int
  g : V
  n : Nat
def BasAt (K : W.Frag) (a : Ad) (H : Hp) (o : Addr) (B : Bsn) : Prop := ∃ dx, H o = some (.ins a.c_Basin dx (basF (.str B.z) (.int B.lo) (.int B.hi) (.int B.st) (.int B.rn) B.g)) ∧ GS K a H B.g B.n
theorem BasAt.same {K : W.Frag} {a : Ad} {H H' : Hp} {o : Addr} {B : Bsn} (s : Same H H') (h : BasAt K a H o B) : BasAt K a H' o B := let ⟨dx, h1, h2⟩ := h; ⟨dx, s _ _ h1, h2.same s⟩
structure Twn where
  z : Str
  b : Str
  wt : Int
def TwnAt (a : Ad) (H : Hp) (o : Addr) (B : Twn) : Prop := ∃ dx, H o = some (.ins a.c_Town dx (twnF (.str B.z) (.str B.b) (.int B.wt)))
theorem TwnAt.same {a : Ad} {H H' : Hp} {o : Addr} {B : Twn} (s : Same H H') (h : TwnAt a H o B) : TwnAt a H' o B := let ⟨dx, h1⟩ := h; ⟨dx, s _ _ h1⟩
def BasL (K : W.Frag) (a : Ad) (H : Hp) : List Addr → List Bsn → Prop
  | [], [] => True
  | o :: os, B :: Bs => BasAt K a H o B ∧ BasL K a H os Bs
  | _, _ => False
def TwnL (a : Ad) (H : Hp) : List Addr → List Twn → Prop
  | [], [] => True
  | o :: os, B :: Bs => TwnAt a H o B ∧ TwnL a H os Bs
  | _, _ => False
theorem BasL.same {K : W.Frag} {a : Ad} {H H' : Hp} (s : Same H H') : ∀ {os : List Addr} {Bs : List Bsn}, BasL K a H os Bs → BasL K a H' os Bs
  | [], [], _ => True.intro
  | _ :: _, _ :: _, ⟨h, t⟩ => ⟨h.same s, BasL.same s t⟩
theorem TwnL.same {a : Ad} {H H' : Hp} (s : Same H H') : ∀ {os : List Addr} {Bs : List Twn}, TwnL a H os Bs → TwnL a H' os Bs
  | [], [], _ => True.intro
  | _ :: _, _ :: _, ⟨h, t⟩ => ⟨h.same s, TwnL.same s t⟩
theorem BasL.len {K : W.Frag} {a : Ad} {H : Hp} : ∀ {os : List Addr} {Bs : List Bsn}, BasL K a H os Bs → os.length = Bs.length
  | [], [], _ => rfl
  | _ :: _, _ :: _, ⟨_, t⟩ => by rw [List.length_cons, List.length_cons, BasL.len t]
theorem TwnL.len {a : Ad} {H : Hp} : ∀ {os : List Addr} {Bs : List Twn}, TwnL a H os Bs → os.length = Bs.length
  | [], [], _ => rfl
  | _ :: _, _ :: _, ⟨_, t⟩ => by rw [List.length_cons, List.length_cons, TwnL.len t]
theorem BasL.get {K : W.Frag} {a : Ad} {H : Hp} : ∀ {os : List Addr} {Bs : List Bsn} {i : Nat} {v : V}, BasL K a H os Bs → (os.map V.ref)[i]? = some v → ∃ o B, v = .ref o ∧ Bs[i]? = some B ∧ BasAt K a H o B
  | _ :: _, B :: _, 0, v, ⟨h, _⟩, e => ⟨_, B, by simpa using e.symm, rfl, h⟩
  | _ :: _, _ :: _, i + 1, v, ⟨_, t⟩, e => BasL.get (i := i) t (by simpa using e)
  | [], [], i, v, _, e => by simp at e
theorem TwnL.get {a : Ad} {H : Hp} : ∀ {os : List Addr} {Bs : List Twn} {i : Nat} {v : V}, TwnL a H os Bs → (os.map V.ref)[i]? = some v → ∃ o B, v = .ref o ∧ Bs[i]? = some B ∧ TwnAt a H o B
  | _ :: _, B :: _, 0, v, ⟨h, _⟩, e => ⟨_, B, by simpa using e.symm, rfl, h⟩
  | _ :: _, _ :: _, i + 1, v, ⟨_, t⟩, e => TwnL.get (i := i) t (by simpa using e)
  | [], [], i, v, _, e => by simp at e
def spUnlike (K : W.Frag) : Sp := fun vs H Q _ => ∃ (l : Addr) (zs : List Str), vs = [.ref l] ∧ SqL K H l (zs.map V.str) ∧ zs.length ≤ 2000 ∧ ∀ H', Same H H' → Q (.bl (decide ((uq zs).length = zs.length))) H'
def spBasins (K : W.Frag) (a : Ad) : Sp := fun vs H Q _ => ∃ (l : Addr) (os : List Addr) (Bs : List Bsn), vs = [.ref l] ∧ H l = some (.lst (os.map V.ref)) ∧ BasL K a H os Bs ∧ (1 ≤ Bs.length ∧ Bs.length ≤ 16) ∧ (Bs.map (·.z)).Nodup ∧ ∀ H', Same H H' → Q (.bl true) H'
def spTowns (K : W.Frag) (a : Ad) : Sp := fun vs H Q _ => ∃ (l m : Addr) (os ts : List Addr) (Bs : List Bsn) (Ts : List Twn), vs = [.ref m, .ref l] ∧ H l = some (.lst (os.map V.ref)) ∧ BasL K a H os Bs ∧ Bs.length ≤ 16 ∧ H m = some (.lst (ts.map V.ref)) ∧ TwnL a H ts Ts ∧ Ts.length ≤ 3 ∧ (Ts.map (·.z)).Nodup ∧ (∀ t ∈ Ts, t.b ∈ Bs.map (·.z)) ∧ ∀ H', Same H H' → Q (.bl true) H'
section
variable {P : Program} {w : World} {K : W.Frag} {mg : Str → Option Value} {base : Heap} {a : Ad}
theorem sc_NoGate___init__ : FnScope ["self", "thing"] ["self", "thing"] (defScope (inClass (top 4) 0)) := ⟨rfl, rfl, rfl, by decide +kernel, rfl, by decide +kernel, by decide +kernel⟩
theorem ok_NoGate_init (T : Tx K mg a) : FnOk P w K mg base CX0 1 a.a_NoGate___init__ a.d_NoGate___init__ ["self", "thing"] (spIni1 K "thing") := by
  refine T.f_NoGate___init__.fn.ok sc_NoGate___init__ (fun vs H Q E h => ?_) (fun cdv A outer s H vs Q E hr h => ?_)
  · obtain ⟨e, C, W, fI, y, rfl, _⟩ := h
    rfl
  · obtain ⟨e, C, W, fI, y, rfl, q, c, n, k⟩ := h
    refine ⟨_, (pss_one (ps_fldN (pv 0) (pv 1) rfl)), ?_⟩
    exact ⟨_, rfl, _, rfl, e, C, W, fI, true, rfl, q, c, n, k⟩
theorem sc_is_whole : FnScope ["thing", "low", "high"] ["thing", "low", "high"] (defScope (top 16)) := ⟨rfl, rfl, rfl, by decide +kernel, rfl, by decide +kernel, by decide +kernel⟩
theorem ok_is_whole (T : Tx K mg a) : FnOk P w K mg base CX0 1 a.a_is_whole a.d_is_whole ["thing", "low", "high"] (spWhole K) := by
  refine T.f_is_whole.fn.ok sc_is_whole (fun vs H Q E h => ?_) (fun cdv A outer s H vs Q E hr h => ?_)
  · obtain ⟨x, lo, hi, rfl, _⟩ := h
    rfl
  · obtain ⟨x, lo, hi, rfl, tm, k⟩ := h
    refine ⟨_, (pss_cons (ps_if (pw_or (pt_val (pe_callB call_isA (by rfl) T.n_isinstance bt_isinstance (pa_cons (pv 0) (pa_cons (pe_bltn (v := .ty "bool") (by rfl) T.n_bool bt_bool rfl) pa_nil)))) (pw_or1 (pt_not (pt_val (pe_callB call_isA (by rfl) T.n_isinstance bt_isinstance (pa_cons (pv 0) (pa_cons (pe_bltn (v := .ty "int") (by rfl) T.n_int bt_int rfl) pa_nil))))))).pt (pss_one (ps_ret pe_bl)) pss_nil)
      (pss_one (ps_ret (pe_chain op_le op_le (pv 1) (pv 0) (pv 2))))), ?_⟩
    rcases tm with ⟨i, rfl⟩ | ⟨t, ty, ht⟩
    · refine ⟨_, rfl, _, _, _, _, _, rfl, rfl, .of (.int i), (by rfl : W.kitOne K (.type "int") (.type "bool") = some false), _, rfl, iteF ⟨_, rfl, _, _, _, _, _, rfl, rfl, .of (.int i), (by rfl : W.kitOne K (.type "int") (.type "int") = some true), _, rfl, iteF ?_⟩⟩
      refine ⟨_, rfl, _, rfl, _, _, rfl, rfl, _, rfl, ?_⟩
      have k' : Q (.bl (decide (lo ≤ i) && decide (i ≤ hi))) H := k
      by_cases h1 : lo ≤ i
      · rw [decide_eq_true h1] at k' ⊢
        exact iteT ⟨_, rfl, _, _, rfl, rfl, by simpa using k'⟩
      · rw [decide_eq_false h1] at k' ⊢
        exact iteF (by simpa using k')
    · rw [not_int ty ht] at k
      have e := tp_int (K := K) ht
      cases eb : (t == .type "bool") with
      | true =>
        rw [eb] at e
        exact ⟨_, rfl, _, _, _, _, _, rfl, rfl, ty, e.2, _, rfl, iteT (iteT k)⟩
      | false =>
        rw [eb] at e
        exact ⟨_, rfl, _, _, _, _, _, rfl, rfl, ty, e.2, _, rfl, iteF ⟨_, rfl, _, _, _, _, _, rfl, rfl, ty, e.1, _, rfl, iteT k⟩⟩
theorem sc_are_marks : FnScope ["thing", "lowest", "least", "mark"] ["thing", "lowest"] (defScope (top 31)) := ⟨rfl, rfl, rfl, by decide +kernel, rfl, by decide +kernel, by decide +kernel⟩
theorem ok_are_marks (T : Tx K mg a) : FnOk P w K mg base CX0 2 a.a_are_marks a.d_are_marks ["thing", "lowest"] (spAre K) := by
  have G_is_whole := ok_is_whole (P := P) (w := w) (base := base) T
  refine T.f_are_marks.fn.ok sc_are_marks (fun vs H Q E h => ?_) (fun cdv A outer s H vs Q E hr h => ?_)
  · obtain ⟨x, lo, b, rfl, _⟩ := h
    rfl
  · obtain ⟨x, lo, b, rfl, sh, k⟩ := h
    refine ⟨_, (pss_cons (ps_if (pt_not (pt_val (pe_callB call_isT (by rfl) T.n_isinstance bt_isinstance (pa_cons (pv 0) (pa_cons (pe_tup (pa_cons (pe_bltn (v := .ty "list") (by rfl) T.n_list bt_list rfl) (pa_cons (pe_bltn (v := .ty "tuple") (by rfl) T.n_tuple bt_tuple rfl) pa_nil))) pa_nil))))) (pss_one (ps_ret pe_bl)) pss_nil)
      (pss_cons (ps_if (pt_not (pt_chain op_le op_le pe_int (pe_callB call_len_seq (by rfl) T.n_len bt_len (pa_cons (pv 0) pa_nil)) (pe_glob (by rfl) T.c_MOST_SETTINGS (v := .int 4) ⟨_, rfl⟩))) (pss_one (ps_ret pe_bl)) pss_nil)
      (pss_cons (ps_set (i := 2) sc_are_marks.nd rfl (Or.inl rfl) (pv 1))
      (pss_cons (ps_for PassesOwn.never rfl (pi_seq (pv 0)) (pg_name (i := 3) sc_are_marks.nd rfl (Or.inl rfl)) (pss_cons (ps_if (pt_not (pt_val (pe_callF T.f_is_whole G_is_whole hr (by decide) (pa_cons (pv 3) (pa_cons (pv 2) (pa_cons (pe_glob (by rfl) T.c_HIGHEST_MARK (v := .int 12) ⟨_, rfl⟩) pa_nil)))))) (pss_one (ps_ret pe_bl)) pss_nil)
       (pss_one (ps_set (i := 2) sc_are_marks.nd rfl (Or.inl rfl) (pe_op op_add (pv 3) pe_int)))))
      (pss_one (ps_ret pe_bl)))))), ?_⟩
    cases sh with
    | @non t ty e =>
      refine ⟨_, rfl, (show 2 ≤ sizeLine by decide), fun p hp => ⟨_, p, _, _, t, _, rfl, upd_same, rfl, ty.same (fun b o _ q => Same.upd hp b o q) (fun b fs q => Same.upd hp b _ q), e, _, rfl, iteT (k _ (Same.upd hp))⟩⟩
    | @seq xs sq tms =>
      obtain ⟨t, ty, _, e⟩ := sq.ty (K := K)
      refine ⟨_, rfl, (show 2 ≤ sizeLine by decide), fun p hp => ⟨_, p, _, _, t, _, rfl, upd_same, rfl, ty.same (fun b o _ q => Same.upd hp b o q) (fun b fs q => Same.upd hp b _ q), e, _, rfl, iteF ?_⟩⟩
      have s1 := Same.upd (o := .tup [.ty "list", .ty "tuple"]) hp
      have sq1 := sq.same s1
      obtain ⟨q, rfl⟩ : ∃ q, x = .ref q := by cases sq <;> exact ⟨_, rfl⟩
      have len : SqL K (upd H p (.tup [.ty "list", .ty "tuple"])) q xs ∨ SqT K (upd H p (.tup [.ty "list", .ty "tuple"])) q xs := by
        cases sq1 with
        | lst e => exact .inl (SqL.of e)
        | tup e => exact .inr (SqT.of e)
      refine ⟨_, rfl, q, xs, rfl, len, _, _, rfl, rfl, _, rfl, ?_⟩
      have no : areB lo xs = false → ∀ H', Same H H' → Q (.bl false) H' := fun z H' s' => by
        have := k H' s'
        rw [z] at this
        exact this
      by_cases h1 : (1 : Int) ≤ (xs.length : Int)
      · rw [decide_eq_true h1]
        refine iteT ⟨_, _, rfl, rfl, _, rfl, ?_⟩
        by_cases h2 : (xs.length : Int) ≤ 4
        · rw [decide_eq_true h2]
          refine iteF ⟨_, rfl, ?_⟩
          have lz : decide (1 ≤ xs.length ∧ xs.length ≤ 4) = true := decide_eq_true (by omega)
          have ar : areB lo xs = marksB lo xs := by unfold areB; rw [lz, Bool.true_and]
          refine ⟨_, rfl, q, rfl, for_seq (xs := xs) (fun i σ H' => ∃ (l : Int) (o : Option V), σ = [some (.ref q), some (.int lo), some (.int l), o] ∧ H' = upd H p (.tup [.ty "list", .ty "tuple"]) ∧ marksB lo xs = marksB l (xs.drop i)) ⟨lo, _, rfl, rfl, rfl⟩ ?_ ?_ ?_⟩
          · rcases len with z | z
            · exact .inl fun i σ H' _ ⟨_, _, _, e, _⟩ => by rw [e]; exact z
            · exact .inr fun i σ H' _ ⟨_, _, _, e, _⟩ => by rw [e]; exact z
          · rintro i y σ H' hy ⟨l, o, rfl, rfl, em⟩
            have hd : xs.drop i = y :: xs.drop (i + 1) := by
              obtain ⟨hi, rfl⟩ := List.getElem?_eq_some_iff.mp hy
              exact List.drop_eq_getElem_cons hi
            refine ⟨_, rfl, _, rfl, y, l, 12, rfl, (tms y (List.mem_of_getElem? hy)).same s1, _, rfl, ?_⟩
            cases z : wholeB y l 12 with
            | false =>
              refine iteT (no ?_ _ s1)
              rw [ar, em, hd, marksB_cons, z, Bool.false_and]
            | true =>
              rw [hd, marksB_cons, z, Bool.true_and] at em
              cases y with
              | int i' => exact iteF ⟨_, rfl, _, _, rfl, rfl, i' + 1, _, rfl, rfl, em⟩
              | _ => cases z
          · rintro σ H' ⟨l, o, rfl, rfl, em⟩
            have e : areB lo xs = true := by rw [ar, em, List.drop_of_length_le (Nat.le_refl _)]; rfl
            have := k _ s1
            rw [e] at this
            exact this
        · rw [decide_eq_false h2]
          refine iteT (no ?_ _ s1)
          unfold areB
          rw [decide_eq_false (by omega : ¬ (1 ≤ xs.length ∧ xs.length ≤ 4)), Bool.false_and]
      · rw [decide_eq_false h1]
        refine iteF ⟨_, rfl, iteT (no ?_ _ s1)⟩
        unfold areB
        rw [decide_eq_false (by omega : ¬ (1 ≤ xs.length ∧ xs.length ≤ 4)), Bool.false_and]
end
section
variable {P : Program} {w : World} {K : W.Frag} {mg : Str → Option Value} {base : Heap} {a : Ad}
theorem sc_kept_marks : FnScope ["marks", "lowest"] ["marks", "lowest"] (defScope (top 32)) := ⟨rfl, rfl, rfl, by decide +kernel, rfl, by decide +kernel, by decide +kernel⟩
theorem ok_kept_marks (T : Tx K mg a) : FnOk P w K mg base (CXX P w) 3 a.a_kept_marks a.d_kept_marks ["marks", "lowest"] (spKept K a) := by
  have G_are_marks := ok_are_marks (P := P) (w := w) (base := base) T
  have G_NoGate___init__ := ok_NoGate_init (P := P) (w := w) (base := base) T
  refine T.f_kept_marks.fn.okX sc_kept_marks (fun vs H Q E h => ?_) (fun cdv A outer s H vs Q E hr h => ?_)
  · obtain ⟨x, lo, rfl, _⟩ := h
    rfl
  · obtain ⟨x, lo, rfl, h⟩ := h
    refine ⟨_, (pss_cons (ps_if (pt_not (pt_val (pe_callF T.f_are_marks G_are_marks hr (by decide) (pa_cons (pv 0) (pa_cons (pv 1) pa_nil))))) (pss_one (ps_raise xw_def rfl (pe_exc T.x_NoGate G_NoGate___init__ hr (by decide) T.f_NoGate___init__.bd T.m_NoGate (pa_cons (pv 0) pa_nil)))) pss_nil)
      (pss_one (ps_ret (pe_callTy call_tuple_of (by rfl) T.n_tuple bt_tuple (pa_cons (pv 0) pa_nil))))), ?_⟩
    rcases h with ⟨xs, sq, tms, e, k⟩ | ⟨sh, k⟩
    · have sh := Shp.seq (lo := lo) sq tms
      rw [e] at sh
      refine ⟨_, rfl, _, rfl, x, lo, true, rfl, sh, fun H1 s1 => ⟨_, rfl, iteF ?_⟩⟩
      cases sq with
      | lst e => exact ⟨_, rfl, _, xs, rfl, .inl ⟨SqL.of (s1 _ _ e), fun l hl => k l _ (s1.trans (Same.upd hl)) upd_same⟩⟩
      | tup e => exact ⟨_, rfl, _, xs, rfl, .inr ⟨SqT.of (s1 _ _ e), k _ _ s1 (s1 _ _ e)⟩⟩
    · exact ⟨_, rfl, _, rfl, x, lo, false, rfl, sh, fun H1 s1 => ⟨_, rfl, iteT (rd_raise T.x_NoGate T.n_NoGate_thing rfl fun e dx h1 h2 h3 => k _ _ _ ((Rf.new h1 h2 h3).of s1))⟩⟩
theorem sc_StepGate___init__ : FnScope ["self", "marks"] ["self", "marks"] (defScope (inClass (top 35) 0)) := ⟨rfl, rfl, rfl, by decide +kernel, rfl, by decide +kernel, by decide +kernel⟩
theorem ok_StepGate_init (T : Tx K mg a) : FnOk P w K mg base (CXX P w) 4 a.a_StepGate___init__ a.d_StepGate___init__ ["self", "marks"] (spInit K a 0) := by
  have G_kept_marks := ok_kept_marks (P := P) (w := w) (base := base) T
  refine T.f_StepGate___init__.fn.okX sc_StepGate___init__ (fun vs H Q E h => ?_) (fun cdv A outer s H vs Q E hr h => ?_)
  · obtain ⟨p, C, dx, x, rfl, _⟩ := h
    rfl
  · obtain ⟨p, C, dx, x, rfl, hp, c, n, h⟩ := h
    refine ⟨_, (pss_one (ps_fld (pv 0) (pe_callX T.f_kept_marks G_kept_marks xw_def hr (by decide) (pa_cons (pv 1) (pa_cons pe_int pa_nil))) rfl)), ?_⟩
    rcases h with ⟨xs, sq, tms, e, k⟩ | ⟨sh, k⟩
    · exact ⟨_, rfl, x, 0, rfl, .inl ⟨xs, sq, tms, e, fun t H' s' ht => ⟨_, rfl, p, C, dx, [], rfl, s' _ _ hp, c, n, by simp, k t H' s' ht⟩⟩⟩
    · exact ⟨_, rfl, x, 0, rfl, .inr ⟨sh, k⟩⟩
theorem sc_StepGate_settings : FnScope ["self"] ["self"] (defScope (inClass (top 35) 1)) := ⟨rfl, rfl, rfl, by decide +kernel, rfl, by decide +kernel, by decide +kernel⟩
theorem ok_StepGate_settings (T : Tx K mg a) : FnOk P w K mg base CX0 1 a.a_StepGate_settings a.d_StepGate_settings ["self"] (spSet a.c_StepGate) := by
  refine T.f_StepGate_settings.fn.ok sc_StepGate_settings (fun vs H Q E h => ?_) (fun cdv A outer s H vs Q E hr h => ?_)
  · obtain ⟨p, xs, rfl, _⟩ := h
    rfl
  · obtain ⟨p, xs, rfl, ⟨dx, t, h1, h2⟩, k⟩ := h
    refine ⟨_, (pss_one (ps_ret (pe_callB call_len_seq (by rfl) T.n_len bt_len (pa_cons (pe_fld (pv 0) (by rfl)) pa_nil)))), ?_⟩
    exact ⟨_, rfl, p, _, dx, _, _, rfl, h1, T.s_StepGate, T.n_StepGate_marks, rfl, t, xs, rfl, .inr (SqT.of h2), k⟩
theorem sc_FlapGate___init__ : FnScope ["self", "marks"] ["self", "marks"] (defScope (inClass (top 36) 0)) := ⟨rfl, rfl, rfl, by decide +kernel, rfl, by decide +kernel, by decide +kernel⟩
theorem ok_FlapGate_init (T : Tx K mg a) : FnOk P w K mg base (CXX P w) 4 a.a_FlapGate___init__ a.d_FlapGate___init__ ["self", "marks"] (spInit K a 0) := by
  have G_kept_marks := ok_kept_marks (P := P) (w := w) (base := base) T
  refine T.f_FlapGate___init__.fn.okX sc_FlapGate___init__ (fun vs H Q E h => ?_) (fun cdv A outer s H vs Q E hr h => ?_)
  · obtain ⟨p, C, dx, x, rfl, _⟩ := h
    rfl
  · obtain ⟨p, C, dx, x, rfl, hp, c, n, h⟩ := h
    refine ⟨_, (pss_one (ps_fld (pv 0) (pe_callX T.f_kept_marks G_kept_marks xw_def hr (by decide) (pa_cons (pv 1) (pa_cons pe_int pa_nil))) rfl)), ?_⟩
    rcases h with ⟨xs, sq, tms, e, k⟩ | ⟨sh, k⟩
    · exact ⟨_, rfl, x, 0, rfl, .inl ⟨xs, sq, tms, e, fun t H' s' ht => ⟨_, rfl, p, C, dx, [], rfl, s' _ _ hp, c, n, by simp, k t H' s' ht⟩⟩⟩
    · exact ⟨_, rfl, x, 0, rfl, .inr ⟨sh, k⟩⟩
theorem sc_FlapGate_settings : FnScope ["self"] ["self"] (defScope (inClass (top 36) 1)) := ⟨rfl, rfl, rfl, by decide +kernel, rfl, by decide +kernel, by decide +kernel⟩
theorem ok_FlapGate_settings (T : Tx K mg a) : FnOk P w K mg base CX0 1 a.a_FlapGate_settings a.d_FlapGate_settings ["self"] (spSet a.c_FlapGate) := by
  refine T.f_FlapGate_settings.fn.ok sc_FlapGate_settings (fun vs H Q E h => ?_) (fun cdv A outer s H vs Q E hr h => ?_)
  · obtain ⟨p, xs, rfl, _⟩ := h
    rfl
  · obtain ⟨p, xs, rfl, ⟨dx, t, h1, h2⟩, k⟩ := h
    refine ⟨_, (pss_one (ps_ret (pe_callB call_len_seq (by rfl) T.n_len bt_len (pa_cons (pe_fld (pv 0) (by rfl)) pa_nil)))), ?_⟩
    exact ⟨_, rfl, p, _, dx, _, _, rfl, h1, T.s_FlapGate, T.n_FlapGate_marks, rfl, t, xs, rfl, .inr (SqT.of h2), k⟩
theorem sc_PartGate___init__ : FnScope ["self", "marks"] ["self", "marks"] (defScope (inClass (top 37) 0)) := ⟨rfl, rfl, rfl, by decide +kernel, rfl, by decide +kernel, by decide +kernel⟩
theorem ok_PartGate_init (T : Tx K mg a) : FnOk P w K mg base (CXX P w) 4 a.a_PartGate___init__ a.d_PartGate___init__ ["self", "marks"] (spInit K a 1) := by
  have G_kept_marks := ok_kept_marks (P := P) (w := w) (base := base) T
  refine T.f_PartGate___init__.fn.okX sc_PartGate___init__ (fun vs H Q E h => ?_) (fun cdv A outer s H vs Q E hr h => ?_)
  · obtain ⟨p, C, dx, x, rfl, _⟩ := h
    rfl
  · obtain ⟨p, C, dx, x, rfl, hp, c, n, h⟩ := h
    refine ⟨_, (pss_one (ps_fld (pv 0) (pe_callX T.f_kept_marks G_kept_marks xw_def hr (by decide) (pa_cons (pv 1) (pa_cons pe_int pa_nil))) rfl)), ?_⟩
    rcases h with ⟨xs, sq, tms, e, k⟩ | ⟨sh, k⟩
    · exact ⟨_, rfl, x, 1, rfl, .inl ⟨xs, sq, tms, e, fun t H' s' ht => ⟨_, rfl, p, C, dx, [], rfl, s' _ _ hp, c, n, by simp, k t H' s' ht⟩⟩⟩
    · exact ⟨_, rfl, x, 1, rfl, .inr ⟨sh, k⟩⟩
theorem sc_PartGate_settings : FnScope ["self"] ["self"] (defScope (inClass (top 37) 1)) := ⟨rfl, rfl, rfl, by decide +kernel, rfl, by decide +kernel, by decide +kernel⟩
theorem ok_PartGate_settings (T : Tx K mg a) : FnOk P w K mg base CX0 1 a.a_PartGate_settings a.d_PartGate_settings ["self"] (spSet a.c_PartGate) := by
  refine T.f_PartGate_settings.fn.ok sc_PartGate_settings (fun vs H Q E h => ?_) (fun cdv A outer s H vs Q E hr h => ?_)
  · obtain ⟨p, xs, rfl, _⟩ := h
    rfl
  · obtain ⟨p, xs, rfl, ⟨dx, t, h1, h2⟩, k⟩ := h
    refine ⟨_, (pss_one (ps_ret (pe_callB call_len_seq (by rfl) T.n_len bt_len (pa_cons (pe_fld (pv 0) (by rfl)) pa_nil)))), ?_⟩
    exact ⟨_, rfl, p, _, dx, _, _, rfl, h1, T.s_PartGate, T.n_PartGate_marks, rfl, t, xs, rfl, .inr (SqT.of h2), k⟩
theorem sc_StuckGate_settings : FnScope ["self"] ["self"] (defScope (inClass (top 38) 1)) := ⟨rfl, rfl, rfl, by decide +kernel, rfl, by decide +kernel, by decide +kernel⟩
theorem ok_StuckGate_settings (T : Tx K mg a) : FnOk P w K mg base CX0 1 a.a_StuckGate_settings a.d_StuckGate_settings ["self"] spOne := by
  refine T.f_StuckGate_settings.fn.ok sc_StuckGate_settings (fun vs H Q E h => ?_) (fun cdv A outer s H vs Q E hr h => ?_)
  · obtain ⟨x, rfl, _⟩ := h
    rfl
  · obtain ⟨x, rfl, k⟩ := h
    refine ⟨_, (pss_one (ps_ret pe_int)), ?_⟩
    exact k
theorem settings_read {j : Nat} {σ : L2.St} {H : Hp} {x : V} {n : Nat} {Q : VK} (T : Tx K mg a) (g : GS K a H x n) (k : Q (.int n) H) (hj : 1 ≤ j) :
    ∃ g' C dx fs f fd ps sp k', x = .ref g' ∧ H g' = some (.ins C dx fs) ∧ fs.lookup ("settings" : Str) = none ∧ Cls K C ∧ Meth K C "settings" f ∧ FnOk P w K mg base CX0 k' f fd ps sp ∧ k' ≤ j ∧ Binds K fd ps [] ∧ tNil σ H fun vs H2 => sp (x :: vs) H2 Q E0 := by
  cases g with
  | @plain g C xs i ga l =>
    obtain ⟨dx, t, h1, h2⟩ := ga
    rcases i with rfl | rfl | rfl
    · exact ⟨g, _, dx, _, _, _, _, _, _, rfl, h1, rfl, T.s_StepGate, T.me_StepGate_settings, ok_StepGate_settings T, hj, T.f_StepGate_settings.bd, g, xs, rfl, ⟨dx, t, h1, h2⟩, k⟩
    · exact ⟨g, _, dx, _, _, _, _, _, _, rfl, h1, rfl, T.s_FlapGate, T.me_FlapGate_settings, ok_FlapGate_settings T, hj, T.f_FlapGate_settings.bd, g, xs, rfl, ⟨dx, t, h1, h2⟩, k⟩
    · exact ⟨g, _, dx, _, _, _, _, _, _, rfl, h1, rfl, T.s_PartGate, T.me_PartGate_settings, ok_PartGate_settings T, hj, T.f_PartGate_settings.bd, g, xs, rfl, ⟨dx, t, h1, h2⟩, k⟩
  | @stuck g dx x y h1 => exact ⟨g, _, dx, _, _, _, _, _, _, rfl, h1, rfl, T.s_StuckGate, T.me_StuckGate_settings, ok_StuckGate_settings T, hj, T.f_StuckGate_settings.bd, _, rfl, k⟩
theorem GS.ty {H : Hp} {x : V} {n : Nat} (T : Tx K mg a) (g : GS K a H x n) : ∃ t, TyX K H x t ∧ W.kitOne K t (.ref a.c_Gate) = some true := by
  cases g with
  | plain i ga l =>
    obtain ⟨dx, t, h1, h2⟩ := ga
    rcases i with rfl | rfl | rfl
    · exact ⟨_, .of (T.y_StepGate.ty T.s_StepGate h1), T.i_StepGate⟩
    · exact ⟨_, .of (T.y_FlapGate.ty T.s_FlapGate h1), T.i_FlapGate⟩
    · exact ⟨_, .of (T.y_PartGate.ty T.s_PartGate h1), T.i_PartGate⟩
  | stuck h1 => exact ⟨_, .of (T.y_StuckGate.ty T.s_StuckGate h1), T.i_StuckGate⟩
theorem put2 (x y : V) : putF ("setting" : Str) y [(("gate" : Str), x)] = [(("gate" : Str), x), (("setting" : Str), y)] := by
  have h : ¬ (("gate" : Str) = "setting") := by decide +kernel
  simp [putF, h]
theorem sc_StuckGate___init__ : FnScope ["self", "gate", "setting"] ["self", "gate", "setting"] (defScope (inClass (top 38) 0)) := ⟨rfl, rfl, rfl, by decide +kernel, rfl, by decide +kernel, by decide +kernel⟩
theorem ok_StuckGate_init (T : Tx K mg a) : FnOk P w K mg base (CXX P w) 4 a.a_StuckGate___init__ a.d_StuckGate___init__ ["self", "gate", "setting"] (spInitS K a) := by
  have G_is_whole := ok_is_whole (P := P) (w := w) (base := base) T
  have G_NoGate___init__ := ok_NoGate_init (P := P) (w := w) (base := base) T
  refine T.f_StuckGate___init__.fn.okX sc_StuckGate___init__ (fun vs H Q E h => ?_) (fun cdv A outer s H vs Q E hr h => ?_)
  · obtain ⟨p, dx, x, y, rfl, _⟩ := h
    rfl
  · obtain ⟨p, dx, x, y, rfl, hp, h⟩ := h
    refine ⟨_, (pss_cons (ps_if (pt_not (pt_val (pe_callB call_isA (by rfl) T.n_isinstance bt_isinstance (pa_cons (pv 1) (pa_cons (pe_glob (by rfl) T.m_Gate (v := .ref _) rfl) pa_nil))))) (pss_one (ps_raise xw_def rfl (pe_exc T.x_NoGate G_NoGate___init__ hr (by decide) T.f_NoGate___init__.bd T.m_NoGate (pa_cons (pv 1) pa_nil)))) pss_nil)
      (pss_cons (ps_if (pt_not (pt_val (pe_callF T.f_is_whole G_is_whole hr (by decide) (pa_cons (pv 2) (pa_cons pe_int (pa_cons (pe_op op_sub (pe_methD0 (pv 1) hr) pe_int) pa_nil)))))) (pss_one (ps_raise xw_def rfl (pe_exc T.x_NoGate G_NoGate___init__ hr (by decide) T.f_NoGate___init__.bd T.m_NoGate (pa_cons (pv 2) pa_nil)))) pss_nil)
      (pss_cons (ps_fld (pv 0) (pv 1) rfl)
      (pss_one (ps_fld (pv 0) (pv 2) rfl))))), ?_⟩
    rcases h with ⟨t, ty, e, k⟩ | ⟨n, g, tm, e, k⟩ | ⟨n, g, tm, e, k⟩
    · exact ⟨_, rfl, x, _, _, t, _, rfl, rfl, ty, e, _, rfl, iteT (rd_raise T.x_NoGate T.n_NoGate_thing rfl fun e dx h1 h2 h3 => k _ _ _ (Rf.new h1 h2 h3))⟩
    · obtain ⟨t, ty, et⟩ := g.ty T
      refine ⟨_, rfl, x, _, _, t, _, rfl, rfl, ty, et, _, rfl, iteF ⟨_, rfl, _, rfl, settings_read T g ⟨_, _, rfl, rfl, y, 0, (n : Int) - 1, rfl, tm, _, rfl, ?_⟩ (by decide)⟩⟩
      rw [e]
      exact iteT (rd_raise T.x_NoGate T.n_NoGate_thing rfl fun e dx h1 h2 h3 => k _ _ _ (Rf.new h1 h2 h3))
    · obtain ⟨t, ty, et⟩ := g.ty T
      refine ⟨_, rfl, x, _, _, t, _, rfl, rfl, ty, et, _, rfl, iteF ⟨_, rfl, _, rfl, settings_read T g ⟨_, _, rfl, rfl, y, 0, (n : Int) - 1, rfl, tm, _, rfl, ?_⟩ (by decide)⟩⟩
      rw [e]
      refine iteF ⟨_, rfl, _, rfl, p, _, dx, [], rfl, hp, T.s_StuckGate, T.n_StuckGate_gate, by simp, _, rfl, _, rfl, p, _, dx, _, rfl, upd_same, T.s_StuckGate, T.n_StuckGate_setting, by simp [putF], ?_⟩
      show Q .non _
      rw [upd_upd]
      exact put2 x y ▸ k
end
section
variable {P : Program} {w : World} {K : W.Frag} {mg : Str → Option Value} {base : Heap} {a : Ad}
theorem sc_law_cell : FnScope ["_law_script", "_law_k"] ["_law_script", "_law_k"] (defScope (top 54)) := ⟨rfl, rfl, rfl, by decide +kernel, rfl, by decide +kernel, by decide +kernel⟩
theorem ok_law_cell (T : Tx K mg a) : FnOk P w K mg base CX0 1 a.a__law_cell a.d__law_cell ["_law_script", "_law_k"] (spCell K) := by
  refine T.f__law_cell.fn.ok sc_law_cell (fun vs H Q E h => ?_) (fun cdv A outer s H vs Q E hr h => ?_)
  · obtain ⟨x, ns, i, rfl, _⟩ := h
    rfl
  · obtain ⟨x, ns, i, rfl, hS, k⟩ := h
    refine ⟨_, (pss_cons (ps_if (pt_cmpR op_lt (pv 1) (pe_callB call_len_seq (by rfl) T.n_len bt_len (pa_cons (pv 0) pa_nil)) (nomark _)) (pss_one (ps_ret (pe_ix ix_list (pv 0) (pv 1) (fun _ _ => rfl)))) pss_nil)
      (pss_one (ps_ret (pe_op op_add (pe_op op_mul pe_int (pv 1)) pe_int)))), ?_⟩
    refine ⟨_, rfl, _, rfl, x, _, rfl, .inl hS, _, _, rfl, rfl, _, rfl, ite2 (fun q => ?_) (fun q => ?_)⟩
    · have hi : i < ns.length := by
        have q' := of_decide_eq_true q
        rw [List.length_map] at q'
        omega
      exact ⟨_, rfl, _, rfl, x, _, _, _, rfl, rfl, hS, ints_at hi, k _⟩
    · exact ⟨_, rfl, _, _, rfl, rfl, .inl ⟨by decide, by decide⟩, _, _, rfl, rfl, k _⟩
theorem sc_law_stream : FnScope ["_law_cell_here"] ["_law_cell_here"] (defScope (top 55)) := ⟨rfl, rfl, rfl, by decide +kernel, rfl, by decide +kernel, by decide +kernel⟩
theorem ok_law_stream (T : Tx K mg a) : FnOk P w K mg base CX0 1 a.a__law_stream a.d__law_stream ["_law_cell_here"] spStream := by
  refine T.f__law_stream.fn.ok sc_law_stream (fun vs H Q E h => ?_) (fun cdv A outer s H vs Q E hr h => ?_)
  · obtain ⟨c, rfl, _⟩ := h
    rfl
  · obtain ⟨c, rfl, k⟩ := h
    refine ⟨_, (pss_one (ps_ret (pe_lst (pa_cons (pe_callB (call_max2 rfl) (by rfl) T.n_max bt_max (pa_cons pe_int (pa_cons (pe_op op_sub (pv 0) (pe_op op_pow pe_int pe_int)) pa_nil))) (pa_cons (pe_op op_mod (pv 0) pe_int) (pa_cons pe_int pa_nil)))))), ?_⟩
    refine ⟨_, rfl, _, _, rfl, rfl, ⟨by decide, by decide, by decide⟩, _, _, rfl, rfl, _, _, rfl, _, rfl, _, _, rfl, rfl, (by show (0 : Int) < 2147483647; decide), small_lit _ (by show 3 ≤ 2000; decide), fun p hp => ?_⟩
    exact k p _ hp (Same.upd hp) ⟨_, _, _, upd_same⟩
theorem sc_law_take : FnScope ["_law_stream_here", "_law_many", "_law_digit", "_law_number"] ["_law_stream_here", "_law_many"] (defScope (top 56)) := ⟨rfl, rfl, rfl, by decide +kernel, rfl, by decide +kernel, by decide +kernel⟩
theorem ok_law_take (T : Tx K mg a) : FnOk P w K mg base CX0 1 a.a__law_take a.d__law_take ["_law_stream_here", "_law_many"] spTake := by
  refine T.f__law_take.fn.ok sc_law_take (fun vs H Q E h => ?_) (fun cdv A outer s H vs Q E hr h => ?_)
  · obtain ⟨p, m, rfl, _⟩ := h
    rfl
  · obtain ⟨p, m, rfl, ⟨a0, b0, c0, hp⟩, hm, hl, k⟩ := h
    refine ⟨_, (pss_cons (ps_asg (pe_op op_add (pe_ix ix_list (pv 0) pe_int (fun _ _ => rfl)) pe_int) (pg_sub (pv 0) pe_int set_list))
      (pss_cons (ps_if (pt_cmpR op_gt (pe_ix ix_list (pv 0) pe_int (fun _ _ => rfl)) pe_int (nomark _)) (pss_cons (ps_set (i := 2) sc_law_take.nd rfl (Or.inl rfl) (pe_op op_mod (pe_ix ix_list (pv 0) pe_int (fun _ _ => rfl)) (pv 1)))
       (pss_cons (ps_asg (pe_op op_fdivB (pe_ix ix_list (pv 0) pe_int (fun _ _ => rfl)) (pv 1)) (pg_sub (pv 0) pe_int set_list))
       (pss_one (ps_ret (pv 2))))) pss_nil)
      (pss_cons (ps_set (i := 3) sc_law_take.nd rfl (Or.inl rfl) (pe_op op_mod (pe_op op_mul (pe_op op_add (pe_ix ix_list (pv 0) pe_int (fun _ _ => rfl)) (pe_op op_mul pe_int (pe_ix ix_list (pv 0) pe_int (fun _ _ => rfl)))) pe_int) pe_int))
      (pss_cons (ps_set (i := 3) sc_law_take.nd rfl (Or.inl rfl) (pe_op op_mod (pe_op op_mul (pv 3) (pv 3)) pe_int))
      (pss_one (ps_ret (pe_op op_mod (pe_op op_fdivB (pe_op op_mod (pe_op op_add (pe_op op_mul (pv 3) (pe_op op_add (pv 3) pe_int)) (pe_op op_mul pe_int (pe_ix ix_list (pv 0) pe_int (fun _ _ => rfl)))) pe_int) pe_int) (pv 1)))))))), ?_⟩
    refine ⟨_, rfl, p, _, _, _, rfl, rfl, SqL.of hp, rfl, _, _, rfl, rfl, _, rfl, p, _, _, _, rfl, rfl, hp, rfl, ?_⟩
    refine ⟨_, rfl, p, _, _, _, rfl, rfl, SqL.of upd_same, rfl, _, _, rfl, rfl, _, rfl, ite2 (fun _ => ?_) (fun _ => ?_)⟩
    · refine ⟨_, rfl, p, _, _, _, rfl, rfl, SqL.of upd_same, rfl, _, rfl, _, _, rfl, rfl, hm, ?_⟩
      refine ⟨_, rfl, p, _, _, _, rfl, rfl, SqL.of upd_same, rfl, _, rfl, _, _, rfl, rfl, ⟨hm, hl⟩, _, rfl, p, _, _, _, rfl, rfl, upd_same, rfl, ?_⟩
      refine ⟨_, rfl, k _ _ (Int.emod_nonneg _ (by omega)) (Int.emod_lt_of_pos _ hm) ⟨fun b o ne e => ?_, _, _, _, upd_same⟩⟩
      rw [upd_ne ne, upd_ne ne]
      exact e
    · refine ⟨_, rfl, p, _, _, _, rfl, rfl, SqL.of upd_same, rfl, _, rfl, p, _, _, _, rfl, rfl, SqL.of upd_same, rfl, _, _, rfl, rfl, .inl ⟨by decide, by decide⟩, _, _, rfl, rfl, _, _, rfl, rfl, .inr ⟨by decide, by decide⟩, _, _, rfl, rfl, (by show (0 : Int) < 2147483629; decide), ?_⟩
      have n1 : ∀ x : Int, -(2 ^ 64) < x % 2147483629 ∧ x % 2147483629 < 2 ^ 64 := fun x => by
        have h1 := Int.emod_nonneg x (show (2147483629 : Int) ≠ 0 by decide)
        have h2 := Int.emod_lt_of_pos x (show (0 : Int) < 2147483629 by decide)
        constructor <;> omega
      have n2 : ∀ x : Int, -(2 ^ 64) < x % 2147483587 ∧ x % 2147483587 < 2 ^ 64 := fun x => by
        have h1 := Int.emod_nonneg x (show (2147483587 : Int) ≠ 0 by decide)
        have h2 := Int.emod_lt_of_pos x (show (0 : Int) < 2147483587 by decide)
        constructor <;> omega
      refine ⟨_, rfl, _, rfl, _, _, rfl, rfl, .inl (n1 _), _, _, rfl, rfl, (by show (0 : Int) < 2147483587; decide), ?_⟩
      refine ⟨_, rfl, _, rfl, _, _, rfl, rfl, _, _, rfl, rfl, .inl (n2 _), _, rfl, p, _, _, _, rfl, rfl, SqL.of upd_same, rfl, _, _, rfl, rfl, .inl ⟨by decide, by decide⟩, _, _, rfl, rfl, _, _, rfl, rfl, (by show (0 : Int) < 2147483647; decide), _, _, rfl, rfl, ⟨by decide, by decide⟩, _, rfl, _, _, rfl, rfl, hm, ?_⟩
      refine k _ _ (Int.emod_nonneg _ (by omega)) (Int.emod_lt_of_pos _ hm) ⟨fun b o ne e => ?_, _, _, _, upd_same⟩
      rw [upd_ne ne]
      exact e
end
section
variable {P : Program} {w : World} {K : W.Frag} {mg : Str → Option Value} {base : Heap} {a : Ad}
theorem sc_NoName___init__ : FnScope ["self", "thing"] ["self", "thing"] (defScope (inClass (top 3) 0)) := ⟨rfl, rfl, rfl, by decide +kernel, rfl, by decide +kernel, by decide +kernel⟩
theorem ok_NoName_init (T : Tx K mg a) : FnOk P w K mg base CX0 1 a.a_NoName___init__ a.d_NoName___init__ ["self", "thing"] (spIni1 K "thing") := by
  refine T.f_NoName___init__.fn.ok sc_NoName___init__ (fun vs H Q E h => ?_) (fun cdv A outer s H vs Q E hr h => ?_)
  · obtain ⟨e, C, W, fI, y, rfl, _⟩ := h
    rfl
  · obtain ⟨e, C, W, fI, y, rfl, q, c, n, k⟩ := h
    refine ⟨_, (pss_one (ps_fldN (pv 0) (pv 1) rfl)), ?_⟩
    exact ⟨_, rfl, _, rfl, e, C, W, fI, true, rfl, q, c, n, k⟩
theorem sc_NoBasin___init__ : FnScope ["self", "thing"] ["self", "thing"] (defScope (inClass (top 5) 0)) := ⟨rfl, rfl, rfl, by decide +kernel, rfl, by decide +kernel, by decide +kernel⟩
theorem ok_NoBasin_init (T : Tx K mg a) : FnOk P w K mg base CX0 1 a.a_NoBasin___init__ a.d_NoBasin___init__ ["self", "thing"] (spIni1 K "thing") := by
  refine T.f_NoBasin___init__.fn.ok sc_NoBasin___init__ (fun vs H Q E h => ?_) (fun cdv A outer s H vs Q E hr h => ?_)
  · obtain ⟨e, C, W, fI, y, rfl, _⟩ := h
    rfl
  · obtain ⟨e, C, W, fI, y, rfl, q, c, n, k⟩ := h
    refine ⟨_, (pss_one (ps_fldN (pv 0) (pv 1) rfl)), ?_⟩
    exact ⟨_, rfl, _, rfl, e, C, W, fI, true, rfl, q, c, n, k⟩
theorem sc_NoTown___init__ : FnScope ["self", "thing"] ["self", "thing"] (defScope (inClass (top 6) 0)) := ⟨rfl, rfl, rfl, by decide +kernel, rfl, by decide +kernel, by decide +kernel⟩
theorem ok_NoTown_init (T : Tx K mg a) : FnOk P w K mg base CX0 1 a.a_NoTown___init__ a.d_NoTown___init__ ["self", "thing"] (spIni1 K "thing") := by
  refine T.f_NoTown___init__.fn.ok sc_NoTown___init__ (fun vs H Q E h => ?_) (fun cdv A outer s H vs Q E hr h => ?_)
  · obtain ⟨e, C, W, fI, y, rfl, _⟩ := h
    rfl
  · obtain ⟨e, C, W, fI, y, rfl, q, c, n, k⟩ := h
    refine ⟨_, (pss_one (ps_fldN (pv 0) (pv 1) rfl)), ?_⟩
    exact ⟨_, rfl, _, rfl, e, C, W, fI, true, rfl, q, c, n, k⟩
theorem sc_is_made_of : FnScope ["text", "signs"] ["text", "signs"] (defScope (top 17)) := ⟨rfl, rfl, rfl, by decide +kernel, rfl, by decide +kernel, by decide +kernel⟩
theorem ok_is_made_of (T : Tx K mg a) : FnOk P w K mg base CX0 1 a.a_is_made_of a.d_is_made_of ["text", "signs"] spMade := by
  refine T.f_is_made_of.fn.ok sc_is_made_of (fun vs H Q E h => ?_) (fun cdv A outer s H vs Q E hr h => ?_)
  · obtain ⟨z, g, rfl, _⟩ := h
    rfl
  · obtain ⟨z, g, rfl, hz, k⟩ := h
    refine ⟨_, (pss_one (ps_ret (pe_callB (call_all rfl) (by rfl) T.n_all bt_all (pa_cons (pe_comp (N := (["sign", "signs"] : List Str)) (ini := [none, some 1]) rfl (pi_str (pv 0)) (fun _ _ _ _ _ => (pg_name (i := 0) (by decide +kernel : (["sign", "signs"] : List Str).Nodup) rfl (Or.inl rfl))) (fun _ _ _ _ _ => pif_nil) (fun _ _ _ _ _ => (pe_cmpR op_in_str (pv 0) (pv 1) (by with_unfolding_all rfl)))) pa_nil)))), ?_⟩
    refine ⟨_, rfl, z, rfl, fun D hD => ?_⟩
    refine comp_str (z := z) (D := D) (fun i σ H' => ∃ o, σ = [o, some (.str g)] ∧ H' = upd H D (.lst ((z.cps.toList.take i).map fun c => V.bl (decide (c ∈ g.cps.toList))))) ?_ ?_ ?_
    · exact ⟨none, rfl, rfl⟩
    · rintro i c σ H' hc ⟨o, rfl, rfl⟩
      refine turn_yes ⟨_, rfl, _, rfl, ⟨#[c]⟩, g, rfl, rfl, _, upd_same, ?_, _, rfl, ?_⟩
      · rw [List.length_map, List.length_take, len_cps]
        exact small2k (by omega)
      · rw [upd_upd, StrLaws.found_one]
        have e : z.cps.toList[i]? = some c := by simpa using hc
        rw [List.take_add_one, e]
        simp
    · rintro σ H' ⟨o, rfl, rfl⟩
      have e : z.cps.toList.take z.cps.size = z.cps.toList := List.take_of_length_le (by simp)
      refine ⟨D, z.cps.toList.map fun c => decide (c ∈ g.cps.toList), rfl, SqL.of (by rw [upd_same, e, List.map_map]; rfl), ?_⟩
      have e2 : (z.cps.toList.map fun c => decide (c ∈ g.cps.toList)).all id = allIn g z := by
        unfold allIn
        rw [List.all_map]
        rfl
      rw [e2]
      exact k _ (Same.upd hD)
theorem not_str {H : Hp} {x : V} (h : Tm K H x) (n : ∀ z, x ≠ .str z) : ∃ t, TyX K H x t ∧ W.kitOne K t (.type "str") = some false := by
  rcases h with ⟨i, rfl⟩ | ⟨t, ty, ht⟩
  · exact ⟨_, .of (.int i), rfl⟩
  · refine ⟨t, ty, ?_⟩
    unfold tpB at ht
    simp only [List.contains_cons, List.contains_nil, Bool.or_false, Bool.or_eq_true, beq_iff_eq] at ht
    rcases ht with rfl | rfl | rfl | rfl | rfl | rfl
    · rfl
    · obtain ⟨z, e⟩ := ty_str ty rfl
      exact absurd e (n z)
    · rfl
    · rfl
    · rfl
    · rfl
theorem sc_is_name : FnScope ["thing"] ["thing"] (defScope (top 18)) := ⟨rfl, rfl, rfl, by decide +kernel, rfl, by decide +kernel, by decide +kernel⟩
theorem ok_is_name (T : Tx K mg a) : FnOk P w K mg base CX0 2 a.a_is_name a.d_is_name ["thing"] (spName K) := by
  have G_is_made_of := ok_is_made_of (P := P) (w := w) (base := base) T
  refine T.f_is_name.fn.ok sc_is_name (fun vs H Q E h => ?_) (fun cdv A outer s H vs Q E hr h => ?_)
  · obtain ⟨x, rfl, _⟩ := h
    rfl
  · obtain ⟨x, rfl, nm, k⟩ := h
    refine ⟨_, (pss_cons (ps_if (pt_not (pt_val (pe_callB call_isA (by rfl) T.n_isinstance bt_isinstance (pa_cons (pv 0) (pa_cons (pe_bltn (v := .ty "str") (by rfl) T.n_str bt_str rfl) pa_nil))))) (pss_one (ps_ret pe_bl)) pss_nil)
      (pss_one (ps_ret (pe_and (pe_chain op_le op_le pe_int (pe_callB call_len_str (by rfl) T.n_len bt_len (pa_cons (pv 0) pa_nil)) (pe_glob (by rfl) T.c_MOST_LETTERS (v := .int 8) ⟨_, rfl⟩)) (pe_one (pe_callF T.f_is_made_of G_is_made_of hr (by decide) (pa_cons (pv 0) (pa_cons (pe_glob (by rfl) T.c_LETTERS (v := .str "abcdefghijklmnopqrstuvwxyz") ⟨_, rfl⟩) pa_nil)))))))), ?_⟩
    by_cases hx : ∃ z, x = .str z
    · obtain ⟨z, rfl⟩ := hx
      have k : ∀ H', Same H H' → Q (.bl (nameB z)) H' := k
      have hz : z.length ≤ 2000 := by have := (nm.2 z rfl).len; omega
      refine ⟨_, rfl, _, _, _, _, _, rfl, rfl, .of (.str z), (by rfl : W.kitOne K (.type "str") (.type "str") = some true), _, rfl, iteF ?_⟩
      refine ⟨_, rfl, z, rfl, small_lit _ hz, _, _, rfl, rfl, _, rfl, ?_⟩
      have no : ¬ (1 ≤ z.length ∧ z.length ≤ 8) → Q (.bl false) H := fun q => by
        have k' := k H (Same.refl H)
        unfold nameB at k'
        rw [decide_eq_false q, Bool.false_and] at k'
        exact k'
      by_cases h1 : (1 : Int) ≤ (z.length : Int)
      · rw [decide_eq_true h1]
        refine iteT ⟨_, _, rfl, rfl, _, rfl, ?_⟩
        by_cases h2 : (z.length : Int) ≤ 8
        · rw [decide_eq_true h2]
          refine iteT ⟨_, rfl, z, _, rfl, hz, fun H' s' => ?_⟩
          have e : nameB z = allIn LET z := by
            unfold nameB
            rw [decide_eq_true (by omega : 1 ≤ z.length ∧ z.length ≤ 8), Bool.true_and]
          have k' := k H' s'
          rw [e] at k'
          exact k'
        · rw [decide_eq_false h2]
          exact iteF (no (by omega))
      · rw [decide_eq_false h1]
        exact iteF ⟨_, rfl, iteF (no (by omega))⟩
    · obtain ⟨t, ty, e1⟩ := not_str nm.1 fun z e => hx ⟨z, e⟩
      have k' := k H (Same.refl H)
      have e : nameV x = false := by
        cases x with
        | str z => exact absurd ⟨z, rfl⟩ hx
        | _ => rfl
      rw [e] at k'
      exact ⟨_, rfl, _, _, _, _, _, rfl, rfl, ty, e1, _, rfl, iteT k'⟩
theorem sc_refuse_no_level : FnScope ["thing", "low", "high"] ["thing", "low", "high"] (defScope (top 46)) := ⟨rfl, rfl, rfl, by decide +kernel, rfl, by decide +kernel, by decide +kernel⟩
theorem ok_refuse_no_level (T : Tx K mg a) : FnOk P w K mg base (CXX P w) 3 a.a_refuse_no_level a.d_refuse_no_level ["thing", "low", "high"] (spNoLevel K a) := by
  have G_is_whole := ok_is_whole (P := P) (w := w) (base := base) T
  have G_NoBasin___init__ := ok_NoBasin_init (P := P) (w := w) (base := base) T
  refine T.f_refuse_no_level.fn.okX sc_refuse_no_level (fun vs H Q E h => ?_) (fun cdv A outer s H vs Q E hr h => ?_)
  · obtain ⟨x, lo, hi, rfl, _⟩ := h
    rfl
  · obtain ⟨x, lo, hi, rfl, tm, h⟩ := h
    refine ⟨_, (pss_one (ps_if (pt_not (pt_val (pe_callF T.f_is_whole G_is_whole hr (by decide) (pa_cons (pv 0) (pa_cons (pv 1) (pa_cons (pv 2) pa_nil)))))) (pss_one (ps_raise xw_def rfl (pe_exc T.x_NoBasin G_NoBasin___init__ hr (by decide) T.f_NoBasin___init__.bd T.m_NoBasin (pa_cons (pv 0) pa_nil)))) pss_nil)), ?_⟩
    refine ⟨_, rfl, _, rfl, _, rfl, x, lo, hi, rfl, tm, _, rfl, ?_⟩
    rcases h with ⟨e, k⟩ | ⟨e, k⟩
    · rw [e]
      exact iteF k
    · rw [e]
      exact iteT (rd_raise T.x_NoBasin T.n_NoBasin_thing rfl fun e dx h1 h2 h3 => k _ _ _ (RfC.new h1 h2 h3))
end
section
variable {P : Program} {w : World} {K : W.Frag} {mg : Str → Option Value} {base : Heap} {a : Ad}
theorem putF_new {f : Str} {v : V} : ∀ {fs : List (Str × V)}, (fs.map (·.1)).contains f = false → putF f v fs = fs ++ [(f, v)]
  | [], _ => rfl
  | (g, x) :: r, h => by
    rw [List.map_cons, List.contains_cons, Bool.or_eq_false_iff] at h
    have ne : ¬ g = f := fun e => by
      have := h.1
      rw [e] at this
      simp at this
    show (if g = f then (g, v) :: r else (g, x) :: putF f v r) = _
    rw [if_neg ne, putF_new h.2]
    rfl
theorem sc_Basin___init__ : FnScope ["self", "name", "low", "high", "start", "rain", "gate"] ["self", "name", "low", "high", "start", "rain", "gate"] (defScope (inClass (top 47) 0)) := ⟨rfl, rfl, rfl, by decide +kernel, rfl, by decide +kernel, by decide +kernel⟩
theorem ok_Basin_init (T : Tx K mg a) : FnOk P w K mg base (CXX P w) 4 a.a_Basin___init__ a.d_Basin___init__ ["self", "name", "low", "high", "start", "rain", "gate"] (spBasin K a) := by
  have G_is_name := ok_is_name (P := P) (w := w) (base := base) T
  have G_refuse_no_level := ok_refuse_no_level (P := P) (w := w) (base := base) T
  have G_NoName___init__ := ok_NoName_init (P := P) (w := w) (base := base) T
  have G_NoGate___init__ := ok_NoGate_init (P := P) (w := w) (base := base) T
  refine T.f_Basin___init__.fn.okX sc_Basin___init__ (fun vs H Q E h => ?_) (fun cdv A outer s H vs Q E hr h => ?_)
  · obtain ⟨p, dx, n, lo, hi, st, rn, g, gb, d, rfl, _⟩ := h
    rfl
  · obtain ⟨p, dx, n, lo, hi, st, rn, g, gb, d, rfl, hp, nm, tlo, thi, tst, trn, gt, du, k⟩ := h
    refine ⟨?t, ?B, ?C⟩
    case B =>
      refine' pss_cons (ps_if (pt_not (pt_val (pe_callF T.f_is_name G_is_name hr (by decide) (pa_cons (pv 1) pa_nil)))) (pss_one (ps_raise xw_def rfl (pe_exc T.x_NoName G_NoName___init__ hr (by decide) T.f_NoName___init__.bd T.m_NoName (pa_cons (pv 1) pa_nil)))) pss_nil) ?_
      rotate_left
      refine' pss_cons (ps_expr (pe_callX T.f_refuse_no_level G_refuse_no_level xw_def hr (by decide) (pa_cons (pv 2) (pa_cons pe_int (pa_cons (pe_glob (by rfl) T.c_HIGHEST (v := .int 12) ⟨_, rfl⟩) pa_nil))))) ?_
      rotate_left
      refine' pss_cons (ps_expr (pe_callX T.f_refuse_no_level G_refuse_no_level xw_def hr (by decide) (pa_cons (pv 3) (pa_cons (pv 2) (pa_cons (pe_glob (by rfl) T.c_HIGHEST (v := .int 12) ⟨_, rfl⟩) pa_nil))))) ?_
      rotate_left
      refine' pss_cons (ps_expr (pe_callX T.f_refuse_no_level G_refuse_no_level xw_def hr (by decide) (pa_cons (pv 4) (pa_cons (pv 2) (pa_cons (pv 3) pa_nil))))) ?_
      rotate_left
      refine' pss_cons (ps_expr (pe_callX T.f_refuse_no_level G_refuse_no_level xw_def hr (by decide) (pa_cons (pv 5) (pa_cons pe_int (pa_cons (pe_glob (by rfl) T.c_MOST_RAIN (v := .int 6) ⟨_, rfl⟩) pa_nil))))) ?_
      rotate_left
      refine' pss_cons (ps_if (pt_not (pt_val (pe_callB call_isA (by rfl) T.n_isinstance bt_isinstance (pa_cons (pv 6) (pa_cons (pe_glob (by rfl) T.m_Gate (v := .ref _) rfl) pa_nil))))) (pss_one (ps_raise xw_def rfl (pe_exc T.x_NoGate G_NoGate___init__ hr (by decide) T.f_NoGate___init__.bd T.m_NoGate (pa_cons (pv 6) pa_nil)))) pss_nil) ?_
      rotate_left
      refine' pss_cons (ps_fld (pv 0) (pv 1) rfl) ?_
      rotate_left
      refine' pss_cons (ps_fld (pv 0) (pv 2) rfl) ?_
      rotate_left
      refine' pss_cons (ps_fld (pv 0) (pv 3) rfl) ?_
      rotate_left
      refine' pss_cons (ps_fld (pv 0) (pv 4) rfl) ?_
      rotate_left
      refine' pss_cons (ps_fld (pv 0) (pv 5) rfl) ?_
      rotate_left
      exact (pss_one (ps_fld (pv 0) (pv 6) rfl))
    refine ⟨_, rfl, n, rfl, nm, fun H1 s1 => ⟨_, rfl, ?_⟩⟩
    cases du with
    | name e =>
      rw [e]
      exact iteT (rd_raise T.x_NoName T.n_NoName_thing rfl fun e dx h1 h2 h3 => k _ _ _ ((RfC.new h1 h2 h3).of s1))
    | low e1 e2 =>
      rw [e1]
      exact iteF ⟨_, rfl, lo, 0, 12, rfl, tlo.same s1, .inr ⟨e2, fun c eo H' rf => k c eo H' (rf.of s1)⟩⟩
    | high l e1 e2 e3 e4 =>
      subst e2
      rw [e1]
      refine iteF ⟨_, rfl, _, 0, 12, rfl, tlo.same s1, .inl ⟨e3, ?_⟩⟩
      exact ⟨_, rfl, _, rfl, hi, l, 12, rfl, thi.same s1, .inr ⟨e4, fun c eo H' rf => k c eo H' (rf.of s1)⟩⟩
    | start l h e1 e2 e3 e4 e5 e6 =>
      subst e2 e3
      rw [e1]
      refine iteF ⟨_, rfl, _, 0, 12, rfl, tlo.same s1, .inl ⟨e4, ?_⟩⟩
      refine ⟨_, rfl, _, rfl, _, l, 12, rfl, thi.same s1, .inl ⟨e5, ?_⟩⟩
      exact ⟨_, rfl, _, rfl, _, rfl, st, l, h, rfl, tst.same s1, .inr ⟨e6, fun c eo H' rf => k c eo H' (rf.of s1)⟩⟩
    | rain l h e1 e2 e3 e4 e5 e6 e7 =>
      subst e2 e3
      rw [e1]
      refine iteF ⟨_, rfl, _, 0, 12, rfl, tlo.same s1, .inl ⟨e4, ?_⟩⟩
      refine ⟨_, rfl, _, rfl, _, l, 12, rfl, thi.same s1, .inl ⟨e5, ?_⟩⟩
      refine ⟨_, rfl, _, rfl, _, rfl, st, l, h, rfl, tst.same s1, .inl ⟨e6, ?_⟩⟩
      exact ⟨_, rfl, rn, 0, 6, rfl, trn.same s1, .inr ⟨e7, fun c eo H' rf => k c eo H' (rf.of s1)⟩⟩
    | gate l h e1 e2 e3 e4 e5 e6 e7 e8 =>
      subst e2 e3 e8
      obtain ⟨t, ty, g1, g2, g3⟩ := gt
      rw [e1]
      refine iteF ⟨_, rfl, _, 0, 12, rfl, tlo.same s1, .inl ⟨e4, ?_⟩⟩
      refine ⟨_, rfl, _, rfl, _, l, 12, rfl, thi.same s1, .inl ⟨e5, ?_⟩⟩
      refine ⟨_, rfl, _, rfl, _, rfl, st, l, h, rfl, tst.same s1, .inl ⟨e6, ?_⟩⟩
      refine ⟨_, rfl, rn, 0, 6, rfl, trn.same s1, .inl ⟨e7, ?_⟩⟩
      exact ⟨_, rfl, g, _, _, t, _, rfl, rfl, tx_same s1 ty, g1, _, rfl, iteT (rd_raise T.x_NoGate T.n_NoGate_thing rfl fun e dx h1 h2 h3 => k _ _ _ ((RfC.new h1 h2 h3).of s1))⟩
    | good l h e1 e2 e3 e4 e5 e6 e7 e8 =>
      subst e2 e3 e8
      obtain ⟨t, ty, g1, g2, g3⟩ := gt
      rw [e1]
      refine iteF ⟨_, rfl, _, 0, 12, rfl, tlo.same s1, .inl ⟨e4, ?_⟩⟩
      refine ⟨_, rfl, _, rfl, _, l, 12, rfl, thi.same s1, .inl ⟨e5, ?_⟩⟩
      refine ⟨_, rfl, _, rfl, _, rfl, st, l, h, rfl, tst.same s1, .inl ⟨e6, ?_⟩⟩
      refine ⟨_, rfl, rn, 0, 6, rfl, trn.same s1, .inl ⟨e7, ?_⟩⟩
      refine ⟨_, rfl, g, _, _, t, _, rfl, rfl, tx_same s1 ty, g1, _, rfl, iteF ?_⟩
      refine ⟨_, rfl, _, rfl, p, _, dx, [], rfl, s1 _ _ hp, T.s_Basin, T.n_Basin_name, by simp, ?_⟩
      rw [show putF "name" n [] = ([("name", n)] : List (Str × V)) from rfl]
      refine ⟨_, rfl, _, rfl, p, _, dx, _, rfl, upd_same, T.s_Basin, T.n_Basin_low, by simp, ?_⟩
      rw [show putF "low" (.int l) [("name", n)] = ([("name", n), ("low", (.int l))] : List (Str × V)) from putF_new (fs := [("name", n)]) (show (["name"] : List Str).contains "low" = false by decide +kernel)]
      refine ⟨_, rfl, _, rfl, p, _, dx, _, rfl, upd_same, T.s_Basin, T.n_Basin_high, by simp, ?_⟩
      rw [show putF "high" (.int h) [("name", n), ("low", .int l)] = ([("name", n), ("low", .int l), ("high", (.int h))] : List (Str × V)) from putF_new (fs := [("name", n), ("low", .int l)]) (show (["name", "low"] : List Str).contains "high" = false by decide +kernel)]
      refine ⟨_, rfl, _, rfl, p, _, dx, _, rfl, upd_same, T.s_Basin, T.n_Basin_start, by simp, ?_⟩
      rw [show putF "start" st [("name", n), ("low", .int l), ("high", .int h)] = ([("name", n), ("low", .int l), ("high", .int h), ("start", st)] : List (Str × V)) from putF_new (fs := [("name", n), ("low", .int l), ("high", .int h)]) (show (["name", "low", "high"] : List Str).contains "start" = false by decide +kernel)]
      refine ⟨_, rfl, _, rfl, p, _, dx, _, rfl, upd_same, T.s_Basin, T.n_Basin_rain, by simp, ?_⟩
      rw [show putF "rain" rn [("name", n), ("low", .int l), ("high", .int h), ("start", st)] = ([("name", n), ("low", .int l), ("high", .int h), ("start", st), ("rain", rn)] : List (Str × V)) from putF_new (fs := [("name", n), ("low", .int l), ("high", .int h), ("start", st)]) (show (["name", "low", "high", "start"] : List Str).contains "rain" = false by decide +kernel)]
      refine ⟨_, rfl, _, rfl, p, _, dx, _, rfl, upd_same, T.s_Basin, T.n_Basin_gate, by simp, ?_⟩
      rw [show putF "gate" g [("name", n), ("low", .int l), ("high", .int h), ("start", st), ("rain", rn)] = ([("name", n), ("low", .int l), ("high", .int h), ("start", st), ("rain", rn), ("gate", g)] : List (Str × V)) from putF_new (fs := [("name", n), ("low", .int l), ("high", .int h), ("start", st), ("rain", rn)]) (show (["name", "low", "high", "start", "rain"] : List Str).contains "gate" = false by decide +kernel)]
      show Q .non _
      simp only [upd_upd]
      exact k _ s1
theorem sc_Town___init__ : FnScope ["self", "name", "basin", "want"] ["self", "name", "basin", "want"] (defScope (inClass (top 48) 0)) := ⟨rfl, rfl, rfl, by decide +kernel, rfl, by decide +kernel, by decide +kernel⟩
theorem ok_Town_init (T : Tx K mg a) : FnOk P w K mg base (CXX P w) 4 a.a_Town___init__ a.d_Town___init__ ["self", "name", "basin", "want"] (spTown K a) := by
  have G_is_name := ok_is_name (P := P) (w := w) (base := base) T
  have G_is_whole := ok_is_whole (P := P) (w := w) (base := base) T
  have G_NoName___init__ := ok_NoName_init (P := P) (w := w) (base := base) T
  have G_NoTown___init__ := ok_NoTown_init (P := P) (w := w) (base := base) T
  refine T.f_Town___init__.fn.okX sc_Town___init__ (fun vs H Q E h => ?_) (fun cdv A outer s H vs Q E hr h => ?_)
  · obtain ⟨p, dx, n, b, wt, d, rfl, _⟩ := h
    rfl
  · obtain ⟨p, dx, n, b, wt, d, rfl, hp, nm, nb, tw, du, k⟩ := h
    refine ⟨?t, ?B, ?C⟩
    case B =>
      refine' pss_cons (ps_if (pt_not (pt_val (pe_callF T.f_is_name G_is_name hr (by decide) (pa_cons (pv 1) pa_nil)))) (pss_one (ps_raise xw_def rfl (pe_exc T.x_NoName G_NoName___init__ hr (by decide) T.f_NoName___init__.bd T.m_NoName (pa_cons (pv 1) pa_nil)))) pss_nil) ?_
      rotate_left
      refine' pss_cons (ps_if (pt_not (pt_val (pe_callF T.f_is_name G_is_name hr (by decide) (pa_cons (pv 2) pa_nil)))) (pss_one (ps_raise xw_def rfl (pe_exc T.x_NoName G_NoName___init__ hr (by decide) T.f_NoName___init__.bd T.m_NoName (pa_cons (pv 2) pa_nil)))) pss_nil) ?_
      rotate_left
      refine' pss_cons (ps_if (pt_not (pt_val (pe_callF T.f_is_whole G_is_whole hr (by decide) (pa_cons (pv 3) (pa_cons pe_int (pa_cons (pe_glob (by rfl) T.c_MOST_WANT (v := .int 6) ⟨_, rfl⟩) pa_nil)))))) (pss_one (ps_raise xw_def rfl (pe_exc T.x_NoTown G_NoTown___init__ hr (by decide) T.f_NoTown___init__.bd T.m_NoTown (pa_cons (pv 3) pa_nil)))) pss_nil) ?_
      rotate_left
      refine' pss_cons (ps_fld (pv 0) (pv 1) rfl) ?_
      rotate_left
      refine' pss_cons (ps_fld (pv 0) (pv 2) rfl) ?_
      rotate_left
      exact (pss_one (ps_fld (pv 0) (pv 3) rfl))
    refine ⟨_, rfl, n, rfl, nm, fun H1 s1 => ⟨_, rfl, ?_⟩⟩
    cases du with
    | name e =>
      rw [e]
      exact iteT (rd_raise T.x_NoName T.n_NoName_thing rfl fun e dx h1 h2 h3 => k _ _ _ ((RfC.new h1 h2 h3).of s1))
    | basin e1 e2 =>
      rw [e1]
      refine iteF ⟨_, rfl, b, rfl, nb.same s1, fun H2 s2 => ⟨_, rfl, ?_⟩⟩
      rw [e2]
      exact iteT (rd_raise T.x_NoName T.n_NoName_thing rfl fun e dx h1 h2 h3 => k _ _ _ ((RfC.new h1 h2 h3).of (s1.trans s2)))
    | want e1 e2 e3 =>
      rw [e1]
      refine iteF ⟨_, rfl, b, rfl, nb.same s1, fun H2 s2 => ⟨_, rfl, ?_⟩⟩
      rw [e2]
      refine iteF ⟨_, rfl, wt, 1, 6, rfl, tw.same (s1.trans s2), _, rfl, ?_⟩
      rw [e3]
      exact iteT (rd_raise T.x_NoTown T.n_NoTown_thing rfl fun e dx h1 h2 h3 => k _ _ _ ((RfC.new h1 h2 h3).of (s1.trans s2)))
    | good e1 e2 e3 =>
      rw [e1]
      refine iteF ⟨_, rfl, b, rfl, nb.same s1, fun H2 s2 => ⟨_, rfl, ?_⟩⟩
      rw [e2]
      refine iteF ⟨_, rfl, wt, 1, 6, rfl, tw.same (s1.trans s2), _, rfl, ?_⟩
      rw [e3]
      refine iteF ⟨_, rfl, _, rfl, p, _, dx, [], rfl, s2 _ _ (s1 _ _ hp), T.s_Town, T.n_Town_name, by simp, ?_⟩
      rw [show putF "name" n [] = ([("name", n)] : List (Str × V)) from rfl]
      refine ⟨_, rfl, _, rfl, p, _, dx, _, rfl, upd_same, T.s_Town, T.n_Town_basin, by simp, ?_⟩
      rw [show putF "basin" b [("name", n)] = ([("name", n), ("basin", b)] : List (Str × V)) from putF_new (fs := [("name", n)]) (show (["name"] : List Str).contains "basin" = false by decide +kernel)]
      refine ⟨_, rfl, _, rfl, p, _, dx, _, rfl, upd_same, T.s_Town, T.n_Town_want, by simp, ?_⟩
      rw [show putF "want" wt [("name", n), ("basin", b)] = ([("name", n), ("basin", b), ("want", wt)] : List (Str × V)) from putF_new (fs := [("name", n), ("basin", b)]) (show (["name", "basin"] : List Str).contains "want" = false by decide +kernel)]
      show Q .non _
      simp only [upd_upd]
      exact k _ (s1.trans s2)
end
section
variable {P : Program} {w : World} {K : W.Frag} {mg : Str → Option Value} {base : Heap} {a : Ad}
theorem ifF {b : Bool} {A B : Prop} (h : b = false) (k : B) : if b = true then A else B := by rw [h]; exact iteF k
theorem ifT {b : Bool} {A B : Prop} (h : b = true) (k : A) : if b = true then A else B := by rw [h]; exact iteT k
theorem sc_are_unlike : FnScope ["names"] ["names"] (defScope (top 49)) := ⟨rfl, rfl, rfl, by decide +kernel, rfl, by decide +kernel, by decide +kernel⟩
theorem ok_are_unlike (T : Tx K mg a) : FnOk P w K mg base CX0 1 a.a_are_unlike a.d_are_unlike ["names"] (spUnlike K) := by
  refine T.f_are_unlike.fn.ok sc_are_unlike (fun vs H Q E h => ?_) (fun cdv A outer s H vs Q E hr h => ?_)
  · obtain ⟨l, zs, rfl, _⟩ := h
    rfl
  · obtain ⟨l, zs, rfl, hq, hz, k⟩ := h
    refine ⟨_, (pss_one (ps_ret (pe_cmpR op_eq (pe_callB call_len_texts (by rfl) T.n_len bt_len (pa_cons (pe_callTy (call_set_texts rfl) (by rfl) T.n_set bt_set (pa_cons (pv 0) pa_nil)) pa_nil)) (pe_callB call_len_seq (by rfl) T.n_len bt_len (pa_cons (pv 0) pa_nil)) (nomark _)))), ?_⟩
    refine ⟨_, rfl, l, zs, rfl, hq, hz, fun t ht => ⟨t, zs, rfl, upd_same, ?_⟩⟩
    have s1 := Same.upd (o := TxS P w t zs) ht
    refine ⟨_, rfl, l, _, rfl, .inl (s1.seq hq), rfl, ?_⟩
    have e : decide (V.int ((uq zs).length : Nat) = V.int ((zs.map V.str).length : Nat)) = decide ((uq zs).length = zs.length) := by
      rw [List.length_map]
      by_cases h : (uq zs).length = zs.length
      · rw [decide_eq_true h, decide_eq_true (by rw [h])]
      · rw [decide_eq_false h, decide_eq_false (fun q => h (by have := V.int.inj q; omega))]
    rw [e]
    exact k _ s1
theorem sc_are_basins : FnScope ["thing"] ["thing"] (defScope (top 50)) := ⟨rfl, rfl, rfl, by decide +kernel, rfl, by decide +kernel, by decide +kernel⟩
theorem ok_are_basins (T : Tx K mg a) : FnOk P w K mg base CX0 2 a.a_are_basins a.d_are_basins ["thing"] (spBasins K a) := by
  have G_are_unlike := ok_are_unlike (P := P) (w := w) (base := base) T
  refine T.f_are_basins.fn.ok sc_are_basins (fun vs H Q E h => ?_) (fun cdv A outer s H vs Q E hr h => ?_)
  · obtain ⟨l, os, Bs, rfl, _⟩ := h
    rfl
  · obtain ⟨l, os, Bs, rfl, hl, bl, hn, nd, k⟩ := h
    have len := bl.len
    refine ⟨?t, ?B, ?C⟩
    case B =>
      refine' pss_cons ?s1 ?r1
      case s1 =>
       refine' ps_if ?c2 ?a2 ?b2
       case c2 =>
        exact (pw_or (pt_not (pt_val (pe_callB call_isT (by rfl) T.n_isinstance bt_isinstance (pa_cons (pv 0) (pa_cons (pe_tup (pa_cons (pe_bltn (v := .ty "list") (by rfl) T.n_list bt_list rfl) (pa_cons (pe_bltn (v := .ty "tuple") (by rfl) T.n_tuple bt_tuple rfl) pa_nil))) pa_nil))))) (pw_or1 (pt_not (pt_chain op_le op_le pe_int (pe_callB call_len_seq (by rfl) T.n_len bt_len (pa_cons (pv 0) pa_nil)) (pe_glob (by rfl) T.c_MOST_BASINS (v := .int 16) ⟨_, rfl⟩))))).pt
       case a2 =>
        refine' pss_one ?s3
        case s3 =>
         exact (ps_ret pe_bl)
       case b2 =>
        exact pss_nil
      case r1 =>
       refine' pss_cons ?s7 ?r7
       case s7 =>
        refine' ps_if ?c8 ?a8 ?b8
        case c8 =>
         exact (pt_not (pt_val (pe_callB (call_all rfl) (by rfl) T.n_all bt_all (pa_cons (pe_comp (N := (["basin"] : List Str)) (ini := [none]) rfl (pi_list (pv 0)) (fun _ _ _ _ _ => (pg_name (i := 0) (by decide +kernel : (["basin"] : List Str).Nodup) rfl (Or.inl rfl))) (fun _ _ _ _ _ => pif_nil) (fun _ _ _ _ _ => (pe_callB (call_isAK (K := K) rfl) (by rfl) T.n_isinstance bt_isinstance (pa_cons (pv 0) (pa_cons (pe_glob (by rfl) T.m_Basin (v := .ref _) rfl) pa_nil))))) pa_nil))))
        case a8 =>
         refine' pss_one ?s9
         case s9 =>
          exact (ps_ret pe_bl)
        case b8 =>
         exact pss_nil
       case r7 =>
        refine' pss_one ?s13
        case s13 =>
         exact (ps_ret (pe_callF T.f_are_unlike G_are_unlike hr (by decide) (pa_cons (pe_comp (N := (["basin"] : List Str)) (ini := [none]) rfl (pi_list (pv 0)) (fun _ _ _ _ _ => (pg_name (i := 0) (by decide +kernel : (["basin"] : List Str).Nodup) rfl (Or.inl rfl))) (fun _ _ _ _ _ => pif_nil) (fun _ _ _ _ _ => (pe_fldK (K := K) rfl (pv 0) (by rfl)))) pa_nil)))
    refine ⟨_, rfl, (show 2 ≤ sizeLine by decide), fun p hp => ⟨_, p, _, _, .type "list", true, rfl, upd_same, rfl, .of (.lst (Same.upd hp _ _ hl)), rfl, _, rfl, iteF ?_⟩⟩
    have s1 := Same.upd (o := .tup [.ty "list", .ty "tuple"]) hp
    refine ⟨_, rfl, l, _, rfl, .inl (SqL.of (s1 _ _ hl)), _, _, rfl, rfl, _, rfl, ifT (by rw [List.length_map]; simp; omega) ⟨_, _, rfl, rfl, _, rfl, ifF (by rw [List.length_map]; simp; omega) ?_⟩⟩
    refine ⟨_, rfl, l, rfl, ⟨_, SqL.of (s1 _ _ hl)⟩, fun D hD => ?_⟩
    refine comp_list (K := K) (a := l) (xs := os.map V.ref) (D := D) (fun i σ H' => ∃ o, σ = [o] ∧ H' D = some (.lst ((List.replicate i true).map V.bl)) ∧ Same (upd H p (.tup [.ty "list", .ty "tuple"])) H') ⟨_, rfl, upd_same, Same.upd hD⟩ (fun i σ H' _ ⟨o, _, _, sm⟩ => SqL.of (sm _ _ (s1 _ _ hl))) ?_ ?_
    · rintro i v σ H' hv ⟨o, rfl, hDs, sm⟩
      obtain ⟨ob, B, rfl, hB, dx, hb, gs⟩ := (bl.same (s1.trans sm)).get hv
      have hi : i < os.length := by have := (List.getElem?_eq_some_iff.mp hv).1; rwa [List.length_map] at this
      refine turn_yes ⟨_, rfl, _, _, _, _, true, rfl, rfl, .of (T.y_Basin.ty T.s_Basin hb), T.i_o_Basin, _, hDs, ?_, _, rfl, ?_, fun c o z => ?_⟩
      · rw [List.length_map, List.length_replicate]
        exact small2k (by omega)
      · rw [upd_same, List.replicate_succ', List.map_append]
        rfl
      · rw [upd_ne (ne_of_none z hD)]
        exact sm _ _ z
    rintro σ H1 ⟨o, rfl, hDs, sm⟩
    refine ⟨D, _, rfl, SqL.of hDs, _, rfl, ifF (by simp) ?_⟩
    have s2 := s1.trans sm
    refine ⟨_, rfl, l, rfl, ⟨_, SqL.of (s2 _ _ hl)⟩, fun D2 hD2 => ?_⟩
    refine comp_list (K := K) (a := l) (xs := os.map V.ref) (D := D2) (fun i σ H' => ∃ o, σ = [o] ∧ H' D2 = some (.lst (((Bs.take i).map (·.z)).map V.str)) ∧ Same H1 H') ⟨_, rfl, upd_same, Same.upd hD2⟩ (fun i σ H' _ ⟨o, _, _, sm⟩ => SqL.of (sm _ _ (s2 _ _ hl))) ?_ ?_
    · rintro i v σ H' hv ⟨o, rfl, hDs, sm3⟩
      obtain ⟨ob, B, rfl, hB, dx, hb, gs⟩ := (bl.same (s2.trans sm3)).get hv
      refine turn_yes ⟨_, rfl, ob, _, dx, _, _, rfl, hb, T.s_Basin, T.n_Basin_name, rfl, _, hDs, ?_, _, rfl, ?_, fun c o z => ?_⟩
      · rw [List.length_map, List.length_map, List.length_take]
        exact small2k (by omega)
      · rw [upd_same, List.take_add_one, hB]
        simp
      · rw [upd_ne (ne_of_none z hD2)]
        exact sm3 _ _ z
    rintro σ H2 ⟨o, rfl, hDs, sm3⟩
    rw [List.length_map, List.take_of_length_le (by omega)] at hDs
    refine ⟨D2, Bs.map (·.z), rfl, SqL.of hDs, by rw [List.length_map]; omega, fun H3 s3 => ?_⟩
    rw [uq_nodup nd, decide_eq_true rfl]
    exact k _ ((s2.trans sm3).trans s3)
theorem sc_are_towns : FnScope ["thing", "basins", "names"] ["thing", "basins"] (defScope (top 51)) := ⟨rfl, rfl, rfl, by decide +kernel, rfl, by decide +kernel, by decide +kernel⟩
theorem ok_are_towns (T : Tx K mg a) : FnOk P w K mg base CX0 2 a.a_are_towns a.d_are_towns ["thing", "basins"] (spTowns K a) := by
  have G_are_unlike := ok_are_unlike (P := P) (w := w) (base := base) T
  refine T.f_are_towns.fn.ok sc_are_towns (fun vs H Q E h => ?_) (fun cdv A outer s H vs Q E hr h => ?_)
  · obtain ⟨l, m, os, ts, Bs, Ts, rfl, _⟩ := h
    rfl
  · obtain ⟨l, m, os, ts, Bs, Ts, rfl, hl, bl, hn, hm, tl, tn, nd, inn, k⟩ := h
    have len := bl.len
    have tlen := tl.len
    refine ⟨?t, ?B, ?C⟩
    case B =>
      refine' pss_cons ?s1 ?r1
      case s1 =>
       refine' ps_if ?c2 ?a2 ?b2
       case c2 =>
        exact (pw_or (pt_not (pt_val (pe_callB call_isT (by rfl) T.n_isinstance bt_isinstance (pa_cons (pv 0) (pa_cons (pe_tup (pa_cons (pe_bltn (v := .ty "list") (by rfl) T.n_list bt_list rfl) (pa_cons (pe_bltn (v := .ty "tuple") (by rfl) T.n_tuple bt_tuple rfl) pa_nil))) pa_nil))))) (pw_or1 (pt_cmpR op_gt (pe_callB call_len_seq (by rfl) T.n_len bt_len (pa_cons (pv 0) pa_nil)) (pe_glob (by rfl) T.c_MOST_TOWNS (v := .int 3) ⟨_, rfl⟩) (nomark _)))).pt
       case a2 =>
        refine' pss_one ?s3
        case s3 =>
         exact (ps_ret pe_bl)
       case b2 =>
        exact pss_nil
      case r1 =>
       refine' pss_cons ?s7 ?r7
       case s7 =>
        refine' ps_if ?c8 ?a8 ?b8
        case c8 =>
         exact (pt_not (pt_val (pe_callB (call_all rfl) (by rfl) T.n_all bt_all (pa_cons (pe_comp (N := (["town"] : List Str)) (ini := [none]) rfl (pi_list (pv 0)) (fun _ _ _ _ _ => (pg_name (i := 0) (by decide +kernel : (["town"] : List Str).Nodup) rfl (Or.inl rfl))) (fun _ _ _ _ _ => pif_nil) (fun _ _ _ _ _ => (pe_callB (call_isAK (K := K) rfl) (by rfl) T.n_isinstance bt_isinstance (pa_cons (pv 0) (pa_cons (pe_glob (by rfl) T.m_Town (v := .ref _) rfl) pa_nil))))) pa_nil))))
        case a8 =>
         refine' pss_one ?s9
         case s9 =>
          exact (ps_ret pe_bl)
        case b8 =>
         exact pss_nil
       case r7 =>
        refine' pss_cons ?s13 ?r13
        case s13 =>
         exact (ps_set (i := 2) sc_are_towns.nd rfl (Or.inr rfl) (pe_comp (N := (["basin"] : List Str)) (ini := [none]) rfl (pi_list (pv 1)) (fun _ _ _ _ _ => (pg_name (i := 0) (by decide +kernel : (["basin"] : List Str).Nodup) rfl (Or.inl rfl))) (fun _ _ _ _ _ => pif_nil) (fun _ _ _ _ _ => (pe_fldK (K := K) rfl (pv 0) (by rfl)))))
        case r13 =>
         refine' pss_one ?s15
         case s15 =>
          exact (ps_ret (pe_and (pe_callF T.f_are_unlike G_are_unlike hr (by decide) (pa_cons (pe_comp (N := (["town"] : List Str)) (ini := [none]) rfl (pi_list (pv 0)) (fun _ _ _ _ _ => (pg_name (i := 0) (by decide +kernel : (["town"] : List Str).Nodup) rfl (Or.inl rfl))) (fun _ _ _ _ _ => pif_nil) (fun _ _ _ _ _ => (pe_fldK (K := K) rfl (pv 0) (by rfl)))) pa_nil)) (pe_one (pe_callB (call_all rfl) (by rfl) T.n_all bt_all (pa_cons (pe_comp (N := (["town", "names"] : List Str)) (ini := [none, some 2]) rfl (pi_list (pv 0)) (fun _ _ _ _ _ => (pg_name (i := 0) (by decide +kernel : (["town", "names"] : List Str).Nodup) rfl (Or.inl rfl))) (fun _ _ _ _ _ => pif_nil) (fun _ _ _ _ _ => (pe_cmpR (op_in_seqK (K := K) rfl) (pe_fldK (K := K) rfl (pv 0) (by rfl)) (pv 1) (by with_unfolding_all rfl)))) pa_nil)))))
    refine ⟨_, rfl, (show 2 ≤ sizeLine by decide), fun p hp => ⟨_, p, _, _, .type "list", true, rfl, upd_same, rfl, .of (.lst (Same.upd hp _ _ hm)), rfl, _, rfl, iteF ?_⟩⟩
    have s1 := Same.upd (o := .tup [.ty "list", .ty "tuple"]) hp
    refine ⟨_, rfl, m, _, rfl, .inl (SqL.of (s1 _ _ hm)), _, _, rfl, rfl, _, rfl, ifF (by rw [List.length_map]; simp; omega) ?_⟩
    refine ⟨_, rfl, m, rfl, ⟨_, SqL.of (s1 _ _ hm)⟩, fun D hD => ?_⟩
    refine comp_list (K := K) (a := m) (xs := ts.map V.ref) (D := D) (fun i σ H' => ∃ o, σ = [o] ∧ H' D = some (.lst ((List.replicate i true).map V.bl)) ∧ Same (upd H p (.tup [.ty "list", .ty "tuple"])) H') ⟨_, rfl, upd_same, Same.upd hD⟩ (fun i σ H' _ ⟨o, _, _, sm⟩ => SqL.of (sm _ _ (s1 _ _ hm))) ?_ ?_
    · rintro i v σ H' hv ⟨o, rfl, hDs, sm⟩
      obtain ⟨ob, B, rfl, hB, dx, hb⟩ := (tl.same (s1.trans sm)).get hv
      have hi : i < ts.length := by have := (List.getElem?_eq_some_iff.mp hv).1; rwa [List.length_map] at this
      refine turn_yes ⟨_, rfl, _, _, _, _, true, rfl, rfl, .of (T.y_Town.ty T.s_Town hb), T.i_o_Town, _, hDs, ?_, _, rfl, ?_, fun c o z => ?_⟩
      · rw [List.length_map, List.length_replicate]
        exact small2k (by omega)
      · rw [upd_same, List.replicate_succ', List.map_append]
        rfl
      · rw [upd_ne (ne_of_none z hD)]
        exact sm _ _ z
    rintro σ H1 ⟨o, rfl, hDs, sm⟩
    refine ⟨D, _, rfl, SqL.of hDs, _, rfl, ifF (by simp) ?_⟩
    have s2 := s1.trans sm
    refine ⟨_, rfl, l, rfl, ⟨_, SqL.of (s2 _ _ hl)⟩, fun D2 hD2 => ?_⟩
    refine comp_list (K := K) (a := l) (xs := os.map V.ref) (D := D2) (fun i σ H' => ∃ o, σ = [o] ∧ H' D2 = some (.lst (((Bs.take i).map (·.z)).map V.str)) ∧ Same H1 H') ⟨_, rfl, upd_same, Same.upd hD2⟩ (fun i σ H' _ ⟨o, _, _, sm⟩ => SqL.of (sm _ _ (s2 _ _ hl))) ?_ ?_
    · rintro i v σ H' hv ⟨o, rfl, hDs, sm3⟩
      obtain ⟨ob, B, rfl, hB, dx, hb, gs⟩ := (bl.same (s2.trans sm3)).get hv
      refine turn_yes ⟨_, rfl, ob, _, dx, _, _, rfl, hb, T.s_Basin, T.n_Basin_name, rfl, _, hDs, ?_, _, rfl, ?_, fun c o z => ?_⟩
      · rw [List.length_map, List.length_map, List.length_take]
        exact small2k (by omega)
      · rw [upd_same, List.take_add_one, hB]
        simp
      · rw [upd_ne (ne_of_none z hD2)]
        exact sm3 _ _ z
    rintro σ H2 ⟨o, rfl, hD2s, sm3⟩
    rw [List.length_map, List.take_of_length_le (by omega)] at hD2s
    have s3 := s2.trans sm3
    refine ⟨_, rfl, m, rfl, ⟨_, SqL.of (s3 _ _ hm)⟩, fun D3 hD3 => ?_⟩
    refine comp_list (K := K) (a := m) (xs := ts.map V.ref) (D := D3) (fun i σ H' => ∃ o, σ = [o] ∧ H' D3 = some (.lst (((Ts.take i).map (·.z)).map V.str)) ∧ Same H2 H') ⟨_, rfl, upd_same, Same.upd hD3⟩ (fun i σ H' _ ⟨o, _, _, sm⟩ => SqL.of (sm _ _ (s3 _ _ hm))) ?_ ?_
    · rintro i v σ H' hv ⟨o, rfl, hDs, sm4⟩
      obtain ⟨ob, B, rfl, hB, dx, hb⟩ := (tl.same (s3.trans sm4)).get hv
      refine turn_yes ⟨_, rfl, ob, _, dx, _, _, rfl, hb, T.s_Town, T.n_Town_name, rfl, _, hDs, ?_, _, rfl, ?_, fun c o z => ?_⟩
      · rw [List.length_map, List.length_map, List.length_take]
        exact small2k (by omega)
      · rw [upd_same, List.take_add_one, hB]
        simp
      · rw [upd_ne (ne_of_none z hD3)]
        exact sm4 _ _ z
    rintro σ H3 ⟨o, rfl, hD3s, sm4⟩
    rw [List.length_map, List.take_of_length_le (by omega)] at hD3s
    refine ⟨D3, Ts.map (·.z), rfl, SqL.of hD3s, by rw [List.length_map]; omega, fun H4 s4 => ⟨_, rfl, ifT (by rw [uq_nodup nd, decide_eq_true rfl]) ?_⟩⟩
    have s5 := (s3.trans sm4).trans s4
    have hD24 := s4 _ _ (sm4 _ _ hD2s)
    refine ⟨_, rfl, m, rfl, ⟨_, SqL.of (s5 _ _ hm)⟩, fun D4 hD4 => ?_⟩
    refine comp_list (K := K) (a := m) (xs := ts.map V.ref) (D := D4) (fun i σ H' => ∃ o, σ = [o, some (.ref D2)] ∧ H' D4 = some (.lst ((List.replicate i true).map V.bl)) ∧ Same H4 H') ⟨_, rfl, upd_same, Same.upd hD4⟩ (fun i σ H' _ ⟨o, _, _, sm⟩ => SqL.of (sm _ _ (s5 _ _ hm))) ?_ ?_
    · rintro i v σ H' hv ⟨o, rfl, hDs, sm6⟩
      obtain ⟨ob, B, rfl, hB, dx, hb⟩ := (tl.same (s5.trans sm6)).get hv
      have hi : i < ts.length := by have := (List.getElem?_eq_some_iff.mp hv).1; rwa [List.length_map] at this
      refine turn_yes ⟨_, rfl, ob, _, dx, _, _, rfl, hb, T.s_Town, T.n_Town_basin, rfl, _, rfl, D2, _, rfl, .inl (SqL.of (sm6 _ _ hD24)), rfl, by simp [flatV], ?_⟩
      have e : inV (V.str B.b) ((Bs.map (·.z)).map V.str) = true := by
        obtain ⟨z, hz, ez⟩ := List.mem_map.mp (inn B (List.mem_of_getElem? hB))
        unfold inV
        refine List.any_eq_true.mpr ⟨V.str z.z, List.mem_map.mpr ⟨z.z, List.mem_map.mpr ⟨z, hz, rfl⟩, rfl⟩, ?_⟩
        simp [eqV, ez]
      show ∃ ys, _
      rw [if_neg Bool.false_ne_true, e]
      refine ⟨_, hDs, ?_, _, rfl, ?_, fun c o z => ?_⟩
      · rw [List.length_map, List.length_replicate]
        exact small2k (by omega)
      · rw [upd_same, List.replicate_succ', List.map_append]
        rfl
      · rw [upd_ne (ne_of_none z hD4)]
        exact sm6 _ _ z
    rintro σ H5 ⟨o, rfl, hD4s, sm6⟩
    refine ⟨D4, _, rfl, SqL.of hD4s, ?_⟩
    rw [show (List.replicate (ts.map V.ref).length true).all id = true by simp]
    exact k _ (s5.trans sm6)
end
section
variable {P : Program} {w : World} {K : W.Frag} {mg : Str → Option Value} {base : Heap} {a : Ad}
theorem sc_NoCloud___init__ : FnScope ["self", "thing"] ["self", "thing"] (defScope (inClass (top 7) 0)) := ⟨rfl, rfl, rfl, by decide +kernel, rfl, by decide +kernel, by decide +kernel⟩
theorem ok_NoCloud_init (T : Tx K mg a) : FnOk P w K mg base CX0 1 a.a_NoCloud___init__ a.d_NoCloud___init__ ["self", "thing"] (spIni1 K "thing") := by
  refine T.f_NoCloud___init__.fn.ok sc_NoCloud___init__ (fun vs H Q E h => ?_) (fun cdv A outer s H vs Q E hr h => ?_)
  · obtain ⟨e, C, W, fI, y, rfl, _⟩ := h
    rfl
  · obtain ⟨e, C, W, fI, y, rfl, q, c, n, k⟩ := h
    refine ⟨_, (pss_one (ps_fldN (pv 0) (pv 1) rfl)), ?_⟩
    exact ⟨_, rfl, _, rfl, e, C, W, fI, true, rfl, q, c, n, k⟩
theorem sc_NoRiver___init__ : FnScope ["self", "thing"] ["self", "thing"] (defScope (inClass (top 8) 0)) := ⟨rfl, rfl, rfl, by decide +kernel, rfl, by decide +kernel, by decide +kernel⟩
theorem ok_NoRiver_init (T : Tx K mg a) : FnOk P w K mg base CX0 1 a.a_NoRiver___init__ a.d_NoRiver___init__ ["self", "thing"] (spIni1 K "thing") := by
  refine T.f_NoRiver___init__.fn.ok sc_NoRiver___init__ (fun vs H Q E h => ?_) (fun cdv A outer s H vs Q E hr h => ?_)
  · obtain ⟨e, C, W, fI, y, rfl, _⟩ := h
    rfl
  · obtain ⟨e, C, W, fI, y, rfl, q, c, n, k⟩ := h
    refine ⟨_, (pss_one (ps_fldN (pv 0) (pv 1) rfl)), ?_⟩
    exact ⟨_, rfl, _, rfl, e, C, W, fI, true, rfl, q, c, n, k⟩
theorem upd_swap {H : Hp} {p q : Addr} {o u : HO} (h : p ≠ q) : upd (upd H p o) q u = upd (upd H q u) p o := by
  funext c
  by_cases h1 : c = p
  · subst h1
    rw [upd_same, upd_ne h, upd_same]
  · rw [upd_ne h1]
    by_cases h2 : c = q
    · subst h2
      rw [upd_same, upd_same]
    · rw [upd_ne h2, upd_ne h2, upd_ne h1]
def rivF (c g b t : V) : List (Str × V) := [("cloud", c), ("gain", g), ("basins", b), ("towns", t)]
def spRiver (K : W.Frag) (a : Ad) : Sp := fun vs H Q _ => ∃ (p dx l m : Addr) (c g : Int) (os ts : List Addr) (Bs : List Bsn) (Ts : List Twn), vs = [.ref p, .int c, .int g, .ref l, .ref m] ∧ H p = some (.ins a.c_River dx []) ∧ (0 ≤ c ∧ c ≤ 12) ∧ (0 ≤ g ∧ g ≤ c) ∧ H l = some (.lst (os.map V.ref)) ∧ BasL K a H os Bs ∧ (1 ≤ Bs.length ∧ Bs.length ≤ 16) ∧ (Bs.map (·.z)).Nodup ∧ H m = some (.lst (ts.map V.ref)) ∧ TwnL a H ts Ts ∧ Ts.length ≤ 3 ∧ (Ts.map (·.z)).Nodup ∧ (∀ t ∈ Ts, t.b ∈ Bs.map (·.z)) ∧ ∀ H' b t, Same H H' → H' b = some (.tup (os.map V.ref)) → H' t = some (.tup (ts.map V.ref)) → b ≠ p → t ≠ p → Q .non (upd H' p (.ins a.c_River dx (rivF (.int c) (.int g) (.ref b) (.ref t))))
theorem whole_of {i lo hi : Int} (h1 : lo ≤ i) (h2 : i ≤ hi) : wholeB (.int i) lo hi = true := by
  show (decide (lo ≤ i) && decide (i ≤ hi)) = true
  rw [decide_eq_true h1, decide_eq_true h2]
  rfl
theorem sc_River___init__ : FnScope ["self", "cloud", "gain", "basins", "towns"] ["self", "cloud", "gain", "basins", "towns"] (defScope (inClass (top 52) 0)) := ⟨rfl, rfl, rfl, by decide +kernel, rfl, by decide +kernel, by decide +kernel⟩
theorem ok_River_init (T : Tx K mg a) : FnOk P w K mg base (CXX P w) 4 a.a_River___init__ a.d_River___init__ ["self", "cloud", "gain", "basins", "towns"] (spRiver K a) := by
  have G_is_whole := ok_is_whole (P := P) (w := w) (base := base) T
  have G_are_basins := ok_are_basins (P := P) (w := w) (base := base) T
  have G_are_towns := ok_are_towns (P := P) (w := w) (base := base) T
  have G_NoCloud___init__ := ok_NoCloud_init (P := P) (w := w) (base := base) T
  have G_NoRiver___init__ := ok_NoRiver_init (P := P) (w := w) (base := base) T
  refine T.f_River___init__.fn.okX sc_River___init__ (fun vs H Q E h => ?_) (fun cdv A outer s H vs Q E hr h => ?_)
  · obtain ⟨p, dx, l, m, c, g, os, ts, Bs, Ts, rfl, _⟩ := h
    rfl
  · obtain ⟨p, dx, l, m, c, g, os, ts, Bs, Ts, rfl, hp, hc, hg, hl, bl, hn, nd, hm, tl, tn, tnd, inn, k⟩ := h
    refine ⟨?t, ?B, ?C⟩
    case B =>
      refine' pss_cons ?s1 ?r1
      case s1 =>
       refine' ps_if ?c2 ?a2 ?b2
       case c2 =>
        exact (pt_not (pt_val (pe_callF T.f_is_whole G_is_whole hr (by decide) (pa_cons (pv 1) (pa_cons pe_int (pa_cons (pe_glob (by rfl) T.c_MOST_CLOUD (v := .int 12) ⟨_, rfl⟩) pa_nil))))))
       case a2 =>
        refine' pss_one ?s3
        case s3 =>
         exact (ps_raise xw_def rfl (pe_exc T.x_NoCloud G_NoCloud___init__ hr (by decide) T.f_NoCloud___init__.bd T.m_NoCloud (pa_cons (pv 1) pa_nil)))
       case b2 =>
        exact pss_nil
      case r1 =>
       refine' pss_cons ?s6 ?r6
       case s6 =>
        refine' ps_if ?c7 ?a7 ?b7
        case c7 =>
         exact (pt_not (pt_val (pe_callF T.f_is_whole G_is_whole hr (by decide) (pa_cons (pv 2) (pa_cons pe_int (pa_cons (pv 1) pa_nil))))))
        case a7 =>
         refine' pss_one ?s8
         case s8 =>
          exact (ps_raise xw_def rfl (pe_exc T.x_NoCloud G_NoCloud___init__ hr (by decide) T.f_NoCloud___init__.bd T.m_NoCloud (pa_cons (pv 2) pa_nil)))
        case b7 =>
         exact pss_nil
       case r6 =>
        refine' pss_cons ?s11 ?r11
        case s11 =>
         refine' ps_if ?c12 ?a12 ?b12
         case c12 =>
          exact (pt_not (pt_val (pe_callF T.f_are_basins G_are_basins hr (by decide) (pa_cons (pv 3) pa_nil))))
         case a12 =>
          refine' pss_one ?s13
          case s13 =>
           exact (ps_raise xw_def rfl (pe_exc T.x_NoRiver G_NoRiver___init__ hr (by decide) T.f_NoRiver___init__.bd T.m_NoRiver (pa_cons (pv 3) pa_nil)))
         case b12 =>
          exact pss_nil
        case r11 =>
         refine' pss_cons ?s16 ?r16
         case s16 =>
          refine' ps_if ?c17 ?a17 ?b17
          case c17 =>
           exact (pt_not (pt_val (pe_callF T.f_are_towns G_are_towns hr (by decide) (pa_cons (pv 4) (pa_cons (pv 3) pa_nil)))))
          case a17 =>
           refine' pss_one ?s18
           case s18 =>
            exact (ps_raise xw_def rfl (pe_exc T.x_NoRiver G_NoRiver___init__ hr (by decide) T.f_NoRiver___init__.bd T.m_NoRiver (pa_cons (pv 4) pa_nil)))
          case b17 =>
           exact pss_nil
         case r16 =>
          refine' pss_cons ?s21 ?r21
          case s21 =>
           exact (ps_fld (pv 0) (pv 1) rfl)
          case r21 =>
           refine' pss_cons ?s23 ?r23
           case s23 =>
            exact (ps_fld (pv 0) (pv 2) rfl)
           case r23 =>
            refine' pss_cons ?s25 ?r25
            case s25 =>
             exact (ps_fld (pv 0) (pe_callTy call_tuple_of (by rfl) T.n_tuple bt_tuple (pa_cons (pv 3) pa_nil)) rfl)
            case r25 =>
             refine' pss_one ?s27
             case s27 =>
              exact (ps_fld (pv 0) (pe_callTy call_tuple_of (by rfl) T.n_tuple bt_tuple (pa_cons (pv 4) pa_nil)) rfl)
    refine ⟨_, rfl, _, 0, 12, rfl, .inl ⟨_, rfl⟩, _, rfl, ifF (by rw [whole_of hc.1 hc.2]; rfl) ?_⟩
    refine ⟨_, rfl, _, rfl, _, 0, c, rfl, .inl ⟨_, rfl⟩, _, rfl, ifF (by rw [whole_of hg.1 hg.2]; rfl) ?_⟩
    refine ⟨_, rfl, l, os, Bs, rfl, hl, bl, hn, nd, fun H1 s1 => ⟨_, rfl, iteF ?_⟩⟩
    refine ⟨_, rfl, _, rfl, l, m, os, ts, Bs, Ts, rfl, s1 _ _ hl, bl.same s1, hn.2, s1 _ _ hm, tl.same s1, tn, tnd, inn, fun H2 s2 => ⟨_, rfl, iteF ?_⟩⟩
    have s3 := s1.trans s2
    have hp2 := s3 _ _ hp
    refine ⟨_, rfl, _, rfl, p, _, dx, [], rfl, hp2, T.s_River, T.n_River_cloud, by simp, ?_⟩
    rw [show putF "cloud" (.int c) [] = ([("cloud", .int c)] : List (Str × V)) from rfl]
    refine ⟨_, rfl, _, rfl, p, _, dx, _, rfl, upd_same, T.s_River, T.n_River_gain, by simp, ?_⟩
    rw [show putF "gain" (.int g) [("cloud", .int c)] = ([("cloud", .int c), ("gain", .int g)] : List (Str × V)) from putF_new (fs := [("cloud", .int c)]) (show (["cloud"] : List Str).contains "gain" = false by decide +kernel), upd_upd]
    have nl : l ≠ p := fun e => by subst e; rw [hl] at hp; cases hp
    have nm : m ≠ p := fun e => by subst e; rw [hm] at hp; cases hp
    refine ⟨_, rfl, l, _, rfl, .inl ⟨SqL.of (by rw [upd_ne nl]; exact s3 _ _ hl), fun b hb => ?_⟩⟩
    have nb : b ≠ p := fun e => by subst e; rw [upd_same] at hb; cases hb
    rw [upd_ne nb] at hb
    rw [upd_swap nb.symm]
    refine ⟨_, rfl, p, _, dx, _, rfl, upd_same, T.s_River, T.n_River_basins, by simp, ?_⟩
    rw [show putF "basins" (.ref b) [("cloud", .int c), ("gain", .int g)] = ([("cloud", .int c), ("gain", .int g), ("basins", .ref b)] : List (Str × V)) from putF_new (fs := [("cloud", .int c), ("gain", .int g)]) (show (["cloud", "gain"] : List Str).contains "basins" = false by decide +kernel), upd_upd]
    have s4 := s3.trans (Same.upd (o := .tup (os.map V.ref)) hb)
    refine ⟨_, rfl, m, _, rfl, .inl ⟨SqL.of (by rw [upd_ne nm]; exact s4 _ _ hm), fun t ht => ?_⟩⟩
    have nt : t ≠ p := fun e => by subst e; rw [upd_same] at ht; cases ht
    rw [upd_ne nt] at ht
    rw [upd_swap nt.symm]
    refine ⟨_, rfl, p, _, dx, _, rfl, upd_same, T.s_River, T.n_River_towns, by simp, ?_⟩
    rw [show putF "towns" (.ref t) [("cloud", .int c), ("gain", .int g), ("basins", .ref b)] = (rivF (.int c) (.int g) (.ref b) (.ref t)) from putF_new (fs := [("cloud", .int c), ("gain", .int g), ("basins", .ref b)]) (show (["cloud", "gain", "basins"] : List Str).contains "towns" = false by decide +kernel), upd_upd]
    have s5 := Same.upd (o := .tup (ts.map V.ref)) ht
    exact k _ b t (s4.trans s5) (s5 _ _ upd_same) upd_same nb nt
end
def wl : List V → List Int → List Int → List Bool
  | v :: vs, l :: ls, h :: hs => wholeB v l h :: wl vs ls hs
  | _, _, _ => []
theorem wl_len : ∀ {vs : List V} {ls hs : List Int}, vs.length = ls.length → ls.length = hs.length → (wl vs ls hs).length = vs.length
  | [], _, _, _, _ => rfl
  | _ :: _, [], _, e, _ => by simp at e
  | _ :: _, _ :: _, [], _, e => by simp at e
  | _ :: vs, _ :: ls, _ :: hs, e1, e2 => by
    show (wl vs ls hs).length + 1 = vs.length + 1
    rw [wl_len (by simpa using e1) (by simpa using e2)]
theorem wl_get : ∀ {vs : List V} {ls hs : List Int} {i : Nat} {v x y : V}, vs[i]? = some v → (ls.map V.int)[i]? = some x → (hs.map V.int)[i]? = some y → ∃ l h, x = .int l ∧ y = .int h ∧ (wl vs ls hs)[i]? = some (wholeB v l h)
  | _ :: _, l :: _, h :: _, 0, v, x, y, e1, e2, e3 => ⟨l, h, by simpa using e2.symm, by simpa using e3.symm, by cases e1; rfl⟩
  | _ :: vs, _ :: ls, _ :: hs, i + 1, v, x, y, e1, e2, e3 => by
    obtain ⟨l, h, a1, a2, a3⟩ := wl_get (vs := vs) (ls := ls) (hs := hs) (i := i) (v := v) (x := x) (y := y) (by simpa using e1) (by simpa using e2) (by simpa using e3)
    exact ⟨l, h, a1, a2, a3⟩
  | [], _, _, _, _, _, _, e, _, _ => by simp at e
  | _ :: _, [], _, _, _, _, _, _, e, _ => by simp at e
  | _ :: _, _ :: _, [], _, _, _, _, _, _, e => by simp at e
def RowT (K : W.Frag) (H : Hp) (x : V) : Option (List V) → Prop
  | some vs => ∃ p, x = .ref p ∧ H p = some (.tup vs) ∧ (∀ v ∈ vs, Tm K H v) ∧ vs.length ≤ 40
  | none => ∃ t, TyX K H x t ∧ W.kitOne K t (.type "tuple") = some false
theorem RowT.same {K : W.Frag} {H H' : Hp} {x : V} (s : Same H H') : ∀ {r : Option (List V)}, RowT K H x r → RowT K H' x r
  | some _, ⟨p, e, h1, h2, h3⟩ => ⟨p, e, s _ _ h1, fun v hv => (h2 v hv).same s, h3⟩
  | none, ⟨t, h1, h2⟩ => ⟨t, tx_same s h1, h2⟩
def rowB : Option (List V) → List Int → List Int → Bool
  | some vs, ls, hs => decide (vs.length = ls.length) && (wl vs ls hs).all id
  | none, _, _ => false
def spRow (K : W.Frag) : Sp := fun vs H Q _ => ∃ (x : V) (r : Option (List V)) (l m : Addr) (ls hs : List Int), vs = [x, .ref l, .ref m] ∧ RowT K H x r ∧ H l = some (.lst (ls.map V.int)) ∧ H m = some (.lst (hs.map V.int)) ∧ ls.length = hs.length ∧ ls.length ≤ 40 ∧ ∀ H', Same H H' → Q (.bl (rowB r ls hs)) H'
def spRowUp (K : W.Frag) : Sp := fun vs H Q _ => ∃ (x : V) (r : Option (List V)) (m : Addr) (hs : List Int), vs = [x, .ref m] ∧ RowT K H x r ∧ H m = some (.lst (hs.map V.int)) ∧ hs.length ≤ 40 ∧ ∀ H', Same H H' → Q (.bl (rowB r (List.replicate hs.length 0) hs)) H'
def pairB : Option (List V) → Bool
  | some vs => decide (vs.length = 2)
  | none => false
def spPair (K : W.Frag) : Sp := fun vs H Q _ => ∃ (x : V) (r : Option (List V)), vs = [x] ∧ (match r with | some vs => ∃ p, x = .ref p ∧ H p = some (.tup vs) | none => ∃ t, TyX K H x t ∧ W.kitOne K t (.type "tuple") = some false) ∧ Q (.bl (pairB r)) H
section
variable {P : Program} {w : World} {K : W.Frag} {mg : Str → Option Value} {base : Heap} {a : Ad}
theorem turn3 {i j k : Nat} {T : Addr} {x y u : V} {σ : L2.St} {H : Hp} {A B : L2.St → Hp → Prop} (hT : SqT K H T [x, y, u]) (h : A (((σ.set i (some x)).set j (some y)).set k (some u)) H) :
    gTup K 3 (gCons (gName i) (gCons (gName j) (gCons (gName k) gNil))) (.ref T) σ H fun σ3 H3 => tYes σ3 H3 fun b H4 => if b = true then A σ3 H4 else B σ3 H4 := by
  refine ⟨T, _, rfl, hT, rfl, _, _, rfl, _, _, rfl, _, _, rfl, rfl, ?_⟩
  show if true = true then A (((σ.set i (some x)).set j (some y)).set k (some u)) H else B (((σ.set i (some x)).set j (some y)).set k (some u)) H
  rw [if_pos rfl]
  exact h
theorem sc_is_row : FnScope ["thing", "lows", "highs"] ["thing", "lows", "highs"] (defScope (top 20)) := ⟨rfl, rfl, rfl, by decide +kernel, rfl, by decide +kernel, by decide +kernel⟩
theorem ok_is_row (T : Tx K mg a) : FnOk P w K mg base CX0 2 a.a_is_row a.d_is_row ["thing", "lows", "highs"] (spRow K) := by
  have G_is_whole := ok_is_whole (P := P) (w := w) (base := base) T
  refine T.f_is_row.fn.ok sc_is_row (fun vs H Q E h => ?_) (fun cdv A outer s H vs Q E hr h => ?_)
  · obtain ⟨x, r, l, m, ls, hs, rfl, _⟩ := h
    rfl
  · obtain ⟨x, r, l, m, ls, hs, rfl, rt, hl, hm, e1, e2, k⟩ := h
    refine ⟨?t, ?B, ?C⟩
    case B =>
      refine' pss_cons ?s1 ?r1
      case s1 =>
       refine' ps_if ?c2 ?a2 ?b2
       case c2 =>
        exact (pw_or (pt_not (pt_val (pe_callB call_isA (by rfl) T.n_isinstance bt_isinstance (pa_cons (pv 0) (pa_cons (pe_bltn (v := .ty "tuple") (by rfl) T.n_tuple bt_tuple rfl) pa_nil))))) (pw_or1 (pt_cmpR op_ne (pe_callB call_len_seq (by rfl) T.n_len bt_len (pa_cons (pv 0) pa_nil)) (pe_callB call_len_seq (by rfl) T.n_len bt_len (pa_cons (pv 1) pa_nil)) (nomark _)))).pt
       case a2 =>
        refine' pss_one ?s3
        case s3 =>
         exact (ps_ret pe_bl)
       case b2 =>
        exact pss_nil
      case r1 =>
       refine' pss_one ?s7
       case s7 =>
        exact (ps_ret (pe_callB (call_all rfl) (by rfl) T.n_all bt_all (pa_cons (pe_comp (N := (["number", "low", "high"] : List Str)) (ini := [none, none, none]) rfl (pi_zip3 true false false (by rfl) T.n_zip (pa_cons (pv 0) (pa_cons (pv 1) (pa_cons (pv 2) pa_nil)))) (fun _ _ _ _ _ => (pg_tupK (K := K) (n := 3) rfl rfl (pgs_cons (pg_name (i := 0) (by decide +kernel : (["number", "low", "high"] : List Str).Nodup) rfl (Or.inl rfl)) (pgs_cons (pg_name (i := 1) (by decide +kernel : (["number", "low", "high"] : List Str).Nodup) rfl (Or.inl rfl)) (pgs_cons (pg_name (i := 2) (by decide +kernel : (["number", "low", "high"] : List Str).Nodup) rfl (Or.inl rfl)) pgs_nil))))) (fun _ _ _ _ _ => pif_nil) (fun _ _ _ _ _ => (pe_callF T.f_is_whole G_is_whole hr (by decide) (pa_cons (pv 0) (pa_cons (pv 1) (pa_cons (pv 2) pa_nil)))))) pa_nil)))
    cases r with
    | none =>
      obtain ⟨t, ty, ek⟩ := rt
      refine ⟨_, rfl, x, _, _, t, _, rfl, rfl, ty, ek, _, rfl, iteT ?_⟩
      refine iteT ?_
      exact k _ (fun _ _ h => h)
    | some vs =>
      obtain ⟨p, rfl, hp, tms, hn⟩ := rt
      refine ⟨_, rfl, _, _, _, .type "tuple", true, rfl, rfl, .of (.tup hp), rfl, _, rfl, iteF ?_⟩
      refine ⟨_, rfl, p, _, rfl, .inr (SqT.of hp), _, rfl, l, _, rfl, .inl (SqL.of hl), rfl, ?_⟩
      by_cases en : vs.length = ls.length
      · refine ⟨_, rfl, ifF (by simp [en]) ?_⟩
        refine ⟨_, rfl, _, rfl, _, rfl, p, l, m, rfl, ⟨_, SqT.of hp⟩, ⟨_, SqL.of hl⟩, ⟨_, SqL.of hm⟩, fun D hD => ?_⟩
        have s0 := Same.upd (o := .lst []) hD
        refine comp_zip3 (K := K) (l1 := p) (l2 := l) (l3 := m) (b1 := true) (b2 := false) (b3 := false) (xs := vs) (ys := ls.map V.int) (us := hs.map V.int) (D := D) (fun i σ H' => (∃ o1 o2 o3, σ = [o1, o2, o3]) ∧ H' D = some (.lst (((wl vs ls hs).take i).map V.bl)) ∧ Same H H') ⟨⟨_, _, _, rfl⟩, upd_same, s0⟩ (fun i σ H' _ ⟨_, _, sm⟩ => ⟨SqT.of (sm _ _ hp), SqL.of (sm _ _ hl), SqL.of (sm _ _ hm)⟩) (by rw [List.length_map]; exact en) (by rw [List.length_map]; omega) ?_ ?_
        · rintro i x y u σ H' Ta hx hy hu ⟨⟨o1, o2, o3, rfl⟩, hDs, sm⟩ hT
          obtain ⟨lo, hi, rfl, rfl, ew⟩ := wl_get hx hy hu
          have sT := Same.upd (o := .tup [x, .int lo, .int hi]) hT
          have hi' : i < vs.length := (List.getElem?_eq_some_iff.mp hx).1
          refine turn3 (SqT.of upd_same) ⟨_, rfl, _, rfl, _, rfl, _, lo, hi, rfl, (tms _ (List.mem_of_getElem? hx)).same (sm.trans sT), _, sT _ _ hDs, ?_, ⟨_, _, _, rfl⟩, ?_, ?_⟩
          · rw [List.length_map, List.length_take]
            exact small2k (by omega)
          · rw [upd_same, List.take_add_one, ew]
            simp
          · intro c o z
            rw [upd_ne (ne_of_none z hD)]
            exact sT _ _ (sm _ _ z)
        rintro σ H1 ⟨_, hDs, sm⟩
        rw [List.take_of_length_le (by rw [wl_len en e1]; omega)] at hDs
        refine ⟨D, _, rfl, SqL.of hDs, ?_⟩
        have e : rowB (some vs) ls hs = (wl vs ls hs).all id := by
          show (decide (vs.length = ls.length) && _) = _
          rw [decide_eq_true en, Bool.true_and]
        rw [← e]
        exact k _ sm
      · refine ⟨_, rfl, ifT (by simp; omega) ?_⟩
        have e : rowB (some vs) ls hs = false := by
          show (decide (vs.length = ls.length) && _) = _
          rw [decide_eq_false en, Bool.false_and]
        rw [e] at k
        exact k _ (fun _ _ h => h)
end
section
variable {P : Program} {w : World} {K : W.Frag} {mg : Str → Option Value} {base : Heap} {a : Ad}
theorem sc_is_row_up_to : FnScope ["thing", "highs"] ["thing", "highs"] (defScope (top 21)) := ⟨rfl, rfl, rfl, by decide +kernel, rfl, by decide +kernel, by decide +kernel⟩
theorem ok_is_row_up_to (T : Tx K mg a) : FnOk P w K mg base CX0 3 a.a_is_row_up_to a.d_is_row_up_to ["thing", "highs"] (spRowUp K) := by
  have G_is_row := ok_is_row (P := P) (w := w) (base := base) T
  refine T.f_is_row_up_to.fn.ok sc_is_row_up_to (fun vs H Q E h => ?_) (fun cdv A outer s H vs Q E hr h => ?_)
  · obtain ⟨x, r, m, hs, rfl, _⟩ := h
    rfl
  · obtain ⟨x, r, m, hs, rfl, rt, hm, e2, k⟩ := h
    refine ⟨?t, ?B, ?C⟩
    case B =>
      refine' pss_one ?s1
      case s1 =>
       exact (ps_ret (pe_callF T.f_is_row G_is_row hr (by decide) (pa_cons (pv 0) (pa_cons (pe_comp (N := (["high"] : List Str)) (ini := [none]) rfl (pi_list (pv 1)) (fun _ _ _ _ _ => (pg_name (i := 0) (by decide +kernel : (["high"] : List Str).Nodup) rfl (Or.inl rfl))) (fun _ _ _ _ _ => pif_nil) (fun _ _ _ _ _ => pe_int)) (pa_cons (pv 1) pa_nil)))))
    refine ⟨_, rfl, _, rfl, m, rfl, ⟨_, SqL.of hm⟩, fun D hD => ?_⟩
    refine comp_listF ((List.replicate hs.length (0 : Int)).map V.int) hD (by simp) (by rw [List.length_map]; omega) hm ?_ ?_
    · intro i x y H' Q' hx hy sm k'
      have e : y = .int 0 := by
        rw [List.map_replicate, List.getElem?_replicate] at hy
        split at hy
        · exact (Option.some.inj hy).symm
        · cases hy
      subst e
      exact k' _ (fun _ _ h => h)
    · intro H' sm hDs
      refine ⟨_, rfl, x, r, D, m, List.replicate hs.length 0, hs, rfl, rt.same sm, hDs, sm _ _ hm, by simp, by simpa using e2, fun H2 s2 => k _ (sm.trans s2)⟩
theorem sc_is_pair : FnScope ["thing"] ["thing"] (defScope (top 22)) := ⟨rfl, rfl, rfl, by decide +kernel, rfl, by decide +kernel, by decide +kernel⟩
theorem ok_is_pair (T : Tx K mg a) : FnOk P w K mg base CX0 1 a.a_is_pair a.d_is_pair ["thing"] (spPair K) := by
  refine T.f_is_pair.fn.ok sc_is_pair (fun vs H Q E h => ?_) (fun cdv A outer s H vs Q E hr h => ?_)
  · obtain ⟨x, r, rfl, _⟩ := h
    rfl
  · obtain ⟨x, r, rfl, rt, k⟩ := h
    refine ⟨?t, ?B, ?C⟩
    case B =>
      refine' pss_one ?s1
      case s1 =>
       exact (ps_ret (pe_and (pe_callB call_isA (by rfl) T.n_isinstance bt_isinstance (pa_cons (pv 0) (pa_cons (pe_bltn (v := .ty "tuple") (by rfl) T.n_tuple bt_tuple rfl) pa_nil))) (pe_one (pe_cmpR op_eq (pe_callB call_len_seq (by rfl) T.n_len bt_len (pa_cons (pv 0) pa_nil)) pe_int (nomark _)))))
    cases r with
    | none =>
      obtain ⟨t, ty, ek⟩ := rt
      refine ⟨_, rfl, x, _, _, t, _, rfl, rfl, ty, ek, _, rfl, ?_⟩
      exact iteF k
    | some vs =>
      obtain ⟨p, rfl, hp⟩ := rt
      refine ⟨_, rfl, _, _, _, .type "tuple", true, rfl, rfl, .of (.tup hp), rfl, _, rfl, iteT ?_⟩
      refine ⟨_, rfl, p, _, rfl, .inr (SqT.of hp), rfl, ?_⟩
      have e : decide (V.int (vs.length : Nat) = V.int 2) = pairB (some vs) := by
        show _ = decide (vs.length = 2)
        by_cases h : vs.length = 2
        · rw [decide_eq_true h, decide_eq_true (by rw [h]; rfl)]
        · rw [decide_eq_false h, decide_eq_false (fun q => h (by have := V.int.inj q; omega))]
      rw [e]
      exact k
end
structure Riv where
  c : Int
  g : Int
  Bs : List Bsn
  Ts : List Twn
def RivAt (K : W.Frag) (a : Ad) (H : Hp) (o : Addr) (R : Riv) : Prop := ∃ (dx b t : Addr) (os ts : List Addr), H o = some (.ins a.c_River dx (rivF (.int R.c) (.int R.g) (.ref b) (.ref t))) ∧ H b = some (.tup (os.map V.ref)) ∧ BasL K a H os R.Bs ∧ H t = some (.tup (ts.map V.ref)) ∧ TwnL a H ts R.Ts ∧ R.Bs.length ≤ 16 ∧ R.Ts.length ≤ 3 ∧ ∀ B ∈ R.Bs, 0 ≤ B.rn ∧ B.rn ≤ 6
theorem RivAt.same {K : W.Frag} {a : Ad} {H H' : Hp} {o : Addr} {R : Riv} (s : Same H H') (h : RivAt K a H o R) : RivAt K a H' o R :=
  let ⟨dx, b, t, os, ts, h1, h2, h3, h4, h5, h6⟩ := h
  ⟨dx, b, t, os, ts, s _ _ h1, s _ _ h2, h3.same s, s _ _ h4, h5.same s, h6⟩
inductive Pr where
  | no
  | oth (vs : List V)
  | two (u w : V) (r : Option (List V))
def PrT (K : W.Frag) (H : Hp) (x : V) : Pr → Prop
  | .no => ∃ t, TyX K H x t ∧ W.kitOne K t (.type "tuple") = some false
  | .oth vs => ∃ p, x = .ref p ∧ H p = some (.tup vs) ∧ vs.length ≠ 2
  | .two u w r => ∃ p, x = .ref p ∧ H p = some (.tup [u, w]) ∧ RowT K H u r ∧ Tm K H w
theorem PrT.same {K : W.Frag} {H H' : Hp} {x : V} (s : Same H H') : ∀ {r : Pr}, PrT K H x r → PrT K H' x r
  | .no, ⟨t, h1, h2⟩ => ⟨t, tx_same s h1, h2⟩
  | .oth _, ⟨p, e, h1, h2⟩ => ⟨p, e, s _ _ h1, h2⟩
  | .two _ _ _, ⟨p, e, h1, h2, h3⟩ => ⟨p, e, s _ _ h1, h2.same s, h3.same s⟩
def stB (R : Riv) : Pr → Bool
  | .two _ w r => wholeB w 0 R.c && rowB r (R.Bs.map (·.lo)) (R.Bs.map (·.hi))
  | _ => false
def townB (n : Nat) : V → Bool
  | .non => true
  | w => wholeB w 0 (n - 1)
def chB (R : Riv) : Pr → Bool
  | .two _ w r => townB R.Ts.length w && rowB r (List.replicate R.Bs.length 0) (R.Bs.map fun B => (B.n : Int) - 1)
  | _ => false
def spStanding (K : W.Frag) (a : Ad) : Sp := fun vs H Q _ => ∃ (o : Addr) (R : Riv) (x : V) (r : Pr), vs = [.ref o, x] ∧ RivAt K a H o R ∧ PrT K H x r ∧ ∀ H', Same H H' → Q (.bl (stB R r)) H'
def spChoice (K : W.Frag) (a : Ad) : Sp := fun vs H Q _ => ∃ (o : Addr) (R : Riv) (x : V) (r : Pr), vs = [.ref o, x] ∧ RivAt K a H o R ∧ PrT K H x r ∧ ∀ H', Same H H' → Q (.bl (chB R r)) H'
section
variable {P : Program} {w : World} {K : W.Frag} {mg : Str → Option Value} {base : Heap} {a : Ad}
theorem sc_is_standing : FnScope ["river", "thing"] ["river", "thing"] (defScope (top 23)) := ⟨rfl, rfl, rfl, by decide +kernel, rfl, by decide +kernel, by decide +kernel⟩
theorem ok_is_standing (T : Tx K mg a) : FnOk P w K mg base CX0 3 a.a_is_standing a.d_is_standing ["river", "thing"] (spStanding K a) := by
  have G_is_row := ok_is_row (P := P) (w := w) (base := base) T
  have G_is_pair := ok_is_pair (P := P) (w := w) (base := base) T
  have G_is_whole := ok_is_whole (P := P) (w := w) (base := base) T
  refine T.f_is_standing.fn.ok sc_is_standing (fun vs H Q E h => ?_) (fun cdv A outer s H vs Q E hr h => ?_)
  · obtain ⟨o, R, x, r, rfl, _⟩ := h
    rfl
  · obtain ⟨o, R, x, r, rfl, ro, rx, k⟩ := h
    refine ⟨?t, ?B, ?C⟩
    case B =>
      refine' pss_cons ?s1 ?r1
      case s1 =>
       refine' ps_if ?c2 ?a2 ?b2
       case c2 =>
        exact (pw_or (pt_not (pt_val (pe_callF T.f_is_pair G_is_pair hr (by decide) (pa_cons (pv 1) pa_nil)))) (pw_or1 (pt_not (pt_val (pe_callF T.f_is_whole G_is_whole hr (by decide) (pa_cons (pe_ix ix_tup (pv 1) pe_int (fun _ _ => rfl)) (pa_cons pe_int (pa_cons (pe_fld (pv 0) (by rfl)) pa_nil)))))))).pt
       case a2 =>
        refine' pss_one ?s3
        case s3 =>
         exact (ps_ret pe_bl)
       case b2 =>
        exact pss_nil
      case r1 =>
       refine' pss_one ?s7
       case s7 =>
        exact (ps_ret (pe_callF T.f_is_row G_is_row hr (by decide) (pa_cons (pe_ix ix_tup (pv 1) pe_int (fun _ _ => rfl)) (pa_cons (pe_comp (N := (["basin"] : List Str)) (ini := [none]) rfl (pi_tup (pe_fld (pv 0) (by rfl))) (fun _ _ _ _ _ => (pg_name (i := 0) (by decide +kernel : (["basin"] : List Str).Nodup) rfl (Or.inl rfl))) (fun _ _ _ _ _ => pif_nil) (fun _ _ _ _ _ => (pe_fldK (K := K) rfl (pv 0) (by rfl)))) (pa_cons (pe_comp (N := (["basin"] : List Str)) (ini := [none]) rfl (pi_tup (pe_fld (pv 0) (by rfl))) (fun _ _ _ _ _ => (pg_name (i := 0) (by decide +kernel : (["basin"] : List Str).Nodup) rfl (Or.inl rfl))) (fun _ _ _ _ _ => pif_nil) (fun _ _ _ _ _ => (pe_fldK (K := K) rfl (pv 0) (by rfl)))) pa_nil)))))
    cases r with
    | no =>
      refine ⟨_, rfl, x, none, rfl, rx, _, rfl, iteT ?_⟩
      exact iteT (k _ fun _ _ h => h)
    | oth vs =>
      obtain ⟨p, rfl, hp, ne⟩ := rx
      refine ⟨_, rfl, _, some vs, rfl, ⟨p, rfl, hp⟩, _, rfl, ifT (by rw [show pairB (some vs) = false from decide_eq_false ne]; rfl) ?_⟩
      exact iteT (k _ fun _ _ h => h)
    | two u y r =>
      obtain ⟨p, rfl, hp, rt, ty⟩ := rx
      obtain ⟨dx, b, t, os, ts, ho, hb, bl, ht, tl, n1, n2, n3⟩ := ro
      refine ⟨_, rfl, _, some [u, y], rfl, ⟨p, rfl, hp⟩, _, rfl, iteF ?_⟩
      refine ⟨_, rfl, p, _, 1, y, rfl, rfl, SqT.of hp, rfl, _, rfl, o, _, dx, _, _, rfl, ho, T.s_River, T.n_River_cloud, rfl, y, 0, R.c, rfl, ty, _, rfl, ?_⟩
      cases ew : wholeB y 0 R.c with
      | false =>
        have e : stB R (.two u y r) = false := by
          show (wholeB y 0 R.c && _) = false
          rw [ew, Bool.false_and]
        rw [e] at k
        exact iteT (k _ fun _ _ h => h)
      | true =>
        have e : stB R (.two u y r) = rowB r (R.Bs.map (·.lo)) (R.Bs.map (·.hi)) := by
          show (wholeB y 0 R.c && _) = _
          rw [ew, Bool.true_and]
        rw [e] at k
        have len := bl.len
        refine iteF ⟨_, rfl, p, _, 0, u, rfl, rfl, SqT.of hp, rfl, ?_⟩
        refine ⟨_, rfl, o, _, dx, _, _, rfl, ho, T.s_River, T.n_River_basins, rfl, b, rfl, ⟨_, SqT.of hb⟩, fun D hD => ?_⟩
        refine comp_tupF ((R.Bs.map (·.lo)).map V.int) hD (by simp [len]) (by rw [List.length_map]; omega) hb ?_ ?_
        · intro i x y H' Q' hx hy sm k'
          obtain ⟨ob, B, rfl, hB, dx, hb, gs⟩ := (bl.same sm).get hx
          rw [List.getElem?_map, List.getElem?_map, hB] at hy
          cases hy
          exact ⟨_, rfl, ob, _, dx, _, _, rfl, hb, T.s_Basin, T.n_Basin_low, rfl, k' _ fun _ _ h => h⟩
        intro H1 s1 hD1
        refine ⟨_, rfl, o, _, dx, _, _, rfl, s1 _ _ ho, T.s_River, T.n_River_basins, rfl, b, rfl, ⟨_, SqT.of (s1 _ _ hb)⟩, fun D2 hD2 => ?_⟩
        refine comp_tupF ((R.Bs.map (·.hi)).map V.int) hD2 (by simp [len]) (by rw [List.length_map]; omega) (s1 _ _ hb) ?_ ?_
        · intro i x y H' Q' hx hy sm k'
          obtain ⟨ob, B, rfl, hB, dx, hb, gs⟩ := (bl.same (s1.trans sm)).get hx
          rw [List.getElem?_map, List.getElem?_map, hB] at hy
          cases hy
          exact ⟨_, rfl, ob, _, dx, _, _, rfl, hb, T.s_Basin, T.n_Basin_high, rfl, k' _ fun _ _ h => h⟩
        intro H2 s2 hD3
        exact ⟨u, r, D, D2, _, _, rfl, rt.same (s1.trans s2), s2 _ _ hD1, hD3, by simp, by rw [List.length_map]; omega, fun H3 s3 => k _ ((s1.trans s2).trans s3)⟩
end
section
variable {P : Program} {w : World} {K : W.Frag} {mg : Str → Option Value} {base : Heap} {a : Ad}
theorem sc_is_choice : FnScope ["river", "thing"] ["river", "thing"] (defScope (top 24)) := ⟨rfl, rfl, rfl, by decide +kernel, rfl, by decide +kernel, by decide +kernel⟩
theorem ok_is_choice (T : Tx K mg a) : FnOk P w K mg base CX0 4 a.a_is_choice a.d_is_choice ["river", "thing"] (spChoice K a) := by
  have G_is_row_up_to := ok_is_row_up_to (P := P) (w := w) (base := base) T
  have G_is_pair := ok_is_pair (P := P) (w := w) (base := base) T
  have G_is_whole := ok_is_whole (P := P) (w := w) (base := base) T
  refine T.f_is_choice.fn.ok sc_is_choice (fun vs H Q E h => ?_) (fun cdv A outer s H vs Q E hr h => ?_)
  · obtain ⟨o, R, x, r, rfl, _⟩ := h
    rfl
  · obtain ⟨o, R, x, r, rfl, ro, rx, k⟩ := h
    refine ⟨?t, ?B, ?C⟩
    case B =>
      refine' pss_cons ?s1 ?r1
      case s1 =>
       refine' ps_if ?c2 ?a2 ?b2
       case c2 =>
        exact (pt_not (pt_val (pe_callF T.f_is_pair G_is_pair hr (by decide) (pa_cons (pv 1) pa_nil))))
       case a2 =>
        refine' pss_one ?s3
        case s3 =>
         exact (ps_ret pe_bl)
       case b2 =>
        exact pss_nil
      case r1 =>
       refine' pss_cons ?s7 ?r7
       case s7 =>
        refine' ps_if ?c8 ?a8 ?b8
        case c8 =>
         exact (pw_and (pt_cmpR op_notN (pe_ix ix_tup (pv 1) pe_int (fun _ _ => rfl)) pe_non (nomark _)) (pw_and1 (pt_not (pt_val (pe_callF T.f_is_whole G_is_whole hr (by decide) (pa_cons (pe_ix ix_tup (pv 1) pe_int (fun _ _ => rfl)) (pa_cons pe_int (pa_cons (pe_op op_sub (pe_callB call_len_seq (by rfl) T.n_len bt_len (pa_cons (pe_fld (pv 0) (by rfl)) pa_nil)) pe_int) pa_nil)))))))).pt
        case a8 =>
         refine' pss_one ?s9
         case s9 =>
          exact (ps_ret pe_bl)
        case b8 =>
         exact pss_nil
       case r7 =>
        refine' pss_one ?s13
        case s13 =>
         exact (ps_ret (pe_callF T.f_is_row_up_to G_is_row_up_to hr (by decide) (pa_cons (pe_ix ix_tup (pv 1) pe_int (fun _ _ => rfl)) (pa_cons (pe_comp (N := (["basin"] : List Str)) (ini := [none]) rfl (pi_tup (pe_fld (pv 0) (by rfl))) (fun _ _ _ _ _ => (pg_name (i := 0) (by decide +kernel : (["basin"] : List Str).Nodup) rfl (Or.inl rfl))) (fun _ _ _ _ _ => pif_nil) (fun _ _ _ _ _ => (pe_op op_sub (pe_methD0K (P := P) (w := w) (K := K) (mg := mg) (base := base) rfl rfl rfl rfl rfl (pe_fldK (K := K) rfl (pv 0) (by rfl)) hr) pe_int))) pa_nil))))
    cases r with
    | no =>
      refine ⟨_, rfl, x, none, rfl, rx, _, rfl, iteT ?_⟩
      exact k _ fun _ _ h => h
    | oth vs =>
      obtain ⟨p, rfl, hp, ne⟩ := rx
      refine ⟨_, rfl, _, some vs, rfl, ⟨p, rfl, hp⟩, _, rfl, ifT (by rw [show pairB (some vs) = false from decide_eq_false ne]; rfl) ?_⟩
      exact k _ fun _ _ h => h
    | two u y r =>
      obtain ⟨p, rfl, hp, rt, ty⟩ := rx
      obtain ⟨dx, b, t, os, ts, ho, hb, bl, ht, tl, n1, n2, n3⟩ := ro
      refine ⟨_, rfl, _, some [u, y], rfl, ⟨p, rfl, hp⟩, _, rfl, iteF ?_⟩
      refine ⟨_, rfl, p, _, 1, y, rfl, rfl, SqT.of hp, rfl, ?_⟩
      have len := bl.len
      have tlen := tl.len
      by_cases hy : y = .non
      · have et : townB R.Ts.length y = true := by rw [hy]; rfl
        refine ⟨rfl, _, rfl, ifF (by rw [decide_eq_true hy]; rfl) ?_⟩
        refine iteF ?_
        have e : chB R (.two u y r) = rowB r (List.replicate R.Bs.length 0) (R.Bs.map fun B => (B.n : Int) - 1) := by
          show (townB R.Ts.length y && _) = _
          rw [et, Bool.true_and]
        rw [e] at k
        refine ⟨_, rfl, p, _, 0, u, rfl, rfl, SqT.of hp, rfl, ?_⟩
        refine ⟨_, rfl, o, _, dx, _, _, rfl, ho, T.s_River, T.n_River_basins, rfl, b, rfl, ⟨_, SqT.of hb⟩, fun D hD => ?_⟩
        refine comp_tupF ((R.Bs.map fun B => (B.n : Int) - 1).map V.int) hD (by simp [len]) (by rw [List.length_map]; omega) hb ?_ ?_
        · intro i x y H' Q' hx hy sm k'
          obtain ⟨ob, B, rfl, hB, dx, hb, gs⟩ := (bl.same sm).get hx
          rw [List.getElem?_map, List.getElem?_map, hB] at hy
          cases hy
          exact ⟨_, rfl, ob, _, dx, _, _, rfl, hb, T.s_Basin, T.n_Basin_gate, rfl, settings_read T gs ⟨_, _, rfl, rfl, k' _ fun _ _ h => h⟩ (by decide)⟩
        intro H1 s1 hD1
        exact ⟨u, r, D, _, rfl, rt.same s1, hD1, by rw [List.length_map]; omega, fun H3 s3 => by rw [List.length_map]; exact k _ (s1.trans s3)⟩
      · refine ⟨rfl, _, rfl, ifT (by rw [decide_eq_false hy]; rfl) ?_⟩
        have eT : townB R.Ts.length y = wholeB y 0 ((R.Ts.length : Int) - 1) := by
          cases y <;> first | rfl | exact absurd rfl hy
        refine ⟨_, rfl, p, _, 1, y, rfl, rfl, SqT.of hp, rfl, ?_⟩
        refine ⟨_, rfl, o, _, dx, _, _, rfl, ho, T.s_River, T.n_River_towns, rfl, t, _, rfl, .inr (SqT.of ht), _, _, rfl, rfl, y, 0, (R.Ts.length : Int) - 1, by rw [List.length_map, tlen]; rfl, ty, _, rfl, ?_⟩
        cases ew : wholeB y 0 ((R.Ts.length : Int) - 1) with
        | false =>
          have e : chB R (.two u y r) = false := by
            show (townB R.Ts.length y && _) = false
            rw [eT, ew, Bool.false_and]
          rw [e] at k
          exact iteT (k _ fun _ _ h => h)
        | true =>
          have et := eT.trans ew
          refine iteF ?_
          have e : chB R (.two u y r) = rowB r (List.replicate R.Bs.length 0) (R.Bs.map fun B => (B.n : Int) - 1) := by
            show (townB R.Ts.length y && _) = _
            rw [et, Bool.true_and]
          rw [e] at k
          refine ⟨_, rfl, p, _, 0, u, rfl, rfl, SqT.of hp, rfl, ?_⟩
          refine ⟨_, rfl, o, _, dx, _, _, rfl, ho, T.s_River, T.n_River_basins, rfl, b, rfl, ⟨_, SqT.of hb⟩, fun D hD => ?_⟩
          refine comp_tupF ((R.Bs.map fun B => (B.n : Int) - 1).map V.int) hD (by simp [len]) (by rw [List.length_map]; omega) hb ?_ ?_
          · intro i x y H' Q' hx hy sm k'
            obtain ⟨ob, B, rfl, hB, dx, hb, gs⟩ := (bl.same sm).get hx
            rw [List.getElem?_map, List.getElem?_map, hB] at hy
            cases hy
            exact ⟨_, rfl, ob, _, dx, _, _, rfl, hb, T.s_Basin, T.n_Basin_gate, rfl, settings_read T gs ⟨_, _, rfl, rfl, k' _ fun _ _ h => h⟩ (by decide)⟩
          intro H1 s1 hD1
          exact ⟨u, r, D, _, rfl, rt.same s1, hD1, by rw [List.length_map]; omega, fun H3 s3 => by rw [List.length_map]; exact k _ (s1.trans s3)⟩
end
def forced (R : Riv) (wet : Int) : Int :=
  if (R.Bs.map (·.rn)).sum < (if 0 > wet + R.g - R.c then 0 else wet + R.g - R.c) then (R.Bs.map (·.rn)).sum else (if 0 > wet + R.g - R.c then 0 else wet + R.g - R.c)
def spForced (K : W.Frag) (a : Ad) : Sp := fun vs H Q _ => ∃ (o : Addr) (R : Riv) (wet : Int), vs = [.ref o, .int wet] ∧ RivAt K a H o R ∧ ∀ H', Same H H' → Q (.int (forced R wet)) H'
theorem sml_rains {Bs : List Bsn} (n1 : Bs.length ≤ 16) (n3 : ∀ B ∈ Bs, 0 ≤ B.rn ∧ B.rn ≤ 6) : Sml (Bs.map (·.rn)) := by
  refine ⟨by rw [List.length_map]; omega, fun n hn => ?_⟩
  obtain ⟨B, hB, rfl⟩ := List.mem_map.mp hn
  have := n3 B hB
  omega
def intOf : V → Int
  | .int i => i
  | _ => 0
def wetOf : Pr → Int
  | .two _ w _ => intOf w
  | _ => 0
def sumV (vs : List V) : Int := (vs.map intOf).sum
def rnB (R : Riv) (wet : Int) : Option (List V) → Bool
  | some vs => rowB (some vs) (List.replicate R.Bs.length 0) (R.Bs.map (·.rn)) && (decide (forced R wet ≤ sumV vs) && decide (sumV vs ≤ wet))
  | none => false
def spRain (K : W.Frag) (a : Ad) : Sp := fun vs H Q E => ∃ (o : Addr) (R : Riv) (z : V) (q : Pr) (x : V) (r : Option (List V)), vs = [.ref o, z, x] ∧ RivAt K a H o R ∧ PrT K H z q ∧ RowT K H x r ∧
  (if stB R q = true then ∀ H', Same H H' → Q (.bl (rnB R (wetOf q) r)) H' else ∀ c eo H', RfC a.c_NoStanding H H' z c eo → E c eo H')
theorem st_wet {R : Riv} {q : Pr} (h : stB R q = true) : ∃ u wt rr, q = .two u (.int wt) rr ∧ (0 ≤ wt ∧ wt ≤ R.c) := by
  cases q with
  | no => cases h
  | oth vs => cases h
  | two u w r =>
    have h1 : wholeB w 0 R.c = true := by
      cases e : wholeB w 0 R.c with
      | true => rfl
      | false =>
        have : (wholeB w 0 R.c && rowB r (R.Bs.map (·.lo)) (R.Bs.map (·.hi))) = true := h
        rw [e, Bool.false_and] at this
        exact this
    obtain ⟨i, rfl⟩ := whole_int h1
    refine ⟨u, i, r, rfl, ?_⟩
    have h2 : (decide (0 ≤ i) && decide (i ≤ R.c)) = true := h1
    simpa using h2
theorem wl_ints : ∀ {vs : List V} {n : Nat} {hs : List Int}, vs.length = n → n = hs.length → (wl vs (List.replicate n 0) hs).all id = true → ∃ ns : List Int, vs = ns.map V.int ∧ ns.length = n ∧ ∀ k ∈ ns, 0 ≤ k ∧ ∃ h ∈ hs, k ≤ h
  | [], _, _, e, _, _ => ⟨[], rfl, e, fun _ h => nomatch h⟩
  | _ :: _, 0, _, e, _, _ => by simp at e
  | _ :: _, _ + 1, [], _, e, _ => by simp at e
  | v :: vs, n + 1, h :: hs, e1, e2, a => by
    have a' : (wholeB v 0 h && (wl vs (List.replicate n 0) hs).all id) = true := a
    rw [Bool.and_eq_true] at a'
    obtain ⟨ns, rfl, l, q⟩ := wl_ints (vs := vs) (n := n) (hs := hs) (by simpa using e1) (by simpa using e2) a'.2
    obtain ⟨i, rfl⟩ := whole_int a'.1
    have h2 : (decide (0 ≤ i) && decide (i ≤ h)) = true := a'.1
    have h3 : 0 ≤ i ∧ i ≤ h := by simpa using h2
    refine ⟨i :: ns, rfl, by rw [List.length_cons, l], fun k hk => ?_⟩
    rcases List.mem_cons.mp hk with rfl | hk
    · exact ⟨h3.1, h, List.mem_cons_self .., h3.2⟩
    · obtain ⟨g1, x, hx, g2⟩ := q k hk
      exact ⟨g1, x, List.mem_cons_of_mem _ hx, g2⟩
theorem row_ints {R : Riv} {r : Option (List V)} (h : rowB r (List.replicate R.Bs.length 0) (R.Bs.map (·.rn)) = true) (n1 : R.Bs.length ≤ 16) (n3 : ∀ B ∈ R.Bs, 0 ≤ B.rn ∧ B.rn ≤ 6) : ∃ (vs : List V) (ns : List Int), r = some vs ∧ vs = ns.map V.int ∧ Sml ns := by
  cases r with
  | none => cases h
  | some vs =>
    have h' : (decide (vs.length = (List.replicate R.Bs.length (0 : Int)).length) && (wl vs (List.replicate R.Bs.length 0) (R.Bs.map (·.rn))).all id) = true := h
    rw [Bool.and_eq_true] at h'
    have e1 : vs.length = R.Bs.length := by simpa using h'.1
    obtain ⟨ns, rfl, l, q⟩ := wl_ints e1 (by simp) h'.2
    refine ⟨_, ns, rfl, rfl, by omega, fun n hn => ?_⟩
    obtain ⟨g1, x, hx, g2⟩ := q n hn
    obtain ⟨B, hB, rfl⟩ := List.mem_map.mp hx
    have := n3 B hB
    omega
theorem sumV_ints (ns : List Int) : sumV (ns.map V.int) = ns.sum := by
  show ((ns.map V.int).map intOf).sum = _
  rw [List.map_map]
  congr 1
  exact (List.map_congr_left fun _ _ => rfl).trans (List.map_id _)
section
variable {P : Program} {w : World} {K : W.Frag} {mg : Str → Option Value} {base : Heap} {a : Ad}
theorem sc_forced_rain : FnScope ["river", "wet", "too_many"] ["river", "wet"] (defScope (top 25)) := ⟨rfl, rfl, rfl, by decide +kernel, rfl, by decide +kernel, by decide +kernel⟩
theorem ok_forced_rain (T : Tx K mg a) : FnOk P w K mg base CX0 1 a.a_forced_rain a.d_forced_rain ["river", "wet"] (spForced K a) := by
  refine T.f_forced_rain.fn.ok sc_forced_rain (fun vs H Q E h => ?_) (fun cdv A outer s H vs Q E hr h => ?_)
  · obtain ⟨o, R, wet, rfl, _⟩ := h
    rfl
  · obtain ⟨o, R, wet, rfl, ro, k⟩ := h
    refine ⟨?t, ?B, ?C⟩
    case B =>
      refine' pss_cons ?s1 ?r1
      case s1 =>
       exact (ps_set (i := 2) sc_forced_rain.nd rfl (Or.inl rfl) (pe_callB (call_max2 rfl) (by rfl) T.n_max bt_max (pa_cons (pe_op op_sub (pe_op op_add (pv 1) (pe_fld (pv 0) (by rfl))) (pe_fld (pv 0) (by rfl))) (pa_cons pe_int pa_nil))))
      case r1 =>
       refine' pss_one ?s3
       case s3 =>
        exact (ps_ret (pe_callB (call_min2 rfl) (by rfl) T.n_min bt_min (pa_cons (pv 2) (pa_cons (pe_callB (call_sum rfl) (by rfl) T.n_sum bt_sum (pa_cons (pe_comp (N := (["basin"] : List Str)) (ini := [none]) rfl (pi_tup (pe_fld (pv 0) (by rfl))) (fun _ _ _ _ _ => (pg_name (i := 0) (by decide +kernel : (["basin"] : List Str).Nodup) rfl (Or.inl rfl))) (fun _ _ _ _ _ => pif_nil) (fun _ _ _ _ _ => (pe_fldK (K := K) rfl (pv 0) (by rfl)))) pa_nil)) pa_nil))))
    obtain ⟨dx, b, t, os, ts, ho, hb, bl, ht, tl, n1, n2, n3⟩ := ro
    have len := bl.len
    refine ⟨_, rfl, _, rfl, o, _, dx, _, _, rfl, ho, T.s_River, T.n_River_gain, rfl, _, _, rfl, rfl, ?_⟩
    refine ⟨_, rfl, o, _, dx, _, _, rfl, ho, T.s_River, T.n_River_cloud, rfl, _, _, rfl, rfl, _, _, rfl, ?_⟩
    refine ⟨_, rfl, _, rfl, o, _, dx, _, _, rfl, ho, T.s_River, T.n_River_basins, rfl, b, rfl, ⟨_, SqT.of hb⟩, fun D hD => ?_⟩
    refine comp_tupF ((R.Bs.map (·.rn)).map V.int) hD (by simp [len]) (by rw [List.length_map]; omega) hb ?_ ?_
    · intro i x y H' Q' hx hy sm k'
      obtain ⟨ob, B, rfl, hB, dx, hb, gs⟩ := (bl.same sm).get hx
      rw [List.getElem?_map, List.getElem?_map, hB] at hy
      cases hy
      exact ⟨_, rfl, ob, _, dx, _, _, rfl, hb, T.s_Basin, T.n_Basin_rain, rfl, k' _ fun _ _ h => h⟩
    intro H1 s1 hD1
    exact ⟨D, _, rfl, .inl (SqL.of hD1), sml_rains n1 n3, _, _, rfl, k _ s1⟩
theorem sc_NoStanding___init__ : FnScope ["self", "thing"] ["self", "thing"] (defScope (inClass (top 9) 0)) := ⟨rfl, rfl, rfl, by decide +kernel, rfl, by decide +kernel, by decide +kernel⟩
theorem ok_NoStanding_init (T : Tx K mg a) : FnOk P w K mg base CX0 1 a.a_NoStanding___init__ a.d_NoStanding___init__ ["self", "thing"] (spIni1 K "thing") := by
  refine T.f_NoStanding___init__.fn.ok sc_NoStanding___init__ (fun vs H Q E h => ?_) (fun cdv A outer s H vs Q E hr h => ?_)
  · obtain ⟨e, C, W, fI, y, rfl, _⟩ := h
    rfl
  · obtain ⟨e, C, W, fI, y, rfl, q, c, n, k⟩ := h
    refine ⟨_, (pss_one (ps_fldN (pv 0) (pv 1) rfl)), ?_⟩
    exact ⟨_, rfl, _, rfl, e, C, W, fI, true, rfl, q, c, n, k⟩
theorem sc_is_rain : FnScope ["river", "standing", "thing"] ["river", "standing", "thing"] (defScope (top 26)) := ⟨rfl, rfl, rfl, by decide +kernel, rfl, by decide +kernel, by decide +kernel⟩
theorem ok_is_rain (T : Tx K mg a) : FnOk P w K mg base (CXX P w) 4 a.a_is_rain a.d_is_rain ["river", "standing", "thing"] (spRain K a) := by
  have G_is_row_up_to := ok_is_row_up_to (P := P) (w := w) (base := base) T
  have G_is_standing := ok_is_standing (P := P) (w := w) (base := base) T
  have G_forced_rain := ok_forced_rain (P := P) (w := w) (base := base) T
  have G_NoStanding___init__ := ok_NoStanding_init (P := P) (w := w) (base := base) T
  refine T.f_is_rain.fn.okX sc_is_rain (fun vs H Q E h => ?_) (fun cdv A outer s H vs Q E hr h => ?_)
  · obtain ⟨o, R, z, q, x, r, rfl, _⟩ := h
    rfl
  · obtain ⟨o, R, z, q, x, r, rfl, ro, pz, rx, k⟩ := h
    refine ⟨?t, ?B, ?C⟩
    case B =>
      refine' pss_cons ?s1 ?r1
      case s1 =>
       refine' ps_if ?c2 ?a2 ?b2
       case c2 =>
        exact (pt_not (pt_val (pe_callF T.f_is_standing G_is_standing hr (by decide) (pa_cons (pv 0) (pa_cons (pv 1) pa_nil)))))
       case a2 =>
        refine' pss_one ?s3
        case s3 =>
         exact (ps_raise xw_def rfl (pe_exc T.x_NoStanding G_NoStanding___init__ hr (by decide) T.f_NoStanding___init__.bd T.m_NoStanding (pa_cons (pv 1) pa_nil)))
       case b2 =>
        exact pss_nil
      case r1 =>
       refine' pss_cons ?s6 ?r6
       case s6 =>
        refine' ps_if ?c7 ?a7 ?b7
        case c7 =>
         exact (pt_not (pt_val (pe_callF T.f_is_row_up_to G_is_row_up_to hr (by decide) (pa_cons (pv 2) (pa_cons (pe_comp (N := (["basin"] : List Str)) (ini := [none]) rfl (pi_tup (pe_fld (pv 0) (by rfl))) (fun _ _ _ _ _ => (pg_name (i := 0) (by decide +kernel : (["basin"] : List Str).Nodup) rfl (Or.inl rfl))) (fun _ _ _ _ _ => pif_nil) (fun _ _ _ _ _ => (pe_fldK (K := K) rfl (pv 0) (by rfl)))) pa_nil)))))
        case a7 =>
         refine' pss_one ?s8
         case s8 =>
          exact (ps_ret pe_bl)
        case b7 =>
         exact pss_nil
       case r6 =>
        refine' pss_one ?s12
        case s12 =>
         exact (ps_ret (pe_chain op_le op_le (pe_callF T.f_forced_rain G_forced_rain hr (by decide) (pa_cons (pv 0) (pa_cons (pe_ix ix_tup (pv 1) pe_int (fun _ _ => rfl)) pa_nil))) (pe_callB (call_sum rfl) (by rfl) T.n_sum bt_sum (pa_cons (pv 2) pa_nil)) (pe_ix ix_tup (pv 1) pe_int (fun _ _ => rfl))))
    refine ⟨_, rfl, _, rfl, o, R, z, q, rfl, ro, pz, fun H1 s1 => ⟨_, rfl, ?_⟩⟩
    cases es : stB R q with
    | false =>
      rw [es] at k
      exact iteT (rd_raise T.x_NoStanding T.n_NoStanding_thing rfl fun e dx h1 h2 h3 => k _ _ _ ((RfC.new h1 h2 h3).of s1))
    | true =>
      rw [if_pos es] at k
      obtain ⟨u, wt, rr, rfl, ew⟩ : ∃ u wt rr, q = .two u (.int wt) rr ∧ (0 ≤ wt ∧ wt ≤ R.c) := st_wet es
      obtain ⟨p, rfl, hp, _, _⟩ := pz
      obtain ⟨dx, b, t, os, ts, ho, hb, bl, ht, tl, n1, n2, n3⟩ := ro.same s1
      have len := bl.len
      refine iteF ⟨_, rfl, _, rfl, o, _, dx, _, _, rfl, ho, T.s_River, T.n_River_basins, rfl, b, rfl, ⟨_, SqT.of hb⟩, fun D hD => ?_⟩
      refine comp_tupF ((R.Bs.map (·.rn)).map V.int) hD (by simp [len]) (by rw [List.length_map]; omega) hb ?_ ?_
      · intro i x y H' Q' hx hy sm k'
        obtain ⟨ob, B, rfl, hB, dx, hb, gs⟩ := (bl.same sm).get hx
        rw [List.getElem?_map, List.getElem?_map, hB] at hy
        cases hy
        exact ⟨_, rfl, ob, _, dx, _, _, rfl, hb, T.s_Basin, T.n_Basin_rain, rfl, k' _ fun _ _ h => h⟩
      intro H2 s2 hD1
      refine ⟨x, r, D, _, rfl, rx.same (s1.trans s2), hD1, by rw [List.length_map]; omega, fun H3 s3 => ⟨_, rfl, ?_⟩⟩
      rw [List.length_map]
      have s13 := (s1.trans s2).trans s3
      cases er : rowB r (List.replicate R.Bs.length 0) (R.Bs.map (·.rn)) with
      | false =>
        have e : rnB R (wetOf (.two u (.int wt) rr)) r = false := by
          cases r with
          | none => rfl
          | some vs =>
            show (rowB (some vs) _ _ && _) = false
            rw [er, Bool.false_and]
        rw [e] at k
        exact iteT (k _ s13)
      | true =>
        obtain ⟨vs, ns, rfl, rfl, hns⟩ := row_ints er n1 n3
        obtain ⟨px, rfl, hpx, _, _⟩ := rx
        refine iteF ⟨_, rfl, _, rfl, p, _, 1, _, rfl, rfl, SqT.of (s13 _ _ hp), rfl, o, R, wt, rfl, ro.same s13, fun H4 s4 => ?_⟩
        have s14 := s13.trans s4
        refine ⟨_, rfl, px, ns, rfl, .inr (SqT.of (s14 _ _ hpx)), hns, ?_⟩
        have e : rnB R (wetOf (.two u (.int wt) rr)) (some (ns.map V.int)) = (decide (forced R wt ≤ ns.sum) && decide (ns.sum ≤ wt)) := by
          show (rowB (some (ns.map V.int)) _ _ && (decide (forced R wt ≤ sumV (ns.map V.int)) && decide (sumV (ns.map V.int) ≤ wt))) = _
          rw [er, Bool.true_and, sumV_ints]
        rw [e] at k
        refine ⟨_, _, rfl, rfl, _, rfl, ?_⟩
        cases ef : decide (forced R wt ≤ ns.sum) with
        | false =>
          rw [ef, Bool.false_and] at k
          exact iteF (k _ s14)
        | true =>
          rw [ef, Bool.true_and] at k
          exact iteT ⟨_, rfl, p, _, 1, _, rfl, rfl, SqT.of (s14 _ _ hp), rfl, _, _, rfl, rfl, k _ s14⟩
end
structure Ltr (n : Nat) (z : Str) : Prop where
  len : z.length ≤ n
  inn : ∀ c ∈ z.cps.toList, c ∈ LET.cps.toList
theorem Ltr.app {n m : Nat} {x y : Str} (a : Ltr n x) (b : Ltr m y) : Ltr (n + m) (x ++ y) := by
  refine ⟨by rw [Str.length_append]; have := a.len; have := b.len; omega, fun c hc => ?_⟩
  have e : (x ++ y).cps = x.cps ++ y.cps := rfl
  rw [e, Array.toList_append, List.mem_append] at hc
  exact hc.elim (a.inn c) (b.inn c)
theorem Ltr.wd {n : Nat} {z : Str} (a : Ltr n z) : Wd n z := ⟨a.len, fun c hc => wd_let.low c (a.inn c hc)⟩
theorem Ltr.sign {c : Nat} (h : c ∈ LET.cps.toList) : Ltr 1 (⟨#[c]⟩ : Str) := ⟨Nat.le_refl 1, fun d hd => by
  have : d = c := by simpa using hd
  rw [this]; exact h⟩
theorem join_ltr (ys : List Str) (h : ∀ y ∈ ys, Ltr 1 y) : Ltr ys.length (Txt.join ("" : Str) ys) := by
  have e0 : ∀ l : List Str, (∀ y ∈ l, Ltr 1 y) → Ltr l.length (Str.join ("" : Str) l) := by
    intro l
    induction l with
    | nil => intro _; exact ⟨Nat.le_refl _, fun c hc => by simp [Str.join, Str.empty] at hc⟩
    | cons y r ih =>
      intro hy
      have hr := ih fun z hz => hy z (List.mem_cons_of_mem _ hz)
      have h1 := hy y List.mem_cons_self
      cases r with
      | nil => exact h1
      | cons z r' =>
        have : Str.join ("" : Str) (y :: z :: r') = y ++ ("" : Str) ++ Str.join ("" : Str) (z :: r') := rfl
        rw [this]
        have hE : Ltr 0 ("" : Str) := ⟨by decide +kernel, fun c hc => absurd hc (by
          have : ("" : Str).cps.toList = [] := by decide +kernel
          rw [this]; simp)⟩
        have q := (h1.app hE).app hr
        exact ⟨Nat.le_trans q.len (by simp only [List.length_cons]; omega), q.inn⟩
  have e1 : Txt.join ("" : Str) ys = Str.join ("" : Str) ys := by
    have := join_plain_closes ("" : Str) ys
    exact beq_iff_eq.mp this
  rw [e1]
  exact e0 ys h
def NmK (f : Int) (k : Nat) (z : Str) : Prop := ∃ (c : Nat) (s : Str), z = (⟨#[c]⟩ : Str) ++ s ∧ Ltr 7 s ∧ atI LET.cps.toList ((f + 11 * (k : Int)) % 26) = some c
theorem NmK.mem {f : Int} {k : Nat} {z : Str} (h : NmK f k z) : Ltr 8 z ∧ nameB z = true := by
  obtain ⟨c, s, rfl, hs, hc⟩ := h
  have hl : LET.length = 26 := by decide +kernel
  obtain ⟨c', m, e⟩ := at_str (g := LET) (r := (f + 11 * (k : Int)) % 26) (by omega) (by rw [hl]; omega)
  rw [hc] at e
  cases e
  have q := (Ltr.sign m).app hs
  refine ⟨q, ?_⟩
  unfold nameB allIn
  rw [Bool.and_eq_true]
  refine ⟨decide_eq_true ⟨?_, q.len⟩, List.all_eq_true.mpr fun d hd => decide_eq_true (q.inn d hd)⟩
  rw [Str.length_append]
  show 1 ≤ 1 + s.length
  omega
theorem let_inj {i j : Int} {c : Nat} (i0 : 0 ≤ i) (i1 : i < 26) (j0 : 0 ≤ j) (j1 : j < 26) (hi : atI LET.cps.toList i = some c) (hj : atI LET.cps.toList j = some c) : i = j := by
  have all : (List.range 26).all (fun p => (List.range 26).all fun q => decide (p = q) || !decide (atI LET.cps.toList (p : Int) = atI LET.cps.toList (q : Int))) = true := by decide +kernel
  obtain ⟨p, rfl⟩ := Int.eq_ofNat_of_zero_le i0
  obtain ⟨q, rfl⟩ := Int.eq_ofNat_of_zero_le j0
  have h1 := List.all_eq_true.mp all p (List.mem_range.mpr (by omega))
  have h2 := List.all_eq_true.mp h1 q (List.mem_range.mpr (by omega))
  rw [hi, hj] at h2
  simp at h2
  rw [h2]
theorem NmK.ne {f : Int} {j k : Nat} {z : Str} (hj : j < 26) (hk : k < 26) (a : NmK f j z) (b : NmK f k z) : j = k := by
  obtain ⟨c, s, rfl, _, h1⟩ := a
  obtain ⟨d, t, e, _, h2⟩ := b
  have e1 : ((⟨#[c]⟩ : Str) ++ s).cps.toList = ((⟨#[d]⟩ : Str) ++ t).cps.toList := by rw [e]
  have e2 : ∀ (x : Nat) (y : Str), ((⟨#[x]⟩ : Str) ++ y).cps.toList = x :: y.cps.toList := fun x y => by
    show (#[x] ++ y.cps).toList = _
    rw [Array.toList_append]
    rfl
  rw [e2, e2] at e1
  cases List.head_eq_of_cons_eq e1
  have := let_inj (by omega) (by omega) (by omega) (by omega) h1 h2
  omega
def Nms (f : Int) (zs : List Str) : Prop := ∀ k z, zs[k]? = some z → NmK f k z
theorem Nms.nodup {f : Int} {zs : List Str} (h : Nms f zs) (hl : zs.length ≤ 26) : zs.Nodup := by
  unfold List.Nodup
  rw [List.pairwise_iff_getElem]
  intro i j hi hj hij e
  have a := h i zs[i] (List.getElem?_eq_getElem hi)
  have b := h j zs[j] (List.getElem?_eq_getElem hj)
  rw [← e] at b
  have := NmK.ne (by omega) (by omega) a b
  omega
theorem cut_strs (ys : List Str) (lo hi : Option Int) : ∃ us : List Str, cutV (ys.map V.str) lo hi = us.map V.str ∧ us.Sublist ys := by
  unfold cutV
  refine ⟨(ys.drop (HT.sIx (ys.map V.str).length 0 lo)).take (HT.sIx (ys.map V.str).length (ys.map V.str).length hi - HT.sIx (ys.map V.str).length 0 lo), ?_, (List.take_sublist _ _).trans (List.drop_sublist _ _)⟩
  rw [List.map_take, List.map_drop]
def spNames : Sp := fun vs H Q _ => ∃ (p : Addr) (m : Nat), vs = [.ref p, .int m] ∧ Strm H p ∧ m ≤ 26 ∧ ∀ (l : Addr) (f : Int) (zs : List Str) (H' : Hp), H l = none → But p H H' → H' l = some (.lst (zs.map V.str)) → zs.length = m → Nms f zs → Q (.ref l) H'
section
variable {P : Program} {w : World} {K : W.Frag} {mg : Str → Option Value} {base : Heap} {a : Ad}
theorem sc_law_names : FnScope ["_law_stream_here", "_law_many", "_law_letters", "_law_first", "_law_base", "_law_cut"] ["_law_stream_here", "_law_many"] (defScope (top 57)) := ⟨rfl, rfl, rfl, by decide +kernel, rfl, by decide +kernel, by decide +kernel⟩
theorem ok_law_names (T : Tx K mg a) : FnOk P w K mg base CX0 2 a.a__law_names a.d__law_names ["_law_stream_here", "_law_many"] spNames := by
  have G__law_take := ok_law_take (P := P) (w := w) (base := base) T
  refine T.f__law_names.fn.ok sc_law_names (fun vs H Q E h => ?_) (fun cdv A outer s H vs Q E hr h => ?_)
  · obtain ⟨p, m, rfl, _⟩ := h
    rfl
  · obtain ⟨p, m, rfl, st, hm, k⟩ := h
    refine ⟨?t, ?B, ?C⟩
    case B =>
      refine' pss_cons ?s1 ?r1
      case s1 =>
       exact (ps_set (i := 2) sc_law_names.nd rfl (Or.inr rfl) pe_str)
      case r1 =>
       refine' pss_cons ?s3 ?r3
       case s3 =>
        exact (ps_set (i := 3) sc_law_names.nd rfl (Or.inr rfl) (pe_callF T.f__law_take G__law_take hr (by decide) (pa_cons (pv 0) (pa_cons pe_int pa_nil))))
       case r3 =>
        refine' pss_cons ?s5 ?r5
        case s5 =>
         exact (ps_set (i := 4) sc_law_names.nd rfl (Or.inr rfl) (pe_comp (N := (["_law_k", "_law_letters", "_law_stream_here"] : List Str)) (ini := [none, some 2, some 0]) rfl (pi_range1 (by rfl) T.n_range (pa_cons pe_int pa_nil)) (fun _ _ _ _ _ => (pg_name (i := 0) (by decide +kernel : (["_law_k", "_law_letters", "_law_stream_here"] : List Str).Nodup) rfl (Or.inl rfl))) (fun _ _ _ _ _ => pif_nil) (fun _ _ _ _ _ => (pe_ix ix_str (pv 1) (pe_callF T.f__law_take G__law_take hr (by decide) (pa_cons (pv 2) (pa_cons pe_int pa_nil))) (fun _ _ => rfl)))))
        case r5 =>
         refine' pss_cons ?s7 ?r7
         case s7 =>
          exact (ps_set (i := 5) sc_law_names.nd rfl (Or.inr rfl) (pe_callF T.f__law_take G__law_take hr (by decide) (pa_cons (pv 0) (pa_cons pe_int pa_nil))))
         case r7 =>
          refine' pss_one ?s9
          case s9 =>
           exact (ps_ret (pe_comp (N := (["_law_k", "_law_letters", "_law_base", "_law_first", "_law_cut"] : List Str)) (ini := [none, some 2, some 4, some 3, some 5]) rfl (pi_range1 (by rfl) T.n_range (pa_cons (pv 1) pa_nil)) (fun _ _ _ _ _ => (pg_name (i := 0) (by decide +kernel : (["_law_k", "_law_letters", "_law_base", "_law_first", "_law_cut"] : List Str).Nodup) rfl (Or.inl rfl))) (fun _ _ _ _ _ => pif_nil) (fun _ _ _ _ _ => (pe_op op_add_str (pe_ix ix_str (pv 1) (pe_op op_mod (pe_op op_add (pv 3) (pe_op op_mul pe_int (pv 0))) pe_int) (fun _ _ => rfl)) (pe_bmK (K := K) rfl F.plainAttrs_str F.slot_str_join F.type_str_join (mt_joinK (K := K) rfl) pe_str (pa_cons (pe_slice (sl_listK (K := K) rfl) (pv 2) po_none (po_some (pe_op op_mod (pe_op op_add (pv 4) (pe_op op_mul pe_int (pv 0))) pe_int))) pa_nil))))))
    refine ⟨_, rfl, p, 26, rfl, st, by decide, by decide, fun f H1 f0 f1 b1 => ⟨_, rfl, by omega, by omega, fun D hD => ?_⟩⟩
    have neD : D ≠ p := b1.2.ne hD
    refine comp_range (D := D) (fun i σ H' => ∃ (o : Option V) (ys : List Str), σ = [o, some (.str LET), some (.ref p)] ∧ H' D = some (.lst (ys.map V.str)) ∧ ys.length = i ∧ (∀ y ∈ ys, Ltr 1 y) ∧ But p H1 H')
      ?_ ?_ ?_
    · exact ⟨none, [], rfl, upd_same, rfl, (fun y hy => absurd hy (by simp)), But.of b1.2 (Same.upd hD)⟩
    · rintro i σ H' hi ⟨o, ys, rfl, hDs, hl, hw, b⟩
      refine turn_yes ⟨_, rfl, _, rfl, p, 26, rfl, b.2, by decide, by decide, fun r H2 r0 r1 b2 => ?_⟩
      obtain ⟨c, hc, hat⟩ := at_str (g := LET) r0 (by
        have : LET.length = 26 := by decide +kernel
        omega)
      refine ⟨LET, r, c, rfl, rfl, small_lit _ (by decide +kernel), hat, ys.map V.str, b2.1 D _ neD hDs, ?_, _, ys ++ [⟨#[c]⟩], rfl, ?_, ?_, ?_, (b.trans b2).new hD b1.2⟩
      · rw [List.length_map]
        exact small2k (by omega)
      · rw [upd_same, List.map_append]
        rfl
      · rw [List.length_append]
        show ys.length + 1 = i + 1
        omega
      · intro y hy
        rcases List.mem_append.mp hy with hy | hy
        · exact hw y hy
        · rw [List.mem_singleton.mp hy]
          exact Ltr.sign hc
    rintro σ H2 ⟨o, ys, rfl, hDs, hl, hw, b⟩
    have b2 := b1.trans b
    refine ⟨_, rfl, p, 8, rfl, b2.2, by decide, by decide, fun ct H3 c0 c1 b3 => ?_⟩
    have hD3 := b3.1 D _ neD hDs
    have b4 := b2.trans b3
    refine ⟨_, rfl, _, rfl, by omega, by omega, fun D2 hD2 => ?_⟩
    have ne2 : D ≠ D2 := fun e => by rw [e, hD2] at hD3; cases hD3
    refine comp_range (D := D2) (fun i σ H' => ∃ (o : Option V) (zs : List Str), σ = [o, some (.str LET), some (.ref D), some (.int f), some (.int ct)] ∧ H' D2 = some (.lst (zs.map V.str)) ∧ zs.length = i ∧ Nms f zs ∧ Same H3 H')
      ⟨none, [], rfl, upd_same, rfl, fun k z e => by simp at e, Same.upd hD2⟩ ?_ ?_
    · rintro i σ H' hi ⟨o, zs, rfl, hDs2, hl2, hz, sm⟩
      obtain ⟨c, hc, hat⟩ := at_str (g := LET) (r := (f + 11 * (0 + (i : Int))) % 26) (by omega) (by
        have : LET.length = 26 := by decide +kernel
        omega)
      refine turn_yes ⟨_, rfl, _, rfl, _, rfl, _, _, rfl, rfl, .inl (by decide), _, _, rfl, rfl, _, _, rfl, rfl, (show (0 : Int) < 26 by decide), LET, _, c, rfl, rfl, small_lit _ (by decide +kernel), hat, ?_⟩
      refine ⟨rfl, _, rfl, _, rfl, _, rfl, _, _, rfl, rfl, .inl (by decide), _, _, rfl, rfl, _, _, rfl, rfl, (show (0 : Int) < 8 by decide), _, rfl, D, _, rfl, SqL.of (sm _ _ hD3), fun q hq => ?_⟩
      obtain ⟨us, eu, hus⟩ := cut_strs ys none (some ((ct + 3 * (0 + (i : Int))) % 8))
      have hu1 : ∀ y ∈ us, Ltr 1 y := fun y hy => hw y (hus.subset hy)
      have hul : us.length ≤ 7 := by
        have := hus.length_le
        omega
      have hs1 := sum_one us fun y hy => (hu1 y hy).wd
      have jl := join_ltr us hu1
      have sq := Same.upd (o := .lst (cutV (ys.map V.str) none (some ((ct + 3 * (0 + (i : Int))) % 8)))) hq
      refine ⟨"", q, us, rfl, rfl, SqL.of (by rw [upd_same, eu]), ?_, _, _, rfl, rfl, ?_, _, sq _ _ hDs2, ?_, _, zs ++ [(⟨#[c]⟩ : Str) ++ Txt.join ("" : Str) us], rfl, ?_, ?_, ?_, ?_⟩
      · have : ("" : Str).length = 0 := by decide +kernel
        rw [this]
        omega
      · have := jl.len
        show 1 + _ ≤ sizeLine
        exact small_lit _ (by omega)
      · rw [List.length_map]
        exact small2k (by omega)
      · rw [upd_same, List.map_append]
        rfl
      · rw [List.length_append]
        show zs.length + 1 = i + 1
        omega
      · intro j z ej
        rw [List.getElem?_append] at ej
        split at ej
        · exact hz j z ej
        · have hj : j = i := by
            have := (List.getElem?_eq_some_iff.mp ej).1
            simp at this
            omega
          subst hj
          rw [hl2, Nat.sub_self] at ej
          cases ej
          refine ⟨c, _, rfl, ⟨Nat.le_trans jl.len hul, jl.inn⟩, ?_⟩
          rw [← hat, Int.zero_add]
      · intro b o e
        rw [upd_ne (ne_of_none e hD2)]
        exact sq _ _ (sm _ _ e)
    · rintro σ H4 ⟨o, zs, rfl, hDs2, hl2, hz, sm⟩
      have hn : H D2 = none := by
        cases e : H D2 with
        | none => rfl
        | some u =>
          by_cases hp : D2 = p
          · subst hp
            obtain ⟨_, _, _, q⟩ := b4.2
            rw [hD2] at q
            cases q
          · rw [b4.1 _ _ hp e] at hD2
            cases hD2
      exact k D2 f zs H4 hn (b4.same sm) hDs2 (by omega) hz
end
theorem marksB_snoc : ∀ (ns : List Int) (lo m n : Int), marksB lo (ns.map V.int) = true → ns.getLast? = some m → m + 1 ≤ n → n ≤ 12 → marksB lo ((ns ++ [n]).map V.int) = true
  | [], _, _, _, _, h, _, _ => by simp at h
  | [x], lo, m, n, h, hl, h1, h2 => by
    have e : x = m := by simpa using hl
    subst e
    simp [marksB] at h ⊢
    omega
  | x :: y :: r, lo, m, n, h, hl, h1, h2 => by
    have hl' : (y :: r).getLast? = some m := by simpa using hl
    have h' : ((decide (lo ≤ x) && decide (x ≤ 12)) && marksB (x + 1) ((y :: r).map V.int)) = true := h
    rw [Bool.and_eq_true] at h'
    have ih := marksB_snoc (y :: r) (x + 1) m n h'.2 hl' h1 h2
    show ((decide (lo ≤ x) && decide (x ≤ 12)) && marksB (x + 1) (((y :: r) ++ [n]).map V.int)) = true
    rw [h'.1, ih]
    rfl
theorem marksB_last : ∀ (ns : List Int) (lo m : Int), marksB lo (ns.map V.int) = true → ns.getLast? = some m → lo ≤ m ∧ m ≤ 12
  | [], _, _, _, h => by simp at h
  | [x], lo, m, h, hl => by
    have e : x = m := by simpa using hl
    subst e
    simpa [marksB] using h
  | x :: y :: r, lo, m, h, hl => by
    have hl' : (y :: r).getLast? = some m := by simpa using hl
    have h' : ((decide (lo ≤ x) && decide (x ≤ 12)) && marksB (x + 1) ((y :: r).map V.int)) = true := h
    rw [Bool.and_eq_true, Bool.and_eq_true, decide_eq_true_eq, decide_eq_true_eq] at h'
    have ih := marksB_last (y :: r) (x + 1) m h'.2 hl'
    omega
structure GTold where
  kd : Str
  ns : List Int
  sv : Option Int
def svV : Option Int → V
  | some i => .int i
  | none => .non
structure GGood (G : GTold) : Prop where
  kd : Knd G.kd
  ns : areB (loOf G.kd) (G.ns.map V.int) = true
  sv : ∀ i, G.sv = some i → 0 ≤ i ∧ i < G.ns.length
def GTAt (p : Addr) (H : Hp) (x : V) (G : GTold) : Prop := ∃ t m : Addr, x = .ref t ∧ H t = some (.tup [.str G.kd, .ref m, svV G.sv]) ∧ H m = some (.lst (G.ns.map V.int)) ∧ m ≠ p
theorem GTAt.same {p : Addr} {H H' : Hp} {x : V} {G : GTold} (s : Same H H') (h : GTAt p H x G) : GTAt p H' x G := let ⟨t, m, e, h1, h2, n⟩ := h; ⟨t, m, e, s _ _ h1, s _ _ h2, n⟩
theorem GTAt.but {p : Addr} {H H' : Hp} {x : V} {G : GTold} (st : Strm H p) (b : But p H H') (h : GTAt p H x G) : GTAt p H' x G :=
  let ⟨t, m, e, h1, h2, n⟩ := h
  ⟨t, m, e, b.1 _ _ (ne_strm st h1 (fun _ _ _ z => by cases z)) h1, b.1 _ _ n h2, n⟩
theorem GTAt.move {p q : Addr} {H : Hp} {x : V} {G : GTold} (hq : H q = none) (h : GTAt p H x G) : GTAt q H x G :=
  let ⟨t, m, e, h1, h2, _⟩ := h
  ⟨t, m, e, h1, h2, fun z => by rw [z, hq] at h2; cases h2⟩
def spLGate : Sp := fun vs H Q _ => ∃ (p : Addr), vs = [.ref p] ∧ Strm H p ∧ ∀ (x : V) (G : GTold) (H' : Hp), But p H H' → GTAt p H' x G → GGood G → Q x H'
section
variable {P : Program} {w : World} {K : W.Frag} {mg : Str → Option Value} {base : Heap} {a : Ad}
theorem sc_law_gate : FnScope ["_law_stream_here", "_law_kind", "_law_mark", "_law_marks", "_law_k", "_law_stuck"] ["_law_stream_here"] (defScope (top 58)) := ⟨rfl, rfl, rfl, by decide +kernel, rfl, by decide +kernel, by decide +kernel⟩
theorem ok_law_gate (T : Tx K mg a) : FnOk P w K mg base CX0 2 a.a__law_gate a.d__law_gate ["_law_stream_here"] spLGate := by
  have G__law_take := ok_law_take (P := P) (w := w) (base := base) T
  refine T.f__law_gate.fn.ok sc_law_gate (fun vs H Q E h => ?_) (fun cdv A outer s H vs Q E hr h => ?_)
  · obtain ⟨p, rfl, _⟩ := h
    rfl
  · obtain ⟨p, rfl, st, k⟩ := h
    refine ⟨?t, ?B, ?C⟩
    case B =>
      refine' pss_cons ?s1 ?r1
      case s1 =>
       exact (ps_set (i := 1) sc_law_gate.nd rfl (Or.inl rfl) (pe_ix ix_list (pe_lst (pa_cons pe_str (pa_cons pe_str (pa_cons pe_str pa_nil)))) (pe_callF T.f__law_take G__law_take hr (by decide) (pa_cons (pv 0) (pa_cons pe_int pa_nil))) (fun _ _ => rfl)))
      case r1 =>
       refine' pss_cons ?s3 ?r3
       case s3 =>
        exact (ps_set (i := 2) sc_law_gate.nd rfl (Or.inl rfl) (pe_op op_add (pe_callF T.f__law_take G__law_take hr (by decide) (pa_cons (pv 0) (pa_cons (pe_op op_sub pe_int (pe_callTy call_int1 (by rfl) T.n_int bt_int (pa_cons (pe_cmpR op_eq (pv 1) pe_str (nomark _)) pa_nil))) pa_nil))) (pe_callTy call_int1 (by rfl) T.n_int bt_int (pa_cons (pe_cmpR op_eq (pv 1) pe_str (nomark _)) pa_nil))))
       case r3 =>
        refine' pss_cons ?s5 ?r5
        case s5 =>
         exact (ps_set (i := 3) sc_law_gate.nd rfl (Or.inl rfl) (pe_lst (pa_cons (pv 2) pa_nil)))
        case r5 =>
         refine' pss_cons ?s7 ?r7
         case s7 =>
          refine' ps_for ?f8_0 ?f8_1 ?f8_2 ?f8_3 ?f8_4
          case f8_0 =>
           exact PassesOwn.never
          case f8_1 =>
           exact rfl
          case f8_2 =>
           exact (pi_range1 (by rfl) T.n_range (pa_cons (pe_callF T.f__law_take G__law_take hr (by decide) (pa_cons (pv 0) (pa_cons pe_int pa_nil))) pa_nil))
          case f8_3 =>
           exact (pg_name (i := 4) sc_law_gate.nd rfl (Or.inl rfl))
          case f8_4 =>
           refine' pss_cons ?s9 ?r9
           case s9 =>
            exact (ps_set (i := 2) sc_law_gate.nd rfl (Or.inl rfl) (pe_op op_add (pe_op op_add (pv 2) pe_int) (pe_callF T.f__law_take G__law_take hr (by decide) (pa_cons (pv 0) (pa_cons pe_int pa_nil)))))
           case r9 =>
            refine' pss_one ?s11
            case s11 =>
             exact (ps_expr (pe_bm F.plainAttrs_list F.slot_list_append F.type_list_append mt_append (pv 3) (pa_cons (pv 2) pa_nil)))
         case r7 =>
          refine' pss_cons ?s13 ?r13
          case s13 =>
           exact (ps_set (i := 5) sc_law_gate.nd rfl (Or.inl rfl) pe_non)
          case r13 =>
           refine' pss_cons ?s15 ?r15
           case s15 =>
            refine' ps_if ?c16 ?a16 ?b16
            case c16 =>
             exact (pt_cmpR op_eq (pe_callF T.f__law_take G__law_take hr (by decide) (pa_cons (pv 0) (pa_cons pe_int pa_nil))) pe_int (nomark _))
            case a16 =>
             refine' pss_one ?s17
             case s17 =>
              exact (ps_set (i := 5) sc_law_gate.nd rfl (Or.inl rfl) (pe_callF T.f__law_take G__law_take hr (by decide) (pa_cons (pv 0) (pa_cons (pe_callB call_len_seq (by rfl) T.n_len bt_len (pa_cons (pv 3) pa_nil)) pa_nil))))
            case b16 =>
             exact pss_nil
           case r15 =>
            refine' pss_one ?s20
            case s20 =>
             exact (ps_ret (pe_tup (pa_cons (pv 1) (pa_cons (pv 3) (pa_cons (pv 5) pa_nil)))))
    refine ⟨(show 3 ≤ sizeLine by decide), fun L hL => ?_⟩
    have sL := Same.upd (o := .lst [.str "step", .str "flap", .str "part"]) hL
    have bL := But.of st sL
    have nL : L ≠ p := st.ne hL
    refine ⟨_, rfl, p, 3, rfl, bL.2, by decide, by decide, fun r H1 r0 r1 b1 => ?_⟩
    obtain ⟨kd, hat, hk⟩ : ∃ kd : Str, atI [V.str "step", .str "flap", .str "part"] r = some (.str kd) ∧ Knd kd := by
      have cs : r = 0 ∨ r = 1 ∨ r = 2 := by omega
      rcases cs with rfl | rfl | rfl
      · exact ⟨_, rfl, .inl rfl⟩
      · exact ⟨_, rfl, .inr (.inl rfl)⟩
      · exact ⟨_, rfl, .inr (.inr rfl)⟩
    refine ⟨L, _, r, _, rfl, rfl, SqL.of (b1.1 _ _ nL upd_same), hat, ?_⟩
    have bK := bL.trans b1
    have el : loOf kd = if decide (V.str kd = V.str "part") = true then 1 else 0 := by
      unfold loOf
      by_cases h : kd = ("part" : Str)
      · rw [if_pos h, if_pos (decide_eq_true (by rw [h]))]
      · rw [if_neg h, if_neg (by rw [decide_eq_false (fun e => h (V.str.inj e))]; decide)]
    have hlo : loOf kd = 0 ∨ loOf kd = 1 := by unfold loOf; split <;> simp
    refine ⟨_, rfl, _, rfl, rfl, .inr ⟨_, rfl, _, _, rfl, rfl, ?_⟩⟩
    rw [← el]
    have hm : (0 : Int) < 4 - loOf kd ∧ (4 - loOf kd).natAbs.log2 < 9000 := by rcases hlo with e | e <;> rw [e] <;> decide
    refine ⟨p, 4 - loOf kd, rfl, bK.2, hm.1, hm.2, fun r2 H2 s0 s1 b2 => ?_⟩
    refine ⟨_, rfl, rfl, .inr ⟨_, rfl, _, _, rfl, rfl, ?_⟩⟩
    rw [← el]
    have b02 := bK.trans b2
    refine ⟨_, rfl, (show 1 ≤ sizeLine by decide), fun l hl => ?_⟩
    have hl0 : H l = none := But.free st b02 hl
    have nlp : l ≠ p := st.ne hl0
    have b3 : But p H (upd H2 l (.lst [.int (r2 + loOf kd)])) := b02.updD hl0 nlp
    refine ⟨_, rfl, p, 4, rfl, b3.2, by decide, by decide, fun j H3 j0 j1 b4 => ⟨j, rfl, by omega, by omega, ?_⟩⟩
    refine for_range (fun i σ H' => ∃ (o o' : Option V) (ns : List Int) (m : Int), σ = [some (.ref p), some (.str kd), some (.int m), some (.ref l), o, o'] ∧ But p H H' ∧ H' l = some (.lst (ns.map V.int)) ∧ marksB (loOf kd) (ns.map V.int) = true ∧ ns.getLast? = some m ∧ ns.length = i + 1 ∧ m ≤ 3 + 3 * i)
      ⟨_, _, [r2 + loOf kd], r2 + loOf kd, rfl, b3.trans b4, b4.1 _ _ nlp upd_same, ?_, rfl, by simp, by omega⟩ ?_ ?_
    · simp [marksB]
      omega
    · rintro i σ H4 hi ⟨o, o', ns, m, rfl, b5, h5, hmk, hla, hle, hmi⟩
      have hb := marksB_last ns (loOf kd) m hmk hla
      refine ⟨_, rfl, _, _, rfl, rfl, _, rfl, p, 3, rfl, b5.2, by decide, by decide, fun r' H5 t0 t1 b6 => ?_⟩
      refine ⟨_, _, rfl, rfl, ?_⟩
      have h6 := b6.1 _ _ nlp h5
      refine ⟨_, rfl, .inl ⟨rfl, _, SqL.of h6⟩, _, rfl, l, _, _, rfl, rfl, h6, by rw [List.length_map]; exact small2k (by omega), ?_⟩
      refine ⟨_, _, ns ++ [m + 1 + r'], m + 1 + r', rfl, (b5.trans b6).updD hl0 nlp, ?_, marksB_snoc ns (loOf kd) m _ hmk hla (by omega) (by omega), by simp, by simp; omega, by omega⟩
      rw [upd_same]
      simp
    · rintro σ H4 ⟨o, o', ns, m, rfl, b5, h5, hmk, hla, hle, hmi⟩
      have har : areB (loOf kd) (ns.map V.int) = true := by
        unfold areB
        rw [hmk, Bool.and_true, List.length_map]
        exact decide_eq_true (by omega)
      refine ⟨_, rfl, p, 6, rfl, b5.2, by decide, by decide, fun r6 H6 _ _ b6 => ⟨rfl, _, rfl, ite2 (fun _ => ?_) (fun _ => ?_)⟩⟩
      · have h6 := b6.1 _ _ nlp h5
        refine ⟨_, rfl, _, rfl, l, _, rfl, .inl (SqL.of h6), p, _, rfl, (b5.trans b6).2, by rw [List.length_map]; omega, ?_, fun r7 H7 u0 u1 b7 => ?_⟩
        · rw [List.length_map]
          have : ((ns.length : Int)).natAbs ≤ 4 := by omega
          exact Nat.lt_of_le_of_lt (Nat.log2_le_self _) (by omega)
        rw [List.length_map] at u1
        have h7 := b7.1 _ _ nlp h6
        refine ⟨_, rfl, _, rfl, _, rfl, (show 3 ≤ sizeLine by decide), fun t ht => ?_⟩
        have sT := Same.upd (o := .tup [.str kd, .ref l, svV (some r7)]) ht
        refine k (.ref t) ⟨kd, ns, some r7⟩ _ (((b5.trans b6).trans b7).same sT) ⟨t, l, rfl, upd_same, sT _ _ h7, nlp⟩ ⟨hk, har, fun i e => ?_⟩
        cases e
        exact ⟨u0, u1⟩
      · have h6 := b6.1 _ _ nlp h5
        refine ⟨_, rfl, _, rfl, _, rfl, (show 3 ≤ sizeLine by decide), fun t ht => ?_⟩
        have sT := Same.upd (o := .tup [.str kd, .ref l, svV (none)]) ht
        refine k (.ref t) ⟨kd, ns, none⟩ _ ((b5.trans b6).same sT) ⟨t, l, rfl, upd_same, sT _ _ h6, nlp⟩ ⟨hk, har, fun i e => ?_⟩
        cases e
end
structure BTold where
  z : Str
  lo : Int
  hi : Int
  st : Int
  rn : Int
  G : GTold
structure BGood (B : BTold) : Prop where
  lo : 0 ≤ B.lo ∧ B.lo ≤ 12
  hi : B.lo ≤ B.hi ∧ B.hi ≤ 12
  st : B.lo ≤ B.st ∧ B.st ≤ B.hi
  rn : 0 ≤ B.rn ∧ B.rn ≤ 6
  G : GGood B.G
def BTAt (p : Addr) (H : Hp) (x : V) (B : BTold) : Prop := ∃ (t : Addr) (g : V), x = .ref t ∧ H t = some (.tup [.str B.z, .int B.lo, .int B.hi, .int B.st, .int B.rn, g]) ∧ GTAt p H g B.G
theorem BTAt.same {p : Addr} {H H' : Hp} {x : V} {B : BTold} (s : Same H H') (h : BTAt p H x B) : BTAt p H' x B := let ⟨t, g, e, h1, h2⟩ := h; ⟨t, g, e, s _ _ h1, h2.same s⟩
theorem BTAt.but {p : Addr} {H H' : Hp} {x : V} {B : BTold} (st : Strm H p) (b : But p H H') (h : BTAt p H x B) : BTAt p H' x B :=
  let ⟨t, g, e, h1, h2⟩ := h
  ⟨t, g, e, b.1 _ _ (ne_strm st h1 (fun _ _ _ z => by cases z)) h1, h2.but st b⟩
theorem BTAt.move {p q : Addr} {H : Hp} {x : V} {B : BTold} (hq : H q = none) (h : BTAt p H x B) : BTAt q H x B :=
  let ⟨t, g, e, h1, h2⟩ := h
  ⟨t, g, e, h1, h2.move hq⟩
def spLBasin : Sp := fun vs H Q _ => ∃ (p : Addr) (z : Str), vs = [.ref p, .str z] ∧ Strm H p ∧ ∀ (x : V) (B : BTold) (H' : Hp), But p H H' → BTAt p H' x B → BGood B → B.z = z → Q x H'
theorem log9k {i : Int} (h : i.natAbs ≤ 1000) : i.natAbs.log2 < 9000 := Nat.lt_of_le_of_lt (Nat.log2_le_self _) (by omega)
section
variable {P : Program} {w : World} {K : W.Frag} {mg : Str → Option Value} {base : Heap} {a : Ad}
theorem sc_law_basin : FnScope ["_law_stream_here", "_law_name", "_law_low", "_law_high", "_law_start"] ["_law_stream_here", "_law_name"] (defScope (top 59)) := ⟨rfl, rfl, rfl, by decide +kernel, rfl, by decide +kernel, by decide +kernel⟩
theorem ok_law_basin (T : Tx K mg a) : FnOk P w K mg base CX0 3 a.a__law_basin a.d__law_basin ["_law_stream_here", "_law_name"] spLBasin := by
  have G__law_take := ok_law_take (P := P) (w := w) (base := base) T
  have G__law_gate := ok_law_gate (P := P) (w := w) (base := base) T
  refine T.f__law_basin.fn.ok sc_law_basin (fun vs H Q E h => ?_) (fun cdv A outer s H vs Q E hr h => ?_)
  · obtain ⟨p, z, rfl, _⟩ := h
    rfl
  · obtain ⟨p, z, rfl, st, k⟩ := h
    refine ⟨?t, ?B, ?C⟩
    case B =>
      refine' pss_cons ?s1 ?r1
      case s1 =>
       exact (ps_set (i := 2) sc_law_basin.nd rfl (Or.inl rfl) (pe_callF T.f__law_take G__law_take hr (by decide) (pa_cons (pv 0) (pa_cons pe_int pa_nil))))
      case r1 =>
       refine' pss_cons ?s3 ?r3
       case s3 =>
        exact (ps_set (i := 3) sc_law_basin.nd rfl (Or.inl rfl) (pe_op op_add (pv 2) (pe_callF T.f__law_take G__law_take hr (by decide) (pa_cons (pv 0) (pa_cons (pe_op op_sub pe_int (pv 2)) pa_nil)))))
       case r3 =>
        refine' pss_cons ?s5 ?r5
        case s5 =>
         exact (ps_set (i := 4) sc_law_basin.nd rfl (Or.inl rfl) (pe_op op_add (pv 2) (pe_callF T.f__law_take G__law_take hr (by decide) (pa_cons (pv 0) (pa_cons (pe_op op_add (pe_op op_sub (pv 3) (pv 2)) pe_int) pa_nil)))))
        case r5 =>
         refine' pss_one ?s7
         case s7 =>
          refine' ps_ret ?e9_0
          case e9_0 =>
           refine' pe_tup ?e10_0
           case e10_0 =>
            refine' pa6 ?e11_0 ?e11_1 ?e11_2 ?e11_3 ?e11_4 ?e11_5
            case e11_0 =>
             exact (pv 1)
            case e11_1 =>
             exact (pv 2)
            case e11_2 =>
             exact (pv 3)
            case e11_3 =>
             exact (pv 4)
            case e11_4 =>
             exact (pe_callF T.f__law_take G__law_take hr (by decide) (pa_cons (pv 0) (pa_cons pe_int pa_nil)))
            case e11_5 =>
             exact (pe_callF T.f__law_gate G__law_gate hr (by decide) (pa_cons (pv 0) pa_nil))
    refine ⟨_, rfl, p, 13, rfl, st, by decide, by decide, fun lo H1 l0 l1 b1 => ?_⟩
    refine ⟨_, rfl, _, rfl, _, rfl, _, _, rfl, rfl, p, 13 - lo, rfl, b1.2, by omega, log9k (by omega), fun hi H2 h0 h1 b2 => ⟨_, _, rfl, rfl, ?_⟩⟩
    refine ⟨_, rfl, _, rfl, _, rfl, _, rfl, _, _, rfl, rfl, _, _, rfl, rfl, p, lo + hi - lo + 1, rfl, b2.2, by omega, log9k (by omega), fun sv H3 s0 s1 b3 => ⟨_, _, rfl, rfl, ?_⟩⟩
    refine ⟨_, rfl, _, rfl, _, rfl, _, rfl, _, rfl, p, 7, rfl, b3.2, by decide, by decide, fun rn H4 n0 n1 b4 => ?_⟩
    refine ⟨_, rfl, p, rfl, b4.2, fun g G H5 b5 gt gg => ?_⟩
    refine ⟨(show 6 ≤ sizeLine by decide), fun t ht => ?_⟩
    have sT := Same.upd (o := .tup [.str z, .int lo, .int (lo + hi), .int (lo + sv), .int rn, g]) ht
    exact k (.ref t) ⟨z, lo, lo + hi, lo + sv, rn, G⟩ _ (((((b1.trans b2).trans b3).trans b4).trans b5).same sT) ⟨t, g, rfl, upd_same, gt.same sT⟩ ⟨by dsimp only; omega, by dsimp only; omega, by dsimp only; omega, by dsimp only; omega, gg⟩ rfl
end
theorem ref_lst {bs : List V} {ns : List Int} (h : ∀ b ∈ bs, ∃ o, b = V.ref o) (hn : 1 ≤ ns.length) : bs ≠ ns.map V.int := by
  intro e
  cases ns with
  | nil => simp at hn
  | cons n r =>
    obtain ⟨o, q⟩ := h (.int n) (by rw [e]; simp)
    cases q
theorem GGood.len {G : GTold} (h : GGood G) : 1 ≤ G.ns.length ∧ G.ns.length ≤ 4 := by
  have q := h.ns
  unfold areB at q
  rw [Bool.and_eq_true, decide_eq_true_eq, List.length_map] at q
  exact q.1
theorem GTAt.put {p D : Addr} {H : Hp} {x : V} {G : GTold} {bs : List V} {o : HO} (g : GGood G) (hD : H D = some (.lst bs)) (hb : ∀ b ∈ bs, ∃ o, b = V.ref o) (h : GTAt p H x G) : GTAt p (upd H D o) x G := by
  obtain ⟨t, m, e, h1, h2, n⟩ := h
  refine ⟨t, m, e, ?_, ?_, n⟩
  · rw [upd_ne (fun z => by rw [z, hD] at h1; cases h1)]
    exact h1
  · rw [upd_ne (fun z => by rw [z, hD] at h2; cases h2; exact ref_lst hb g.len.1 rfl)]
    exact h2
theorem BTAt.put {p D : Addr} {H : Hp} {x : V} {B : BTold} {bs : List V} {o : HO} (g : BGood B) (hD : H D = some (.lst bs)) (hb : ∀ b ∈ bs, ∃ o, b = V.ref o) (h : BTAt p H x B) : BTAt p (upd H D o) x B := by
  obtain ⟨t, y, e, h1, h2⟩ := h
  refine ⟨t, y, e, ?_, h2.put g.G hD hb⟩
  rw [upd_ne (fun z => by rw [z, hD] at h1; cases h1)]
  exact h1
def BTL (p : Addr) (H : Hp) : List V → List BTold → Prop
  | [], [] => True
  | x :: xs, B :: Bs => BTAt p H x B ∧ BTL p H xs Bs
  | _, _ => False
theorem BTL.map {p q : Addr} {H H' : Hp} (f : ∀ x B, BGood B → BTAt p H x B → BTAt q H' x B) : ∀ {xs : List V} {Bs : List BTold}, (∀ B ∈ Bs, BGood B) → BTL p H xs Bs → BTL q H' xs Bs
  | [], [], _, _ => True.intro
  | _ :: _, _ :: _, g, ⟨h, t⟩ => ⟨f _ _ (g _ List.mem_cons_self) h, BTL.map f (fun B hB => g B (List.mem_cons_of_mem _ hB)) t⟩
theorem BTL.snoc {p : Addr} {H : Hp} {x : V} {B : BTold} (h : BTAt p H x B) : ∀ {xs : List V} {Bs : List BTold}, BTL p H xs Bs → BTL p H (xs ++ [x]) (Bs ++ [B])
  | [], [], _ => ⟨h, True.intro⟩
  | _ :: _, _ :: _, ⟨a, t⟩ => ⟨a, BTL.snoc h t⟩
theorem BTL.refs {p : Addr} {H : Hp} : ∀ {xs : List V} {Bs : List BTold}, BTL p H xs Bs → ∀ b ∈ xs, ∃ o, b = V.ref o
  | [], [], _, b, hb => by simp at hb
  | x :: xs, B :: Bs, ⟨⟨t, g, e, _⟩, tl⟩, b, hb => by
    rcases List.mem_cons.mp hb with rfl | hb
    · exact ⟨t, e⟩
    · exact BTL.refs tl b hb
theorem BTL.len {p : Addr} {H : Hp} : ∀ {xs : List V} {Bs : List BTold}, BTL p H xs Bs → xs.length = Bs.length
  | [], [], _ => rfl
  | _ :: _, _ :: _, ⟨_, t⟩ => by rw [List.length_cons, List.length_cons, BTL.len t]
structure TTold where
  z : Str
  b : Str
  wt : Int
def TTAt (H : Hp) (x : V) (B : TTold) : Prop := ∃ t : Addr, x = .ref t ∧ H t = some (.tup [.str B.z, .str B.b, .int B.wt])
theorem TTAt.same {H H' : Hp} {x : V} {B : TTold} (s : Same H H') (h : TTAt H x B) : TTAt H' x B := let ⟨t, e, h1⟩ := h; ⟨t, e, s _ _ h1⟩
theorem TTAt.but {p : Addr} {H H' : Hp} {x : V} {B : TTold} (st : Strm H p) (b : But p H H') (h : TTAt H x B) : TTAt H' x B :=
  let ⟨t, e, h1⟩ := h
  ⟨t, e, b.1 _ _ (ne_strm st h1 (fun _ _ _ z => by cases z)) h1⟩
theorem TTAt.put {D : Addr} {H : Hp} {x : V} {B : TTold} {bs : List V} {o : HO} (hD : H D = some (.lst bs)) (h : TTAt H x B) : TTAt (upd H D o) x B := by
  obtain ⟨t, e, h1⟩ := h
  refine ⟨t, e, ?_⟩
  rw [upd_ne (fun z => by rw [z, hD] at h1; cases h1)]
  exact h1
def TTL (H : Hp) : List V → List TTold → Prop
  | [], [] => True
  | x :: xs, B :: Bs => TTAt H x B ∧ TTL H xs Bs
  | _, _ => False
theorem TTL.map {H H' : Hp} (f : ∀ x B, TTAt H x B → TTAt H' x B) : ∀ {xs : List V} {Bs : List TTold}, TTL H xs Bs → TTL H' xs Bs
  | [], [], _ => True.intro
  | _ :: _, _ :: _, ⟨h, t⟩ => ⟨f _ _ h, TTL.map f t⟩
theorem TTL.snoc {H : Hp} {x : V} {B : TTold} (h : TTAt H x B) : ∀ {xs : List V} {Bs : List TTold}, TTL H xs Bs → TTL H (xs ++ [x]) (Bs ++ [B])
  | [], [], _ => ⟨h, True.intro⟩
  | _ :: _, _ :: _, ⟨a, t⟩ => ⟨a, TTL.snoc h t⟩
theorem TTL.len {H : Hp} : ∀ {xs : List V} {Bs : List TTold}, TTL H xs Bs → xs.length = Bs.length
  | [], [], _ => rfl
  | _ :: _, _ :: _, ⟨_, t⟩ => by rw [List.length_cons, List.length_cons, TTL.len t]
structure RTold where
  c : Int
  g : Int
  Bs : List BTold
  Ts : List TTold
structure RGood (R : RTold) : Prop where
  c : 0 ≤ R.c ∧ R.c ≤ 12
  g : 0 ≤ R.g ∧ R.g ≤ R.c
  n : 1 ≤ R.Bs.length ∧ R.Bs.length ≤ 16
  Bs : ∀ B ∈ R.Bs, BGood B ∧ nameB B.z = true ∧ Ltr 8 B.z
  nd : (R.Bs.map (·.z)).Nodup
  tn : R.Ts.length ≤ 3
  Ts : ∀ B ∈ R.Ts, nameB B.z = true ∧ Ltr 8 B.z ∧ B.b ∈ R.Bs.map (·.z) ∧ 1 ≤ B.wt ∧ B.wt ≤ 6
  td : (R.Ts.map (·.z)).Nodup
def RTAt (p : Addr) (H : Hp) (x : V) (R : RTold) : Prop := ∃ (t lb lt : Addr) (bs ts : List V), x = .ref t ∧ H t = some (.tup [.int R.c, .int R.g, .ref lb, .ref lt]) ∧ H lb = some (.lst bs) ∧ BTL p H bs R.Bs ∧ H lt = some (.lst ts) ∧ TTL H ts R.Ts ∧ lb ≠ p ∧ lt ≠ p
def spLRiver : Sp := fun vs H Q _ => ∃ (c : Int), vs = [.int c] ∧ ∀ (x : V) (R : RTold) (p : Addr) (H' : Hp), H p = none → Same H H' → Strm H' p → RTAt p H' x R → RGood R → Q x H'
section
variable {P : Program} {w : World} {K : W.Frag} {mg : Str → Option Value} {base : Heap} {a : Ad}
theorem sc_law_river : FnScope ["_law_cell_here", "_law_stream_here", "_law_many", "_law_cloud", "_law_gain", "_law_names_here", "_law_basins", "_law_towns", "_law_name"] ["_law_cell_here"] (defScope (top 60)) := ⟨rfl, rfl, rfl, by decide +kernel, rfl, by decide +kernel, by decide +kernel⟩
theorem ok_law_river (T : Tx K mg a) : FnOk P w K mg base CX0 4 a.a__law_river a.d__law_river ["_law_cell_here"] spLRiver := by
  have G__law_take := ok_law_take (P := P) (w := w) (base := base) T
  have G__law_names := ok_law_names (P := P) (w := w) (base := base) T
  have G__law_basin := ok_law_basin (P := P) (w := w) (base := base) T
  have G__law_stream := ok_law_stream (P := P) (w := w) (base := base) T
  refine T.f__law_river.fn.ok sc_law_river (fun vs H Q E h => ?_) (fun cdv A outer s H vs Q E hr h => ?_)
  · obtain ⟨c, rfl, _⟩ := h
    rfl
  · obtain ⟨c, rfl, k⟩ := h
    refine ⟨?t, ?B, ?C⟩
    case B =>
      refine' pss_cons ?s1 ?r1
      case s1 =>
       exact (ps_set (i := 1) sc_law_river.nd rfl (Or.inr rfl) (pe_callF T.f__law_stream G__law_stream hr (by decide) (pa_cons (pv 0) pa_nil)))
      case r1 =>
       refine' pss_cons ?s3 ?r3
       case s3 =>
        exact (ps_set (i := 2) sc_law_river.nd rfl (Or.inl rfl) (pe_ix ix_list (pe_lst (pa8 pe_int pe_int pe_int pe_int pe_int pe_int (pe_op op_add pe_int (pe_callF T.f__law_take G__law_take hr (by decide) (pa_cons (pv 1) (pa_cons pe_int pa_nil)))) (pe_op op_add pe_int (pe_callF T.f__law_take G__law_take hr (by decide) (pa_cons (pv 1) (pa_cons pe_int pa_nil)))))) (pe_callF T.f__law_take G__law_take hr (by decide) (pa_cons (pv 1) (pa_cons pe_int pa_nil))) (fun _ _ => rfl)))
       case r3 =>
        refine' pss_cons ?s5 ?r5
        case s5 =>
         exact (ps_set (i := 3) sc_law_river.nd rfl (Or.inl rfl) (pe_callF T.f__law_take G__law_take hr (by decide) (pa_cons (pv 1) (pa_cons pe_int pa_nil))))
        case r5 =>
         refine' pss_cons ?s7 ?r7
         case s7 =>
          exact (ps_set (i := 4) sc_law_river.nd rfl (Or.inl rfl) (pe_callF T.f__law_take G__law_take hr (by decide) (pa_cons (pv 1) (pa_cons (pe_op op_add (pv 3) pe_int) pa_nil))))
         case r7 =>
          refine' pss_cons ?s9 ?r9
          case s9 =>
           exact (ps_set (i := 5) sc_law_river.nd rfl (Or.inl rfl) (pe_callF T.f__law_names G__law_names hr (by decide) (pa_cons (pv 1) (pa_cons (pv 2) pa_nil))))
          case r9 =>
           refine' pss_cons ?s11 ?r11
           case s11 =>
            exact (ps_setC (i := 6) (N := (["_law_name", "_law_stream_here"] : List Str)) (ini := [none, some 1]) sc_law_river.nd rfl (Or.inl rfl) rfl (pi_list (pv 5)) (fun _ _ _ _ _ => (pg_name (i := 0) (by decide +kernel : (["_law_name", "_law_stream_here"] : List Str).Nodup) rfl (Or.inl rfl))) (fun _ _ _ _ _ => pif_nil) (fun _ _ _ _ _ => (pe_callF T.f__law_basin G__law_basin hr (by decide) (pa_cons (pv 1) (pa_cons (pv 0) pa_nil)))))
           case r11 =>
            refine' pss_cons ?s13 ?r13
            case s13 =>
             exact (ps_set (i := 7) sc_law_river.nd rfl (Or.inl rfl) (pe_lst pa_nil))
            case r13 =>
             refine' pss_cons ?s15 ?r15
             case s15 =>
              refine' ps_for ?f16_0 ?f16_1 ?f16_2 ?f16_3 ?f16_4
              case f16_0 =>
               exact PassesOwn.never
              case f16_1 =>
               exact rfl
              case f16_2 =>
               exact (pi_list (pe_slice sl_list (pe_callF T.f__law_names G__law_names hr (by decide) (pa_cons (pv 1) (pa_cons pe_int pa_nil))) po_none (po_some (pe_callF T.f__law_take G__law_take hr (by decide) (pa_cons (pv 1) (pa_cons pe_int pa_nil))))))
              case f16_3 =>
               exact (pg_name (i := 8) sc_law_river.nd rfl (Or.inl rfl))
              case f16_4 =>
               refine' pss_one ?s17
               case s17 =>
                exact (ps_expr (pe_bm F.plainAttrs_list F.slot_list_append F.type_list_append mt_append (pv 7) (pa_cons (pe_tup (pa_cons (pv 8) (pa_cons (pe_ix ix_list (pv 5) (pe_callF T.f__law_take G__law_take hr (by decide) (pa_cons (pv 1) (pa_cons (pv 2) pa_nil))) (fun _ _ => rfl)) (pa_cons (pe_op op_add pe_int (pe_callF T.f__law_take G__law_take hr (by decide) (pa_cons (pv 1) (pa_cons pe_int pa_nil)))) pa_nil)))) pa_nil)))
             case r15 =>
              refine' pss_one ?s19
              case s19 =>
               refine' ps_ret ?e21_0
               case e21_0 =>
                refine' pe_tup ?e22_0
                case e22_0 =>
                 refine' pa4 ?e23_0 ?e23_1 ?e23_2 ?e23_3
                 case e23_0 =>
                  exact (pv 3)
                 case e23_1 =>
                  exact (pv 4)
                 case e23_2 =>
                  exact (pv 6)
                 case e23_3 =>
                  exact (pv 7)
    refine ⟨_, rfl, c, rfl, fun p H1 hp s1 st => ?_⟩
    refine ⟨_, rfl, p, 12, rfl, st, by decide, by decide, fun r1 H2 r10 r11 b1 => ⟨_, _, rfl, rfl, ?_⟩⟩
    refine ⟨_, rfl, p, 16, rfl, b1.2, by decide, by decide, fun r2 H3 r20 r21 b2 => ⟨_, _, rfl, rfl, (show 8 ≤ sizeLine by decide), fun L hL => ?_⟩⟩
    have b12 := b1.trans b2
    have nL : L ≠ p := b12.2.ne hL
    have b3 := But.of b12.2 (Same.upd (o := .lst [V.int 1, V.int 2, V.int 3, V.int 4, V.int 2, V.int 3, V.int (5 + r1), V.int (1 + r2)]) hL)
    refine ⟨_, rfl, p, 8, rfl, b3.2, by decide, by decide, fun r3 H4 r30 r31 b4 => ?_⟩
    obtain ⟨n, hat, n1, n16⟩ : ∃ n : Nat, atI [V.int 1, V.int 2, V.int 3, V.int 4, V.int 2, V.int 3, V.int (5 + r1), V.int (1 + r2)] r3 = some (.int n) ∧ 1 ≤ n ∧ n ≤ 16 := by
      have cs : r3 = 0 ∨ r3 = 1 ∨ r3 = 2 ∨ r3 = 3 ∨ r3 = 4 ∨ r3 = 5 ∨ r3 = 6 ∨ r3 = 7 := by omega
      rcases cs with rfl | rfl | rfl | rfl | rfl | rfl | rfl | rfl
      · exact ⟨1, rfl, by omega, by omega⟩
      · exact ⟨2, rfl, by omega, by omega⟩
      · exact ⟨3, rfl, by omega, by omega⟩
      · exact ⟨4, rfl, by omega, by omega⟩
      · exact ⟨2, rfl, by omega, by omega⟩
      · exact ⟨3, rfl, by omega, by omega⟩
      · refine ⟨(5 + r1).toNat, ?_, by omega, by omega⟩
        rw [Int.toNat_of_nonneg (by omega)]
        rfl
      · refine ⟨(1 + r2).toNat, ?_, by omega, by omega⟩
        rw [Int.toNat_of_nonneg (by omega)]
        rfl
    refine ⟨L, _, r3, _, rfl, rfl, SqL.of (b4.1 _ _ nL upd_same), hat, ?_⟩
    have b5 := (b12.trans b3).trans b4
    refine ⟨_, rfl, p, 13, rfl, b5.2, by decide, by decide, fun cl H5 c0 c1 b6 => ?_⟩
    refine ⟨_, rfl, _, rfl, _, _, rfl, rfl, p, cl + 1, rfl, b6.2, by omega, log9k (by omega), fun gn H6 g0 g1 b7 => ?_⟩
    refine ⟨_, rfl, _, rfl, p, n, rfl, b7.2, by omega, fun l f zs H7 hl b8 hl7 len nms => ?_⟩
    have b57 := (b5.trans b6).trans (b7.trans b8)
    have nlp : l ≠ p := b7.2.ne hl
    refine ⟨_, rfl, l, rfl, ⟨_, SqL.of hl7⟩, fun D hD => ?_⟩
    have nD : D ≠ p := b57.2.ne hD
    refine comp_list (K := K) (a := l) (xs := zs.map V.str) (D := D) (fun i σ H' => ∃ (o : Option V) (bs : List V) (Bs : List BTold), σ = [o, some (.ref p)] ∧ H' D = some (.lst bs) ∧ BTL p H' bs Bs ∧ Bs.length = i ∧ (∀ B ∈ Bs, BGood B) ∧ Bs.map (·.z) = zs.take i ∧ But p H7 H') ?_ ?_ ?_ ?_
    · exact ⟨_, [], [], rfl, upd_same, True.intro, rfl, fun B hB => absurd hB (by simp), rfl, But.of b57.2 (Same.upd hD)⟩
    · rintro i σ H' _ ⟨o, bs, Bs, rfl, _, _, _, _, _, b⟩
      exact SqL.of (b.1 _ _ nlp hl7)
    · rintro i x σ H' hx ⟨o, bs, Bs, rfl, hDs, btl, hln, good, names, b⟩
      rw [List.getElem?_map] at hx
      cases ez : zs[i]? with
      | none => rw [ez] at hx; cases hx
      | some z =>
        rw [ez] at hx
        cases hx
        have hi : i < zs.length := (List.getElem?_eq_some_iff.mp ez).1
        refine turn_yes ⟨_, rfl, _, rfl, p, z, rfl, b.2, fun x B H8 b9 bt bg bz => ?_⟩
        have btl8 := BTL.map (fun x B _ h => h.but b.2 b9) good btl
        have hD8 := b9.1 _ _ nD hDs
        have blen := btl.len
        refine ⟨bs, hD8, small2k (by omega), _, bs ++ [x], Bs ++ [B], rfl, upd_same, ?_, by rw [List.length_append]; show Bs.length + 1 = i + 1; omega, ?_, ?_, (b.trans b9).updD hD nD⟩
        · exact BTL.snoc (bt.put bg hD8 btl.refs) (BTL.map (fun x B g h => h.put g hD8 btl.refs) good btl8)
        · intro B' hB'
          rcases List.mem_append.mp hB' with h | h
          · exact good B' h
          · rw [List.mem_singleton.mp h]
            exact bg
        · rw [List.map_append, names, List.take_add_one, ez, List.map_singleton, bz]
          rfl
    rintro σ H8 ⟨o, bs, Bs, rfl, hDs, btl, hln, good, names, b9⟩
    rw [List.length_map] at hln names
    rw [List.take_length] at names
    have st8 : Strm H8 p := b9.2
    have hl8 := b9.1 _ _ nlp hl7
    refine ⟨(show 0 ≤ sizeLine by decide), fun lt hlt => ?_⟩
    have nlt : lt ≠ p := st8.ne hlt
    have sA := Same.upd (o := .lst []) hlt
    have bA := But.of st8 sA
    refine ⟨_, rfl, p, 3, rfl, bA.2, by omega, fun l2 f2 ys HB hl2 bB hB len2 nms2 => ?_⟩
    have nl2 : l2 ≠ p := bA.2.ne hl2
    refine ⟨_, rfl, p, 4, rfl, bB.2, by decide, by decide, fun r4 HC r40 r41 bC => ⟨_, rfl, l2, _, rfl, SqL.of (bC.1 _ _ nl2 hB), fun q hq => ?_⟩⟩
    obtain ⟨us, eu, hus⟩ := cut_strs ys none (some r4)
    rw [eu]
    have bD := (bA.trans bB).trans bC
    have nq : q ≠ p := bD.2.ne hq
    have hltC : HC lt = some (.lst []) := bC.1 _ _ nlt (bB.1 _ _ nlt upd_same)
    have nql : q ≠ lt := fun e => by rw [e, hltC] at hq; cases hq
    have sq := Same.upd (o := .lst (us.map V.str)) hq
    have ul : us.length ≤ 3 := by
      have := hus.length_le
      omega
    refine ⟨q, rfl, ⟨_, SqL.of upd_same⟩, ?_⟩
    refine for_list (xs := us.map V.str) (fun i σ H' => ∃ (o : Option V) (ts : List V) (Ts : List TTold), σ = [some (.int c), some (.ref p), some (.int n), some (.int cl), some (.int gn), some (.ref l), some (.ref D), some (.ref lt), o] ∧ H' lt = some (.lst ts) ∧ TTL H' ts Ts ∧ Ts.length = i ∧ Ts.map (·.z) = us.take i ∧ (∀ B ∈ Ts, B.b ∈ zs ∧ 1 ≤ B.wt ∧ B.wt ≤ 6) ∧ But p H8 H' ∧ H' q = some (.lst (us.map V.str))) ?_ ?_ ?_ ?_
    · exact ⟨_, [], [], rfl, sq _ _ hltC, True.intro, rfl, rfl, fun B hB => absurd hB (by simp), bD.same sq, upd_same⟩
    · rintro i σ H' _ ⟨_, _, _, _, _, _, _, _, _, _, h⟩
      exact SqL.of h
    · rintro i x σ H' hx ⟨o, ts, Ts, rfl, hts, ttl, tln, tnm, tgd, b, hq'⟩
      rw [List.getElem?_map] at hx
      cases ez : us[i]? with
      | none => rw [ez] at hx; cases hx
      | some u =>
        rw [ez] at hx
        cases hx
        have hi : i < us.length := (List.getElem?_eq_some_iff.mp ez).1
        have tlen := ttl.len
        refine ⟨_, rfl, .inl ⟨rfl, _, SqL.of hts⟩, _, rfl, _, rfl, _, rfl, _, rfl, p, n, rfl, b.2, by omega, log9k (by omega), fun r5 HE e0 e1 bE => ?_⟩
        have hr5 : r5.toNat < zs.length := by omega
        refine ⟨l, _, r5, .str zs[r5.toNat], rfl, rfl, SqL.of (bE.1 _ _ nlp (b.1 _ _ nlp hl8)), atI_of (j := r5.toNat) (by omega) (by rw [List.getElem?_map, List.getElem?_eq_getElem hr5]; rfl), ?_⟩
        refine ⟨_, rfl, p, 6, rfl, bE.2, by decide, by decide, fun r6 HF f0 f1 bF => ⟨_, _, rfl, rfl, (show 3 ≤ sizeLine by decide), fun t ht => ?_⟩⟩
        have bG := bE.trans bF
        have htsF := bG.1 _ _ nlt hts
        have sT := Same.upd (o := .tup [.str u, .str zs[r5.toNat], .int (1 + r6)]) ht
        refine ⟨lt, _, _, rfl, rfl, sT _ _ htsF, small2k (by omega), ?_⟩
        refine ⟨_, ts ++ [.ref t], Ts ++ [⟨u, zs[r5.toNat], 1 + r6⟩], rfl, upd_same, ?_, by rw [List.length_append]; show Ts.length + 1 = i + 1; omega, ?_, ?_, ((b.trans bG).same sT).updD hlt nlt, ?_⟩
        · refine TTL.snoc ?_ (TTL.map (fun x B h => (((h.but b.2 bG).same sT).put (sT _ _ htsF))) ttl)
          exact TTAt.put (sT _ _ htsF) ⟨t, rfl, upd_same⟩
        · rw [List.map_append, tnm, List.take_add_one, ez]
          rfl
        · intro B hB
          rcases List.mem_append.mp hB with h | h
          · exact tgd B h
          · rw [List.mem_singleton.mp h]
            exact ⟨List.getElem_mem hr5, by dsimp only; omega, by dsimp only; omega⟩
        · rw [upd_ne nql]
          exact sT _ _ (bG.1 _ _ nq hq')
    · rintro σ HZ ⟨o, ts, Ts, rfl, hts, ttl, tln, tnm, tgd, b, _⟩
      rw [List.length_map] at tln tnm
      rw [List.take_length] at tnm
      refine ⟨_, rfl, _, rfl, _, rfl, _, rfl, (show 4 ≤ sizeLine by decide), fun t ht => ?_⟩
      have sT := Same.upd (o := .tup [.int cl, .int gn, .ref D, .ref lt]) ht
      have bZ := ((b57.trans b9).trans b).same sT
      refine k (.ref t) ⟨cl, gn, Bs, Ts⟩ p _ hp (fun x u e => bZ.1 _ _ (ne_of_none e hp) (s1 _ _ e)) bZ.2 ⟨t, D, lt, bs, ts, rfl, upd_same, sT _ _ (b.1 _ _ nD hDs), BTL.map (fun x B _ h => (h.but st8 b).same sT) good btl, sT _ _ hts, TTL.map (fun x B h => h.same sT) ttl, nD, nlt⟩ ?_
      have nameOf : ∀ (f : Int) (zs : List Str), Nms f zs → ∀ z ∈ zs, nameB z = true ∧ Ltr 8 z := fun f zs h z hz => by
        obtain ⟨k, hk, rfl⟩ := List.mem_iff_getElem.mp hz
        have := (h k _ (List.getElem?_eq_getElem hk)).mem
        exact ⟨this.2, this.1⟩
      refine ⟨by dsimp only; omega, by dsimp only; omega, by dsimp only; omega, fun B hB => ⟨good B hB, nameOf f zs nms _ (by rw [← names]; exact List.mem_map_of_mem hB)⟩, by dsimp only; rw [names]; exact nms.nodup (by omega), by dsimp only; omega, fun B hB => ?_, ?_⟩
      · have hu : B.z ∈ us := by rw [← tnm]; exact List.mem_map_of_mem hB
        have h1 := nameOf f2 ys nms2 _ (hus.subset hu)
        have h2 := tgd B hB
        exact ⟨h1.1, h1.2, by dsimp only; rw [names]; exact h2.1, h2.2⟩
      · dsimp only
        rw [tnm]
        exact hus.nodup (nms2.nodup (by omega))
end
def nOf (G : GTold) : Nat := match G.sv with
  | some _ => 1
  | none => G.ns.length
def spMG (K : W.Frag) (a : Ad) : Sp := fun vs H Q _ => ∃ (p : Addr) (x : V) (G : GTold), vs = [x] ∧ GTAt p H x G ∧ GGood G ∧ ∀ (g : V) (H' : Hp), Same H H' → GS K a H' g (nOf G) → Q g H'
theorem seq_mid {t1 t2 : TS} {D : Ends} {σ : L2.St} {H : Hp} (Mid : L2.St → Hp → Prop) (h1 : ∀ R, (∀ σ H, Mid σ H → R σ H) → t1 { D with nx := R } σ H) (h2 : ∀ σ H, Mid σ H → t2 D σ H) : tSeq t1 t2 D σ H := h1 _ h2
section
variable {P : Program} {w : World} {K : W.Frag} {mg : Str → Option Value} {base : Heap} {a : Ad}
theorem tm_ints {H : Hp} {ns : List Int} {y : V} (h : y ∈ ns.map V.int) : Tm K H y := by
  obtain ⟨i, _, rfl⟩ := List.mem_map.mp h
  exact .inl ⟨i, rfl⟩
theorem init_of1 {C : Addr} {lo : Int} {x : V} {H : Hp} {Q1 : Hp → Prop} {E : XK} {g dx : Addr} (c : Cls K C) (n : NoAttr K C "marks") (hg : H g = none) (hd : H dx = none) (ne : dx ≠ g)
    (h : ∃ xs, Sq H x xs ∧ (∀ y ∈ xs, Tm K H y) ∧ areB lo xs = true ∧ ∀ H', Same H H' → GateAt C H' g xs → Q1 H') :
    spInit K a lo [.ref g, x] (upd (upd H dx (.own g)) g (.ins C dx [])) (fun v H2 => v = .non ∧ Q1 H2) E := by
  have s1 : Same H (upd (upd H dx (.own g)) g (.ins C dx [])) := fun b o e => by rw [upd_ne (ne_of_none e hg), upd_ne (ne_of_none e hd)]; exact e
  refine ⟨g, C, dx, x, rfl, upd_same, c, n, ?_⟩
  obtain ⟨xs, sq, tms, e, k⟩ := h
  refine .inl ⟨xs, sq.same s1, fun y hy => (tms y hy).same s1, e, fun t H' s' ht => ⟨rfl, ?_⟩⟩
  have ng : t ≠ g := ne_of ht (s' _ _ upd_same) (by intro z; cases z)
  exact k _ (fun b o e => by rw [upd_ne (ne_of_none e hg)]; exact s' _ _ (s1 _ _ e)) ⟨dx, t, upd_same, by rw [upd_ne ng]; exact ht⟩
theorem sc_law_made_gate : FnScope ["_law_told_here", "_law_kind", "_law_marks", "_law_stuck", "_law_gate_here"] ["_law_told_here"] (defScope (top 61)) := ⟨rfl, rfl, rfl, by decide +kernel, rfl, by decide +kernel, by decide +kernel⟩
theorem ok_law_made_gate (T : Tx K mg a) : FnOk P w K mg base CX0 6 a.a__law_made_gate a.d__law_made_gate ["_law_told_here"] (spMG K a) := by
  have G_StepGate___init__ := ok_StepGate_init (P := P) (w := w) (base := base) T
  have G_FlapGate___init__ := ok_FlapGate_init (P := P) (w := w) (base := base) T
  have G_PartGate___init__ := ok_PartGate_init (P := P) (w := w) (base := base) T
  have G_StuckGate___init__ := ok_StuckGate_init (P := P) (w := w) (base := base) T
  refine T.f__law_made_gate.fn.ok sc_law_made_gate (fun vs H Q E h => ?_) (fun cdv A outer s H vs Q E hr h => ?_)
  · obtain ⟨p, x, G, rfl, _⟩ := h
    rfl
  · obtain ⟨p, x, ⟨kd, ns, sv⟩, rfl, ⟨t, m, rfl, ht, hm, _⟩, gg, k⟩ := h
    refine ⟨?t, ?B, ?C⟩
    case B =>
      refine' pss_cons ?s1 ?r1
      case s1 =>
       exact (ps_asg (pv 0) (pg_tup rfl (pgs_cons (pg_name (i := 1) sc_law_made_gate.nd rfl (Or.inl rfl)) (pgs_cons (pg_name (i := 2) sc_law_made_gate.nd rfl (Or.inl rfl)) (pgs_cons (pg_name (i := 3) sc_law_made_gate.nd rfl (Or.inl rfl)) pgs_nil)))))
      case r1 =>
       refine' pss_cons ?s4 ?r4
       case s4 =>
        refine' ps_if ?c5 ?a5 ?b5
        case c5 =>
         exact (pt_cmpR op_eq (pv 1) pe_str (nomark _))
        case a5 =>
         refine' pss_one ?s6
         case s6 =>
          exact (ps_set (i := 4) sc_law_made_gate.nd rfl (Or.inl rfl) (pe_make T.k_StepGate G_StepGate___init__.calm (hr.mono (by decide)) (by rfl) T.m_StepGate T.f_StepGate___init__.bd .nil pass0 (pa_cons (pe_callTy call_list_of (by rfl) T.n_list bt_list (pa_cons (pv 2) pa_nil)) pa_nil)))
        case b5 =>
         refine' pss_one ?s8
         case s8 =>
          refine' ps_if ?c9 ?a9 ?b9
          case c9 =>
           exact (pt_cmpR op_eq (pv 1) pe_str (nomark _))
          case a9 =>
           refine' pss_one ?s10
           case s10 =>
            exact (ps_set (i := 4) sc_law_made_gate.nd rfl (Or.inl rfl) (pe_make T.k_FlapGate G_FlapGate___init__.calm (hr.mono (by decide)) (by rfl) T.m_FlapGate T.f_FlapGate___init__.bd .nil pass0 (pa_cons (pe_callTy call_list_of (by rfl) T.n_list bt_list (pa_cons (pv 2) pa_nil)) pa_nil)))
          case b9 =>
           refine' pss_one ?s12
           case s12 =>
            exact (ps_set (i := 4) sc_law_made_gate.nd rfl (Or.inl rfl) (pe_make T.k_PartGate G_PartGate___init__.calm (hr.mono (by decide)) (by rfl) T.m_PartGate T.f_PartGate___init__.bd .nil pass0 (pa_cons (pe_callTy call_list_of (by rfl) T.n_list bt_list (pa_cons (pv 2) pa_nil)) pa_nil)))
       case r4 =>
        refine' pss_cons ?s14 ?r14
        case s14 =>
         refine' ps_if ?c15 ?a15 ?b15
         case c15 =>
          exact (pt_cmpR op_isN (pv 3) pe_non (nomark _))
         case a15 =>
          refine' pss_one ?s16
          case s16 =>
           exact (ps_ret (pv 4))
         case b15 =>
          exact pss_nil
        case r14 =>
         refine' pss_one ?s20
         case s20 =>
          exact (ps_ret (pe_make T.k_StuckGate G_StuckGate___init__.calm (hr.mono (by decide)) (by rfl) T.m_StuckGate T.f_StuckGate___init__.bd .nil pass0 (pa_cons (pv 4) (pa_cons (pv 3) pa_nil))))
    have hkd : Knd kd := gg.kd
    have har : areB (loOf kd) (ns.map V.int) = true := gg.ns
    have hsv : ∀ i, sv = some i → 0 ≤ i ∧ i < (ns.length : Int) := gg.sv
    have hlen := gg.len
    dsimp only at ht hm hlen
    refine ⟨_, rfl, t, _, rfl, SqT.of ht, rfl, _, _, rfl, _, _, rfl, _, _, rfl, rfl, ?_⟩
    dsimp only
    refine seq_mid (fun σ H1 => ∃ g : Addr, σ = [some (.ref t), some (.str kd), some (.ref m), some (svV sv), some (.ref g)] ∧ Same H H1 ∧ GateAt (cOf a kd) H1 g (ns.map V.int)) (fun R hR => ?_) ?_
    · rcases hkd with rfl | rfl | rfl
      · have e1 : loOf "step" = 0 := if_neg ne_sp
        have e2 : cOf a "step" = a.c_StepGate := if_pos rfl
        have hr' : areB (0) (ns.map V.int) = true := by rw [← e1]; exact har
        refine ⟨_, rfl, rfl, _, rfl, iteD rfl ⟨_, rfl, m, _, rfl, .inl (SqL.of hm), fun l hl g dx hg hd ne => init_of1 T.s_StepGate T.n_StepGate_marks hg hd ne ⟨ns.map V.int, .lst upd_same, fun y hy => tm_ints hy, hr', fun H' s' ga => ?_⟩⟩⟩
        exact hR _ _ ⟨g, rfl, (Same.upd hl).trans s', by rw [e2]; exact ga⟩
      · have e1 : loOf "flap" = 0 := if_neg ne_fp
        have e2 : cOf a "flap" = a.c_FlapGate := by unfold cOf; rw [if_neg ne_fs, if_pos rfl]
        have hr' : areB (0) (ns.map V.int) = true := by rw [← e1]; exact har
        refine ⟨_, rfl, rfl, _, rfl, iteN (strN ne_fs) ⟨_, rfl, rfl, _, rfl, iteD rfl ⟨_, rfl, m, _, rfl, .inl (SqL.of hm), fun l hl g dx hg hd ne => init_of1 T.s_FlapGate T.n_FlapGate_marks hg hd ne ⟨ns.map V.int, .lst upd_same, fun y hy => tm_ints hy, hr', fun H' s' ga => ?_⟩⟩⟩⟩
        exact hR _ _ ⟨g, rfl, (Same.upd hl).trans s', by rw [e2]; exact ga⟩
      · have e1 : loOf "part" = 1 := if_pos rfl
        have e2 : cOf a "part" = a.c_PartGate := by unfold cOf; rw [if_neg ne_ps, if_neg ne_pf]
        have hr' : areB (1) (ns.map V.int) = true := by rw [← e1]; exact har
        refine ⟨_, rfl, rfl, _, rfl, iteN (strN ne_ps) ⟨_, rfl, rfl, _, rfl, iteN (strN ne_pf) ⟨_, rfl, m, _, rfl, .inl (SqL.of hm), fun l hl g dx hg hd ne => init_of1 T.s_PartGate T.n_PartGate_marks hg hd ne ⟨ns.map V.int, .lst upd_same, fun y hy => tm_ints hy, hr', fun H' s' ga => ?_⟩⟩⟩⟩
        exact hR _ _ ⟨g, rfl, (Same.upd hl).trans s', by rw [e2]; exact ga⟩
    · rintro σ H1 ⟨g, rfl, s1, ga⟩
      have gs : GS K a H1 (.ref g) ns.length := by
        have q := GS.plain (K := K) cOf_is ga (by rw [List.length_map]; exact hlen.2)
        rw [List.length_map] at q
        exact q
      cases sv with
      | none => exact ⟨_, rfl, rfl, _, rfl, iteD rfl ⟨_, rfl, k _ _ s1 gs⟩⟩
      | some j =>
        have hj := hsv j rfl
        refine ⟨_, rfl, rfl, _, rfl, iteN (fun z => by cases z) ⟨_, rfl, _, rfl, fun x dx hx hdx ne => ?_⟩⟩
        have sn : Same H1 (upd (upd H1 dx (.own x)) x (.ins a.c_StuckGate dx [])) := fun b o e => by rw [upd_ne (ne_of_none e hx), upd_ne (ne_of_none e hdx)]; exact e
        refine ⟨x, dx, _, .int j, rfl, upd_same, .inr (.inr ⟨ns.length, gs.same sn, .inl ⟨j, rfl⟩, by simp [wholeB]; omega, rfl, ?_⟩)⟩
        refine k _ _ ?_ (.stuck upd_same)
        rw [upd_upd]
        exact s1.trans fun b o e => by rw [upd_ne (ne_of_none e hx), upd_ne (ne_of_none e hdx)]; exact e
end
theorem GS.put {K : W.Frag} {a : Ad} {H : Hp} {x : V} {n : Nat} {D : Addr} {bs : List V} {o : HO} (hD : H D = some (.lst bs)) (h : GS K a H x n) : GS K a (upd H D o) x n := by
  cases h with
  | plain i g l =>
    obtain ⟨dx, t, h1, h2⟩ := g
    exact .plain i ⟨dx, t, by rw [upd_ne (fun z => by rw [z, hD] at h1; cases h1)]; exact h1, by rw [upd_ne (fun z => by rw [z, hD] at h2; cases h2)]; exact h2⟩ l
  | stuck e => exact .stuck (by rw [upd_ne (fun z => by rw [z, hD] at e; cases e)]; exact e)
theorem BasAt.put {K : W.Frag} {a : Ad} {H : Hp} {b D : Addr} {B : Bsn} {bs : List V} {o : HO} (hD : H D = some (.lst bs)) (h : BasAt K a H b B) : BasAt K a (upd H D o) b B := by
  obtain ⟨dx, h1, h2⟩ := h
  exact ⟨dx, by rw [upd_ne (fun z => by rw [z, hD] at h1; cases h1)]; exact h1, h2.put hD⟩
theorem BasL.map {K : W.Frag} {a : Ad} {H H' : Hp} (f : ∀ x B, BasAt K a H x B → BasAt K a H' x B) : ∀ {xs : List Addr} {Bs : List Bsn}, BasL K a H xs Bs → BasL K a H' xs Bs
  | [], [], _ => True.intro
  | _ :: _, _ :: _, ⟨h, t⟩ => ⟨f _ _ h, BasL.map f t⟩
theorem BasL.snoc {K : W.Frag} {a : Ad} {H : Hp} {x : Addr} {B : Bsn} (h : BasAt K a H x B) : ∀ {xs : List Addr} {Bs : List Bsn}, BasL K a H xs Bs → BasL K a H (xs ++ [x]) (Bs ++ [B])
  | [], [], _ => ⟨h, True.intro⟩
  | _ :: _, _ :: _, ⟨a, t⟩ => ⟨a, BasL.snoc h t⟩
theorem TwnAt.put {a : Ad} {H : Hp} {b D : Addr} {B : Twn} {bs : List V} {o : HO} (hD : H D = some (.lst bs)) (h : TwnAt a H b B) : TwnAt a (upd H D o) b B := by
  obtain ⟨dx, h1⟩ := h
  exact ⟨dx, by rw [upd_ne (fun z => by rw [z, hD] at h1; cases h1)]; exact h1⟩
theorem TwnL.map {a : Ad} {H H' : Hp} (f : ∀ x B, TwnAt a H x B → TwnAt a H' x B) : ∀ {xs : List Addr} {Bs : List Twn}, TwnL a H xs Bs → TwnL a H' xs Bs
  | [], [], _ => True.intro
  | _ :: _, _ :: _, ⟨h, t⟩ => ⟨f _ _ h, TwnL.map f t⟩
theorem TwnL.snoc {a : Ad} {H : Hp} {x : Addr} {B : Twn} (h : TwnAt a H x B) : ∀ {xs : List Addr} {Bs : List Twn}, TwnL a H xs Bs → TwnL a H (xs ++ [x]) (Bs ++ [B])
  | [], [], _ => ⟨h, True.intro⟩
  | _ :: _, _ :: _, ⟨a, t⟩ => ⟨a, TwnL.snoc h t⟩
theorem BTL.get {p : Addr} {H : Hp} : ∀ {xs : List V} {Bs : List BTold} {i : Nat} {x : V}, BTL p H xs Bs → xs[i]? = some x → ∃ B, Bs[i]? = some B ∧ BTAt p H x B
  | _ :: _, B :: _, 0, _, ⟨h, _⟩, e => by cases e; exact ⟨B, rfl, h⟩
  | _ :: _, _ :: _, i + 1, _, ⟨_, t⟩, e => BTL.get (i := i) t (by simpa using e)
  | [], [], i, _, _, e => by simp at e
theorem TTL.get {H : Hp} : ∀ {xs : List V} {Bs : List TTold} {i : Nat} {x : V}, TTL H xs Bs → xs[i]? = some x → ∃ B, Bs[i]? = some B ∧ TTAt H x B
  | _ :: _, B :: _, 0, _, ⟨h, _⟩, e => by cases e; exact ⟨B, rfl, h⟩
  | _ :: _, _ :: _, i + 1, _, ⟨_, t⟩, e => TTL.get (i := i) t (by simpa using e)
  | [], [], i, _, _, e => by simp at e
def bKey (B : Bsn) : Str × Int × Int × Int × Int × Nat := (B.z, B.lo, B.hi, B.st, B.rn, B.n)
def tKey (B : BTold) : Str × Int × Int × Int × Int × Nat := (B.z, B.lo, B.hi, B.st, B.rn, nOf B.G)
structure Like (R : RTold) (S : Riv) : Prop where
  c : S.c = R.c
  g : S.g = R.g
  Bs : S.Bs.map bKey = R.Bs.map tKey
  Ts : S.Ts.map (fun B => (B.z, B.b, B.wt)) = R.Ts.map (fun B => (B.z, B.b, B.wt))
def spLMade (K : W.Frag) (a : Ad) : Sp := fun vs H Q _ => ∃ (p : Addr) (x : V) (R : RTold), vs = [x] ∧ RTAt p H x R ∧ RGood R ∧ ∀ (o : Addr) (S : Riv) (H' : Hp), Same H H' → RivAt K a H' o S → Like R S → Q (.ref o) H'
section
variable {P : Program} {w : World} {K : W.Frag} {mg : Str → Option Value} {base : Heap} {a : Ad}
theorem GS.gti {H : Hp} {x : V} {n : Nat} (T : Tx K mg a) (g : GS K a H x n) : GtI K a H x true := by
  cases g with
  | plain i ga l =>
    obtain ⟨dx, t, h1, h2⟩ := ga
    rcases i with rfl | rfl | rfl
    · exact ⟨_, .of (T.y_StepGate.ty T.s_StepGate h1), T.i_StepGate, T.i_f_StepGate, _, T.i_b_StepGate, fun _ => rfl, by intro w'; cases w'⟩
    · exact ⟨_, .of (T.y_FlapGate.ty T.s_FlapGate h1), T.i_FlapGate, T.i_f_FlapGate, _, T.i_b_FlapGate, fun _ => rfl, by intro w'; cases w'⟩
    · exact ⟨_, .of (T.y_PartGate.ty T.s_PartGate h1), T.i_PartGate, T.i_f_PartGate, _, T.i_b_PartGate, fun _ => rfl, by intro w'; cases w'⟩
  | stuck h1 => exact ⟨_, .of (T.y_StuckGate.ty T.s_StuckGate h1), T.i_StuckGate, T.i_f_StuckGate, _, T.i_b_StuckGate, fun _ => rfl, by intro w'; cases w'⟩
theorem nmd_of {H : Hp} {z : Str} (h : Ltr 8 z) : Nmd K H (.str z) := ⟨.inr ⟨_, .of (.str z), rfl⟩, fun y e => by cases e; exact ⟨Nat.le_trans h.len (by omega), h.wd.low⟩⟩
theorem sc_law_made : FnScope ["_law_told_here", "_law_basins", "_law_name", "_law_low", "_law_high", "_law_start", "_law_rain_here", "_law_gate_here"] ["_law_told_here"] (defScope (top 62)) := ⟨rfl, rfl, rfl, by decide +kernel, rfl, by decide +kernel, by decide +kernel⟩
theorem ok_law_made (T : Tx K mg a) : FnOk P w K mg base CX0 7 a.a__law_made a.d__law_made ["_law_told_here"] (spLMade K a) := by
  have G__law_made_gate := ok_law_made_gate (P := P) (w := w) (base := base) T
  have G_Basin___init__ := ok_Basin_init (P := P) (w := w) (base := base) T
  have G_Town___init__ := ok_Town_init (P := P) (w := w) (base := base) T
  have G_River___init__ := ok_River_init (P := P) (w := w) (base := base) T
  refine T.f__law_made.fn.ok sc_law_made (fun vs H Q E h => ?_) (fun cdv A outer s H vs Q E hr h => ?_)
  · obtain ⟨p, x, R, rfl, _⟩ := h
    rfl
  · obtain ⟨p, x, R, rfl, ⟨t, lb, lt, bs, ts, rfl, ht, hb, btl, htt, ttl, _, _⟩, rg, k⟩ := h
    refine ⟨?t, ?B, ?C⟩
    case B =>
      refine' pss_cons ?s1 ?r1
      case s1 =>
       exact (ps_set (i := 1) sc_law_made.nd rfl (Or.inl rfl) (pe_lst pa_nil))
      case r1 =>
       refine' pss_cons ?s3 ?r3
       case s3 =>
        refine' ps_for ?f4_0 ?f4_1 ?f4_2 ?f4_3 ?f4_4
        case f4_0 =>
         exact PassesOwn.never
        case f4_1 =>
         exact rfl
        case f4_2 =>
         exact (pi_list (pe_ix ix_tup (pv 0) pe_int (fun _ _ => rfl)))
        case f4_3 =>
         exact (pg_tup rfl (pgs_cons (pg_name (i := 2) sc_law_made.nd rfl (Or.inl rfl)) (pgs_cons (pg_name (i := 3) sc_law_made.nd rfl (Or.inl rfl)) (pgs_cons (pg_name (i := 4) sc_law_made.nd rfl (Or.inl rfl)) (pgs_cons (pg_name (i := 5) sc_law_made.nd rfl (Or.inl rfl)) (pgs_cons (pg_name (i := 6) sc_law_made.nd rfl (Or.inl rfl)) (pgs_cons (pg_name (i := 7) sc_law_made.nd rfl (Or.inl rfl)) pgs_nil)))))))
        case f4_4 =>
         refine' pss_one ?s5
         case s5 =>
          exact (ps_expr (pe_bm F.plainAttrs_list F.slot_list_append F.type_list_append mt_append (pv 1) (pa_cons (pe_make T.k_Basin G_Basin___init__.calm (hr.mono (by decide)) (by rfl) T.m_Basin T.f_Basin___init__.bd .nil pass0 (pa6 (pv 2) (pv 3) (pv 4) (pv 5) (pv 6) (pe_callF T.f__law_made_gate G__law_made_gate hr (by decide) (pa_cons (pv 7) pa_nil)))) pa_nil)))
       case r3 =>
        refine' pss_one ?s7
        case s7 =>
         refine' ps_ret ?e9_0
         case e9_0 =>
          exact (pe_make T.k_River G_River___init__.calm (hr.mono (by decide)) (by rfl) T.m_River T.f_River___init__.bd .nil pass0 (pa4 (pe_ix ix_tup (pv 0) pe_int (fun _ _ => rfl)) (pe_ix ix_tup (pv 0) pe_int (fun _ _ => rfl)) (pv 1) (pe_comp (N := (["_law_name", "_law_basin_here", "_law_want"] : List Str)) (ini := [none, none, none]) rfl (pi_list (pe_ix ix_tup (pv 0) pe_int (fun _ _ => rfl))) (fun _ _ _ _ _ => (pg_tupK (K := K) (n := 3) rfl rfl (pgs_cons (pg_name (i := 0) (by decide +kernel : (["_law_name", "_law_basin_here", "_law_want"] : List Str).Nodup) rfl (Or.inl rfl)) (pgs_cons (pg_name (i := 1) (by decide +kernel : (["_law_name", "_law_basin_here", "_law_want"] : List Str).Nodup) rfl (Or.inl rfl)) (pgs_cons (pg_name (i := 2) (by decide +kernel : (["_law_name", "_law_basin_here", "_law_want"] : List Str).Nodup) rfl (Or.inl rfl)) pgs_nil))))) (fun _ _ _ _ _ => pif_nil) (fun _ _ _ _ _ => (pe_make T.k_Town G_Town___init__.calm (hr.mono (by decide)) (by rfl) T.m_Town T.f_Town___init__.bd .nil pass0 (pa_cons (pv 0) (pa_cons (pv 1) (pa_cons (pv 2) pa_nil))))))))
    refine ⟨(show 0 ≤ sizeLine by decide), fun nb hnb => ?_⟩
    have s0 := Same.upd (o := .lst []) hnb
    refine ⟨_, rfl, t, _, 2, _, rfl, rfl, SqT.of (s0 _ _ ht), rfl, lb, rfl, ⟨_, SqL.of (s0 _ _ hb)⟩, ?_⟩
    have blen := btl.len
    refine for_list (xs := bs) (fun i σ H' => ∃ (o1 o2 o3 o4 o5 o6 : Option V) (os : List Addr) (Bs : List Bsn), σ = [some (.ref t), some (.ref nb), o1, o2, o3, o4, o5, o6] ∧ H' nb = some (.lst (os.map V.ref)) ∧ BasL K a H' os Bs ∧ Bs.length = i ∧ Bs.map bKey = (R.Bs.take i).map tKey ∧ Same H H') ?_ ?_ ?_ ?_
    · exact ⟨_, _, _, _, _, _, [], [], rfl, upd_same, True.intro, rfl, rfl, s0⟩
    · rintro i σ H' _ ⟨_, _, _, _, _, _, _, _, _, _, _, _, _, sm⟩
      exact SqL.of (sm _ _ hb)
    · rintro i x σ H' hx ⟨o1, o2, o3, o4, o5, o6, os, Bs, rfl, hnbs, bl, bln, bkey, sm⟩
      obtain ⟨B, eB, ⟨tb, g, rfl, htb, gt⟩⟩ := btl.get hx
      have hB : B ∈ R.Bs := List.mem_of_getElem? eB
      obtain ⟨bg, bnm, blt⟩ := rg.Bs B hB
      have olen := bl.len
      have hi : i < R.Bs.length := (List.getElem?_eq_some_iff.mp eB).1
      have hn := rg.n
      refine ⟨tb, _, rfl, SqT.of (sm _ _ htb), rfl, _, _, rfl, _, _, rfl, _, _, rfl, _, _, rfl, _, _, rfl, _, _, rfl, rfl, ?_⟩
      refine ⟨_, rfl, .inl ⟨rfl, _, SqL.of hnbs⟩, _, rfl, _, rfl, _, rfl, _, rfl, _, rfl, _, rfl, p, g, B.G, rfl, gt.same sm, bg.G, fun gv H1 s1 gs => ?_⟩
      intro x dx hx1 hd1 ne
      have sn : Same H1 (upd (upd H1 dx (.own x)) x (.ins a.c_Basin dx [])) := fun b o e => by rw [upd_ne (ne_of_none e hx1), upd_ne (ne_of_none e hd1)]; exact e
      refine ⟨x, dx, .str B.z, .int B.lo, .int B.hi, .int B.st, .int B.rn, gv, true, none, rfl, upd_same, nmd_of blt, .inl ⟨_, rfl⟩, .inl ⟨_, rfl⟩, .inl ⟨_, rfl⟩, .inl ⟨_, rfl⟩, (gs.gti T).same sn, .good B.lo B.hi bnm rfl rfl (whole_of bg.lo.1 bg.lo.2) (whole_of bg.hi.1 bg.hi.2) (whole_of bg.st.1 bg.st.2) (whole_of bg.rn.1 bg.rn.2) rfl, fun H2 s2 => ⟨rfl, ?_⟩⟩
      have s3 : Same H1 (upd H2 x (.ins a.c_Basin dx (basF (.str B.z) (.int B.lo) (.int B.hi) (.int B.st) (.int B.rn) gv))) := fun b o e => by rw [upd_ne (ne_of_none e hx1)]; exact s2 _ _ (sn _ _ e)
      have s13 := s1.trans s3
      have hnb3 := s13 _ _ hnbs
      refine ⟨nb, _, _, rfl, rfl, hnb3, by rw [List.length_map]; exact small2k (by omega), ?_⟩
      refine ⟨_, _, _, _, _, _, os ++ [x], Bs ++ [⟨B.z, B.lo, B.hi, B.st, B.rn, gv, nOf B.G⟩], rfl, by rw [upd_same, List.map_append]; rfl, ?_, by rw [List.length_append]; show Bs.length + 1 = i + 1; omega, ?_, ?_⟩
      · exact BasL.snoc (BasAt.put hnb3 ⟨dx, upd_same, gs.same s3⟩) (BasL.map (fun x B h => (h.same s13).put hnb3) bl)
      · rw [List.map_append, bkey, List.take_add_one, eB, List.map_append]
        rfl
      · intro b o e
        rw [upd_ne (ne_of_none e hnb)]
        exact s13 _ _ (sm _ _ e)
    · rintro σ H1 ⟨o1, o2, o3, o4, o5, o6, os, Bs, rfl, hnbs, bl, bln, bkey, sm⟩
      rw [List.take_of_length_le (by omega)] at bkey
      refine ⟨_, rfl, t, _, 0, _, rfl, rfl, SqT.of (sm _ _ ht), rfl, ?_⟩
      refine ⟨_, rfl, t, _, 1, _, rfl, rfl, SqT.of (sm _ _ ht), rfl, ?_⟩
      refine ⟨_, rfl, _, rfl, t, _, 3, _, rfl, rfl, SqT.of (sm _ _ ht), rfl, lt, rfl, ⟨_, SqL.of (sm _ _ htt)⟩, fun D hD => ?_⟩
      have tlen := ttl.len
      refine comp_list (K := K) (a := lt) (xs := ts) (D := D) (fun i σ H' => ∃ (o1 o2 o3 : Option V) (ws : List Addr) (Ws : List Twn), σ = [o1, o2, o3] ∧ H' D = some (.lst (ws.map V.ref)) ∧ TwnL a H' ws Ws ∧ Ws.length = i ∧ Ws.map (fun B => (B.z, B.b, B.wt)) = (R.Ts.take i).map (fun B => (B.z, B.b, B.wt)) ∧ Same H1 H') ?_ ?_ ?_ ?_
      · exact ⟨_, _, _, [], [], rfl, upd_same, True.intro, rfl, rfl, Same.upd hD⟩
      · rintro i σ H' _ ⟨_, _, _, _, _, _, _, _, _, _, s1⟩
        exact SqL.of (s1 _ _ (sm _ _ htt))
      · rintro i x σ H' hx ⟨p1, p2, p3, ws, Ws, rfl, hDs, wl, wln, wkey, s1⟩
        obtain ⟨B, eB, ⟨tb, rfl, htb⟩⟩ := ttl.get hx
        obtain ⟨bnm, blt, bin, bw⟩ := rg.Ts B (List.mem_of_getElem? eB)
        have hi : i < R.Ts.length := (List.getElem?_eq_some_iff.mp eB).1
        have h3 := rg.tn
        have wlen := wl.len
        obtain ⟨Bb, hBb, ebb⟩ := List.mem_map.mp bin
        have blb : Ltr 8 B.b := by rw [← ebb]; exact (rg.Bs Bb hBb).2.2
        have bnb : nameB B.b = true := by rw [← ebb]; exact (rg.Bs Bb hBb).2.1
        refine turn3 (SqT.of (s1 _ _ (sm _ _ htb))) ⟨_, rfl, _, rfl, _, rfl, fun x dx hx1 hd1 ne => ?_⟩
        have sn : Same H' (upd (upd H' dx (.own x)) x (.ins a.c_Town dx [])) := fun b o e => by rw [upd_ne (ne_of_none e hx1), upd_ne (ne_of_none e hd1)]; exact e
        refine ⟨x, dx, .str B.z, .str B.b, .int B.wt, none, rfl, upd_same, nmd_of blt, nmd_of blb, .inl ⟨_, rfl⟩, .good bnm bnb (whole_of bw.1 bw.2), fun H2 s2 => ⟨rfl, ?_⟩⟩
        have s3 : Same H' (upd H2 x (.ins a.c_Town dx (twnF (.str B.z) (.str B.b) (.int B.wt)))) := fun b o e => by rw [upd_ne (ne_of_none e hx1)]; exact s2 _ _ (sn _ _ e)
        have hD3 := s3 _ _ hDs
        refine ⟨_, hD3, by rw [List.length_map]; exact small2k (by omega), _, _, _, ws ++ [x], Ws ++ [⟨B.z, B.b, B.wt⟩], rfl, by rw [upd_same, List.map_append]; rfl, ?_, by rw [List.length_append]; show Ws.length + 1 = i + 1; omega, ?_, ?_⟩
        · exact TwnL.snoc (TwnAt.put hD3 ⟨dx, upd_same⟩) (TwnL.map (fun x B h => (h.same s3).put hD3) wl)
        · rw [List.map_append, wkey, List.take_add_one, eB, List.map_append]
          rfl
        · intro b o e
          rw [upd_ne (ne_of_none e hD)]
          exact s3 _ _ (s1 _ _ e)
      · rintro σ H2 ⟨p1, p2, p3, ws, Ws, rfl, hDs, wl, wln, wkey, s1⟩
        rw [List.take_of_length_le (by omega)] at wkey
        intro x dx hx1 hd1 ne
        have sn : Same H2 (upd (upd H2 dx (.own x)) x (.ins a.c_River dx [])) := fun b o e => by rw [upd_ne (ne_of_none e hx1), upd_ne (ne_of_none e hd1)]; exact e
        have hz : Bs.map (·.z) = R.Bs.map (·.z) := by
          have := congrArg (List.map (·.1)) bkey
          simpa [List.map_map, bKey, tKey, Function.comp_def] using this
        have hr : Bs.map (·.rn) = R.Bs.map (·.rn) := by
          have := congrArg (List.map (·.2.2.2.2.1)) bkey
          simpa [List.map_map, bKey, tKey, Function.comp_def] using this
        have hw : Ws.map (·.z) = R.Ts.map (·.z) := by
          have := congrArg (List.map (·.1)) wkey
          simpa [List.map_map, Function.comp_def] using this
        have hwb : Ws.map (·.b) = R.Ts.map (·.b) := by
          have := congrArg (List.map (·.2.1)) wkey
          simpa [List.map_map, Function.comp_def] using this
        have n1 := rg.n
        have n2 := rg.tn
        refine ⟨x, dx, nb, D, R.c, R.g, os, ws, Bs, Ws, rfl, upd_same, rg.c, rg.g, sn _ _ (s1 _ _ hnbs), (bl.same s1).same sn, by omega, by rw [hz]; exact rg.nd, sn _ _ hDs, wl.same sn, by omega, by rw [hw]; exact rg.td, fun B hB => ?_, fun H3 b t s3 hb3 ht3 nb3 nt3 => ⟨rfl, ?_⟩⟩
        · have : B.b ∈ R.Ts.map (·.b) := by rw [← hwb]; exact List.mem_map_of_mem hB
          obtain ⟨C, hC, e⟩ := List.mem_map.mp this
          rw [hz, ← e]
          exact (rg.Ts C hC).2.2.1
        · have s4 : Same H2 (upd H3 x (.ins a.c_River dx (rivF (.int R.c) (.int R.g) (.ref b) (.ref t)))) := fun b o e => by rw [upd_ne (ne_of_none e hx1)]; exact s3 _ _ (sn _ _ e)
          refine k x ⟨R.c, R.g, Bs, Ws⟩ _ ((sm.trans s1).trans s4) ⟨dx, b, t, os, ws, upd_same, by rw [upd_ne nb3]; exact hb3, (bl.same s1).same s4, by rw [upd_ne nt3]; exact ht3, wl.same s4, by dsimp only; omega, by dsimp only; omega, fun B hB => ?_⟩ ⟨rfl, rfl, bkey, wkey⟩
          have : B.rn ∈ R.Bs.map (·.rn) := by rw [← hr]; exact List.mem_map_of_mem hB
          obtain ⟨C, hC, e⟩ := List.mem_map.mp this
          rw [← e]
          exact (rg.Bs C hC).1.rn
end
theorem comp_listB {K : W.Frag} {p a D : Addr} {xs : List V} {te : TE} {R : Hp → Prop} {H : Hp} {o : Option V} {rest : List (Option V)} (Pr : Nat → V → Prop) (st : Strm H p) (hD : H D = none) (sz : xs.length ≤ 2000) (hq : H a = some (.lst xs)) (na : a ≠ p)
    (he : ∀ (i : Nat) (x : V) (H' : Hp) (Q : VK), xs[i]? = some x → But p H H' → (∀ y H5, But p H' H5 → Pr i y → Q y H5) → te (some x :: rest) H' Q) (hd : ∀ ys H', But p H H' → H' D = some (.lst ys) → ys.length = xs.length → (∀ i y, ys[i]? = some y → Pr i y) → R H') :
    ∃ W : Nat → Nat → L2.St → Hp → Prop, (∃ m, W 0 m (o :: rest) (upd H D (.lst []))) ∧ ∀ i m σ' H', W i m σ' H' → ((Itl K a).stop i H' ∧ R H') ∨ ((Itl K a).go i H' ∧ ∃ N : L2.St → Hp → Prop, (∀ σ2 H2, N σ2 H2 → ∃ m', m' < m ∧ W (i + 1) m' σ2 H2) ∧
      ∀ x H2, (Itl K a).yld i H' x H2 → gName 0 x σ' H2 fun σ3 H3 => tYes σ3 H3 fun b H4 => if b = true then te σ3 H4 (fun v H5 => ∃ ys, H5 D = some (.lst ys) ∧ ys.length < sizeLine ∧ N σ3 (upd H5 D (.lst (ys ++ [v])))) else N σ3 H4) := by
  have nD : D ≠ p := st.ne hD
  refine comp_list (fun i σ H' => (∃ o, σ = o :: rest) ∧ (∃ ys, H' D = some (.lst ys) ∧ ys.length = i ∧ ∀ j y, ys[j]? = some y → Pr j y) ∧ But p H H') ⟨⟨_, rfl⟩, ⟨[], upd_same, rfl, fun j y e => by simp at e⟩, But.of st (Same.upd hD)⟩ (fun i σ H' _ ⟨_, _, b⟩ => SqL.of (b.1 _ _ na hq)) ?_ ?_
  · rintro i x σ H' hx ⟨⟨o, rfl⟩, ⟨ys, hDs, hl, hy⟩, b⟩
    have hi : i < xs.length := (List.getElem?_eq_some_iff.mp hx).1
    refine turn_yes (he i x H' _ hx b fun y H5 b5 py => ⟨ys, b5.1 _ _ nD hDs, small2k (by omega), ⟨_, rfl⟩, ⟨ys ++ [y], upd_same, by rw [List.length_append]; show ys.length + 1 = i + 1; omega, fun j z ej => ?_⟩, (b.trans b5).updD hD nD⟩)
    rw [List.getElem?_append] at ej
    split at ej
    · exact hy j z ej
    · have hj : j = i := by
        have := (List.getElem?_eq_some_iff.mp ej).1
        simp at this
        omega
      subst hj
      rw [hl, Nat.sub_self] at ej
      cases ej
      exact py
  · rintro σ H' ⟨_, ⟨ys, hDs, hl, hy⟩, b⟩
    exact hd ys H' b hDs hl hy
theorem RTAt.but {p : Addr} {H H' : Hp} {x : V} {R : RTold} (rg : RGood R) (st : Strm H p) (b : But p H H') (h : RTAt p H x R) : RTAt p H' x R :=
  let ⟨t, lb, lt, bs, ts, e, h1, h2, h3, h4, h5, n1, n2⟩ := h
  ⟨t, lb, lt, bs, ts, e, b.1 _ _ (ne_strm st h1 (fun _ _ _ z => by cases z)) h1, b.1 _ _ n1 h2, BTL.map (fun _ _ _ h => h.but st b) (fun B hB => (rg.Bs B hB).1) h3, b.1 _ _ n2 h4, TTL.map (fun _ _ h => h.but st b) h5, n1, n2⟩
theorem RTAt.same {p : Addr} {H H' : Hp} {x : V} {R : RTold} (rg : RGood R) (s : Same H H') (h : RTAt p H x R) : RTAt p H' x R :=
  let ⟨t, lb, lt, bs, ts, e, h1, h2, h3, h4, h5, n1, n2⟩ := h
  ⟨t, lb, lt, bs, ts, e, s _ _ h1, s _ _ h2, BTL.map (fun _ _ _ h => h.same s) (fun B hB => (rg.Bs B hB).1) h3, s _ _ h4, TTL.map (fun _ _ h => h.same s) h5, n1, n2⟩
theorem ints_of {Pr : Nat → Int → Prop} : ∀ {ys : List V}, (∀ i y, ys[i]? = some y → ∃ n : Int, y = .int n ∧ Pr i n) → ∃ ns : List Int, ys = ns.map V.int ∧ ∀ i n, ns[i]? = some n → Pr i n := by
  intro ys h
  refine ⟨ys.map intOf, ?_, fun i n e => ?_⟩
  · rw [List.map_map]
    refine List.ext_getElem? fun i => ?_
    rw [List.getElem?_map]
    cases e : ys[i]? with
    | none => rfl
    | some y =>
      obtain ⟨n, rfl, _⟩ := h i y e
      rfl
  · rw [List.getElem?_map] at e
    cases ey : ys[i]? with
    | none => rw [ey] at e; cases e
    | some y =>
      rw [ey] at e
      obtain ⟨m, rfl, pm⟩ := h i y ey
      cases e
      exact pm
def spLSet : Sp := fun vs H Q _ => ∃ (p : Addr) (x : V) (G : GTold), vs = [x] ∧ GTAt p H x G ∧ ∀ H', Same H H' → Q (.int (nOf G : Nat)) H'
def StdAt (H : Hp) (x : V) (R : RTold) (ls : List Int) (wt : Int) : Prop := (∃ y u : Addr, x = .ref y ∧ H y = some (.tup [.ref u, .int wt]) ∧ H u = some (.tup (ls.map V.int))) ∧ ls.length = R.Bs.length ∧ (∀ (i : Nat) (n : Int), ls[i]? = some n → ∃ B, R.Bs[i]? = some B ∧ B.lo ≤ n ∧ n ≤ B.hi) ∧ 0 ≤ wt ∧ wt ≤ R.c
def spLStand : Sp := fun vs H Q _ => ∃ (p : Addr) (x : V) (R : RTold), vs = [.ref p, x] ∧ Strm H p ∧ RTAt p H x R ∧ RGood R ∧ ∀ (y : V) (ls : List Int) (wt : Int) (H' : Hp), But p H H' → StdAt H' y R ls wt → Q y H'
section
variable {P : Program} {w : World} {K : W.Frag} {mg : Str → Option Value} {base : Heap} {a : Ad}
theorem sc_law_settings : FnScope ["_law_gate_here"] ["_law_gate_here"] (defScope (top 63)) := ⟨rfl, rfl, rfl, by decide +kernel, rfl, by decide +kernel, by decide +kernel⟩
theorem ok_law_settings (T : Tx K mg a) : FnOk P w K mg base CX0 1 a.a__law_settings a.d__law_settings ["_law_gate_here"] spLSet := by
  refine T.f__law_settings.fn.ok sc_law_settings (fun vs H Q E h => ?_) (fun cdv A outer s H vs Q E hr h => ?_)
  · obtain ⟨p, x, G, rfl, _⟩ := h
    rfl
  · obtain ⟨p, x, ⟨kd, ns, sv⟩, rfl, ⟨t, m, rfl, ht, hm, _⟩, k⟩ := h
    refine ⟨?t, ?B, ?C⟩
    case B =>
      refine' pss_one ?s1
      case s1 =>
       exact (ps_ret (pe_ix ix_list (pe_lst (pa_cons (pe_callB call_len_seq (by rfl) T.n_len bt_len (pa_cons (pe_ix ix_tup (pv 0) pe_int (fun _ _ => rfl)) pa_nil)) (pa_cons pe_int pa_nil))) (pe_callTy call_int1 (by rfl) T.n_int bt_int (pa_cons (pe_cmpR op_notN (pe_ix ix_tup (pv 0) pe_int (fun _ _ => rfl)) pe_non (nomark _)) pa_nil)) (fun _ _ => rfl)))
    dsimp only at ht hm
    refine ⟨_, rfl, t, _, 1, _, rfl, rfl, SqT.of ht, rfl, m, _, rfl, .inl (SqL.of hm), (show 2 ≤ sizeLine by decide), fun D hD => ?_⟩
    have s1 := Same.upd (o := .lst [.int ((ns.map V.int).length : Nat), .int 1]) hD
    refine ⟨_, rfl, t, _, 2, _, rfl, rfl, SqT.of (s1 _ _ ht), rfl, rfl, .inr ⟨_, rfl, ?_⟩⟩
    cases sv with
    | none =>
      refine ⟨D, _, 0, _, rfl, rfl, SqL.of upd_same, rfl, ?_⟩
      have := k _ s1
      rw [show nOf ⟨kd, ns, none⟩ = (ns.map V.int).length by rw [List.length_map]; rfl] at this
      exact this
    | some j => exact ⟨D, _, 1, _, rfl, rfl, SqL.of upd_same, rfl, k _ s1⟩
theorem sc_law_standing : FnScope ["_law_stream_here", "_law_told_here", "_law_levels"] ["_law_stream_here", "_law_told_here"] (defScope (top 64)) := ⟨rfl, rfl, rfl, by decide +kernel, rfl, by decide +kernel, by decide +kernel⟩
theorem ok_law_standing (T : Tx K mg a) : FnOk P w K mg base CX0 2 a.a__law_standing a.d__law_standing ["_law_stream_here", "_law_told_here"] spLStand := by
  have G__law_take := ok_law_take (P := P) (w := w) (base := base) T
  refine T.f__law_standing.fn.ok sc_law_standing (fun vs H Q E h => ?_) (fun cdv A outer s H vs Q E hr h => ?_)
  · obtain ⟨p, x, R, rfl, _⟩ := h
    rfl
  · obtain ⟨p, x, R, rfl, st, rt, rg, k⟩ := h
    refine ⟨?t, ?B, ?C⟩
    case B =>
      refine' pss_cons ?s1 ?r1
      case s1 =>
       exact (ps_set (i := 2) sc_law_standing.nd rfl (Or.inl rfl) (pe_callTy call_tuple_of (by rfl) T.n_tuple bt_tuple (pa_cons (pe_comp (N := (["_law_one", "_law_stream_here"] : List Str)) (ini := [none, some 0]) rfl (pi_list (pe_ix ix_tup (pv 1) pe_int (fun _ _ => rfl))) (fun _ _ _ _ _ => (pg_name (i := 0) (by decide +kernel : (["_law_one", "_law_stream_here"] : List Str).Nodup) rfl (Or.inl rfl))) (fun _ _ _ _ _ => pif_nil) (fun _ _ _ _ _ => (pe_op op_add (pe_ix (ix_tupK (K := K) rfl) (pv 0) pe_int (fun _ _ => rfl)) (pe_callF T.f__law_take G__law_take hr (by decide) (pa_cons (pv 1) (pa_cons (pe_op op_add (pe_op op_sub (pe_ix (ix_tupK (K := K) rfl) (pv 0) pe_int (fun _ _ => rfl)) (pe_ix (ix_tupK (K := K) rfl) (pv 0) pe_int (fun _ _ => rfl))) pe_int) pa_nil)))))) pa_nil)))
      case r1 =>
       refine' pss_one ?s3
       case s3 =>
        exact (ps_ret (pe_tup (pa_cons (pv 2) (pa_cons (pe_callF T.f__law_take G__law_take hr (by decide) (pa_cons (pv 0) (pa_cons (pe_op op_add (pe_ix ix_tup (pv 1) pe_int (fun _ _ => rfl)) pe_int) pa_nil))) pa_nil))))
    obtain ⟨t, lb, lt, bs, ts, rfl, ht, hb, btl, htt, ttl, nb, nt⟩ := rt
    refine ⟨_, rfl, t, _, 2, _, rfl, rfl, SqT.of ht, rfl, lb, rfl, ⟨_, SqL.of hb⟩, fun D hD => ?_⟩
    have blen := btl.len
    have hn := rg.n
    refine comp_listB (p := p) (fun i y => ∃ n : Int, y = .int n ∧ ∃ B, R.Bs[i]? = some B ∧ B.lo ≤ n ∧ n ≤ B.hi) st hD (by omega) hb nb ?_ ?_
    · intro i x H' Q' hx b k'
      obtain ⟨B, eB, tb, g, rfl, htb, gt⟩ := btl.get hx
      have bg := (rg.Bs B (List.mem_of_getElem? eB)).1
      have htb' := b.1 _ _ (ne_strm st htb (fun _ _ _ z => by cases z)) htb
      have q1 := bg.lo
      have q2 := bg.hi
      refine ⟨_, rfl, tb, _, 1, _, rfl, rfl, SqT.of htb', rfl, _, rfl, _, rfl, tb, _, 2, _, rfl, rfl, SqT.of htb', rfl, _, rfl, tb, _, 1, _, rfl, rfl, SqT.of htb', rfl, _, _, rfl, rfl, _, _, rfl, rfl, p, _, rfl, b.2, by omega, log9k (by omega), fun r H5 r0 r1 b5 => ⟨_, _, rfl, rfl, k' _ _ b5 ⟨_, rfl, B, eB, by omega, by omega⟩⟩⟩
    · intro ys H1 b1 hD1 hl1 hy
      obtain ⟨ns, rfl, hns⟩ := ints_of hy
      rw [List.length_map] at hl1
      have nD : D ≠ p := st.ne hD
      refine ⟨D, _, rfl, .inl ⟨SqL.of hD1, fun u hu => ?_⟩⟩
      have su := Same.upd (o := .tup (ns.map V.int)) hu
      have b2 := b1.same su
      have ht2 := b2.1 _ _ (ne_strm st ht (fun _ _ _ z => by cases z)) ht
      have hc := rg.c
      refine ⟨_, rfl, _, rfl, _, rfl, t, _, 0, _, rfl, rfl, SqT.of ht2, rfl, _, _, rfl, rfl, p, _, rfl, b2.2, by omega, log9k (by omega), fun r H5 r0 r1 b5 => ⟨(show 2 ≤ sizeLine by decide), fun y hy => ?_⟩⟩
      have sy := Same.upd (o := .tup [.ref u, .int r]) hy
      have hu5 : H5 u = some (.tup (ns.map V.int)) := b5.1 _ _ (ne_strm b2.2 upd_same (fun _ _ _ z => by cases z)) upd_same
      exact k (.ref y) ns r _ ((b2.trans b5).same sy) ⟨⟨y, u, rfl, upd_same, sy _ _ hu5⟩, by omega, hns, r0, by omega⟩
end
def TwnV (R : RTold) (v : V) : Prop := v = .non ∨ ∃ j : Int, v = .int j ∧ 0 ≤ j ∧ j < R.Ts.length
def ChcAt (H : Hp) (x : V) (R : RTold) (ns : List Int) (tv : V) : Prop := (∃ y u : Addr, x = .ref y ∧ H y = some (.tup [.ref u, tv]) ∧ H u = some (.tup (ns.map V.int))) ∧ ns.length = R.Bs.length ∧ (∀ (i : Nat) (n : Int), ns[i]? = some n → 0 ≤ n ∧ n ≤ 4) ∧ TwnV R tv
def spLChoice : Sp := fun vs H Q _ => ∃ (p : Addr) (x : V) (R : RTold), vs = [.ref p, x] ∧ Strm H p ∧ RTAt p H x R ∧ RGood R ∧ ∀ (y : V) (ns : List Int) (tv : V) (H' : Hp), But p H H' → ChcAt H' y R ns tv → Q y H'
theorem nOf_in {G : GTold} (h : GGood G) : 1 ≤ nOf G ∧ nOf G ≤ 4 := by
  have := h.len
  unfold nOf
  split <;> omega
def forcedT (R : RTold) (wet : Int) : Int :=
  if (if wet + R.g - R.c > 0 then wet + R.g - R.c else 0) < (R.Bs.map (·.rn)).sum then (if wet + R.g - R.c > 0 then wet + R.g - R.c else 0) else (R.Bs.map (·.rn)).sum
def spLForced : Sp := fun vs H Q _ => ∃ (p : Addr) (x : V) (R : RTold) (wet : Int), vs = [x, .int wet] ∧ RTAt p H x R ∧ RGood R ∧ ∀ H', Same H H' → Q (.int (forcedT R wet)) H'
section
variable {P : Program} {w : World} {K : W.Frag} {mg : Str → Option Value} {base : Heap} {a : Ad}
theorem sc_law_choice : FnScope ["_law_stream_here", "_law_told_here", "_law_settings_here", "_law_town"] ["_law_stream_here", "_law_told_here"] (defScope (top 65)) := ⟨rfl, rfl, rfl, by decide +kernel, rfl, by decide +kernel, by decide +kernel⟩
theorem ok_law_choice (T : Tx K mg a) : FnOk P w K mg base CX0 2 a.a__law_choice a.d__law_choice ["_law_stream_here", "_law_told_here"] spLChoice := by
  have G__law_take := ok_law_take (P := P) (w := w) (base := base) T
  have G__law_settings := ok_law_settings (P := P) (w := w) (base := base) T
  refine T.f__law_choice.fn.ok sc_law_choice (fun vs H Q E h => ?_) (fun cdv A outer s H vs Q E hr h => ?_)
  · obtain ⟨p, x, R, rfl, _⟩ := h
    rfl
  · obtain ⟨p, x, R, rfl, st, rt, rg, k⟩ := h
    refine ⟨?t, ?B, ?C⟩
    case B =>
      refine' pss_cons ?s1 ?r1
      case s1 =>
       exact (ps_set (i := 2) sc_law_choice.nd rfl (Or.inl rfl) (pe_callTy call_tuple_of (by rfl) T.n_tuple bt_tuple (pa_cons (pe_comp (N := (["_law_one", "_law_stream_here"] : List Str)) (ini := [none, some 0]) rfl (pi_list (pe_ix ix_tup (pv 1) pe_int (fun _ _ => rfl))) (fun _ _ _ _ _ => (pg_name (i := 0) (by decide +kernel : (["_law_one", "_law_stream_here"] : List Str).Nodup) rfl (Or.inl rfl))) (fun _ _ _ _ _ => pif_nil) (fun _ _ _ _ _ => (pe_callF T.f__law_take G__law_take hr (by decide) (pa_cons (pv 1) (pa_cons (pe_callF T.f__law_settings G__law_settings hr (by decide) (pa_cons (pe_ix (ix_tupK (K := K) rfl) (pv 0) pe_int (fun _ _ => rfl)) pa_nil)) pa_nil))))) pa_nil)))
      case r1 =>
       refine' pss_cons ?s3 ?r3
       case s3 =>
        exact (ps_set (i := 3) sc_law_choice.nd rfl (Or.inl rfl) (pe_op op_sub (pe_callF T.f__law_take G__law_take hr (by decide) (pa_cons (pv 0) (pa_cons (pe_op op_add (pe_callB call_len_seq (by rfl) T.n_len bt_len (pa_cons (pe_ix ix_tup (pv 1) pe_int (fun _ _ => rfl)) pa_nil)) pe_int) pa_nil))) pe_int))
       case r3 =>
        refine' pss_one ?s5
        case s5 =>
         exact (ps_ret (pe_tup (pa_cons (pv 2) (pa_cons (pe_ix ix_list (pe_lst (pa_cons (pv 3) (pa_cons pe_non pa_nil))) (pe_callTy call_int1 (by rfl) T.n_int bt_int (pa_cons (pe_cmpR op_lt (pv 3) pe_int (nomark _)) pa_nil)) (fun _ _ => rfl)) pa_nil))))
    obtain ⟨t, lb, lt, bs, ts, rfl, ht, hb, btl, htt, ttl, nb, nt⟩ := rt
    refine ⟨_, rfl, t, _, 2, _, rfl, rfl, SqT.of ht, rfl, lb, rfl, ⟨_, SqL.of hb⟩, fun D hD => ?_⟩
    have blen := btl.len
    have hn := rg.n
    refine comp_listB (p := p) (fun i y => ∃ n : Int, y = .int n ∧ (0 ≤ n ∧ n ≤ 4)) st hD (by omega) hb nb ?_ ?_
    · intro i x H' Q' hx b k'
      obtain ⟨B, eB, bt⟩ := btl.get hx
      obtain ⟨tb, g, rfl, htb', gt⟩ := bt.but st b
      have bg := (rg.Bs B (List.mem_of_getElem? eB)).1
      have q1 := nOf_in bg.G
      refine ⟨_, rfl, _, rfl, tb, _, 5, _, rfl, rfl, SqT.of htb', rfl, p, g, B.G, rfl, gt, fun H2 s2 => ?_⟩
      exact ⟨p, _, rfl, b.2.same s2, by omega, log9k (by omega), fun r H5 r0 r1 b5 => k' _ _ ((But.of b.2 s2).trans b5) ⟨_, rfl, r0, by omega⟩⟩
    · intro ys H1 b1 hD1 hl1 hy
      obtain ⟨ns, rfl, hns⟩ := ints_of hy
      rw [List.length_map] at hl1
      refine ⟨D, _, rfl, .inl ⟨SqL.of hD1, fun u hu => ?_⟩⟩
      have su := Same.upd (o := .tup (ns.map V.int)) hu
      have b2 := b1.same su
      have ht2 := b2.1 _ _ (ne_strm st ht (fun _ _ _ z => by cases z)) ht
      have htt2 := b2.1 _ _ nt htt
      have tlen := ttl.len
      have tn := rg.tn
      refine ⟨_, rfl, _, rfl, t, _, 3, _, rfl, rfl, SqT.of ht2, rfl, lt, _, rfl, .inl (SqL.of htt2), _, _, rfl, rfl, p, _, rfl, b2.2, by omega, log9k (by omega), fun r H5 r0 r1 b5 => ⟨_, _, rfl, rfl, ?_⟩⟩
      have hu5 : H5 u = some (.tup (ns.map V.int)) := b5.1 _ _ (ne_strm b2.2 upd_same (fun _ _ _ z => by cases z)) upd_same
      refine ⟨_, rfl, _, rfl, (show 2 ≤ sizeLine by decide), fun D2 hD2 => ⟨_, rfl, _, _, rfl, rfl, .inr ⟨_, rfl, ?_⟩⟩⟩
      have s2 := Same.upd (o := .lst [.int (r - 1), .non]) hD2
      obtain ⟨tv, hat, htv⟩ : ∃ tv, atI [V.int (r - 1), .non] (if decide (r - 1 < 0) = true then 1 else 0) = some tv ∧ TwnV R tv := by
        by_cases h : r - 1 < 0
        · rw [decide_eq_true h]
          exact ⟨.non, rfl, .inl rfl⟩
        · rw [decide_eq_false h]
          exact ⟨.int (r - 1), rfl, .inr ⟨_, rfl, by omega, by omega⟩⟩
      refine ⟨D2, _, _, tv, rfl, rfl, SqL.of upd_same, hat, (show 2 ≤ sizeLine by decide), fun y hy => ?_⟩
      have sy := s2.trans (Same.upd (o := .tup [.ref u, tv]) hy)
      exact k (.ref y) ns tv _ ((b2.trans b5).same sy) ⟨⟨y, u, rfl, upd_same, sy _ _ hu5⟩, by omega, hns, htv⟩
theorem sc_law_forced : FnScope ["_law_told_here", "_law_wet"] ["_law_told_here", "_law_wet"] (defScope (top 66)) := ⟨rfl, rfl, rfl, by decide +kernel, rfl, by decide +kernel, by decide +kernel⟩
theorem ok_law_forced (T : Tx K mg a) : FnOk P w K mg base CX0 1 a.a__law_forced a.d__law_forced ["_law_told_here", "_law_wet"] spLForced := by
  refine T.f__law_forced.fn.ok sc_law_forced (fun vs H Q E h => ?_) (fun cdv A outer s H vs Q E hr h => ?_)
  · obtain ⟨p, x, R, wet, rfl, _⟩ := h
    rfl
  · obtain ⟨p, x, R, wet, rfl, rt, rg, k⟩ := h
    refine ⟨?t, ?B, ?C⟩
    case B =>
      refine' pss_one ?s1
      case s1 =>
       exact (ps_ret (pe_callB (call_min2 rfl) (by rfl) T.n_min bt_min (pa_cons (pe_callB (call_sum rfl) (by rfl) T.n_sum bt_sum (pa_cons (pe_comp (N := (["_law_one"] : List Str)) (ini := [none]) rfl (pi_list (pe_ix ix_tup (pv 0) pe_int (fun _ _ => rfl))) (fun _ _ _ _ _ => (pg_name (i := 0) (by decide +kernel : (["_law_one"] : List Str).Nodup) rfl (Or.inl rfl))) (fun _ _ _ _ _ => pif_nil) (fun _ _ _ _ _ => (pe_ix (ix_tupK (K := K) rfl) (pv 0) pe_int (fun _ _ => rfl)))) pa_nil)) (pa_cons (pe_callB (call_max2 rfl) (by rfl) T.n_max bt_max (pa_cons pe_int (pa_cons (pe_op op_sub (pe_op op_add (pv 1) (pe_ix ix_tup (pv 0) pe_int (fun _ _ => rfl))) (pe_ix ix_tup (pv 0) pe_int (fun _ _ => rfl))) pa_nil))) pa_nil))))
    obtain ⟨t, lb, lt, bs, ts, rfl, ht, hb, btl, htt, ttl, nb, nt⟩ := rt
    have blen := btl.len
    have hn := rg.n
    refine ⟨_, rfl, t, _, 2, _, rfl, rfl, SqT.of ht, rfl, lb, rfl, ⟨_, SqL.of hb⟩, fun D hD => ?_⟩
    refine comp_listF ((R.Bs.map (·.rn)).map V.int) hD (by simp [blen]) (by omega) hb ?_ ?_
    · intro i x y H' Q' hx hy sm k'
      obtain ⟨B, eB, tb, g, rfl, htb, gt⟩ := btl.get hx
      rw [List.getElem?_map, List.getElem?_map, eB] at hy
      cases hy
      exact ⟨_, rfl, tb, _, 4, _, rfl, rfl, SqT.of (sm _ _ htb), rfl, k' _ fun _ _ h => h⟩
    intro H1 s1 hD1
    refine ⟨D, _, rfl, .inl (SqL.of hD1), ⟨by rw [List.length_map]; omega, fun n hn => ?_⟩, ?_⟩
    · obtain ⟨B, hB, rfl⟩ := List.mem_map.mp hn
      have := (rg.Bs B hB).1.rn
      omega
    refine ⟨_, rfl, _, rfl, t, _, 1, _, rfl, rfl, SqT.of (s1 _ _ ht), rfl, _, _, rfl, rfl, _, rfl, t, _, 0, _, rfl, rfl, SqT.of (s1 _ _ ht), rfl, _, _, rfl, rfl, _, _, rfl, _, _, rfl, k _ s1⟩
end
def Row6 (n : Nat) (ms : List Int) : Prop := ms.length = n ∧ ∀ m ∈ ms, 0 ≤ m ∧ m ≤ 6
theorem Row6.sml {n : Nat} {ms : List Int} (h : Row6 n ms) (hn : n ≤ 16) : Sml ms := ⟨by have := h.1; omega, fun m hm => by have := h.2 m hm; omega⟩
theorem sum_nn : ∀ {ms : List Int}, (∀ m ∈ ms, 0 ≤ m) → 0 ≤ ms.sum
  | [], _ => by simp
  | x :: r, h => by
    have h1 := h x List.mem_cons_self
    have h2 := sum_nn (ms := r) fun m hm => h m (List.mem_cons_of_mem _ hm)
    rw [List.sum_cons]
    omega
def spLRaised : Sp := fun vs H Q _ => ∃ (p : Addr) (x : V) (R : RTold) (wet : Int) (r : Addr) (ns : List Int), vs = [x, .int wet, .ref r] ∧ RTAt p H x R ∧ RGood R ∧ H r = some (.lst (ns.map V.int)) ∧ Row6 R.Bs.length ns ∧ ∀ (u : Addr) (ms : List Int) (H' : Hp), Same H H' → H' u = some (.tup (ms.map V.int)) → Row6 R.Bs.length ms → Q (.ref u) H'
def spLRain : Sp := fun vs H Q _ => ∃ (p : Addr) (x : V) (R : RTold) (wet : Int), vs = [.ref p, x, .int wet] ∧ Strm H p ∧ RTAt p H x R ∧ RGood R ∧ (0 ≤ wet ∧ wet ≤ 12) ∧ ∀ (u : Addr) (ms : List Int) (H' : Hp), But p H H' → H' u = some (.tup (ms.map V.int)) → Row6 R.Bs.length ms → Q (.ref u) H'
section
variable {P : Program} {w : World} {K : W.Frag} {mg : Str → Option Value} {base : Heap} {a : Ad}
theorem sc_law_raised : FnScope ["_law_told_here", "_law_wet", "_law_row_here", "_law_found", "_law_k", "_law_one"] ["_law_told_here", "_law_wet", "_law_row_here"] (defScope (top 67)) := ⟨rfl, rfl, rfl, by decide +kernel, rfl, by decide +kernel, by decide +kernel⟩
theorem ok_law_raised (T : Tx K mg a) : FnOk P w K mg base CX0 2 a.a__law_raised a.d__law_raised ["_law_told_here", "_law_wet", "_law_row_here"] spLRaised := by
  have G__law_forced := ok_law_forced (P := P) (w := w) (base := base) T
  refine T.f__law_raised.fn.ok sc_law_raised (fun vs H Q E h => ?_) (fun cdv A outer s H vs Q E hr h => ?_)
  · obtain ⟨p, x, R, wet, r, ns, rfl, _⟩ := h
    rfl
  · obtain ⟨p, x, R, wet, r, ns, rfl, rt, rg, hr0, r6, k⟩ := h
    refine ⟨?t, ?B, ?C⟩
    case B =>
      refine' pss_cons ?s1 ?r1
      case s1 =>
       exact (ps_set (i := 3) sc_law_raised.nd rfl (Or.inl rfl) (pe_callTy call_list_of (by rfl) T.n_list bt_list (pa_cons (pv 2) pa_nil)))
      case r1 =>
       refine' pss_cons ?s3 ?r3
       case s3 =>
        refine' ps_for ?f4_0 ?f4_1 ?f4_2 ?f4_3 ?f4_4
        case f4_0 =>
         exact PassesOwn.never
        case f4_1 =>
         exact rfl
        case f4_2 =>
         exact (pi_enum (by rfl) T.n_enumerate (pa_cons (pe_ix ix_tup (pv 0) pe_int (fun _ _ => rfl)) pa_nil))
        case f4_3 =>
         exact (pg_tup rfl (pgs_cons (pg_name (i := 4) sc_law_raised.nd rfl (Or.inl rfl)) (pgs_cons (pg_name (i := 5) sc_law_raised.nd rfl (Or.inl rfl)) pgs_nil)))
        case f4_4 =>
         refine' pss_one ?s5
         case s5 =>
          exact (ps_asg (pe_op op_add (pe_ix ix_list (pv 3) (pv 4) (fun _ _ => rfl)) (pe_callB (call_min2 rfl) (by rfl) T.n_min bt_min (pa_cons (pe_op op_sub (pe_ix ix_tup (pv 5) pe_int (fun _ _ => rfl)) (pe_ix ix_list (pv 3) (pv 4) (fun _ _ => rfl))) (pa_cons (pe_callB (call_max2 rfl) (by rfl) T.n_max bt_max (pa_cons pe_int (pa_cons (pe_op op_sub (pe_callF T.f__law_forced G__law_forced hr (by decide) (pa_cons (pv 0) (pa_cons (pv 1) pa_nil))) (pe_callB (call_sum rfl) (by rfl) T.n_sum bt_sum (pa_cons (pv 3) pa_nil))) pa_nil))) pa_nil)))) (pg_sub (pv 3) (pv 4) set_list))
       case r3 =>
        refine' pss_one ?s8
        case s8 =>
         exact (ps_ret (pe_callTy call_tuple_of (by rfl) T.n_tuple bt_tuple (pa_cons (pv 3) pa_nil)))
    obtain ⟨t, lb, lt, bs, ts, rfl, ht, hb, btl, htt, ttl, nb, nt⟩ := id rt
    have blen := btl.len
    have hn := rg.n
    refine ⟨_, rfl, r, _, rfl, .inl (SqL.of hr0), fun F hF => ?_⟩
    have s1 := Same.upd (o := .lst (ns.map V.int)) hF
    refine ⟨_, rfl, t, _, 2, _, rfl, rfl, SqT.of (s1 _ _ ht), rfl, ?_⟩
    refine ⟨lb, rfl, ⟨_, SqL.of (s1 _ _ hb)⟩, ?_⟩
    refine for_enu (xs := bs) (fun i σ H' => ∃ (o1 o2 : Option V) (ms : List Int), σ = [some (.ref t), some (.int wet), some (.ref r), some (.ref F), o1, o2] ∧ H' F = some (.lst (ms.map V.int)) ∧ Row6 R.Bs.length ms ∧ Same H H') ?_ ?_ ?_ ?_
    · exact ⟨_, _, ns, rfl, upd_same, r6, s1⟩
    · rintro i σ H' _ ⟨_, _, _, _, _, _, sm⟩
      exact SqL.of (sm _ _ hb)
    · rintro i x σ H' Ta hx ⟨o1, o2, ms, rfl, hFs, q6, sm⟩ hT
      obtain ⟨B, eB, tb, g, rfl, htb, gt⟩ := btl.get hx
      have bg := (rg.Bs B (List.mem_of_getElem? eB)).1
      have sT := Same.upd (o := .tup [.int i, .ref tb]) hT
      have hi : i < R.Bs.length := (List.getElem?_eq_some_iff.mp eB).1
      have hi' : i < ms.length := by have := q6.1; omega
      have htb' := sT _ _ (sm _ _ htb)
      have hFT := sT _ _ hFs
      have hat : atI (ms.map V.int) (i : Int) = some (.int ms[i]) := ints_at hi'
      have b6 := q6.2 _ (List.getElem_mem hi')
      have rn := bg.rn
      refine ⟨Ta, _, rfl, SqT.of upd_same, rfl, _, _, rfl, _, _, rfl, rfl, ?_⟩
      refine ⟨_, rfl, _, rfl, F, _, _, _, rfl, rfl, SqL.of hFT, hat, ?_⟩
      refine ⟨_, rfl, tb, _, 4, _, rfl, rfl, SqT.of htb', rfl, _, rfl, _, rfl, F, _, _, _, rfl, rfl, SqL.of hFT, hat, _, _, rfl, rfl, ?_⟩
      refine ⟨_, rfl, _, rfl, p, _, R, wet, rfl, rt.same rg (sm.trans sT), rg, fun H2 s2 => ?_⟩
      refine ⟨_, rfl, F, ms, rfl, .inl (SqL.of (s2 _ _ hFT)), q6.sml hn.2, _, _, rfl, rfl, _, _, rfl, _, _, rfl, _, _, rfl, rfl, ?_⟩
      have s3 := sm.trans (sT.trans s2)
      have hF2 := s2 _ _ hFT
      have hix : ixN (ms.map V.int).length (i : Int) = some i := by
        unfold ixN
        rw [if_pos (by omega), if_pos (by rw [List.length_map]; omega)]
        rfl
      refine ⟨_, rfl, _, rfl, F, _, _, i, rfl, rfl, hF2, hix, ?_⟩
      generalize ev : ms[i] + (if (if forcedT R wet - ms.sum > 0 then forcedT R wet - ms.sum else 0) < B.rn - ms[i] then if forcedT R wet - ms.sum > 0 then forcedT R wet - ms.sum else 0 else B.rn - ms[i]) = v
      have hv : 0 ≤ v ∧ v ≤ 6 := by
        rw [← ev]
        split <;> split <;> omega
      refine ⟨_, _, ms.set i v, rfl, by rw [upd_same, List.map_set, ← ev], ⟨by rw [List.length_set]; exact q6.1, fun m hm => ?_⟩, fun b o e => ?_⟩
      · rcases List.mem_or_eq_of_mem_set hm with h | h
        · exact q6.2 m h
        · rw [h]
          exact hv
      · rw [upd_ne (ne_of_none e hF)]
        exact s3 _ _ e
    · rintro σ H1 ⟨o1, o2, ms, rfl, hFs, q6, sm⟩
      exact ⟨_, rfl, F, _, rfl, .inl ⟨SqL.of hFs, fun u hu => k u ms _ (sm.trans (Same.upd hu)) upd_same q6⟩⟩
theorem sc_law_rain : FnScope ["_law_stream_here", "_law_told_here", "_law_wet", "_law_found", "_law_one"] ["_law_stream_here", "_law_told_here", "_law_wet"] (defScope (top 68)) := ⟨rfl, rfl, rfl, by decide +kernel, rfl, by decide +kernel, by decide +kernel⟩
theorem ok_law_rain (T : Tx K mg a) : FnOk P w K mg base CX0 3 a.a__law_rain a.d__law_rain ["_law_stream_here", "_law_told_here", "_law_wet"] spLRain := by
  have G__law_take := ok_law_take (P := P) (w := w) (base := base) T
  have G__law_raised := ok_law_raised (P := P) (w := w) (base := base) T
  refine T.f__law_rain.fn.ok sc_law_rain (fun vs H Q E h => ?_) (fun cdv A outer s H vs Q E hr h => ?_)
  · obtain ⟨p, x, R, wet, rfl, _⟩ := h
    rfl
  · obtain ⟨p, x, R, wet, rfl, st, rt, rg, hw, k⟩ := h
    refine ⟨?t, ?B, ?C⟩
    case B =>
      refine' pss_cons ?s1 ?r1
      case s1 =>
       exact (ps_set (i := 3) sc_law_rain.nd rfl (Or.inl rfl) (pe_lst pa_nil))
      case r1 =>
       refine' pss_cons ?s3 ?r3
       case s3 =>
        refine' ps_for ?f4_0 ?f4_1 ?f4_2 ?f4_3 ?f4_4
        case f4_0 =>
         exact PassesOwn.never
        case f4_1 =>
         exact rfl
        case f4_2 =>
         exact (pi_list (pe_ix ix_tup (pv 1) pe_int (fun _ _ => rfl)))
        case f4_3 =>
         exact (pg_name (i := 4) sc_law_rain.nd rfl (Or.inl rfl))
        case f4_4 =>
         refine' pss_one ?s5
         case s5 =>
          exact (ps_expr (pe_bm F.plainAttrs_list F.slot_list_append F.type_list_append mt_append (pv 3) (pa_cons (pe_callF T.f__law_take G__law_take hr (by decide) (pa_cons (pv 0) (pa_cons (pe_op op_add (pe_callB (call_min2 rfl) (by rfl) T.n_min bt_min (pa_cons (pe_ix ix_tup (pv 4) pe_int (fun _ _ => rfl)) (pa_cons (pe_op op_sub (pv 2) (pe_callB (call_sum rfl) (by rfl) T.n_sum bt_sum (pa_cons (pv 3) pa_nil))) pa_nil))) pe_int) pa_nil))) pa_nil)))
       case r3 =>
        refine' pss_one ?s7
        case s7 =>
         exact (ps_ret (pe_callF T.f__law_raised G__law_raised hr (by decide) (pa_cons (pv 1) (pa_cons (pv 2) (pa_cons (pv 3) pa_nil)))))
    obtain ⟨t, lb, lt, bs, ts, rfl, ht, hb, btl, htt, ttl, nb, nt⟩ := id rt
    have blen := btl.len
    have hn := rg.n
    refine ⟨(show 0 ≤ sizeLine by decide), fun F hF => ?_⟩
    have s1 := Same.upd (o := .lst []) hF
    have nF : F ≠ p := st.ne hF
    refine ⟨_, rfl, t, _, 2, _, rfl, rfl, SqT.of (s1 _ _ ht), rfl, lb, rfl, ⟨_, SqL.of (s1 _ _ hb)⟩, ?_⟩
    refine for_list (xs := bs) (fun i σ H' => ∃ (o1 : Option V) (ms : List Int), σ = [some (.ref p), some (.ref t), some (.int wet), some (.ref F), o1] ∧ H' F = some (.lst (ms.map V.int)) ∧ Row6 i ms ∧ ms.sum ≤ wet ∧ But p H H') ?_ ?_ ?_ ?_
    · exact ⟨_, [], rfl, upd_same, ⟨rfl, fun m hm => absurd hm (by simp)⟩, hw.1, But.of st s1⟩
    · rintro i σ H' _ ⟨_, _, _, _, _, _, b⟩
      exact SqL.of (b.1 _ _ nb hb)
    · rintro i x σ H' hx ⟨o1, ms, rfl, hFs, q6, hsum, b⟩
      obtain ⟨B, eB, bt⟩ := btl.get hx
      obtain ⟨tb, g, rfl, htb, gt⟩ := bt.but st b
      have bg := (rg.Bs B (List.mem_of_getElem? eB)).1
      have hi : i < R.Bs.length := (List.getElem?_eq_some_iff.mp eB).1
      have rn := bg.rn
      have hl := q6.1
      have s0 : 0 ≤ ms.sum := sum_nn fun m hm => (q6.2 m hm).1
      refine ⟨_, rfl, .inl ⟨rfl, _, SqL.of hFs⟩, _, rfl, _, rfl, tb, _, 4, _, rfl, rfl, SqT.of htb, rfl, _, rfl, _, rfl, F, ms, rfl, .inl (SqL.of hFs), q6.sml (by omega), _, _, rfl, rfl, _, _, rfl, _, _, rfl, rfl, ?_⟩
      have hm : 0 ≤ (if wet - ms.sum < B.rn then wet - ms.sum else B.rn) ∧ (if wet - ms.sum < B.rn then wet - ms.sum else B.rn) ≤ 6 ∧ (if wet - ms.sum < B.rn then wet - ms.sum else B.rn) ≤ wet - ms.sum := by
        split <;> omega
      refine ⟨p, _, rfl, b.2, by omega, log9k (by omega), fun v H5 v0 v1 b5 => ?_⟩
      have hF5 := b5.1 _ _ nF hFs
      refine ⟨F, _, _, rfl, rfl, hF5, by rw [List.length_map]; exact small2k (by omega), ?_⟩
      refine ⟨_, ms ++ [v], rfl, by rw [upd_same, List.map_append]; rfl, ⟨by rw [List.length_append]; show ms.length + 1 = i + 1; omega, fun m hm' => ?_⟩, by rw [List.sum_append, List.sum_singleton]; omega, (b.trans b5).updD hF nF⟩
      rcases List.mem_append.mp hm' with h | h
      · exact q6.2 m h
      · rw [List.mem_singleton.mp h]
        exact ⟨v0, by omega⟩
    · rintro σ H1 ⟨o1, ms, rfl, hFs, q6, hsum, b⟩
      exact ⟨_, rfl, _, rfl, _, rfl, p, _, R, wet, F, ms, rfl, rt.but rg st b, rg, hFs, ⟨by have := q6.1; omega, q6.2⟩, fun u ns H2 s2 hu r6 => k u ns H2 (b.same s2) hu r6⟩
end
section
variable {P : Program} {w : World} {K : W.Frag} {mg : Str → Option Value} {base : Heap} {a : Ad}
theorem sc_law_whole : FnScope ["_law_thing", "_law_low", "_law_high"] ["_law_thing", "_law_low", "_law_high"] (defScope (top 69)) := ⟨rfl, rfl, rfl, by decide +kernel, rfl, by decide +kernel, by decide +kernel⟩
theorem ok_law_whole (T : Tx K mg a) : FnOk P w K mg base CX0 1 a.a__law_whole a.d__law_whole ["_law_thing", "_law_low", "_law_high"] (spWhole K) := by
  refine T.f__law_whole.fn.ok sc_law_whole (fun vs H Q E h => ?_) (fun cdv A outer s H vs Q E hr h => ?_)
  · obtain ⟨x, lo, hi, rfl, _⟩ := h
    rfl
  · obtain ⟨x, lo, hi, rfl, tm, k⟩ := h
    refine ⟨?t, ?B, ?C⟩
    case B =>
      refine' pss_one ?s1
      case s1 =>
       exact (ps_ret (pe_and (pe_callB call_isA (by rfl) T.n_isinstance bt_isinstance (pa_cons (pv 0) (pa_cons (pe_bltn (v := .ty "int") (by rfl) T.n_int bt_int rfl) pa_nil))) (pe_and (pe_not (pe_callB call_isA (by rfl) T.n_isinstance bt_isinstance (pa_cons (pv 0) (pa_cons (pe_bltn (v := .ty "bool") (by rfl) T.n_bool bt_bool rfl) pa_nil)))) (pe_one (pe_chain op_le op_le (pv 1) (pv 0) (pv 2))))))
    rcases tm with ⟨i, rfl⟩ | ⟨t, ty, ht⟩
    · refine ⟨_, rfl, _, _, _, _, _, rfl, rfl, .of (.int i), (by rfl : W.kitOne K (.type "int") (.type "int") = some true), _, rfl, iteT ?_⟩
      refine ⟨_, rfl, _, _, _, _, _, rfl, rfl, .of (.int i), (by rfl : W.kitOne K (.type "int") (.type "bool") = some false), _, rfl, ?_⟩
      have k' : Q (.bl (decide (lo ≤ i) && decide (i ≤ hi))) H := k
      refine ⟨_, rfl, iteT ⟨_, rfl, _, rfl, _, _, rfl, rfl, _, rfl, ?_⟩⟩
      by_cases h1 : lo ≤ i
      · rw [decide_eq_true h1] at k' ⊢
        exact iteT ⟨_, rfl, _, _, rfl, rfl, by simpa using k'⟩
      · rw [decide_eq_false h1] at k' ⊢
        exact iteF (by simpa using k')
    · rw [not_int ty ht] at k
      have e := tp_int (K := K) ht
      cases eb : (t == .type "bool") with
      | true =>
        rw [eb] at e
        exact ⟨_, rfl, _, _, _, _, _, rfl, rfl, ty, e.1, _, rfl, iteT ⟨_, rfl, _, _, _, _, _, rfl, rfl, ty, e.2, _, rfl, ⟨_, rfl, iteF k⟩⟩⟩
      | false =>
        rw [eb] at e
        exact ⟨_, rfl, _, _, _, _, _, rfl, rfl, ty, e.1, _, rfl, iteF k⟩
end
theorem dat_ints {K : W.Frag} {H : Hp} : ∀ ns : List Int, DatVs K H (ns.map V.int) (ns.map PyData.int)
  | [] => .nil
  | _ :: r => .cons (.int _) (dat_ints r)
theorem shaped_lints (ns : List Int) : SeqAt.shaped (.list (ns.map PyData.int)) = true := by
  have e1 : ∀ l : List Int, PyData.canLayAll0 (l.map PyData.int) = true := by
    intro l
    induction l with
    | nil => rfl
    | cons c r ih => simp only [List.map_cons, PyData.canLayAll0, PyData.canLay0, ih, Bool.and_self]
  have e2 : ∀ l : List Int, PyData.depthAll (l.map PyData.int) = 0 := by
    intro l
    induction l with
    | nil => rfl
    | cons c r ih => simp [PyData.depthAll, PyData.depth, ih]
  simp [SeqAt.shaped, PyData.canLay0, PyData.depth, e1 ns, e2]
theorem eqv_niln (ns : List Int) : PyData.eqv (.list (ns.map PyData.int)) (.list []) = ns.isEmpty := by
  cases ns <;> rfl
section
variable {P : Program} {w : World} {K : W.Frag} {mg : Str → Option Value} {base : Heap} {a : Ad}
theorem sc_law_row : FnScope ["_law_thing", "_law_lows", "_law_highs"] ["_law_thing", "_law_lows", "_law_highs"] (defScope (top 70)) := ⟨rfl, rfl, rfl, by decide +kernel, rfl, by decide +kernel, by decide +kernel⟩
theorem ok_law_row (T : Tx K mg a) : FnOk P w K mg base CX0 2 a.a__law_row a.d__law_row ["_law_thing", "_law_lows", "_law_highs"] (spRow K) := by
  have G__law_whole := ok_law_whole (P := P) (w := w) (base := base) T
  refine T.f__law_row.fn.ok sc_law_row (fun vs H Q E h => ?_) (fun cdv A outer s H vs Q E hr h => ?_)
  · obtain ⟨x, r, l, m, ls, hs, rfl, _⟩ := h
    rfl
  · obtain ⟨x, r, l, m, ls, hs, rfl, rt, hl, hm, e1, e2, k⟩ := h
    have hu64 := hu64_of hr
    refine ⟨?t, ?B, ?C⟩
    case B =>
      refine' pss_cons ?s1 ?r1
      case s1 =>
       refine' ps_if ?c2 ?a2 ?b2
       case c2 =>
        exact (pw_or (pt_not (pt_val (pe_callB call_isA (by rfl) T.n_isinstance bt_isinstance (pa_cons (pv 0) (pa_cons (pe_bltn (v := .ty "tuple") (by rfl) T.n_tuple bt_tuple rfl) pa_nil))))) (pw_or1 (pt_cmpR op_ne (pe_callB call_len_seq (by rfl) T.n_len bt_len (pa_cons (pv 0) pa_nil)) (pe_callB call_len_seq (by rfl) T.n_len bt_len (pa_cons (pv 1) pa_nil)) (nomark _)))).pt
       case a2 =>
        refine' pss_one ?s3
        case s3 =>
         exact (ps_ret pe_bl)
       case b2 =>
        exact pss_nil
      case r1 =>
       refine' pss_one ?s7
       case s7 =>
        exact (ps_ret (pe_cmpR (op_eqD hu64) (pe_comp (N := (["_law_k", "_law_one", "_law_lows", "_law_highs"] : List Str)) (ini := [none, none, some 1, some 2]) rfl (pi_enumT (by rfl) T.n_enumerate (pa_cons (pv 0) pa_nil)) (fun _ _ _ _ _ => (pg_tupK (K := K) (n := 2) rfl rfl (pgs_cons (pg_name (i := 0) (by decide +kernel : (["_law_k", "_law_one", "_law_lows", "_law_highs"] : List Str).Nodup) rfl (Or.inl rfl)) (pgs_cons (pg_name (i := 1) (by decide +kernel : (["_law_k", "_law_one", "_law_lows", "_law_highs"] : List Str).Nodup) rfl (Or.inl rfl)) pgs_nil)))) (fun _ _ _ _ _ => (pif_one (pt_not (pt_val (pe_callF T.f__law_whole G__law_whole hr (by decide) (pa_cons (pv 1) (pa_cons (pe_ix (ix_listK (K := K) rfl) (pv 2) (pv 0) (fun _ _ => rfl)) (pa_cons (pe_ix (ix_listK (K := K) rfl) (pv 3) (pv 0) (fun _ _ => rfl)) pa_nil)))))))) (fun _ _ _ _ _ => (pv 0))) (pe_lst pa_nil) (nomark _)))
    cases r with
    | none =>
      obtain ⟨t, ty, ek⟩ := rt
      refine ⟨_, rfl, x, _, _, t, _, rfl, rfl, ty, ek, _, rfl, iteT ?_⟩
      refine iteT ?_
      exact k _ (fun _ _ h => h)
    | some vs =>
      obtain ⟨p, rfl, hp, tms, hn⟩ := rt
      refine ⟨_, rfl, _, _, _, .type "tuple", true, rfl, rfl, .of (.tup hp), rfl, _, rfl, iteF ?_⟩
      refine ⟨_, rfl, p, _, rfl, .inr (SqT.of hp), _, rfl, l, _, rfl, .inl (SqL.of hl), rfl, ?_⟩
      by_cases en : vs.length = ls.length
      · refine ⟨_, rfl, ifF (by simp [en]) ?_⟩
        refine ⟨_, rfl, p, rfl, ⟨_, SqT.of hp⟩, fun D hD => ?_⟩
        have s0 := Same.upd (o := .lst []) hD
        refine comp_enuT (K := K) (a := p) (xs := vs) (D := D) (fun i σ H' => ∃ (o1 o2 : Option V) (ns : List Int), σ = [o1, o2, some (.ref l), some (.ref m)] ∧ H' D = some (.lst (ns.map V.int)) ∧ ns.length ≤ i ∧ ns.isEmpty = ((wl vs ls hs).take i).all id ∧ Same H H') ⟨_, _, [], rfl, upd_same, Nat.le_refl _, rfl, s0⟩ (fun i σ H' _ ⟨_, _, _, _, _, _, _, sm⟩ => SqT.of (sm _ _ hp)) ?_ ?_
        · rintro i x σ H' Ta hx ⟨o1, o2, ns, rfl, hDs, ln, en2, sm⟩ hT
          have hi : i < vs.length := (List.getElem?_eq_some_iff.mp hx).1
          have hi1 : i < ls.length := by omega
          have hi2 : i < hs.length := by omega
          have sT := Same.upd (o := .tup [.int i, x]) hT
          obtain ⟨lo, hi', q1, q2, ew⟩ := wl_get (ls := ls) (hs := hs) hx (show (ls.map V.int)[i]? = some (.int ls[i]) by simp [hi1]) (show (hs.map V.int)[i]? = some (.int hs[i]) by simp [hi2])
          have sm2 := sm.trans sT
          have tk : ((wl vs ls hs).take (i + 1)).all id = (((wl vs ls hs).take i).all id && wholeB x lo hi') := by
            rw [List.take_add_one, ew]
            simp
          refine ⟨Ta, _, rfl, SqT.of upd_same, rfl, _, _, rfl, _, _, rfl, rfl, ?_⟩
          refine ⟨_, rfl, _, rfl, _, rfl, l, _, _, _, rfl, rfl, SqL.of (sm2 _ _ hl), (show atI (ls.map V.int) (i : Int) = some (.int lo) by rw [ints_at hi1, q1]), ?_⟩
          refine ⟨_, rfl, _, rfl, m, _, _, _, rfl, rfl, SqL.of (sm2 _ _ hm), (show atI (hs.map V.int) (i : Int) = some (.int hi') by rw [ints_at hi2, q2]), x, lo, hi', rfl, (tms _ (List.mem_of_getElem? hx)).same sm2, _, rfl, ?_⟩
          cases ewb : wholeB x lo hi' with
          | true =>
            refine iteF ⟨_, _, ns, rfl, sT _ _ hDs, by omega, ?_, sm2⟩
            rw [tk, ewb, Bool.and_true]
            exact en2
          | false =>
            refine iteT ⟨_, rfl, _, sT _ _ hDs, by rw [List.length_map]; exact small2k (by omega), _, _, ns ++ [(i : Int)], rfl, by rw [upd_same, List.map_append]; rfl, by rw [List.length_append]; show ns.length + 1 ≤ i + 1; omega, ?_, ?_⟩
            · rw [tk, ewb, Bool.and_false]
              simp
            · intro c o z
              rw [upd_ne (ne_of_none z hD)]
              exact sm2 _ _ z
        rintro σ H1 ⟨o1, o2, ns, rfl, hDs, ln, en2, sm⟩
        rw [List.take_of_length_le (by rw [wl_len en e1]; omega)] at en2
        refine ⟨small_lit _ (by show 0 ≤ 2000; decide), fun q hq => ⟨_, _, .lst (SqL.of (by rw [upd_ne (fun z => by rw [z, hq] at hDs; cases hDs)]; exact hDs)) (dat_ints ns), .lst (SqL.of upd_same) .nil, shaped_lints ns, rfl, ?_⟩⟩
        have e : rowB (some vs) ls hs = PyData.eqv (.list (ns.map PyData.int)) (.list []) := by
          rw [eqv_niln, en2]
          show (decide (vs.length = ls.length) && _) = _
          rw [decide_eq_true en, Bool.true_and]
        have k' := k _ (sm.trans (Same.upd (o := .lst []) hq))
        rw [e] at k'
        exact k'
      · refine ⟨_, rfl, ifT (by simp; omega) ?_⟩
        have e : rowB (some vs) ls hs = false := by
          show (decide (vs.length = ls.length) && _) = _
          rw [decide_eq_false en, Bool.false_and]
        rw [e] at k
        exact k _ (fun _ _ h => h)
end
def stT (R : RTold) : Pr → Bool
  | .two _ w r => wholeB w 0 R.c && rowB r (R.Bs.map (·.lo)) (R.Bs.map (·.hi))
  | _ => false
def chT (R : RTold) : Pr → Bool
  | .two _ w r => townB R.Ts.length w && rowB r (List.replicate R.Bs.length 0) (R.Bs.map fun B => (nOf B.G : Int) - 1)
  | _ => false
def rnT (R : RTold) (wet : Int) : Option (List V) → Bool
  | some vs => rowB (some vs) (List.replicate R.Bs.length 0) (R.Bs.map (·.rn)) && (decide (forcedT R wet ≤ sumV vs) && decide (sumV vs ≤ wet))
  | none => false
def spLIsSt (K : W.Frag) : Sp := fun vs H Q _ => ∃ (p : Addr) (t : V) (R : RTold) (x : V) (r : Pr), vs = [t, x] ∧ RTAt p H t R ∧ RGood R ∧ PrT K H x r ∧ ∀ H', Same H H' → Q (.bl (stT R r)) H'
def spLIsCh (K : W.Frag) : Sp := fun vs H Q _ => ∃ (p : Addr) (t : V) (R : RTold) (x : V) (r : Pr), vs = [t, x] ∧ RTAt p H t R ∧ RGood R ∧ PrT K H x r ∧ ∀ H', Same H H' → Q (.bl (chT R r)) H'
def spLIsRn (K : W.Frag) : Sp := fun vs H Q _ => ∃ (p : Addr) (t : V) (R : RTold) (wet : Int) (x : V) (r : Option (List V)), vs = [t, .int wet, x] ∧ RTAt p H t R ∧ RGood R ∧ RowT K H x r ∧ ∀ H', Same H H' → Q (.bl (rnT R wet r)) H'
section
variable {P : Program} {w : World} {K : W.Frag} {mg : Str → Option Value} {base : Heap} {a : Ad}
theorem sc_law_is_standing : FnScope ["_law_told_here", "_law_thing"] ["_law_told_here", "_law_thing"] (defScope (top 71)) := ⟨rfl, rfl, rfl, by decide +kernel, rfl, by decide +kernel, by decide +kernel⟩
theorem ok_law_is_standing (T : Tx K mg a) : FnOk P w K mg base CX0 3 a.a__law_is_standing a.d__law_is_standing ["_law_told_here", "_law_thing"] (spLIsSt K) := by
  have G__law_whole := ok_law_whole (P := P) (w := w) (base := base) T
  have G__law_row := ok_law_row (P := P) (w := w) (base := base) T
  refine T.f__law_is_standing.fn.ok sc_law_is_standing (fun vs H Q E h => ?_) (fun cdv A outer s H vs Q E hr h => ?_)
  · obtain ⟨p, t, R, x, r, rfl, _⟩ := h
    rfl
  · obtain ⟨p, t, R, x, r, rfl, rt, rg, rx, k⟩ := h
    refine ⟨?t, ?B, ?C⟩
    case B =>
      refine' pss_cons ?s1 ?r1
      case s1 =>
       refine' ps_if ?c2 ?a2 ?b2
       case c2 =>
        exact (pw_or (pt_not (pt_val (pe_callB call_isA (by rfl) T.n_isinstance bt_isinstance (pa_cons (pv 1) (pa_cons (pe_bltn (v := .ty "tuple") (by rfl) T.n_tuple bt_tuple rfl) pa_nil))))) (pw_or (pt_cmpR op_ne (pe_callB call_len_seq (by rfl) T.n_len bt_len (pa_cons (pv 1) pa_nil)) pe_int (nomark _)) (pw_or1 (pt_not (pt_val (pe_callF T.f__law_whole G__law_whole hr (by decide) (pa_cons (pe_ix ix_tup (pv 1) pe_int (fun _ _ => rfl)) (pa_cons pe_int (pa_cons (pe_ix ix_tup (pv 0) pe_int (fun _ _ => rfl)) pa_nil))))))))).pt
       case a2 =>
        refine' pss_one ?s3
        case s3 =>
         exact (ps_ret pe_bl)
       case b2 =>
        exact pss_nil
      case r1 =>
       refine' pss_one ?s7
       case s7 =>
        exact (ps_ret (pe_callF T.f__law_row G__law_row hr (by decide) (pa_cons (pe_ix ix_tup (pv 1) pe_int (fun _ _ => rfl)) (pa_cons (pe_comp (N := (["_law_one"] : List Str)) (ini := [none]) rfl (pi_list (pe_ix ix_tup (pv 0) pe_int (fun _ _ => rfl))) (fun _ _ _ _ _ => (pg_name (i := 0) (by decide +kernel : (["_law_one"] : List Str).Nodup) rfl (Or.inl rfl))) (fun _ _ _ _ _ => pif_nil) (fun _ _ _ _ _ => (pe_ix (ix_tupK (K := K) rfl) (pv 0) pe_int (fun _ _ => rfl)))) (pa_cons (pe_comp (N := (["_law_one"] : List Str)) (ini := [none]) rfl (pi_list (pe_ix ix_tup (pv 0) pe_int (fun _ _ => rfl))) (fun _ _ _ _ _ => (pg_name (i := 0) (by decide +kernel : (["_law_one"] : List Str).Nodup) rfl (Or.inl rfl))) (fun _ _ _ _ _ => pif_nil) (fun _ _ _ _ _ => (pe_ix (ix_tupK (K := K) rfl) (pv 0) pe_int (fun _ _ => rfl)))) pa_nil)))))
    obtain ⟨t, lb, lt, bs, ts, rfl, ht, hb, btl, htt, ttl, nb, nt⟩ := id rt
    have blen := btl.len
    have hn := rg.n
    cases r with
    | no =>
      obtain ⟨ty, tyx, ek⟩ := rx
      refine ⟨_, rfl, x, _, _, ty, _, rfl, rfl, tyx, ek, _, rfl, iteT ?_⟩
      exact iteT (k _ fun _ _ h => h)
    | oth vs =>
      obtain ⟨q, rfl, hq, ne⟩ := rx
      refine ⟨_, rfl, _, _, _, .type "tuple", true, rfl, rfl, .of (.tup hq), rfl, _, rfl, iteF ?_⟩
      refine ⟨_, rfl, q, _, rfl, .inr (SqT.of hq), rfl, _, rfl, ifT (by simp; omega) ?_⟩
      exact iteT (k _ fun _ _ h => h)
    | two u y r =>
      obtain ⟨q, rfl, hq, rt2, ty⟩ := rx
      refine ⟨_, rfl, _, _, _, .type "tuple", true, rfl, rfl, .of (.tup hq), rfl, _, rfl, iteF ?_⟩
      refine ⟨_, rfl, q, _, rfl, .inr (SqT.of hq), rfl, _, rfl, ifF (by simp) ?_⟩
      refine ⟨_, rfl, q, _, 1, y, rfl, rfl, SqT.of hq, rfl, _, rfl, t, _, 0, _, rfl, rfl, SqT.of ht, rfl, y, 0, R.c, rfl, ty, _, rfl, ?_⟩
      cases ew : wholeB y 0 R.c with
      | false =>
        have e : stT R (.two u y r) = false := by
          show (wholeB y 0 R.c && _) = false
          rw [ew, Bool.false_and]
        rw [e] at k
        exact iteT (k _ fun _ _ h => h)
      | true =>
        have e : stT R (.two u y r) = rowB r (R.Bs.map (·.lo)) (R.Bs.map (·.hi)) := by
          show (wholeB y 0 R.c && _) = _
          rw [ew, Bool.true_and]
        rw [e] at k
        refine iteF ⟨_, rfl, q, _, 0, u, rfl, rfl, SqT.of hq, rfl, ?_⟩
        refine ⟨_, rfl, t, _, 2, _, rfl, rfl, SqT.of ht, rfl, lb, rfl, ⟨_, SqL.of hb⟩, fun D hD => ?_⟩
        refine comp_listF ((R.Bs.map (·.lo)).map V.int) hD (by simp [blen]) (by omega) hb ?_ ?_
        · intro i x y H' Q' hx hy sm k'
          obtain ⟨B, eB, tb, g, rfl, htb, gt⟩ := btl.get hx
          rw [List.getElem?_map, List.getElem?_map, eB] at hy
          cases hy
          exact ⟨_, rfl, tb, _, 1, _, rfl, rfl, SqT.of (sm _ _ htb), rfl, k' _ fun _ _ h => h⟩
        intro H1 s1 hD1
        refine ⟨_, rfl, t, _, 2, _, rfl, rfl, SqT.of (s1 _ _ ht), rfl, lb, rfl, ⟨_, SqL.of (s1 _ _ hb)⟩, fun D2 hD2 => ?_⟩
        refine comp_listF ((R.Bs.map (·.hi)).map V.int) hD2 (by simp [blen]) (by omega) (s1 _ _ hb) ?_ ?_
        · intro i x y H' Q' hx hy sm k'
          obtain ⟨B, eB, tb, g, rfl, htb, gt⟩ := btl.get hx
          rw [List.getElem?_map, List.getElem?_map, eB] at hy
          cases hy
          exact ⟨_, rfl, tb, _, 2, _, rfl, rfl, SqT.of (sm _ _ (s1 _ _ htb)), rfl, k' _ fun _ _ h => h⟩
        intro H2 s2 hD3
        exact ⟨u, r, D, D2, _, _, rfl, rt2.same (s1.trans s2), s2 _ _ hD1, hD3, by simp, by rw [List.length_map]; omega, fun H3 s3 => k _ ((s1.trans s2).trans s3)⟩
theorem sc_law_is_choice : FnScope ["_law_told_here", "_law_thing"] ["_law_told_here", "_law_thing"] (defScope (top 72)) := ⟨rfl, rfl, rfl, by decide +kernel, rfl, by decide +kernel, by decide +kernel⟩
theorem ok_law_is_choice (T : Tx K mg a) : FnOk P w K mg base CX0 3 a.a__law_is_choice a.d__law_is_choice ["_law_told_here", "_law_thing"] (spLIsCh K) := by
  have G__law_whole := ok_law_whole (P := P) (w := w) (base := base) T
  have G__law_row := ok_law_row (P := P) (w := w) (base := base) T
  have G__law_settings := ok_law_settings (P := P) (w := w) (base := base) T
  refine T.f__law_is_choice.fn.ok sc_law_is_choice (fun vs H Q E h => ?_) (fun cdv A outer s H vs Q E hr h => ?_)
  · obtain ⟨p, t, R, x, r, rfl, _⟩ := h
    rfl
  · obtain ⟨p, t, R, x, r, rfl, rt, rg, rx, k⟩ := h
    refine ⟨?t, ?B, ?C⟩
    case B =>
      refine' pss_cons ?s1 ?r1
      case s1 =>
       refine' ps_if ?c2 ?a2 ?b2
       case c2 =>
        exact (pw_or (pt_not (pt_val (pe_callB call_isA (by rfl) T.n_isinstance bt_isinstance (pa_cons (pv 1) (pa_cons (pe_bltn (v := .ty "tuple") (by rfl) T.n_tuple bt_tuple rfl) pa_nil))))) (pw_or1 (pt_cmpR op_ne (pe_callB call_len_seq (by rfl) T.n_len bt_len (pa_cons (pv 1) pa_nil)) pe_int (nomark _)))).pt
       case a2 =>
        refine' pss_one ?s3
        case s3 =>
         exact (ps_ret pe_bl)
       case b2 =>
        exact pss_nil
      case r1 =>
       refine' pss_cons ?s7 ?r7
       case s7 =>
        refine' ps_if ?c8 ?a8 ?b8
        case c8 =>
         exact (pw_and (pt_cmpR op_notN (pe_ix ix_tup (pv 1) pe_int (fun _ _ => rfl)) pe_non (nomark _)) (pw_and1 (pt_not (pt_val (pe_callF T.f__law_whole G__law_whole hr (by decide) (pa_cons (pe_ix ix_tup (pv 1) pe_int (fun _ _ => rfl)) (pa_cons pe_int (pa_cons (pe_op op_sub (pe_callB call_len_seq (by rfl) T.n_len bt_len (pa_cons (pe_ix ix_tup (pv 0) pe_int (fun _ _ => rfl)) pa_nil)) pe_int) pa_nil)))))))).pt
        case a8 =>
         refine' pss_one ?s9
         case s9 =>
          exact (ps_ret pe_bl)
        case b8 =>
         exact pss_nil
       case r7 =>
        refine' pss_one ?s13
        case s13 =>
         exact (ps_ret (pe_callF T.f__law_row G__law_row hr (by decide) (pa_cons (pe_ix ix_tup (pv 1) pe_int (fun _ _ => rfl)) (pa_cons (pe_comp (N := (["_law_one"] : List Str)) (ini := [none]) rfl (pi_list (pe_ix ix_tup (pv 0) pe_int (fun _ _ => rfl))) (fun _ _ _ _ _ => (pg_name (i := 0) (by decide +kernel : (["_law_one"] : List Str).Nodup) rfl (Or.inl rfl))) (fun _ _ _ _ _ => pif_nil) (fun _ _ _ _ _ => pe_int)) (pa_cons (pe_comp (N := (["_law_one"] : List Str)) (ini := [none]) rfl (pi_list (pe_ix ix_tup (pv 0) pe_int (fun _ _ => rfl))) (fun _ _ _ _ _ => (pg_name (i := 0) (by decide +kernel : (["_law_one"] : List Str).Nodup) rfl (Or.inl rfl))) (fun _ _ _ _ _ => pif_nil) (fun _ _ _ _ _ => (pe_op op_sub (pe_callF T.f__law_settings G__law_settings hr (by decide) (pa_cons (pe_ix (ix_tupK (K := K) rfl) (pv 0) pe_int (fun _ _ => rfl)) pa_nil)) pe_int))) pa_nil)))))
    obtain ⟨t, lb, lt, bs, ts, rfl, ht, hb, btl, htt, ttl, nb, nt⟩ := id rt
    have blen := btl.len
    have tlen := ttl.len
    have hn := rg.n
    cases r with
    | no =>
      obtain ⟨ty, tyx, ek⟩ := rx
      refine ⟨_, rfl, x, _, _, ty, _, rfl, rfl, tyx, ek, _, rfl, iteT ?_⟩
      exact iteT (k _ fun _ _ h => h)
    | oth vs =>
      obtain ⟨q, rfl, hq, ne⟩ := rx
      refine ⟨_, rfl, _, _, _, .type "tuple", true, rfl, rfl, .of (.tup hq), rfl, _, rfl, iteF ?_⟩
      refine ⟨_, rfl, q, _, rfl, .inr (SqT.of hq), rfl, _, rfl, ifT (by simp; omega) ?_⟩
      exact k _ fun _ _ h => h
    | two u y r =>
      obtain ⟨q, rfl, hq, rt2, ty⟩ := rx
      refine ⟨_, rfl, _, _, _, .type "tuple", true, rfl, rfl, .of (.tup hq), rfl, _, rfl, iteF ?_⟩
      refine ⟨_, rfl, q, _, rfl, .inr (SqT.of hq), rfl, _, rfl, ifF (by simp) ?_⟩
      refine ⟨_, rfl, q, _, 1, y, rfl, rfl, SqT.of hq, rfl, ?_⟩
      by_cases hy : y = .non
      · have et : townB R.Ts.length y = true := by rw [hy]; rfl
        refine ⟨rfl, _, rfl, ifF (by rw [decide_eq_true hy]; rfl) ?_⟩
        refine iteF ?_
        have e : chT R (.two u y r) = rowB r (List.replicate R.Bs.length 0) (R.Bs.map fun B => (nOf B.G : Int) - 1) := by
          show (townB R.Ts.length y && _) = _
          rw [et, Bool.true_and]
        rw [e] at k
        refine ⟨_, rfl, q, _, 0, u, rfl, rfl, SqT.of hq, rfl, ?_⟩
        refine ⟨_, rfl, t, _, 2, _, rfl, rfl, SqT.of ht, rfl, lb, rfl, ⟨_, SqL.of hb⟩, fun D hD => ?_⟩
        refine comp_listF ((List.replicate R.Bs.length (0 : Int)).map V.int) hD (by simp [blen]) (by omega) hb ?_ ?_
        · intro i x y H' Q' hx hy sm k'
          have e : y = .int 0 := by
            rw [List.map_replicate, List.getElem?_replicate] at hy
            split at hy
            · exact (Option.some.inj hy).symm
            · cases hy
          subst e
          exact k' _ (fun _ _ h => h)
        intro H1 s1 hD1
        refine ⟨_, rfl, t, _, 2, _, rfl, rfl, SqT.of (s1 _ _ ht), rfl, lb, rfl, ⟨_, SqL.of (s1 _ _ hb)⟩, fun D2 hD2 => ?_⟩
        refine comp_listF ((R.Bs.map fun B => (nOf B.G : Int) - 1).map V.int) hD2 (by simp [blen]) (by omega) (s1 _ _ hb) ?_ ?_
        · intro i x y H' Q' hx hy sm k'
          obtain ⟨B, eB, tb, g, rfl, htb, gt⟩ := btl.get hx
          rw [List.getElem?_map, List.getElem?_map, eB] at hy
          cases hy
          refine ⟨_, rfl, tb, _, 5, _, rfl, rfl, SqT.of (sm _ _ (s1 _ _ htb)), rfl, p, g, B.G, rfl, gt.same (s1.trans sm), fun H2 s2 => ?_⟩
          exact ⟨_, _, rfl, rfl, k' _ s2⟩
        intro H2 s2 hD3
        exact ⟨u, r, D, D2, _, _, rfl, rt2.same (s1.trans s2), s2 _ _ hD1, hD3, by simp, by rw [List.length_replicate]; omega, fun H3 s3 => k _ ((s1.trans s2).trans s3)⟩
      · refine ⟨rfl, _, rfl, ifT (by rw [decide_eq_false hy]; rfl) ?_⟩
        have eT : townB R.Ts.length y = wholeB y 0 ((R.Ts.length : Int) - 1) := by
          cases y <;> first | rfl | exact absurd rfl hy
        refine ⟨_, rfl, q, _, 1, y, rfl, rfl, SqT.of hq, rfl, ?_⟩
        refine ⟨_, rfl, t, _, 3, _, rfl, rfl, SqT.of ht, rfl, lt, _, rfl, .inl (SqL.of htt), _, _, rfl, rfl, y, 0, (R.Ts.length : Int) - 1, by rw [tlen]; rfl, ty, _, rfl, ?_⟩
        cases ew : wholeB y 0 ((R.Ts.length : Int) - 1) with
        | false =>
          have e : chT R (.two u y r) = false := by
            show (townB R.Ts.length y && _) = false
            rw [eT, ew, Bool.false_and]
          rw [e] at k
          exact iteT (k _ fun _ _ h => h)
        | true =>
          have et := eT.trans ew
          refine iteF ?_
          have e : chT R (.two u y r) = rowB r (List.replicate R.Bs.length 0) (R.Bs.map fun B => (nOf B.G : Int) - 1) := by
            show (townB R.Ts.length y && _) = _
            rw [et, Bool.true_and]
          rw [e] at k
          refine ⟨_, rfl, q, _, 0, u, rfl, rfl, SqT.of hq, rfl, ?_⟩
          refine ⟨_, rfl, t, _, 2, _, rfl, rfl, SqT.of ht, rfl, lb, rfl, ⟨_, SqL.of hb⟩, fun D hD => ?_⟩
          refine comp_listF ((List.replicate R.Bs.length (0 : Int)).map V.int) hD (by simp [blen]) (by omega) hb ?_ ?_
          · intro i x y H' Q' hx hy sm k'
            have e : y = .int 0 := by
              rw [List.map_replicate, List.getElem?_replicate] at hy
              split at hy
              · exact (Option.some.inj hy).symm
              · cases hy
            subst e
            exact k' _ (fun _ _ h => h)
          intro H1 s1 hD1
          refine ⟨_, rfl, t, _, 2, _, rfl, rfl, SqT.of (s1 _ _ ht), rfl, lb, rfl, ⟨_, SqL.of (s1 _ _ hb)⟩, fun D2 hD2 => ?_⟩
          refine comp_listF ((R.Bs.map fun B => (nOf B.G : Int) - 1).map V.int) hD2 (by simp [blen]) (by omega) (s1 _ _ hb) ?_ ?_
          · intro i x y H' Q' hx hy sm k'
            obtain ⟨B, eB, tb, g, rfl, htb, gt⟩ := btl.get hx
            rw [List.getElem?_map, List.getElem?_map, eB] at hy
            cases hy
            refine ⟨_, rfl, tb, _, 5, _, rfl, rfl, SqT.of (sm _ _ (s1 _ _ htb)), rfl, p, g, B.G, rfl, gt.same (s1.trans sm), fun H2 s2 => ?_⟩
            exact ⟨_, _, rfl, rfl, k' _ s2⟩
          intro H2 s2 hD3
          exact ⟨u, r, D, D2, _, _, rfl, rt2.same (s1.trans s2), s2 _ _ hD1, hD3, by simp, by rw [List.length_replicate]; omega, fun H3 s3 => k _ ((s1.trans s2).trans s3)⟩
theorem row_ints2 {n : Nat} {hs : List Int} {r : Option (List V)} (h : rowB r (List.replicate n 0) hs = true) (en : n = hs.length) (n1 : n ≤ 16) (n3 : ∀ x ∈ hs, x ≤ 6) : ∃ (vs : List V) (ns : List Int), r = some vs ∧ vs = ns.map V.int ∧ Sml ns := by
  cases r with
  | none => cases h
  | some vs =>
    have h' : (decide (vs.length = (List.replicate n (0 : Int)).length) && (wl vs (List.replicate n 0) hs).all id) = true := h
    rw [Bool.and_eq_true] at h'
    have e1 : vs.length = n := by simpa using h'.1
    obtain ⟨ns, rfl, l, q⟩ := wl_ints e1 en h'.2
    refine ⟨_, ns, rfl, rfl, by omega, fun k hk => ?_⟩
    obtain ⟨g1, x, hx, g2⟩ := q k hk
    have := n3 x hx
    omega
theorem sc_law_is_rain : FnScope ["_law_told_here", "_law_wet", "_law_thing"] ["_law_told_here", "_law_wet", "_law_thing"] (defScope (top 73)) := ⟨rfl, rfl, rfl, by decide +kernel, rfl, by decide +kernel, by decide +kernel⟩
theorem ok_law_is_rain (T : Tx K mg a) : FnOk P w K mg base CX0 3 a.a__law_is_rain a.d__law_is_rain ["_law_told_here", "_law_wet", "_law_thing"] (spLIsRn K) := by
  have G__law_row := ok_law_row (P := P) (w := w) (base := base) T
  have G__law_forced := ok_law_forced (P := P) (w := w) (base := base) T
  refine T.f__law_is_rain.fn.ok sc_law_is_rain (fun vs H Q E h => ?_) (fun cdv A outer s H vs Q E hr h => ?_)
  · obtain ⟨p, t, R, wet, x, r, rfl, _⟩ := h
    rfl
  · obtain ⟨p, t, R, wet, x, r, rfl, rt, rg, rx, k⟩ := h
    refine ⟨?t, ?B, ?C⟩
    case B =>
      refine' pss_cons ?s1 ?r1
      case s1 =>
       refine' ps_if ?c2 ?a2 ?b2
       case c2 =>
        exact (pt_not (pt_val (pe_callF T.f__law_row G__law_row hr (by decide) (pa_cons (pv 2) (pa_cons (pe_comp (N := (["_law_one"] : List Str)) (ini := [none]) rfl (pi_list (pe_ix ix_tup (pv 0) pe_int (fun _ _ => rfl))) (fun _ _ _ _ _ => (pg_name (i := 0) (by decide +kernel : (["_law_one"] : List Str).Nodup) rfl (Or.inl rfl))) (fun _ _ _ _ _ => pif_nil) (fun _ _ _ _ _ => pe_int)) (pa_cons (pe_comp (N := (["_law_one"] : List Str)) (ini := [none]) rfl (pi_list (pe_ix ix_tup (pv 0) pe_int (fun _ _ => rfl))) (fun _ _ _ _ _ => (pg_name (i := 0) (by decide +kernel : (["_law_one"] : List Str).Nodup) rfl (Or.inl rfl))) (fun _ _ _ _ _ => pif_nil) (fun _ _ _ _ _ => (pe_ix (ix_tupK (K := K) rfl) (pv 0) pe_int (fun _ _ => rfl)))) pa_nil))))))
       case a2 =>
        refine' pss_one ?s3
        case s3 =>
         exact (ps_ret pe_bl)
       case b2 =>
        exact pss_nil
      case r1 =>
       refine' pss_one ?s7
       case s7 =>
        exact (ps_ret (pe_chain op_le op_le (pe_callF T.f__law_forced G__law_forced hr (by decide) (pa_cons (pv 0) (pa_cons (pv 1) pa_nil))) (pe_callB (call_sum rfl) (by rfl) T.n_sum bt_sum (pa_cons (pv 2) pa_nil)) (pv 1)))
    obtain ⟨t, lb, lt, bs, ts, rfl, ht, hb, btl, htt, ttl, nb, nt⟩ := id rt
    have blen := btl.len
    have hn := rg.n
    refine ⟨_, rfl, _, rfl, t, _, 2, _, rfl, rfl, SqT.of ht, rfl, lb, rfl, ⟨_, SqL.of hb⟩, fun D hD => ?_⟩
    refine comp_listF ((List.replicate R.Bs.length (0 : Int)).map V.int) hD (by simp [blen]) (by omega) hb ?_ ?_
    · intro i x y H' Q' hx hy sm k'
      have e : y = .int 0 := by
        rw [List.map_replicate, List.getElem?_replicate] at hy
        split at hy
        · exact (Option.some.inj hy).symm
        · cases hy
      subst e
      exact k' _ (fun _ _ h => h)
    intro H1 s1 hD1
    refine ⟨_, rfl, t, _, 2, _, rfl, rfl, SqT.of (s1 _ _ ht), rfl, lb, rfl, ⟨_, SqL.of (s1 _ _ hb)⟩, fun D2 hD2 => ?_⟩
    refine comp_listF ((R.Bs.map (·.rn)).map V.int) hD2 (by simp [blen]) (by omega) (s1 _ _ hb) ?_ ?_
    · intro i x y H' Q' hx hy sm k'
      obtain ⟨B, eB, tb, g, rfl, htb, gt⟩ := btl.get hx
      rw [List.getElem?_map, List.getElem?_map, eB] at hy
      cases hy
      exact ⟨_, rfl, tb, _, 4, _, rfl, rfl, SqT.of (sm _ _ (s1 _ _ htb)), rfl, k' _ fun _ _ h => h⟩
    intro H2 s2 hD3
    refine ⟨x, r, D, D2, _, _, rfl, rx.same (s1.trans s2), s2 _ _ hD1, hD3, by simp, by rw [List.length_replicate]; omega, fun H3 s3 => ⟨_, rfl, ?_⟩⟩
    have s13 := (s1.trans s2).trans s3
    cases er : rowB r (List.replicate R.Bs.length 0) (R.Bs.map (·.rn)) with
    | false =>
      have e : rnT R wet r = false := by
        cases r with
        | none => rfl
        | some vs =>
          show (rowB (some vs) _ _ && _) = false
          rw [er, Bool.false_and]
      rw [e] at k
      exact iteT (k _ s13)
    | true =>
      obtain ⟨vs, ns, rfl, rfl, hns⟩ := row_ints2 er (by simp) hn.2 (fun x hx => by
        obtain ⟨B, hB, rfl⟩ := List.mem_map.mp hx
        exact (rg.Bs B hB).1.rn.2)
      obtain ⟨px, rfl, hpx, _, _⟩ := rx
      refine iteF ⟨_, rfl, _, rfl, p, _, R, wet, rfl, rt.same rg s13, rg, fun H4 s4 => ?_⟩
      have s14 := s13.trans s4
      refine ⟨_, rfl, px, ns, rfl, .inr (SqT.of (s14 _ _ hpx)), hns, ?_⟩
      have e : rnT R wet (some (ns.map V.int)) = (decide (forcedT R wet ≤ ns.sum) && decide (ns.sum ≤ wet)) := by
        show (rowB (some (ns.map V.int)) _ _ && (decide (forcedT R wet ≤ sumV (ns.map V.int)) && decide (sumV (ns.map V.int) ≤ wet))) = _
        rw [er, Bool.true_and, sumV_ints]
      rw [e] at k
      refine ⟨_, _, rfl, rfl, _, rfl, ?_⟩
      cases ef : decide (forcedT R wet ≤ ns.sum) with
      | false =>
        rw [ef, Bool.false_and] at k
        exact iteF (k _ s14)
      | true =>
        rw [ef, Bool.true_and] at k
        exact iteT ⟨_, rfl, _, _, rfl, rfl, k _ s14⟩
end
section
variable {P : Program} {w : World} {K : W.Frag} {mg : Str → Option Value} {base : Heap} {a : Ad}
def LL (H H' : Hp) : Prop := ∀ b o, H b = some o → H' b = some o ∨ ((∃ xs, o = .lst xs) ∧ ∃ ys, H' b = some (.lst ys))
theorem LL.same {H H' : Hp} (s : Same H H') : LL H H' := fun b o e => .inl (s b o e)
theorem LL.but {p : Addr} {H H' : Hp} (st : Strm H p) (b : But p H H') : LL H H' := fun c o e => by
  by_cases z : c = p
  · subst z
    obtain ⟨x, y, w', q⟩ := st
    obtain ⟨x', y', w'', q'⟩ := b.2
    rw [q] at e
    exact .inr ⟨⟨_, (Option.some.inj e).symm⟩, _, q'⟩
  · exact .inl (b.1 c o z e)
theorem LL.trans {H1 H2 H3 : Hp} (a : LL H1 H2) (b : LL H2 H3) : LL H1 H3 := fun c o e => by
  rcases a c o e with h | ⟨⟨xs, rfl⟩, ys, h⟩
  · exact b c o h
  · rcases b c _ h with h' | ⟨_, zs, h'⟩
    · exact .inr ⟨⟨xs, rfl⟩, ys, h'⟩
    · exact .inr ⟨⟨xs, rfl⟩, zs, h'⟩
theorem LL.get {H H' : Hp} (s : LL H H') {b : Addr} {o : HO} (n : ∀ xs, o ≠ .lst xs) (e : H b = some o) : H' b = some o := by
  rcases s b o e with h | ⟨⟨xs, w'⟩, _⟩
  · exact h
  · exact absurd w' (n xs)
theorem tx_ll {H H' : Hp} {x : V} {t : Value} (s : LL H H') (h : TyX K H x t) : TyX K H' x t := by
  cases h with
  | exc q qd c => exact .exc (s.get (by intro _ z; cases z) q) (s.get (by intro _ z; cases z) qd) c
  | of ty =>
    refine .of ?_
    cases ty with
    | non => exact .non
    | bl b => exact .bl b
    | int i => exact .int i
    | str z => exact .str z
    | flt z => exact .flt z
    | lst e =>
      rcases s _ _ e with h | ⟨_, ys, h⟩
      · exact .lst h
      · exact .lst h
    | frz e => exact .frz (s.get (by intro _ z; cases z) e)
    | tup e => exact .tup (s.get (by intro _ z; cases z) e)
    | dK e => exact .dK (s.get (by intro _ z; cases z) e)
    | dT e => exact .dT (s.get (by intro _ z; cases z) e)
    | ins e a b c d f => exact .ins (s.get (by intro _ z; cases z) e) a b c d f
theorem tm_ll {H H' : Hp} {x : V} (s : LL H H') (h : Tm K H x) : Tm K H' x := by
  rcases h with h | ⟨t, ty, e⟩
  · exact .inl h
  · exact .inr ⟨t, tx_ll s ty, e⟩
theorem cut_to (xs : List V) (k : Nat) (h : k ≤ xs.length) : cutV xs none (some (k : Int)) = xs.take k := by
  unfold cutV
  rw [HT.sIx_none, HT.sIx_nat, Nat.min_eq_left h]
  rfl
theorem cut_from (xs : List V) (k : Nat) (h : k ≤ xs.length) : cutV xs (some (k : Int)) none = xs.drop k := by
  unfold cutV
  rw [HT.sIx_none, HT.sIx_nat, Nat.min_eq_left h, List.take_of_length_le (by rw [List.length_drop]; omega)]
theorem atI_in {xs : List V} {r : Int} (h0 : 0 ≤ r) (h1 : r < xs.length) : ∃ v, v ∈ xs ∧ atI xs r = some v := by
  obtain ⟨n, rfl⟩ := Int.eq_ofNat_of_zero_le h0
  have hn : n < xs.length := by omega
  exact ⟨xs[n], List.getElem_mem hn, atI_nat (List.getElem?_eq_getElem hn)⟩
end
def NumV (y : V) : Prop := y = .non ∨ ∃ n : Int, y = .int n ∧ (-100 ≤ n ∧ n ≤ 100)
def spLOdd (K : W.Frag) : Sp := fun vs H Q _ => ∃ (p : Addr) (y : V), vs = [.ref p, y] ∧ Strm H p ∧ NumV y ∧ ∀ (x : V) (H' : Hp), Tm K H' x → nodeV x → But p H H' → Q x H'
section
variable {P : Program} {w : World} {K : W.Frag} {mg : Str → Option Value} {base : Heap} {a : Ad}
theorem odd_all {H : Hp} {t1 l1 d : Addr} (g1 : H t1 = some (.tup [.int 1])) (g2 : H l1 = some (.lst [.int 0])) (g3 : H d = some (.dK [])) : ∀ v ∈ [V.non, .bl true, .bl false, .str "1", .int (-1), .int 13, .ref t1, .ref l1, .int (10 ^ (60 : Int).toNat), .ref d], Tm K H v ∧ nodeV v := by
  intro v hv
  simp only [List.mem_cons, List.not_mem_nil, or_false] at hv
  rcases hv with rfl | rfl | rfl | rfl | rfl | rfl | rfl | rfl | rfl | rfl
  · exact ⟨.inr ⟨_, .of .non, rfl⟩, .inl rfl⟩
  · exact ⟨.inr ⟨_, .of (.bl _), rfl⟩, .inl rfl⟩
  · exact ⟨.inr ⟨_, .of (.bl _), rfl⟩, .inl rfl⟩
  · exact ⟨.inr ⟨_, .of (.str _), rfl⟩, .inl rfl⟩
  · exact ⟨.inl ⟨_, rfl⟩, .inl rfl⟩
  · exact ⟨.inl ⟨_, rfl⟩, .inl rfl⟩
  · exact ⟨.inr ⟨_, .of (.tup g1), rfl⟩, .inr ⟨_, rfl⟩⟩
  · exact ⟨.inr ⟨_, .of (.lst g2), rfl⟩, .inr ⟨_, rfl⟩⟩
  · exact ⟨.inl ⟨_, rfl⟩, .inl rfl⟩
  · exact ⟨.inr ⟨_, .of (.dK g3), rfl⟩, .inr ⟨_, rfl⟩⟩
theorem sc_law_odd : FnScope ["_law_stream_here", "_law_number", "_law_some"] ["_law_stream_here", "_law_number"] (defScope (top 74)) := ⟨rfl, rfl, rfl, by decide +kernel, rfl, by decide +kernel, by decide +kernel⟩
theorem ok_law_odd (T : Tx K mg a) : FnOk P w K mg base CX0 2 a.a__law_odd a.d__law_odd ["_law_stream_here", "_law_number"] (spLOdd K) := by
  have G__law_take := ok_law_take (P := P) (w := w) (base := base) T
  refine T.f__law_odd.fn.ok sc_law_odd (fun vs H Q E h => ?_) (fun cdv A outer s H vs Q E hr h => ?_)
  · obtain ⟨p, y, rfl, _⟩ := h
    rfl
  · obtain ⟨p, y, rfl, st, hy, k⟩ := h
    refine ⟨?t, ?B, ?C⟩
    case B =>
      refine' pss_cons ?s1 ?r1
      case s1 =>
       exact (ps_set (i := 2) sc_law_odd.nd rfl (Or.inl rfl) (pe_lst (pa10 pe_non pe_bl pe_bl pe_str (pe_un un_neg pe_int) pe_int (pe_tup (pa_cons pe_int pa_nil)) (pe_lst (pa_cons pe_int pa_nil)) (pe_op op_pow pe_int pe_int) pe_dnewK)))
      case r1 =>
       refine' pss_cons ?s3 ?r3
       case s3 =>
        refine' ps_if ?c4 ?a4 ?b4
        case c4 =>
         exact (pt_val (pe_callB call_isA (by rfl) T.n_isinstance bt_isinstance (pa_cons (pv 1) (pa_cons (pe_bltn (v := .ty "int") (by rfl) T.n_int bt_int rfl) pa_nil))))
        case a4 =>
         refine' pss_one ?s5
         case s5 =>
          exact (ps_set (i := 2) sc_law_odd.nd rfl (Or.inl rfl) (pe_op op_cat (pv 2) (pe_lst (pa4 (pe_op op_add (pv 1) pe_int) (pe_op op_add (pv 1) pe_int) (pe_op op_sub (pv 1) pe_int) (pe_op op_sub pe_int (pv 1))))))
        case b4 =>
         exact pss_nil
       case r3 =>
        refine' pss_one ?s8
        case s8 =>
         exact (ps_ret (pe_ix ix_list (pv 2) (pe_callF T.f__law_take G__law_take hr (by decide) (pa_cons (pv 0) (pa_cons (pe_callB call_len_seq (by rfl) T.n_len bt_len (pa_cons (pv 2) pa_nil)) pa_nil))) (fun _ _ => rfl)))
    refine ⟨_, rfl, (show 1 ≤ sizeLine by decide), fun t1 ht1 => ⟨(show 1 ≤ sizeLine by decide), fun l1 hl1 => ⟨_, _, rfl, rfl, ⟨by decide, by decide, by decide⟩, fun d hd => ⟨(show 10 ≤ sizeLine by decide), fun L hL => ?_⟩⟩⟩⟩
    have s1 := Same.upd (o := .tup [.int 1]) ht1
    have s2 := Same.upd (o := .lst [.int 0]) hl1
    have s3 := Same.upd (o := .dK []) hd
    have s4 := Same.upd (o := .lst [.non, .bl true, .bl false, .str "1", .int (-1), .int 13, .ref t1, .ref l1, .int (10 ^ (60 : Int).toNat), .ref d]) hL
    have b3 := But.of st ((s1.trans s2).trans s3)
    have nL : L ≠ p := b3.2.ne hL
    have b4 := b3.same s4
    have g1 := s4 _ _ (s3 _ _ (s2 _ _ (upd_same (a := t1) (o := .tup [.int 1]))))
    have g2 := s4 _ _ (s3 _ _ (upd_same (a := l1) (o := .lst [.int 0])))
    have g3 := s4 _ _ (upd_same (a := d) (o := .dK []))
    dsimp only [gName]
    refine seq_mid (fun σ H1 => ∃ (M : Addr) (vs : List V), σ = [some (.ref p), some y, some (.ref M)] ∧ H1 M = some (.lst vs) ∧ M ≠ p ∧ (∀ v ∈ vs, Tm K H1 v ∧ nodeV v) ∧ (1 ≤ vs.length ∧ vs.length ≤ 20) ∧ But p H H1) (fun R hR => ?_) ?_
    · have all := odd_all (K := K) g1 g2 g3
      rcases hy with rfl | ⟨n, rfl, hn⟩
      · refine ⟨_, rfl, _, _, _, _, _, rfl, rfl, .of .non, (by rfl : W.kitOne K (.type "NoneType") (.type "int") = some false), _, rfl, iteF ?_⟩
        exact hR _ _ ⟨L, _, rfl, upd_same, nL, all, ⟨by simp, by simp⟩, b4⟩
      · refine ⟨_, rfl, _, _, _, _, _, rfl, rfl, .of (.int n), (by rfl : W.kitOne K (.type "int") (.type "int") = some true), _, rfl, iteT ?_⟩
        refine ⟨_, rfl, _, rfl, _, _, rfl, rfl, _, rfl, _, _, rfl, rfl, _, rfl, _, _, rfl, rfl, _, rfl, _, _, rfl, rfl, (show 4 ≤ sizeLine by decide), fun M hM => ⟨L, M, _, _, rfl, rfl, (Same.upd hM) _ _ upd_same, upd_same, (show 10 + 4 ≤ sizeLine by decide), fun N hN => ?_⟩⟩
        have s5 := (Same.upd (o := .lst [.int (n + 1), .int (n + 1), .int (n - 1), .int (0 - n)]) hM).trans (Same.upd (o := .lst ([V.non, .bl true, .bl false, .str "1", .int (-1), .int 13, .ref t1, .ref l1, .int (10 ^ (60 : Int).toNat), .ref d] ++ [.int (n + 1), .int (n + 1), .int (n - 1), .int (0 - n)])) hN)
        have b5 := b4.same s5
        refine hR _ _ ⟨N, _, rfl, upd_same, (b4.same (Same.upd hM)).2.ne hN, fun v hv => ?_, ⟨by simp, by simp⟩, b5⟩
        rcases List.mem_append.mp hv with h | h
        · exact ⟨(all v h).1.same s5, (all v h).2⟩
        · simp only [List.mem_cons, List.not_mem_nil, or_false] at h
          rcases h with rfl | rfl | rfl | rfl <;> exact ⟨.inl ⟨_, rfl⟩, .inl rfl⟩
    · rintro σ H1 ⟨M, vs, rfl, hM, nM, all, len, b1⟩
      refine ⟨_, rfl, _, rfl, _, rfl, M, _, rfl, .inl (SqL.of hM), p, _, rfl, b1.2, by omega, log9k (by omega), fun r H5 r0 r1 b5 => ?_⟩
      obtain ⟨v, hv, hat⟩ := atI_in (xs := vs) r0 (by omega)
      exact ⟨M, _, _, v, rfl, rfl, SqL.of (b5.1 _ _ nM hM), hat, k v H5 (tm_ll (LL.but b1.2 b5) (all v hv).1) (all v hv).2 (b1.trans b5)⟩
end
section
variable {P : Program} {w : World} {K : W.Frag} {mg : Str → Option Value} {base : Heap} {a : Ad}
def AnyT (K : W.Frag) (H : Hp) (x : V) : Prop := (∃ r, RowT K H x r) ∧ (∃ q, PrT K H x q) ∧ Own H x
def spLAny (K : W.Frag) : Sp := fun vs H Q _ => ∃ (p : Addr), vs = [.ref p] ∧ Strm H p ∧ ∀ (x : V) (H' : Hp), AnyT K H' x → But p H H' → Q x H'
def spLTold : Sp := fun vs H Q _ => ∃ (b c : Bool), vs = [.bl b, .bl c] ∧ Q (.bl (b == c)) H
theorem sc_law_told : FnScope ["_law_found", "_law_due"] ["_law_found", "_law_due"] (defScope (top 78)) := ⟨rfl, rfl, rfl, by decide +kernel, rfl, by decide +kernel, by decide +kernel⟩
theorem ok_law_told (T : Tx K mg a) : FnOk P w K mg base CX0 1 a.a__law_told a.d__law_told ["_law_found", "_law_due"] spLTold := by
  refine T.f__law_told.fn.ok sc_law_told (fun vs H Q E h => ?_) (fun cdv A outer s H vs Q E hr h => ?_)
  · obtain ⟨b, c, rfl, _⟩ := h
    rfl
  · obtain ⟨b, c, rfl, k⟩ := h
    refine ⟨?t, ?B, ?C⟩
    case B =>
      refine' pss_one ?s1
      case s1 =>
       exact (ps_ret (pe_and (pe_callB call_isA (by rfl) T.n_isinstance bt_isinstance (pa_cons (pv 0) (pa_cons (pe_bltn (v := .ty "bool") (by rfl) T.n_bool bt_bool rfl) pa_nil))) (pe_one (pe_cmpR op_eq (pv 0) (pv 1) (nomark _)))))
    refine ⟨_, rfl, _, _, _, _, _, rfl, rfl, .of (.bl b), (by rfl : W.kitOne K (.type "bool") (.type "bool") = some true), _, rfl, iteT ⟨_, rfl, _, rfl, rfl, ?_⟩⟩
    cases b <;> cases c <;> exact k
theorem but_get {p : Addr} {H H' : Hp} (st : Strm H p) (b : But p H H') {c : Addr} {o : HO} (g : H c = some o) (n : ∀ x y z : Int, o ≠ .lst [.int x, .int y, .int z]) : H' c = some o := b.1 _ _ (ne_strm st g n) g
theorem any_no {H : Hp} {x : V} {t : Value} (h : TyX K H x t) (e : W.kitOne K t (.type "tuple") = some false) (o : Own H x) : AnyT K H x := ⟨⟨none, t, h, e⟩, ⟨.no, t, h, e⟩, o⟩
theorem own_tup {H : Hp} {p : Addr} {vs : List V} (h : H p = some (.tup vs)) (n : ∀ v ∈ vs, nodeV v) : Own H (.ref p) := .inr ⟨p, rfl, .inl ⟨vs, .inr h, n⟩⟩
theorem own_lst {H : Hp} {p : Addr} {vs : List V} (h : H p = some (.lst vs)) (n : ∀ v ∈ vs, nodeV v) : Own H (.ref p) := .inr ⟨p, rfl, .inl ⟨vs, .inl h, n⟩⟩
theorem any_all {H : Hp} {t0 l0 d0 u1 t1 u2 t2 t3 l1 l2 d1 : Addr} {kk : Key} {kv : V} (g0 : H t0 = some (.tup [])) (g1 : H l0 = some (.lst [])) (g2 : H d0 = some (.dK [])) (g3 : H u1 = some (.tup [])) (g4 : H t1 = some (.tup [.ref u1])) (g5 : H u2 = some (.tup [])) (g6 : H t2 = some (.tup [.ref u2, .int 0])) (g7 : H t3 = some (.tup [.non, .non])) (g8 : H l1 = some (.lst [.int 0])) (g9 : H l2 = some (.lst [.ref l1, .int 0])) (g10 : H d1 = some (.dK [(kk, kv)])) :
    ∀ v ∈ [V.non, .int 5, .bl true, .str "", .str "standing", .ref t0, .ref l0, .ref d0, .ref t1, .ref t2, .ref t3, .ref l2, .ref d1, .int (-1)], AnyT K H v := by
  have tmt : ∀ {p : Addr} {vs : List V}, H p = some (.tup vs) → Tm K H (.ref p) := fun h => .inr ⟨_, .of (.tup h), rfl⟩
  have tmn : Tm K H .non := .inr ⟨_, .of .non, rfl⟩
  intro v hv
  simp only [List.mem_cons, List.not_mem_nil, or_false] at hv
  rcases hv with rfl | rfl | rfl | rfl | rfl | rfl | rfl | rfl | rfl | rfl | rfl | rfl | rfl | rfl
  · exact any_no (.of .non) rfl (.inl rfl)
  · exact any_no (.of (.int _)) rfl (.inl rfl)
  · exact any_no (.of (.bl _)) rfl (.inl rfl)
  · exact any_no (.of (.str _)) rfl (.inl rfl)
  · exact any_no (.of (.str _)) rfl (.inl rfl)
  · exact ⟨⟨some [], t0, rfl, g0, (fun _ h => nomatch h), by simp⟩, ⟨.oth [], t0, rfl, g0, by simp⟩, own_tup g0 fun _ h => nomatch h⟩
  · exact any_no (.of (.lst g1)) rfl (own_lst g1 fun _ h => nomatch h)
  · exact any_no (.of (.dK g2)) rfl (.inr ⟨_, rfl, .inr (.inl g2)⟩)
  · refine ⟨⟨some [.ref u1], t1, rfl, g4, ?_, by simp⟩, ⟨.oth _, t1, rfl, g4, by simp⟩, own_tup g4 ?_⟩
    · intro v hv
      rw [List.mem_singleton.mp hv]
      exact tmt g3
    · intro v hv
      rw [List.mem_singleton.mp hv]
      exact .inr ⟨_, rfl⟩
  · refine ⟨⟨some [.ref u2, .int 0], t2, rfl, g6, ?_, by simp⟩, ⟨.two (.ref u2) (.int 0) (some []), t2, rfl, g6, ⟨u2, rfl, g5, (fun _ h => nomatch h), by simp⟩, .inl ⟨_, rfl⟩⟩, own_tup g6 ?_⟩
    · intro v hv
      simp only [List.mem_cons, List.not_mem_nil, or_false] at hv
      rcases hv with rfl | rfl
      · exact tmt g5
      · exact .inl ⟨_, rfl⟩
    · intro v hv
      simp only [List.mem_cons, List.not_mem_nil, or_false] at hv
      rcases hv with rfl | rfl
      · exact .inr ⟨_, rfl⟩
      · exact .inl rfl
  · refine ⟨⟨some [.non, .non], t3, rfl, g7, ?_, by simp⟩, ⟨.two .non .non none, t3, rfl, g7, ⟨_, .of .non, rfl⟩, tmn⟩, own_tup g7 ?_⟩
    · intro v hv
      simp only [List.mem_cons, List.not_mem_nil, or_false, or_self] at hv
      rw [hv]
      exact tmn
    · intro v hv
      simp only [List.mem_cons, List.not_mem_nil, or_false, or_self] at hv
      rw [hv]
      exact .inl rfl
  · refine any_no (.of (.lst g9)) rfl (own_lst g9 ?_)
    intro v hv
    simp only [List.mem_cons, List.not_mem_nil, or_false] at hv
    rcases hv with rfl | rfl
    · exact .inr ⟨_, rfl⟩
    · exact .inl rfl
  · exact any_no (.of (.dK g10)) rfl (.inr ⟨_, rfl, .inr (.inr ⟨_, _, g10⟩)⟩)
  · exact any_no (.of (.int _)) rfl (.inl rfl)
theorem sc_law_any : FnScope ["_law_stream_here", "_law_some"] ["_law_stream_here"] (defScope (top 77)) := ⟨rfl, rfl, rfl, by decide +kernel, rfl, by decide +kernel, by decide +kernel⟩
theorem ok_law_any (T : Tx K mg a) : FnOk P w K mg base CX0 2 a.a__law_any a.d__law_any ["_law_stream_here"] (spLAny K) := by
  have G__law_take := ok_law_take (P := P) (w := w) (base := base) T
  refine T.f__law_any.fn.ok sc_law_any (fun vs H Q E h => ?_) (fun cdv A outer s H vs Q E hr h => ?_)
  · obtain ⟨p, rfl, _⟩ := h
    rfl
  · obtain ⟨p, rfl, st, k⟩ := h
    refine ⟨?t, ?B, ?C⟩
    case B =>
      refine' pss_cons ?s1 ?r1
      case s1 =>
       refine' ps_set (i := 1) ?a2 ?b2 ?c2 ?e2 ?f2 ?g2
       case a2 => exact sc_law_any.nd
       case b2 => exact rfl
       case c2 => exact (Or.inl rfl)
       case f2 => exact swaps_list
       case g2 => first | exact .inl rfl | exact .inr rfl
       case e2 =>
        refine' pe_lst ?e3_0
        case e3_0 =>
         refine' pa14 ?e4_0 ?e4_1 ?e4_2 ?e4_3 ?e4_4 ?e4_5 ?e4_6 ?e4_7 ?e4_8 ?e4_9 ?e4_10 ?e4_11 ?e4_12 ?e4_13
         case e4_0 =>
          exact pe_non
         case e4_1 =>
          exact pe_int
         case e4_2 =>
          exact pe_bl
         case e4_3 =>
          exact pe_str
         case e4_4 =>
          exact pe_str
         case e4_5 =>
          exact (pe_tup pa_nil)
         case e4_6 =>
          exact (pe_lst pa_nil)
         case e4_7 =>
          exact pe_dnewK
         case e4_8 =>
          exact (pe_tup (pa_cons (pe_tup pa_nil) pa_nil))
         case e4_9 =>
          exact (pe_tup (pa_cons (pe_tup pa_nil) (pa_cons pe_int pa_nil)))
         case e4_10 =>
          exact (pe_tup (pa_cons pe_non (pa_cons pe_non pa_nil)))
         case e4_11 =>
          exact (pe_lst (pa_cons (pe_lst (pa_cons pe_int pa_nil)) (pa_cons pe_int pa_nil)))
         case e4_12 =>
          exact (pe_disp (pps_cons pe_str pe_int pps_nil) rfl rfl (by simp) (by simp))
         case e4_13 =>
          exact (pe_un un_neg pe_int)
      case r1 =>
       refine' pss_one ?s13
       case s13 =>
        exact (ps_ret (pe_ix ix_list (pv 1) (pe_callF T.f__law_take G__law_take hr (by decide) (pa_cons (pv 0) (pa_cons (pe_callB call_len_seq (by rfl) T.n_len bt_len (pa_cons (pv 1) pa_nil)) pa_nil))) (fun _ _ => rfl)))
    refine ⟨(show 0 ≤ sizeLine by decide), fun t0 n0 => ⟨(show 0 ≤ sizeLine by decide), fun l0 n1 d0 n2 => ⟨(show 0 ≤ sizeLine by decide), fun u1 n3 => ⟨(show 1 ≤ sizeLine by decide), fun t1 n4 => ⟨(show 0 ≤ sizeLine by decide), fun u2 n5 => ⟨(show 2 ≤ sizeLine by decide), fun t2 n6 => ⟨(show 2 ≤ sizeLine by decide), fun t3 n7 => ⟨(show 1 ≤ sizeLine by decide), fun l1 n8 => ⟨(show 2 ≤ sizeLine by decide), fun l2 n9 d1 n10 => ⟨upd_same, [(.inr "levels", .int 1)], rfl, by decide, _, rfl, (show 14 ≤ sizeLine by decide), fun L n11 => ?_⟩⟩⟩⟩⟩⟩⟩⟩⟩⟩
    rw [upd_upd] at n11 ⊢
    have s0 := Same.upd (o := .tup []) n0
    have s1 := Same.upd (o := .lst []) n1
    have s2 := Same.upd (o := .dK []) n2
    have s3 := Same.upd (o := .tup []) n3
    have s4 := Same.upd (o := .tup [.ref u1]) n4
    have s5 := Same.upd (o := .tup []) n5
    have s6 := Same.upd (o := .tup [.ref u2, .int 0]) n6
    have s7 := Same.upd (o := .tup [.non, .non]) n7
    have s8 := Same.upd (o := .lst [.int 0]) n8
    have s9 := Same.upd (o := .lst [.ref l1, .int 0]) n9
    have s10 := Same.upd (o := .dK (mergeK [] [(.inr "levels", .int 1)])) n10
    have s11 := Same.upd (o := .lst [.non, .int 5, .bl true, .str "", .str "standing", .ref t0, .ref l0, .ref d0, .ref t1, .ref t2, .ref t3, .ref l2, .ref d1, .int (-1)]) n11
    have z10 := s10.trans s11
    have z9 := s9.trans z10
    have z8 := s8.trans z9
    have z7 := s7.trans z8
    have z6 := s6.trans z7
    have z5 := s5.trans z6
    have z4 := s4.trans z5
    have z3 := s3.trans z4
    have z2 := s2.trans z3
    have z1 := s1.trans z2
    have g0 := z1 _ _ (upd_same (a := t0) (o := .tup []))
    have g1 := z2 _ _ (upd_same (a := l0) (o := .lst []))
    have g2 := z3 _ _ (upd_same (a := d0) (o := .dK []))
    have g3 := z4 _ _ (upd_same (a := u1) (o := .tup []))
    have g4 := z5 _ _ (upd_same (a := t1) (o := .tup [.ref u1]))
    have g5 := z6 _ _ (upd_same (a := u2) (o := .tup []))
    have g6 := z7 _ _ (upd_same (a := t2) (o := .tup [.ref u2, .int 0]))
    have g7 := z8 _ _ (upd_same (a := t3) (o := .tup [.non, .non]))
    have g8 := z9 _ _ (upd_same (a := l1) (o := .lst [.int 0]))
    have g9 := z10 _ _ (upd_same (a := l2) (o := .lst [.ref l1, .int 0]))
    have g10 := s11 _ _ (upd_same (a := d1) (o := .dK (mergeK [] [(.inr "levels", .int 1)])))
    have b4 := But.of st (s0.trans z1)
    have nL : L ≠ p := (But.of st (s0.trans (s1.trans (s2.trans (s3.trans (s4.trans (s5.trans (s6.trans (s7.trans (s8.trans (s9.trans s10))))))))))).2.ne n11
    clear s0 s1 s2 s3 s4 s5 s6 s7 s8 s9 s10 s11 z1 z2 z3 z4 z5 z6 z7 z8 z9 z10 n0 n1 n2 n3 n4 n5 n6 n7 n8 n9 n10 n11
    refine ⟨_, rfl, _, rfl, _, rfl, L, _, rfl, .inl (SqL.of upd_same), p, _, rfl, b4.2, by simp, log9k (i := 14) (by decide), fun r H5 r0 r1 b5 => ?_⟩
    obtain ⟨v, hv, hat⟩ := atI_in (xs := [V.non, .int 5, .bl true, .str "", .str "standing", .ref t0, .ref l0, .ref d0, .ref t1, .ref t2, .ref t3, .ref l2, .ref d1, .int (-1)]) r0 r1
    exact ⟨L, _, _, v, rfl, rfl, SqL.of (b5.1 _ _ nL upd_same), hat, k v H5 (any_all (but_get b4.2 b5 g0 (by intro _ _ _ z; cases z)) (but_get b4.2 b5 g1 (by intro _ _ _ z; cases z)) (but_get b4.2 b5 g2 (by intro _ _ _ z; cases z)) (but_get b4.2 b5 g3 (by intro _ _ _ z; cases z)) (but_get b4.2 b5 g4 (by intro _ _ _ z; cases z)) (but_get b4.2 b5 g5 (by intro _ _ _ z; cases z)) (but_get b4.2 b5 g6 (by intro _ _ _ z; cases z)) (but_get b4.2 b5 g7 (by intro _ _ _ z; cases z)) (but_get b4.2 b5 g8 (by intro _ _ _ z; cases z)) (but_get b4.2 b5 g9 (by intro _ _ _ z; cases z)) (but_get b4.2 b5 g10 (by intro _ _ _ z; cases z)) v hv) (b4.trans b5)⟩
end
def RowN (H : Hp) (u : Addr) (ns : List Int) : Prop := H u = some (.tup (ns.map V.int)) ∧ (1 ≤ ns.length ∧ ns.length ≤ 16) ∧ ∀ n ∈ ns, -100 ≤ n ∧ n ≤ 100
def spLRowPut (K : W.Frag) : Sp := fun vs H Q _ => ∃ (p u : Addr) (ns : List Int), vs = [.ref p, .ref u] ∧ Strm H p ∧ RowN H u ns ∧ ∀ (x : V) (r : Option (List V)) (H' : Hp), RowT K H' x r → nodeV x → But p H H' → Q x H'
theorem cut_from1 (xs : List V) (k : Nat) (h : k + 1 ≤ xs.length) : cutV xs (some ((k : Int) + 1)) none = xs.drop (k + 1) := cut_from xs (k + 1) h
theorem not_whole_to {n k : Nat} (h : k < n) : ¬ (HT.sIx n 0 none = 0 ∧ HT.sIx n n (some (k : Int)) = n) := by
  rw [HT.sIx_none, HT.sIx_nat]
  omega
theorem not_whole_from {n k : Nat} (h : k < n) : ¬ (HT.sIx n 0 (some ((k : Int) + 1)) = 0 ∧ HT.sIx n n none = n) := by
  rw [HT.sIx_none, show ((k : Int) + 1) = ((k + 1 : Nat) : Int) from rfl, HT.sIx_nat]
  omega
theorem tm_take {K : W.Frag} {H : Hp} {ns : List Int} {k : Nat} {v : V} (h : v ∈ (ns.map V.int).take k) : Tm K H v := tm_ints (List.mem_of_mem_take h)
theorem tm_drop {K : W.Frag} {H : Hp} {ns : List Int} {k : Nat} {v : V} (h : v ∈ (ns.map V.int).drop k) : Tm K H v := tm_ints (List.mem_of_mem_drop h)
section
variable {P : Program} {w : World} {K : W.Frag} {mg : Str → Option Value} {base : Heap} {a : Ad}
theorem sc_law_row_put : FnScope ["_law_stream_here", "_law_row_here", "_law_at", "_law_way"] ["_law_stream_here", "_law_row_here"] (defScope (top 75)) := ⟨rfl, rfl, rfl, by decide +kernel, rfl, by decide +kernel, by decide +kernel⟩
theorem ok_law_row_put (T : Tx K mg a) : FnOk P w K mg base CX0 3 a.a__law_row_put a.d__law_row_put ["_law_stream_here", "_law_row_here"] (spLRowPut K) := by
  have G__law_take := ok_law_take (P := P) (w := w) (base := base) T
  have G__law_odd := ok_law_odd (P := P) (w := w) (base := base) T
  refine T.f__law_row_put.fn.ok sc_law_row_put (fun vs H Q E h => ?_) (fun cdv A outer s H vs Q E hr h => ?_)
  · obtain ⟨p, u, ns, rfl, _⟩ := h
    rfl
  · obtain ⟨p, u, ns, rfl, st, ⟨hu, len, bd⟩, k⟩ := h
    refine ⟨?t, ?B, ?C⟩
    case B =>
      refine' pss_cons ?s1 ?r1
      case s1 =>
       exact (ps_set (i := 2) sc_law_row_put.nd rfl (Or.inl rfl) (pe_callF T.f__law_take G__law_take hr (by decide) (pa_cons (pv 0) (pa_cons (pe_callB call_len_seq (by rfl) T.n_len bt_len (pa_cons (pv 1) pa_nil)) pa_nil))))
      case r1 =>
       refine' pss_cons ?s3 ?r3
       case s3 =>
        exact (ps_set (i := 3) sc_law_row_put.nd rfl (Or.inl rfl) (pe_callF T.f__law_take G__law_take hr (by decide) (pa_cons (pv 0) (pa_cons pe_int pa_nil))))
       case r3 =>
        refine' pss_cons ?s5 ?r5
        case s5 =>
         refine' ps_if ?c6 ?a6 ?b6
         case c6 =>
          exact (pt_cmpR op_lt (pv 3) pe_int (nomark _))
         case a6 =>
          refine' pss_one ?s7
          case s7 =>
           exact (ps_ret (pe_op op_catA (pe_op op_catA (pe_slice sl_tup (pv 1) po_none (po_some (pv 2))) (pe_tup (pa_cons (pe_callF T.f__law_odd G__law_odd hr (by decide) (pa_cons (pv 0) (pa_cons (pe_ix ix_tup (pv 1) (pv 2) (fun _ _ => rfl)) pa_nil))) pa_nil))) (pe_slice sl_tup (pv 1) (po_some (pe_op op_add (pv 2) pe_int)) po_none)))
         case b6 =>
          exact pss_nil
        case r5 =>
         refine' pss_one ?s11
         case s11 =>
          exact (ps_ret (pe_ix ix_list (pe_lst (pa_cons (pe_callTy call_list_of (by rfl) T.n_list bt_list (pa_cons (pv 1) pa_nil)) (pa_cons (pe_op op_catA (pe_slice sl_tup (pv 1) po_none (po_some (pv 2))) (pe_slice sl_tup (pv 1) (po_some (pe_op op_add (pv 2) pe_int)) po_none)) (pa_cons (pe_op op_catA (pv 1) (pe_tup (pa_cons (pe_ix ix_tup (pv 1) (pv 2) (fun _ _ => rfl)) pa_nil))) pa_nil)))) (pe_op op_sub (pv 3) pe_int) (fun _ _ => rfl)))
    have nu : u ≠ p := ne_strm st hu (fun _ _ _ z => by cases z)
    refine ⟨_, rfl, _, rfl, u, _, rfl, .inr (SqT.of hu), p, _, rfl, st, by simp; omega, log9k (by simp; omega), fun r H1 r0 r1 b1 => ?_⟩
    refine ⟨_, rfl, p, 8, rfl, b1.2, by decide, by decide, fun y H2 y0 y1 b2 => ?_⟩
    obtain ⟨i, rfl⟩ := Int.eq_ofNat_of_zero_le r0
    have hi : i < (ns.map V.int).length := by simpa using r1
    have hin : i < ns.length := by simpa using hi
    have lm : (ns.map V.int).length = ns.length := List.length_map ..
    have b12 := b1.trans b2
    have hu2 := b12.1 _ _ nu hu
    have hat : atI (ns.map V.int) (i : Int) = some (.int ns[i]) := ints_at hin
    refine ⟨_, rfl, _, _, rfl, rfl, _, rfl, ?_⟩
    by_cases hy : y < 5
    · rw [decide_eq_true hy]
      refine iteT ⟨_, rfl, _, rfl, _, rfl, u, _, rfl, SqT.of hu2, not_whole_to hi, fun q1 e1 => ?_⟩
      rw [cut_to _ _ (by omega)]
      have sa := Same.upd (o := .tup ((ns.map V.int).take i)) e1
      have b3 := b12.same sa
      refine ⟨_, rfl, _, rfl, _, rfl, u, _, _, _, rfl, rfl, SqT.of (sa _ _ hu2), hat, p, _, rfl, b3.2, .inr ⟨_, rfl, bd _ (List.getElem_mem hin)⟩, fun x H3 tx nx b4 => ?_⟩
      have g1 := but_get b3.2 b4 (upd_same (a := q1)) (fun _ _ _ z => by cases z)
      have b5 := b3.trans b4
      refine ⟨(show 1 ≤ sizeLine by decide), fun q2 e2 => ?_⟩
      have sb := Same.upd (o := .tup [x]) e2
      refine ⟨q1, q2, _, _, rfl, rfl, sb _ _ g1, upd_same, small_lit _ (by rw [List.length_take]; simp; omega), fun q3 H4 s4 g3 => ?_⟩
      have b6 := (b5.same sb).same s4
      have hu4 := b6.1 _ _ nu hu
      refine ⟨_, rfl, _, rfl, _, _, rfl, rfl, _, rfl, u, _, rfl, SqT.of hu4, not_whole_from hi, fun q4 e4 => ?_⟩
      rw [cut_from1 _ _ (by omega)]
      have sc := Same.upd (o := .tup ((ns.map V.int).drop (i + 1))) e4
      refine ⟨q3, q4, _, _, rfl, rfl, sc _ _ g3, upd_same, small_lit _ (by rw [List.length_append, List.length_take, List.length_drop]; simp; omega), fun q5 H5 s5 g5 => ?_⟩
      refine k (.ref q5) (some _) H5 ⟨q5, rfl, g5, fun v hv => ?_, by rw [List.length_append, List.length_append, List.length_take, List.length_drop]; simp; omega⟩ (.inr ⟨_, rfl⟩) ((b6.same sc).same s5)
      rcases List.mem_append.mp hv with h | h
      · rcases List.mem_append.mp h with h | h
        · exact tm_take h
        · rw [List.mem_singleton.mp h]
          exact tx.same (((sb.trans s4).trans sc).trans s5)
      · exact tm_drop h
    · rw [decide_eq_false hy]
      refine iteF ⟨_, rfl, u, _, rfl, .inr (SqT.of hu2), fun l el => ?_⟩
      have s0 := Same.upd (o := .lst (ns.map V.int)) el
      refine ⟨_, rfl, _, rfl, _, rfl, u, _, rfl, SqT.of (s0 _ _ hu2), not_whole_to hi, fun q1 e1 => ?_⟩
      rw [cut_to _ _ (by omega)]
      have s1 := Same.upd (o := .tup ((ns.map V.int).take i)) e1
      refine ⟨_, rfl, _, rfl, _, _, rfl, rfl, _, rfl, u, _, rfl, SqT.of (s1 _ _ (s0 _ _ hu2)), not_whole_from hi, fun q2 e2 => ?_⟩
      rw [cut_from1 _ _ (by omega)]
      have s2 := Same.upd (o := .tup ((ns.map V.int).drop (i + 1))) e2
      refine ⟨q1, q2, _, _, rfl, rfl, s2 _ _ upd_same, upd_same, small_lit _ (by rw [List.length_take, List.length_drop]; simp; omega), fun q3 H3 s3 g3 => ?_⟩
      have s03 := ((s0.trans s1).trans s2).trans s3
      have hu3 := s03 _ _ hu2
      refine ⟨_, rfl, _, rfl, _, rfl, u, _, _, _, rfl, rfl, SqT.of hu3, hat, (show 1 ≤ sizeLine by decide), fun q4 e4 => ?_⟩
      have s4 := Same.upd (o := .tup [.int ns[i]]) e4
      refine ⟨u, q4, _, _, rfl, rfl, s4 _ _ hu3, upd_same, small_lit _ (by simp; omega), fun q5 H5 s5 g5 => ?_⟩
      have s45 := s4.trans s5
      refine ⟨(show 3 ≤ sizeLine by decide), fun L eL => ?_⟩
      have s6 := Same.upd (o := .lst [.ref l, .ref q3, .ref q5]) eL
      have bb := b12.same ((s03.trans s45).trans s6)
      have gl : RowT K (upd H5 L (.lst [.ref l, .ref q3, .ref q5])) (.ref l) none := ⟨_, .of (.lst (s6 _ _ (s45 _ _ (s3 _ _ (s2 _ _ (s1 _ _ (upd_same (a := l)))))))), rfl⟩
      have g3' : RowT K (upd H5 L (.lst [.ref l, .ref q3, .ref q5])) (.ref q3) (some _) := ⟨q3, rfl, s6 _ _ (s45 _ _ g3), fun v hv => (List.mem_append.mp hv).elim tm_take tm_drop, by rw [List.length_append, List.length_take, List.length_drop]; omega⟩
      have g5' : RowT K (upd H5 L (.lst [.ref l, .ref q3, .ref q5])) (.ref q5) (some _) := ⟨q5, rfl, s6 _ _ g5, fun v hv => (List.mem_append.mp hv).elim tm_ints (fun h => by rw [List.mem_singleton.mp h]; exact .inl ⟨_, rfl⟩), by rw [List.length_append]; simp; omega⟩
      have cs : y = 5 ∨ y = 6 ∨ y = 7 := by omega
      rcases cs with rfl | rfl | rfl
      · exact ⟨_, rfl, _, _, rfl, rfl, L, _, _, _, rfl, rfl, SqL.of upd_same, rfl, k _ _ _ gl (.inr ⟨_, rfl⟩) bb⟩
      · exact ⟨_, rfl, _, _, rfl, rfl, L, _, _, _, rfl, rfl, SqL.of upd_same, rfl, k _ _ _ g3' (.inr ⟨_, rfl⟩) bb⟩
      · exact ⟨_, rfl, _, _, rfl, rfl, L, _, _, _, rfl, rfl, SqL.of upd_same, rfl, k _ _ _ g5' (.inr ⟨_, rfl⟩) bb⟩
def PairN (H : Hp) (y : Addr) (u : Addr) (ns : List Int) (v : V) : Prop := H y = some (.tup [.ref u, v]) ∧ RowN H u ns ∧ NumV v
def spLPairPut (K : W.Frag) : Sp := fun vs H Q _ => ∃ (p y u : Addr) (ns : List Int) (v : V), vs = [.ref p, .ref y] ∧ Strm H p ∧ PairN H y u ns v ∧ ∀ (x : V) (q : Pr) (H' : Hp), PrT K H' x q → Own H' x → But p H H' → Q x H'
theorem NumV.tm {H : Hp} {v : V} (h : NumV v) : Tm K H v := by
  rcases h with rfl | ⟨n, rfl, _⟩
  · exact .inr ⟨_, .of .non, rfl⟩
  · exact .inl ⟨_, rfl⟩
theorem NumV.node {v : V} (h : NumV v) : nodeV v := by
  rcases h with rfl | ⟨n, rfl, _⟩ <;> exact .inl rfl
theorem RowN.row {H : Hp} {u : Addr} {ns : List Int} (h : RowN H u ns) : RowT K H (.ref u) (some (ns.map V.int)) := ⟨u, rfl, h.1, fun _ hv => tm_ints hv, by have := h.2.1; rw [List.length_map]; omega⟩
theorem sc_law_pair_put : FnScope ["_law_stream_here", "_law_pair", "_law_way"] ["_law_stream_here", "_law_pair"] (defScope (top 76)) := ⟨rfl, rfl, rfl, by decide +kernel, rfl, by decide +kernel, by decide +kernel⟩
theorem ok_law_pair_put (T : Tx K mg a) : FnOk P w K mg base CX0 4 a.a__law_pair_put a.d__law_pair_put ["_law_stream_here", "_law_pair"] (spLPairPut K) := by
  have G__law_take := ok_law_take (P := P) (w := w) (base := base) T
  have G__law_odd := ok_law_odd (P := P) (w := w) (base := base) T
  have G__law_row_put := ok_law_row_put (P := P) (w := w) (base := base) T
  refine T.f__law_pair_put.fn.ok sc_law_pair_put (fun vs H Q E h => ?_) (fun cdv A outer s H vs Q E hr h => ?_)
  · obtain ⟨p, y, u, ns, v, rfl, _⟩ := h
    rfl
  · obtain ⟨p, y, u, ns, v, rfl, st, ⟨hy, rn, nv⟩, k⟩ := h
    refine ⟨?t, ?B, ?C⟩
    case B =>
      refine' pss_cons ?s1 ?r1
      case s1 =>
       exact (ps_set (i := 2) sc_law_pair_put.nd rfl (Or.inl rfl) (pe_callF T.f__law_take G__law_take hr (by decide) (pa_cons (pv 0) (pa_cons pe_int pa_nil))))
      case r1 =>
       refine' pss_cons ?s3 ?r3
       case s3 =>
        refine' ps_if ?c4 ?a4 ?b4
        case c4 =>
         exact (pt_cmpR op_lt (pv 2) pe_int (nomark _))
        case a4 =>
         refine' pss_one ?s5
         case s5 =>
          exact (ps_ret (pe_tup (pa_cons (pe_callF T.f__law_row_put G__law_row_put hr (by decide) (pa_cons (pv 0) (pa_cons (pe_ix ix_tup (pv 1) pe_int (fun _ _ => rfl)) pa_nil))) (pa_cons (pe_ix ix_tup (pv 1) pe_int (fun _ _ => rfl)) pa_nil))))
        case b4 =>
         exact pss_nil
       case r3 =>
        refine' pss_cons ?s9 ?r9
        case s9 =>
         refine' ps_if ?c10 ?a10 ?b10
         case c10 =>
          exact (pt_cmpR op_lt (pv 2) pe_int (nomark _))
         case a10 =>
          refine' pss_one ?s11
          case s11 =>
           exact (ps_ret (pe_tup (pa_cons (pe_ix ix_tup (pv 1) pe_int (fun _ _ => rfl)) (pa_cons (pe_callF T.f__law_odd G__law_odd hr (by decide) (pa_cons (pv 0) (pa_cons (pe_ix ix_tup (pv 1) pe_int (fun _ _ => rfl)) pa_nil))) pa_nil))))
         case b10 =>
          exact pss_nil
        case r9 =>
         refine' pss_one ?s15
         case s15 =>
          exact (ps_ret (pe_ix ix_list (pe_lst (pa_cons (pe_callTy call_list_of (by rfl) T.n_list bt_list (pa_cons (pv 1) pa_nil)) (pa_cons (pe_op op_catA (pv 1) (pe_tup (pa_cons pe_non pa_nil))) pa_nil))) (pe_op op_sub (pv 2) pe_int) (fun _ _ => rfl)))
    have ny : y ≠ p := ne_strm st hy (fun _ _ _ z => by cases z)
    have nu : u ≠ p := ne_strm st rn.1 (fun _ _ _ z => by cases z)
    refine ⟨_, rfl, p, 9, rfl, st, by decide, by decide, fun c H1 c0 c1 b1 => ?_⟩
    have hy1 := b1.1 _ _ ny hy
    have hu1 := b1.1 _ _ nu rn.1
    refine ⟨_, rfl, _, _, rfl, rfl, _, rfl, ?_⟩
    by_cases h4 : c < 4
    · rw [decide_eq_true h4]
      refine iteT ⟨_, rfl, _, rfl, y, _, 0, _, rfl, rfl, SqT.of hy1, rfl, p, u, ns, rfl, b1.2, ⟨hu1, rn.2⟩, fun x r H2 rx nx b2 => ?_⟩
      have b12 := b1.trans b2
      refine ⟨_, rfl, y, _, 1, v, rfl, rfl, SqT.of (b12.1 _ _ ny hy), rfl, (show 2 ≤ sizeLine by decide), fun t et => ?_⟩
      have s3 := Same.upd (o := .tup [x, v]) et
      exact k (.ref t) (.two x v r) _ ⟨t, rfl, upd_same, rx.same s3, nv.tm⟩ (own_tup upd_same (fun z hz => by
        simp only [List.mem_cons, List.not_mem_nil, or_false] at hz
        rcases hz with rfl | rfl
        · exact nx
        · exact nv.node)) (b12.same s3)
    · rw [decide_eq_false h4]
      refine iteF ⟨_, rfl, _, _, rfl, rfl, _, rfl, ?_⟩
      by_cases h7 : c < 7
      · rw [decide_eq_true h7]
        refine iteT ⟨_, rfl, y, _, 0, _, rfl, rfl, SqT.of hy1, rfl, ?_⟩
        refine ⟨_, rfl, _, rfl, y, _, 1, v, rfl, rfl, SqT.of hy1, rfl, p, v, rfl, b1.2, nv, fun x H2 tx nx b2 => ?_⟩
        have b12 := b1.trans b2
        refine ⟨(show 2 ≤ sizeLine by decide), fun t et => ?_⟩
        have s3 := Same.upd (o := .tup [.ref u, x]) et
        have rn2 : RowN (upd H2 t (.tup [.ref u, x])) u ns := ⟨s3 _ _ (b12.1 _ _ nu rn.1), rn.2⟩
        exact k (.ref t) (.two (.ref u) x _) _ ⟨t, rfl, upd_same, rn2.row, tx.same s3⟩ (own_tup upd_same (fun z hz => by
          simp only [List.mem_cons, List.not_mem_nil, or_false] at hz
          rcases hz with rfl | rfl
          · exact .inr ⟨_, rfl⟩
          · exact nx)) (b12.same s3)
      · rw [decide_eq_false h7]
        refine iteF ⟨_, rfl, y, _, rfl, .inr (SqT.of hy1), fun l el => ?_⟩
        have s1 := Same.upd (o := .lst [.ref u, v]) el
        refine ⟨_, rfl, (show 1 ≤ sizeLine by decide), fun q1 e1 => ?_⟩
        have s2 := Same.upd (o := .tup [.non]) e1
        refine ⟨y, q1, _, _, rfl, rfl, s2 _ _ (s1 _ _ hy1), upd_same, (show 2 + 1 ≤ sizeLine by decide), fun q2 H3 s3 g3 => ?_⟩
        refine ⟨(show 2 ≤ sizeLine by decide), fun L eL => ?_⟩
        have s4 := Same.upd (o := .lst [.ref l, .ref q2]) eL
        have bb := b1.same (((s1.trans s2).trans s3).trans s4)
        have nd : ∀ z ∈ [V.ref u, v], nodeV z := fun z hz => by
          simp only [List.mem_cons, List.not_mem_nil, or_false] at hz
          rcases hz with rfl | rfl
          · exact .inr ⟨_, rfl⟩
          · exact nv.node
        have gl := s4 _ _ (s3 _ _ (s2 _ _ (upd_same (a := l) (o := .lst [.ref u, v]))))
        have g2 := s4 _ _ g3
        have cs : c = 7 ∨ c = 8 := by omega
        rcases cs with rfl | rfl
        · exact ⟨_, rfl, _, _, rfl, rfl, L, _, _, _, rfl, rfl, SqL.of upd_same, rfl, k (.ref l) .no _ ⟨_, .of (.lst gl), rfl⟩ (own_lst gl nd) bb⟩
        · exact ⟨_, rfl, _, _, rfl, rfl, L, _, _, _, rfl, rfl, SqL.of upd_same, rfl, k (.ref q2) (.oth _) _ ⟨q2, rfl, g2, by simp⟩ (own_tup g2 (fun z hz => (List.mem_append.mp hz).elim (nd z) (fun h => by rw [List.mem_singleton.mp h]; exact .inl rfl))) bb⟩
end
theorem GS.ll {K : W.Frag} {a : Ad} {H H' : Hp} {x : V} {n : Nat} (s : LL H H') (h : GS K a H x n) : GS K a H' x n := by
  cases h with
  | plain i g l =>
    obtain ⟨dx, t, h1, h2⟩ := g
    exact .plain i ⟨dx, t, s.get (by intro _ z; cases z) h1, s.get (by intro _ z; cases z) h2⟩ l
  | stuck e => exact .stuck (s.get (by intro _ z; cases z) e)
theorem BasAt.ll {K : W.Frag} {a : Ad} {H H' : Hp} {b : Addr} {B : Bsn} (s : LL H H') (h : BasAt K a H b B) : BasAt K a H' b B := by
  obtain ⟨dx, h1, h2⟩ := h
  exact ⟨dx, s.get (by intro _ z; cases z) h1, h2.ll s⟩
theorem TwnAt.ll {a : Ad} {H H' : Hp} {b : Addr} {B : Twn} (s : LL H H') (h : TwnAt a H b B) : TwnAt a H' b B := by
  obtain ⟨dx, h1⟩ := h
  exact ⟨dx, s.get (by intro _ z; cases z) h1⟩
theorem RivAt.ll {K : W.Frag} {a : Ad} {H H' : Hp} {o : Addr} {R : Riv} (s : LL H H') (h : RivAt K a H o R) : RivAt K a H' o R := by
  obtain ⟨dx, b, t, os, ts, h1, h2, h3, h4, h5, h6⟩ := h
  exact ⟨dx, b, t, os, ts, s.get (by intro _ z; cases z) h1, s.get (by intro _ z; cases z) h2, h3.map fun _ _ h => h.ll s, s.get (by intro _ z; cases z) h4, h5.map fun _ _ h => h.ll s, h6⟩
theorem RowT.ll {K : W.Frag} {H H' : Hp} {x : V} (s : LL H H') : ∀ {r : Option (List V)}, RowT K H x r → RowT K H' x r
  | some _, ⟨p, e, h1, h2, h3⟩ => ⟨p, e, s.get (by intro _ z; cases z) h1, fun v hv => tm_ll s (h2 v hv), h3⟩
  | none, ⟨t, h1, h2⟩ => ⟨t, tx_ll s h1, h2⟩
theorem PrT.ll {K : W.Frag} {H H' : Hp} {x : V} (s : LL H H') : ∀ {r : Pr}, PrT K H x r → PrT K H' x r
  | .no, ⟨t, h1, h2⟩ => ⟨t, tx_ll s h1, h2⟩
  | .oth _, ⟨p, e, h1, h2⟩ => ⟨p, e, s.get (by intro _ z; cases z) h1, h2⟩
  | .two _ _ _, ⟨p, e, h1, h2, h3⟩ => ⟨p, e, s.get (by intro _ z; cases z) h1, h2.ll s, tm_ll s h3⟩
theorem StdAt.ll {H H' : Hp} {x : V} {R : RTold} {ls : List Int} {wt : Int} (s : LL H H') (h : StdAt H x R ls wt) : StdAt H' x R ls wt := by
  obtain ⟨⟨y, u, e, h1, h2⟩, h3⟩ := h
  exact ⟨⟨y, u, e, s.get (by intro _ z; cases z) h1, s.get (by intro _ z; cases z) h2⟩, h3⟩
theorem Own.but {p : Addr} {H H' : Hp} {x : V} (st : Strm H p) (b : But p H H') (h : Own H x) : Own H' x := by
  rcases h with h | ⟨c, rfl, ⟨vs, h | h, hv⟩ | h | ⟨k, v, h⟩⟩
  · exact .inl h
  · by_cases z : c = p
    · subst z
      obtain ⟨x, y, z, q⟩ := b.2
      refine .inr ⟨c, rfl, .inl ⟨_, .inl q, fun v hv => ?_⟩⟩
      simp only [List.mem_cons, List.not_mem_nil, or_false] at hv
      rcases hv with rfl | rfl | rfl <;> exact .inl rfl
    · exact .inr ⟨c, rfl, .inl ⟨vs, .inl (b.1 _ _ z h), hv⟩⟩
  · exact .inr ⟨c, rfl, .inl ⟨vs, .inr (but_get st b h (by intro _ _ _ z; cases z)), hv⟩⟩
  · exact .inr ⟨c, rfl, .inr (.inl (but_get st b h (by intro _ _ _ z; cases z)))⟩
  · exact .inr ⟨c, rfl, .inr (.inr ⟨k, v, but_get st b h (by intro _ _ _ z; cases z)⟩)⟩
theorem Own.same {H H' : Hp} {x : V} (s : Same H H') (h : Own H x) : Own H' x := by
  rcases h with h | ⟨c, rfl, ⟨vs, h | h, hv⟩ | h | ⟨k, v, h⟩⟩
  · exact .inl h
  · exact .inr ⟨c, rfl, .inl ⟨vs, .inl (s _ _ h), hv⟩⟩
  · exact .inr ⟨c, rfl, .inl ⟨vs, .inr (s _ _ h), hv⟩⟩
  · exact .inr ⟨c, rfl, .inr (.inl (s _ _ h))⟩
  · exact .inr ⟨c, rfl, .inr (.inr ⟨k, v, s _ _ h⟩)⟩
theorem like_map {α : Type} {R : RTold} {S : Riv} (h : Like R S) (f : Str × Int × Int × Int × Int × Nat → α) : S.Bs.map (fun B => f (bKey B)) = R.Bs.map (fun B => f (tKey B)) := by
  have e1 : S.Bs.map (fun B => f (bKey B)) = (S.Bs.map bKey).map f := by rw [List.map_map]; rfl
  have e2 : R.Bs.map (fun B => f (tKey B)) = (R.Bs.map tKey).map f := by rw [List.map_map]; rfl
  rw [e1, e2, h.Bs]
theorem like_len {R : RTold} {S : Riv} (h : Like R S) : S.Bs.length = R.Bs.length := by
  have := congrArg List.length h.Bs
  simpa using this
theorem like_tlen {R : RTold} {S : Riv} (h : Like R S) : S.Ts.length = R.Ts.length := by
  have := congrArg List.length h.Ts
  simpa using this
theorem like_st {R : RTold} {S : Riv} (h : Like R S) (q : Pr) : stB S q = stT R q := by
  cases q with
  | no => rfl
  | oth => rfl
  | two u w r =>
    show (wholeB w 0 S.c && rowB r (S.Bs.map (·.lo)) (S.Bs.map (·.hi))) = (wholeB w 0 R.c && rowB r (R.Bs.map (·.lo)) (R.Bs.map (·.hi)))
    rw [h.c, show S.Bs.map (·.lo) = R.Bs.map (·.lo) from like_map h (·.2.1), show S.Bs.map (·.hi) = R.Bs.map (·.hi) from like_map h (·.2.2.1)]
theorem like_ch {R : RTold} {S : Riv} (h : Like R S) (q : Pr) : chB S q = chT R q := by
  cases q with
  | no => rfl
  | oth => rfl
  | two u w r =>
    show (townB S.Ts.length w && rowB r (List.replicate S.Bs.length 0) (S.Bs.map fun B => (B.n : Int) - 1)) = (townB R.Ts.length w && rowB r (List.replicate R.Bs.length 0) (R.Bs.map fun B => (nOf B.G : Int) - 1))
    rw [like_tlen h, like_len h, show S.Bs.map (fun B => (B.n : Int) - 1) = R.Bs.map (fun B => (nOf B.G : Int) - 1) from like_map h (fun k => (k.2.2.2.2.2 : Int) - 1)]
theorem like_forced {R : RTold} {S : Riv} (h : Like R S) (wet : Int) : forced S wet = forcedT R wet := by
  unfold forced forcedT
  rw [h.c, h.g, show S.Bs.map (·.rn) = R.Bs.map (·.rn) from like_map h (·.2.2.2.2.1)]
  generalize (R.Bs.map (·.rn)).sum = m
  generalize wet + R.g - R.c = n
  split <;> split <;> split <;> (try split) <;> omega
theorem like_rn {R : RTold} {S : Riv} (h : Like R S) (wet : Int) (r : Option (List V)) : rnB S wet r = rnT R wet r := by
  cases r with
  | none => rfl
  | some vs =>
    show (rowB (some vs) (List.replicate S.Bs.length 0) (S.Bs.map (·.rn)) && (decide (forced S wet ≤ sumV vs) && decide (sumV vs ≤ wet))) = (rowB (some vs) (List.replicate R.Bs.length 0) (R.Bs.map (·.rn)) && (decide (forcedT R wet ≤ sumV vs) && decide (sumV vs ≤ wet)))
    rw [like_len h, like_forced h, show S.Bs.map (·.rn) = R.Bs.map (·.rn) from like_map h (·.2.2.2.2.1)]
theorem StdAt.pair {H : Hp} {x : V} {R : RTold} {ls : List Int} {wt : Int} (rg : RGood R) (h : StdAt H x R ls wt) : ∃ y u, x = .ref y ∧ PairN H y u ls (.int wt) := by
  obtain ⟨⟨y, u, e, h1, h2⟩, h3, h4, h5, h6⟩ := h
  have := rg.n
  have := rg.c
  refine ⟨y, u, e, h1, ⟨h2, by omega, fun n hn => ?_⟩, .inr ⟨wt, rfl, by omega, by omega⟩⟩
  obtain ⟨i, hi⟩ := List.getElem?_of_mem hn
  obtain ⟨B, eB, l1, l2⟩ := h4 i n hi
  have bg := (rg.Bs B (List.mem_of_getElem? eB)).1
  have := bg.lo
  have := bg.hi
  omega
theorem ChcAt.pair {H : Hp} {x : V} {R : RTold} {ns : List Int} {tv : V} (rg : RGood R) (h : ChcAt H x R ns tv) : ∃ y u, x = .ref y ∧ PairN H y u ns tv := by
  obtain ⟨⟨y, u, e, h1, h2⟩, h3, h4, h5⟩ := h
  have := rg.n
  have := rg.tn
  refine ⟨y, u, e, h1, ⟨h2, by omega, fun n hn => ?_⟩, ?_⟩
  · obtain ⟨i, hi⟩ := List.getElem?_of_mem hn
    have := h4 i n hi
    omega
  · rcases h5 with h | ⟨j, h, j0, j1⟩
    · exact .inl h
    · exact .inr ⟨j, h, by omega, by omega⟩
theorem PairN.pr {K : W.Frag} {H : Hp} {y u : Addr} {ns : List Int} {v : V} (h : PairN H y u ns v) : PrT K H (.ref y) (.two (.ref u) v (some (ns.map V.int))) := ⟨y, rfl, h.1, h.2.1.row, h.2.2.tm⟩
theorem PairN.ll {H H' : Hp} {y u : Addr} {ns : List Int} {v : V} (s : LL H H') (h : PairN H y u ns v) : PairN H' y u ns v := ⟨s.get (by intro _ z; cases z) h.1, ⟨s.get (by intro _ z; cases z) h.2.1.1, h.2.1.2⟩, h.2.2⟩
def spLPairs (K : W.Frag) (a : Ad) : Sp := fun vs H Q _ => ∃ (p : Addr) (t : V) (R : RTold) (o : Addr) (S : Riv) (y u c v : Addr) (ls ns : List Int) (wv tv : V), vs = [t, .ref o, .ref p, .ref y, .ref c] ∧ Strm H p ∧ RTAt p H t R ∧ RGood R ∧ RivAt K a H o S ∧ Like R S ∧ PairN H y u ls wv ∧ PairN H c v ns tv ∧ ∀ H', But p H H' → Q (.bl true) H'
section
variable {P : Program} {w : World} {K : W.Frag} {mg : Str → Option Value} {base : Heap} {a : Ad}
theorem sc_law_pairs_right : FnScope ["_law_told_here", "_law_river_here", "_law_stream_here", "_law_standing_here", "_law_choice_here", "_law_things", "_law_thing"] ["_law_told_here", "_law_river_here", "_law_stream_here", "_law_standing_here", "_law_choice_here"] (defScope (top 79)) := ⟨rfl, rfl, rfl, by decide +kernel, rfl, by decide +kernel, by decide +kernel⟩
theorem ok_law_pairs_right (T : Tx K mg a) : FnOk P w K mg base CX0 5 a.a__law_pairs_right a.d__law_pairs_right ["_law_told_here", "_law_river_here", "_law_stream_here", "_law_standing_here", "_law_choice_here"] (spLPairs K a) := by
  have G_is_standing := ok_is_standing (P := P) (w := w) (base := base) T
  have G_is_choice := ok_is_choice (P := P) (w := w) (base := base) T
  have G__law_is_standing := ok_law_is_standing (P := P) (w := w) (base := base) T
  have G__law_is_choice := ok_law_is_choice (P := P) (w := w) (base := base) T
  have G__law_pair_put := ok_law_pair_put (P := P) (w := w) (base := base) T
  have G__law_any := ok_law_any (P := P) (w := w) (base := base) T
  have G__law_told := ok_law_told (P := P) (w := w) (base := base) T
  refine T.f__law_pairs_right.fn.ok sc_law_pairs_right (fun vs H Q E h => ?_) (fun cdv A outer s H vs Q E hr h => ?_)
  · obtain ⟨p, t, R, o, S, y, u, c, v, ls, ns, wv, tv, rfl, _⟩ := h
    rfl
  · obtain ⟨p, t, R, o, S, y, u, c, v, ls, ns, wv, tv, rfl, st, rt, rg, ro, lk, py, pc, k⟩ := h
    refine ⟨?t, ?B, ?C⟩
    case B =>
      refine' pss_cons ?s1 ?r1
      case s1 =>
       exact (ps_set (i := 5) sc_law_pairs_right.nd rfl (Or.inl rfl) (pe_lst (pa5 (pv 3) (pv 4) (pe_callF T.f__law_pair_put G__law_pair_put hr (by decide) (pa_cons (pv 2) (pa_cons (pv 3) pa_nil))) (pe_callF T.f__law_pair_put G__law_pair_put hr (by decide) (pa_cons (pv 2) (pa_cons (pv 4) pa_nil))) (pe_callF T.f__law_any G__law_any hr (by decide) (pa_cons (pv 2) pa_nil)))))
      case r1 =>
       refine' pss_cons ?s3 ?r3
       case s3 =>
        refine' ps_for ?f4_0 ?f4_1 ?f4_2 ?f4_3 ?f4_4
        case f4_0 =>
         exact PassesOwn.never
        case f4_1 =>
         exact rfl
        case f4_2 =>
         exact (pi_list (pv 5))
        case f4_3 =>
         exact (pg_name (i := 6) sc_law_pairs_right.nd rfl (Or.inl rfl))
        case f4_4 =>
         refine' pss_cons ?s5 ?r5
         case s5 =>
          refine' ps_if ?c6 ?a6 ?b6
          case c6 =>
           exact (pt_not (pt_val (pe_callF T.f__law_told G__law_told hr (by decide) (pa_cons (pe_callF T.f_is_standing G_is_standing hr (by decide) (pa_cons (pv 1) (pa_cons (pv 6) pa_nil))) (pa_cons (pe_callF T.f__law_is_standing G__law_is_standing hr (by decide) (pa_cons (pv 0) (pa_cons (pv 6) pa_nil))) pa_nil)))))
          case a6 =>
           refine' pss_one ?s7
           case s7 =>
            exact (ps_ret pe_bl)
          case b6 =>
           exact pss_nil
         case r5 =>
          refine' pss_one ?s11
          case s11 =>
           refine' ps_if ?c12 ?a12 ?b12
           case c12 =>
            exact (pt_not (pt_val (pe_callF T.f__law_told G__law_told hr (by decide) (pa_cons (pe_callF T.f_is_choice G_is_choice hr (by decide) (pa_cons (pv 1) (pa_cons (pv 6) pa_nil))) (pa_cons (pe_callF T.f__law_is_choice G__law_is_choice hr (by decide) (pa_cons (pv 0) (pa_cons (pv 6) pa_nil))) pa_nil)))))
           case a12 =>
            refine' pss_one ?s13
            case s13 =>
             exact (ps_ret pe_bl)
           case b12 =>
            exact pss_nil
       case r3 =>
        refine' pss_one ?s17
        case s17 =>
         exact (ps_ret pe_bl)
    refine ⟨_, rfl, _, rfl, _, rfl, _, rfl, p, y, u, ls, wv, rfl, st, py, fun x1 q1 H1 pr1 ow1 b1 => ?_⟩
    refine ⟨_, rfl, _, rfl, p, c, v, ns, tv, rfl, b1.2, pc.ll (LL.but st b1), fun x2 q2 H2 pr2 ow2 b2 => ?_⟩
    refine ⟨_, rfl, p, rfl, b2.2, fun x3 H3 an3 b3 => ?_⟩
    obtain ⟨_, ⟨q3, pr3⟩, _⟩ := an3
    refine ⟨(show 5 ≤ sizeLine by decide), fun L eL => ?_⟩
    have sL := Same.upd (o := .lst [.ref y, .ref c, x1, x2, x3]) eL
    have b13 := (b1.trans b2).trans b3
    have bb := b13.same sL
    have l1 := LL.but st bb
    have l2 : LL H1 _ := (LL.but b1.2 (b2.trans b3)).trans (LL.same sL)
    have l3 : LL H2 _ := (LL.but b2.2 b3).trans (LL.same sL)
    have all : ∀ x ∈ [V.ref y, .ref c, x1, x2, x3], ∃ q, PrT K (upd H3 L (.lst [.ref y, .ref c, x1, x2, x3])) x q := by
      intro x hx
      simp only [List.mem_cons, List.not_mem_nil, or_false] at hx
      rcases hx with rfl | rfl | rfl | rfl | rfl
      · exact ⟨_, (py.ll l1).pr⟩
      · exact ⟨_, (pc.ll l1).pr⟩
      · exact ⟨_, pr1.ll l2⟩
      · exact ⟨_, pr2.ll l3⟩
      · exact ⟨_, pr3.same sL⟩
    have rt4 := rt.but rg st bb
    have ro4 := ro.ll l1
    have gL := upd_same (H := H3) (a := L) (o := .lst [.ref y, .ref c, x1, x2, x3])
    refine ⟨_, rfl, L, rfl, ⟨_, SqL.of gL⟩, ?_⟩
    generalize upd H3 L (.lst [.ref y, .ref c, x1, x2, x3]) = H4 at *
    refine for_list (xs := [.ref y, .ref c, x1, x2, x3]) (fun i σ H' => ∃ o1, σ = [some t, some (.ref o), some (.ref p), some (.ref y), some (.ref c), some (.ref L), o1] ∧ Same H4 H') ⟨_, rfl, Same.refl _⟩ (fun i σ H' _ ⟨_, _, sm⟩ => SqL.of (sm _ _ gL)) ?_ ?_
    · rintro i x σ H' hx ⟨o1, rfl, sm⟩
      obtain ⟨q, pq⟩ := all x (List.mem_of_getElem? hx)
      refine ⟨_, rfl, _, rfl, o, S, x, q, rfl, ro4.same sm, pq.same sm, fun H5 s5 => ?_⟩
      have s05 := sm.trans s5
      refine ⟨_, rfl, _, rfl, p, t, R, x, q, rfl, rt4.same rg s05, rg, pq.same s05, fun H6 s6 => ⟨_, _, rfl, _, rfl, ifF (by rw [like_st lk]; cases stT R q <;> rfl) ?_⟩⟩
      have s06 := s05.trans s6
      refine ⟨_, rfl, _, rfl, o, S, x, q, rfl, ro4.same s06, pq.same s06, fun H7 s7 => ?_⟩
      have s07 := s06.trans s7
      refine ⟨_, rfl, _, rfl, p, t, R, x, q, rfl, rt4.same rg s07, rg, pq.same s07, fun H8 s8 => ⟨_, _, rfl, _, rfl, ifF (by rw [like_ch lk]; cases chT R q <;> rfl) ?_⟩⟩
      exact ⟨_, rfl, s07.trans s8⟩
    · rintro σ H' ⟨o1, rfl, sm⟩
      exact k _ (bb.same sm)
end
section
variable {P : Program} {w : World} {K : W.Frag} {mg : Str → Option Value} {base : Heap} {a : Ad}
theorem bt_ValueError : bootBuiltins "ValueError" = some (.type "ValueError") := by decide +kernel
theorem own_bl {H : Hp} {x : V} (h : Own H x) : ∃ t c, TyX K H x t ∧ W.kitOne K t (.type "bool") = some c := by
  rcases h with h | ⟨p, rfl, ⟨vs, h | h, hv⟩ | h | ⟨k, v, h⟩⟩
  · cases x with
    | non => exact ⟨_, false, .of .non, rfl⟩
    | bl b => exact ⟨_, true, .of (.bl b), rfl⟩
    | int i => exact ⟨_, false, .of (.int i), rfl⟩
    | str z => exact ⟨_, false, .of (.str z), rfl⟩
    | _ => cases h
  · exact ⟨_, false, .of (.lst h), rfl⟩
  · exact ⟨_, false, .of (.tup h), rfl⟩
  · exact ⟨_, false, .of (.dK h), rfl⟩
  · exact ⟨_, false, .of (.dK h), rfl⟩
def spLRef (K : W.Frag) (a : Ad) : Sp := fun vs H Q _ => ∃ (o : Addr) (S : Riv) (x : V) (q : Pr) (y : V) (r : Option (List V)), vs = [.ref o, x, y] ∧ RivAt K a H o S ∧ PrT K H x q ∧ stB S q = false ∧ RowT K H y r ∧ Own H x ∧ ∀ H', Same H H' → Q (.bl true) H'
theorem sc_law_refused : FnScope ["_law_river_here", "_law_thing", "_law_rain_here", "_law_found", "e"] ["_law_river_here", "_law_thing", "_law_rain_here"] (defScope (top 80)) := ⟨rfl, rfl, rfl, by decide +kernel, rfl, by decide +kernel, by decide +kernel⟩
theorem ok_law_refused (T : Tx K mg a) : FnOk P w K mg base CX0 5 a.a__law_refused a.d__law_refused ["_law_river_here", "_law_thing", "_law_rain_here"] (spLRef K a) := by
  have G_is_rain := ok_is_rain (P := P) (w := w) (base := base) T
  refine T.f__law_refused.fn.ok sc_law_refused (fun vs H Q E h => ?_) (fun cdv A outer s H vs Q E hr h => ?_)
  · obtain ⟨o, S, x, q, y, r, rfl, _⟩ := h
    rfl
  · obtain ⟨o, S, x, q, y, r, rfl, ro, px, ns, ry, ow, k⟩ := h
    have hu64 := hu64_of hr
    refine ⟨?t, ?B, ?C⟩
    case B =>
      refine' pss_cons ?s1 ?r1
      case s1 =>
       exact (ps_set (i := 3) sc_law_refused.nd rfl (Or.inl rfl) pe_non)
      case r1 =>
       refine' pss_cons ?s3 ?r3
       case s3 =>
        exact (ps_try ⟨rfl, rfl⟩ (fun _ _ hw => (pss_one (ps_expr (pe_callX T.f_is_rain G_is_rain hw hr (by decide) (pa_cons (pv 0) (pa_cons (pv 1) (pa_cons (pv 2) pa_nil))))))) (by exact ph_as T.e_NoStanding T.m_NoStanding sc_law_refused.nd (i := 4) rfl rfl (fun _ => (pss_one (ps_set (i := 3) sc_law_refused.nd rfl (Or.inl rfl) (pv 4)))) ph_nil))
       case r3 =>
        refine' pss_cons ?s5 ?r5
        case s5 =>
         refine' ps_if ?c6 ?a6 ?b6
         case c6 =>
          exact (pw_or (pt_cmpR op_isN (pv 3) pe_non (nomark _)) (pw_or (pt_not (pt_val (pe_callB call_isA (by rfl) T.n_isinstance bt_isinstance (pa_cons (pv 3) (pa_cons (pe_glob (by rfl) T.m_WeirError (v := .ref _) rfl) pa_nil))))) (pw_or1 (pt_not (pt_val (pe_callB call_isA (by rfl) T.n_isinstance bt_isinstance (pa_cons (pv 3) (pa_cons (pe_bltn (v := .ty "ValueError") (by rfl) T.n_ValueError bt_ValueError rfl) pa_nil)))))))).pt
         case a6 =>
          refine' pss_one ?s7
          case s7 =>
           exact (ps_ret pe_bl)
         case b6 =>
          exact pss_nil
        case r5 =>
         refine' pss_cons ?s11 ?r11
         case s11 =>
          refine' ps_if ?c12 ?a12 ?b12
          case c12 =>
           exact (pt_val (pe_callB call_isT (by rfl) T.n_isinstance bt_isinstance (pa_cons (pv 3) (pa_cons (pe_tup (pa_cons (pe_glob (by rfl) T.m_NoChoice (v := .ref _) rfl) (pa_cons (pe_glob (by rfl) T.m_NoRain (v := .ref _) rfl) pa_nil))) pa_nil))))
          case a12 =>
           refine' pss_one ?s13
           case s13 =>
            exact (ps_ret pe_bl)
          case b12 =>
           exact pss_nil
         case r11 =>
          refine' pss_one ?s17
          case s17 =>
           exact (ps_ret (pe_and (pe_cmpR op_eq (pe_callB call_isA (by rfl) T.n_isinstance bt_isinstance (pa_cons (pe_fldX (pv 3) (by rfl)) (pa_cons (pe_bltn (v := .ty "bool") (by rfl) T.n_bool bt_bool rfl) pa_nil))) (pe_callB call_isA (by rfl) T.n_isinstance bt_isinstance (pa_cons (pv 1) (pa_cons (pe_bltn (v := .ty "bool") (by rfl) T.n_bool bt_bool rfl) pa_nil))) (nomark _)) (pe_one (pe_cmpR (op_eqO hu64) (pe_fldX (pv 3) (by rfl)) (pv 1) (nomark _)))))
    refine fun pins => ⟨_, rfl, _, rfl, _, rfl, o, S, x, q, y, r, rfl, ro, px, ry, ?_⟩
    rw [if_neg (by rw [ns]; decide)]
    intro c eo H1 rf
    obtain ⟨e, dx, rfl, rfl, s1, q1, q2⟩ := rf
    have ty : ∀ {H'}, Same H1 H' → TyX K H' (.ref e) (.ref a.c_NoStanding) := fun s => .exc (s _ _ q1) (s _ _ q2) T.x_NoStanding
    obtain ⟨t, b, tb, eb⟩ := own_bl (K := K) (Own.same s1 ow)
    refine ⟨e, _, true, rfl, rfl, T.i_m_NoStanding_NoStanding, iteT ?_⟩
    refine ⟨_, rfl, ?_⟩
    refine ⟨_, rfl, rfl, _, rfl, ifF (decide_eq_false (fun z => by cases z)) ?_⟩
    refine ⟨_, rfl, _, _, _, _, _, rfl, rfl, ty (Same.refl H1), T.i_w_NoStanding, _, rfl, iteF ⟨_, rfl, _, _, _, _, _, rfl, rfl, ty (Same.refl H1), T.i_v_NoStanding, _, rfl, iteF ?_⟩⟩
    refine ⟨_, rfl, (show 2 ≤ sizeLine by decide), fun tp etp => ?_⟩
    have s2 := Same.upd (o := .tup [.ref a.c_NoChoice, .ref a.c_NoRain]) etp
    refine ⟨_, tp, _, _, _, false, rfl, upd_same, rfl, ty s2, (show W.kitAny K (.ref a.c_NoStanding) [.ref a.c_NoChoice, .ref a.c_NoRain] = some false by simp only [W.kitAny, T.i_x_NoStanding_NoChoice, T.i_x_NoStanding_NoRain]), _, rfl, iteF ?_⟩
    refine ⟨_, rfl, e, _, _, _, dx, _, _, _, rfl, s2 _ _ q1, s2 _ _ q2, T.x_NoStanding, T.n_NoStanding_thing, rfl, ?_⟩
    refine ⟨_, _, _, t, b, rfl, rfl, tx_same s2 tb, eb, _, rfl, _, _, _, t, b, rfl, rfl, tx_same s2 tb, eb, rfl, ?_⟩
    rw [decide_eq_true rfl]
    exact ⟨_, rfl, iteT ⟨_, rfl, e, _, _, _, dx, _, _, _, rfl, s2 _ _ q1, s2 _ _ q2, T.x_NoStanding, T.n_NoStanding_thing, rfl, _, rfl, rfl, Own.same (s1.trans s2) ow, k _ (s1.trans s2)⟩⟩
end
def spLaw (K : W.Frag) : Sp := fun vs H Q _ => ∃ (a : Addr) (ns : List Int), vs = [.ref a] ∧ SqL K H a (ns.map V.int) ∧ ns.length ≤ 63 ∧ ∀ H', Q (.bl true) H'
theorem RTAt.move {p q : Addr} {H : Hp} {x : V} {R : RTold} (rg : RGood R) (hq : H q = none) (h : RTAt p H x R) : RTAt q H x R := by
  obtain ⟨t, lb, lt, bs, ts, e, ht, hb, btl, htt, ttl, nb, nt⟩ := h
  exact ⟨t, lb, lt, bs, ts, e, ht, hb, btl.map (fun _ _ _ h => h.move hq) (fun B hB => (rg.Bs B hB).1), htt, ttl, ne_of_none hb hq, ne_of_none htt hq⟩
theorem wl_std : ∀ {ls : List Int} {Bs : List BTold}, ls.length = Bs.length → (∀ (i : Nat) (n : Int), ls[i]? = some n → ∃ B, Bs[i]? = some B ∧ B.lo ≤ n ∧ n ≤ B.hi) → (wl (ls.map V.int) (Bs.map (·.lo)) (Bs.map (·.hi))).all id = true
  | [], [], _, _ => rfl
  | n :: ls, B :: Bs, e, h => by
    have h0 : B.lo ≤ n ∧ n ≤ B.hi := by
      obtain ⟨B', e', q⟩ := h 0 n rfl
      obtain rfl : B = B' := by simpa using e'
      exact q
    have t := wl_std (ls := ls) (Bs := Bs) (by simpa using e) (fun i n hi => by
      obtain ⟨B', e', q⟩ := h (i + 1) n (by simpa using hi)
      exact ⟨B', by simpa using e', q⟩)
    show ((decide (B.lo ≤ n) && decide (n ≤ B.hi)) && _) = true
    rw [decide_eq_true h0.1, decide_eq_true h0.2]
    exact t
  | [], _ :: _, e, _ => by simp at e
  | _ :: _, [], e, _ => by simp at e
theorem std_is {H : Hp} {x : V} {R : RTold} {ls : List Int} {wt : Int} {u : V} (h : StdAt H x R ls wt) : stT R (.two u (.int wt) (some (ls.map V.int))) = true := by
  obtain ⟨_, h3, h4, h5, h6⟩ := h
  show ((decide (0 ≤ wt) && decide (wt ≤ R.c)) && (decide ((ls.map V.int).length = (R.Bs.map (·.lo)).length) && _)) = true
  rw [decide_eq_true h5, decide_eq_true h6, decide_eq_true (by rw [List.length_map, List.length_map]; exact h3)]
  exact wl_std h3 h4
section
variable {P : Program} {w : World} {K : W.Frag} {mg : Str → Option Value} {base : Heap} {a : Ad}
theorem sc_law : FnScope ["_law_script", "_law_told_here", "_law_river_here", "_law_k", "_law_stream_here", "_law_standing_here", "_law_choice_here", "_law_rain_here", "_law_thing"] ["_law_script"] (defScope (top 81)) := ⟨rfl, rfl, rfl, by decide +kernel, rfl, by decide +kernel, by decide +kernel⟩
theorem ok_law (T : Tx K mg a) : FnOk P w K mg base CX0 8 a.a_law a.d_law ["_law_script"] (spLaw K) := by
  have G__law_cell := ok_law_cell (P := P) (w := w) (base := base) T
  have G__law_stream := ok_law_stream (P := P) (w := w) (base := base) T
  have G__law_river := ok_law_river (P := P) (w := w) (base := base) T
  have G__law_made := ok_law_made (P := P) (w := w) (base := base) T
  have G__law_standing := ok_law_standing (P := P) (w := w) (base := base) T
  have G__law_choice := ok_law_choice (P := P) (w := w) (base := base) T
  have G__law_rain := ok_law_rain (P := P) (w := w) (base := base) T
  have G__law_pairs_right := ok_law_pairs_right (P := P) (w := w) (base := base) T
  have G__law_row_put := ok_law_row_put (P := P) (w := w) (base := base) T
  have G__law_pair_put := ok_law_pair_put (P := P) (w := w) (base := base) T
  have G__law_any := ok_law_any (P := P) (w := w) (base := base) T
  have G__law_told := ok_law_told (P := P) (w := w) (base := base) T
  have G__law_is_rain := ok_law_is_rain (P := P) (w := w) (base := base) T
  have G__law_is_standing := ok_law_is_standing (P := P) (w := w) (base := base) T
  have G__law_refused := ok_law_refused (P := P) (w := w) (base := base) T
  have G_is_rain := ok_is_rain (P := P) (w := w) (base := base) T
  refine T.f_law.fn.ok sc_law (fun vs H Q E h => ?_) (fun cdv A outer s H vs Q E hr h => ?_)
  · obtain ⟨x, ns, rfl, _⟩ := h
    rfl
  · obtain ⟨x, ns, rfl, hS, hl, k⟩ := h
    refine ⟨?t, ?B, ?C⟩
    case B =>
      refine' pss_cons ?s1 ?r1
      case s1 =>
       exact (ps_set (i := 1) sc_law.nd rfl (Or.inl rfl) (pe_callF T.f__law_river G__law_river hr (by decide) (pa_cons (pe_callF T.f__law_cell G__law_cell hr (by decide) (pa_cons (pv 0) (pa_cons pe_int pa_nil))) pa_nil)))
      case r1 =>
       refine' pss_cons ?s3 ?r3
       case s3 =>
        exact (ps_set (i := 2) sc_law.nd rfl (Or.inl rfl) (pe_callF T.f__law_made G__law_made hr (by decide) (pa_cons (pv 1) pa_nil)))
       case r3 =>
        refine' pss_cons ?s5 ?r5
        case s5 =>
         refine' ps_for ?f6_0 ?f6_1 ?f6_2 ?f6_3 ?f6_4
         case f6_0 =>
          exact PassesOwn.never
         case f6_1 =>
          exact rfl
         case f6_2 =>
          exact (pi_range2 (by rfl) T.n_range (pa_cons pe_int (pa_cons (pe_callB (call_max2 rfl) (by rfl) T.n_max bt_max (pa_cons pe_int (pa_cons (pe_callB (call_min2 rfl) (by rfl) T.n_min bt_min (pa_cons (pe_callB call_len_seq (by rfl) T.n_len bt_len (pa_cons (pv 0) pa_nil)) (pa_cons pe_int pa_nil))) pa_nil))) pa_nil)))
         case f6_3 =>
          exact (pg_name (i := 3) sc_law.nd rfl (Or.inl rfl))
         case f6_4 =>
          refine' pss_cons ?s7 ?r7
          case s7 =>
           exact (ps_set (i := 4) sc_law.nd rfl (Or.inl rfl) (pe_callF T.f__law_stream G__law_stream hr (by decide) (pa_cons (pe_callF T.f__law_cell G__law_cell hr (by decide) (pa_cons (pv 0) (pa_cons (pv 3) pa_nil))) pa_nil)))
          case r7 =>
           refine' pss_cons ?s9 ?r9
           case s9 =>
            exact (ps_set (i := 5) sc_law.nd rfl (Or.inl rfl) (pe_callF T.f__law_standing G__law_standing hr (by decide) (pa_cons (pv 4) (pa_cons (pv 1) pa_nil))))
           case r9 =>
            refine' pss_cons ?s11 ?r11
            case s11 =>
             exact (ps_set (i := 6) sc_law.nd rfl (Or.inl rfl) (pe_callF T.f__law_choice G__law_choice hr (by decide) (pa_cons (pv 4) (pa_cons (pv 1) pa_nil))))
            case r11 =>
             refine' pss_cons ?s13 ?r13
             case s13 =>
              exact (ps_set (i := 7) sc_law.nd rfl (Or.inl rfl) (pe_callF T.f__law_rain G__law_rain hr (by decide) (pa_cons (pv 4) (pa_cons (pv 1) (pa_cons (pe_ix ix_tup (pv 5) pe_int (fun _ _ => rfl)) pa_nil)))))
             case r13 =>
              refine' pss_cons ?s15 ?r15
              case s15 =>
               refine' ps_if ?c16 ?a16 ?b16
               case c16 =>
                exact (pt_not (pt_val (pe_callF T.f__law_pairs_right G__law_pairs_right hr (by decide) (pa5 (pv 1) (pv 2) (pv 4) (pv 5) (pv 6)))))
               case a16 =>
                refine' pss_one ?s17
                case s17 =>
                 exact (ps_ret pe_bl)
               case b16 =>
                exact pss_nil
              case r15 =>
               refine' pss_cons ?s21 ?r21
               case s21 =>
                refine' ps_for ?f22_0 ?f22_1 ?f22_2 ?f22_3 ?f22_4
                case f22_0 =>
                 exact PassesOwn.never
                case f22_1 =>
                 exact rfl
                case f22_2 =>
                 exact (pi_list (pe_lst (pa5 (pv 7) (pe_callF T.f__law_row_put G__law_row_put hr (by decide) (pa_cons (pv 4) (pa_cons (pv 7) pa_nil))) (pe_callF T.f__law_row_put G__law_row_put hr (by decide) (pa_cons (pv 4) (pa_cons (pv 7) pa_nil))) (pe_callF T.f__law_any G__law_any hr (by decide) (pa_cons (pv 4) pa_nil)) (pe_ix ix_tup (pv 5) pe_int (fun _ _ => rfl)))))
                case f22_3 =>
                 exact (pg_name (i := 8) sc_law.nd rfl (Or.inl rfl))
                case f22_4 =>
                 refine' pss_one ?s23
                 case s23 =>
                  refine' ps_if ?c24 ?a24 ?b24
                  case c24 =>
                   exact (pt_not (pt_val (pe_callF T.f__law_told G__law_told hr (by decide) (pa_cons (pe_callF T.f_is_rain G_is_rain.calm hr (by decide) (pa_cons (pv 2) (pa_cons (pv 5) (pa_cons (pv 8) pa_nil)))) (pa_cons (pe_callF T.f__law_is_rain G__law_is_rain hr (by decide) (pa_cons (pv 1) (pa_cons (pe_ix ix_tup (pv 5) pe_int (fun _ _ => rfl)) (pa_cons (pv 8) pa_nil)))) pa_nil)))))
                  case a24 =>
                   refine' pss_one ?s25
                   case s25 =>
                    exact (ps_ret pe_bl)
                  case b24 =>
                   exact pss_nil
               case r21 =>
                refine' pss_one ?s29
                case s29 =>
                 refine' ps_for ?f30_0 ?f30_1 ?f30_2 ?f30_3 ?f30_4
                 case f30_0 =>
                  exact PassesOwn.never
                 case f30_1 =>
                  exact rfl
                 case f30_2 =>
                  exact (pi_list (pe_lst (pa_cons (pe_callF T.f__law_pair_put G__law_pair_put hr (by decide) (pa_cons (pv 4) (pa_cons (pv 5) pa_nil))) (pa_cons (pe_callF T.f__law_any G__law_any hr (by decide) (pa_cons (pv 4) pa_nil)) pa_nil))))
                 case f30_3 =>
                  exact (pg_name (i := 8) sc_law.nd rfl (Or.inl rfl))
                 case f30_4 =>
                  refine' pss_one ?s31
                  case s31 =>
                   refine' ps_if ?c32 ?a32 ?b32
                   case c32 =>
                    exact (pw_and (pt_not (pt_val (pe_callF T.f__law_is_standing G__law_is_standing hr (by decide) (pa_cons (pv 1) (pa_cons (pv 8) pa_nil))))) (pw_and1 (pt_not (pt_val (pe_callF T.f__law_refused G__law_refused hr (by decide) (pa_cons (pv 2) (pa_cons (pv 8) (pa_cons (pv 7) pa_nil)))))))).pt
                   case a32 =>
                    refine' pss_one ?s33
                    case s33 =>
                     exact (ps_ret pe_bl)
                   case b32 =>
                    exact pss_nil
        case r5 =>
         refine' pss_one ?s37
         case s37 =>
          exact (ps_ret pe_bl)
    refine ⟨_, rfl, x, ns, 0, rfl, hS, fun c0 => ⟨c0, rfl, fun td R p0 H1 hp0 s1 st0 rt rg => ?_⟩⟩
    refine ⟨_, rfl, p0, td, R, rfl, rt, rg, fun o S H2 s2 ro lk => ?_⟩
    have rt2 := rt.same rg s2
    have s12 := s1.trans s2
    refine ⟨_, rfl, x, _, rfl, .inl (s12.seq hS), _, _, rfl, _, _, rfl, _, _, rfl, ⟨by decide, by decide, ?_, ?_⟩, ?_⟩
    · split <;> split <;> omega
    · split <;> split <;> omega
    refine for_range (fun i σ H' => ∃ o3 o4 o5 o6 o7 o8, σ = [some (.ref x), some td, some (.ref o), o3, o4, o5, o6, o7, o8] ∧ Same H2 H') ⟨_, _, _, _, _, _, rfl, Same.refl _⟩ ?_ ?_
    · rintro i σ Hs hi ⟨o3, o4, o5, o6, o7, o8, rfl, sH⟩
      refine ⟨_, rfl, _, rfl, x, ns, 1 + i, by simp, (s12.trans sH).seq hS, fun cl => ⟨cl, rfl, fun p H3 hp s3 st => ?_⟩⟩
      have rt3 := ((rt2.same rg sH).move rg hp).same rg s3
      have ro3 := (ro.same sH).same s3
      refine ⟨_, rfl, _, rfl, p, td, R, rfl, st, rt3, rg, fun yv ls wt H4 b4 sd => ?_⟩
      have rt4 := rt3.but rg st b4
      refine ⟨_, rfl, _, rfl, p, td, R, rfl, b4.2, rt4, rg, fun cv cs tv H5 b5 ch => ?_⟩
      have rt5 := rt4.but rg b4.2 b5
      have sd5 := sd.ll (LL.but b4.2 b5)
      obtain ⟨y, uy, rfl, py⟩ := sd5.pair rg
      obtain ⟨cA, uc, rfl, pc⟩ := ch.pair rg
      have wb : 0 ≤ wt ∧ wt ≤ 12 := ⟨sd.2.2.2.1, by have := sd.2.2.2.2; have := rg.c; omega⟩
      refine ⟨_, rfl, _, rfl, _, rfl, y, _, 1, _, rfl, rfl, SqT.of py.1, rfl, p, td, R, wt, rfl, b5.2, rt5, rg, wb, fun u ms H6 b6 hu r6 => ?_⟩
      have l56 := LL.but b5.2 b6
      have rt6 := rt5.but rg b5.2 b6
      have b36 := (b4.trans b5).trans b6
      have ro6 := ro3.ll (LL.but st b36)
      have nR := rg.n
      have rn6 : RowN H6 u ms := ⟨hu, by have := r6.1; omega, fun m hm => by have := r6.2 m hm; omega⟩
      refine ⟨_, rfl, _, rfl, _, rfl, _, rfl, _, rfl, p, td, R, o, S, y, uy, cA, uc, ls, cs, .int wt, tv, rfl, b6.2, rt6, rg, ro6, lk, py.ll l56, pc.ll l56, fun H7 b7 => ⟨_, rfl, iteF ?_⟩⟩
      have l67 := LL.but b6.2 b7
      have rowLL : ∀ {Ha Hb : Hp}, LL Ha Hb → RowN Ha u ms → RowN Hb u ms := fun l r => ⟨l.get (by intro _ z; cases z) r.1, r.2⟩
      have rn7 := rowLL l67 rn6
      refine ⟨_, rfl, _, rfl, _, rfl, p, u, ms, rfl, b7.2, rn7, fun x1 r1 H8 rx1 nx1 b8 => ?_⟩
      have l78 := LL.but b7.2 b8
      have rn8 := rowLL l78 rn7
      refine ⟨_, rfl, _, rfl, p, u, ms, rfl, b8.2, rn8, fun x2 r2 H9 rx2 nx2 b9 => ?_⟩
      have l89 := LL.but b8.2 b9
      refine ⟨_, rfl, p, rfl, b9.2, fun x3 H10 an3 b10 => ?_⟩
      obtain ⟨⟨r3, rx3⟩, _, _⟩ := an3
      have l910 := LL.but b9.2 b10
      have l510 := (((l56.trans l67).trans l78).trans l89).trans l910
      have py10 := py.ll l510
      refine ⟨_, rfl, y, _, 0, _, rfl, rfl, SqT.of py10.1, rfl, (show 5 ≤ sizeLine by decide), fun L eL => ?_⟩
      have sL := Same.upd (o := .lst [.ref u, x1, x2, x3, .ref uy]) eL
      have gL := upd_same (H := H10) (a := L) (o := .lst [.ref u, x1, x2, x3, .ref uy])
      have rn10 := rowLL ((l78.trans l89).trans l910) rn7
      have all : ∀ z ∈ [V.ref u, x1, x2, x3, .ref uy], ∃ r, RowT K (upd H10 L (.lst [.ref u, x1, x2, x3, .ref uy])) z r := by
        intro z hz
        simp only [List.mem_cons, List.not_mem_nil, or_false] at hz
        rcases hz with rfl | rfl | rfl | rfl | rfl
        · exact ⟨_, rn10.row.same sL⟩
        · exact ⟨_, (rx1.ll (l89.trans l910)).same sL⟩
        · exact ⟨_, (rx2.ll l910).same sL⟩
        · exact ⟨_, rx3.same sL⟩
        · exact ⟨_, py10.2.1.row.same sL⟩
      have b610 := ((b7.trans b8).trans b9).trans b10
      have rt11 := (rt6.but rg b6.2 b610).same rg sL
      have ro11 := (ro6.ll (LL.but b6.2 b610)).same sL
      have py11 := py10.ll (LL.same sL)
      have rn11 := rowLL (LL.same sL) rn10
      have b311 := (b36.trans b610).same sL
      have st11 := b311.2
      have hst : stB S (.two (.ref uy) (.int wt) (some (ls.map V.int))) = true := (like_st lk _).trans (std_is sd)
      refine ⟨L, rfl, ⟨_, SqL.of gL⟩, ?_⟩
      generalize upd H10 L (.lst [.ref u, x1, x2, x3, .ref uy]) = H11 at *
      refine for_list (xs := [.ref u, x1, x2, x3, .ref uy]) (fun j σ H' => ∃ o8, σ = [some (.ref x), some td, some (.ref o), some (.int (1 + i)), some (.ref p), some (.ref y), some (.ref cA), some (.ref u), o8] ∧ Same H11 H') ⟨_, rfl, Same.refl _⟩ (fun j σ H' _ ⟨_, _, sm⟩ => SqL.of (sm _ _ gL)) ?_ ?_
      · rintro j z σ H' hz ⟨o8', rfl, sm⟩
        obtain ⟨r, rz⟩ := all z (List.mem_of_getElem? hz)
        refine ⟨_, rfl, _, rfl, _, rfl, o, S, .ref y, _, z, r, rfl, ro11.same sm, py11.pr.same sm, rz.same sm, ?_⟩
        rw [if_pos hst]
        intro H12 s12'
        have sm2 := sm.trans s12'
        refine ⟨_, rfl, _, rfl, y, _, 1, _, rfl, rfl, SqT.of (sm2 _ _ py11.1), rfl, _, rfl, p, td, R, wt, z, r, rfl, rt11.same rg sm2, rg, rz.same sm2, fun H13 s13 => ⟨_, _, rfl, _, rfl, ifF (by rw [like_rn lk]; show (!(rnT R wt r == rnT R wt r)) = false; cases rnT R wt r <;> rfl) ?_⟩⟩
        exact ⟨_, rfl, sm2.trans s13⟩
      rintro σ H14 ⟨o8', rfl, sm⟩
      have st14 := st11.same sm
      have py14 := py11.ll (LL.same sm)
      refine ⟨_, rfl, _, rfl, p, y, uy, ls, .int wt, rfl, st14, py14, fun x1 q1 H15 pr1 ow1 b15 => ?_⟩
      refine ⟨_, rfl, p, rfl, b15.2, fun x2 H16 an2 b16 => ?_⟩
      obtain ⟨_, ⟨q2, pr2⟩, ow2⟩ := an2
      refine ⟨(show 2 ≤ sizeLine by decide), fun L2 eL2 => ?_⟩
      have sL2 := Same.upd (o := .lst [x1, x2]) eL2
      have gL2 := upd_same (H := H16) (a := L2) (o := .lst [x1, x2])
      have b1416 := b15.trans b16
      have l1416 := LL.but st14 b1416
      have rt17 := ((rt11.same rg sm).but rg st14 b1416).same rg sL2
      have ro17 := ((ro11.same sm).ll l1416).same sL2
      have rn17 := rowLL (LL.same sL2) (rowLL l1416 (rowLL (LL.same sm) rn11))
      have b317 := ((b311.same sm).trans b1416).same sL2
      have all2 : ∀ z ∈ [x1, x2], ∃ q, PrT K (upd H16 L2 (.lst [x1, x2])) z q ∧ Own (upd H16 L2 (.lst [x1, x2])) z := by
        intro z hz
        simp only [List.mem_cons, List.not_mem_nil, or_false] at hz
        rcases hz with rfl | rfl
        · exact ⟨q1, (pr1.ll (LL.but b15.2 b16)).same sL2, Own.same sL2 (Own.but b15.2 b16 ow1)⟩
        · exact ⟨q2, pr2.same sL2, Own.same sL2 ow2⟩
      refine ⟨L2, rfl, ⟨_, SqL.of gL2⟩, ?_⟩
      generalize upd H16 L2 (.lst [x1, x2]) = H17 at *
      refine for_list (xs := [x1, x2]) (fun j σ H' => ∃ o8, σ = [some (.ref x), some td, some (.ref o), some (.int (1 + i)), some (.ref p), some (.ref y), some (.ref cA), some (.ref u), o8] ∧ Same H17 H') ⟨_, rfl, Same.refl _⟩ (fun j σ H' _ ⟨_, _, sm⟩ => SqL.of (sm _ _ gL2)) ?_ ?_
      · rintro j z σ H' hz ⟨o8'', rfl, sm'⟩
        obtain ⟨q, pz, oz⟩ := all2 z (List.mem_of_getElem? hz)
        refine ⟨_, rfl, _, rfl, p, td, R, z, q, rfl, rt17.same rg sm', rg, pz.same sm', fun H18 s18 => ⟨_, rfl, ?_⟩⟩
        have sm2 := sm'.trans s18
        cases e : stT R q with
        | true =>
          refine iteF (iteF ?_)
          exact ⟨_, rfl, sm2⟩
        | false =>
          refine iteT ⟨_, rfl, _, rfl, _, rfl, o, S, z, q, .ref u, _, rfl, ro17.same sm2, pz.same sm2, (like_st lk q).trans e, rn17.row.same sm2, Own.same sm2 oz, fun H19 s19 => ⟨_, rfl, iteF ?_⟩⟩
          exact ⟨_, rfl, sm2.trans s19⟩
      rintro σ H20 ⟨o8'', rfl, sm'⟩
      exact ⟨_, _, _, _, _, _, rfl, fun c ob e => sm' _ _ (b317.1 _ _ (ne_of_none (sH _ _ e) hp) (s3 _ _ (sH _ _ e)))⟩
    · rintro σ H' ⟨o3, o4, o5, o6, o7, o8, rfl, sH⟩
      exact k _
end
theorem tx_mk {K : W.Frag} {h : Heap} {mg : Str → Option Value} (X : K.In h) (G : h.Ns mainGlobals mg)
    {f11 : Addr} {od11 an11 : Option Addr} {sl11 : Array (Option Value)} {oc11 kV11 dc11 pm11 cd11 ct11 : Value}
    (a11 : W.nsIn K mainGlobals "is_whole" = some (some (.ref f11)))
    (l11 : K.lookup f11 = some ⟨oc11, od11, .func (W.fnOf "is_whole" "is_whole" (defArgs (top 16)) (defBody (top 16)) (defScope (top 16)) .none kV11 dc11 pm11 an11 cd11 ct11), sl11⟩) (c11 : W.codeIn K cd11 "is_whole" = true) (k11 : W.keepIn K (.ref f11) = true)
    {f12 : Addr} {od12 an12 : Option Addr} {sl12 : Array (Option Value)} {oc12 kV12 dc12 pm12 cd12 ct12 : Value}
    (a12 : W.nsIn K mainGlobals "is_made_of" = some (some (.ref f12)))
    (l12 : K.lookup f12 = some ⟨oc12, od12, .func (W.fnOf "is_made_of" "is_made_of" (defArgs (top 17)) (defBody (top 17)) (defScope (top 17)) .none kV12 dc12 pm12 an12 cd12 ct12), sl12⟩) (c12 : W.codeIn K cd12 "is_made_of" = true) (k12 : W.keepIn K (.ref f12) = true)
    {f13 : Addr} {od13 an13 : Option Addr} {sl13 : Array (Option Value)} {oc13 kV13 dc13 pm13 cd13 ct13 : Value}
    (a13 : W.nsIn K mainGlobals "is_name" = some (some (.ref f13)))
    (l13 : K.lookup f13 = some ⟨oc13, od13, .func (W.fnOf "is_name" "is_name" (defArgs (top 18)) (defBody (top 18)) (defScope (top 18)) .none kV13 dc13 pm13 an13 cd13 ct13), sl13⟩) (c13 : W.codeIn K cd13 "is_name" = true) (k13 : W.keepIn K (.ref f13) = true)
    {f14 : Addr} {od14 an14 : Option Addr} {sl14 : Array (Option Value)} {oc14 kV14 dc14 pm14 cd14 ct14 : Value}
    (a14 : W.nsIn K mainGlobals "is_row" = some (some (.ref f14)))
    (l14 : K.lookup f14 = some ⟨oc14, od14, .func (W.fnOf "is_row" "is_row" (defArgs (top 20)) (defBody (top 20)) (defScope (top 20)) .none kV14 dc14 pm14 an14 cd14 ct14), sl14⟩) (c14 : W.codeIn K cd14 "is_row" = true) (k14 : W.keepIn K (.ref f14) = true)
    {f15 : Addr} {od15 an15 : Option Addr} {sl15 : Array (Option Value)} {oc15 kV15 dc15 pm15 cd15 ct15 : Value}
    (a15 : W.nsIn K mainGlobals "is_row_up_to" = some (some (.ref f15)))
    (l15 : K.lookup f15 = some ⟨oc15, od15, .func (W.fnOf "is_row_up_to" "is_row_up_to" (defArgs (top 21)) (defBody (top 21)) (defScope (top 21)) .none kV15 dc15 pm15 an15 cd15 ct15), sl15⟩) (c15 : W.codeIn K cd15 "is_row_up_to" = true) (k15 : W.keepIn K (.ref f15) = true)
    {f16 : Addr} {od16 an16 : Option Addr} {sl16 : Array (Option Value)} {oc16 kV16 dc16 pm16 cd16 ct16 : Value}
    (a16 : W.nsIn K mainGlobals "is_pair" = some (some (.ref f16)))
    (l16 : K.lookup f16 = some ⟨oc16, od16, .func (W.fnOf "is_pair" "is_pair" (defArgs (top 22)) (defBody (top 22)) (defScope (top 22)) .none kV16 dc16 pm16 an16 cd16 ct16), sl16⟩) (c16 : W.codeIn K cd16 "is_pair" = true) (k16 : W.keepIn K (.ref f16) = true)
    {f17 : Addr} {od17 an17 : Option Addr} {sl17 : Array (Option Value)} {oc17 kV17 dc17 pm17 cd17 ct17 : Value}
    (a17 : W.nsIn K mainGlobals "is_standing" = some (some (.ref f17)))
    (l17 : K.lookup f17 = some ⟨oc17, od17, .func (W.fnOf "is_standing" "is_standing" (defArgs (top 23)) (defBody (top 23)) (defScope (top 23)) .none kV17 dc17 pm17 an17 cd17 ct17), sl17⟩) (c17 : W.codeIn K cd17 "is_standing" = true) (k17 : W.keepIn K (.ref f17) = true)
    {f18 : Addr} {od18 an18 : Option Addr} {sl18 : Array (Option Value)} {oc18 kV18 dc18 pm18 cd18 ct18 : Value}
    (a18 : W.nsIn K mainGlobals "is_choice" = some (some (.ref f18)))
    (l18 : K.lookup f18 = some ⟨oc18, od18, .func (W.fnOf "is_choice" "is_choice" (defArgs (top 24)) (defBody (top 24)) (defScope (top 24)) .none kV18 dc18 pm18 an18 cd18 ct18), sl18⟩) (c18 : W.codeIn K cd18 "is_choice" = true) (k18 : W.keepIn K (.ref f18) = true)
    {f19 : Addr} {od19 an19 : Option Addr} {sl19 : Array (Option Value)} {oc19 kV19 dc19 pm19 cd19 ct19 : Value}
    (a19 : W.nsIn K mainGlobals "forced_rain" = some (some (.ref f19)))
    (l19 : K.lookup f19 = some ⟨oc19, od19, .func (W.fnOf "forced_rain" "forced_rain" (defArgs (top 25)) (defBody (top 25)) (defScope (top 25)) .none kV19 dc19 pm19 an19 cd19 ct19), sl19⟩) (c19 : W.codeIn K cd19 "forced_rain" = true) (k19 : W.keepIn K (.ref f19) = true)
    {f20 : Addr} {od20 an20 : Option Addr} {sl20 : Array (Option Value)} {oc20 kV20 dc20 pm20 cd20 ct20 : Value}
    (a20 : W.nsIn K mainGlobals "is_rain" = some (some (.ref f20)))
    (l20 : K.lookup f20 = some ⟨oc20, od20, .func (W.fnOf "is_rain" "is_rain" (defArgs (top 26)) (defBody (top 26)) (defScope (top 26)) .none kV20 dc20 pm20 an20 cd20 ct20), sl20⟩) (c20 : W.codeIn K cd20 "is_rain" = true) (k20 : W.keepIn K (.ref f20) = true)
    {f21 : Addr} {od21 an21 : Option Addr} {sl21 : Array (Option Value)} {oc21 kV21 dc21 pm21 cd21 ct21 : Value}
    (a21 : W.nsIn K mainGlobals "are_marks" = some (some (.ref f21)))
    (l21 : K.lookup f21 = some ⟨oc21, od21, .func (W.fnOf "are_marks" "are_marks" (defArgs (top 31)) (defBody (top 31)) (defScope (top 31)) .none kV21 dc21 pm21 an21 cd21 ct21), sl21⟩) (c21 : W.codeIn K cd21 "are_marks" = true) (k21 : W.keepIn K (.ref f21) = true)
    {f22 : Addr} {od22 an22 : Option Addr} {sl22 : Array (Option Value)} {oc22 kV22 dc22 pm22 cd22 ct22 : Value}
    (a22 : W.nsIn K mainGlobals "kept_marks" = some (some (.ref f22)))
    (l22 : K.lookup f22 = some ⟨oc22, od22, .func (W.fnOf "kept_marks" "kept_marks" (defArgs (top 32)) (defBody (top 32)) (defScope (top 32)) .none kV22 dc22 pm22 an22 cd22 ct22), sl22⟩) (c22 : W.codeIn K cd22 "kept_marks" = true) (k22 : W.keepIn K (.ref f22) = true)
    {f41 : Addr} {od41 an41 : Option Addr} {sl41 : Array (Option Value)} {oc41 kV41 dc41 pm41 cd41 ct41 : Value}
    (a41 : W.nsIn K mainGlobals "refuse_no_level" = some (some (.ref f41)))
    (l41 : K.lookup f41 = some ⟨oc41, od41, .func (W.fnOf "refuse_no_level" "refuse_no_level" (defArgs (top 46)) (defBody (top 46)) (defScope (top 46)) .none kV41 dc41 pm41 an41 cd41 ct41), sl41⟩) (c41 : W.codeIn K cd41 "refuse_no_level" = true) (k41 : W.keepIn K (.ref f41) = true)
    {f44 : Addr} {od44 an44 : Option Addr} {sl44 : Array (Option Value)} {oc44 kV44 dc44 pm44 cd44 ct44 : Value}
    (a44 : W.nsIn K mainGlobals "are_unlike" = some (some (.ref f44)))
    (l44 : K.lookup f44 = some ⟨oc44, od44, .func (W.fnOf "are_unlike" "are_unlike" (defArgs (top 49)) (defBody (top 49)) (defScope (top 49)) .none kV44 dc44 pm44 an44 cd44 ct44), sl44⟩) (c44 : W.codeIn K cd44 "are_unlike" = true) (k44 : W.keepIn K (.ref f44) = true)
    {f45 : Addr} {od45 an45 : Option Addr} {sl45 : Array (Option Value)} {oc45 kV45 dc45 pm45 cd45 ct45 : Value}
    (a45 : W.nsIn K mainGlobals "are_basins" = some (some (.ref f45)))
    (l45 : K.lookup f45 = some ⟨oc45, od45, .func (W.fnOf "are_basins" "are_basins" (defArgs (top 50)) (defBody (top 50)) (defScope (top 50)) .none kV45 dc45 pm45 an45 cd45 ct45), sl45⟩) (c45 : W.codeIn K cd45 "are_basins" = true) (k45 : W.keepIn K (.ref f45) = true)
    {f46 : Addr} {od46 an46 : Option Addr} {sl46 : Array (Option Value)} {oc46 kV46 dc46 pm46 cd46 ct46 : Value}
    (a46 : W.nsIn K mainGlobals "are_towns" = some (some (.ref f46)))
    (l46 : K.lookup f46 = some ⟨oc46, od46, .func (W.fnOf "are_towns" "are_towns" (defArgs (top 51)) (defBody (top 51)) (defScope (top 51)) .none kV46 dc46 pm46 an46 cd46 ct46), sl46⟩) (c46 : W.codeIn K cd46 "are_towns" = true) (k46 : W.keepIn K (.ref f46) = true)
    {f50 : Addr} {od50 an50 : Option Addr} {sl50 : Array (Option Value)} {oc50 kV50 dc50 pm50 cd50 ct50 : Value}
    (a50 : W.nsIn K mainGlobals "_law_cell" = some (some (.ref f50)))
    (l50 : K.lookup f50 = some ⟨oc50, od50, .func (W.fnOf "_law_cell" "_law_cell" (defArgs (top 54)) (defBody (top 54)) (defScope (top 54)) .none kV50 dc50 pm50 an50 cd50 ct50), sl50⟩) (c50 : W.codeIn K cd50 "_law_cell" = true) (k50 : W.keepIn K (.ref f50) = true)
    {f51 : Addr} {od51 an51 : Option Addr} {sl51 : Array (Option Value)} {oc51 kV51 dc51 pm51 cd51 ct51 : Value}
    (a51 : W.nsIn K mainGlobals "_law_stream" = some (some (.ref f51)))
    (l51 : K.lookup f51 = some ⟨oc51, od51, .func (W.fnOf "_law_stream" "_law_stream" (defArgs (top 55)) (defBody (top 55)) (defScope (top 55)) .none kV51 dc51 pm51 an51 cd51 ct51), sl51⟩) (c51 : W.codeIn K cd51 "_law_stream" = true) (k51 : W.keepIn K (.ref f51) = true)
    {f52 : Addr} {od52 an52 : Option Addr} {sl52 : Array (Option Value)} {oc52 kV52 dc52 pm52 cd52 ct52 : Value}
    (a52 : W.nsIn K mainGlobals "_law_take" = some (some (.ref f52)))
    (l52 : K.lookup f52 = some ⟨oc52, od52, .func (W.fnOf "_law_take" "_law_take" (defArgs (top 56)) (defBody (top 56)) (defScope (top 56)) .none kV52 dc52 pm52 an52 cd52 ct52), sl52⟩) (c52 : W.codeIn K cd52 "_law_take" = true) (k52 : W.keepIn K (.ref f52) = true)
    {f53 : Addr} {od53 an53 : Option Addr} {sl53 : Array (Option Value)} {oc53 kV53 dc53 pm53 cd53 ct53 : Value}
    (a53 : W.nsIn K mainGlobals "_law_names" = some (some (.ref f53)))
    (l53 : K.lookup f53 = some ⟨oc53, od53, .func (W.fnOf "_law_names" "_law_names" (defArgs (top 57)) (defBody (top 57)) (defScope (top 57)) .none kV53 dc53 pm53 an53 cd53 ct53), sl53⟩) (c53 : W.codeIn K cd53 "_law_names" = true) (k53 : W.keepIn K (.ref f53) = true)
    {f54 : Addr} {od54 an54 : Option Addr} {sl54 : Array (Option Value)} {oc54 kV54 dc54 pm54 cd54 ct54 : Value}
    (a54 : W.nsIn K mainGlobals "_law_gate" = some (some (.ref f54)))
    (l54 : K.lookup f54 = some ⟨oc54, od54, .func (W.fnOf "_law_gate" "_law_gate" (defArgs (top 58)) (defBody (top 58)) (defScope (top 58)) .none kV54 dc54 pm54 an54 cd54 ct54), sl54⟩) (c54 : W.codeIn K cd54 "_law_gate" = true) (k54 : W.keepIn K (.ref f54) = true)
    {f55 : Addr} {od55 an55 : Option Addr} {sl55 : Array (Option Value)} {oc55 kV55 dc55 pm55 cd55 ct55 : Value}
    (a55 : W.nsIn K mainGlobals "_law_basin" = some (some (.ref f55)))
    (l55 : K.lookup f55 = some ⟨oc55, od55, .func (W.fnOf "_law_basin" "_law_basin" (defArgs (top 59)) (defBody (top 59)) (defScope (top 59)) .none kV55 dc55 pm55 an55 cd55 ct55), sl55⟩) (c55 : W.codeIn K cd55 "_law_basin" = true) (k55 : W.keepIn K (.ref f55) = true)
    {f56 : Addr} {od56 an56 : Option Addr} {sl56 : Array (Option Value)} {oc56 kV56 dc56 pm56 cd56 ct56 : Value}
    (a56 : W.nsIn K mainGlobals "_law_river" = some (some (.ref f56)))
    (l56 : K.lookup f56 = some ⟨oc56, od56, .func (W.fnOf "_law_river" "_law_river" (defArgs (top 60)) (defBody (top 60)) (defScope (top 60)) .none kV56 dc56 pm56 an56 cd56 ct56), sl56⟩) (c56 : W.codeIn K cd56 "_law_river" = true) (k56 : W.keepIn K (.ref f56) = true)
    {f57 : Addr} {od57 an57 : Option Addr} {sl57 : Array (Option Value)} {oc57 kV57 dc57 pm57 cd57 ct57 : Value}
    (a57 : W.nsIn K mainGlobals "_law_made_gate" = some (some (.ref f57)))
    (l57 : K.lookup f57 = some ⟨oc57, od57, .func (W.fnOf "_law_made_gate" "_law_made_gate" (defArgs (top 61)) (defBody (top 61)) (defScope (top 61)) .none kV57 dc57 pm57 an57 cd57 ct57), sl57⟩) (c57 : W.codeIn K cd57 "_law_made_gate" = true) (k57 : W.keepIn K (.ref f57) = true)
    {f58 : Addr} {od58 an58 : Option Addr} {sl58 : Array (Option Value)} {oc58 kV58 dc58 pm58 cd58 ct58 : Value}
    (a58 : W.nsIn K mainGlobals "_law_made" = some (some (.ref f58)))
    (l58 : K.lookup f58 = some ⟨oc58, od58, .func (W.fnOf "_law_made" "_law_made" (defArgs (top 62)) (defBody (top 62)) (defScope (top 62)) .none kV58 dc58 pm58 an58 cd58 ct58), sl58⟩) (c58 : W.codeIn K cd58 "_law_made" = true) (k58 : W.keepIn K (.ref f58) = true)
    {f59 : Addr} {od59 an59 : Option Addr} {sl59 : Array (Option Value)} {oc59 kV59 dc59 pm59 cd59 ct59 : Value}
    (a59 : W.nsIn K mainGlobals "_law_settings" = some (some (.ref f59)))
    (l59 : K.lookup f59 = some ⟨oc59, od59, .func (W.fnOf "_law_settings" "_law_settings" (defArgs (top 63)) (defBody (top 63)) (defScope (top 63)) .none kV59 dc59 pm59 an59 cd59 ct59), sl59⟩) (c59 : W.codeIn K cd59 "_law_settings" = true) (k59 : W.keepIn K (.ref f59) = true)
    {f60 : Addr} {od60 an60 : Option Addr} {sl60 : Array (Option Value)} {oc60 kV60 dc60 pm60 cd60 ct60 : Value}
    (a60 : W.nsIn K mainGlobals "_law_standing" = some (some (.ref f60)))
    (l60 : K.lookup f60 = some ⟨oc60, od60, .func (W.fnOf "_law_standing" "_law_standing" (defArgs (top 64)) (defBody (top 64)) (defScope (top 64)) .none kV60 dc60 pm60 an60 cd60 ct60), sl60⟩) (c60 : W.codeIn K cd60 "_law_standing" = true) (k60 : W.keepIn K (.ref f60) = true)
    {f61 : Addr} {od61 an61 : Option Addr} {sl61 : Array (Option Value)} {oc61 kV61 dc61 pm61 cd61 ct61 : Value}
    (a61 : W.nsIn K mainGlobals "_law_choice" = some (some (.ref f61)))
    (l61 : K.lookup f61 = some ⟨oc61, od61, .func (W.fnOf "_law_choice" "_law_choice" (defArgs (top 65)) (defBody (top 65)) (defScope (top 65)) .none kV61 dc61 pm61 an61 cd61 ct61), sl61⟩) (c61 : W.codeIn K cd61 "_law_choice" = true) (k61 : W.keepIn K (.ref f61) = true)
    {f62 : Addr} {od62 an62 : Option Addr} {sl62 : Array (Option Value)} {oc62 kV62 dc62 pm62 cd62 ct62 : Value}
    (a62 : W.nsIn K mainGlobals "_law_forced" = some (some (.ref f62)))
    (l62 : K.lookup f62 = some ⟨oc62, od62, .func (W.fnOf "_law_forced" "_law_forced" (defArgs (top 66)) (defBody (top 66)) (defScope (top 66)) .none kV62 dc62 pm62 an62 cd62 ct62), sl62⟩) (c62 : W.codeIn K cd62 "_law_forced" = true) (k62 : W.keepIn K (.ref f62) = true)
    {f63 : Addr} {od63 an63 : Option Addr} {sl63 : Array (Option Value)} {oc63 kV63 dc63 pm63 cd63 ct63 : Value}
    (a63 : W.nsIn K mainGlobals "_law_raised" = some (some (.ref f63)))
    (l63 : K.lookup f63 = some ⟨oc63, od63, .func (W.fnOf "_law_raised" "_law_raised" (defArgs (top 67)) (defBody (top 67)) (defScope (top 67)) .none kV63 dc63 pm63 an63 cd63 ct63), sl63⟩) (c63 : W.codeIn K cd63 "_law_raised" = true) (k63 : W.keepIn K (.ref f63) = true)
    {f64 : Addr} {od64 an64 : Option Addr} {sl64 : Array (Option Value)} {oc64 kV64 dc64 pm64 cd64 ct64 : Value}
    (a64 : W.nsIn K mainGlobals "_law_rain" = some (some (.ref f64)))
    (l64 : K.lookup f64 = some ⟨oc64, od64, .func (W.fnOf "_law_rain" "_law_rain" (defArgs (top 68)) (defBody (top 68)) (defScope (top 68)) .none kV64 dc64 pm64 an64 cd64 ct64), sl64⟩) (c64 : W.codeIn K cd64 "_law_rain" = true) (k64 : W.keepIn K (.ref f64) = true)
    {f65 : Addr} {od65 an65 : Option Addr} {sl65 : Array (Option Value)} {oc65 kV65 dc65 pm65 cd65 ct65 : Value}
    (a65 : W.nsIn K mainGlobals "_law_whole" = some (some (.ref f65)))
    (l65 : K.lookup f65 = some ⟨oc65, od65, .func (W.fnOf "_law_whole" "_law_whole" (defArgs (top 69)) (defBody (top 69)) (defScope (top 69)) .none kV65 dc65 pm65 an65 cd65 ct65), sl65⟩) (c65 : W.codeIn K cd65 "_law_whole" = true) (k65 : W.keepIn K (.ref f65) = true)
    {f66 : Addr} {od66 an66 : Option Addr} {sl66 : Array (Option Value)} {oc66 kV66 dc66 pm66 cd66 ct66 : Value}
    (a66 : W.nsIn K mainGlobals "_law_row" = some (some (.ref f66)))
    (l66 : K.lookup f66 = some ⟨oc66, od66, .func (W.fnOf "_law_row" "_law_row" (defArgs (top 70)) (defBody (top 70)) (defScope (top 70)) .none kV66 dc66 pm66 an66 cd66 ct66), sl66⟩) (c66 : W.codeIn K cd66 "_law_row" = true) (k66 : W.keepIn K (.ref f66) = true)
    {f67 : Addr} {od67 an67 : Option Addr} {sl67 : Array (Option Value)} {oc67 kV67 dc67 pm67 cd67 ct67 : Value}
    (a67 : W.nsIn K mainGlobals "_law_is_standing" = some (some (.ref f67)))
    (l67 : K.lookup f67 = some ⟨oc67, od67, .func (W.fnOf "_law_is_standing" "_law_is_standing" (defArgs (top 71)) (defBody (top 71)) (defScope (top 71)) .none kV67 dc67 pm67 an67 cd67 ct67), sl67⟩) (c67 : W.codeIn K cd67 "_law_is_standing" = true) (k67 : W.keepIn K (.ref f67) = true)
    {f68 : Addr} {od68 an68 : Option Addr} {sl68 : Array (Option Value)} {oc68 kV68 dc68 pm68 cd68 ct68 : Value}
    (a68 : W.nsIn K mainGlobals "_law_is_choice" = some (some (.ref f68)))
    (l68 : K.lookup f68 = some ⟨oc68, od68, .func (W.fnOf "_law_is_choice" "_law_is_choice" (defArgs (top 72)) (defBody (top 72)) (defScope (top 72)) .none kV68 dc68 pm68 an68 cd68 ct68), sl68⟩) (c68 : W.codeIn K cd68 "_law_is_choice" = true) (k68 : W.keepIn K (.ref f68) = true)
    {f69 : Addr} {od69 an69 : Option Addr} {sl69 : Array (Option Value)} {oc69 kV69 dc69 pm69 cd69 ct69 : Value}
    (a69 : W.nsIn K mainGlobals "_law_is_rain" = some (some (.ref f69)))
    (l69 : K.lookup f69 = some ⟨oc69, od69, .func (W.fnOf "_law_is_rain" "_law_is_rain" (defArgs (top 73)) (defBody (top 73)) (defScope (top 73)) .none kV69 dc69 pm69 an69 cd69 ct69), sl69⟩) (c69 : W.codeIn K cd69 "_law_is_rain" = true) (k69 : W.keepIn K (.ref f69) = true)
    {f70 : Addr} {od70 an70 : Option Addr} {sl70 : Array (Option Value)} {oc70 kV70 dc70 pm70 cd70 ct70 : Value}
    (a70 : W.nsIn K mainGlobals "_law_odd" = some (some (.ref f70)))
    (l70 : K.lookup f70 = some ⟨oc70, od70, .func (W.fnOf "_law_odd" "_law_odd" (defArgs (top 74)) (defBody (top 74)) (defScope (top 74)) .none kV70 dc70 pm70 an70 cd70 ct70), sl70⟩) (c70 : W.codeIn K cd70 "_law_odd" = true) (k70 : W.keepIn K (.ref f70) = true)
    {f71 : Addr} {od71 an71 : Option Addr} {sl71 : Array (Option Value)} {oc71 kV71 dc71 pm71 cd71 ct71 : Value}
    (a71 : W.nsIn K mainGlobals "_law_row_put" = some (some (.ref f71)))
    (l71 : K.lookup f71 = some ⟨oc71, od71, .func (W.fnOf "_law_row_put" "_law_row_put" (defArgs (top 75)) (defBody (top 75)) (defScope (top 75)) .none kV71 dc71 pm71 an71 cd71 ct71), sl71⟩) (c71 : W.codeIn K cd71 "_law_row_put" = true) (k71 : W.keepIn K (.ref f71) = true)
    {f72 : Addr} {od72 an72 : Option Addr} {sl72 : Array (Option Value)} {oc72 kV72 dc72 pm72 cd72 ct72 : Value}
    (a72 : W.nsIn K mainGlobals "_law_pair_put" = some (some (.ref f72)))
    (l72 : K.lookup f72 = some ⟨oc72, od72, .func (W.fnOf "_law_pair_put" "_law_pair_put" (defArgs (top 76)) (defBody (top 76)) (defScope (top 76)) .none kV72 dc72 pm72 an72 cd72 ct72), sl72⟩) (c72 : W.codeIn K cd72 "_law_pair_put" = true) (k72 : W.keepIn K (.ref f72) = true)
    {f73 : Addr} {od73 an73 : Option Addr} {sl73 : Array (Option Value)} {oc73 kV73 dc73 pm73 cd73 ct73 : Value}
    (a73 : W.nsIn K mainGlobals "_law_any" = some (some (.ref f73)))
    (l73 : K.lookup f73 = some ⟨oc73, od73, .func (W.fnOf "_law_any" "_law_any" (defArgs (top 77)) (defBody (top 77)) (defScope (top 77)) .none kV73 dc73 pm73 an73 cd73 ct73), sl73⟩) (c73 : W.codeIn K cd73 "_law_any" = true) (k73 : W.keepIn K (.ref f73) = true)
    {f74 : Addr} {od74 an74 : Option Addr} {sl74 : Array (Option Value)} {oc74 kV74 dc74 pm74 cd74 ct74 : Value}
    (a74 : W.nsIn K mainGlobals "_law_told" = some (some (.ref f74)))
    (l74 : K.lookup f74 = some ⟨oc74, od74, .func (W.fnOf "_law_told" "_law_told" (defArgs (top 78)) (defBody (top 78)) (defScope (top 78)) .none kV74 dc74 pm74 an74 cd74 ct74), sl74⟩) (c74 : W.codeIn K cd74 "_law_told" = true) (k74 : W.keepIn K (.ref f74) = true)
    {f75 : Addr} {od75 an75 : Option Addr} {sl75 : Array (Option Value)} {oc75 kV75 dc75 pm75 cd75 ct75 : Value}
    (a75 : W.nsIn K mainGlobals "_law_pairs_right" = some (some (.ref f75)))
    (l75 : K.lookup f75 = some ⟨oc75, od75, .func (W.fnOf "_law_pairs_right" "_law_pairs_right" (defArgs (top 79)) (defBody (top 79)) (defScope (top 79)) .none kV75 dc75 pm75 an75 cd75 ct75), sl75⟩) (c75 : W.codeIn K cd75 "_law_pairs_right" = true) (k75 : W.keepIn K (.ref f75) = true)
    {f76 : Addr} {od76 an76 : Option Addr} {sl76 : Array (Option Value)} {oc76 kV76 dc76 pm76 cd76 ct76 : Value}
    (a76 : W.nsIn K mainGlobals "_law_refused" = some (some (.ref f76)))
    (l76 : K.lookup f76 = some ⟨oc76, od76, .func (W.fnOf "_law_refused" "_law_refused" (defArgs (top 80)) (defBody (top 80)) (defScope (top 80)) .none kV76 dc76 pm76 an76 cd76 ct76), sl76⟩) (c76 : W.codeIn K cd76 "_law_refused" = true) (k76 : W.keepIn K (.ref f76) = true)
    {f77 : Addr} {od77 an77 : Option Addr} {sl77 : Array (Option Value)} {oc77 kV77 dc77 pm77 cd77 ct77 : Value}
    (a77 : W.nsIn K mainGlobals "law" = some (some (.ref f77)))
    (l77 : K.lookup f77 = some ⟨oc77, od77, .func (W.fnOf "law" "law" (defArgs (top 81)) (defBody (top 81)) (defScope (top 81)) .none kV77 dc77 pm77 an77 cd77 ct77), sl77⟩) (c77 : W.codeIn K cd77 "law" = true) (k77 : W.keepIn K (.ref f77) = true)
    {tk0 : Tok} (g0 : W.nsIn K mainGlobals "LETTERS" = some (some (.str "abcdefghijklmnopqrstuvwxyz" tk0)))
    {tk1 : Tok} (g1 : W.nsIn K mainGlobals "MOST_LETTERS" = some (some (.int 8 tk1)))
    {tk2 : Tok} (g2 : W.nsIn K mainGlobals "MOST_SETTINGS" = some (some (.int 4 tk2)))
    {tk3 : Tok} (g3 : W.nsIn K mainGlobals "HIGHEST_MARK" = some (some (.int 12 tk3)))
    {tk4 : Tok} (g4 : W.nsIn K mainGlobals "HIGHEST" = some (some (.int 12 tk4)))
    {tk5 : Tok} (g5 : W.nsIn K mainGlobals "MOST_RAIN" = some (some (.int 6 tk5)))
    {tk6 : Tok} (g6 : W.nsIn K mainGlobals "MOST_WANT" = some (some (.int 6 tk6)))
    {tk7 : Tok} (g7 : W.nsIn K mainGlobals "MOST_CLOUD" = some (some (.int 12 tk7)))
    {tk8 : Tok} (g8 : W.nsIn K mainGlobals "MOST_BASINS" = some (some (.int 16 tk8)))
    {tk9 : Tok} (g9 : W.nsIn K mainGlobals "MOST_TOWNS" = some (some (.int 3 tk9)))
    (z0 : W.nsIn K mainGlobals "ValueError" = some none)
    (z1 : W.nsIn K mainGlobals "all" = some none)
    (z2 : W.nsIn K mainGlobals "bool" = some none)
    (z3 : W.nsIn K mainGlobals "enumerate" = some none)
    (z4 : W.nsIn K mainGlobals "int" = some none)
    (z5 : W.nsIn K mainGlobals "isinstance" = some none)
    (z6 : W.nsIn K mainGlobals "len" = some none)
    (z7 : W.nsIn K mainGlobals "list" = some none)
    (z8 : W.nsIn K mainGlobals "max" = some none)
    (z9 : W.nsIn K mainGlobals "min" = some none)
    (z10 : W.nsIn K mainGlobals "range" = some none)
    (z11 : W.nsIn K mainGlobals "set" = some none)
    (z12 : W.nsIn K mainGlobals "str" = some none)
    (z13 : W.nsIn K mainGlobals "sum" = some none)
    (z14 : W.nsIn K mainGlobals "tuple" = some none)
    (z15 : W.nsIn K mainGlobals "zip" = some none)
    {C0 : Addr} (mc0 : W.nsIn K mainGlobals "WeirError" = some (some (.ref C0)))
    {C1 : Addr} (mc1 : W.nsIn K mainGlobals "NoName" = some (some (.ref C1)))
    {C2 : Addr} (mc2 : W.nsIn K mainGlobals "NoGate" = some (some (.ref C2)))
    {C3 : Addr} (mc3 : W.nsIn K mainGlobals "NoBasin" = some (some (.ref C3)))
    {C4 : Addr} (mc4 : W.nsIn K mainGlobals "NoTown" = some (some (.ref C4)))
    {C5 : Addr} (mc5 : W.nsIn K mainGlobals "NoCloud" = some (some (.ref C5)))
    {C6 : Addr} (mc6 : W.nsIn K mainGlobals "NoRiver" = some (some (.ref C6)))
    {C7 : Addr} (mc7 : W.nsIn K mainGlobals "NoStanding" = some (some (.ref C7)))
    {C8 : Addr} (mc8 : W.nsIn K mainGlobals "NoChoice" = some (some (.ref C8)))
    {C9 : Addr} (mc9 : W.nsIn K mainGlobals "NoRain" = some (some (.ref C9)))
    {C10 : Addr} (mc10 : W.nsIn K mainGlobals "NoNumber" = some (some (.ref C10)))
    {C11 : Addr} (mc11 : W.nsIn K mainGlobals "Gate" = some (some (.ref C11)))
    {C12 : Addr} (mc12 : W.nsIn K mainGlobals "StepGate" = some (some (.ref C12)))
    {C13 : Addr} (mc13 : W.nsIn K mainGlobals "FlapGate" = some (some (.ref C13)))
    {C14 : Addr} (mc14 : W.nsIn K mainGlobals "PartGate" = some (some (.ref C14)))
    {C15 : Addr} (mc15 : W.nsIn K mainGlobals "StuckGate" = some (some (.ref C15)))
    {C16 : Addr} (mc16 : W.nsIn K mainGlobals "Basin" = some (some (.ref C16)))
    {C17 : Addr} (mc17 : W.nsIn K mainGlobals "Town" = some (some (.ref C17)))
    {C18 : Addr} (mc18 : W.nsIn K mainGlobals "River" = some (some (.ref C18)))
    {f1 : Addr} {od1 an1 : Option Addr} {sl1 : Array (Option Value)} {oc1 kV1 dc1 pm1 cd1 ct1 : Value}
    (a1 : W.findIn K (.ref C1) "__init__" = some (some (.ref f1)))
    (l1 : K.lookup f1 = some ⟨oc1, od1, .func (W.fnOf "__init__" "NoName.__init__" (defArgs (inClass (top 3) 0)) (defBody (inClass (top 3) 0)) (defScope (inClass (top 3) 0)) .none kV1 dc1 pm1 an1 cd1 ct1), sl1⟩) (c1 : W.codeIn K cd1 "NoName.__init__" = true) (k1 : W.keepIn K (.ref f1) = true)
    {f2 : Addr} {od2 an2 : Option Addr} {sl2 : Array (Option Value)} {oc2 kV2 dc2 pm2 cd2 ct2 : Value}
    (a2 : W.findIn K (.ref C2) "__init__" = some (some (.ref f2)))
    (l2 : K.lookup f2 = some ⟨oc2, od2, .func (W.fnOf "__init__" "NoGate.__init__" (defArgs (inClass (top 4) 0)) (defBody (inClass (top 4) 0)) (defScope (inClass (top 4) 0)) .none kV2 dc2 pm2 an2 cd2 ct2), sl2⟩) (c2 : W.codeIn K cd2 "NoGate.__init__" = true) (k2 : W.keepIn K (.ref f2) = true)
    {f3 : Addr} {od3 an3 : Option Addr} {sl3 : Array (Option Value)} {oc3 kV3 dc3 pm3 cd3 ct3 : Value}
    (a3 : W.findIn K (.ref C3) "__init__" = some (some (.ref f3)))
    (l3 : K.lookup f3 = some ⟨oc3, od3, .func (W.fnOf "__init__" "NoBasin.__init__" (defArgs (inClass (top 5) 0)) (defBody (inClass (top 5) 0)) (defScope (inClass (top 5) 0)) .none kV3 dc3 pm3 an3 cd3 ct3), sl3⟩) (c3 : W.codeIn K cd3 "NoBasin.__init__" = true) (k3 : W.keepIn K (.ref f3) = true)
    {f4 : Addr} {od4 an4 : Option Addr} {sl4 : Array (Option Value)} {oc4 kV4 dc4 pm4 cd4 ct4 : Value}
    (a4 : W.findIn K (.ref C4) "__init__" = some (some (.ref f4)))
    (l4 : K.lookup f4 = some ⟨oc4, od4, .func (W.fnOf "__init__" "NoTown.__init__" (defArgs (inClass (top 6) 0)) (defBody (inClass (top 6) 0)) (defScope (inClass (top 6) 0)) .none kV4 dc4 pm4 an4 cd4 ct4), sl4⟩) (c4 : W.codeIn K cd4 "NoTown.__init__" = true) (k4 : W.keepIn K (.ref f4) = true)
    {f5 : Addr} {od5 an5 : Option Addr} {sl5 : Array (Option Value)} {oc5 kV5 dc5 pm5 cd5 ct5 : Value}
    (a5 : W.findIn K (.ref C5) "__init__" = some (some (.ref f5)))
    (l5 : K.lookup f5 = some ⟨oc5, od5, .func (W.fnOf "__init__" "NoCloud.__init__" (defArgs (inClass (top 7) 0)) (defBody (inClass (top 7) 0)) (defScope (inClass (top 7) 0)) .none kV5 dc5 pm5 an5 cd5 ct5), sl5⟩) (c5 : W.codeIn K cd5 "NoCloud.__init__" = true) (k5 : W.keepIn K (.ref f5) = true)
    {f6 : Addr} {od6 an6 : Option Addr} {sl6 : Array (Option Value)} {oc6 kV6 dc6 pm6 cd6 ct6 : Value}
    (a6 : W.findIn K (.ref C6) "__init__" = some (some (.ref f6)))
    (l6 : K.lookup f6 = some ⟨oc6, od6, .func (W.fnOf "__init__" "NoRiver.__init__" (defArgs (inClass (top 8) 0)) (defBody (inClass (top 8) 0)) (defScope (inClass (top 8) 0)) .none kV6 dc6 pm6 an6 cd6 ct6), sl6⟩) (c6 : W.codeIn K cd6 "NoRiver.__init__" = true) (k6 : W.keepIn K (.ref f6) = true)
    {f7 : Addr} {od7 an7 : Option Addr} {sl7 : Array (Option Value)} {oc7 kV7 dc7 pm7 cd7 ct7 : Value}
    (a7 : W.findIn K (.ref C7) "__init__" = some (some (.ref f7)))
    (l7 : K.lookup f7 = some ⟨oc7, od7, .func (W.fnOf "__init__" "NoStanding.__init__" (defArgs (inClass (top 9) 0)) (defBody (inClass (top 9) 0)) (defScope (inClass (top 9) 0)) .none kV7 dc7 pm7 an7 cd7 ct7), sl7⟩) (c7 : W.codeIn K cd7 "NoStanding.__init__" = true) (k7 : W.keepIn K (.ref f7) = true)
    {f25 : Addr} {od25 an25 : Option Addr} {sl25 : Array (Option Value)} {oc25 kV25 dc25 pm25 cd25 ct25 : Value}
    (a25 : W.findIn K (.ref C12) "__init__" = some (some (.ref f25)))
    (l25 : K.lookup f25 = some ⟨oc25, od25, .func (W.fnOf "__init__" "StepGate.__init__" (defArgs (inClass (top 35) 0)) (defBody (inClass (top 35) 0)) (defScope (inClass (top 35) 0)) .none kV25 dc25 pm25 an25 cd25 ct25), sl25⟩) (c25 : W.codeIn K cd25 "StepGate.__init__" = true) (k25 : W.keepIn K (.ref f25) = true)
    {f26 : Addr} {od26 an26 : Option Addr} {sl26 : Array (Option Value)} {oc26 kV26 dc26 pm26 cd26 ct26 : Value}
    (a26 : W.findIn K (.ref C12) "settings" = some (some (.ref f26)))
    (l26 : K.lookup f26 = some ⟨oc26, od26, .func (W.fnOf "settings" "StepGate.settings" (defArgs (inClass (top 35) 1)) (defBody (inClass (top 35) 1)) (defScope (inClass (top 35) 1)) .none kV26 dc26 pm26 an26 cd26 ct26), sl26⟩) (c26 : W.codeIn K cd26 "StepGate.settings" = true) (k26 : W.keepIn K (.ref f26) = true)
    {f29 : Addr} {od29 an29 : Option Addr} {sl29 : Array (Option Value)} {oc29 kV29 dc29 pm29 cd29 ct29 : Value}
    (a29 : W.findIn K (.ref C13) "__init__" = some (some (.ref f29)))
    (l29 : K.lookup f29 = some ⟨oc29, od29, .func (W.fnOf "__init__" "FlapGate.__init__" (defArgs (inClass (top 36) 0)) (defBody (inClass (top 36) 0)) (defScope (inClass (top 36) 0)) .none kV29 dc29 pm29 an29 cd29 ct29), sl29⟩) (c29 : W.codeIn K cd29 "FlapGate.__init__" = true) (k29 : W.keepIn K (.ref f29) = true)
    {f30 : Addr} {od30 an30 : Option Addr} {sl30 : Array (Option Value)} {oc30 kV30 dc30 pm30 cd30 ct30 : Value}
    (a30 : W.findIn K (.ref C13) "settings" = some (some (.ref f30)))
    (l30 : K.lookup f30 = some ⟨oc30, od30, .func (W.fnOf "settings" "FlapGate.settings" (defArgs (inClass (top 36) 1)) (defBody (inClass (top 36) 1)) (defScope (inClass (top 36) 1)) .none kV30 dc30 pm30 an30 cd30 ct30), sl30⟩) (c30 : W.codeIn K cd30 "FlapGate.settings" = true) (k30 : W.keepIn K (.ref f30) = true)
    {f33 : Addr} {od33 an33 : Option Addr} {sl33 : Array (Option Value)} {oc33 kV33 dc33 pm33 cd33 ct33 : Value}
    (a33 : W.findIn K (.ref C14) "__init__" = some (some (.ref f33)))
    (l33 : K.lookup f33 = some ⟨oc33, od33, .func (W.fnOf "__init__" "PartGate.__init__" (defArgs (inClass (top 37) 0)) (defBody (inClass (top 37) 0)) (defScope (inClass (top 37) 0)) .none kV33 dc33 pm33 an33 cd33 ct33), sl33⟩) (c33 : W.codeIn K cd33 "PartGate.__init__" = true) (k33 : W.keepIn K (.ref f33) = true)
    {f34 : Addr} {od34 an34 : Option Addr} {sl34 : Array (Option Value)} {oc34 kV34 dc34 pm34 cd34 ct34 : Value}
    (a34 : W.findIn K (.ref C14) "settings" = some (some (.ref f34)))
    (l34 : K.lookup f34 = some ⟨oc34, od34, .func (W.fnOf "settings" "PartGate.settings" (defArgs (inClass (top 37) 1)) (defBody (inClass (top 37) 1)) (defScope (inClass (top 37) 1)) .none kV34 dc34 pm34 an34 cd34 ct34), sl34⟩) (c34 : W.codeIn K cd34 "PartGate.settings" = true) (k34 : W.keepIn K (.ref f34) = true)
    {f37 : Addr} {od37 an37 : Option Addr} {sl37 : Array (Option Value)} {oc37 kV37 dc37 pm37 cd37 ct37 : Value}
    (a37 : W.findIn K (.ref C15) "__init__" = some (some (.ref f37)))
    (l37 : K.lookup f37 = some ⟨oc37, od37, .func (W.fnOf "__init__" "StuckGate.__init__" (defArgs (inClass (top 38) 0)) (defBody (inClass (top 38) 0)) (defScope (inClass (top 38) 0)) .none kV37 dc37 pm37 an37 cd37 ct37), sl37⟩) (c37 : W.codeIn K cd37 "StuckGate.__init__" = true) (k37 : W.keepIn K (.ref f37) = true)
    {f38 : Addr} {od38 an38 : Option Addr} {sl38 : Array (Option Value)} {oc38 kV38 dc38 pm38 cd38 ct38 : Value}
    (a38 : W.findIn K (.ref C15) "settings" = some (some (.ref f38)))
    (l38 : K.lookup f38 = some ⟨oc38, od38, .func (W.fnOf "settings" "StuckGate.settings" (defArgs (inClass (top 38) 1)) (defBody (inClass (top 38) 1)) (defScope (inClass (top 38) 1)) .none kV38 dc38 pm38 an38 cd38 ct38), sl38⟩) (c38 : W.codeIn K cd38 "StuckGate.settings" = true) (k38 : W.keepIn K (.ref f38) = true)
    {f42 : Addr} {od42 an42 : Option Addr} {sl42 : Array (Option Value)} {oc42 kV42 dc42 pm42 cd42 ct42 : Value}
    (a42 : W.findIn K (.ref C16) "__init__" = some (some (.ref f42)))
    (l42 : K.lookup f42 = some ⟨oc42, od42, .func (W.fnOf "__init__" "Basin.__init__" (defArgs (inClass (top 47) 0)) (defBody (inClass (top 47) 0)) (defScope (inClass (top 47) 0)) .none kV42 dc42 pm42 an42 cd42 ct42), sl42⟩) (c42 : W.codeIn K cd42 "Basin.__init__" = true) (k42 : W.keepIn K (.ref f42) = true)
    {f43 : Addr} {od43 an43 : Option Addr} {sl43 : Array (Option Value)} {oc43 kV43 dc43 pm43 cd43 ct43 : Value}
    (a43 : W.findIn K (.ref C17) "__init__" = some (some (.ref f43)))
    (l43 : K.lookup f43 = some ⟨oc43, od43, .func (W.fnOf "__init__" "Town.__init__" (defArgs (inClass (top 48) 0)) (defBody (inClass (top 48) 0)) (defScope (inClass (top 48) 0)) .none kV43 dc43 pm43 an43 cd43 ct43), sl43⟩) (c43 : W.codeIn K cd43 "Town.__init__" = true) (k43 : W.keepIn K (.ref f43) = true)
    {f47 : Addr} {od47 an47 : Option Addr} {sl47 : Array (Option Value)} {oc47 kV47 dc47 pm47 cd47 ct47 : Value}
    (a47 : W.findIn K (.ref C18) "__init__" = some (some (.ref f47)))
    (l47 : K.lookup f47 = some ⟨oc47, od47, .func (W.fnOf "__init__" "River.__init__" (defArgs (inClass (top 52) 0)) (defBody (inClass (top 52) 0)) (defScope (inClass (top 52) 0)) .none kV47 dc47 pm47 an47 cd47 ct47), sl47⟩) (c47 : W.codeIn K cd47 "River.__init__" = true) (k47 : W.keepIn K (.ref f47) = true)
    {nm1 q1 : Str} {N1 : Addr} {bs1 : List Value} {sn1 : List Str} {sub1 : List Value} {ab1 : Bool} {col1 : Option Bool} {dd1 : Option Addr} {u1 v1 w1 x1 y1 : Option Value}
    (lc1 : K.lookup C1 = some (excClassObj nm1 q1 C1 N1 bs1 (.ref C0 :: VEm) true sn1 sub1 ab1 col1 dd1 u1 v1 w1 x1 y1 "ValueError.__new__")) (tl1 : W.tailIn K VEm (.ref C0 :: VEm) = true) (al1 : xcB K C1 f1 = true)
    (na1_thing : W.findIn K (.ref C1) "thing" = some none)
    {nm2 q2 : Str} {N2 : Addr} {bs2 : List Value} {sn2 : List Str} {sub2 : List Value} {ab2 : Bool} {col2 : Option Bool} {dd2 : Option Addr} {u2 v2 w2 x2 y2 : Option Value}
    (lc2 : K.lookup C2 = some (excClassObj nm2 q2 C2 N2 bs2 (.ref C0 :: VEm) true sn2 sub2 ab2 col2 dd2 u2 v2 w2 x2 y2 "ValueError.__new__")) (tl2 : W.tailIn K VEm (.ref C0 :: VEm) = true) (al2 : xcB K C2 f2 = true)
    (na2_thing : W.findIn K (.ref C2) "thing" = some none)
    {nm3 q3 : Str} {N3 : Addr} {bs3 : List Value} {sn3 : List Str} {sub3 : List Value} {ab3 : Bool} {col3 : Option Bool} {dd3 : Option Addr} {u3 v3 w3 x3 y3 : Option Value}
    (lc3 : K.lookup C3 = some (excClassObj nm3 q3 C3 N3 bs3 (.ref C0 :: VEm) true sn3 sub3 ab3 col3 dd3 u3 v3 w3 x3 y3 "ValueError.__new__")) (tl3 : W.tailIn K VEm (.ref C0 :: VEm) = true) (al3 : xcB K C3 f3 = true)
    (na3_thing : W.findIn K (.ref C3) "thing" = some none)
    {nm4 q4 : Str} {N4 : Addr} {bs4 : List Value} {sn4 : List Str} {sub4 : List Value} {ab4 : Bool} {col4 : Option Bool} {dd4 : Option Addr} {u4 v4 w4 x4 y4 : Option Value}
    (lc4 : K.lookup C4 = some (excClassObj nm4 q4 C4 N4 bs4 (.ref C0 :: VEm) true sn4 sub4 ab4 col4 dd4 u4 v4 w4 x4 y4 "ValueError.__new__")) (tl4 : W.tailIn K VEm (.ref C0 :: VEm) = true) (al4 : xcB K C4 f4 = true)
    (na4_thing : W.findIn K (.ref C4) "thing" = some none)
    {nm5 q5 : Str} {N5 : Addr} {bs5 : List Value} {sn5 : List Str} {sub5 : List Value} {ab5 : Bool} {col5 : Option Bool} {dd5 : Option Addr} {u5 v5 w5 x5 y5 : Option Value}
    (lc5 : K.lookup C5 = some (excClassObj nm5 q5 C5 N5 bs5 (.ref C0 :: VEm) true sn5 sub5 ab5 col5 dd5 u5 v5 w5 x5 y5 "ValueError.__new__")) (tl5 : W.tailIn K VEm (.ref C0 :: VEm) = true) (al5 : xcB K C5 f5 = true)
    {nm6 q6 : Str} {N6 : Addr} {bs6 : List Value} {sn6 : List Str} {sub6 : List Value} {ab6 : Bool} {col6 : Option Bool} {dd6 : Option Addr} {u6 v6 w6 x6 y6 : Option Value}
    (lc6 : K.lookup C6 = some (excClassObj nm6 q6 C6 N6 bs6 (.ref C0 :: VEm) true sn6 sub6 ab6 col6 dd6 u6 v6 w6 x6 y6 "ValueError.__new__")) (tl6 : W.tailIn K VEm (.ref C0 :: VEm) = true) (al6 : xcB K C6 f6 = true)
    {nm7 q7 : Str} {N7 : Addr} {bs7 : List Value} {sn7 : List Str} {sub7 : List Value} {ab7 : Bool} {col7 : Option Bool} {dd7 : Option Addr} {u7 v7 w7 x7 y7 : Option Value}
    (lc7 : K.lookup C7 = some (excClassObj nm7 q7 C7 N7 bs7 (.ref C0 :: VEm) true sn7 sub7 ab7 col7 dd7 u7 v7 w7 x7 y7 "ValueError.__new__")) (tl7 : W.tailIn K VEm (.ref C0 :: VEm) = true) (al7 : xcB K C7 f7 = true)
    (na7_thing : W.findIn K (.ref C7) "thing" = some none)
    (pg12 : W.plainGet K C12 Str.empty = true) (hd12 : W.hasDictIn K C12 = true) (po12 : W.plainOver K C12 = true) (sa12 : W.findIn K (.ref C12) "__setattr__" = some (some (.builtin "object.__setattr__")))
    (ya12 : W.findIn K (.ref C12) "__class__" = some (some (.builtin "object.__class__"))) (yb12 : W.specialIn K (.builtin "object.__class__") "__get__" = some (some (.builtin "getset_descriptor.__get__"))) (yc12 : W.takesIn K (.builtin "object.__class__") = some true) (yd12 : W.mroIn K C12 (.type "object") = some true)
    (mk12 : W.makesIn K C12 = true) (mi12 : W.findIn K (.ref C12) "__init__" = some (some (.ref f25))) (mf12 : W.isFn K (.ref f25) = true) (mp12 : W.keepIn K (.ref C12) = true)
    (me12_settings : W.findIn K (.ref C12) "settings" = some (some (.ref f26))) (mn12_settings : W.isFn K (.ref f26) = true) (mq12_settings : W.keepIn K (.ref f26) = true)
    (na12_marks : W.findIn K (.ref C12) "marks" = some none)
    (pg13 : W.plainGet K C13 Str.empty = true) (hd13 : W.hasDictIn K C13 = true) (po13 : W.plainOver K C13 = true) (sa13 : W.findIn K (.ref C13) "__setattr__" = some (some (.builtin "object.__setattr__")))
    (ya13 : W.findIn K (.ref C13) "__class__" = some (some (.builtin "object.__class__"))) (yb13 : W.specialIn K (.builtin "object.__class__") "__get__" = some (some (.builtin "getset_descriptor.__get__"))) (yc13 : W.takesIn K (.builtin "object.__class__") = some true) (yd13 : W.mroIn K C13 (.type "object") = some true)
    (mk13 : W.makesIn K C13 = true) (mi13 : W.findIn K (.ref C13) "__init__" = some (some (.ref f29))) (mf13 : W.isFn K (.ref f29) = true) (mp13 : W.keepIn K (.ref C13) = true)
    (me13_settings : W.findIn K (.ref C13) "settings" = some (some (.ref f30))) (mn13_settings : W.isFn K (.ref f30) = true) (mq13_settings : W.keepIn K (.ref f30) = true)
    (na13_marks : W.findIn K (.ref C13) "marks" = some none)
    (pg14 : W.plainGet K C14 Str.empty = true) (hd14 : W.hasDictIn K C14 = true) (po14 : W.plainOver K C14 = true) (sa14 : W.findIn K (.ref C14) "__setattr__" = some (some (.builtin "object.__setattr__")))
    (ya14 : W.findIn K (.ref C14) "__class__" = some (some (.builtin "object.__class__"))) (yb14 : W.specialIn K (.builtin "object.__class__") "__get__" = some (some (.builtin "getset_descriptor.__get__"))) (yc14 : W.takesIn K (.builtin "object.__class__") = some true) (yd14 : W.mroIn K C14 (.type "object") = some true)
    (mk14 : W.makesIn K C14 = true) (mi14 : W.findIn K (.ref C14) "__init__" = some (some (.ref f33))) (mf14 : W.isFn K (.ref f33) = true) (mp14 : W.keepIn K (.ref C14) = true)
    (me14_settings : W.findIn K (.ref C14) "settings" = some (some (.ref f34))) (mn14_settings : W.isFn K (.ref f34) = true) (mq14_settings : W.keepIn K (.ref f34) = true)
    (na14_marks : W.findIn K (.ref C14) "marks" = some none)
    (pg15 : W.plainGet K C15 Str.empty = true) (hd15 : W.hasDictIn K C15 = true) (po15 : W.plainOver K C15 = true) (sa15 : W.findIn K (.ref C15) "__setattr__" = some (some (.builtin "object.__setattr__")))
    (ya15 : W.findIn K (.ref C15) "__class__" = some (some (.builtin "object.__class__"))) (yb15 : W.specialIn K (.builtin "object.__class__") "__get__" = some (some (.builtin "getset_descriptor.__get__"))) (yc15 : W.takesIn K (.builtin "object.__class__") = some true) (yd15 : W.mroIn K C15 (.type "object") = some true)
    (mk15 : W.makesIn K C15 = true) (mi15 : W.findIn K (.ref C15) "__init__" = some (some (.ref f37))) (mf15 : W.isFn K (.ref f37) = true) (mp15 : W.keepIn K (.ref C15) = true)
    (me15_settings : W.findIn K (.ref C15) "settings" = some (some (.ref f38))) (mn15_settings : W.isFn K (.ref f38) = true) (mq15_settings : W.keepIn K (.ref f38) = true)
    (na15_gate : W.findIn K (.ref C15) "gate" = some none)
    (na15_setting : W.findIn K (.ref C15) "setting" = some none)
    (pg16 : W.plainGet K C16 Str.empty = true) (hd16 : W.hasDictIn K C16 = true) (po16 : W.plainOver K C16 = true) (sa16 : W.findIn K (.ref C16) "__setattr__" = some (some (.builtin "object.__setattr__")))
    (ya16 : W.findIn K (.ref C16) "__class__" = some (some (.builtin "object.__class__"))) (yb16 : W.specialIn K (.builtin "object.__class__") "__get__" = some (some (.builtin "getset_descriptor.__get__"))) (yc16 : W.takesIn K (.builtin "object.__class__") = some true) (yd16 : W.mroIn K C16 (.type "object") = some true)
    (mk16 : W.makesIn K C16 = true) (mi16 : W.findIn K (.ref C16) "__init__" = some (some (.ref f42))) (mf16 : W.isFn K (.ref f42) = true) (mp16 : W.keepIn K (.ref C16) = true)
    (na16_name : W.findIn K (.ref C16) "name" = some none)
    (na16_low : W.findIn K (.ref C16) "low" = some none)
    (na16_high : W.findIn K (.ref C16) "high" = some none)
    (na16_start : W.findIn K (.ref C16) "start" = some none)
    (na16_rain : W.findIn K (.ref C16) "rain" = some none)
    (na16_gate : W.findIn K (.ref C16) "gate" = some none)
    (pg17 : W.plainGet K C17 Str.empty = true) (hd17 : W.hasDictIn K C17 = true) (po17 : W.plainOver K C17 = true) (sa17 : W.findIn K (.ref C17) "__setattr__" = some (some (.builtin "object.__setattr__")))
    (ya17 : W.findIn K (.ref C17) "__class__" = some (some (.builtin "object.__class__"))) (yb17 : W.specialIn K (.builtin "object.__class__") "__get__" = some (some (.builtin "getset_descriptor.__get__"))) (yc17 : W.takesIn K (.builtin "object.__class__") = some true) (yd17 : W.mroIn K C17 (.type "object") = some true)
    (mk17 : W.makesIn K C17 = true) (mi17 : W.findIn K (.ref C17) "__init__" = some (some (.ref f43))) (mf17 : W.isFn K (.ref f43) = true) (mp17 : W.keepIn K (.ref C17) = true)
    (na17_name : W.findIn K (.ref C17) "name" = some none)
    (na17_basin : W.findIn K (.ref C17) "basin" = some none)
    (na17_want : W.findIn K (.ref C17) "want" = some none)
    (pg18 : W.plainGet K C18 Str.empty = true) (hd18 : W.hasDictIn K C18 = true) (po18 : W.plainOver K C18 = true) (sa18 : W.findIn K (.ref C18) "__setattr__" = some (some (.builtin "object.__setattr__")))
    (mk18 : W.makesIn K C18 = true) (mi18 : W.findIn K (.ref C18) "__init__" = some (some (.ref f47))) (mf18 : W.isFn K (.ref f47) = true) (mp18 : W.keepIn K (.ref C18) = true)
    (na18_cloud : W.findIn K (.ref C18) "cloud" = some none)
    (na18_gain : W.findIn K (.ref C18) "gain" = some none)
    (na18_basins : W.findIn K (.ref C18) "basins" = some none)
    (na18_towns : W.findIn K (.ref C18) "towns" = some none)
    (ff_StepGate : W.kitOne K (.ref C12) (.ref C11) = some true)
    (ff_FlapGate : W.kitOne K (.ref C13) (.ref C11) = some true)
    (ff_PartGate : W.kitOne K (.ref C14) (.ref C11) = some true)
    (ff_StuckGate : W.kitOne K (.ref C15) (.ref C11) = some true)
    (ff_o_Basin : W.kitOne K (.ref C16) (.ref C16) = some true)
    (ff_o_Town : W.kitOne K (.ref C17) (.ref C17) = some true)
    (ff_b_StepGate : W.kitOne K (.ref C12) (.type "bool") = some false)
    (ff_b_FlapGate : W.kitOne K (.ref C13) (.type "bool") = some false)
    (ff_b_PartGate : W.kitOne K (.ref C14) (.type "bool") = some false)
    (ff_b_StuckGate : W.kitOne K (.ref C15) (.type "bool") = some false)
    (ff_f_StepGate : W.kitAny K (.ref C12) [.ref C12, .ref C13, .ref C14, .ref C15] = some true)
    (ff_f_FlapGate : W.kitAny K (.ref C13) [.ref C12, .ref C13, .ref C14, .ref C15] = some true)
    (ff_f_PartGate : W.kitAny K (.ref C14) [.ref C12, .ref C13, .ref C14, .ref C15] = some true)
    (ff_f_StuckGate : W.kitAny K (.ref C15) [.ref C12, .ref C13, .ref C14, .ref C15] = some true)
    (ff_x_NoStanding_NoChoice : W.kitOne K (.ref C7) (.ref C8) = some false)
    (ff_x_NoStanding_NoRain : W.kitOne K (.ref C7) (.ref C9) = some false)
    (ff_w_NoStanding : W.kitOne K (.ref C7) (.ref C0) = some true)
    (ff_v_NoStanding : W.kitOne K (.ref C7) (.type "ValueError") = some true)
    (ff_m_NoStanding_NoStanding : W.mroIn K C7 (.ref C7) = some true) :
    ∃ a : Ad, Tx K mg a ∧ ∀ (s : Shared) (v : Value), BindsTo s a.d_law ⟨[v], []⟩ [("_law_script", v)] := by
  have F11 := fun_mk (st := top 16) l11 c11 k11
  have b11 := F11.binds (ps := ["thing", "low", "high"]) fun _ _ _ _ _ _ us hl => match us, hl with | [_, _, _], _ => rfl
  have F12 := fun_mk (st := top 17) l12 c12 k12
  have b12 := F12.binds (ps := ["text", "signs"]) fun _ _ _ _ _ _ us hl => match us, hl with | [_, _], _ => rfl
  have F13 := fun_mk (st := top 18) l13 c13 k13
  have b13 := F13.binds (ps := ["thing"]) fun _ _ _ _ _ _ us hl => match us, hl with | [_], _ => rfl
  have F14 := fun_mk (st := top 20) l14 c14 k14
  have b14 := F14.binds (ps := ["thing", "lows", "highs"]) fun _ _ _ _ _ _ us hl => match us, hl with | [_, _, _], _ => rfl
  have F15 := fun_mk (st := top 21) l15 c15 k15
  have b15 := F15.binds (ps := ["thing", "highs"]) fun _ _ _ _ _ _ us hl => match us, hl with | [_, _], _ => rfl
  have F16 := fun_mk (st := top 22) l16 c16 k16
  have b16 := F16.binds (ps := ["thing"]) fun _ _ _ _ _ _ us hl => match us, hl with | [_], _ => rfl
  have F17 := fun_mk (st := top 23) l17 c17 k17
  have b17 := F17.binds (ps := ["river", "thing"]) fun _ _ _ _ _ _ us hl => match us, hl with | [_, _], _ => rfl
  have F18 := fun_mk (st := top 24) l18 c18 k18
  have b18 := F18.binds (ps := ["river", "thing"]) fun _ _ _ _ _ _ us hl => match us, hl with | [_, _], _ => rfl
  have F19 := fun_mk (st := top 25) l19 c19 k19
  have b19 := F19.binds (ps := ["river", "wet"]) fun _ _ _ _ _ _ us hl => match us, hl with | [_, _], _ => rfl
  have F20 := fun_mk (st := top 26) l20 c20 k20
  have b20 := F20.binds (ps := ["river", "standing", "thing"]) fun _ _ _ _ _ _ us hl => match us, hl with | [_, _, _], _ => rfl
  have F21 := fun_mk (st := top 31) l21 c21 k21
  have b21 := F21.binds (ps := ["thing", "lowest"]) fun _ _ _ _ _ _ us hl => match us, hl with | [_, _], _ => rfl
  have F22 := fun_mk (st := top 32) l22 c22 k22
  have b22 := F22.binds (ps := ["marks", "lowest"]) fun _ _ _ _ _ _ us hl => match us, hl with | [_, _], _ => rfl
  have F41 := fun_mk (st := top 46) l41 c41 k41
  have b41 := F41.binds (ps := ["thing", "low", "high"]) fun _ _ _ _ _ _ us hl => match us, hl with | [_, _, _], _ => rfl
  have F44 := fun_mk (st := top 49) l44 c44 k44
  have b44 := F44.binds (ps := ["names"]) fun _ _ _ _ _ _ us hl => match us, hl with | [_], _ => rfl
  have F45 := fun_mk (st := top 50) l45 c45 k45
  have b45 := F45.binds (ps := ["thing"]) fun _ _ _ _ _ _ us hl => match us, hl with | [_], _ => rfl
  have F46 := fun_mk (st := top 51) l46 c46 k46
  have b46 := F46.binds (ps := ["thing", "basins"]) fun _ _ _ _ _ _ us hl => match us, hl with | [_, _], _ => rfl
  have F50 := fun_mk (st := top 54) l50 c50 k50
  have b50 := F50.binds (ps := ["_law_script", "_law_k"]) fun _ _ _ _ _ _ us hl => match us, hl with | [_, _], _ => rfl
  have F51 := fun_mk (st := top 55) l51 c51 k51
  have b51 := F51.binds (ps := ["_law_cell_here"]) fun _ _ _ _ _ _ us hl => match us, hl with | [_], _ => rfl
  have F52 := fun_mk (st := top 56) l52 c52 k52
  have b52 := F52.binds (ps := ["_law_stream_here", "_law_many"]) fun _ _ _ _ _ _ us hl => match us, hl with | [_, _], _ => rfl
  have F53 := fun_mk (st := top 57) l53 c53 k53
  have b53 := F53.binds (ps := ["_law_stream_here", "_law_many"]) fun _ _ _ _ _ _ us hl => match us, hl with | [_, _], _ => rfl
  have F54 := fun_mk (st := top 58) l54 c54 k54
  have b54 := F54.binds (ps := ["_law_stream_here"]) fun _ _ _ _ _ _ us hl => match us, hl with | [_], _ => rfl
  have F55 := fun_mk (st := top 59) l55 c55 k55
  have b55 := F55.binds (ps := ["_law_stream_here", "_law_name"]) fun _ _ _ _ _ _ us hl => match us, hl with | [_, _], _ => rfl
  have F56 := fun_mk (st := top 60) l56 c56 k56
  have b56 := F56.binds (ps := ["_law_cell_here"]) fun _ _ _ _ _ _ us hl => match us, hl with | [_], _ => rfl
  have F57 := fun_mk (st := top 61) l57 c57 k57
  have b57 := F57.binds (ps := ["_law_told_here"]) fun _ _ _ _ _ _ us hl => match us, hl with | [_], _ => rfl
  have F58 := fun_mk (st := top 62) l58 c58 k58
  have b58 := F58.binds (ps := ["_law_told_here"]) fun _ _ _ _ _ _ us hl => match us, hl with | [_], _ => rfl
  have F59 := fun_mk (st := top 63) l59 c59 k59
  have b59 := F59.binds (ps := ["_law_gate_here"]) fun _ _ _ _ _ _ us hl => match us, hl with | [_], _ => rfl
  have F60 := fun_mk (st := top 64) l60 c60 k60
  have b60 := F60.binds (ps := ["_law_stream_here", "_law_told_here"]) fun _ _ _ _ _ _ us hl => match us, hl with | [_, _], _ => rfl
  have F61 := fun_mk (st := top 65) l61 c61 k61
  have b61 := F61.binds (ps := ["_law_stream_here", "_law_told_here"]) fun _ _ _ _ _ _ us hl => match us, hl with | [_, _], _ => rfl
  have F62 := fun_mk (st := top 66) l62 c62 k62
  have b62 := F62.binds (ps := ["_law_told_here", "_law_wet"]) fun _ _ _ _ _ _ us hl => match us, hl with | [_, _], _ => rfl
  have F63 := fun_mk (st := top 67) l63 c63 k63
  have b63 := F63.binds (ps := ["_law_told_here", "_law_wet", "_law_row_here"]) fun _ _ _ _ _ _ us hl => match us, hl with | [_, _, _], _ => rfl
  have F64 := fun_mk (st := top 68) l64 c64 k64
  have b64 := F64.binds (ps := ["_law_stream_here", "_law_told_here", "_law_wet"]) fun _ _ _ _ _ _ us hl => match us, hl with | [_, _, _], _ => rfl
  have F65 := fun_mk (st := top 69) l65 c65 k65
  have b65 := F65.binds (ps := ["_law_thing", "_law_low", "_law_high"]) fun _ _ _ _ _ _ us hl => match us, hl with | [_, _, _], _ => rfl
  have F66 := fun_mk (st := top 70) l66 c66 k66
  have b66 := F66.binds (ps := ["_law_thing", "_law_lows", "_law_highs"]) fun _ _ _ _ _ _ us hl => match us, hl with | [_, _, _], _ => rfl
  have F67 := fun_mk (st := top 71) l67 c67 k67
  have b67 := F67.binds (ps := ["_law_told_here", "_law_thing"]) fun _ _ _ _ _ _ us hl => match us, hl with | [_, _], _ => rfl
  have F68 := fun_mk (st := top 72) l68 c68 k68
  have b68 := F68.binds (ps := ["_law_told_here", "_law_thing"]) fun _ _ _ _ _ _ us hl => match us, hl with | [_, _], _ => rfl
  have F69 := fun_mk (st := top 73) l69 c69 k69
  have b69 := F69.binds (ps := ["_law_told_here", "_law_wet", "_law_thing"]) fun _ _ _ _ _ _ us hl => match us, hl with | [_, _, _], _ => rfl
  have F70 := fun_mk (st := top 74) l70 c70 k70
  have b70 := F70.binds (ps := ["_law_stream_here", "_law_number"]) fun _ _ _ _ _ _ us hl => match us, hl with | [_, _], _ => rfl
  have F71 := fun_mk (st := top 75) l71 c71 k71
  have b71 := F71.binds (ps := ["_law_stream_here", "_law_row_here"]) fun _ _ _ _ _ _ us hl => match us, hl with | [_, _], _ => rfl
  have F72 := fun_mk (st := top 76) l72 c72 k72
  have b72 := F72.binds (ps := ["_law_stream_here", "_law_pair"]) fun _ _ _ _ _ _ us hl => match us, hl with | [_, _], _ => rfl
  have F73 := fun_mk (st := top 77) l73 c73 k73
  have b73 := F73.binds (ps := ["_law_stream_here"]) fun _ _ _ _ _ _ us hl => match us, hl with | [_], _ => rfl
  have F74 := fun_mk (st := top 78) l74 c74 k74
  have b74 := F74.binds (ps := ["_law_found", "_law_due"]) fun _ _ _ _ _ _ us hl => match us, hl with | [_, _], _ => rfl
  have F75 := fun_mk (st := top 79) l75 c75 k75
  have b75 := F75.binds (ps := ["_law_told_here", "_law_river_here", "_law_stream_here", "_law_standing_here", "_law_choice_here"]) fun _ _ _ _ _ _ us hl => match us, hl with | [_, _, _, _, _], _ => rfl
  have F76 := fun_mk (st := top 80) l76 c76 k76
  have b76 := F76.binds (ps := ["_law_river_here", "_law_thing", "_law_rain_here"]) fun _ _ _ _ _ _ us hl => match us, hl with | [_, _, _], _ => rfl
  have F77 := fun_mk (st := top 81) l77 c77 k77
  have b77 := F77.binds (ps := ["_law_script"]) fun _ _ _ _ _ _ us hl => match us, hl with | [_], _ => rfl
  have F1 := fun_mk (st := inClass (top 3) 0) l1 c1 k1
  have b1 := F1.binds (ps := ["self", "thing"]) fun _ _ _ _ _ _ us hl => match us, hl with | [_, _], _ => rfl
  have F2 := fun_mk (st := inClass (top 4) 0) l2 c2 k2
  have b2 := F2.binds (ps := ["self", "thing"]) fun _ _ _ _ _ _ us hl => match us, hl with | [_, _], _ => rfl
  have F3 := fun_mk (st := inClass (top 5) 0) l3 c3 k3
  have b3 := F3.binds (ps := ["self", "thing"]) fun _ _ _ _ _ _ us hl => match us, hl with | [_, _], _ => rfl
  have F4 := fun_mk (st := inClass (top 6) 0) l4 c4 k4
  have b4 := F4.binds (ps := ["self", "thing"]) fun _ _ _ _ _ _ us hl => match us, hl with | [_, _], _ => rfl
  have F5 := fun_mk (st := inClass (top 7) 0) l5 c5 k5
  have b5 := F5.binds (ps := ["self", "thing"]) fun _ _ _ _ _ _ us hl => match us, hl with | [_, _], _ => rfl
  have F6 := fun_mk (st := inClass (top 8) 0) l6 c6 k6
  have b6 := F6.binds (ps := ["self", "thing"]) fun _ _ _ _ _ _ us hl => match us, hl with | [_, _], _ => rfl
  have F7 := fun_mk (st := inClass (top 9) 0) l7 c7 k7
  have b7 := F7.binds (ps := ["self", "thing"]) fun _ _ _ _ _ _ us hl => match us, hl with | [_, _], _ => rfl
  have F25 := fun_mk (st := inClass (top 35) 0) l25 c25 k25
  have b25 := F25.binds (ps := ["self", "marks"]) fun _ _ _ _ _ _ us hl => match us, hl with | [_, _], _ => rfl
  have F26 := fun_mk (st := inClass (top 35) 1) l26 c26 k26
  have b26 := F26.binds (ps := ["self"]) fun _ _ _ _ _ _ us hl => match us, hl with | [_], _ => rfl
  have F29 := fun_mk (st := inClass (top 36) 0) l29 c29 k29
  have b29 := F29.binds (ps := ["self", "marks"]) fun _ _ _ _ _ _ us hl => match us, hl with | [_, _], _ => rfl
  have F30 := fun_mk (st := inClass (top 36) 1) l30 c30 k30
  have b30 := F30.binds (ps := ["self"]) fun _ _ _ _ _ _ us hl => match us, hl with | [_], _ => rfl
  have F33 := fun_mk (st := inClass (top 37) 0) l33 c33 k33
  have b33 := F33.binds (ps := ["self", "marks"]) fun _ _ _ _ _ _ us hl => match us, hl with | [_, _], _ => rfl
  have F34 := fun_mk (st := inClass (top 37) 1) l34 c34 k34
  have b34 := F34.binds (ps := ["self"]) fun _ _ _ _ _ _ us hl => match us, hl with | [_], _ => rfl
  have F37 := fun_mk (st := inClass (top 38) 0) l37 c37 k37
  have b37 := F37.binds (ps := ["self", "gate", "setting"]) fun _ _ _ _ _ _ us hl => match us, hl with | [_, _, _], _ => rfl
  have F38 := fun_mk (st := inClass (top 38) 1) l38 c38 k38
  have b38 := F38.binds (ps := ["self"]) fun _ _ _ _ _ _ us hl => match us, hl with | [_], _ => rfl
  have F42 := fun_mk (st := inClass (top 47) 0) l42 c42 k42
  have b42 := F42.binds (ps := ["self", "name", "low", "high", "start", "rain", "gate"]) fun _ _ _ _ _ _ us hl => match us, hl with | [_, _, _, _, _, _, _], _ => rfl
  have F43 := fun_mk (st := inClass (top 48) 0) l43 c43 k43
  have b43 := F43.binds (ps := ["self", "name", "basin", "want"]) fun _ _ _ _ _ _ us hl => match us, hl with | [_, _, _, _], _ => rfl
  have F47 := fun_mk (st := inClass (top 52) 0) l47 c47 k47
  have b47 := F47.binds (ps := ["self", "cloud", "gain", "basins", "towns"]) fun _ _ _ _ _ _ us hl => match us, hl with | [_, _, _, _, _], _ => rfl
  exact ⟨⟨f1, _, f2, _, f3, _, f4, _, f5, _, f6, _, f7, _, f11, _, f12, _, f13, _, f14, _, f15, _, f16, _, f17, _, f18, _, f19, _, f20, _, f21, _, f22, _, f25, _, f26, _, f29, _, f30, _, f33, _, f34, _, f37, _, f38, _, f41, _, f42, _, f43, _, f44, _, f45, _, f46, _, f47, _, f50, _, f51, _, f52, _, f53, _, f54, _, f55, _, f56, _, f57, _, f58, _, f59, _, f60, _, f61, _, f62, _, f63, _, f64, _, f65, _, f66, _, f67, _, f68, _, f69, _, f70, _, f71, _, f72, _, f73, _, f74, _, f75, _, f76, _, f77, _, tk0, tk1, tk2, tk3, tk4, tk5, tk6, tk7, tk8, tk9, C0, C1, C2, C3, C4, C5, C6, C7, C8, C9, C10, C11, C12, C13, C14, C15, C16, C17, C18⟩, { f_is_whole := ⟨W.mg_of X G a11, F11, b11⟩, f_is_made_of := ⟨W.mg_of X G a12, F12, b12⟩, f_is_name := ⟨W.mg_of X G a13, F13, b13⟩, f_is_row := ⟨W.mg_of X G a14, F14, b14⟩, f_is_row_up_to := ⟨W.mg_of X G a15, F15, b15⟩, f_is_pair := ⟨W.mg_of X G a16, F16, b16⟩, f_is_standing := ⟨W.mg_of X G a17, F17, b17⟩, f_is_choice := ⟨W.mg_of X G a18, F18, b18⟩, f_forced_rain := ⟨W.mg_of X G a19, F19, b19⟩, f_is_rain := ⟨W.mg_of X G a20, F20, b20⟩, f_are_marks := ⟨W.mg_of X G a21, F21, b21⟩, f_kept_marks := ⟨W.mg_of X G a22, F22, b22⟩, f_refuse_no_level := ⟨W.mg_of X G a41, F41, b41⟩, f_are_unlike := ⟨W.mg_of X G a44, F44, b44⟩, f_are_basins := ⟨W.mg_of X G a45, F45, b45⟩, f_are_towns := ⟨W.mg_of X G a46, F46, b46⟩, f__law_cell := ⟨W.mg_of X G a50, F50, b50⟩, f__law_stream := ⟨W.mg_of X G a51, F51, b51⟩, f__law_take := ⟨W.mg_of X G a52, F52, b52⟩, f__law_names := ⟨W.mg_of X G a53, F53, b53⟩, f__law_gate := ⟨W.mg_of X G a54, F54, b54⟩, f__law_basin := ⟨W.mg_of X G a55, F55, b55⟩, f__law_river := ⟨W.mg_of X G a56, F56, b56⟩, f__law_made_gate := ⟨W.mg_of X G a57, F57, b57⟩, f__law_made := ⟨W.mg_of X G a58, F58, b58⟩, f__law_settings := ⟨W.mg_of X G a59, F59, b59⟩, f__law_standing := ⟨W.mg_of X G a60, F60, b60⟩, f__law_choice := ⟨W.mg_of X G a61, F61, b61⟩, f__law_forced := ⟨W.mg_of X G a62, F62, b62⟩, f__law_raised := ⟨W.mg_of X G a63, F63, b63⟩, f__law_rain := ⟨W.mg_of X G a64, F64, b64⟩, f__law_whole := ⟨W.mg_of X G a65, F65, b65⟩, f__law_row := ⟨W.mg_of X G a66, F66, b66⟩, f__law_is_standing := ⟨W.mg_of X G a67, F67, b67⟩, f__law_is_choice := ⟨W.mg_of X G a68, F68, b68⟩, f__law_is_rain := ⟨W.mg_of X G a69, F69, b69⟩, f__law_odd := ⟨W.mg_of X G a70, F70, b70⟩, f__law_row_put := ⟨W.mg_of X G a71, F71, b71⟩, f__law_pair_put := ⟨W.mg_of X G a72, F72, b72⟩, f__law_any := ⟨W.mg_of X G a73, F73, b73⟩, f__law_told := ⟨W.mg_of X G a74, F74, b74⟩, f__law_pairs_right := ⟨W.mg_of X G a75, F75, b75⟩, f__law_refused := ⟨W.mg_of X G a76, F76, b76⟩, f_law := ⟨W.mg_of X G a77, F77, b77⟩, c_LETTERS := W.mg_of X G g0, c_MOST_LETTERS := W.mg_of X G g1, c_MOST_SETTINGS := W.mg_of X G g2, c_HIGHEST_MARK := W.mg_of X G g3, c_HIGHEST := W.mg_of X G g4, c_MOST_RAIN := W.mg_of X G g5, c_MOST_WANT := W.mg_of X G g6, c_MOST_CLOUD := W.mg_of X G g7, c_MOST_BASINS := W.mg_of X G g8, c_MOST_TOWNS := W.mg_of X G g9, n_ValueError := W.mg_none_of X G z0, n_all := W.mg_none_of X G z1, n_bool := W.mg_none_of X G z2, n_enumerate := W.mg_none_of X G z3, n_int := W.mg_none_of X G z4, n_isinstance := W.mg_none_of X G z5, n_len := W.mg_none_of X G z6, n_list := W.mg_none_of X G z7, n_max := W.mg_none_of X G z8, n_min := W.mg_none_of X G z9, n_range := W.mg_none_of X G z10, n_set := W.mg_none_of X G z11, n_str := W.mg_none_of X G z12, n_sum := W.mg_none_of X G z13, n_tuple := W.mg_none_of X G z14, n_zip := W.mg_none_of X G z15, m_WeirError := W.mg_of X G mc0, m_NoName := W.mg_of X G mc1, m_NoGate := W.mg_of X G mc2, m_NoBasin := W.mg_of X G mc3, m_NoTown := W.mg_of X G mc4, m_NoCloud := W.mg_of X G mc5, m_NoRiver := W.mg_of X G mc6, m_NoStanding := W.mg_of X G mc7, m_NoChoice := W.mg_of X G mc8, m_NoRain := W.mg_of X G mc9, m_Gate := W.mg_of X G mc11, m_StepGate := W.mg_of X G mc12, m_FlapGate := W.mg_of X G mc13, m_PartGate := W.mg_of X G mc14, m_StuckGate := W.mg_of X G mc15, m_Basin := W.mg_of X G mc16, m_Town := W.mg_of X G mc17, m_River := W.mg_of X G mc18, f_NoName___init__ := ⟨F1, b1⟩, f_NoGate___init__ := ⟨F2, b2⟩, f_NoBasin___init__ := ⟨F3, b3⟩, f_NoTown___init__ := ⟨F4, b4⟩, f_NoCloud___init__ := ⟨F5, b5⟩, f_NoRiver___init__ := ⟨F6, b6⟩, f_NoStanding___init__ := ⟨F7, b7⟩, f_StepGate___init__ := ⟨F25, b25⟩, f_StepGate_settings := ⟨F26, b26⟩, f_FlapGate___init__ := ⟨F29, b29⟩, f_FlapGate_settings := ⟨F30, b30⟩, f_PartGate___init__ := ⟨F33, b33⟩, f_PartGate_settings := ⟨F34, b34⟩, f_StuckGate___init__ := ⟨F37, b37⟩, f_StuckGate_settings := ⟨F38, b38⟩, f_Basin___init__ := ⟨F42, b42⟩, f_Town___init__ := ⟨F43, b43⟩, f_River___init__ := ⟨F47, b47⟩, x_NoName := ⟨⟨_, _, _, _, _, _, _, _, _, _, _, _, _, _, lc1⟩, tl1, al1⟩, n_NoName_thing := na1_thing, x_NoGate := ⟨⟨_, _, _, _, _, _, _, _, _, _, _, _, _, _, lc2⟩, tl2, al2⟩, n_NoGate_thing := na2_thing, x_NoBasin := ⟨⟨_, _, _, _, _, _, _, _, _, _, _, _, _, _, lc3⟩, tl3, al3⟩, n_NoBasin_thing := na3_thing, x_NoTown := ⟨⟨_, _, _, _, _, _, _, _, _, _, _, _, _, _, lc4⟩, tl4, al4⟩, n_NoTown_thing := na4_thing, x_NoCloud := ⟨⟨_, _, _, _, _, _, _, _, _, _, _, _, _, _, lc5⟩, tl5, al5⟩, x_NoRiver := ⟨⟨_, _, _, _, _, _, _, _, _, _, _, _, _, _, lc6⟩, tl6, al6⟩, x_NoStanding := ⟨⟨_, _, _, _, _, _, _, _, _, _, _, _, _, _, lc7⟩, tl7, al7⟩, e_NoStanding := (show XCls K C7 C0 f7 from ⟨⟨_, _, _, _, _, _, _, _, _, _, _, _, _, _, lc7⟩, tl7, al7⟩).e, n_NoStanding_thing := na7_thing, s_StepGate := ⟨pg12, hd12, po12, sa12⟩, y_StepGate := ⟨ya12, yb12, yc12, yd12⟩, k_StepGate := ⟨mk12, mi12, mf12, mp12⟩, me_StepGate_settings := ⟨me12_settings, mn12_settings, mq12_settings⟩, n_StepGate_marks := na12_marks, s_FlapGate := ⟨pg13, hd13, po13, sa13⟩, y_FlapGate := ⟨ya13, yb13, yc13, yd13⟩, k_FlapGate := ⟨mk13, mi13, mf13, mp13⟩, me_FlapGate_settings := ⟨me13_settings, mn13_settings, mq13_settings⟩, n_FlapGate_marks := na13_marks, s_PartGate := ⟨pg14, hd14, po14, sa14⟩, y_PartGate := ⟨ya14, yb14, yc14, yd14⟩, k_PartGate := ⟨mk14, mi14, mf14, mp14⟩, me_PartGate_settings := ⟨me14_settings, mn14_settings, mq14_settings⟩, n_PartGate_marks := na14_marks, s_StuckGate := ⟨pg15, hd15, po15, sa15⟩, y_StuckGate := ⟨ya15, yb15, yc15, yd15⟩, k_StuckGate := ⟨mk15, mi15, mf15, mp15⟩, me_StuckGate_settings := ⟨me15_settings, mn15_settings, mq15_settings⟩, n_StuckGate_gate := na15_gate, n_StuckGate_setting := na15_setting, s_Basin := ⟨pg16, hd16, po16, sa16⟩, y_Basin := ⟨ya16, yb16, yc16, yd16⟩, k_Basin := ⟨mk16, mi16, mf16, mp16⟩, n_Basin_name := na16_name, n_Basin_low := na16_low, n_Basin_high := na16_high, n_Basin_start := na16_start, n_Basin_rain := na16_rain, n_Basin_gate := na16_gate, s_Town := ⟨pg17, hd17, po17, sa17⟩, y_Town := ⟨ya17, yb17, yc17, yd17⟩, k_Town := ⟨mk17, mi17, mf17, mp17⟩, n_Town_name := na17_name, n_Town_basin := na17_basin, n_Town_want := na17_want, s_River := ⟨pg18, hd18, po18, sa18⟩, k_River := ⟨mk18, mi18, mf18, mp18⟩, n_River_cloud := na18_cloud, n_River_gain := na18_gain, n_River_basins := na18_basins, n_River_towns := na18_towns, i_StepGate := ff_StepGate, i_FlapGate := ff_FlapGate, i_PartGate := ff_PartGate, i_StuckGate := ff_StuckGate, i_o_Basin := ff_o_Basin, i_o_Town := ff_o_Town, i_b_StepGate := ff_b_StepGate, i_b_FlapGate := ff_b_FlapGate, i_b_PartGate := ff_b_PartGate, i_b_StuckGate := ff_b_StuckGate, i_f_StepGate := ff_f_StepGate, i_f_FlapGate := ff_f_FlapGate, i_f_PartGate := ff_f_PartGate, i_f_StuckGate := ff_f_StuckGate, i_x_NoStanding_NoChoice := ff_x_NoStanding_NoChoice, i_x_NoStanding_NoRain := ff_x_NoStanding_NoRain, i_w_NoStanding := ff_w_NoStanding, i_v_NoStanding := ff_v_NoStanding, i_m_NoStanding_NoStanding := ff_m_NoStanding_NoStanding }, fun s v => .of_eq rfl⟩
end K11
namespace PySem.W.Fast
def tw5060418916278187611 := ()
def tw5669396625573696677 := ()
def tw12622184791892861929 := ()
def tw13825866647841949897 := ()
def tw14430993497795694175 := ()
def tw16560193879116577426 := ()
def tw16890231879338310565 := ()
def tw2000956263457261766 := ()
def tw303081301288143517 := ()
def tw3100829929641571118 := ()
def tw3288355512328331959 := ()
def tw3357287930285745342 := ()
def tw3365624132896218182 := ()
def tw3515717776552181573 := ()
def tw4899692275364863287 := ()
def tw607582950464882930 := ()
def tw6942438666395177624 := ()
def tw7136261431808678792 := ()
def tw8243111809834152940 := ()
def tw8307879602860695565 := ()
def tw9351334968151369739 := ()
def tw1061217906668515508 := ()
def tw10796626772639319722 := ()
def tw15921683189538326155 := ()
def tw2550291365948203640 := ()
def tw3158058652312986194 := ()
def tw9756422829797846387 := ()
def tw9507031905680675057 := ()
def tw14840182684522329680 := ()
def tw12001321574868969321 := ()
def tw16053444182396362339 := ()
def tw7366427091960591345 := ()
def tw16112531101094760929 := ()
def tw5964832988819976761 := ()
def tw8444321324166316143 := ()
def tw8792566055958339524 := ()
def tw11111360592762399049 := ()
def tw17888259234722234171 := ()
def tw2241732885583436968 := ()
def tw13266555445803324932 := ()
def tw13430013205907595137 := ()
def tw17906126936230714471 := ()
def tw5003647028296960644 := ()
def tw6093239064804939415 := ()
def tw4442461076001760531 := ()
def tw11604860912043829046 := ()
def tw17937239841154396794 := ()
def tw3022666754815166723 := ()
def tw637903781552895647 := ()
def tw9863401824141887114 := ()
def tw5548292658077258608 := ()
def tw9315981781974230849 := ()
def tw11337722191141814365 := ()
def tw13189553792474068042 := ()
def tw13926183099939892027 := ()
def tw14875876615720869803 := ()
def tw15357230845487512859 := ()
def tw16165762337352812797 := ()
def tw16589347090495784991 := ()
def tw17265718351521401576 := ()
def tw18377453408859540562 := ()
def tw1848603222266878762 := ()
def tw4470921952487917229 := ()
def tw7798765907899683132 := ()
def tw14734595739284879732 := ()
def tw7335421642308740565 := ()
def tw11186813063681472488 := ()
def tw11562528437330779877 := ()
def tw11771381339404389299 := ()
def tw11826911988167843748 := ()
def tw13224452272642377341 := ()
def tw13460288477849985141 := ()
def tw1419457161130399269 := ()
def tw15224209265874909166 := ()
def tw16651289869556579546 := ()
def tw17294647988642732211 := ()
def tw1833817990029642995 := ()
def tw2589472155736445662 := ()
def tw41668038642112553 := ()
def tw4724960482505395705 := ()
def tw4799606035154233013 := ()
def tw7461624703361676318 := ()
def tw7974654286071522049 := ()
def tw8643707533959324004 := ()
def tw9091061778235907766 := ()
def tw9141797980476985523 := ()
def tw9465864991296249021 := ()
def tw9862691463770349139 := ()
def tw2367925888962681964 := ()
def tw2930784502247950344 := ()
def tw11240317108772372883 := ()
def tw12170617103781805550 := ()
def tw14329354185147959743 := ()
def tw1475455371236584360 := ()
def tw17451626973019434246 := ()
def tw17516814002364922656 := ()
def tw2211389104769583121 := ()
def tw4741964788689982404 := ()
def tw5235831112609362816 := ()
def tw6634484983519664227 := ()
def tw745264634492966245 := ()
def tw10096779369888357629 := ()
def tw1342155061633017869 := ()
def tw14312417393317021694 := ()
def tw14390312366723737471 := ()
def tw16369729736239527644 := ()
def tw11692376746498519562 := ()
def tw12348278133820122094 := ()
def tw13898669093955236647 := ()
def tw14840068384747943700 := ()
def tw17643478294700332354 := ()
def tw3347516222083196065 := ()
def tw3809821814304177423 := ()
def tw5826766770889002121 := ()
def tw6362915623240830783 := ()
def tw6704424422230525842 := ()
def tw8779262401953350557 := ()
def tw8813666502154844664 := ()
def tw9287525894176092454 := ()
def tw13134134084616079178 := ()
def tw1420702757657393021 := ()
def tw14542995865241037009 := ()
def tw17932963062198089030 := ()
def tw1864883461140823817 := ()
def tw2111093466463826325 := ()
def tw2227831798047706764 := ()
def tw2335745098087534873 := ()
def tw2743244473188824341 := ()
def tw2969449415084066391 := ()
def tw3570810325394490689 := ()
def tw4518192492419888529 := ()
def tw621914052236303927 := ()
def tw7864540774306675433 := ()
def tw8572563847489146259 := ()
def tw9626317032757147214 := ()
def tw9687586970018222884 := ()
def tw11760407449766376594 := ()
def tw12535002720894406972 := ()
def tw1389291323546196085 := ()
def tw15051345308376867845 := ()
def tw3250831657899112163 := ()
def tw7255721558997787980 := ()
def tw7523869304615136685 := ()
def tw7789777728487382785 := ()
def tw12014500073597373645 := ()
def tw12270588657909459942 := ()
def tw12312316073824453083 := ()
def tw14624980863438670655 := ()
def tw2360042875702757240 := ()
def tw2396871917935002287 := ()
def tw5473116283950842915 := ()
def tw8146085714637014910 := ()
def tw10244167933746272051 := ()
def tw10553724524918639556 := ()
def tw10960420475312416763 := ()
def tw11676070848076259471 := ()
def tw11938364800705101804 := ()
def tw13579847766766212273 := ()
def tw14073003285168332567 := ()
def tw14983633737006546509 := ()
def tw15347405106149790874 := ()
def tw15710529966467864322 := ()
def tw1573441023976685969 := ()
def tw16441410179940869884 := ()
def tw17301140694755964319 := ()
def tw2582991599284548076 := ()
def tw3906214163454401736 := ()
def tw3967917125094089495 := ()
def tw694933083888937273 := ()
def tw7390536613615040019 := ()
def tw9780788990963793191 := ()
def tw5675613198863115285 := ()
def tw10006274786729254104 := ()
def tw11181414139258976798 := ()
def tw11259545489248097806 := ()
def tw11977142857506093559 := ()
def tw12552439834828858934 := ()
def tw13853296224394995880 := ()
def tw13903937279106326009 := ()
def tw14376749313703594995 := ()
def tw15166956730940039575 := ()
def tw15733296809526944474 := ()
def tw1632796013673485683 := ()
def tw17270988414272493107 := ()
def tw17833139505443291989 := ()
def tw18030945209715769056 := ()
def tw18127985769527495886 := ()
def tw2526396532043411316 := ()
def tw3464735357434394622 := ()
def tw3996906955200357331 := ()
def tw4339683647797015436 := ()
def tw4368076648095451116 := ()
def tw4559019913840909532 := ()
def tw4902727020645795381 := ()
def tw515171093426418627 := ()
def tw5407417940967668895 := ()
def tw6610425872359136490 := ()
def tw8966291434204759738 := ()
def tw9058881082871640841 := ()
def tw9299855946402136006 := ()
def tw17182485702121464934 := ()
def tw9639603449887648761 := ()
def tw9532388157791730378 := ()
def tw13623578449678188036 := ()
def tw4869074232864928729 := ()
def tw5357053789127741539 := ()
def tw5404082579857938691 := ()
def tw11267969254840083392 := ()
def tw12342616732994358251 := ()
def tw16860142995095236753 := ()
def tw17368946370884839939 := ()
def tw4316532920601673613 := ()
def tw1597700282338621119 := ()
def tw1454208333745425685 := ()
def tw15847675212463626910 := ()
def tw11304629977388858853 := ()
def tw13490832711875658803 := ()
def tw16600154927957929163 := ()
def tw17377734067696519001 := ()
def tw2398653115330853954 := ()
def tw5528573756760355901 := ()
def tw7654741170601308175 := ()
def tw9027943971072790259 := ()
def tw4389872804811010724 := ()
def tw15295141488744100095 := ()
def tw15241099268916726223 := ()
def tw2828588738890068757 := ()
def tw7461906366500473942 := ()
def tw8612653644178243326 := ()
def tw12729168246405564652 := ()
def tw16520760919701854681 := ()
def tw5678512997645538047 := ()
def tw15016127300499130225 := ()
def tw11124619427474812509 := ()
def tw12610041273959237028 := ()
def tw3285550326098323514 := ()
def tw6079353390040547731 := ()
def tw11577051044599515205 := ()
def tw1278569412430937723 := ()
def tw12168985012629250245 := ()
def tw13499568075205777986 := ()
def tw13860441024849902326 := ()
def tw163643341570184981 := ()
def tw18327414023327100129 := ()
def tw5980124437615619154 := ()
def tw8344297089870314612 := ()
def tw9637611494363310379 := ()
def tw10851412793672270652 := ()
def tw8630005430000564243 := ()
def tw13781058304986922625 := ()
def tw10772302414752611639 := ()
def tw11832478698424585806 := ()
def tw14851935440414553688 := ()
def tw1792878056242227292 := ()
def tw2933630949140295691 := ()
def tw5913285931018979867 := ()
def tw13136821508766129390 := ()
def tw13989914777132504058 := ()
def tw11103350300095687171 := ()
def tw13179170877844705862 := ()
def tw18079480087060580590 := ()
def tw2420286314964372362 := ()
def tw11715905699271205845 := ()
def tw7365809814589840348 := ()
def tw7974207880339974366 := ()
def tw14689628298238136339 := ()
def tw15686830553701289867 := ()
def tw17986095732502861822 := ()
def tw1878528149003014130 := ()
def tw12251088479259621155 := ()
def tw3420124594321878492 := ()
def tw957373316016462174 := ()
def tw10586535992125166430 := ()
def tw859471521540626698 := ()
def tw9033309967953859881 := ()
def tw14804798222101963694 := ()
def tw7395630102653274094 := ()
def tw3683517861106715539 := ()
def tw15983761901075422794 := ()
def tw7347009262658731689 := ()
def tw11560045759403778906 := ()
def tw15178969430463724534 := ()
def tw15889372938096767479 := ()
def tw637171940561249600 := ()
def tw15474227456426601899 := ()
def tw13450906759739372128 := ()
def tw13839846518615339898 := ()
def tw11824713751477338219 := ()
def tw14753309632799554864 := ()
def tw5387694494939287300 := ()
def tw1797765168020998214 := ()
def tw6359438797048357058 := ()
def tw14179768183212669672 := ()
def tw14483959232259066061 := ()
def tw15908834187823316255 := ()
def tw7750621687838364206 := ()
def tw12267759524141535260 := ()
def tw12629315485108738649 := ()
def tw8488695624855589290 := ()
def tw2986945767764843721 := ()
def tw6612569731014254207 := ()
def tw17024594799950061400 := ()
def tw9505242624499636642 := ()
def tw9739737541377653702 := ()
def tw903395368173359988 := ()
def tw16803139089891418252 := ()
def tw6997546581403775523 := ()
def tw6773613298801779372 := ()
def tw5587078348360425115 := ()
def tw11217070782668456809 := ()
def tw15942889910227066602 := ()
def tw12715632111182050370 := ()
def tw4473324305156868272 := ()
def tw10410922284031851692 := ()
def tw10803735671718802205 := ()
def tw1418605034566793747 := ()
def tw46528447997364843 := ()
def tw11486326860922940487 := ()
def tw10627360166365839495 := ()
def tw2872678910761319141 := ()
def tw17522603612661039810 := ()
def tw9068668702655865819 := ()
def tw3613802641116705168 := ()
def tw11940982150998245776 := ()
def tw4802800406104288195 := ()
def tw7597088572256855830 := ()
def tw17027102922748192041 := ()
def tw4046434494809647586 := ()
def tw13410216780581853092 := ()
def tw1973675821058232784 := ()
def tw758260064353822827 := ()
def tw5547404935286348210 := ()
def tw13448364306590696166 := ()
def tw15316835326705190384 := ()
def tw3555108821673200878 := ()
def tw15492988773405978364 := ()
def tw9840706848404687079 := ()
def tw17603137179465255403 := ()
def tw17449385079213517055 := ()
def tw6219325068909923561 := ()
def tw12060332636261831007 := ()
def tw15603535295687977280 := ()
def tw9549318054635559222 := ()
def tw3359541120052904597 := ()
def tw8118910501193632906 := ()
def tw11395409739128829160 := ()
def tw9934534224897788505 := ()
def tw5150618076636868598 := ()
def tw17976625591957978668 := ()
def tw15596861346385830330 := ()
def tw10380761043041892628 := ()
def tw4147165745331878605 := ()
def tw1840380510455861340 := ()
def tw17516753025892018363 := ()
def tw2301572556059115148 := ()
def tw18032288156894472481 := ()
def tw8593619888041770904 := ()
def tw5148861966474455283 := ()
def tw6028757947555805854 := ()
def tw9388156116421082353 := ()
def tw12217365418561868085 := ()
def tw6704503194140220184 := ()
def tw6313448757566159265 := ()
def tw3200217371656249790 := ()
def tw12705785527428015809 := ()
def tw9842038696980927640 := ()
def tw10503468405291302098 := ()
def tw14074405332869473033 := ()
def tw6075564383196371479 := ()
def tw11936474992903007416 := ()
def tw17153013697524996856 := ()
def tw2620356455109414254 := ()
def tw9778376864733682043 := ()
def tw12790397257799690613 := ()
def tw12320154721349053585 := ()
def tw5964783898428011191 := ()
def tw6896632776204232129 := ()
def tw11313457764370310686 := ()
def tw16055713365604752224 := ()
def tw6218000200314120396 := ()
def tw1546168386478298518 := ()
def tw13421805988384978318 := ()
def tw402702649358037837 := ()
def tw2825170607017299516 := ()
def tw7929892273558384989 := ()
def tw16832011633025064910 := ()
def tw12544709663515463827 := ()
def tw12336253722599984500 := ()
def tw2439570323433167844 := ()
def tw8511170775466213888 := ()
def tw3078477144006604118 := ()
def tw9126532314104151702 := ()
def tw12980742230339063303 := ()
def tw4111982753719574956 := ()
def tw10226537304427028708 := ()
def tw10858228464852222349 := ()
def tw2293403890099177319 := ()
def tw11861411539025589965 := ()
def tw6683140566969682729 := ()
def tw11529976204763474394 := ()
def tw15113711507276552344 := ()
def tw13765924912407173982 := ()
def tw3053801464831950807 := ()
def tw17915173797118719099 := ()
def tw1345607560012340846 := ()
def tw6510385045479025584 := ()
def tw13579458576300005363 := ()
def tw10604360510298161725 := ()
def tw13273338303690039345 := ()
def tw13421658981412341860 := ()
def tw10679413510661358224 := ()
def tw16464609263827067909 := ()
def tw5206040373823764792 := ()
def tw17388041832412804465 := ()
def tw7550870798188463763 := ()
def tw8479116897760750529 := ()
def tw13634144243415957341 := ()
def tw14668515307892295375 := ()
def tw15356575180414582788 := ()
def tw5171568824381773828 := ()
def tw1284323739476890572 := ()
def tw13117840198237301991 := ()
def tw15793573491571159162 := ()
def tw15400167398745349506 := ()
def tw4448466348463403217 := ()
def tw14503217216724908541 := ()
def tw15614735590833477795 := ()
def tw11184758248448437836 := ()
def tw14385089203713940217 := ()
def tw14248002114826678271 := ()
def tw5439283324772132222 := ()
def tw14649712703167012008 := ()
def tw2183809737155520003 := ()
def tw13395908308139899685 := ()
def tw3780430079435104003 := ()
def tw14417223603951883405 := ()
def tw11103874526333970575 := ()
def tw791128656344688089 := ()
end PySem.W.Fast
open PySem PySem.W PyProof.Rows
set_option maxRecDepth 100000 in
set_option maxHeartbeats 0 in
theorem PySem.Challenge.cw_weirwatch_k11_what_is_one_holds : PySem.Challenge.rw_weirwatch_k11_what_is_one.Holds := by
  w_on; o_law; k_head; (case hw => w_witness2)
  k_fill
  refine L2.walk_ofK (l := PySem.Challenge.rw_weirwatch_k11_what_is_one) (n := 63) (k := 8) (x := "_law_script") (CX := L2.CX0) (sp := K11.spLaw) rfl (by decide) rfl ⟨rfl, by decide, by decide⟩ (fun w h Y => PySem.W.kIn_of Y) ?F ?S ?C
  case F =>
    intro w mg fa h KX G hmg
    have T : ∃ a : K11.Ad, K11.Tx (L2.KOf KX) mg a ∧ ∀ (s : Shared) (v : Value), BindsTo s a.d_law ⟨[v], []⟩ [("_law_script", v)] := by
      dsimp only [L2.KOf]
      refine' K11.tx_mk KX G ?tx_a11 ?tx_l11 ?tx_c11 ?tx_k11 ?tx_a12 ?tx_l12 ?tx_c12 ?tx_k12 ?tx_a13 ?tx_l13 ?tx_c13 ?tx_k13 ?tx_a14 ?tx_l14 ?tx_c14 ?tx_k14 ?tx_a15 ?tx_l15 ?tx_c15 ?tx_k15 ?tx_a16 ?tx_l16 ?tx_c16 ?tx_k16 ?tx_a17 ?tx_l17 ?tx_c17 ?tx_k17 ?tx_a18 ?tx_l18 ?tx_c18 ?tx_k18 ?tx_a19 ?tx_l19 ?tx_c19 ?tx_k19 ?tx_a20 ?tx_l20 ?tx_c20 ?tx_k20 ?tx_a21 ?tx_l21 ?tx_c21 ?tx_k21 ?tx_a22 ?tx_l22 ?tx_c22 ?tx_k22 ?tx_a41 ?tx_l41 ?tx_c41 ?tx_k41 ?tx_a44 ?tx_l44 ?tx_c44 ?tx_k44 ?tx_a45 ?tx_l45 ?tx_c45 ?tx_k45 ?tx_a46 ?tx_l46 ?tx_c46 ?tx_k46 ?tx_a50 ?tx_l50 ?tx_c50 ?tx_k50 ?tx_a51 ?tx_l51 ?tx_c51 ?tx_k51 ?tx_a52 ?tx_l52 ?tx_c52 ?tx_k52 ?tx_a53 ?tx_l53 ?tx_c53 ?tx_k53 ?tx_a54 ?tx_l54 ?tx_c54 ?tx_k54 ?tx_a55 ?tx_l55 ?tx_c55 ?tx_k55 ?tx_a56 ?tx_l56 ?tx_c56 ?tx_k56 ?tx_a57 ?tx_l57 ?tx_c57 ?tx_k57 ?tx_a58 ?tx_l58 ?tx_c58 ?tx_k58 ?tx_a59 ?tx_l59 ?tx_c59 ?tx_k59 ?tx_a60 ?tx_l60 ?tx_c60 ?tx_k60 ?tx_a61 ?tx_l61 ?tx_c61 ?tx_k61 ?tx_a62 ?tx_l62 ?tx_c62 ?tx_k62 ?tx_a63 ?tx_l63 ?tx_c63 ?tx_k63 ?tx_a64 ?tx_l64 ?tx_c64 ?tx_k64 ?tx_a65 ?tx_l65 ?tx_c65 ?tx_k65 ?tx_a66 ?tx_l66 ?tx_c66 ?tx_k66 ?tx_a67 ?tx_l67 ?tx_c67 ?tx_k67 ?tx_a68 ?tx_l68 ?tx_c68 ?tx_k68 ?tx_a69 ?tx_l69 ?tx_c69 ?tx_k69 ?tx_a70 ?tx_l70 ?tx_c70 ?tx_k70 ?tx_a71 ?tx_l71 ?tx_c71 ?tx_k71 ?tx_a72 ?tx_l72 ?tx_c72 ?tx_k72 ?tx_a73 ?tx_l73 ?tx_c73 ?tx_k73 ?tx_a74 ?tx_l74 ?tx_c74 ?tx_k74 ?tx_a75 ?tx_l75 ?tx_c75 ?tx_k75 ?tx_a76 ?tx_l76 ?tx_c76 ?tx_k76 ?tx_a77 ?tx_l77 ?tx_c77 ?tx_k77 ?tx_g0 ?tx_g1 ?tx_g2 ?tx_g3 ?tx_g4 ?tx_g5 ?tx_g6 ?tx_g7 ?tx_g8 ?tx_g9 ?tx_z0 ?tx_z1 ?tx_z2 ?tx_z3 ?tx_z4 ?tx_z5 ?tx_z6 ?tx_z7 ?tx_z8 ?tx_z9 ?tx_z10 ?tx_z11 ?tx_z12 ?tx_z13 ?tx_z14 ?tx_z15 ?tx_mc0 ?tx_mc1 ?tx_mc2 ?tx_mc3 ?tx_mc4 ?tx_mc5 ?tx_mc6 ?tx_mc7 ?tx_mc8 ?tx_mc9 ?tx_mc10 ?tx_mc11 ?tx_mc12 ?tx_mc13 ?tx_mc14 ?tx_mc15 ?tx_mc16 ?tx_mc17 ?tx_mc18 ?tx_a1 ?tx_l1 ?tx_c1 ?tx_k1 ?tx_a2 ?tx_l2 ?tx_c2 ?tx_k2 ?tx_a3 ?tx_l3 ?tx_c3 ?tx_k3 ?tx_a4 ?tx_l4 ?tx_c4 ?tx_k4 ?tx_a5 ?tx_l5 ?tx_c5 ?tx_k5 ?tx_a6 ?tx_l6 ?tx_c6 ?tx_k6 ?tx_a7 ?tx_l7 ?tx_c7 ?tx_k7 ?tx_a25 ?tx_l25 ?tx_c25 ?tx_k25 ?tx_a26 ?tx_l26 ?tx_c26 ?tx_k26 ?tx_a29 ?tx_l29 ?tx_c29 ?tx_k29 ?tx_a30 ?tx_l30 ?tx_c30 ?tx_k30 ?tx_a33 ?tx_l33 ?tx_c33 ?tx_k33 ?tx_a34 ?tx_l34 ?tx_c34 ?tx_k34 ?tx_a37 ?tx_l37 ?tx_c37 ?tx_k37 ?tx_a38 ?tx_l38 ?tx_c38 ?tx_k38 ?tx_a42 ?tx_l42 ?tx_c42 ?tx_k42 ?tx_a43 ?tx_l43 ?tx_c43 ?tx_k43 ?tx_a47 ?tx_l47 ?tx_c47 ?tx_k47 ?tx_lc1 ?tx_tl1 ?tx_al1 ?tx_na1_thing ?tx_lc2 ?tx_tl2 ?tx_al2 ?tx_na2_thing ?tx_lc3 ?tx_tl3 ?tx_al3 ?tx_na3_thing ?tx_lc4 ?tx_tl4 ?tx_al4 ?tx_na4_thing ?tx_lc5 ?tx_tl5 ?tx_al5 ?tx_lc6 ?tx_tl6 ?tx_al6 ?tx_lc7 ?tx_tl7 ?tx_al7 ?tx_na7_thing ?tx_pg12 ?tx_hd12 ?tx_po12 ?tx_sa12 ?tx_ya12 ?tx_yb12 ?tx_yc12 ?tx_yd12 ?tx_mk12 ?tx_mi12 ?tx_mf12 ?tx_mp12 ?tx_me12_settings ?tx_mn12_settings ?tx_mq12_settings ?tx_na12_marks ?tx_pg13 ?tx_hd13 ?tx_po13 ?tx_sa13 ?tx_ya13 ?tx_yb13 ?tx_yc13 ?tx_yd13 ?tx_mk13 ?tx_mi13 ?tx_mf13 ?tx_mp13 ?tx_me13_settings ?tx_mn13_settings ?tx_mq13_settings ?tx_na13_marks ?tx_pg14 ?tx_hd14 ?tx_po14 ?tx_sa14 ?tx_ya14 ?tx_yb14 ?tx_yc14 ?tx_yd14 ?tx_mk14 ?tx_mi14 ?tx_mf14 ?tx_mp14 ?tx_me14_settings ?tx_mn14_settings ?tx_mq14_settings ?tx_na14_marks ?tx_pg15 ?tx_hd15 ?tx_po15 ?tx_sa15 ?tx_ya15 ?tx_yb15 ?tx_yc15 ?tx_yd15 ?tx_mk15 ?tx_mi15 ?tx_mf15 ?tx_mp15 ?tx_me15_settings ?tx_mn15_settings ?tx_mq15_settings ?tx_na15_gate ?tx_na15_setting ?tx_pg16 ?tx_hd16 ?tx_po16 ?tx_sa16 ?tx_ya16 ?tx_yb16 ?tx_yc16 ?tx_yd16 ?tx_mk16 ?tx_mi16 ?tx_mf16 ?tx_mp16 ?tx_na16_name ?tx_na16_low ?tx_na16_high ?tx_na16_start ?tx_na16_rain ?tx_na16_gate ?tx_pg17 ?tx_hd17 ?tx_po17 ?tx_sa17 ?tx_ya17 ?tx_yb17 ?tx_yc17 ?tx_yd17 ?tx_mk17 ?tx_mi17 ?tx_mf17 ?tx_mp17 ?tx_na17_name ?tx_na17_basin ?tx_na17_want ?tx_pg18 ?tx_hd18 ?tx_po18 ?tx_sa18 ?tx_mk18 ?tx_mi18 ?tx_mf18 ?tx_mp18 ?tx_na18_cloud ?tx_na18_gain ?tx_na18_basins ?tx_na18_towns ?tx_ff_StepGate ?tx_ff_FlapGate ?tx_ff_PartGate ?tx_ff_StuckGate ?tx_ff_o_Basin ?tx_ff_o_Town ?tx_ff_b_StepGate ?tx_ff_b_FlapGate ?tx_ff_b_PartGate ?tx_ff_b_StuckGate ?tx_ff_f_StepGate ?tx_ff_f_FlapGate ?tx_ff_f_PartGate ?tx_ff_f_StuckGate ?tx_ff_x_NoStanding_NoChoice ?tx_ff_x_NoStanding_NoRain ?tx_ff_w_NoStanding ?tx_ff_v_NoStanding ?tx_ff_m_NoStanding_NoStanding
      (case tx_a11 => k_is)
      (case tx_l11 => k_is)
      (case tx_c11 => k_is)
      (case tx_k11 => k_is)
      (case tx_a12 => k_is)
      (case tx_l12 => k_is)
      (case tx_c12 => k_is)
      (case tx_k12 => k_is)
      (case tx_a13 => k_is)
      (case tx_l13 => k_is)
      (case tx_c13 => k_is)
      (case tx_k13 => k_is)
      (case tx_a14 => k_is)
      (case tx_l14 => k_is)
      (case tx_c14 => k_is)
      (case tx_k14 => k_is)
      (case tx_a15 => k_is)
      (case tx_l15 => k_is)
      (case tx_c15 => k_is)
      (case tx_k15 => k_is)
      (case tx_a16 => k_is)
      (case tx_l16 => k_is)
      (case tx_c16 => k_is)
      (case tx_k16 => k_is)
      (case tx_a17 => k_is)
      (case tx_l17 => k_is)
      (case tx_c17 => k_is)
      (case tx_k17 => k_is)
      (case tx_a18 => k_is)
      (case tx_l18 => k_is)
      (case tx_c18 => k_is)
      (case tx_k18 => k_is)
      (case tx_a19 => k_is)
      (case tx_l19 => k_is)
      (case tx_c19 => k_is)
      (case tx_k19 => k_is)
      (case tx_a20 => k_is)
      (case tx_l20 => k_is)
      (case tx_c20 => k_is)
      (case tx_k20 => k_is)
      (case tx_a21 => k_is)
      (case tx_l21 => k_is)
      (case tx_c21 => k_is)
      (case tx_k21 => k_is)
      (case tx_a22 => k_is)
      (case tx_l22 => k_is)
      (case tx_c22 => k_is)
      (case tx_k22 => k_is)
      (case tx_a41 => k_is)
      (case tx_l41 => k_is)
      (case tx_c41 => k_is)
      (case tx_k41 => k_is)
      (case tx_a44 => k_is)
      (case tx_l44 => k_is)
      (case tx_c44 => k_is)
      (case tx_k44 => k_is)
      (case tx_a45 => k_is)
      (case tx_l45 => k_is)
      (case tx_c45 => k_is)
      (case tx_k45 => k_is)
      (case tx_a46 => k_is)
      (case tx_l46 => k_is)
      (case tx_c46 => k_is)
      (case tx_k46 => k_is)
      (case tx_a50 => k_is)
      (case tx_l50 => k_is)
      (case tx_c50 => k_is)
      (case tx_k50 => k_is)
      (case tx_a51 => k_is)
      (case tx_l51 => k_is)
      (case tx_c51 => k_is)
      (case tx_k51 => k_is)
      (case tx_a52 => k_is)
      (case tx_l52 => k_is)
      (case tx_c52 => k_is)
      (case tx_k52 => k_is)
      (case tx_a53 => k_is)
      (case tx_l53 => k_is)
      (case tx_c53 => k_is)
      (case tx_k53 => k_is)
      (case tx_a54 => k_is)
      (case tx_l54 => k_is)
      (case tx_c54 => k_is)
      (case tx_k54 => k_is)
      (case tx_a55 => k_is)
      (case tx_l55 => k_is)
      (case tx_c55 => k_is)
      (case tx_k55 => k_is)
      (case tx_a56 => k_is)
      (case tx_l56 => k_is)
      (case tx_c56 => k_is)
      (case tx_k56 => k_is)
      (case tx_a57 => k_is)
      (case tx_l57 => k_is)
      (case tx_c57 => k_is)
      (case tx_k57 => k_is)
      (case tx_a58 => k_is)
      (case tx_l58 => k_is)
      (case tx_c58 => k_is)
      (case tx_k58 => k_is)
      (case tx_a59 => k_is)
      (case tx_l59 => k_is)
      (case tx_c59 => k_is)
      (case tx_k59 => k_is)
      (case tx_a60 => k_is)
      (case tx_l60 => k_is)
      (case tx_c60 => k_is)
      (case tx_k60 => k_is)
      (case tx_a61 => k_is)
      (case tx_l61 => k_is)
      (case tx_c61 => k_is)
      (case tx_k61 => k_is)
      (case tx_a62 => k_is)
      (case tx_l62 => k_is)
      (case tx_c62 => k_is)
      (case tx_k62 => k_is)
      (case tx_a63 => k_is)
      (case tx_l63 => k_is)
      (case tx_c63 => k_is)
      (case tx_k63 => k_is)
      (case tx_a64 => k_is)
      (case tx_l64 => k_is)
      (case tx_c64 => k_is)
      (case tx_k64 => k_is)
      (case tx_a65 => k_is)
      (case tx_l65 => k_is)
      (case tx_c65 => k_is)
      (case tx_k65 => k_is)
      (case tx_a66 => k_is)
      (case tx_l66 => k_is)
      (case tx_c66 => k_is)
      (case tx_k66 => k_is)
      (case tx_a67 => k_is)
      (case tx_l67 => k_is)
      (case tx_c67 => k_is)
      (case tx_k67 => k_is)
      (case tx_a68 => k_is)
      (case tx_l68 => k_is)
      (case tx_c68 => k_is)
      (case tx_k68 => k_is)
      (case tx_a69 => k_is)
      (case tx_l69 => k_is)
      (case tx_c69 => k_is)
      (case tx_k69 => k_is)
      (case tx_a70 => k_is)
      (case tx_l70 => k_is)
      (case tx_c70 => k_is)
      (case tx_k70 => k_is)
      (case tx_a71 => k_is)
      (case tx_l71 => k_is)
      (case tx_c71 => k_is)
      (case tx_k71 => k_is)
      (case tx_a72 => k_is)
      (case tx_l72 => k_is)
      (case tx_c72 => k_is)
      (case tx_k72 => k_is)
      (case tx_a73 => k_is)
      (case tx_l73 => k_is)
      (case tx_c73 => k_is)
      (case tx_k73 => k_is)
      (case tx_a74 => k_is)
      (case tx_l74 => k_is)
      (case tx_c74 => k_is)
      (case tx_k74 => k_is)
      (case tx_a75 => k_is)
      (case tx_l75 => k_is)
      (case tx_c75 => k_is)
      (case tx_k75 => k_is)
      (case tx_a76 => k_is)
      (case tx_l76 => k_is)
      (case tx_c76 => k_is)
      (case tx_k76 => k_is)
      (case tx_a77 => k_is)
      (case tx_l77 => k_is)
      (case tx_c77 => k_is)
      (case tx_k77 => k_is)
      (case tx_g0 => k_is)
      (case tx_g1 => k_is)
      (case tx_g2 => k_is)
      (case tx_g3 => k_is)
      (case tx_g4 => k_is)
      (case tx_g5 => k_is)
      (case tx_g6 => k_is)
      (case tx_g7 => k_is)
      (case tx_g8 => k_is)
      (case tx_g9 => k_is)
      (case tx_z0 => k_is)
      (case tx_z1 => k_is)
      (case tx_z2 => k_is)
      (case tx_z3 => k_is)
      (case tx_z4 => k_is)
      (case tx_z5 => k_is)
      (case tx_z6 => k_is)
      (case tx_z7 => k_is)
      (case tx_z8 => k_is)
      (case tx_z9 => k_is)
      (case tx_z10 => k_is)
      (case tx_z11 => k_is)
      (case tx_z12 => k_is)
      (case tx_z13 => k_is)
      (case tx_z14 => k_is)
      (case tx_z15 => k_is)
      (case tx_mc0 => k_is)
      (case tx_mc1 => k_is)
      (case tx_mc2 => k_is)
      (case tx_mc3 => k_is)
      (case tx_mc4 => k_is)
      (case tx_mc5 => k_is)
      (case tx_mc6 => k_is)
      (case tx_mc7 => k_is)
      (case tx_mc8 => k_is)
      (case tx_mc9 => k_is)
      (case tx_mc10 => k_is)
      (case tx_mc11 => k_is)
      (case tx_mc12 => k_is)
      (case tx_mc13 => k_is)
      (case tx_mc14 => k_is)
      (case tx_mc15 => k_is)
      (case tx_mc16 => k_is)
      (case tx_mc17 => k_is)
      (case tx_mc18 => k_is)
      (case tx_a1 => k_is)
      (case tx_l1 => k_is)
      (case tx_c1 => k_is)
      (case tx_k1 => k_is)
      (case tx_a2 => k_is)
      (case tx_l2 => k_is)
      (case tx_c2 => k_is)
      (case tx_k2 => k_is)
      (case tx_a3 => k_is)
      (case tx_l3 => k_is)
      (case tx_c3 => k_is)
      (case tx_k3 => k_is)
      (case tx_a4 => k_is)
      (case tx_l4 => k_is)
      (case tx_c4 => k_is)
      (case tx_k4 => k_is)
      (case tx_a5 => k_is)
      (case tx_l5 => k_is)
      (case tx_c5 => k_is)
      (case tx_k5 => k_is)
      (case tx_a6 => k_is)
      (case tx_l6 => k_is)
      (case tx_c6 => k_is)
      (case tx_k6 => k_is)
      (case tx_a7 => k_is)
      (case tx_l7 => k_is)
      (case tx_c7 => k_is)
      (case tx_k7 => k_is)
      (case tx_a25 => k_is)
      (case tx_l25 => k_is)
      (case tx_c25 => k_is)
      (case tx_k25 => k_is)
      (case tx_a26 => k_is)
      (case tx_l26 => k_is)
      (case tx_c26 => k_is)
      (case tx_k26 => k_is)
      (case tx_a29 => k_is)
      (case tx_l29 => k_is)
      (case tx_c29 => k_is)
      (case tx_k29 => k_is)
      (case tx_a30 => k_is)
      (case tx_l30 => k_is)
      (case tx_c30 => k_is)
      (case tx_k30 => k_is)
      (case tx_a33 => k_is)
      (case tx_l33 => k_is)
      (case tx_c33 => k_is)
      (case tx_k33 => k_is)
      (case tx_a34 => k_is)
      (case tx_l34 => k_is)
      (case tx_c34 => k_is)
      (case tx_k34 => k_is)
      (case tx_a37 => k_is)
      (case tx_l37 => k_is)
      (case tx_c37 => k_is)
      (case tx_k37 => k_is)
      (case tx_a38 => k_is)
      (case tx_l38 => k_is)
      (case tx_c38 => k_is)
      (case tx_k38 => k_is)
      (case tx_a42 => k_is)
      (case tx_l42 => k_is)
      (case tx_c42 => k_is)
      (case tx_k42 => k_is)
      (case tx_a43 => k_is)
      (case tx_l43 => k_is)
      (case tx_c43 => k_is)
      (case tx_k43 => k_is)
      (case tx_a47 => k_is)
      (case tx_l47 => k_is)
      (case tx_c47 => k_is)
      (case tx_k47 => k_is)
      (case tx_lc1 => k_is)
      (case tx_tl1 => kernel_rfl)
      (case tx_al1 => kernel_rfl)
      (case tx_na1_thing => k_is)
      (case tx_lc2 => k_is)
      (case tx_tl2 => kernel_rfl)
      (case tx_al2 => kernel_rfl)
      (case tx_na2_thing => k_is)
      (case tx_lc3 => k_is)
      (case tx_tl3 => kernel_rfl)
      (case tx_al3 => kernel_rfl)
      (case tx_na3_thing => k_is)
      (case tx_lc4 => k_is)
      (case tx_tl4 => kernel_rfl)
      (case tx_al4 => kernel_rfl)
      (case tx_na4_thing => k_is)
      (case tx_lc5 => k_is)
      (case tx_tl5 => kernel_rfl)
      (case tx_al5 => kernel_rfl)
      (case tx_lc6 => k_is)
      (case tx_tl6 => kernel_rfl)
      (case tx_al6 => kernel_rfl)
      (case tx_lc7 => k_is)
      (case tx_tl7 => kernel_rfl)
      (case tx_al7 => kernel_rfl)
      (case tx_na7_thing => k_is)
      (case tx_pg12 => k_is)
      (case tx_hd12 => k_is)
      (case tx_po12 => k_is)
      (case tx_sa12 => k_is)
      (case tx_ya12 => k_is)
      (case tx_yb12 => k_is)
      (case tx_yc12 => k_is)
      (case tx_yd12 => k_is)
      (case tx_mk12 => k_is)
      (case tx_mi12 => k_is)
      (case tx_mf12 => k_is)
      (case tx_mp12 => k_is)
      (case tx_me12_settings => k_is)
      (case tx_mn12_settings => k_is)
      (case tx_mq12_settings => k_is)
      (case tx_na12_marks => k_is)
      (case tx_pg13 => k_is)
      (case tx_hd13 => k_is)
      (case tx_po13 => k_is)
      (case tx_sa13 => k_is)
      (case tx_ya13 => k_is)
      (case tx_yb13 => k_is)
      (case tx_yc13 => k_is)
      (case tx_yd13 => k_is)
      (case tx_mk13 => k_is)
      (case tx_mi13 => k_is)
      (case tx_mf13 => k_is)
      (case tx_mp13 => k_is)
      (case tx_me13_settings => k_is)
      (case tx_mn13_settings => k_is)
      (case tx_mq13_settings => k_is)
      (case tx_na13_marks => k_is)
      (case tx_pg14 => k_is)
      (case tx_hd14 => k_is)
      (case tx_po14 => k_is)
      (case tx_sa14 => k_is)
      (case tx_ya14 => k_is)
      (case tx_yb14 => k_is)
      (case tx_yc14 => k_is)
      (case tx_yd14 => k_is)
      (case tx_mk14 => k_is)
      (case tx_mi14 => k_is)
      (case tx_mf14 => k_is)
      (case tx_mp14 => k_is)
      (case tx_me14_settings => k_is)
      (case tx_mn14_settings => k_is)
      (case tx_mq14_settings => k_is)
      (case tx_na14_marks => k_is)
      (case tx_pg15 => k_is)
      (case tx_hd15 => k_is)
      (case tx_po15 => k_is)
      (case tx_sa15 => k_is)
      (case tx_ya15 => k_is)
      (case tx_yb15 => k_is)
      (case tx_yc15 => k_is)
      (case tx_yd15 => k_is)
      (case tx_mk15 => k_is)
      (case tx_mi15 => k_is)
      (case tx_mf15 => k_is)
      (case tx_mp15 => k_is)
      (case tx_me15_settings => k_is)
      (case tx_mn15_settings => k_is)
      (case tx_mq15_settings => k_is)
      (case tx_na15_gate => k_is)
      (case tx_na15_setting => k_is)
      (case tx_pg16 => k_is)
      (case tx_hd16 => k_is)
      (case tx_po16 => k_is)
      (case tx_sa16 => k_is)
      (case tx_ya16 => k_is)
      (case tx_yb16 => k_is)
      (case tx_yc16 => k_is)
      (case tx_yd16 => k_is)
      (case tx_mk16 => k_is)
      (case tx_mi16 => k_is)
      (case tx_mf16 => k_is)
      (case tx_mp16 => k_is)
      (case tx_na16_name => k_is)
      (case tx_na16_low => k_is)
      (case tx_na16_high => k_is)
      (case tx_na16_start => k_is)
      (case tx_na16_rain => k_is)
      (case tx_na16_gate => k_is)
      (case tx_pg17 => k_is)
      (case tx_hd17 => k_is)
      (case tx_po17 => k_is)
      (case tx_sa17 => k_is)
      (case tx_ya17 => k_is)
      (case tx_yb17 => k_is)
      (case tx_yc17 => k_is)
      (case tx_yd17 => k_is)
      (case tx_mk17 => k_is)
      (case tx_mi17 => k_is)
      (case tx_mf17 => k_is)
      (case tx_mp17 => k_is)
      (case tx_na17_name => k_is)
      (case tx_na17_basin => k_is)
      (case tx_na17_want => k_is)
      (case tx_pg18 => k_is)
      (case tx_hd18 => k_is)
      (case tx_po18 => k_is)
      (case tx_sa18 => k_is)
      (case tx_mk18 => k_is)
      (case tx_mi18 => k_is)
      (case tx_mf18 => k_is)
      (case tx_mp18 => k_is)
      (case tx_na18_cloud => k_is)
      (case tx_na18_gain => k_is)
      (case tx_na18_basins => k_is)
      (case tx_na18_towns => k_is)
      (case tx_ff_StepGate => kernel_rfl)
      (case tx_ff_FlapGate => kernel_rfl)
      (case tx_ff_PartGate => kernel_rfl)
      (case tx_ff_StuckGate => kernel_rfl)
      (case tx_ff_o_Basin => kernel_rfl)
      (case tx_ff_o_Town => kernel_rfl)
      (case tx_ff_b_StepGate => kernel_rfl)
      (case tx_ff_b_FlapGate => kernel_rfl)
      (case tx_ff_b_PartGate => kernel_rfl)
      (case tx_ff_b_StuckGate => kernel_rfl)
      (case tx_ff_f_StepGate => kernel_rfl)
      (case tx_ff_f_FlapGate => kernel_rfl)
      (case tx_ff_f_PartGate => kernel_rfl)
      (case tx_ff_f_StuckGate => kernel_rfl)
      (case tx_ff_x_NoStanding_NoChoice => kernel_rfl)
      (case tx_ff_x_NoStanding_NoRain => kernel_rfl)
      (case tx_ff_w_NoStanding => kernel_rfl)
      (case tx_ff_v_NoStanding => kernel_rfl)
      (case tx_ff_m_NoStanding_NoStanding => kernel_rfl)
    obtain ⟨a, T, b⟩ := T
    have e := hmg.symm.trans T.f_law.mgx
    cases e
    exact ⟨a.d_law, b, fun base kb nb => K11.ok_law T⟩
  case S => exact fun K H a ns hl hO hS => ⟨a, ns, rfl, hS, hl, fun _ => rfl⟩
  case C => exact fun _ _ _ _ z => z
#print axioms PySem.Challenge.cw_weirwatch_k11_what_is_one_holds
