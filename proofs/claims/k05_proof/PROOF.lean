import PyProof.Rows.All
import Wide.All
import OpenK.AllK
import Wide.FinOn
import Lean
import PyProof.EqAt
import PyProof.EqKinds
import PyProof.TupleCall
import PySem.Challenge.RW_weirwatch_k05_rivers_made
set_option Elab.async false
set_option linter.all false
set_option maxRecDepth 100000
namespace L2
open PySem PySem.Spec PyProof.Rows
abbrev Key:=Sum Int Str
def Joe : Key → Value → Bool
 | .inl k,v=>Value.isInt k v
 | .inr x,v=>Value.isStrOf x v
def keyH (w : World) : Key → Int
 | .inl k=>hashInt k
 | .inr x=>hashStr w x
theorem Jgn : ∀ {k : Key} {v : Value},Joe k v = true → (∃ i t,k = Sum.inl i ∧ v = Value.int i t) ∨ (∃ x t,k = Sum.inr x ∧ v = Value.str x t)
 | .inl i,v,h=>by
  obtain ⟨t,e⟩:=Value.isInt_shape (k:=i) (v:=v) h
  exact .inl ⟨i,t,rfl,e⟩
 | .inr x,v,h=>by
  obtain ⟨t,e⟩:=Value.isStrOf_shape (x:=x) (v:=v) h
  exact .inr ⟨x,t,rfl,e⟩
theorem Jp3 (x : Str) (t : Tok) : Joe (.inr x) (.str x t) = true:=by simp [Joe,Value.isStrOf]
theorem key_ll (a b : Int) : decide ((Sum.inl a : Key) = Sum.inl b) = (a == b):=by
 by_cases e : a = b
 ·subst e; simp
 ·have h : ¬ (Sum.inl a : Key) = Sum.inl b:=fun q=>e (Sum.inl.inj q)
  rw [decide_eq_false h]
  exact (beq_eq_false_iff_ne.mpr e).symm
theorem key_rr (a b : Str) : decide ((Sum.inr a : Key) = Sum.inr b) = decide (a = b):=by
 by_cases e : a = b
 ·subst e; simp
 ·have h : ¬ (Sum.inr a : Key) = Sum.inr b:=fun q=>e (Sum.inr.inj q)
  rw [decide_eq_false h,decide_eq_false e]
theorem key_lr (a : Int) (b : Str) : decide ((Sum.inl a : Key) = Sum.inr b) = false:=decide_eq_false (fun q=>nomatch q)
theorem key_rl (a : Str) (b : Int) : decide ((Sum.inr a : Key) = Sum.inl b) = false:=decide_eq_false (fun q=>nomatch q)
def Jgr (prog : Program) (w : World) : PySem.KeyKind prog w Key where
 is:=Joe
 hash:=keyH w
 inj:=fun v a b ha hb=>by
  rcases Jgn ha with ⟨i,t,rfl,rfl⟩ | ⟨x,t,rfl,rfl⟩
  ·rcases Jgn hb with ⟨j,u,rfl,e⟩ | ⟨y,u,rfl,e⟩
   ·injection e with e1 _; rw [e1]
   ·exact nomatch e
  ·rcases Jgn hb with ⟨j,u,rfl,e⟩ | ⟨y,u,rfl,e⟩
   ·exact nomatch e
   ·injection e with e1 _; rw [e1]
 byValue:=fun k v h=>by
  rcases Jgn h with ⟨i,t,rfl,rfl⟩ | ⟨x,t,rfl,rfl⟩ <;> rfl
 pyHash:=fun hv h=>by
  rcases Jgn hv with ⟨i,t,rfl,rfl⟩ | ⟨x,t,rfl,rfl⟩
  ·exact wpAny_pyHash_int h
  ·exact wpAny_pyHash_str h
 eqBool:=fun hu hv h=>by
  rcases Jgn hu with ⟨i,t,rfl,rfl⟩ | ⟨x,t,rfl,rfl⟩
  ·rcases Jgn hv with ⟨j,u,rfl,rfl⟩ | ⟨y,u,rfl,rfl⟩
   ·rw [key_ll] at h; exact wpAny_eqBool_int h
   ·rw [key_lr] at h; exact SeqAt.EqAt.int_str i t y u _ _ _ _ h
  ·rcases Jgn hv with ⟨j,u,rfl,rfl⟩ | ⟨y,u,rfl,rfl⟩
   ·rw [key_rl] at h; exact SeqAt.EqAt.str_int x t j u _ _ _ _ h
   ·rw [key_rr] at h; exact wpAny_eqBool_str h
 «strs»:=fun k x t v h=>by
  rcases Jgn h with ⟨i,u,rfl,e⟩ | ⟨y,u,rfl,e⟩
  ·exact nomatch e
  ·injection e with e1 _
   subst e1
   cases v <;> rfl
theorem Jkg (prog : Program) (w : World) (x : Str) (t : Tok) : (Jgr prog w).is (.inr x) (.str x t) = true:=Jp3 x t
end L2
namespace L2
open PySem PySem.Spec PyProof.Rows
inductive V where
 | non | bl (b : Bool) | int (i : Int) | str (x : Str) | byt (b : Array UInt8) | flt (b : UInt64) | ref (a : Addr) | ty (n : String)
 deriving DecidableEq
def RelV : V → Value → Prop
 | .non,u=>u = Value.none
 | .bl b,u=>u = Value.bool b
 | .int i,u=>∃ t,u = Value.int i t
 | .str x,u=>∃ t,u = Value.str x t
 | .byt b,u=>∃ t,u = Value.bytes b t
 | .flt b,u=>∃ t,u = Value.float b t
 | .ref a,u=>u = Value.ref a
 | .ty n,u=>u = Value.type n
abbrev Vals : List V → List Value → Prop:=Paired RelV
theorem Vals.length {xs : List V} {us : List Value} (r : Vals xs us) : xs.length = us.length:=Paired.length r
theorem Vals.get : ∀ {xs : List V} {us : List Value} {i : Nat} {x : V},Vals xs us → xs[i]? = some x → ∃ u,us[i]? = some u ∧ RelV x u
 | _,_,_,_,.nil,e=>by simp at e
 | _,_,0,_,.cons r _,e=>by simp at e; subst e; exact ⟨_,rfl,r⟩
 | _,_,i + 1,x,.cons _ t,e=>by
  obtain ⟨u,h1,h2⟩:=Vals.get (i:=i) (x:=x) t (by simpa using e)
  exact ⟨u,by simpa using h1,h2⟩
theorem Vals.set {x : V} {u : Value} (r : RelV x u) : ∀ {xs : List V} {us : List Value} (i : Nat),Vals xs us → Vals (xs.set i x) (us.set i u)
 | _,_,_,.nil=>.nil
 | _,_,0,.cons _ t=>.cons r t
 | _,_,i + 1,.cons q t=>.cons q (Vals.set r i t)
theorem Vals.append : ∀ {xs ys : List V} {us ws : List Value},Vals xs us → Vals ys ws → Vals (xs ++ ys) (us ++ ws)
 | _,_,_,_,.nil,s=>s
 | _,_,_,_,.cons r t,s=>.cons r (Vals.append t s)
theorem Vals.take : ∀ {xs : List V} {us : List Value} (n : Nat),Vals xs us → Vals (xs.take n) (us.take n)
 | _,_,0,_=>.nil
 | _,_,_ + 1,.nil=>.nil
 | _,_,n + 1,.cons r t=>.cons r (Vals.take n t)
theorem Vals.drop : ∀ {xs : List V} {us : List Value} (n : Nat),Vals xs us → Vals (xs.drop n) (us.drop n)
 | _,_,0,r=>r
 | _,_,_ + 1,.nil=>.nil
 | _,_,n + 1,.cons _ t=>Vals.drop n t
def RelO : Option V → Option Value → Prop
 | some v,some u=>RelV v u
 | none,none=>True
 | _,_=>False
def KV {κ : Type} : List (κ × V) → List (κ × Value) → Prop:=Paired fun (p : κ × V) (q : κ × Value)=>p.1 = q.1 ∧ RelV p.2 q.2
def kV : Key → V
 | .inl i=>.int i
 | .inr x=>.str x
inductive HO where
 | lst (xs : List V)
 | tup (xs : List V)
 | dK (kvs : List (Key × V)) | dT (kvs : List (List Key × V))
 | set (S : Int → Bool) (n : Nat)
 | ins (C dx : Addr) (fs : List (Str × V))
 | own (x : Addr)
 | xd (fs : List (Str × V))
 | met (f x : Addr)
 | rng (lo hi : Int)
 | frz (o : Obj) (u : HO)
 | tbl (ps : Array Value)
 | ext (φ : Heap → Prop)
abbrev Hp:=Addr → Option HO
def upd (H : Hp) (a : Addr) (o : HO) : Hp:=fun b=>if b = a then some o else H b
theorem Jfj {H : Hp} {a : Addr} {o : HO} : upd H a o a = some o:=by unfold upd; rw [if_pos rfl]
theorem Jfp {H : Hp} {a b : Addr} {o : HO} (h : b ≠ a) : upd H a o b = H b:=by unfold upd; rw [if_neg h]
theorem Ji1 {H : Hp} {a : Addr} {o u : HO} : upd (upd H a o) a u = upd H a u:=by
 funext b; unfold upd; split <;> rfl
theorem Jfo {H : Hp} {a b : Addr} {o : HO} (h : H a = some o) (h' : H b = none) : a ≠ b:=by
 intro e; subst e; rw [h] at h'; cases h'
section
variable (P : Program) (w : World)
def ObjOk (H : Hp) (h : Heap) (a : Addr) : HO → Prop
 | .lst xs=>xs.length ≤ sizeLine ∧ ∃ (its : List Value) (n : Nat),Vals xs its ∧ h.get? a = some { cls:=.type "list",data:=.seq its.toArray n }
 | .tup xs=>xs.length ≤ sizeLine ∧ ∃ its : List Value,Vals xs its ∧ IsTup h a its.toArray
 | .dK kvs=>kvs.length ≤ sizeLine ∧ (a == sysModules) = false ∧ ∃ vs,KV kvs vs ∧ h.DictOf (Jgr P w) a vs
 | .dT kvs=>kvs.length ≤ sizeLine ∧ (a == sysModules) = false ∧ ∃ xs : List (List Key × Addr × Value),
   Paired (fun (p : List Key × V) (q : List Key × Addr × Value)=>p.1 = q.1 ∧ H q.2.1 = some (.tup (p.1.map kV)) ∧ RelV p.2 q.2.2) kvs xs ∧
   ∃ o es ep,h.get? a = some o ∧ o.ExactDict ∧ o.data = .dict es ep ∧ es.toList = xs.map (entryOfKey (tupleKind (Jgr P w))) ∧ (xs.map (·.1)).Nodup
 | .set S n=>h.SetOf (intKind P w) a S n
 | .ins C dx fs=>H dx = some (.own a) ∧ fs.length ≤ 1000 ∧ dx ≠ a ∧ h.get? a = some (PySem.W.instObj C dx) ∧
   ∃ mA,h.Ns1 dx mA ∧ (∀ f,RelO (fs.lookup f) (mA f)) ∧ PySem.Within mA (fs.map (·.1))
 | .own _=>∃ o,h.get? a = some o
 | .xd fs=>∃ mA,h.Ns1 a mA ∧ ∀ f,RelO (fs.lookup f) (mA f)
 | .rng lo hi=>∃ t u v,h.get? a = some { cls:=.type "range",data:=.fields #[.int lo t,.int hi u,.int 1 v] }
 | .frz o u=>h.get? a = some o ∧ ObjOk H h a u
 | .tbl ps=>h.get? a = some { cls:=.none,data:=.fields ps }
 | .met f x=>h.get? a = some (PySem.W.methodObj (.ref f) (.ref x))
 | .ext φ=>φ h ∧ (∃ o,h.get? a = some o) ∧ ∀ h1 h2 : Heap,φ h1 → (∀ o,h1.get? a = some o → h2.get? a = some o) → φ h2
def HOk (H : Hp) (h : Heap) : Prop:=∀ a o,H a = some o → ObjOk P w H h a o
end
section
variable {P : Program} {w : World} {H H' : Hp} {h h' : Heap} {a : Addr} {o : HO}
theorem ObjOk.lt (x : ObjOk P w H h a o) : a < h.objs.size:=by
 cases o with
 | lst xs=>obtain ⟨_,_,_,_,e⟩:=x; exact Heap.lt_size e
 | tup xs=>obtain ⟨_,_,_,p⟩:=x; exact p.lt
 | dK kvs=>obtain ⟨_,_,_,_,o,_,_,e,_⟩:=x; exact Heap.lt_size e
 | dT kvs=>obtain ⟨_,_,_,_,o,_,_,e,_⟩:=x; exact Heap.lt_size e
 | set S n=>obtain ⟨o,_,_,_,e,_⟩:=x; exact Heap.lt_size e
 | ins C dx fs=>obtain ⟨_,_,_,e,_⟩:=x; exact Heap.lt_size e
 | own y=>obtain ⟨_,e⟩:=x; exact Heap.lt_size e
 | xd fs=>obtain ⟨_,⟨_,_,_,e,_⟩,_⟩:=x; exact Heap.lt_size e
 | rng lo hi=>obtain ⟨_,_,_,e⟩:=x; exact Heap.lt_size e
 | frz ob u=>obtain ⟨e,_⟩:=x; exact Heap.lt_size e
 | tbl ps=>exact Heap.lt_size (show h.get? a = some _ from x)
 | met f y=>exact Heap.lt_size (show h.get? a = some _ from x)
 | ext φ=>obtain ⟨_,⟨_,e⟩,_⟩:=x; exact Heap.lt_size e
theorem Paired.mapP {α β : Type} {F G : α → β → Prop} : ∀ {l₁ : List α} {l₂ : List β},Paired F l₁ l₂ → (∀ a b,F a b → G a b) → Paired G l₁ l₂
 | _,_,.nil,_=>.nil
 | _,_,.cons r t,f=>.cons (f _ _ r) (Paired.mapP t f)
theorem ObjOk.stay (x : ObjOk P w H h a o) (k : ∀ b u,(b = a ∨ H b = some (.own a)) → h.get? b = some u → h'.get? b = some u)
  (ho : ∀ b,H b = some (.own a) → H' b = some (.own a)) (ht : ∀ b xs,H b = some (.tup xs) → H' b = some (.tup xs)) : ObjOk P w H' h' a o:=by
 induction o with
 | lst xs=>obtain ⟨z,its,n,r,e⟩:=x; exact ⟨z,its,n,r,k _ _ (.inl rfl) e⟩
 | tup xs=>obtain ⟨z,its,r,ob,e,c⟩:=x; exact ⟨z,its,r,ob,k _ _ (.inl rfl) e,c⟩
 | dK kvs=>obtain ⟨z,y,vs,r,ob,es,ep,e,c⟩:=x; exact ⟨z,y,vs,r,ob,es,ep,k _ _ (.inl rfl) e,c⟩
 | dT kvs =>
  obtain ⟨z,y,xs,r,ob,es,ep,e,c⟩:=x
  exact ⟨z,y,xs,Paired.mapP r fun p q z=>⟨z.1,ht _ _ z.2.1,z.2.2⟩,ob,es,ep,k _ _ (.inl rfl) e,c⟩
 | set S n=>obtain ⟨ob,es,ep,t,e,c⟩:=x; exact ⟨ob,es,ep,t,k _ _ (.inl rfl) e,c⟩
 | ins C dx fs =>
  obtain ⟨d,z,ne,e,mA,⟨od,es,ep,e2,c⟩,r⟩:=x
  exact ⟨ho _ d,z,ne,k _ _ (.inl rfl) e,mA,⟨od,es,ep,k _ _ (.inr d) e2,c⟩,r⟩
 | own y=>obtain ⟨ob,e⟩:=x; exact ⟨ob,k _ _ (.inl rfl) e⟩
 | xd fs=>obtain ⟨mA,⟨od,es,ep,e,c⟩,r⟩:=x; exact ⟨mA,⟨od,es,ep,k _ _ (.inl rfl) e,c⟩,r⟩
 | rng lo hi=>obtain ⟨t,u,v,e⟩:=x; exact ⟨t,u,v,k _ _ (.inl rfl) e⟩
 | frz ob u ih=>obtain ⟨e,q⟩:=x; exact ⟨k _ _ (.inl rfl) e,ih q⟩
 | tbl ps =>
  have e : h.get? a = some { cls:=.none,data:=.fields ps }:=x
  show h'.get? a = some { cls:=.none,data:=.fields ps }
  exact k a _ (.inl rfl) e
 | met f y =>
  have e : h.get? a = some (PySem.W.methodObj (.ref f) (.ref y)):=x
  show h'.get? a = some (PySem.W.methodObj (.ref f) (.ref y))
  exact k a _ (.inl rfl) e
 | ext φ=>obtain ⟨p,⟨o,e⟩,st⟩:=x; exact ⟨st _ _ p fun o q=>k _ _ (.inl rfl) q,⟨o,k _ _ (.inl rfl) e⟩,st⟩
theorem HOk.lt (x : HOk P w H h) (e : H a = some o) : a < h.objs.size:=(x a o e).lt
theorem HOk.fresh (x : HOk P w H h) (e : h.objs.size ≤ a) : H a = none:=by
 cases q : H a with
 | none=>rfl
 | some u=>exact absurd (Nat.lt_of_lt_of_le (x.lt q) e) (Nat.lt_irrefl _)
theorem HOk.kept (x : HOk P w H h) (k : ∀ b u,h.get? b = some u → h'.get? b = some u) : HOk P w H h':=fun a o e =>
 (x a o e).stay (fun b u _ q=>k b u q) (fun _ q=>q) fun _ _ q=>q
theorem HOk.laid (x : HOk P w H h) (k : ∀ b u,h.get? b = some u → h'.get? b = some u) (hp : h.objs.size ≤ a) (new : ObjOk P w (upd H a o) h' a o) : HOk P w (upd H a o) h':=fun b u e=>by
 have hn:=x.fresh hp
 by_cases hb : b = a
 ·subst hb; rw [Jfj] at e; cases e; exact new
 ·rw [Jfp hb] at e
  exact (x b u e).stay (fun c v _ q=>k c v q) (fun c q=>by rw [Jfp (Jfo q hn)]; exact q) fun c xs q=>by rw [Jfp (Jfo q hn)]; exact q
end
def Rd (H : Hp) (a : Addr) (u : HO) : Prop:=H a = some u ∨ ∃ o,H a = some (.frz o u)
theorem Rd.ok {P : Program} {w : World} {H : Hp} {h : Heap} {a : Addr} {u : HO} (r : Rd H a u) (x : HOk P w H h) : ObjOk P w H h a u:=by
 rcases r with r | ⟨o,r⟩
 ·exact x a u r
 ·obtain ⟨_,q⟩:=x a _ r
  exact q
def Mut : Option HO → Prop
 | some (.lst _)=>True
 | some (.dK _)=>True
 | some (.dT _)=>True
 | some (.set _ _)=>True
 | some (.ins _ _ _)=>True
 | some (.ext _)=>True
 | _=>False
section
variable {P : Program} {w : World} {H : Hp} {h h' : Heap} {x e : Addr} {o' : HO}
theorem HOk.write (ok : HOk P w H h) (mu : Mut (H x)) (he : e = x ∨ H e = some (.own x)) (k : ∀ b u,b ≠ e → h.get? b = some u → h'.get? b = some u) (heo : ∃ u,h'.get? e = some u)
  (new : ObjOk P w (upd H x o') h' x o') : HOk P w (upd H x o') h':=fun b u q=>by
 have nown : ∀ c y,H c = some (.own y) → c ≠ x:=fun c y r z=>by subst z; rw [r] at mu; exact mu
 have ntup : ∀ c xs,H c = some (.tup xs) → c ≠ x:=fun c xs r z=>by subst z; rw [r] at mu; exact mu
 by_cases hb : b = x
 ·subst hb; rw [Jfj] at q; cases q; exact new
 ·rw [Jfp hb] at q
  by_cases hbe : b = e
  ·have q' : H b = some (.own x):=by
    rcases he with z | z
    ·exact absurd (hbe.trans z) hb
    ·rw [hbe]; exact z
   rw [q] at q'; cases q'
   obtain ⟨v,hv⟩:=heo
   exact ⟨v,by rw [hbe]; exact hv⟩
  ·refine (ok b u q).stay (fun c v hc r=>k c v ?_ r) (fun c r=>by rw [Jfp (nown c b r)]; exact r) fun c xs r=>by rw [Jfp (ntup c xs r)]; exact r
   rcases hc with rfl | hc
   ·exact hbe
   ·rintro rfl
    rcases he with z | z
    ·exact nown c b hc z
    ·rw [hc] at z; cases z; exact hb rfl
end
structure Un (fs ex : List Addr) (H H' : Hp) (h h' : Heap) : Prop where
 keep : ∀ b o,h.get? b = some o → H b = none → b ∉ fs → b ∉ ex → h'.get? b = some o
 slot : ∀ b o,h.get? b = some o → H b = none → b ∈ fs → b ∉ ex → ∃ sl,h'.get? b = some { o with slots:=sl }
 free : ∀ b o,h.get? b = some o → H b = none → b ∉ ex → H' b = none
 there : ∀ b o,h.get? b = some o → b ∉ ex → ∃ o', h'.get? b = some o'
 tups : ∀ b xs,H b = some (.tup xs) → H' b = some (.tup xs)
 frzs : ∀ b o u,H b = some (.frz o u) → H' b = some (.frz o u)
 tbls : ∀ b ps,H b = some (.tbl ps) → ∃ more,H' b = some (.tbl (ps ++ more))
section
variable {fs fs' ex ex' : List Addr} {H H1 H2 : Hp} {h h1 h2 h' : Heap} {a x e : Addr} {o : HO}
theorem Un.any (u : Un fs ex H H1 h h1) {b : Addr} {ob : Obj} (q : h.get? b = some ob) (n : H b = none) (hx : b ∉ ex) : ∃ sl,h1.get? b = some { ob with slots:=sl }:=by
 by_cases hb : b ∈ fs
 ·exact u.slot b ob q n hb hx
 ·exact ⟨ob.slots,u.keep b ob q n hb hx⟩
theorem Un.trans (a : Un fs ex H H1 h h1) (b : Un fs ex H1 H2 h1 h2) : Un fs ex H H2 h h2 where
 keep:=fun c ob q n hc hx=>b.keep c ob (a.keep c ob q n hc hx) (a.free c ob q n hx) hc hx
 slot:=fun c ob q n hc hx=>by
  obtain ⟨sl,e1⟩:=a.slot c ob q n hc hx
  obtain ⟨sl', e2⟩:=b.slot c _ e1 (a.free c ob q n hx) hc hx
  exact ⟨sl', e2⟩
 free:=fun c ob q n hx=>by
  obtain ⟨o', e1⟩:=a.there c ob q hx
  exact b.free c o' e1 (a.free c ob q n hx) hx
 there:=fun c ob q hx=>by
  obtain ⟨o', e1⟩:=a.there c ob q hx
  exact b.there c o' e1 hx
 tups:=fun c xs q=>b.tups c xs (a.tups c xs q)
 frzs:=fun c ob xs q=>b.frzs c ob xs (a.frzs c ob xs q)
 tbls:=fun c ps q=>by
  obtain ⟨m1,e1⟩:=a.tbls c ps q
  obtain ⟨m2,e2⟩:=b.tbls c _ e1
  exact ⟨m1 ++ m2,by rw [e2,Array.append_assoc]⟩
theorem Un.kept (k : ∀ b u,h.get? b = some u → h'.get? b = some u) : Un fs ex H H h h' :=
 ⟨fun b ob q _ _ _=>k b ob q,fun b ob q _ _ _=>⟨ob.slots,k b ob q⟩,fun _ _ _ n _=>n,fun b ob q _=>⟨ob,k b ob q⟩,fun _ _ q=>q,fun _ _ _ q=>q,fun _ ps q=>⟨#[],by rw [q]; simp⟩⟩
theorem Un.refl : Un fs ex H H h h:=Un.kept fun _ _ q=>q
theorem Un.laid (k : ∀ b u,h.get? b = some u → h'.get? b = some u) (hp : h.objs.size ≤ a) (hn : H a = none) : Un fs ex H (upd H a o) h h' where
 keep:=fun b u q _ _ _=>k b u q
 slot:=fun b u q _ _ _=>⟨u.slots,k b u q⟩
 free:=fun b u q n _=>by rw [Jfp (Nat.ne_of_lt (Nat.lt_of_lt_of_le (Heap.lt_size q) hp))]; exact n
 there:=fun b u q _=>⟨u,k b u q⟩
 tups:=fun b xs q=>by rw [Jfp (Jfo q hn)]; exact q
 frzs:=fun b u xs q=>by rw [Jfp (Jfo q hn)]; exact q
 tbls:=fun b ps q=>⟨#[],by rw [Jfp (Jfo q hn),q]; simp⟩
theorem Un.write (mu : Mut (H x)) (he : e = x ∨ H e = some (.own x)) (k : ∀ b u,b ≠ e → h.get? b = some u → h'.get? b = some u) (heo : ∃ u,h'.get? e = some u) : Un fs ex H (upd H x o) h h':=by
 have hx : ∀ b,H b = none → b ≠ x:=fun b n z=>by subst z; rw [n] at mu; exact mu
 have hb : ∀ b,H b = none → b ≠ e:=fun b n z=>by
  subst z
  rcases he with r | r
  ·exact hx b n r
  ·rw [n] at r; cases r
 have hm : ∀ b u,H b = some u → ¬ Mut (some u) → b ≠ x:=fun b u q nm z=>by subst z; rw [q] at mu; exact nm mu
 refine ⟨fun b u q n _ _=>k b u (hb b n) q,fun b u q n _ _=>⟨u.slots,k b u (hb b n) q⟩,fun b u q n _=>by rw [Jfp (hx b n)]; exact n,fun b u q _=>?_,
  fun b xs q=>by rw [Jfp (hm b _ q fun z=>z)]; exact q,fun b u xs q=>by rw [Jfp (hm b _ q fun z=>z)]; exact q,fun b ps q=>⟨#[],by rw [Jfp (hm b _ q fun z=>z),q]; simp⟩⟩
 by_cases hbe : b = e
 ·subst hbe; exact heo
 ·exact ⟨u,k b u hbe q⟩
end
def trk (h : Heap) (H : Hp) : List Addr:=(List.range h.objs.size).filter fun a=>(H a).isSome
def Jmg (h : Heap) (H : Hp) : Heap:=PySem.W.hideAll h (trk h H)
theorem Jp1 (h : Heap) (H : Hp) : (Jmg h H).objs.size = h.objs.size:=PySem.W.hideAll_size _ _
theorem Jq2 {h : Heap} {H : Hp} {b : Addr} {o : Obj} (e : h.get? b = some o) (n : H b = none) : (Jmg h H).get? b = some o :=
 PySem.W.hideAll_get _ e fun hm=>by
  have q : (H b).isSome = true:=(List.mem_filter.mp hm).2
  rw [n] at q; simp at q
theorem Jrj {h : Heap} {H : Hp} {b : Addr} {o : Obj} (e : (Jmg h H).get? b = some o) : h.get? b = some o ∧ H b = none:=by
 have e' : h.get? b = some o:=PySem.W.of_hideAll (trk h H) e
 refine ⟨e', ?_⟩
 cases q : H b with
 | none=>rfl
 | some x =>
  have hm : b ∈ trk h H:=List.mem_filter.mpr ⟨List.mem_range.mpr (Heap.lt_size e'),by simp [q]⟩
  have z : (Jmg h H).get? b = none:=PySem.W.hideAll_none (trk h H) hm
  rw [z] at e; cases e
end L2
namespace L2
open PySem PySem.Spec PyProof.Rows
structure Mod (K : PySem.W.Frag) (mg : Str → Option Value) (base : Heap) : Prop where
 kin : K.In base
 glob : base.Ns mainGlobals mg
 blt : ∃ mb,base.Ns builtinsNs mb ∧ ∀ x : Str,x ≠ "__name__" → mb x = bootBuiltins x
 nolimit : base.NoLimit
structure Cx where
 prog : Program
 w : World
 K : PySem.W.Frag
 mg : Str → Option Value
 base : Heap
 A : Around
 N : List Str
 s₀ : Shared
 H₀ : Hp
 env : Env
 outer : List Env
 stack : List Env
 ex : List Addr
 fn : Str → Bool
 calm : Bool
 pn : List (Addr × Obj)
 xe : Value → Shared → Prop
def frs (l : List Env) : List Addr:=l.filterMap (·.frame)
abbrev Cx.fs (X : Cx) : List Addr:=frs X.outer
def Vis (sc : Scope) (x : Str) : Prop:=sc.names.lookup x = some .local ∨ sc.names.lookup x = some .cell ∨ sc.names.lookup x = some .free
def Loc (sc : Scope) (x : Str) : Prop:=sc.names.lookup x = some .local ∨ sc.names.lookup x = some .cell
def Look (env : Env) (h : Heap) (m : Str → Option Value) (x : Str) (u : Value) : Prop :=
 (env.kindOf x = some .local ∧ m x = some u) ∨ ((env.kindOf x = some .cell ∨ env.kindOf x = some .free) ∧ ∃ c,env.cells.lookup x = some c ∧ h.IsCell c (some u))
structure Cx.Ok (X : Cx) : Prop where
 mod : Mod X.K X.mg X.base
 kind : X.env.scope.kind = .function
 glob : X.env.globals = mainGlobals
 blt : X.env.builtins = builtinsNs
 above : X.s₀.heap.objs.size ≤ X.env.locals
 inj : ∀ x y c,X.env.cells.lookup x = some c → X.env.cells.lookup y = some c → x = y
 has : ∀ x,(X.env.kindOf x = some .cell ∨ X.env.kindOf x = some .free) → ∃ c,X.env.cells.lookup x = some c
 cab : ∀ x c,X.fn x = true → X.env.cells.lookup x = some c → X.s₀.heap.objs.size ≤ c
 hd : X.calm = true → X.A.handled = none
 frames : X.A.frames = some X.stack
 stk : X.stack = X.outer ∨ (X.stack = X.env :: X.outer ∧ X.env.frame = some X.env.locals)
 exf : ∀ b ∈ X.ex,b ≠ X.env.locals ∧ ∀ x c,X.env.cells.lookup x = some c → c ≠ b
 bs : ∀ b o,X.base.get? b = some o → X.s₀.heap.get? b = some o ∧ X.H₀ b = none
 bsz : X.base.objs.size ≤ X.s₀.heap.objs.size
 noex : ∀ b o,X.base.get? b = some o → b ∉ X.ex
 exfs : ∀ b ∈ X.ex,b ∉ X.fs
 funs : X.s₀.heap.FunFrames X.base X.outer
 frf : ∀ b ∈ X.fs,X.H₀ b = none
structure Inv (X : Cx) (pins : List (Addr × Obj)) (σ : List (Option V)) (H : Hp) (s : Shared) : Prop where
 ok : X.Ok
 os : s.os = X.s₀.os
 bare : AllBare s.gens
 base : Un X.fs X.ex X.H₀ H X.s₀.heap s.heap
 loc : ∃ m,s.heap.Ns X.env.locals m ∧ ∀ (i : Nat) (x : Str) (v : V),X.N[i]? = some x → σ[i]? = some (some v) → Vis X.env.scope x → ∃ u,RelV v u ∧ Look X.env s.heap m x u
 cell : ∀ x c,X.env.cells.lookup x = some c → ∃ v,s.heap.IsCell c v
 free : H X.env.locals = none
 freeC : ∀ x c,X.env.cells.lookup x = some c → H c = none
 pin : ∀ p ∈ X.pn ++ pins,s.heap.get? p.1 = some p.2 ∧ H p.1 = none ∧ p.1 ≠ X.env.locals ∧ p.1 ∉ X.fs ∧ ∀ v,p.2.data ≠ .cell v
 hok : HOk X.prog X.w H s.heap
 len : σ.length = X.N.length
section
variable {X : Cx} {pins : List (Addr × Obj)} {σ : List (Option V)} {H H' : Hp} {s : Shared} {h' : Heap}
theorem Cx.Ok.nofr (ok : X.Ok) {b : Addr} {o : Obj} (e : X.base.get? b = some o) : b ∉ X.fs:=fun hb=>by
 have:=(ok.funs.mem hb).1
 rw [e] at this; cases this
theorem Inv.bs (I : Inv X pins σ H s) : ∀ b o,X.base.get? b = some o → s.heap.get? b = some o ∧ H b = none:=fun b o e =>
 ⟨I.base.keep b o (I.ok.bs b o e).1 (I.ok.bs b o e).2 (I.ok.nofr e) (I.ok.noex b o e),I.base.free b o (I.ok.bs b o e).1 (I.ok.bs b o e).2 (I.ok.noex b o e)⟩
theorem Inv.bk (I : Inv X pins σ H s) : ∀ b o,X.base.get? b = some o → s.heap.get? b = some o:=fun b o e=>(I.bs b o e).1
theorem Inv.mod (I : Inv X pins σ H s) : Mod X.K X.mg X.base:=I.ok.mod
theorem Inv.kIn (I : Inv X pins σ H s) : X.K.In s.heap:=I.ok.mod.kin.keeps I.bk
theorem Inv.lt (I : Inv X pins σ H s) : X.env.locals < s.heap.objs.size:=let ⟨_,hn,_⟩:=I.loc; hn.lt
theorem Inv.sz (I : Inv X pins σ H s) : X.s₀.heap.objs.size ≤ s.heap.objs.size:=Nat.le_trans I.ok.above (Nat.le_of_lt I.lt)
theorem Inv.nofs (I : Inv X pins σ H s) {a : Addr} (h : s.heap.objs.size ≤ a) : a ∉ X.fs:=fun hb=>by
 obtain ⟨_,o,ho,_⟩:=I.ok.funs.mem hb
 exact absurd (Nat.lt_of_lt_of_le (Heap.lt_size ho) (Nat.le_trans I.sz h)) (Nat.lt_irrefl _)
theorem Inv.cne (I : Inv X pins σ H s) : ∀ x c,X.env.cells.lookup x = some c → c ≠ X.env.locals:=fun x c e z=>by
 obtain ⟨v,o,ho,hd⟩:=I.cell x c e
 obtain ⟨m,⟨o', es,ep,ho', hd', _⟩,_⟩:=I.loc
 rw [z,ho'] at ho; cases ho; rw [hd'] at hd; cases hd
theorem Inv.funs (I : Inv X pins σ H s) : s.heap.FunFrames X.base X.outer:=by
 have all : ∀ (l : List Env),(∀ b ∈ frs l,b ∈ X.fs) → X.s₀.heap.FunFrames X.base l → s.heap.FunFrames X.base l:=by
  intro l
  induction l with
  | nil=>intro _ _; trivial
  | cons env r ih =>
   intro hs hl
   obtain ⟨hk,⟨L,o,hf,hn,ho,hd⟩,hr⟩:=hl
   have hL : L ∈ X.fs:=hs L (by unfold frs; rw [List.filterMap_cons,hf]; exact List.mem_cons_self)
   obtain ⟨sl,e⟩:=I.base.slot L o ho (I.ok.frf L hL) hL fun z=>I.ok.exfs L z hL
   exact ⟨hk,⟨L,_,hf,hn,e,hd⟩,ih (fun b hb=>hs b (by unfold frs; rw [List.filterMap_cons,hf]; exact List.mem_cons_of_mem _ hb)) hr⟩
 exact all X.outer (fun _ hb=>hb) I.ok.funs
theorem Inv.stack (I : Inv X pins σ H s) : s.heap.FunFrames X.base X.stack:=by
 rcases I.ok.stk with e | ⟨e,hf⟩
 ·rw [e]; exact I.funs
 ·rw [e]
  obtain ⟨m,hn,_⟩:=I.loc
  refine .cons (by rw [I.ok.kind]; decide) hf hn ?_ I.funs
  exact Heap.get?_none_of_le (Nat.le_trans I.ok.bsz I.ok.above)
theorem Inv.stkSub (I : Inv X pins σ H s) : ∀ b ∈ frs X.stack,b ∈ X.env.locals :: X.fs:=fun b hb=>by
 rcases I.ok.stk with e | ⟨e,hf⟩
 ·rw [e] at hb; exact List.mem_cons_of_mem _ hb
 ·rw [e] at hb
  unfold frs at hb
  rw [List.filterMap_cons,hf] at hb
  exact hb
theorem Inv.stkFree (I : Inv X pins σ H s) : ∀ b ∈ frs X.stack,H b = none:=fun b hb=>by
 rcases List.mem_cons.mp (I.stkSub b hb) with e | hb
 ·rw [e]; exact I.free
 ·obtain ⟨_,o,ho,_⟩:=I.ok.funs.mem hb
  exact I.base.free b o ho (I.ok.frf b hb) fun z=>I.ok.exfs b z hb
theorem Inv.step {g' : Array GenState} {t' : Nat} {d' : Drawn} {ch : List Addr} (I : Inv X pins σ H s)
  (hch : ∀ b ∈ ch,(b ∈ X.ex ∨ X.s₀.heap.objs.size ≤ b) ∧ b ≠ X.env.locals ∧ (∀ x c,X.env.cells.lookup x = some c → c ≠ b) ∧ ∀ p ∈ X.pn ++ pins,p.1 ≠ b)
  (keep : ∀ b o,b ≠ X.env.locals → b ∉ X.fs → b ∉ ch → s.heap.get? b = some o → H b = none → h'.get? b = some o)
  (slot : ∀ b o,b ≠ X.env.locals → b ∈ X.fs → b ∉ ch → s.heap.get? b = some o → H b = none → ∃ sl,h'.get? b = some { o with slots:=sl }) (free : ∀ b o,b ∉ ch → s.heap.get? b = some o → H b = none → H' b = none)
  (there : ∀ b o,b ∉ ch → s.heap.get? b = some o → ∃ o', h'.get? b = some o')
  (tups : ∀ b xs,H b = some (.tup xs) → H' b = some (.tup xs)) (frzs : ∀ b o u,H b = some (.frz o u) → H' b = some (.frz o u)) (tbls : ∀ b ps,H b = some (.tbl ps) → ∃ more,H' b = some (.tbl (ps ++ more)))
  (ns : ∀ m,s.heap.Ns X.env.locals m → h'.Ns X.env.locals m) (hok : HOk X.prog X.w H' h') (hg : AllBare g') :
  Inv X pins σ H' { s with heap:=h', gens:=g', drawn:=d', toks:=t' }:=by
 have neL : ∀ b o,X.s₀.heap.get? b = some o → b ≠ X.env.locals:=fun b o e=>Nat.ne_of_lt (Nat.lt_of_lt_of_le (Heap.lt_size e) I.ok.above)
 have neC : ∀ b o,X.s₀.heap.get? b = some o → b ∉ X.ex → b ∉ ch:=fun b o e hx hb=>by
  rcases (hch b hb).1 with z | z
  ·exact hx z
  ·exact absurd (Nat.lt_of_lt_of_le (Heap.lt_size e) z) (Nat.lt_irrefl _)
 have cellK : ∀ x c,X.env.cells.lookup x = some c → ∀ v,s.heap.IsCell c v → h'.IsCell c v:=fun x c e v ⟨o,ho,hd⟩=>by
  have nch : c ∉ ch:=fun z=>(hch c z).2.2.1 x c e rfl
  by_cases hc : c ∈ X.fs
  ·obtain ⟨sl,q⟩:=slot c o (I.cne x c e) hc nch ho (I.freeC x c e)
   exact ⟨_,q,hd⟩
  ·exact ⟨o,keep c o (I.cne x c e) hc nch ho (I.freeC x c e),hd⟩
 refine ⟨I.ok,I.os,hg,⟨fun b o e n hb hx=>?_,fun b o e n hb hx=>?_,fun b o e n hx=>?_,fun b o e hx=>?_,fun b xs e=>tups b xs (I.base.tups b xs e),fun b o xs e=>frzs b o xs (I.base.frzs b o xs e),fun b ps e=>?_⟩,?_,fun x c e=>?_,?_,fun x c e=>?_,fun p hp=>?_,hok,I.len⟩
 ·exact keep b o (neL b o e) hb (neC b o e hx) (I.base.keep b o e n hb hx) (I.base.free b o e n hx)
 ·obtain ⟨sl,e1⟩:=I.base.slot b o e n hb hx
  obtain ⟨sl', e2⟩:=slot b _ (neL b o e) hb (neC b o e hx) e1 (I.base.free b o e n hx)
  exact ⟨sl', e2⟩
 ·obtain ⟨o', e1⟩:=I.base.there b o e hx
  exact free b o' (neC b o e hx) e1 (I.base.free b o e n hx)
 ·obtain ⟨o', e1⟩:=I.base.there b o e hx
  exact there b o' (neC b o e hx) e1
 ·obtain ⟨m1,e1⟩:=I.base.tbls b ps e
  obtain ⟨m2,e2⟩:=tbls b _ e1
  exact ⟨m1 ++ m2,by rw [e2,Array.append_assoc]⟩
 ·obtain ⟨m,hn,hl⟩:=I.loc
  refine ⟨m,ns m hn,fun i x v e1 e2 e3=>?_⟩
  obtain ⟨u,r,l⟩:=hl i x v e1 e2 e3
  refine ⟨u,r,?_⟩
  rcases l with l | ⟨k,c,e,z⟩
  ·exact .inl l
  ·exact .inr ⟨k,c,e,cellK x c e _ z⟩
 ·obtain ⟨v,z⟩:=I.cell x c e
  exact ⟨v,cellK x c e v z⟩
 ·obtain ⟨m,⟨o,_,_,ho,_⟩,_⟩:=I.loc
  exact free _ o (fun z=>(hch _ z).2.1 rfl) ho I.free
 ·obtain ⟨v,o,ho,hd⟩:=I.cell x c e
  exact free c o (fun z=>(hch c z).2.2.1 x c e rfl) ho (I.freeC x c e)
 ·obtain ⟨e,n,ne,nf,d⟩:=I.pin p hp
  have nch : p.1 ∉ ch:=fun z=>(hch p.1 z).2.2.2 p hp rfl
  exact ⟨keep p.1 p.2 ne nf nch e n,free p.1 p.2 nch e n,ne,nf,d⟩
theorem Inv.un {t' : Nat} (I : Inv X pins σ H s) (u : Un X.fs [] H H' s.heap h') (hok : HOk X.prog X.w H' h') : Inv X pins σ H' { s with heap:=h', toks:=t' }:=by
 obtain ⟨m,⟨o,es,ep,ho,r⟩,_⟩:=id I.loc
 obtain ⟨sl,hL⟩:=u.any ho I.free (by simp)
 exact I.step (g':=s.gens) (d':=s.drawn) (ch:=[]) (fun _ z=>nomatch z) (fun b o _ hb _ e n=>u.keep b o e n hb (by simp)) (fun b o _ hb _ e n=>u.slot b o e n hb (by simp)) (fun b o _ e n=>u.free b o e n (by simp)) (fun b o _ e=>u.there b o e (by simp)) u.tups u.frzs u.tbls (fun m' hm=>by
  obtain ⟨o', es', ep', ho', r'⟩:=hm
  rw [ho] at ho'; cases ho'
  exact ⟨_,es', ep', hL,r'⟩) hok I.bare
theorem Inv.call {g' : Array GenState} {t' : Nat} {d' : Drawn} {ch : List Addr} (I : Inv X pins σ H s) (u : Un (frs X.stack) ch H H' s.heap h') (hok : HOk X.prog X.w H' h') (hg : AllBare g')
  (hch : ∀ b ∈ ch,(b ∈ X.ex ∨ X.s₀.heap.objs.size ≤ b) ∧ b ≠ X.env.locals ∧ (∀ x c,X.env.cells.lookup x = some c → c ≠ b) ∧ ∀ p ∈ X.pn ++ pins,p.1 ≠ b) :
  Inv X pins σ H' { s with heap:=h', gens:=g', drawn:=d', toks:=t' }:=by
 obtain ⟨m,⟨o,es,ep,ho,r⟩,_⟩:=id I.loc
 obtain ⟨sl,hL⟩:=u.any ho I.free fun z=>(hch _ z).2.1 rfl
 exact I.step (ch:=ch) hch (fun b o hL hb hc e n=>u.keep b o e n (fun z=>(List.mem_cons.mp (I.stkSub b z)).elim hL hb) hc) (fun b o _ _ hc e n=>u.any e n hc) (fun b o hc e n=>u.free b o e n hc) (fun b o hc e=>u.there b o e hc) u.tups u.frzs u.tbls (fun m' hm=>by
  obtain ⟨o', es', ep', ho', r'⟩:=hm
  rw [ho] at ho'; cases ho'
  exact ⟨_,es', ep', hL,r'⟩) hok hg
theorem Inv.turned {t' : Nat} {it : Addr} (I : Inv X pins σ H s) (k : ∀ b o,b ≠ it → s.heap.get? b = some o → h'.get? b = some o) (hn : H it = none) (hL : it ≠ X.env.locals)
  (h1 : it ∈ X.ex ∨ X.s₀.heap.objs.size ≤ it) (h2 : ∀ x c,X.env.cells.lookup x = some c → c ≠ it) (h3 : ∀ p ∈ X.pn ++ pins,p.1 ≠ it) : Inv X pins σ H { s with heap:=h', toks:=t' }:=by
 have nit : ∀ b u,H b = some u → b ≠ it:=fun b u e z=>by rw [z,hn] at e; cases e
 refine I.step (g':=s.gens) (d':=s.drawn) (ch:=[it]) (fun b hb=>?_) (fun b o _ _ hc e _=>k b o (fun z=>hc (by simp [z])) e) (fun b o _ _ hc e _=>⟨o.slots,k b o (fun z=>hc (by simp [z])) e⟩) (fun _ _ _ _ n=>n)
  (fun b o hc e=>⟨o,k b o (fun z=>hc (by simp [z])) e⟩) (fun _ _ e=>e) (fun _ _ _ e=>e) (fun b ps e=>⟨#[],by rw [e]; simp⟩) (fun m hm=>?_) (fun b u e=>?_) I.bare
 ·have e : b = it:=by simpa using hb
  subst e
  exact ⟨h1,hL,h2,h3⟩
 ·obtain ⟨o,es,ep,ho,r⟩:=hm
  exact ⟨o,es,ep,k _ o (Ne.symm hL) ho,r⟩
 ·refine (I.hok b u e).stay (fun c v hc q=>k c v ?_ q) (fun _ q=>q) fun _ _ q=>q
  rcases hc with z | z
  ·rw [z]; exact nit b u e
  ·exact nit c _ z
theorem Inv.tok (I : Inv X pins σ H s) (t : Nat) : Inv X pins σ H { s with toks:=t }:=I.un (h':=s.heap) (t':=t) Un.refl I.hok
theorem Inv.kept {t' : Nat} (I : Inv X pins σ H s) (k : ∀ b u,s.heap.get? b = some u → h'.get? b = some u) : Inv X pins σ H { s with heap:=h', toks:=t' }:=I.un (Un.kept k) (I.hok.kept k)
theorem Inv.laid {a : Addr} {o : HO} {t' : Nat} (I : Inv X pins σ H s) (k : ∀ b u,s.heap.get? b = some u → h'.get? b = some u) (hp : s.heap.objs.size ≤ a) (new : ObjOk X.prog X.w (upd H a o) h' a o) :
  Inv X pins σ (upd H a o) { s with heap:=h', toks:=t' }:=I.un (Un.laid k hp (I.hok.fresh hp)) (I.hok.laid k hp new)
theorem Inv.write {x e : Addr} {o : HO} {t' : Nat} (I : Inv X pins σ H s) (mu : Mut (H x)) (he : e = x ∨ H e = some (.own x)) (k : ∀ b u,b ≠ e → s.heap.get? b = some u → h'.get? b = some u) (heo : ∃ u,h'.get? e = some u)
  (new : ObjOk X.prog X.w (upd H x o) h' x o) : Inv X pins σ (upd H x o) { s with heap:=h', toks:=t' }:=I.un (Un.write mu he k heo) (I.hok.write mu he k heo new)
theorem Inv.pins_of {pins' : List (Addr × Obj)} (I : Inv X pins σ H s) (h : ∀ p ∈ pins', s.heap.get? p.1 = some p.2 ∧ H p.1 = none ∧ p.1 ≠ X.env.locals ∧ p.1 ∉ X.fs ∧ ∀ v,p.2.data ≠ .cell v) : Inv X pins' σ H s :=
 ⟨I.ok,I.os,I.bare,I.base,I.loc,I.cell,I.free,I.freeC,fun p hp=>(List.mem_append.mp hp).elim (fun z=>I.pin p (List.mem_append_left _ z)) (h p),I.hok,I.len⟩
theorem Jl0 {N : List Str} (hN : N.Nodup) {i j : Nat} {x : Str} (a : N[i]? = some x) (b : N[j]? = some x) : i = j:=by
 obtain ⟨h1,e1⟩:=List.getElem?_eq_some_iff.mp a
 obtain ⟨h2,e2⟩:=List.getElem?_eq_some_iff.mp b
 exact (List.getElem_inj hN).mp (e1.trans e2.symm)
theorem Jm4 {M : Model} {A : Around} {E : Value → Shared → Prop} {i : Nat} {x : Str} {v : V} {u : Value} {Q : Unit → Shared → Prop} (I : Inv X pins σ H s) (hN : X.N.Nodup) (hi : X.N[i]? = some x) (hx : Loc X.env.scope x) (r : RelV v u)
  (h : ∀ s', Inv X pins (σ.set i (some v)) H s' → (∃ a,Heap.SameBut a s.heap s'.heap ∧ (a = X.env.locals ∨ X.env.cells.lookup x = some a)) → Q () s') (hf : X.fn x = true ∨ X.env.scope.names.lookup x = some .local:=by first | exact .inl rfl | exact .inr rfl | assumption) : wpAny M A (storeName X.env x u) Q E s:=by
 obtain ⟨m,hn,hl⟩:=id I.loc
 have hcls : (X.env.scope.kind == .class || (X.env.scope.kind == .module && X.env.locals != X.env.globals)) = false:=by rw [I.ok.kind]; rfl
 have hiσ : i < σ.length:=by rw [I.len]; exact (List.getElem?_eq_some_iff.mp hi).1
 have cne:=I.cne
 have tracked : ∀ {a : Addr} {h' : Heap},(∃ o,s.heap.get? a = some o ∧ H a = none) → Heap.SameBut a s.heap h' → HOk X.prog X.w H h':=fun {a h'} ha hs b ob e=>by
  obtain ⟨_,_,hfree⟩:=ha
  refine (I.hok b ob e).stay (fun c w' hc q=>(hs.2 c ?_).trans q) (fun _ q=>q) fun _ _ q=>q
  rintro rfl
  rcases hc with rfl | hc
  ·rw [hfree] at e; cases e
  ·rw [hfree] at hc; cases hc
 rcases hx with hk | hk
 ·refine wpAny_storeName_local hk hn (fun h' hn' hs=>?_) hcls
  obtain ⟨oL,_,_,hoL,_⟩:=id hn
  refine h _ ⟨I.ok,I.os,I.bare,⟨fun b o e n hb hx=>?_,fun b o e n hb hx=>?_,I.base.free,fun b o e hx=>?_,I.base.tups,I.base.frzs,I.base.tbls⟩,⟨_,hn', fun j y v' e1 e2 e3=>?_⟩,fun y c e=>?_,I.free,I.freeC,fun p hp=>?_,tracked ⟨oL,hoL,I.free⟩ hs,by simpa using I.len⟩ ⟨_,hs,.inl rfl⟩
  ·exact (hs.2 b (Nat.ne_of_lt (Nat.lt_of_lt_of_le (Heap.lt_size e) I.ok.above))).trans (I.base.keep b o e n hb hx)
  ·obtain ⟨sl,e1⟩:=I.base.slot b o e n hb hx
   exact ⟨sl,(hs.2 b (Nat.ne_of_lt (Nat.lt_of_lt_of_le (Heap.lt_size e) I.ok.above))).trans e1⟩
  ·obtain ⟨o', e1⟩:=I.base.there b o e hx
   exact ⟨o', (hs.2 b (Nat.ne_of_lt (Nat.lt_of_lt_of_le (Heap.lt_size e) I.ok.above))).trans e1⟩
  ·by_cases hj : j = i
   ·subst hj
    rw [hi] at e1; cases e1
    rw [List.getElem?_set_self hiσ] at e2
    cases e2
    exact ⟨u,r,.inl ⟨hk,by simp⟩⟩
   ·rw [List.getElem?_set_ne (Ne.symm hj)] at e2
    obtain ⟨u', r', q⟩:=hl j y v' e1 e2 e3
    refine ⟨u', r', ?_⟩
    rcases q with ⟨k,e⟩ | ⟨k,c,e,z⟩
    ·refine .inl ⟨k,?_⟩
     have : y ≠ x:=fun e=>hj (Jl0 hN e1 (e ▸ hi))
     simp [this,e]
    ·exact .inr ⟨k,c,e,z.sameBut hs (cne y c e)⟩
  ·obtain ⟨w', z⟩:=I.cell y c e
   exact ⟨w', z.sameBut hs (cne y c e)⟩
  ·obtain ⟨e,n,ne,nf,d⟩:=I.pin p hp
   exact ⟨(hs.2 p.1 ne).trans e,n,ne,nf,d⟩
 ·have hfn : X.fn x = true:=by
   rcases hf with z | z
   ·exact z
   ·rw [z] at hk; cases hk
  obtain ⟨c,hc⟩:=I.ok.has x (.inl hk)
  obtain ⟨w', z⟩:=I.cell x c hc
  refine wpAny_storeName_cell I.ok.kind hk hc z (fun h' hc' hs=>?_)
  obtain ⟨oc,hoc,hocd⟩:=id z
  refine h { s with heap:=h' } ⟨I.ok,I.os,I.bare,⟨fun b o e n hb hx=>?_,fun b o e n hb hx=>?_,I.base.free,fun b o e hx=>?_,I.base.tups,I.base.frzs,I.base.tbls⟩,⟨m,hn.sameBut hs (Ne.symm (cne x c hc)),fun j y v' e1 e2 e3=>?_⟩,fun y c' e=>?_,I.free,I.freeC,fun p hp=>?_,tracked ⟨oc,hoc,I.freeC x c hc⟩ hs,by simpa using I.len⟩ ⟨c,hs,.inr hc⟩
  ·exact (hs.2 b (Nat.ne_of_lt (Nat.lt_of_lt_of_le (Heap.lt_size e) (I.ok.cab x c hfn hc)))).trans (I.base.keep b o e n hb hx)
  ·obtain ⟨sl,e1⟩:=I.base.slot b o e n hb hx
   exact ⟨sl,(hs.2 b (Nat.ne_of_lt (Nat.lt_of_lt_of_le (Heap.lt_size e) (I.ok.cab x c hfn hc)))).trans e1⟩
  ·obtain ⟨o', e1⟩:=I.base.there b o e hx
   exact ⟨o', (hs.2 b (Nat.ne_of_lt (Nat.lt_of_lt_of_le (Heap.lt_size e) (I.ok.cab x c hfn hc)))).trans e1⟩
  ·by_cases hj : j = i
   ·subst hj
    rw [hi] at e1; cases e1
    rw [List.getElem?_set_self hiσ] at e2
    cases e2
    exact ⟨u,r,.inr ⟨.inl hk,c,hc,hc'⟩⟩
   ·rw [List.getElem?_set_ne (Ne.symm hj)] at e2
    obtain ⟨u', r', q⟩:=hl j y v' e1 e2 e3
    refine ⟨u', r', ?_⟩
    rcases q with q | ⟨k,c', e,z'⟩
    ·exact .inl q
    ·refine .inr ⟨k,c', e,z'.sameBut hs ?_⟩
     rintro rfl
     exact hj (Jl0 hN e1 (I.ok.inj _ _ _ e hc ▸ hi))
  ·by_cases hcc : c' = c
   ·subst hcc; exact ⟨_,hc'⟩
   ·obtain ⟨w2,z2⟩:=I.cell y c' e
    exact ⟨w2,z2.sameBut hs hcc⟩
  ·obtain ⟨e,n,ne,nf,d⟩:=I.pin p hp
   refine ⟨(hs.2 p.1 ?_).trans e,n,ne,nf,d⟩
   intro q
   rw [q,hoc] at e
   have q' : oc = p.2:=Option.some.inj e
   exact d w' (by rw [← q']; exact hocd)
theorem Jl6 {M : Model} {A : Around} {E : Value → Shared → Prop} {i : Nat} {x : Str} {v : V} {u : Value} {Q : Unit → Shared → Prop} (I : Inv X pins σ H s) (hN : X.N.Nodup) (hi : X.N[i]? = some x) (hx : Loc X.env.scope x) (r : RelV v u)
  (h : ∀ s', Inv X pins (σ.set i (some v)) H s' → Q () s') (hf : X.fn x = true ∨ X.env.scope.names.lookup x = some .local:=by first | exact .inl rfl | exact .inr rfl | assumption) : wpAny M A (storeName X.env x u) Q E s :=
 Jm4 I hN hi hx r (fun s' I' _=>h s' I') hf
theorem Inv.call' {s' : Shared} {ch : List Addr} (I : Inv X pins σ H s) (ho : s'.os = s.os) (u : Un (frs X.stack) ch H H' s.heap s'.heap) (hok : HOk X.prog X.w H' s'.heap) (hg : AllBare s'.gens)
  (hch : ∀ b ∈ ch,(b ∈ X.ex ∨ X.s₀.heap.objs.size ≤ b) ∧ b ≠ X.env.locals ∧ (∀ x c,X.env.cells.lookup x = some c → c ≠ b) ∧ ∀ p ∈ X.pn ++ pins,p.1 ≠ b) : Inv X pins σ H' s':=by
 obtain ⟨h', g', d', t', o'⟩:=s'
 have e : o' = s.os:=ho
 subst e
 exact I.call (g':=g') (t':=t') (d':=d') u hok hg hch
end
abbrev XK:=Value → Option Addr → Hp → Prop
abbrev St:=List (Option V)
abbrev VK:=V → Hp → Prop
abbrev TE:=St → Hp → VK → Prop
abbrev TT:=St → Hp → (Bool → Hp → Prop) → Prop
abbrev TA:=St → Hp → (List V → Hp → Prop) → Prop
structure Ends where
 nx : St → Hp → Prop
 rt : VK
 bk : St → Hp → Prop:=fun _ _=>False
 ct : St → Hp → Prop:=fun _ _=>False
abbrev TS:=Ends → St → Hp → Prop
def EP (X : Cx) (pins : List (Addr × Obj)) (σ : St) (Q : VK) (u : Value) (s' : Shared) : Prop:=∃ v H', Inv X pins σ H' s' ∧ RelV v u ∧ Q v H'
def TP (X : Cx) (pins : List (Addr × Obj)) (σ : St) (Q : Bool → Hp → Prop) (b : Bool) (s' : Shared) : Prop:=∃ H', Inv X pins σ H' s' ∧ Q b H'
def AP (X : Cx) (pins : List (Addr × Obj)) (σ : St) (Q : List V → Hp → Prop) (us : List Value) (s' : Shared) : Prop:=∃ vs H', Inv X pins σ H' s' ∧ Vals vs us ∧ Q vs H'
def SP (X : Cx) (pins : List (Addr × Obj)) (D : Ends) (f : Flow) (s' : Shared) : Prop :=
 match f with
 | .next=>∃ σ' H', Inv X pins σ' H' s' ∧ D.nx σ' H'
 | .brk=>∃ σ' H', Inv X pins σ' H' s' ∧ D.bk σ' H'
 | .cont=>∃ σ' H', Inv X pins σ' H' s' ∧ D.ct σ' H'
 | .ret u=>∃ v σ' H', Inv X pins σ' H' s' ∧ RelV v u ∧ D.rt v H'
def PE (X : Cx) (e : Expr) (t : TE) : Prop :=
 ∀ (pins : List (Addr × Obj)) (s : Shared) (σ : St) (H : Hp) (Q : VK),Inv X pins σ H s → t σ H Q → wpAny (model X.prog X.w) X.A (eval e X.env) (EP X pins σ Q) X.xe s
def PT (X : Cx) (e : Expr) (t : TT) : Prop :=
 ∀ (pins : List (Addr × Obj)) (s : Shared) (σ : St) (H : Hp) (Q : Bool → Hp → Prop),Inv X pins σ H s → t σ H Q → wpAny (model X.prog X.w) X.A (isTrue e X.env (eval e X.env)) (TP X pins σ Q) X.xe s
def PW (X : Cx) (e : Expr) (t : TT) : Prop :=
 ∀ (whole : Sem Value) (pins : List (Addr × Obj)) (s : Shared) (σ : St) (H : Hp) (Q : Bool → Hp → Prop),Inv X pins σ H s → t σ H Q → wpAny (model X.prog X.w) X.A (isTrue e X.env whole) (TP X pins σ Q) X.xe s
theorem PW.pt {X : Cx} {e : Expr} {t : TT} (h : PW X e t) : PT X e t:=h _
def PA (X : Cx) (es : List Expr) (t : TA) : Prop :=
 ∀ (pos : Pos) (pins : List (Addr × Obj)) (s : Shared) (σ : St) (H : Hp) (Q : List V → Hp → Prop),Inv X pins σ H s → t σ H Q → wpAny (model X.prog X.w) X.A (spliced (backTo pos (starEach es X.env))) (AP X pins σ Q) X.xe s
def PS (X : Cx) (st : Stmt) (t : TS) : Prop :=
 ∀ (pins : List (Addr × Obj)) (s : Shared) (σ : St) (H : Hp) (D : Ends),Inv X pins σ H s → t D σ H → wpAny (model X.prog X.w) X.A (exec st X.env) (SP X pins D) X.xe s
def PSs (X : Cx) (st : List Stmt) (t : TS) : Prop :=
 ∀ (pins : List (Addr × Obj)) (s : Shared) (σ : St) (H : Hp) (D : Ends),Inv X pins σ H s → t D σ H → wpAny (model X.prog X.w) X.A (execs st X.env) (SP X pins D) X.xe s
theorem thn {α : Type} {t : Sem α} {Q Q' : α → Shared → Prop} {M : Model} {A : Around} {E : Value → Shared → Prop} {s : Shared} (h : wpAny M A t Q E s) (hQ : ∀ a s,Q a s → Q' a s) : wpAny M A t Q' E s:=wpAny_mono h hQ fun _ _ x=>x
end L2
namespace L2
open PySem PySem.Spec PyProof.Rows
section
variable {X : Cx}
def tVar (i : Nat) : TE:=fun σ H Q=>∃ v,σ[i]? = some (some v) ∧ Q v H
def tC (v : V) : TE:=fun _ H Q=>Q v H
theorem pe_var {i : Nat} {x : Str} {pos : Pos} (hN : X.N[i]? = some x) (hv : Vis X.env.scope x) (hd : (x == ("__debug__" : Str)) = false:=by decide) (hcd : (x == ("__classdict__" : Str)) = false:=by decide) : PE X (.Name x pos) (tVar i):=by
 intro pins s σ H Q I h
 obtain ⟨v,e,h⟩:=h
 obtain ⟨m,hn,hl⟩:=I.loc
 obtain ⟨u,r,l⟩:=hl i x v hN e hv
 have fin : EP X pins σ Q u s:=⟨v,H,I,r,h⟩
 rcases l with ⟨hk,hm⟩ | ⟨hk,c,hc,hcell⟩
 ·exact wpAny_Name (wpAny_loadName_local I.ok.kind hk hn hm fin) hd
 ·rcases hk with hk | hk
  ·exact wpAny_Name (wpAny_loadName_cell I.ok.kind hk hc hcell fin) hd
  ·exact wpAny_Name (wpAny_loadName_free I.ok.kind hk hc hcell fin hcd) hd
theorem Jfl {i j pos} : PE X (.Constant (.int i) j pos) (tC (.int i)):=fun _ _ _ H _ I h=>wpAny_Constant_int ⟨.int i,H,I.tok _,⟨_,rfl⟩,h⟩
theorem Jgv {b j pos} : PE X (.Constant (.bool b) j pos) (tC (.bl b)):=fun _ _ _ H _ I h=>Constant_bool ⟨.bl b,H,I,rfl,h⟩
theorem Jhn {j pos} : PE X (.Constant .none j pos) (tC .non):=fun _ _ _ H _ I h=>Constant_none ⟨.non,H,I,rfl,h⟩
theorem Jgb {x j pos} : PE X (.Constant (.str x) j pos) (tC (.str x)):=fun _ _ _ H _ I h=>Calls.Constant_str ⟨.str x,H,I.tok _,⟨_,rfl⟩,h⟩
def Gl (X : Cx) (x : Str) : Prop:=X.env.kindOf x = some .globalImplicit
theorem Jhy {E : Value → Shared → Prop} {pins : List (Addr × Obj)} {s : Shared} {σ : St} {H : Hp} {x : Str} {u : Value} {pos : Pos} {Q : Value → Shared → Prop} (I : Inv X pins σ H s) (hg : Gl X x) (hm : X.mg x = some u) (h : Q u s)
  (hd : (x == ("__debug__" : Str)) = false:=by decide) : wpAny (model X.prog X.w) X.A (eval (.Name x pos) X.env) Q E s :=
 Calls.Name_function_global I.ok.kind hg (Calls.loadGlobal_global (by rw [I.ok.glob]; exact I.mod.glob.keeps I.bk) hm h) hd
theorem Jk4 {E : Value → Shared → Prop} {pins : List (Addr × Obj)} {s : Shared} {σ : St} {H : Hp} {x : Str} {u : Value} {pos : Pos} {Q : Value → Shared → Prop} (I : Inv X pins σ H s) (hg : Gl X x) (hm : X.mg x = none) (hv : bootBuiltins x = some u) (h : Q u s)
  (hn : x ≠ "__name__" := by decide) (hd : (x == ("__debug__" : Str)) = false:=by decide) : wpAny (model X.prog X.w) X.A (eval (.Name x pos) X.env) Q E s:=by
 obtain ⟨mb,h1,h2⟩:=I.mod.blt
 exact Calls.Name_function_global I.ok.kind hg (Calls.loadGlobal_builtin (by rw [I.ok.glob]; exact I.mod.glob.keeps I.bk) hm (by rw [I.ok.blt]; exact h1.keeps I.bk) ((h2 x hn).trans hv) h) hd
theorem Jgh {x : Str} {v : V} {u : Value} {pos : Pos} (hg : Gl X x) (hm : X.mg x = some u) (r : RelV v u) (hd : (x == ("__debug__" : Str)) = false:=by decide) : PE X (.Name x pos) (tC v) :=
 fun _ _ _ H _ I h=>Jhy I hg hm ⟨v,H,I,r,h⟩ hd
theorem Jgo {x : Str} {v : V} {u : Value} {pos : Pos} (hg : Gl X x) (hm : X.mg x = none) (hv : bootBuiltins x = some u) (r : RelV v u) (hn : x ≠ "__name__" := by decide) (hd : (x == ("__debug__" : Str)) = false:=by decide) : PE X (.Name x pos) (tC v) :=
 fun _ _ _ H _ I h=>Jk4 I hg hm hv ⟨v,H,I,r,h⟩ hn hd
variable {a b : Expr} {ta tb : TE} {pos : Pos}
def tB (t : TE) : TT:=fun σ H Q=>t σ H fun x H1=>∃ c,x = .bl c ∧ Q c H1
theorem Jge {e : Expr} {t : TE} (h : PE X e t) (he : ∀ whole,isTrue e X.env whole = (do let v ← whole; standAt e.pos; holding [v] (truthy v)):=by intro _; rfl) : PT X e (tB t):=by
 intro pins s σ H Q I hw
 refine isTrue_plain (thn (h pins s σ H _ I hw) fun v s1 ⟨x,H1,I1,r1,q1⟩=>?_) (he _)
 obtain ⟨d,rfl,q⟩:=q1
 cases r1
 exact wpAny_truthy_bool ⟨H1,I1,q⟩
variable {tA tB' : TT} {rest : List Expr}
def tAnd (t u : TT) : TT:=fun σ H Q=>t σ H fun c H1=>if c = true then u σ H1 Q else Q false H1
def tOr (t u : TT) : TT:=fun σ H Q=>t σ H fun c H1=>if c = true then Q true H1 else u σ H1 Q
def tNot (t : TT) : TT:=fun σ H Q=>t σ H fun c H1=>Q (!c) H1
theorem Jok (ha : PT X a tA) : PW X (.BoolOp .And [a] pos) tA:=by
 intro wh pins s σ H Q I h
 refine isTrue_and (thn (ha pins s σ H Q I h) fun c s1 e=>?_)
 cases c with
 | true=>exact isTrue_and_nil e
 | false=>exact e
theorem Ji3 (ha : PT X a tA) : PW X (.BoolOp .Or [a] pos) tA:=by
 intro wh pins s σ H Q I h
 refine isTrue_or (thn (ha pins s σ H Q I h) fun c s1 e=>?_)
 cases c with
 | false=>exact isTrue_or_nil e
 | true=>exact e
theorem Jqi (ha : PT X a tA) (hb : PW X (.BoolOp .And (b :: rest) pos) tB') : PW X (.BoolOp .And (a :: b :: rest) pos) (tAnd tA tB'):=by
 intro wh pins s σ H Q I h
 refine isTrue_and (thn (ha pins s σ H _ I h) fun c s1 ⟨H1,I1,q1⟩=>?_)
 cases c with
 | true=>exact hb wh pins s1 σ H1 Q I1 q1
 | false=>exact ⟨H1,I1,q1⟩
theorem Jih (ha : PT X a tA) (hb : PW X (.BoolOp .Or (b :: rest) pos) tB') : PW X (.BoolOp .Or (a :: b :: rest) pos) (tOr tA tB'):=by
 intro wh pins s σ H Q I h
 refine isTrue_or (thn (ha pins s σ H _ I h) fun c s1 ⟨H1,I1,q1⟩=>?_)
 cases c with
 | true=>exact ⟨H1,I1,q1⟩
 | false=>exact hb wh pins s1 σ H1 Q I1 q1
theorem Jgg (ha : PT X a tA) : PT X (.UnaryOp .Not a pos) (tNot tA):=by
 intro pins s σ H Q I h
 exact isTrue_not (ha pins s σ H (fun c H1=>Q (!c) H1) I h)
def tAndV (ta tb : TE) : TE:=fun σ H Q=>ta σ H fun x H1=>∃ c,x = .bl c ∧ if c = true then tb σ H1 Q else Q (.bl false) H1
theorem Jnv {op} {t : TE} (h : PE X a t) : PE X (.BoolOp op [a] pos) t:=fun pins s σ H Q I hw=>BoolOp_one (h pins s σ H Q I hw)
theorem Jnu (ha : PE X a ta) (hb : PE X (.BoolOp .And (b :: rest) pos) tb) : PE X (.BoolOp .And (a :: b :: rest) pos) (tAndV ta tb):=by
 intro pins s σ H Q I h
 refine BoolOp_and (thn (ha pins s σ H _ I h) fun v s1 ⟨x,H1,I1,r1,q1⟩=>?_)
 obtain ⟨c,rfl,q1⟩:=q1
 cases r1
 refine wpAny_truthy_bool ?_
 cases c with
 | true=>exact hb pins s1 σ H1 Q I1 q1
 | false=>exact ⟨.bl false,H1,I1,rfl,q1⟩
end
end L2
namespace L2
open PySem PySem.Spec PyProof.Rows
def SqL (K : PySem.W.Frag) (H : Hp) (a : Addr) (xs : List V) : Prop :=
 Rd H a (.lst xs) ∨
  ∃ (o : Obj) (its : Array Value) (n : Nat),K.lookup a = some o ∧ o.cls = .type "list" ∧ o.dict = none ∧ o.data = .seq its n ∧ its.size ≤ sizeLine ∧ Vals xs its.toList
def SqT (K : PySem.W.Frag) (H : Hp) (a : Addr) (xs : List V) : Prop :=
 Rd H a (.tup xs) ∨
  ∃ (o : Obj) (its : Array Value) (n : Nat),K.lookup a = some o ∧ o.cls = .type "tuple" ∧ o.data = .seq its n ∧ its.size ≤ sizeLine ∧ Vals xs its.toList
def absV : Value → Option V
 | .none=>some .non
 | .bool b=>some (.bl b)
 | .int i _=>some (.int i)
 | .str x _=>some (.str x)
 | .bytes b _=>some (.byt b)
 | .float b _=>some (.flt b)
 | .ref a=>some (.ref a)
 | .type n=>some (.ty n)
 | _=>none
theorem RelV.abs {x : V} {u : Value} (r : RelV x u) : absV u = some x:=by
 cases x with
 | non=>cases r; rfl
 | bl _=>cases r; rfl
 | int _=>obtain ⟨t,rfl⟩:=r; rfl
 | str _=>obtain ⟨t,rfl⟩:=r; rfl
 | byt _=>obtain ⟨t,rfl⟩:=r; rfl
 | flt _=>obtain ⟨t,rfl⟩:=r; rfl
 | ref _=>cases r; rfl
 | ty _=>cases r; rfl
theorem RelV.inj {x y : V} {u : Value} (r : RelV x u) (q : RelV y u) : x = y:=Option.some.inj (r.abs.symm.trans q.abs)
theorem Vals.inj : ∀ {xs ys : List V} {us : List Value},Vals xs us → Vals ys us → xs = ys
 | _,_,_,.nil,.nil=>rfl
 | _,_,_,.cons r t,.cons r' t'=>by rw [r.inj r', Vals.inj t t']
section
variable {X : Cx} {pins : List (Addr × Obj)} {σ : St} {H : Hp} {s : Shared} {a : Addr} {xs ys : List V}
theorem SqL.of {K : PySem.W.Frag} (h : H a = some (.lst xs)) : SqL K H a xs:=.inl (.inl h)
theorem SqT.of {K : PySem.W.Frag} (h : H a = some (.tup xs)) : SqT K H a xs:=.inl (.inl h)
theorem Inv.list (I : Inv X pins σ H s) (h : SqL X.K H a xs) : ∃ its : List Value,Vals xs its ∧ PlainL s.heap a its.toArray ∧ xs.length ≤ sizeLine:=by
 rcases h with h | ⟨o,its,n,hk,hc,hd,hs,hz,r⟩
 ·obtain ⟨z,its,n,r,e⟩:=h.ok I.hok
  exact ⟨its,r,⟨_,n,e,rfl,rfl,rfl⟩,z⟩
 ·refine ⟨its.toList,r,⟨o,n,I.kIn a o hk,hc,hd,by simpa using hs⟩,?_⟩
  have e:=r.length
  simp only [Array.length_toList] at e
  omega
theorem Inv.tuple (I : Inv X pins σ H s) (h : SqT X.K H a xs) : ∃ its : List Value,Vals xs its ∧ IsTup s.heap a its.toArray ∧ xs.length ≤ sizeLine:=by
 rcases h with h | ⟨o,its,n,hk,hc,hs,hz,r⟩
 ·obtain ⟨z,its,r,p⟩:=h.ok I.hok
  exact ⟨its,r,p,z⟩
 ·refine ⟨its.toList,r,⟨o,I.kIn a o hk,hc,n,by simpa using hs⟩,?_⟩
  have e:=r.length
  simp only [Array.length_toList] at e
  omega
theorem Inv.list_inj (I : Inv X pins σ H s) (h : SqL X.K H a xs) (h' : SqL X.K H a ys) : xs = ys:=by
 obtain ⟨its,r,⟨o,n,e,_,_,d⟩,_⟩:=I.list h
 obtain ⟨its', r', ⟨o', n', e', _,_,d'⟩,_⟩:=I.list h'
 rw [e] at e'; cases e'
 rw [d] at d'
 injection d' with d1 _
 have : its = its':=by simpa using congrArg Array.toList d1
 subst this
 exact r.inj r'
theorem Inv.tuple_inj (I : Inv X pins σ H s) (h : SqT X.K H a xs) (h' : SqT X.K H a ys) : xs = ys:=by
 obtain ⟨its,r,⟨o,e,_,n,d⟩,_⟩:=I.tuple h
 obtain ⟨its', r', ⟨o', e', _,n', d'⟩,_⟩:=I.tuple h'
 rw [e] at e'; cases e'
 rw [d] at d'
 injection d' with d1 _
 have : its = its':=by simpa using congrArg Array.toList d1
 subst this
 exact r.inj r'
end
abbrev Cx.wish (X : Cx) (E : Value → Shared → Prop) : Cx:={ X with xe:=E }
abbrev Cx.nox (X : Cx) : Cx:=X.wish fun _ _=>False
theorem Cx.Ok.wish {X : Cx} (ok : X.Ok) (E : Value → Shared → Prop) : (X.wish E).Ok :=
 ⟨ok.mod,ok.kind,ok.glob,ok.blt,ok.above,ok.inj,ok.has,ok.cab,ok.hd,ok.frames,ok.stk,ok.exf,ok.bs,ok.bsz,ok.noex,ok.exfs,ok.funs,ok.frf⟩
theorem Cx.Ok.unwish {X : Cx} {E : Value → Shared → Prop} (ok : (X.wish E).Ok) : X.Ok :=
 ⟨ok.mod,ok.kind,ok.glob,ok.blt,ok.above,ok.inj,ok.has,ok.cab,ok.hd,ok.frames,ok.stk,ok.exf,ok.bs,ok.bsz,ok.noex,ok.exfs,ok.funs,ok.frf⟩
section
variable {X : Cx} {pins : List (Addr × Obj)} {σ : St} {H : Hp} {s : Shared} {E : Value → Shared → Prop}
theorem Inv.wish (I : Inv X pins σ H s) (E : Value → Shared → Prop) : Inv (X.wish E) pins σ H s:=⟨I.ok.wish E,I.os,I.bare,I.base,I.loc,I.cell,I.free,I.freeC,I.pin,I.hok,I.len⟩
theorem Inv.unwish (I : Inv (X.wish E) pins σ H s) : Inv X pins σ H s:=⟨I.ok.unwish,I.os,I.bare,I.base,I.loc,I.cell,I.free,I.freeC,I.pin,I.hok,I.len⟩
theorem SP.unwish {D : Ends} {f : Flow} {s' : Shared} (h : SP (X.wish E) pins D f s') : SP X pins D f s':=by
 cases f with
 | next=>obtain ⟨σ', H', I,q⟩:=h; exact ⟨σ', H', I.unwish,q⟩
 | brk=>obtain ⟨σ', H', I,q⟩:=h; exact ⟨σ', H', I.unwish,q⟩
 | cont=>obtain ⟨σ', H', I,q⟩:=h; exact ⟨σ', H', I.unwish,q⟩
 | ret u=>obtain ⟨v,σ', H', I,r,q⟩:=h; exact ⟨v,σ', H', I.unwish,r,q⟩
theorem PSs.nox {st : List Stmt} {t : TS} (h : PSs X.nox st t) : PSs X st t:=fun pins s σ H D I hw =>
 wpAny_mono (h pins s σ H D (I.wish _) hw) (fun _ _ q=>q.unwish) fun _ _ z=>False.elim z
end
section
variable {X : Cx} {st : Stmt} {rest : List Stmt} {t u : TS} {e : Expr} {te : TE} {pos : Pos}
def tNext : TS:=fun D σ H=>D.nx σ H
def tSeq (t u : TS) : TS:=fun D σ H=>t { D with nx:=u D } σ H
theorem Jfv : PSs X [] tNext:=fun _ _ σ H _ I h=>wpAny_execs_nil ⟨σ,H,I,h⟩
theorem Jfm (h1 : PS X st t) (h2 : PSs X rest u) : PSs X (st :: rest) (tSeq t u):=by
 intro pins s σ H D I h
 refine wpAny_execs_cons (thn (h1 pins s σ H { D with nx:=u D } I h) fun f s1 q=>?_)
 cases f with
 | next =>
  obtain ⟨σ', H', I', q⟩:=q
  exact h2 pins s1 σ' H' D I' q
 | ret v=>exact q
 | brk=>exact q
 | cont=>exact q
theorem Jfn (h1 : PS X st t) : PSs X [st] t:=by
 intro pins s σ H D I h
 refine wpAny_execs_cons (thn (h1 pins s σ H D I h) fun f s1 q=>?_)
 cases f with
 | next=>exact wpAny_execs_nil q
 | ret v=>exact q
 | brk=>exact q
 | cont=>exact q
theorem Inv.quiet {pins : List (Addr × Obj)} {σ : St} {H : Hp} {s : Shared} (I : Inv X pins σ H s) : interactive X.env = false:=by simp [interactive,I.ok.kind]
def tDrop (te : TE) : TS:=fun D σ H=>te σ H fun _ H1=>D.nx σ H1
theorem Jhl (he : PE X e te) (hs : swapsWith e none pos.line X.env = pure false:=by rfl) : PS X (.Expr e pos) (tDrop te):=by
 intro pins s σ H D I h
 exact wpAny_Expr_any (thn (he pins s σ H _ I h) fun v s1 ⟨x,H1,I1,r1,q1⟩=>⟨σ,H1,I1,q1⟩) I.quiet hs
def tRet (te : TE) : TS:=fun D σ H=>te σ H D.rt
theorem Jfw (he : PE X e te) : PS X (.Return (some e) pos) (tRet te):=by
 intro pins s σ H D I h
 exact wpAny_Return_some (thn (he pins s σ H _ I h) fun v s1 ⟨x,H1,I1,r1,q1⟩=>⟨x,σ,H1,I1,r1,q1⟩)
def tIfS (c : TT) (t u : TS) : TS:=fun D σ H=>c σ H fun b H1=>if b = true then t D σ H1 else u D σ H1
theorem Jg9 {c : Expr} {a b : List Stmt} {tc : TT} (hc : PT X c tc) (ha : PSs X a t) (hb : PSs X b u) : PS X (.If c a b pos) (tIfS tc t u):=by
 intro pins s σ H D I h
 refine wpAny_If (thn (hc pins s σ H _ I h) fun d s1 ⟨H1,I1,q1⟩=>?_)
 cases d with
 | true=>exact ha pins s1 σ H1 D I1 q1
 | false=>exact hb pins s1 σ H1 D I1 q1
end
abbrev TG:=V → St → Hp → (St → Hp → Prop) → Prop
abbrev TGs:=List V → St → Hp → (St → Hp → Prop) → Prop
def PG (X : Cx) (target : Expr) (t : TG) : Prop :=
 ∀ (pins : List (Addr × Obj)) (s : Shared) (σ : St) (H : Hp) (v : V) (u : Value) (Q : St → Hp → Prop),Inv X pins σ H s → RelV v u → t v σ H Q →
  wpAny (model X.prog X.w) X.A (assign target X.env u) (fun _ s'=>∃ σ' H', Inv X pins σ' H' s' ∧ Q σ' H') X.xe s
def PGs (X : Cx) (ts : List Expr) (t : TGs) : Prop :=
 ∀ (pins : List (Addr × Obj)) (s : Shared) (σ : St) (H : Hp) (vs : List V) (us : List Value) (Q : St → Hp → Prop),Inv X pins σ H s → Vals vs us → t vs σ H Q →
  wpAny (model X.prog X.w) X.A (assignInOrder ((assignEach ts X.env).map (·.2)) us) (fun _ s'=>∃ σ' H', Inv X pins σ' H' s' ∧ Q σ' H') X.xe s
abbrev TSet:=V → V → V → Hp → (Hp → Prop) → Prop
def PSet (X : Cx) (t : TSet) : Prop :=
 ∀ (pins : List (Addr × Obj)) (s : Shared) (σ : St) (H : Hp) (o i v : V) (ov iv u : Value) (Q : Hp → Prop),Inv X pins σ H s → RelV o ov → RelV i iv → RelV v u → t o i v H Q →
  wpAny (model X.prog X.w) X.A (setItem ov iv u) (fun _ s'=>∃ H', Inv X pins σ H' s' ∧ Q H') X.xe s
section
variable {X : Cx} {pos : Pos}
def Jkc (i : Nat) : TG:=fun v σ H Q=>Q (σ.set i (some v)) H
theorem Jg6 {i : Nat} {x : Str} (hN : X.N.Nodup) (hi : X.N[i]? = some x) (hx : Loc X.env.scope x) (hf : X.fn x = true ∨ X.env.scope.names.lookup x = some .local:=by first | exact .inl rfl | exact .inr rfl | assumption) : PG X (.Name x pos) (Jkc i):=by
 intro pins s σ H v u Q I r h
 exact wpAny_assign_Name (Jl6 I hN hi hx r (fun s' I'=>⟨_,H,I', h⟩) hf)
def gNil : TGs:=fun vs σ H Q=>vs = [] ∧ Q σ H
def gCons (t : TG) (u : TGs) : TGs:=fun vs σ H Q=>∃ v r,vs = v :: r ∧ t v σ H fun σ' H'=>u r σ' H' Q
theorem Joj : PGs X [] gNil:=by
 intro pins s σ H vs us Q I r h
 obtain ⟨e,h⟩:=h
 subst e
 cases r
 exact assignInOrder_nil ⟨σ,H,I,h⟩
theorem Jjs {e : Expr} {es : List Expr} {t : TG} {u : TGs} (h1 : PG X e t) (h2 : PGs X es u)
  (hs : (assignEach (e :: es) X.env).map (·.2) = assign e X.env :: (assignEach es X.env).map (·.2):=by rfl) : PGs X (e :: es) (gCons t u):=by
 intro pins s σ H vs us Q I r h
 obtain ⟨v,vr,e1,h⟩:=h
 subst e1
 cases r with
 | cons r rr =>
  rw [hs]
  refine assignInOrder_cons (thn (h1 pins s σ H _ _ _ I r h) fun _ s1 ⟨σ1,H1,I1,q1⟩=>?_)
  exact h2 pins s1 σ1 H1 _ _ Q I1 rr q1
def gTup (K : PySem.W.Frag) (n : Nat) (t : TGs) : TG:=fun v σ H Q=>∃ a xs,v = .ref a ∧ SqT K H a xs ∧ xs.length = n ∧ t xs σ H Q
theorem Jqd {es : List Expr} {k : Nat} {t : TGs} {n : Nat} (hc : X.calm = true) (h : PGs X es t)
  (hn : (assignEach es X.env).length = n:=by rfl) (hst : (assignEach es X.env).findIdx? (·.1) = none:=by rfl) : PG X (.Tuple es k pos) (gTup X.K n t):=by
 intro pins s σ H v u Q I r hw
 obtain ⟨a,xs,e1,hq,hl,hw⟩:=hw
 subst e1
 cases r
 obtain ⟨its,rv,ht,hz⟩:=I.tuple hq
 refine assign_Tuple_tuple (I.ok.hd hc) ht (by simp [hn,← hl,rv.length]) hst fun h' hx=>?_
 have I1 : Inv X pins σ H { s with heap:=h' }:=I.kept (t':=s.toks) fun b o e=>hx b o (Nat.ne_of_lt (Heap.lt_size e)) e
 exact h pins _ σ H xs _ Q I1 (by simpa using rv) hw
def gSub (to ti : TE) (t : TSet) : TG:=fun v σ H Q=>to σ H fun o H1=>ti σ H1 fun i H2=>t o i v H2 fun H3=>Q σ H3
theorem Jl3 {o i : Expr} {to ti : TE} {t : TSet} (ho : PE X o to) (hi : PE X i ti) (hs : PSet X t)
  (ha : ∀ v,assign (.Subscript o i pos) X.env v = (do
   let ov ← holding [v] (eval o X.env)
   let iv ← holding [v,ov] (eval i X.env)
   standAt pos
   holding [v,ov,iv] (setItem ov iv v)
   release [v,ov,iv] []):=by intro _; rfl) : PG X (.Subscript o i pos) (gSub to ti t):=by
 intro pins s σ H v u Q I r h
 rw [ha]
 refine wpAny_bind (wpAny_holding (thn (ho pins s σ H _ I h) fun ov s1 ⟨x,H1,I1,r1,q1⟩=>?_))
 refine wpAny_bind (wpAny_holding (thn (hi pins s1 σ H1 _ I1 q1) fun iv s2 ⟨y,H2,I2,r2,q2⟩=>?_))
 refine wpAny_bind (wpAny_standAt (wpAny_bind (wpAny_holding (thn (hs pins s2 σ H2 x y v ov iv u _ I2 r1 r2 r q2) fun _ s3 ⟨H3,I3,q3⟩=>?_))))
 exact wpAny_release ⟨σ,H3,I3,q3⟩
def tAsg (te : TE) (g : TG) : TS:=fun D σ H=>te σ H fun x H1=>g x σ H1 D.nx
theorem Jl5 {tg e : Expr} {te : TE} {g : TG} (he : PE X e te) (hg : PG X tg g) (hs : swapsWithSole [tg] e pos.line X.env = pure false:=by rfl) (hw : swappedStores [tg] e X.env = pure none:=by rfl)
  (h1 : (assignEach [tg] X.env).map (·.2) = [assign tg X.env]:=by rfl) : PS X (.Assign [tg] e pos) (tAsg te g):=by
 intro pins s σ H D I h
 refine wpAny_Assign_stores (thn (he pins s σ H _ I h) fun v s1 ⟨x,H1,I1,r1,q1⟩=>?_) hs hw
 rw [h1]
 exact thn (hg pins s1 σ H1 x v _ I1 r1 q1) fun _ s2 q=>q
theorem Jfy {i : Nat} {x : Str} {e : Expr} {te : TE} {pos' : Pos} (hN : X.N.Nodup) (hi : X.N[i]? = some x) (hx : Loc X.env.scope x) (he : PE X e te) (hs : swapsWith e (some (.Name x pos')) pos.line X.env = pure false:=by rfl) (hf : X.fn x = true ∨ X.env.scope.names.lookup x = some .local:=by first | exact .inl rfl | exact .inr rfl | assumption) :
  PS X (.Assign [.Name x pos'] e pos) (tAsg te (Jkc i)):=by
 intro pins s σ H D I h
 refine wpAny_Assign_Name (thn (he pins s σ H _ I h) fun v s1 ⟨y,H1,I1,r1,q1⟩=>?_) hs
 exact Jl6 I1 hN hi hx r1 (fun s2 I2=>⟨_,H1,I2,q1⟩) hf
end
section
variable {X : Cx} {pos : Pos}
end
structure It where
 go : Nat → Hp → Prop
 yld : Nat → Hp → V → Hp → Prop
 stop : Nat → Hp → Prop
def Jjx (X : Cx) (pins : List (Addr × Obj)) (H : Hp) (b : Addr) : Prop :=
 H b = none ∧ b ≠ X.env.locals ∧ b ∉ X.fs ∧ (b ∈ X.ex ∨ X.s₀.heap.objs.size ≤ b) ∧ (∀ x c,X.env.cells.lookup x = some c → c ≠ b) ∧ ∀ p ∈ X.pn ++ pins,p.1 ≠ b
theorem Inv.fpOk {X : Cx} {pins : List (Addr × Obj)} {σ : St} {H H' : Hp} {s : Shared} {b : Addr} (I : Inv X pins σ H s) (hb : s.heap.objs.size ≤ b) (hn : H' b = none) : Jjx X pins H' b:=by
 refine ⟨hn,Nat.ne_of_gt (Nat.lt_of_lt_of_le I.lt hb),I.nofs hb,.inr (Nat.le_trans I.sz hb),fun x c e z=>?_,fun p hp z=>?_⟩
 ·obtain ⟨v,q⟩:=I.cell x c e
  exact absurd (Nat.lt_of_lt_of_le q.lt (by rw [z]; exact hb)) (Nat.lt_irrefl _)
 ·exact absurd (Nat.lt_of_lt_of_le (Heap.lt_size (I.pin p hp).1) (by rw [z]; exact hb)) (Nat.lt_irrefl _)
structure Jm7 (P : Program) (w : World) (K : PySem.W.Frag) (tg : Expr) (J : It) (fp : List Addr) (it : Addr) (tn : Nat → Heap → Prop) : Prop where
 mem : it ∈ fp
 obj : ∀ i h,tn i h → ∀ b ∈ fp,∃ o,h.get? b = some o ∧ ∀ v,o.data ≠ .cell v
 keep : ∀ i h h', tn i h → (∀ b ∈ fp,∀ o,h.get? b = some o → h'.get? b = some o) → tn i h'
 item : ∀ (X : Cx),X.prog = P → X.w = w → X.K = K → X.calm = true → ∀ (i : Nat) (pins : List (Addr × Obj)) (s : Shared) (σ : St) (H : Hp) (E : Value → Shared → Prop),Inv X pins σ H s → (∀ b ∈ fp,Jjx X pins H b) → tn i s.heap → J.go i H →
  wpAny (model P w) X.A (pyNext (.ref it)) (fun r s1=>∃ u,r = some u ∧
   wpAny (model P w) X.A (letOwnedTupleGo tg (.ref it) u) (fun _ s2=>∃ x H', Inv X pins σ H' s2 ∧ RelV x u ∧ J.yld i H x H' ∧ tn (i + 1) s2.heap ∧ ∀ b ∈ fp,H' b = none) E s1) E s
 done : ∀ (X : Cx),X.prog = P → X.w = w → X.K = K → X.calm = true → ∀ (i : Nat) (pins : List (Addr × Obj)) (s : Shared) (σ : St) (H : Hp) (E : Value → Shared → Prop),Inv X pins σ H s → (∀ b ∈ fp,Jjx X pins H b) → tn i s.heap → J.stop i H →
  wpAny (model P w) X.A (pyNext (.ref it)) (fun r s1=>r = none ∧ Inv X pins σ H s1) E s
 self : ∀ (A : Around) (i : Nat) (s : Shared) (Q : Value → Shared → Prop) (E : Value → Shared → Prop),tn i s.heap → Q (.ref it) s → wpAny (model P w) A (pyIter (.ref it)) Q E s
abbrev TI:=St → Hp → (It → Hp → Prop) → Prop
def PIE (X : Cx) (pins : List (Addr × Obj)) (σ : St) (tg : Expr) (R : It → Hp → Prop) (itv : Value) (s2 : Shared) : Prop :=
 ∃ (it : Addr) (fp : List Addr) (tn : Nat → Heap → Prop) (J : It) (H' : Hp),itv = .ref it ∧ Inv X pins σ H' s2 ∧ Jm7 X.prog X.w X.K tg J fp it tn ∧ tn 0 s2.heap ∧ (∀ b ∈ fp,Jjx X pins H' b) ∧ R J H'
def PI (X : Cx) (tg iter : Expr) (wi : TI) : Prop :=
 ∀ (pins : List (Addr × Obj)) (s : Shared) (σ : St) (H : Hp) (R : It → Hp → Prop),Inv X pins σ H s → wi σ H R →
  wpAny (model X.prog X.w) X.A (eval iter X.env) (fun v s1=>wpAny (model X.prog X.w) X.A (pyIter v) (PIE X pins σ tg R) X.xe s1) X.xe s
theorem Job {M : Model} {A : Around} {E : Value → Shared → Prop} {s : Shared} {tg : Expr} {it : Addr} {u : Value} {o : Obj} {n : String} {vs : Array Value} {Q : Unit → Shared → Prop} (ho : s.heap.get? it = some o) (hc : o.cls = .type n) (hd : o.data = .fields vs)
  (hn : ["enumerate","zip","dict_itemiterator","dict_reverseitemiterator","odict_iterator","itertools.zip_longest","itertools.pairwise"].contains n = false) (hQ : Q () s) : wpAny M A (letOwnedTupleGo tg (.ref it) u) Q E s:=by
 unfold letOwnedTupleGo
 cases tg <;> first
  | exact wpAny_pure hQ
  | (cases u <;> first
    | exact wpAny_pure hQ
    | (refine wpAny_bind (wpAny_load ho ?_)
       rw [hc,hd]
       show wpAny M A (if (["enumerate","zip","dict_itemiterator","dict_reverseitemiterator","odict_iterator","itertools.zip_longest","itertools.pairwise"].contains n && vs[0]? == some (rawInt _)) = true then _ else _) Q E s
       rw [if_neg (by intro h; rw [hn,Bool.false_and] at h; cases h)]
       exact wpAny_pure hQ))
def Itl (K : PySem.W.Frag) (a : Addr) : It :=
 ⟨fun i H=>∃ xs x,SqL K H a xs ∧ xs[i]? = some x,fun i H x H'=>H' = H ∧ ∀ xs,SqL K H a xs → xs[i]? = some x,fun i H=>∃ xs,SqL K H a xs ∧ xs.length ≤ i⟩
def Itt (K : PySem.W.Frag) (a : Addr) : It :=
 ⟨fun i H=>∃ xs x,SqT K H a xs ∧ xs[i]? = some x,fun i H x H'=>H' = H ∧ ∀ xs,SqT K H a xs → xs[i]? = some x,fun i H=>∃ xs,SqT K H a xs ∧ xs.length ≤ i⟩
def Itr (lo : Int) (n : Nat) : It:=⟨fun i _=>i < n,fun i H x H'=>H' = H ∧ x = .int (lo + i),fun i _=>n ≤ i⟩
theorem Jm5 {P : Program} {w : World} {K : PySem.W.Frag} {tg : Expr} (a it : Addr) : Jm7 P w K tg (Itl K a) [it] it (fun i h=>h.IsListIter it a i) where
 mem:=by simp
 obj:=fun i h st b hb=>by
  have e : b = it:=by simpa using hb
  subst e
  obtain ⟨o,e,c,d⟩:=st
  exact ⟨o,e,fun v z=>by rw [d] at z; cases z⟩
 keep:=fun i h h' st k=>st.at fun o e=>k it (by simp) o e
 item:=by
  intro X hP hw hK hc i pins s σ H E I hf st hg
  subst hP hw hK
  obtain ⟨xs,x,hq,hx⟩:=hg
  obtain ⟨its,rv,p,hz⟩:=I.list hq
  obtain ⟨u,hu,ru⟩:=rv.get hx
  obtain ⟨f0,f1,f2,f3,f4,f5⟩:=hf it (by simp)
  refine wpAny_pyNext_list_item st p.isList (x:=u) (by simpa using hu) fun h' st' sb=>?_
  have I1 : Inv X pins σ H { s with heap:=h' }:=I.turned (t':=s.toks) (fun b o hb e=>(sb.2 b hb).trans e) f0 f1 f3 f4 f5
  obtain ⟨o,e,c,d⟩:=id st'
  exact ⟨u,rfl,Job (s:={ s with heap:=h' }) e c d (by decide) ⟨x,H,I1,ru,⟨rfl,fun ys hy=>by rw [I.list_inj hy hq]; exact hx⟩,st', fun b hb=>(hf b hb).1⟩⟩
 done:=by
  intro X hP hw hK hc i pins s σ H E I hf st hg
  subst hP hw hK
  obtain ⟨xs,hq,hx⟩:=hg
  obtain ⟨its,rv,p,hz⟩:=I.list hq
  obtain ⟨f0,f1,f2,f3,f4,f5⟩:=hf it (by simp)
  have hl:=rv.length
  exact wpAny_pyNext_list_end (I.ok.hd hc) st p.isList (by simp; omega) fun h' eb=>⟨rfl,I.turned (t':=s.toks) (fun b o hb e=>eb b o hb e) f0 f1 f3 f4 f5⟩
 self:=fun _ _ _ _ _ st h=>wpAny_pyIter_listiter st h
theorem Jl7 {P : Program} {w : World} {K : PySem.W.Frag} {tg : Expr} (a it : Addr) : Jm7 P w K tg (Itt K a) [it] it (fun i h=>h.IsTupleIter it a i) where
 mem:=by simp
 obj:=fun i h st b hb=>by
  have e : b = it:=by simpa using hb
  subst e
  obtain ⟨o,e,c,d⟩:=st
  exact ⟨o,e,fun v z=>by rw [d] at z; cases z⟩
 keep:=fun i h h' st k=>st.at fun o e=>k it (by simp) o e
 item:=by
  intro X hP hw hK hc i pins s σ H E I hf st hg
  subst hP hw hK
  obtain ⟨xs,x,hq,hx⟩:=hg
  obtain ⟨its,rv,p,hz⟩:=I.tuple hq
  obtain ⟨u,hu,ru⟩:=rv.get hx
  obtain ⟨f0,f1,f2,f3,f4,f5⟩:=hf it (by simp)
  refine wpAny_pyNext_tuple_item st (show s.heap.IsTuple a its.toArray from p) (x:=u) (by simpa using hu) fun h' st' sb=>?_
  have I1 : Inv X pins σ H { s with heap:=h' }:=I.turned (t':=s.toks) (fun b o hb e=>(sb.2 b hb).trans e) f0 f1 f3 f4 f5
  obtain ⟨o,e,c,d⟩:=id st'
  exact ⟨u,rfl,Job (s:={ s with heap:=h' }) e c d (by decide) ⟨x,H,I1,ru,⟨rfl,fun ys hy=>by rw [I.tuple_inj hy hq]; exact hx⟩,st', fun b hb=>(hf b hb).1⟩⟩
 done:=by
  intro X hP hw hK hc i pins s σ H E I hf st hg
  subst hP hw hK
  obtain ⟨xs,hq,hx⟩:=hg
  obtain ⟨its,rv,p,hz⟩:=I.tuple hq
  obtain ⟨f0,f1,f2,f3,f4,f5⟩:=hf it (by simp)
  have hl:=rv.length
  exact wpAny_pyNext_tuple_end (I.ok.hd hc) st (show s.heap.IsTuple a its.toArray from p) (by simp; omega) fun h' eb=>⟨rfl,I.turned (t':=s.toks) (fun b o hb e=>eb b o hb e) f0 f1 f3 f4 f5⟩
 self:=fun _ _ _ _ _ st h=>wpAny_pyIter_tupleiter st h
theorem Jo2 {P : Program} {w : World} {K : PySem.W.Frag} {tg : Expr} (it : Addr) (lo : Int) (n : Nat) : Jm7 P w K tg (Itr lo n) [it] it (fun i h=>IsRangeIter h it (lo + (i : Nat) * 1) ((n : Int) - (i : Nat)) 1) where
 mem:=by simp
 obj:=fun i h st b hb=>by
  have e : b = it:=by simpa using hb
  subst e
  exact ⟨_,st,fun v z=>by
   have z' : Data.fields _ = Data.cell v:=z
   cases z'⟩
 keep:=fun i h h' st k=>k it (by simp) _ st
 item:=by
  intro X hP hw hK hc i pins s σ H E I hf st hg
  subst hP hw hK
  obtain ⟨f0,f1,f2,f3,f4,f5⟩:=hf it (by simp)
  have W:=Walks.range (prog:=X.prog) (w:=X.w) (I.ok.hd hc) it lo 1 n
  refine W.item i s _ _ hg st fun v h' tk hv st' kk=>?_
  obtain ⟨t,rfl⟩:=hv
  have I1 : Inv X pins σ H { s with heap:=h', toks:=tk }:=I.turned (fun b o hb e=>kk b o (by simpa using hb) e) f0 f1 f3 f4 f5
  refine ⟨_,rfl,Job (s:={ s with heap:=h', toks:=tk }) (n := "range_iterator") st' rfl rfl (by decide) ⟨.int (lo + i),H,I1,⟨t,?_⟩,⟨rfl,rfl⟩,st', fun b hb=>(hf b hb).1⟩⟩
  rw [Int.mul_one]
 done:=by
  intro X hP hw hK hc i pins s σ H E I hf st hg
  subst hP hw hK
  obtain ⟨f0,f1,f2,f3,f4,f5⟩:=hf it (by simp)
  exact wpAny_pyNext_range_end (I.ok.hd hc) st (by have : n ≤ i:=hg; omega) fun h' eb=>⟨rfl,I.turned (t':=s.toks) (fun b o hb e=>eb b o hb e) f0 f1 f3 f4 f5⟩
 self:=fun _ _ _ _ _ st h=>wpAny_pyIter_rangeiter st h
end L2
namespace L2
open PySem PySem.Spec PyProof.Rows
section
variable {X : Cx} {tg : Expr}
def iList (K : PySem.W.Frag) (tl : TE) : TI:=fun σ H R=>tl σ H fun x H1=>∃ a,x = .ref a ∧ (∃ xs,SqL K H1 a xs) ∧ R (Itl K a) H1
def iTup (K : PySem.W.Frag) (tl : TE) : TI:=fun σ H R=>tl σ H fun x H1=>∃ a,x = .ref a ∧ (∃ xs,SqT K H1 a xs) ∧ R (Itt K a) H1
theorem Ji0 {l : Expr} {tl : TE} (hl : PE X l tl) : PI X tg l (iList X.K tl):=by
 intro pins s σ H R I h
 refine thn (hl pins s σ H _ I h) fun v s1 ⟨x,H1,I1,r1,q1⟩=>?_
 obtain ⟨a,e,⟨xs,hq⟩,q⟩:=q1
 subst e
 cases r1
 obtain ⟨its,rv,p,hz⟩:=I1.list hq
 refine wpAny_pyIter_list p.isList ?_
 refine ⟨s1.heap.objs.size,[s1.heap.objs.size],_,_,H1,rfl,I1.kept (t':=s1.toks) fun b o e=>Heap.get?_push_of_some _ e,Jm5 a _,⟨_,Heap.get?_push_size _ rfl,rfl,rfl⟩,fun b hb=>?_,q⟩
 have e : b = s1.heap.objs.size:=by simpa using hb
 subst e
 exact I1.fpOk (Nat.le_refl _) (I1.hok.fresh (Nat.le_refl _))
theorem pi_tup {l : Expr} {tl : TE} (hl : PE X l tl) : PI X tg l (iTup X.K tl):=by
 intro pins s σ H R I h
 refine thn (hl pins s σ H _ I h) fun v s1 ⟨x,H1,I1,r1,q1⟩=>?_
 obtain ⟨a,e,⟨xs,hq⟩,q⟩:=q1
 subst e
 cases r1
 obtain ⟨its,rv,p,hz⟩:=I1.tuple hq
 refine wpAny_pyIter_tuple (show s1.heap.IsTuple a its.toArray from p) ?_
 refine ⟨s1.heap.objs.size,[s1.heap.objs.size],_,_,H1,rfl,I1.kept (t':=s1.toks) fun b o e=>Heap.get?_push_of_some _ e,Jl7 a _,⟨_,Heap.get?_push_size _ rfl,rfl,rfl⟩,fun b hb=>?_,q⟩
 have e : b = s1.heap.objs.size:=by simpa using hb
 subst e
 exact I1.fpOk (Nat.le_refl _) (I1.hok.fresh (Nat.le_refl _))
theorem Jqj {pins : List (Addr × Obj)} {σ : St} {H : Hp} {s : Shared} {R : It → Hp → Prop} {E : Value → Shared → Prop} {lo hi : Int} {t u v : Tok} {tk : Nat} (I : Inv X pins σ H s) (h1 : -(2 ^ 62) ≤ lo) (h2 : lo < 2 ^ 62) (h3 : -(2 ^ 62) ≤ hi) (h4 : hi < 2 ^ 62)
  (q : R (Itr lo (hi - lo).toNat) H) : wpAny (model X.prog X.w) X.A (pyIter (.ref s.heap.objs.size)) (PIE X pins σ tg R) E { s with heap:=s.heap.push { cls:=.type "range",data:=.fields #[.int lo t,.int hi u,.int 1 v] },toks:=tk }:=by
 refine wpAny_pyIter_range (IsRange.new ..) (small_one h1 h2 h3 h4) ?_
 have I1 : Inv X pins σ H { s with heap:=s.heap.push { cls:=.type "range",data:=.fields #[.int lo t,.int hi u,.int 1 v] },toks:=tk }:=I.kept fun b o e=>Heap.get?_push_of_some _ e
 refine ⟨(s.heap.push { cls:=.type "range",data:=.fields #[.int lo t,.int hi u,.int 1 v] }).objs.size,[(s.heap.push { cls:=.type "range",data:=.fields #[.int lo t,.int hi u,.int 1 v] }).objs.size],_,_,H,rfl,
  I1.kept (t':=tk) fun b o e=>Heap.get?_push_of_some _ e,Jo2 _ lo (hi - lo).toNat,?_,fun b hb=>?_,q⟩
 ·have e1 : lo + ((0 : Nat) : Int) * 1 = lo:=by simp
  have e2 : (((hi - lo).toNat : Nat) : Int) - ((0 : Nat) : Int) = Builtin.Range.rangeSize lo hi 1:=by rw [rangeSize_one]; split <;> omega
  show IsRangeIter _ _ (lo + ((0 : Nat) : Int) * 1) ((((hi - lo).toNat : Nat) : Int) - ((0 : Nat) : Int)) 1
  rw [e1,e2]
  exact Heap.get?_push_size _ rfl
 ·have e : b = (s.heap.push { cls:=.type "range",data:=.fields #[.int lo t,.int hi u,.int 1 v] }).objs.size:=by simpa using hb
  subst e
  exact I1.fpOk (Nat.le_refl _) (I1.hok.fresh (Nat.le_refl _))
def iRng1 (ta : TA) : TI:=fun σ H R=>ta σ H fun vs H1=>∃ j : Int,vs = [.int j] ∧ -(2 ^ 62) ≤ j ∧ j < 2 ^ 62 ∧ R (Itr 0 j.toNat) H1
theorem Jhr {a : Expr} {ta : TA} {p pos : Pos} (hg : Gl X "range") (hm : X.mg "range" = none) (ha : PA X [a] ta) (hs : starEach [a] X.env = [(false,eval a X.env)]:=by rfl) : PI X tg (.Call (.Name "range" p) [a] [] pos) (iRng1 ta):=by
 intro pins s σ H R I h
 refine Call_ (Jk4 I hg hm boot_range (PyProof.Rows.callWith_type1 (thn (ha pos pins s σ H _ I h) fun us s1 ⟨vs,H1,I1,r1,q1⟩=>?_) hs rfl))
 obtain ⟨j,e,q1,q2,q⟩:=q1
 subst e
 cases r1 with
 | cons r rr =>
  cases rr
  obtain ⟨t,rfl⟩:=r
  exact call_range_1 (Jqj I1 (by omega) (by omega) q1 q2 (by simpa using q))
def tFor (wi : TI) (g : TG) (tb : TS) : TS:=fun D σ H=>wi σ H fun J H1=>∃ W : Nat → Nat → St → Hp → Prop,(∃ m,W 0 m σ H1) ∧ ∀ i m σ H,W i m σ H →
 (J.stop i H ∧ D.nx σ H) ∨ (J.go i H ∧ ∃ N : St → Hp → Prop,(∀ σ' H', N σ' H' → ∃ m', m' < m ∧ W (i + 1) m' σ' H') ∧ ∀ x H', J.yld i H x H' → g x σ H' fun σ2 H2=>tb { D with nx:=N,ct:=N,bk:=D.nx } σ2 H2)
def Jl4 (fp : List Addr) (h : Heap) : List (Addr × Obj):=fp.filterMap fun b=>(h.get? b).map fun o=>(b,o)
theorem Jib {fp : List Addr} {h : Heap} {b : Addr} {o : Obj} (hb : b ∈ fp) (e : h.get? b = some o) : (b,o) ∈ Jl4 fp h:=List.mem_filterMap.mpr ⟨b,hb,by rw [e]; rfl⟩
theorem Jp6 {fp : List Addr} {h : Heap} {p : Addr × Obj} (hp : p ∈ Jl4 fp h) : p.1 ∈ fp ∧ h.get? p.1 = some p.2:=by
 obtain ⟨b,hb,e⟩:=List.mem_filterMap.mp hp
 cases q : h.get? b with
 | none=>rw [q] at e; cases e
 | some o =>
  rw [q] at e
  have e' : (b,o) = p:=Option.some.inj e
  subst e'
  exact ⟨hb,q⟩
theorem Inv.pinned {pins : List (Addr × Obj)} {σ : St} {H : Hp} {s : Shared} {fp : List Addr} (I : Inv X pins σ H s) (hf : ∀ b ∈ fp,Jjx X pins H b) (ho : ∀ b ∈ fp,∃ o,s.heap.get? b = some o ∧ ∀ v,o.data ≠ .cell v) : Inv X (pins ++ Jl4 fp s.heap) σ H s :=
 I.pins_of fun p hp=>(List.mem_append.mp hp).elim (fun z=>I.pin p (List.mem_append_right _ z)) fun z=>by
  obtain ⟨hb,e⟩:=Jp6 z
  obtain ⟨f0,f1,f2,_⟩:=hf p.1 hb
  obtain ⟨o,e', d⟩:=ho p.1 hb
  rw [e] at e'; cases e'
  exact ⟨e,f0,f1,f2,d⟩
theorem Inv.unpinned {pins pl : List (Addr × Obj)} {σ : St} {H : Hp} {s : Shared} (I : Inv X (pins ++ pl) σ H s) : Inv X pins σ H s:=I.pins_of fun p hp=>I.pin p (List.mem_append_right _ (List.mem_append_left _ hp))
theorem Jie {iter : Expr} {body : List Stmt} {wi : TI} {g : TG} {tb : TS} {pos : Pos} (hp : PassesOwn (model X.prog X.w) X.A X.env X.xe) (hc : X.calm = true) (hi : PI X tg iter wi) (hg : PG X tg g) (hb : PSs X body tb)
  (hs : ∀ x,foldedSetIterable iter X.env x = pure x:=by intro _; rfl) : PS X (.For tg iter body [] pos) (tFor wi g tb):=by
 intro pins s σ H D I h
 refine wpAny_For (thn (hi pins s σ H _ I h) fun v s1 h1=>thn h1 fun itv s2 h2=>?_) hs
 obtain ⟨it,fp,tn,J,H2,e,I2,T,st2,f2,W,⟨m0,w0⟩,turn⟩:=h2
 subst e
 have stat : ∀ {H' : Hp},(∀ b ∈ fp,H' b = none) → ∀ b ∈ fp,Jjx X pins H' b:=fun hn b hb=>⟨hn b hb,(f2 b hb).2⟩
 refine codeAny_forLoop_any (fun n s'=>∃ i σ' H', Inv X pins σ' H' s' ∧ tn i s'.heap ∧ (∀ b ∈ fp,H' b = none) ∧ W i n σ' H') ?_ m0 ⟨0,σ,H2,I2,st2,fun b hb=>(f2 b hb).1,w0⟩
 rintro n s3 ⟨i,σ3,H3,I3,st3,fr3,w3⟩
 rcases turn i n σ3 H3 w3 with ⟨stop,qn⟩ | ⟨go,N,hN,step⟩
 ·refine wpAny_passesOwn hp (thn (T.done X rfl rfl rfl hc i pins s3 σ3 H3 X.xe I3 (stat fr3) st3 stop) fun r s4 ⟨hr,I4⟩=>?_)
  subst hr
  exact wpAny_execs_nil ⟨σ3,H3,I4,qn⟩
 ·refine wpAny_passesOwn hp (thn (T.item X rfl rfl rfl hc i pins s3 σ3 H3 X.xe I3 (stat fr3) st3 go) fun r s4 ⟨u,hr,h4⟩=>?_)
  subst hr
  refine wpAny_passesOwn hp (thn h4 fun _ s5 ⟨x,H5,I5,r5,y5,st5,fr5⟩=>?_)
  have I5':=I5.pinned (stat fr5) (T.obj _ _ st5)
  refine wpAny_passesOwn hp (thn (hg _ s5 σ3 H5 x u _ I5' r5 (step x H5 y5)) fun _ s6 ⟨σ6,H6,I6,q6⟩=>?_)
  refine wpAny_passesOwn hp (thn (hb _ s6 σ6 H6 _ I6 q6) fun f s7 q7=>?_)
  have again : ∀ {σ7 : St} {H7 : Hp},Inv X (pins ++ Jl4 fp s5.heap) σ7 H7 s7 → N σ7 H7 → ∃ m,m < n ∧ ∃ i σ' H', Inv X pins σ' H' s7 ∧ tn i s7.heap ∧ (∀ b ∈ fp,H' b = none) ∧ W i m σ' H':=fun {σ7 H7} I7 n7=>by
   obtain ⟨m', hm,w7⟩:=hN σ7 H7 n7
   refine ⟨m', hm,i + 1,σ7,H7,I7.unpinned,T.keep _ _ _ st5 fun b hb o e=>(I7.pin (b,o) (List.mem_append_right _ (List.mem_append_right _ (Jib hb e)))).1,fun b hb=>?_,w7⟩
   obtain ⟨o,e,d⟩:=T.obj _ _ st5 b hb
   exact (I7.pin (b,o) (List.mem_append_right _ (List.mem_append_right _ (Jib hb e)))).2.1
  cases f with
  | next=>obtain ⟨σ7,H7,I7,n7⟩:=q7; exact again I7 n7
  | cont=>obtain ⟨σ7,H7,I7,n7⟩:=q7; exact again I7 n7
  | brk=>obtain ⟨σ7,H7,I7,q7⟩:=q7; exact ⟨σ7,H7,I7.unpinned,q7⟩
  | ret v=>obtain ⟨x7,σ7,H7,I7,r7,q7⟩:=q7; exact ⟨x7,σ7,H7,I7.unpinned,r7,q7⟩
end
theorem Jjn {K : PySem.W.Frag} {a : Addr} {xs : List V} {g : TG} {tb : TS} {D : Ends} {σ : St} {H : Hp} (Pv : Nat → St → Hp → Prop) (h0 : Pv 0 σ H) (hl : ∀ i σ H,i ≤ xs.length → Pv i σ H → SqL K H a xs)
  (hs : ∀ i x σ H,xs[i]? = some x → Pv i σ H → g x σ H fun σ2 H2=>tb { D with nx:=Pv (i + 1),ct:=Pv (i + 1),bk:=D.nx } σ2 H2) (hd : ∀ σ H,Pv xs.length σ H → D.nx σ H) :
  ∃ W : Nat → Nat → St → Hp → Prop,(∃ m,W 0 m σ H) ∧ ∀ i m σ H,W i m σ H →
   ((Itl K a).stop i H ∧ D.nx σ H) ∨ ((Itl K a).go i H ∧ ∃ N : St → Hp → Prop,(∀ σ' H', N σ' H' → ∃ m', m' < m ∧ W (i + 1) m' σ' H') ∧ ∀ x H', (Itl K a).yld i H x H' → g x σ H' fun σ2 H2=>tb { D with nx:=N,ct:=N,bk:=D.nx } σ2 H2):=by
 refine ⟨fun i m σ H=>m = xs.length - i ∧ i ≤ xs.length ∧ Pv i σ H,⟨xs.length,by simp,Nat.zero_le _,h0⟩,?_⟩
 rintro i m σ H ⟨rfl,hi,p⟩
 have q:=hl i σ H hi p
 by_cases hlt : i < xs.length
 ·refine .inr ⟨⟨xs,xs[i],q,by simp [hlt]⟩,Pv (i + 1),fun σ' H' p'=>⟨xs.length - (i + 1),by omega,rfl,hlt,p'⟩,fun x H' y=>?_⟩
  obtain ⟨e,y⟩:=y
  subst e
  exact hs i x σ _ (y xs q) p
 ·have e : i = xs.length:=by omega
  subst e
  exact .inl ⟨⟨xs,q,Nat.le_refl _⟩,hd σ H p⟩
theorem Jrb {K : PySem.W.Frag} {a : Addr} {xs : List V} {g : TG} {tb : TS} {D : Ends} {σ : St} {H : Hp} (Pv : Nat → St → Hp → Prop) (h0 : Pv 0 σ H) (hl : ∀ i σ H,i ≤ xs.length → Pv i σ H → SqT K H a xs)
  (hs : ∀ i x σ H,xs[i]? = some x → Pv i σ H → g x σ H fun σ2 H2=>tb { D with nx:=Pv (i + 1),ct:=Pv (i + 1),bk:=D.nx } σ2 H2) (hd : ∀ σ H,Pv xs.length σ H → D.nx σ H) :
  ∃ W : Nat → Nat → St → Hp → Prop,(∃ m,W 0 m σ H) ∧ ∀ i m σ H,W i m σ H →
   ((Itt K a).stop i H ∧ D.nx σ H) ∨ ((Itt K a).go i H ∧ ∃ N : St → Hp → Prop,(∀ σ' H', N σ' H' → ∃ m', m' < m ∧ W (i + 1) m' σ' H') ∧ ∀ x H', (Itt K a).yld i H x H' → g x σ H' fun σ2 H2=>tb { D with nx:=N,ct:=N,bk:=D.nx } σ2 H2):=by
 refine ⟨fun i m σ H=>m = xs.length - i ∧ i ≤ xs.length ∧ Pv i σ H,⟨xs.length,by simp,Nat.zero_le _,h0⟩,?_⟩
 rintro i m σ H ⟨rfl,hi,p⟩
 have q:=hl i σ H hi p
 by_cases hlt : i < xs.length
 ·refine .inr ⟨⟨xs,xs[i],q,by simp [hlt]⟩,Pv (i + 1),fun σ' H' p'=>⟨xs.length - (i + 1),by omega,rfl,hlt,p'⟩,fun x H' y=>?_⟩
  obtain ⟨e,y⟩:=y
  subst e
  exact hs i x σ _ (y xs q) p
 ·have e : i = xs.length:=by omega
  subst e
  exact .inl ⟨⟨xs,q,Nat.le_refl _⟩,hd σ H p⟩
theorem Jk1 {lo : Int} {n : Nat} {g : TG} {tb : TS} {D : Ends} {σ : St} {H : Hp} (Pv : Nat → St → Hp → Prop) (h0 : Pv 0 σ H)
  (hs : ∀ i σ H,i < n → Pv i σ H → g (.int (lo + i)) σ H fun σ2 H2=>tb { D with nx:=Pv (i + 1),ct:=Pv (i + 1),bk:=D.nx } σ2 H2) (hd : ∀ σ H,Pv n σ H → D.nx σ H) :
  ∃ W : Nat → Nat → St → Hp → Prop,(∃ m,W 0 m σ H) ∧ ∀ i m σ H,W i m σ H →
   ((Itr lo n).stop i H ∧ D.nx σ H) ∨ ((Itr lo n).go i H ∧ ∃ N : St → Hp → Prop,(∀ σ' H', N σ' H' → ∃ m', m' < m ∧ W (i + 1) m' σ' H') ∧ ∀ x H', (Itr lo n).yld i H x H' → g x σ H' fun σ2 H2=>tb { D with nx:=N,ct:=N,bk:=D.nx } σ2 H2):=by
 refine ⟨fun i m σ H=>m = n - i ∧ i ≤ n ∧ Pv i σ H,⟨n,by simp,Nat.zero_le _,h0⟩,?_⟩
 rintro i m σ H ⟨rfl,hi,p⟩
 by_cases hlt : i < n
 ·refine .inr ⟨hlt,Pv (i + 1),fun σ' H' p'=>⟨n - (i + 1),by omega,rfl,hlt,p'⟩,fun x H' y=>?_⟩
  obtain ⟨e,y⟩:=y
  subst e y
  exact hs i σ _ hlt p
 ·have e : i = n:=by omega
  subst e
  exact .inl ⟨Nat.le_refl _,hd σ H p⟩
end L2
namespace L2
open PySem PySem.Spec PyProof.Rows
abbrev R2:=V → V → Hp → VK → Prop
def OpR (X : Cx) (f : Value → Value → Sem Value) (r : R2) : Prop :=
 ∀ (pins : List (Addr × Obj)) (s : Shared) (σ : St) (H : Hp) (x y : V) (v u : Value) (Q : VK),Inv X pins σ H s → RelV x v → RelV y u → r x y H Q →
  wpAny (model X.prog X.w) X.A (f v u) (EP X pins σ Q) X.xe s
def UnR (X : Cx) (f : Value → Sem Value) (r : V → Hp → VK → Prop) : Prop :=
 ∀ (pins : List (Addr × Obj)) (s : Shared) (σ : St) (H : Hp) (x : V) (v : Value) (Q : VK),Inv X pins σ H s → RelV x v → r x H Q →
  wpAny (model X.prog X.w) X.A (f v) (EP X pins σ Q) X.xe s
def Jhs (X : Cx) (f : Value) (r : List V → Hp → VK → Prop) : Prop :=
 ∀ (pins : List (Addr × Obj)) (s : Shared) (σ : St) (H : Hp) (xs : List V) (us : List Value) (Q : VK),Inv X pins σ H s → Vals xs us → r xs H Q →
  wpAny (model X.prog X.w) X.A (call f us) (EP X pins σ Q) X.xe s
def tOp (r : R2) (ta tb : TE) : TE:=fun σ H Q=>ta σ H fun x H1=>tb σ H1 fun y H2=>r x y H2 Q
def tUn (r : V → Hp → VK → Prop) (ta : TE) : TE:=fun σ H Q=>ta σ H fun x H1=>r x H1 Q
def rI (C : Int → Int → Prop) (g : Int → Int → V) : R2:=fun x y H Q=>∃ i j,x = .int i ∧ y = .int j ∧ C i j ∧ Q (g i j) H
def rI0 (g : Int → Int → V) : R2:=fun x y H Q=>∃ i j,x = .int i ∧ y = .int j ∧ Q (g i j) H
def rU (g : Int → V) : V → Hp → VK → Prop:=fun x H Q=>∃ i,x = .int i ∧ Q (g i) H
section
variable {X : Cx} {a b c : Expr} {ta tb tc : TE} {pos : Pos}
theorem binT (ha : PE X a ta) (hb : PE X b tb) {pins : List (Addr × Obj)} {s : Shared} {σ : St} {H : Hp} {R : V → V → Hp → Prop} (I : Inv X pins σ H s)
  (h : ta σ H fun x H1=>tb σ H1 fun y H2=>R x y H2) {Q : Value → Shared → Prop} {f : Value → Value → Sem Value}
  (hf : ∀ v u s2 x y H2,Inv X pins σ H2 s2 → RelV x v → RelV y u → R x y H2 → wpAny (model X.prog X.w) X.A (f v u) Q X.xe s2) :
  wpAny (model X.prog X.w) X.A (eval a X.env) (fun v s₁=>wpAny (model X.prog X.w) X.A (eval b X.env) (fun u s₂=>wpAny (model X.prog X.w) X.A (f v u) Q X.xe s₂) X.xe s₁) X.xe s:=by
 refine thn (ha pins s σ H _ I h) fun v s1 ⟨x,H1,I1,r1,q1⟩=>?_
 refine thn (hb pins s1 σ H1 _ I1 q1) fun u s2 ⟨y,H2,I2,r2,q2⟩=>?_
 exact hf v u s2 x y H2 I2 r1 r2 q2
theorem Jg3 {op : Operator} {r : R2} (ho : OpR X (binaryOp op) r) (ha : PE X a ta) (hb : PE X b tb) : PE X (.BinOp a op b pos) (tOp r ta tb):=by
 intro pins s σ H Q I h
 exact wpAny_BinOp (binT ha hb I h fun v u s2 x y H2 I2 rx ry q=>ho pins s2 σ H2 x y v u Q I2 rx ry q)
theorem pe_un {op : UnaryOp} {r : V → Hp → VK → Prop} (ho : UnR X (unaryOp op) r) (ha : PE X a ta) : PE X (.UnaryOp op a pos) (tUn r ta):=by
 intro pins s σ H Q I h
 exact UnaryOp_ (thn (ha pins s σ H _ I h) fun v s1 ⟨x,H1,I1,r1,q1⟩=>ho pins s1 σ H1 x v Q I1 r1 q1)
theorem opI {f : Value → Value → Sem Value} {C : Int → Int → Prop} {g : Int → Int → Int}
  (rule : ∀ (i j : Int) (t u : Tok) (s : Shared) (Q : Value → Shared → Prop) (E : Value → Shared → Prop),C i j → Q (.int (g i j) s.toks) { s with toks:=s.toks + 1 } → wpAny (model X.prog X.w) X.A (f (.int i t) (.int j u)) Q E s) :
  OpR X f (rI C fun i j=>.int (g i j)):=by
 intro pins s σ H x y v u Q I rx ry h
 obtain ⟨i,j,rfl,rfl,hc,q⟩:=h
 obtain ⟨t,rfl⟩:=rx
 obtain ⟨t', rfl⟩:=ry
 exact rule i j t t' s _ _ hc ⟨.int (g i j),H,I.tok _,⟨_,rfl⟩,q⟩
theorem opI0 {f : Value → Value → Sem Value} {g : Int → Int → Int}
  (rule : ∀ (i j : Int) (t u : Tok) (s : Shared) (Q : Value → Shared → Prop) (E : Value → Shared → Prop),Q (.int (g i j) s.toks) { s with toks:=s.toks + 1 } → wpAny (model X.prog X.w) X.A (f (.int i t) (.int j u)) Q E s) :
  OpR X f (rI0 fun i j=>.int (g i j)):=by
 intro pins s σ H x y v u Q I rx ry h
 obtain ⟨i,j,rfl,rfl,q⟩:=h
 obtain ⟨t,rfl⟩:=rx
 obtain ⟨t', rfl⟩:=ry
 exact rule i j t t' s _ _ ⟨.int (g i j),H,I.tok _,⟨_,rfl⟩,q⟩
theorem opB0 {f : Value → Value → Sem Value} {g : Int → Int → Bool}
  (rule : ∀ (i j : Int) (t u : Tok) (s : Shared) (Q : Value → Shared → Prop) (E : Value → Shared → Prop),Q (.bool (g i j)) s → wpAny (model X.prog X.w) X.A (f (.int i t) (.int j u)) Q E s) :
  OpR X f (rI0 fun i j=>.bl (g i j)):=by
 intro pins s σ H x y v u Q I rx ry h
 obtain ⟨i,j,rfl,rfl,q⟩:=h
 obtain ⟨t,rfl⟩:=rx
 obtain ⟨t', rfl⟩:=ry
 exact rule i j t t' s _ _ ⟨.bl (g i j),H,I,rfl,q⟩
def CPow (i j : Int) : Prop:=0 ≤ j ∧ j ≤ 1000000 ∧ i.natAbs < 2 ^ 64
def CMul (i j : Int) : Prop:=(-(2 ^ 64) < i ∧ i < 2 ^ 64) ∨ (-(2 ^ 64) < j ∧ j < 2 ^ 64)
theorem CMul.ok {i j : Int} (h : CMul i j) : IntMulOk i j:=by
 rcases h with ⟨h1,h2⟩ | ⟨h1,h2⟩
 ·exact .of_left (intBits_le_64 h1 h2)
 ·exact .of_right (intBits_le_64 h1 h2)
theorem Jgw : OpR X (binaryOp .Add) (rI0 fun i j=>.int (i + j)):=opI0 fun _ _ _ _ _ _ _ q=>add_int q
theorem Jmq : OpR X (binaryOp .Sub) (rI0 fun i j=>.int (i - j)):=opI0 fun _ _ _ _ _ _ _ q=>sub_int q
theorem Jjd : OpR X (binaryOp .Mult) (rI CMul fun i j=>.int (i * j)):=opI fun _ _ _ _ _ _ _ hc q=>mul_int q hc.ok
theorem Jiq : OpR X (binaryOp .Mod) (rI (fun _ j=>0 < j) fun i j=>.int (i % j)):=opI fun i j _ _ _ _ _ hc q=>by
 have h1 : (0 : Int) < j:=hc
 exact mod_int' (by omega) (by rw [Int.fmod_eq_emod_of_nonneg i (by omega)]; exact q)
theorem Jq9 : OpR X (binaryOp .Pow) (rI CPow fun i j=>.int (i ^ j.toNat)):=opI fun _ _ _ _ _ _ _ hc q=>pow_int_small hc.1 hc.2.1 hc.2.2 q
theorem unI {f : Value → Sem Value} {g : Int → Int}
  (rule : ∀ (i : Int) (t : Tok) (s : Shared) (Q : Value → Shared → Prop) (E : Value → Shared → Prop),Q (.int (g i) s.toks) { s with toks:=s.toks + 1 } → wpAny (model X.prog X.w) X.A (f (.int i t)) Q E s) :
  UnR X f (rU fun i=>.int (g i)):=by
 intro pins s σ H x v Q I rx h
 obtain ⟨i,rfl,q⟩:=h
 obtain ⟨t,rfl⟩:=rx
 exact rule i t s _ _ ⟨.int (g i),H,I.tok _,⟨_,rfl⟩,q⟩
theorem un_neg : UnR X (unaryOp .USub) (rU fun i=>.int (-i)):=unI fun _ _ _ _ _ q=>neg_int q
end
def scal : V → V → Bool
 | .non,.non=>true | .non,.int _=>true | .int _,.non=>true | .non,.bl _=>true | .bl _,.non=>true | .non,.str _=>true | .str _,.non=>true
 | .int _,.int _=>true | .bl _,.bl _=>true | .str _,.str _=>true | .byt _,.byt _=>true
 | .int _,.str _=>true | .str _,.int _=>true | .bl _,.str _=>true | .str _,.bl _=>true
 | _,_=>false
def rEq : R2:=fun x y H Q=>scal x y = true ∧ Q (.bl (decide (x = y))) H
def rNe : R2:=fun x y H Q=>scal x y = true ∧ Q (.bl (!decide (x = y))) H
theorem Jo9 {i j : Int} : decide (V.int i = V.int j) = (i == j):=by
 rw [Bool.eq_iff_iff]
 simp
theorem Jpr {i j : Bool} : decide (V.bl i = V.bl j) = (i == j):=by
 rw [Bool.eq_iff_iff]
 simp
theorem Joa {i j : Str} : decide (V.str i = V.str j) = (i == j):=by
 rw [Bool.eq_iff_iff]
 simp
theorem Jo8 {i j : Array UInt8} : decide (V.byt i = V.byt j) = (i.toList == j.toList):=by
 rw [Bool.eq_iff_iff]
 cases i
 cases j
 simp
section
variable {X : Cx} {a b c : Expr} {ta tb tc : TE} {pos : Pos}
theorem Jg7 {pins : List (Addr × Obj)} {σ : St} {H : Hp} {s : Shared} {Q : VK} {k k' : Bool} (I : Inv X pins σ H s) (q : Q (.bl k) H) (e : k = k') : EP X pins σ Q (.bool k') s:=by
 subst e
 exact ⟨.bl k,H,I,rfl,q⟩
theorem Jig : OpR X (compareOp .Eq) rEq:=by
 intro pins s σ H x y v u Q I rx ry h
 obtain ⟨hs,q⟩:=h
 cases x with
 | non =>
  cases rx
  cases y with
  | non=>cases ry; exact PySem.EqNone.eq_none_none (Jg7 I q (by simp))
  | bl j=>cases ry; exact PySem.EqNone.eq_none_bool (Jg7 I q (by simp))
  | int j=>obtain ⟨t', rfl⟩:=ry; exact PySem.EqNone.eq_none_int (Jg7 I q (by simp))
  | str j=>obtain ⟨t', rfl⟩:=ry; exact PySem.EqNone.eq_none_str (Jg7 I q (by simp))
  | _=>exact absurd (show false = true from hs) Bool.false_ne_true
 | bl i =>
  cases rx
  cases y with
  | non=>cases ry; exact PySem.EqNone.eq_bool_none (Jg7 I q (by simp))
  | bl j=>cases ry; exact eq_bool (Jg7 I q Jpr)
  | str j=>obtain ⟨t', rfl⟩:=ry; exact PySem.EqMixed.eq_bool_str (Jg7 I q (by simp))
  | _=>exact absurd (show false = true from hs) Bool.false_ne_true
 | int i =>
  obtain ⟨t,rfl⟩:=rx
  cases y with
  | non=>cases ry; exact PySem.EqNone.eq_int_none (Jg7 I q (by simp))
  | int j=>obtain ⟨t', rfl⟩:=ry; exact eq_int (Jg7 I q Jo9)
  | str j=>obtain ⟨t', rfl⟩:=ry; exact PySem.EqMixed.eq_int_str (Jg7 I q (by simp))
  | _=>exact absurd (show false = true from hs) Bool.false_ne_true
 | str i =>
  obtain ⟨t,rfl⟩:=rx
  cases y with
  | non=>cases ry; exact PySem.EqNone.eq_str_none (Jg7 I q (by simp))
  | bl j=>cases ry; exact PySem.EqMixed.eq_str_bool (Jg7 I q (by simp))
  | int j=>obtain ⟨t', rfl⟩:=ry; exact PySem.EqMixed.eq_str_int (Jg7 I q (by simp))
  | str j=>obtain ⟨t', rfl⟩:=ry; exact eq_str (Jg7 I q Joa)
  | _=>exact absurd (show false = true from hs) Bool.false_ne_true
 | byt i =>
  obtain ⟨t,rfl⟩:=rx
  cases y with
  | byt j=>obtain ⟨t', rfl⟩:=ry; exact PySem.W.eq_bytes (Jg7 I q Jo8)
  | _=>exact absurd (show false = true from hs) Bool.false_ne_true
 | _=>cases y <;> exact absurd (show false = true from hs) Bool.false_ne_true
theorem Jog : OpR X (compareOp .NotEq) rNe:=by
 intro pins s σ H x y v u Q I rx ry h
 obtain ⟨hs,q⟩:=h
 cases x with
 | non =>
  cases rx
  cases y with
  | non=>cases ry; exact PySem.EqNone.ne_none_none (Jg7 I q (by simp))
  | bl j=>cases ry; exact PySem.EqNone.ne_none_bool (Jg7 I q (by simp))
  | int j=>obtain ⟨t', rfl⟩:=ry; exact PySem.EqNone.ne_none_int (Jg7 I q (by simp))
  | str j=>obtain ⟨t', rfl⟩:=ry; exact PySem.EqNone.ne_none_str (Jg7 I q (by simp))
  | _=>exact absurd (show false = true from hs) Bool.false_ne_true
 | bl i =>
  cases rx
  cases y with
  | non=>cases ry; exact PySem.EqNone.ne_bool_none (Jg7 I q (by simp))
  | bl j=>cases ry; exact ne_bool (Jg7 I q (congrArg not Jpr))
  | str j=>obtain ⟨t', rfl⟩:=ry; exact PySem.EqMixed.ne_bool_str (Jg7 I q (by simp))
  | _=>exact absurd (show false = true from hs) Bool.false_ne_true
 | int i =>
  obtain ⟨t,rfl⟩:=rx
  cases y with
  | non=>cases ry; exact PySem.EqNone.ne_int_none (Jg7 I q (by simp))
  | int j=>obtain ⟨t', rfl⟩:=ry; exact ne_int (Jg7 I q (congrArg not Jo9))
  | str j=>obtain ⟨t', rfl⟩:=ry; exact PySem.EqMixed.ne_int_str (Jg7 I q (by simp))
  | _=>exact absurd (show false = true from hs) Bool.false_ne_true
 | str i =>
  obtain ⟨t,rfl⟩:=rx
  cases y with
  | non=>cases ry; exact PySem.EqNone.ne_str_none (Jg7 I q (by simp))
  | bl j=>cases ry; exact PySem.EqMixed.ne_str_bool (Jg7 I q (by simp))
  | int j=>obtain ⟨t', rfl⟩:=ry; exact PySem.EqMixed.ne_str_int (Jg7 I q (by simp))
  | str j=>obtain ⟨t', rfl⟩:=ry; exact ne_str (Jg7 I q (congrArg not Joa))
  | _=>exact absurd (show false = true from hs) Bool.false_ne_true
 | byt i =>
  obtain ⟨t,rfl⟩:=rx
  cases y with
  | byt j=>obtain ⟨t', rfl⟩:=ry; exact PySem.W.ne_bytes (Jg7 I q (congrArg not Jo8))
  | _=>exact absurd (show false = true from hs) Bool.false_ne_true
 | _=>cases y <;> exact absurd (show false = true from hs) Bool.false_ne_true
theorem op_lt : OpR X (compareOp .Lt) (rI0 fun i j=>.bl (decide (i < j))):=opB0 fun _ _ _ _ _ _ _ q=>lt_int q
theorem Jkh : OpR X (compareOp .LtE) (rI0 fun i j=>.bl (decide (i ≤ j))):=opB0 fun _ _ _ _ _ _ _ q=>le_int q
theorem op_gt : OpR X (compareOp .Gt) (rI0 fun i j=>.bl (decide (j < i))):=opB0 fun _ _ _ _ _ _ _ q=>gt_int q
theorem Jp8 : OpR X (compareOp .In) (fun x y H Q=>∃ i j,x = .str i ∧ y = .str j ∧ Q (.bl (!(Builtin.Str.occurrences j i 0 j.length 1).isEmpty)) H):=by
 intro pins s σ H x y v u Q I rx ry h
 obtain ⟨i,j,rfl,rfl,q⟩:=h
 obtain ⟨t,rfl⟩:=rx
 obtain ⟨t', rfl⟩:=ry
 exact in_str (Jg7 I q rfl)
theorem op_isN : OpR X (compareOp .Is) (fun x y H Q=>y = .non ∧ Q (.bl (decide (x = .non))) H):=by
 intro pins s σ H x y v u Q I rx ry h
 obtain ⟨rfl,q⟩:=h
 cases ry
 refine is_none_gen (Jg7 I q ?_)
 cases x <;> first
  | (cases rx; rfl)
  | (obtain ⟨t,rfl⟩:=rx; rfl)
theorem Jrl : OpR X (compareOp .IsNot) (fun x y H Q=>y = .non ∧ Q (.bl (!decide (x = .non))) H):=by
 intro pins s σ H x y v u Q I rx ry h
 obtain ⟨rfl,q⟩:=h
 cases ry
 refine isnot_none_gen (Jg7 I q ?_)
 cases x <;> first
  | (cases rx; rfl)
  | (obtain ⟨t,rfl⟩:=rx; rfl)
theorem Jga (b : Expr) {op : CmpOp} (h : op ≠ .In:=by decide) (h2 : op ≠ .NotIn:=by decide) : behindInMarks op b = false:=by
 have e1 : (op == CmpOp.In) = false:=by cases op <;> first | rfl | exact absurd rfl h
 have e2 : (op == CmpOp.NotIn) = false:=by cases op <;> first | rfl | exact absurd rfl h2
 cases b <;> simp [behindInMarks,e1,e2]
theorem Jkq {op : CmpOp} {r : R2} (ho : OpR X (compareOp op) r) (ha : PE X a ta) (hb : PE X b tb) (hm : behindInMarks op b = false) : PE X (.Compare a [op] [b] pos) (tOp r ta tb):=by
 intro pins s σ H Q I h
 exact wpAny_Compare1 (binT ha hb I h fun v u s2 x y H2 I2 rx ry q=>ho pins s2 σ H2 x y v u Q I2 rx ry q) hm
def tTest (t : TE) : TT:=fun σ H Q=>t σ H fun x H'=>∃ k,x = .bl k ∧ Q k H'
theorem Jg4 {op : CmpOp} {r : R2} (ho : OpR X (compareOp op) r) (ha : PE X a ta) (hb : PE X b tb) (hm : behindInMarks op b = false) : PT X (.Compare a [op] [b] pos) (tTest (tOp r ta tb)):=by
 intro pins s σ H Q I h
 refine wpAny_isTrue_Compare1 (thn (ha pins s σ H _ I h) fun v s1 ⟨x,H1,I1,r1,q1⟩=>thn (hb pins s1 σ H1 _ I1 q1) fun u s2 ⟨y,H2,I2,r2,q2⟩ =>
  thn (ho pins s2 σ H2 x y v u _ I2 r1 r2 q2) fun c s3 ⟨z,H3,I3,r3,k,e,q3⟩=>?_) hm
 subst e
 cases r3
 exact wpAny_truthy_bool ⟨H3,I3,q3⟩
def Jqu (r r' : R2) (ta tb tc : TE) : TE:=fun σ H Q=>ta σ H fun x H1=>tb σ H1 fun y H2=>r x y H2 fun z H3=>∃ k,z = .bl k ∧
 (if k = true then tc σ H3 fun w' H4=>r' y w' H4 Q else Q (.bl false) H3)
theorem Jn8 {op op' : CmpOp} {r r' : R2} (ho : OpR X (compareOp op) r) (ho' : OpR X (compareOp op') r') (ha : PE X a ta) (hb : PE X b tb) (hc : PE X c tc)
  (hm : lastMarks [op,op'] [b,c] = false:=by with_unfolding_all rfl) : PE X (.Compare a [op,op'] [b,c] pos) (Jqu r r' ta tb tc):=by
 intro pins s σ H Q I h
 refine Compare_chain (thn (ha pins s σ H _ I h) fun v s1 ⟨x,H1,I1,r1,q1⟩=>chain_link (thn (hb pins s1 σ H1 _ I1 q1) fun u s2 ⟨y,H2,I2,r2,q2⟩ =>
  thn (ho pins s2 σ H2 x y v u _ I2 r1 r2 q2) fun d s3 ⟨z,H3,I3,r3,k,e,q3⟩=>?_)) hm
 subst e
 cases r3
 refine wpAny_truthy_bool ?_
 cases k with
 | false=>exact ite_ff ⟨.bl false,H3,I3,rfl,q3⟩
 | true=>exact ite_tt (chain_last (thn (hc pins s3 σ H3 _ I3 q3) fun w' s4 ⟨z', H4,I4,r4,q4⟩=>ho' pins s4 σ H4 y z' u w' Q I4 r2 r4 q4))
theorem Jn9 {op op' : CmpOp} {r r' : R2} (ho : OpR X (compareOp op) r) (ho' : OpR X (compareOp op') r') (ha : PE X a ta) (hb : PE X b tb) (hc : PE X c tc)
  (hm : lastMarks [op,op'] [b,c] = false:=by with_unfolding_all rfl) : PT X (.Compare a [op,op'] [b,c] pos) (tTest (Jqu r r' ta tb tc)):=by
 intro pins s σ H Q I h
 refine isTrue_chain (thn (ha pins s σ H _ I h) fun v s1 ⟨x,H1,I1,r1,q1⟩=>test_link (thn (hb pins s1 σ H1 _ I1 q1) fun u s2 ⟨y,H2,I2,r2,q2⟩ =>
  thn (ho pins s2 σ H2 x y v u _ I2 r1 r2 q2) fun d s3 ⟨z,H3,I3,r3,k,e,q3⟩=>?_)) hm
 subst e
 cases r3
 refine wpAny_truthy_bool ?_
 cases k with
 | false =>
  obtain ⟨k', e', q'⟩:=q3
  cases e'
  exact ite_ff ⟨H3,I3,q'⟩
 | true =>
  refine ite_tt (test_last (thn (hc pins s3 σ H3 _ I3 q3) fun w' s4 ⟨z', H4,I4,r4,q4⟩=>thn (ho' pins s4 σ H4 y z' u w' _ I4 r2 r4 q4) fun d' s5 ⟨z2,H5,I5,r5,k2,e2,q5⟩=>?_))
  subst e2
  cases r5
  exact wpAny_truthy_bool ⟨H5,I5,q5⟩
theorem Jk5 : (sizeLine : Nat) < 2 ^ 63:=by rw [sizeLine_eq]; decide
theorem Jjc : OpR X (binaryOp .Add) (fun x y H Q=>∃ i j,x = .str i ∧ y = .str j ∧ i.length + j.length ≤ sizeLine ∧ Q (.str (i ++ j)) H):=by
 intro pins s σ H x y v u Q I rx ry h
 obtain ⟨i,j,rfl,rfl,hz,q⟩:=h
 obtain ⟨t,rfl⟩:=rx
 obtain ⟨t', rfl⟩:=ry
 exact add_str (fun t' tk=>⟨.str (i ++ j),H,I.tok _,⟨_,rfl⟩,q⟩) hz
theorem Jii {x : V} {us : List Value} (r : Vals [x] us) : ∃ u,us = [u] ∧ RelV x u:=by
 cases r with
 | cons r1 r2=>cases r2; exact ⟨_,rfl,r1⟩
theorem Jos {x y : V} {us : List Value} (r : Vals [x,y] us) : ∃ u w', us = [u,w'] ∧ RelV x u ∧ RelV y w':=by
 cases r with
 | cons r1 r2 =>
  cases r2 with
  | cons r3 r4=>cases r4; exact ⟨_,_,rfl,r1,r3⟩
theorem Jlt (hc : X.calm = true) : Jhs X (.builtin "max") (fun xs H Q=>∃ i j,xs = [.int i,.int j] ∧ Q (.int (if j > i then j else i)) H):=by
 intro pins s σ H xs us Q I r h
 obtain ⟨i,j,rfl,q⟩:=h
 obtain ⟨u,w', rfl,⟨t,rfl⟩,⟨t', rfl⟩⟩:=Jos r
 refine max_two_ints (I.ok.hd hc) fun h' tk k=>⟨_,H,I.kept k,?_,q⟩
 by_cases hj : j > i
 ·rw [if_pos hj,if_pos hj]; exact ⟨_,rfl⟩
 ·rw [if_neg hj,if_neg hj]; exact ⟨_,rfl⟩
theorem Joz (hc : X.calm = true) : Jhs X (.builtin "min") (fun xs H Q=>∃ i j,xs = [.int i,.int j] ∧ Q (.int (if j < i then j else i)) H):=by
 intro pins s σ H xs us Q I r h
 obtain ⟨i,j,rfl,q⟩:=h
 obtain ⟨u,w', rfl,⟨t,rfl⟩,⟨t', rfl⟩⟩:=Jos r
 refine min_two_ints (I.ok.hd hc) fun h' tk k=>⟨_,H,I.kept k,?_,q⟩
 by_cases hj : j < i
 ·rw [if_pos hj,if_pos hj]; exact ⟨_,rfl⟩
 ·rw [if_neg hj,if_neg hj]; exact ⟨_,rfl⟩
end
end L2
namespace L2
open PySem PySem.Spec PyProof.Rows
structure ObjM (h : Heap) (x dx C : Addr) (mA : Str → Option Value) : Prop where
 obj : h.get? x = some (PySem.W.instObj C dx)
 ns : h.Ns1 dx mA
 ne : dx ≠ x
theorem Jm1 {h : Heap} {dx : Addr} {mA : Str → Option Value} (n : h.Ns1 dx mA) : ∃ od,h.get? dx = some od ∧ ∀ name,PySem.W.lookIn name od = some (mA name):=by
 obtain ⟨o,es,ep,ho,hd,hk,_,hm⟩:=n
 refine ⟨o,ho,fun name=>?_⟩
 have e:=hm name
 unfold nsFind findBy at e
 rw [← Array.find?_toList] at e
 unfold PySem.W.lookIn
 rw [hd]
 dsimp only
 split
 ·rename_i y q
  rw [q] at e
  exact congrArg some e
 ·rename_i q
  rw [q] at e
  have a : es.toList.any (·.refKey) = false:=by
   rw [List.any_eq_false]
   intro y hy
   obtain ⟨z,t,hkey⟩:=hk y (Array.mem_toList_iff.mp hy)
   simp [DictEntry.refKey,hkey]
  have a' : ¬ es.toList.any (·.refKey) = true:=by rw [a]; exact Bool.false_ne_true
  rw [if_neg a']
  exact congrArg some e
theorem ObjM.look {h : Heap} {x dx C : Addr} {mA : Str → Option Value} (I : ObjM h x dx C mA) : ∃ od,PySem.W.InstAt h x (PySem.W.instObj C dx) C (some od) ∧ ∀ name,PySem.W.lookIn name od = some (mA name) :=
 let ⟨od,ho,hl⟩:=Jm1 I.ns
 ⟨od,⟨I.obj,rfl,rfl,ho⟩,hl⟩
section
variable {prog : Program} {w : World} {A : Around} {E : Value → Shared → Prop} {s : Shared} {K : PySem.W.Frag} {x dx C f : Addr} {mA : Str → Option Value} {name : Str} {v : Value}
theorem Jrc {expr : Bool} {Q : Value → Shared → Prop} (X : K.In s.heap) (I : ObjM s.heap x dx C mA) (hg : PySem.W.plainGet K C name = true) (hh : PySem.W.hasDictIn K C = true)
  (ha : PySem.W.findIn K (.ref C) name = some none) (hv : mA name = some v) (hv' : PySem.W.handedIn v = true) (h : Q v { s with toks:=s.toks + 1 }) :
  wpAny (model prog w) A (getAttr (.ref x) name expr) Q E s:=by
 obtain ⟨od,J,hl⟩:=I.look
 exact PySem.W.get_value X J (PySem.W.plainGet_of hg).1 (PySem.W.findObj_own hh ha rfl (by rw [hl,hv])) hv' h
theorem Jq1 {pl : Sem Bool} {Q : Value × List Value → Shared → Prop} (X : K.In s.heap) (I : ObjM s.heap x dx C mA) (hg : PySem.W.plainGet K C name = true)
  (hf : PySem.W.findIn K (.ref C) name = some (some (.ref f))) (ht : PySem.W.isFn K (.ref f) = true) (hv : mA name = none) (h : Q (.ref f,[.ref x]) s) :
  wpAny (model prog w) A (getMethod (.ref x) name pl) Q E s:=by
 obtain ⟨od,J,hl⟩:=I.look
 exact PySem.W.method_fn X J (PySem.W.plainGet_of hg).1 (PySem.W.plainGet_of hg).2 hf (beq_iff_eq.mp ht) (by show (PySem.W.lookIn name od).map (·.isSome) = some false; rw [hl,hv]; rfl) h
theorem Jrt {ns : List Str} {Q : Unit → Shared → Prop} (X : K.In s.heap) (I : ObjM s.heap x dx C mA)
  (hs : PySem.W.findIn K (.ref C) "__setattr__" = some (some (.builtin "object.__setattr__"))) (hp : PySem.W.plainOver K C = true) (ht : PySem.W.takerIn K C name = some none) (hh : PySem.W.hasDictIn K C = true)
  (hw : PySem.Within mA ns) (hsz : ns.length ≤ sizeLine)
  (h : ∀ h', ObjM h' x dx C (fun y=>if y = name then some v else mA y) → Heap.SameBut dx s.heap h' → Q () { s with heap:=h', toks:=s.toks + 2 }) :
  wpAny (model prog w) A (setAttr (.ref x) name v) Q E s:=by
 obtain ⟨od,J,hl⟩:=I.look
 refine PySem.W.set_plain X J hs (PySem.W.osa_open (s:={ s with toks:=s.toks + 1 }) (r:=none) X J hp ht fun b=>?_)
 obtain ⟨cd,hc,hd'⟩:=PySem.W.any_some hh
 have hx : s.heap.get? x = some ⟨.ref C,some dx,.plain,#[]⟩:=I.obj
 refine wpAny_bind (wpAny_pure (wpAny_bind (wpAny_bind (wpAny_loadPart hx (wpAny_bind (PySem.W.Looks.here (s:={ s with toks:=s.toks + 1 }) (PySem.W.looks_clsIn X hc) ?_))))))
 rw [hd']
 refine wpAny_pure (a:=some dx) (wpAny_bind (wpAny_pure (wpAny_bind ?_)))
 refine wpAny_nsSet1 (s:={ s with toks:=s.toks + 1 }) I.ns fun h' hn2 hs2=>?_
 obtain ⟨oD,esD,epD,hoD,hdD,hcD⟩:=hn2.count (PySem.Within.cons name v hw)
 refine wpAny_bind (wpAny_lookBehind hoD (by rw [hdD]; exact pastItsLine_dict (Nat.le_trans hcD (by rw [List.length_cons]; omega))) ?_)
 exact wpAny_pure (h _ ⟨(hs2.2 _ (Ne.symm I.ne)).trans I.obj,hn2,I.ne⟩ hs2)
theorem Jn0 {R : Result → Shared → Prop} {vs : List Value} {kw : List (Str × Value)} (X : K.In s.heap) (hm : PySem.W.makesIn K C = true)
  (hi : PySem.W.findIn K (.ref C) "__init__" = some (some (.ref f))) (hf : PySem.W.typeIn K (.ref f) = some (.type "function"))
  (h : codeAny (model prog w) (A.under (.builtin "type.__call__" ⟨.ref C :: vs,kw⟩)) (.call (.ref f) ⟨.ref (s.heap.objs.size + 1) :: vs,kw⟩) (PySem.W.InitBack (s.heap.objs.size + 1) R)
   { s with heap:=(s.heap.push PySem.W.emptyDict).push (PySem.W.instObj C s.heap.objs.size) }) :
  codeAny (model prog w) A (.call (.ref C) ⟨vs,kw⟩) R s:=by
 obtain ⟨hh,g,d,t,os⟩:=s
 exact PySem.W.make_core (PySem.W.makes_of X hm) (PySem.W.looks_findIn X hi) (fun self=>PySem.W.bind_fn X self hf) (.inl rfl) h
end
def Jhc (f : Str) (v : V) : List (Str × V) → List (Str × V)
 | []=>[(f,v)]
 | (g,x) :: r=>if g = f then (g,v) :: r else (g,x) :: Jhc f v r
theorem Jke (f g : Str) (v : V) : ∀ fs : List (Str × V),(Jhc f v fs).lookup g = if g = f then some v else fs.lookup g
 | []=>by
  show List.lookup g [(f,v)] = _
  by_cases h : g = f
  ·have hb : (g == f) = true:=beq_iff_eq.mpr h
   simp only [List.lookup,hb,if_pos h]
  ·have hb : (g == f) = false:=beq_eq_false_iff_ne.mpr h
   simp only [List.lookup,hb,if_neg h]
 | (k,x) :: r=>by
  have ih:=Jke f g v r
  rw [show Jhc f v ((k,x) :: r) = (if k = f then (k,v) :: r else (k,x) :: Jhc f v r) from rfl]
  by_cases hk : k = f
  ·rw [if_pos hk]
   by_cases h : g = k
   ·have hb : (g == k) = true:=beq_iff_eq.mpr h
    simp only [List.lookup,hb,if_pos (h.trans hk)]
   ·have hb : (g == k) = false:=beq_eq_false_iff_ne.mpr h
    simp only [List.lookup,hb,if_neg (fun e : g = f=>h (e.trans hk.symm))]
  ·rw [if_neg hk]
   by_cases h : g = k
   ·have hb : (g == k) = true:=beq_iff_eq.mpr h
    simp only [List.lookup,hb,if_neg (fun e : g = f=>hk (h.symm.trans e))]
   ·have hb : (g == k) = false:=beq_eq_false_iff_ne.mpr h
    simp only [List.lookup,hb]
    exact ih
theorem Jk3 (f : Str) (v : V) : ∀ fs : List (Str × V),f ∈ (Jhc f v fs).map (·.1) ∧ ∀ g,g ∈ fs.map (·.1) → g ∈ (Jhc f v fs).map (·.1)
 | []=>⟨by simp [Jhc],fun g h=>by simp at h⟩
 | (k,x) :: r=>by
  obtain ⟨i1,i2⟩:=Jk3 f v r
  rw [show Jhc f v ((k,x) :: r) = (if k = f then (k,v) :: r else (k,x) :: Jhc f v r) from rfl]
  by_cases hk : k = f
  ·rw [if_pos hk]
   subst hk
   exact ⟨by simp,fun g h=>by simpa using h⟩
  ·rw [if_neg hk]
   refine ⟨?_,fun g h=>?_⟩
   ·rw [List.map_cons]
    exact List.mem_cons_of_mem _ i1
   ·rw [List.map_cons] at h ⊢
    rcases List.mem_cons.mp h with e | e
    ·exact List.mem_cons.mpr (.inl e)
    ·exact List.mem_cons_of_mem _ (i2 g e)
theorem Jkd (f : Str) (v : V) : ∀ fs : List (Str × V),(Jhc f v fs).length ≤ fs.length + 1
 | []=>by simp [Jhc]
 | (k,x) :: r=>by
  have ih:=Jkd f v r
  rw [show Jhc f v ((k,x) :: r) = (if k = f then (k,v) :: r else (k,x) :: Jhc f v r) from rfl]
  by_cases hk : k = f
  ·rw [if_pos hk,List.length_cons,List.length_cons]; omega
  ·rw [if_neg hk,List.length_cons,List.length_cons]; omega
theorem RelO.some_of {v : V} {o : Option Value} (r : RelO (some v) o) : ∃ u,o = some u ∧ RelV v u:=by
 cases o with
 | none=>exact (show False from r).elim
 | some u=>exact ⟨u,rfl,r⟩
theorem RelO.none_of {o : Option Value} (r : RelO none o) : o = none:=by
 cases o with
 | none=>rfl
 | some u=>exact (show False from r).elim
theorem Jlz {v : V} {u : Value} (r : RelV v u) : PySem.W.handedIn u = true:=by
 cases v with
 | non=>cases (show u = Value.none from r); rfl
 | bl b=>cases (show u = Value.bool b from r); rfl
 | int i=>obtain ⟨t,e⟩:=(show ∃ t,u = Value.int i t from r); cases e; rfl
 | str x=>obtain ⟨t,e⟩:=(show ∃ t,u = Value.str x t from r); cases e; rfl
 | byt b=>obtain ⟨t,e⟩:=(show ∃ t,u = Value.bytes b t from r); cases e; rfl
 | flt b=>obtain ⟨t,e⟩:=(show ∃ t,u = Value.float b t from r); cases e; rfl
 | ref a=>cases (show u = Value.ref a from r); rfl
 | ty n=>cases (show u = Value.type n from r); rfl
section
variable {P : Program} {w : World} {H H' : Hp} {h h' : Heap} {a C dx : Addr} {fs fs' : List (Str × V)}
theorem Jko (hok : HOk P w H h) (e : H a = some (.ins C dx fs)) : ∃ mA,ObjM h a dx C mA ∧ (∀ f,RelO (fs.lookup f) (mA f)) ∧ PySem.Within mA (fs.map (·.1)) ∧ fs.length ≤ 1000 ∧ H dx = some (.own a):=by
 obtain ⟨d,z,ne,ob,mA,n,r,q⟩:=(show ObjOk P w H h a (.ins C dx fs) from hok a _ e)
 exact ⟨mA,⟨ob,n,ne⟩,r,q,z,d⟩
end
structure Cls (K : PySem.W.Frag) (C : Addr) : Prop where
 pg : PySem.W.plainGet K C Str.empty = true
 hd : PySem.W.hasDictIn K C = true
 po : PySem.W.plainOver K C = true
 sa : PySem.W.findIn K (.ref C) "__setattr__" = some (some (.builtin "object.__setattr__"))
theorem Cls.get {K : PySem.W.Frag} {C : Addr} (c : Cls K C) (f : Str) : PySem.W.plainGet K C f = true:=c.pg
def NoAttr (K : PySem.W.Frag) (C : Addr) (f : Str) : Prop:=PySem.W.findIn K (.ref C) f = some none
theorem NoAttr.taker {K : PySem.W.Frag} {C : Addr} {f : Str} (n : NoAttr K C f) : PySem.W.takerIn K C f = some none:=by
 unfold PySem.W.takerIn
 rw [show PySem.W.findIn K (.ref C) f = some none from n]
 rfl
structure Con (K : PySem.W.Frag) (C : Addr) (f : Str) (v : V) (u : Value) : Prop where
 at_ : PySem.W.findIn K (.ref C) f = some (some u)
 rel : RelV v u
 get : PySem.W.specialIn K u "__get__" = some none
 cp : PySem.W.copiedNames.contains f = false
structure Jnj (K : PySem.W.Frag) (C : Addr) (m : Str) (f : Addr) : Prop where
 at_ : PySem.W.findIn K (.ref C) m = some (some (.ref f))
 fn : PySem.W.isFn K (.ref f) = true
 kp : PySem.W.keepIn K (.ref f) = true
section
variable {X : Cx} {pins : List (Addr × Obj)} {σ : St} {H : Hp} {s : Shared} {a C dx : Addr} {fs : List (Str × V)} {f : Str} {v : V} {A : Around} {E : Value → Shared → Prop}
theorem Jnl {b : Bool} {Q : Value → Shared → Prop} (I : Inv X pins σ H s) (e : H a = some (.ins C dx fs)) (c : Cls X.K C) (n : NoAttr X.K C f) (l : fs.lookup f = some v)
  (h : ∀ u s', Inv X pins σ H s' → RelV v u → Q u s') : wpAny (model X.prog X.w) A (getAttr (.ref a) f b) Q E s:=by
 obtain ⟨mA,O,r,_,_,_⟩:=Jko I.hok e
 obtain ⟨u,hu,ru⟩:=RelO.some_of (v:=v) (o:=mA f) (by rw [← l]; exact r f)
 exact Jrc I.kIn O (c.get f) c.hd n hu (Jlz ru) (h u _ (I.tok _) ru)
theorem Jky {m : Str} {g : Addr} {pl : Sem Bool} {Q : Value × List Value → Shared → Prop} (I : Inv X pins σ H s) (e : H a = some (.ins C dx fs)) (c : Cls X.K C) (k : Jnj X.K C m g) (l : fs.lookup m = none)
  (h : Q (.ref g,[.ref a]) s) : wpAny (model X.prog X.w) A (getMethod (.ref a) m pl) Q E s:=by
 obtain ⟨mA,O,r,_,_,_⟩:=Jko I.hok e
 have hn : mA m = none:=RelO.none_of (by rw [← l]; exact r m)
 exact Jq1 I.kIn O (c.get m) k.at_ k.fn hn h
theorem Jo0 {y : V} {u : Value} {Q : Unit → Shared → Prop} (I : Inv X pins σ H s) (e : H a = some (.ins C dx fs)) (c : Cls X.K C) (n : NoAttr X.K C f) (hl : fs.length < 1000) (ry : RelV y u)
  (h : ∀ s', Inv X pins σ (upd H a (.ins C dx (Jhc f y fs))) s' → Q () s') : wpAny (model X.prog X.w) A (setAttr (.ref a) f u) Q E s:=by
 obtain ⟨mA,O,r,wi,_,ho⟩:=Jko I.hok e
 have hz : (fs.map (·.1)).length ≤ sizeLine:=by rw [List.length_map,sizeLine_eq]; omega
 refine Jrt I.kIn O c.sa c.po n.taker c.hd wi hz fun h' O' sb=>h _ ?_
 have hd : ∃ o,h'.get? dx = some o:=let ⟨o,_,_,e', _⟩:=O'.ns; ⟨o,e'⟩
 refine I.write (x:=a) (e:=dx) (by rw [e]; exact True.intro) (.inr ho) (fun b q hb z=>(sb.2 b hb).trans z) hd ?_
 refine ⟨by rw [Jfp O.ne]; exact ho,?_,O.ne,O'.obj,_,O'.ns,fun g=>?_,fun g hg=>?_⟩
 ·have:=Jkd f y fs; omega
 ·show RelO ((Jhc f y fs).lookup g) (if g = f then some u else mA g)
  rw [Jke]
  by_cases q : g = f
  ·rw [if_pos q,if_pos q]; exact ry
  ·rw [if_neg q,if_neg q]; exact r g
 ·by_cases q : g = f
  ·rw [q]; exact (Jk3 f y fs).1
  ·refine (Jk3 f y fs).2 g (wi g fun z=>hg ?_)
   show (if g = f then some u else mA g) = none
   rw [if_neg q]; exact z
theorem Inv.made (I : Inv X pins σ H s) : Inv X pins σ (upd (upd H s.heap.objs.size (.own (s.heap.objs.size + 1))) (s.heap.objs.size + 1) (.ins C s.heap.objs.size []))
  { s with heap:=(s.heap.push PySem.W.emptyDict).push (PySem.W.instObj C s.heap.objs.size) }:=by
 have e1 : (s.heap.push PySem.W.emptyDict).get? s.heap.objs.size = some PySem.W.emptyDict:=Heap.get?_push_size s.heap rfl
 have e2 : ((s.heap.push PySem.W.emptyDict).push (PySem.W.instObj C s.heap.objs.size)).get? (s.heap.objs.size + 1) = some (PySem.W.instObj C s.heap.objs.size):=by
  have:=Heap.get?_push_size (s.heap.push PySem.W.emptyDict) (o:=PySem.W.instObj C s.heap.objs.size) rfl
  rwa [Heap.size_push] at this
 have e3 : (s.heap.push PySem.W.emptyDict).Ns s.heap.objs.size (fun _=>none):=⟨PySem.W.emptyDict,#[],_,e1,rfl,(fun e he=>absurd he (by simp)),fun _=>rfl⟩
 have I1:=I.laid (a:=s.heap.objs.size) (o:=.own (s.heap.objs.size + 1)) (h':=s.heap.push PySem.W.emptyDict) (t':=s.toks) (fun b u q=>Heap.get?_push_of_some _ q) (Nat.le_refl _) ⟨_,e1⟩
 refine I1.laid (a:=s.heap.objs.size + 1) (o:=.ins C s.heap.objs.size []) (t':=s.toks) (fun b u q=>Heap.get?_push_of_some _ q) (Nat.le_of_eq (Heap.size_push _ _)) ?_
 have ne : s.heap.objs.size ≠ s.heap.objs.size + 1:=Nat.ne_of_lt (Nat.lt_succ_self _)
 refine ⟨by rw [Jfp ne,Jfj],Nat.zero_le _,ne,e2,fun _=>none,(Heap.Ns1.of_empty e3).at fun o q=>Heap.get?_push_of_some _ q,fun _=>True.intro,fun y hy=>absurd rfl hy⟩
theorem Jo6 {prog : Program} {w : World} {env : Env} {e : Expr} {f : Str} {pos : Pos} {s : Shared} {Q : Value → Shared → Prop} (hb : attributeBase e f env (eval e env) = eval e env)
  (h : wpAny (model prog w) A (eval e env) (fun o s₁=>wpAny (model prog w) A (getAttr o f true) Q E s₁) E s) : wpAny (model prog w) A (eval (.Attribute e f pos) env) Q E s :=
 Attribute_any_ h (by rw [arm_eval_Attribute,hb])
end
def tFld (K : PySem.W.Frag) (ta : TE) (f : Str) : TE:=fun σ H Q=>ta σ H fun x H1=>∃ a C dx fs v,x = .ref a ∧ H1 a = some (.ins C dx fs) ∧ Cls K C ∧ NoAttr K C f ∧ fs.lookup f = some v ∧ Q v H1
def sFld (K : PySem.W.Frag) (ta tv : TE) (f : Str) : TS:=fun D σ H=>tv σ H fun y H1=>ta σ H1 fun x H2=>∃ a C dx fs,x = .ref a ∧ H2 a = some (.ins C dx fs) ∧ Cls K C ∧ NoAttr K C f ∧ fs.length < 1000 ∧
 D.nx σ (upd H2 a (.ins C dx (Jhc f y fs)))
section
variable {X : Cx} {o e value : Expr} {f : Str} {pos pos' tpos : Pos} {ta tv : TE}
theorem Jgl (he : PE X e ta) (hb : attributeBase e f X.env (eval e X.env) = eval e X.env) : PE X (.Attribute e f pos) (tFld X.K ta f):=by
 intro pins s σ H Q I h
 refine Jo6 hb (thn (he pins s σ H _ I h) fun u s1 ⟨x,H1,I1,rx,a,C,dx,fs,v,ex,ea,c,n,l,q⟩=>?_)
 subst ex
 obtain rfl : u = Value.ref a:=rx
 exact Jnl I1 ea c n l fun u' s2 I2 ru=>⟨v,H1,I2,ru,q⟩
theorem Jhh (ha : PE X o ta) (hv : PE X value tv) (hs : swapsWith value (some (.Attribute o f pos')) pos.line X.env = pure false) : PS X (.Assign [.Attribute o f pos'] value pos) (sFld X.K ta tv f):=by
 intro pins s σ H D I h
 refine plainObj_wpAny_Assign_Attribute (thn (hv pins s σ H _ I h) fun u s1 ⟨y,H1,I1,ry,q⟩=>thn (ha pins s1 σ H1 _ I1 q) fun ov s2 ⟨x,H2,I2,rx,a,C,dx,fs,ex,ea,c,n,l,q2⟩=>?_) hs
 subst ex
 obtain rfl : ov = Value.ref a:=rx
 exact Jo0 I2 ea c n l ry fun s3 I3=>⟨σ,_,I3,q2⟩
end
section
variable {X : Cx} {pins : List (Addr × Obj)} {σ : St} {H : Hp} {s : Shared} {A : Around} {E : Value → Shared → Prop} {Q : Value → Shared → Prop} {c : Value} {b : Bool}
inductive Jjy (K : PySem.W.Frag) (H : Hp) : V → Value → Prop where
 | non : Jjy K H .non (.type "NoneType")
 | bl (x : Bool) : Jjy K H (.bl x) (.type "bool")
 | int (i : Int) : Jjy K H (.int i) (.type "int")
 | str (x : Str) : Jjy K H (.str x) (.type "str")
 | flt (x : UInt64) : Jjy K H (.flt x) (.type "float")
 | lst {a : Addr} {xs : List V} (e : H a = some (.lst xs)) : Jjy K H (.ref a) (.type "list")
 | frz {a : Addr} {o : Obj} {xs : List V} (e : H a = some (.frz o (.lst xs))) : Jjy K H (.ref a) (.type "list")
 | tup {a : Addr} {xs : List V} (e : H a = some (.tup xs)) : Jjy K H (.ref a) (.type "tuple")
 | dK {a : Addr} {kvs : List (Key × V)} (e : H a = some (.dK kvs)) : Jjy K H (.ref a) (.type "dict")
 | dT {a : Addr} {kvs : List (List Key × V)} (e : H a = some (.dT kvs)) : Jjy K H (.ref a) (.type "dict")
 | ins {a C dx : Addr} {fs : List (Str × V)} (e : H a = some (.ins C dx fs)) (cl : Cls K C) (ha : PySem.W.findIn K (.ref C) "__class__" = some (some (.builtin "object.__class__")))
   (hn : PySem.W.specialIn K (.builtin "object.__class__") "__get__" = some (some (.builtin "getset_descriptor.__get__"))) (htk : PySem.W.takesIn K (.builtin "object.__class__") = some true)
   (hm : PySem.W.mroIn K C (.type "object") = some true) : Jjy K H (.ref a) (.ref C)
end
end L2
namespace L2
open PySem PySem.Spec PyProof.Rows
structure Room (k : Nat) (A : Around) : Prop where
 hd : A.handled = none
 dp : A.depth + 3 * k + 5 < recursionLimit
 un : A.units + 16 * k + 200 < cLine
theorem Room.mono {j k : Nat} {A : Around} (r : Room k A) (h : j ≤ k) : Room j A:=⟨r.hd,by have:=r.dp; omega,by have:=r.un; omega⟩
theorem Room.deeper {k : Nat} {A : Around} (r : Room (k + 1) A) (env : Env) : Room k (A.deeper env) :=
 ⟨r.hd,by have:=r.dp; show A.depth + 1 + 3 * k + 5 < _; omega,by have:=r.un; show A.units + 3 + 16 * k + 200 < _; omega⟩
theorem Jnm {A : Around} {C : Addr} {us : List Value} {kw : List (Str × Value)} : (A.under (.builtin "type.__call__" ⟨.ref C :: us,kw⟩)).depth = A.depth + 1:=by
 first | rfl | simp [Around.under,Code.weight,Code.isCreation,Code.isGuard,Code.isCaller,Code.frames,Code.isFrame,guardIds]
theorem Jnn {A : Around} {C : Addr} {us : List Value} {kw : List (Str × Value)} : (A.under (.builtin "type.__call__" ⟨.ref C :: us,kw⟩)).units = A.units + 1:=by
 first | rfl | simp [Around.under,Code.cUnits,Code.frames,Code.isFrame]
theorem Room.make {k : Nat} {A : Around} (r : Room (k + 1) A) (C : Addr) (us : List Value) (kw : List (Str × Value)) : Room k (A.under (.builtin "type.__call__" ⟨.ref C :: us,kw⟩)) :=
 ⟨r.hd,by have:=r.dp; rw [Jnm]; omega,by have:=r.un; rw [Jnn]; omega⟩
theorem Room.depth {k : Nat} {A : Around} (r : Room k A) : A.depth < recursionLimit:=by have:=r.dp; omega
theorem Room.units {k : Nat} {A : Around} (r : Room k A) : A.units + 64 < cLine:=by have:=r.un; omega
def Jnd : TA:=fun _ H Q=>Q [] H
def Jgf (ta : TE) (tr : TA) : TA:=fun σ H Q=>ta σ H fun x H1=>tr σ H1 fun xs H2=>Q (x :: xs) H2
section
variable {X : Cx} {e : Expr} {es : List Expr} {te : TE} {t : TA} {pos : Pos}
theorem Jfk : PA X [] Jnd:=fun _ _ _ _ H Q I h=>Calls.spliced_nil ⟨[],H,I,.nil,h⟩
theorem Jfi (ha : PE X e te) (hr : PA X es t) (hs : starEach (e :: es) X.env = (false,eval e X.env) :: starEach es X.env:=by rfl) : PA X (e :: es) (Jgf te t):=by
 intro pos pins s σ H Q I h
 rw [hs]
 show wpAny _ _ (spliced ((false,eval e X.env) :: backTo pos (starEach es X.env))) _ _ s
 refine Calls.spliced_cons (thn (ha pins s σ H _ I h) fun u s1 ⟨x,H1,I1,r1,q1⟩=>?_)
 exact thn (hr pos pins s1 σ H1 _ I1 q1) fun us s2 ⟨xs,H2,I2,r2,q2⟩=>⟨x :: xs,H2,I2,.cons r1 r2,q2⟩
def tTup (t : TA) : TE:=fun σ H Q=>t σ H fun xs H1=>xs.length ≤ sizeLine ∧ ∀ p,H1 p = none → Q (.ref p) (upd H1 p (.tup xs))
def tLst (t : TA) : TE:=fun σ H Q=>t σ H fun xs H1=>xs.length ≤ sizeLine ∧ ∀ p,H1 p = none → Q (.ref p) (upd H1 p (.lst xs))
theorem Jhg {x1} (h : PA X es t) : PE X (.Tuple es x1 pos) (tTup t):=by
 intro pins s σ H Q I hq
 refine wpAny_Tuple_spliced (thn (h pos pins s σ H _ I hq) fun us s1 ⟨xs,H1,I1,r,z,q⟩=>⟨by rw [← r.length]; exact z,?_⟩)
 have hf : H1 s1.heap.objs.size = none:=I1.hok.fresh (Nat.le_refl _)
 refine ⟨.ref s1.heap.objs.size,upd H1 s1.heap.objs.size (.tup xs),I1.laid (t':=s1.toks) (fun b u e=>Heap.get?_push_of_some _ e) (Nat.le_refl _) ?_,rfl,q _ hf⟩
 exact ⟨z,us,r,⟨_,Heap.get?_push_size _ rfl,rfl,_,rfl⟩⟩
theorem Jg5 (h : PA X es t) : PE X (.List es pos) (tLst t):=by
 intro pins s σ H Q I hq
 refine wpAny_List_spliced (thn (h pos pins s σ H _ I hq) fun us s1 ⟨xs,H1,I1,r,z,q⟩=>⟨by rw [← r.length]; exact z,?_⟩)
 have hf : H1 s1.heap.objs.size = none:=I1.hok.fresh (Nat.le_refl _)
 refine ⟨.ref s1.heap.objs.size,upd H1 s1.heap.objs.size (.lst xs),I1.laid (t':=s1.toks) (fun b u e=>Heap.get?_push_of_some _ e) (Nat.le_refl _) ?_,rfl,q _ hf⟩
 exact ⟨z,us,0,r,Heap.get?_push_size _ rfl⟩
end
abbrev Sp:=List V → Hp → VK → XK → Prop
abbrev CXT:=List Env → Hp → Shared → XK → Value → Shared → Prop
structure Env0 (P : Program) (w : World) (K : PySem.W.Frag) (mg : Str → Option Value) (base : Heap) (A : Around) (outer : List Env) (s : Shared) (H : Hp) : Prop where
 frames : A.frames = some outer
 mod : Mod K mg base
 bs : ∀ b o,base.get? b = some o → s.heap.get? b = some o ∧ H b = none
 bsz : base.objs.size ≤ s.heap.objs.size
 funs : s.heap.FunFrames base outer
 frf : ∀ b ∈ frs outer,H b = none
 hok : HOk P w H s.heap
 bare : AllBare s.gens
def CE (outer : List Env) (P : Program) (w : World) (H : Hp) (s : Shared) (Q : VK) (u : Value) (s' : Shared) : Prop :=
 ∃ v H', s'.os = s.os ∧ AllBare s'.gens ∧ Un (frs outer) [] H H' s.heap s'.heap ∧ HOk P w H' s'.heap ∧ RelV v u ∧ Q v H'
def CR (CX : CXT) (outer : List Env) (P : Program) (w : World) (H : Hp) (s : Shared) (Q : VK) (E : XK) (r : Result) (s' : Shared) : Prop :=
 match r with
 | .ok (.ret u)=>CE outer P w H s Q u s'
 | .ok _=>False
 | .error e=>CX outer H s E e s'
structure FnOk (P : Program) (w : World) (K : PySem.W.Frag) (mg : Str → Option Value) (base : Heap) (CX : CXT) (k : Nat) (f : Addr) (fd : FuncData) (ps : List Str) (sp : Sp) : Prop where
 len : ∀ vs H Q E,sp vs H Q E → vs.length = ps.length
 run : ∀ (A : Around) (outer : List Env) (s : Shared) (H : Hp) (args : Args) (us : List Value) (vs : List V) (Q : VK) (E : XK),Room k A → Env0 P w K mg base A outer s H → BindsTo s fd args (ps.zip us) → Vals vs us → sp vs H Q E →
  codeAny (model P w) A (.call (.ref f) args) (CR CX outer P w H s Q E) s
theorem Env0.make {P : Program} {w : World} {K : PySem.W.Frag} {mg : Str → Option Value} {base : Heap} {A : Around} {outer : List Env} {s : Shared} {H : Hp} (e : Env0 P w K mg base A outer s H) (C : Addr) (us : List Value) (kw : List (Str × Value)) :
  Env0 P w K mg base (A.under (.builtin "type.__call__" ⟨.ref C :: us,kw⟩)) outer s H:=⟨by first | exact e.frames | (simpa [Around.under,Code.envs,Code.isFrame,pushEnvs] using e.frames),e.mod,e.bs,e.bsz,e.funs,e.frf,e.hok,e.bare⟩
section
variable {X : Cx} {pins : List (Addr × Obj)} {σ : St} {H : Hp} {s s' : Shared}
theorem Inv.env0 (I : Inv X pins σ H s) : Env0 X.prog X.w X.K X.mg X.base X.A X.stack s H :=
 ⟨I.ok.frames,I.ok.mod,I.bs,Nat.le_trans I.ok.bsz I.sz,I.stack,I.stkFree,I.hok,I.bare⟩
theorem Inv.after {Q : VK} {u : Value} (I : Inv X pins σ H s) (h : CE X.stack X.prog X.w H s Q u s') : EP X pins σ Q u s':=by
 obtain ⟨v,H', os,bare,un,hok,r,q⟩:=h
 obtain ⟨hh,g,d,t,os'⟩:=s'
 obtain rfl : os' = s.os:=os
 exact ⟨v,H', I.call (h':=hh) (g':=g) (d':=d) (t':=t) (ch:=[]) un hok bare (fun b z=>absurd z (by simp)),r,q⟩
end
def Jop (sp : Sp) (dvs : List V) (E : XK) (t : TA) : TE:=fun σ H Q=>t σ H fun vs H1=>sp (vs ++ dvs) H1 Q E
def tMeth (C : Addr) (m : Str) (sp : Sp) (dvs : List V) (E : XK) (ta : TE) (t : TA) : TE:=fun σ H Q=>ta σ H fun x H1=>∃ a dx fs,x = .ref a ∧ H1 a = some (.ins C dx fs) ∧ fs.lookup m = none ∧
 t σ H1 fun vs H2=>sp (x :: (vs ++ dvs)) H2 Q E
def tMake (C : Addr) (sp : Sp) (dvs : List V) (E : XK) (t : TA) : TE:=fun σ H Q=>t σ H fun vs H1=>∀ x dx,H1 x = none → H1 dx = none → dx ≠ x →
 sp (.ref x :: (vs ++ dvs)) (upd (upd H1 dx (.own x)) x (.ins C dx [])) (fun v H2=>v = .non ∧ Q (.ref x) H2) E
def Binds (K : PySem.W.Frag) (fd : FuncData) (ps : List Str) (ds : List Value) : Prop :=
 ∀ (s : Shared) (us : List Value),K.In s.heap → (us ++ ds).length = ps.length → BindsTo s fd ⟨us,[]⟩ (ps.zip (us ++ ds))
theorem Binds.all {K : PySem.W.Frag} {fd : FuncData} {ps : List Str} (h : ∀ us : List Value,us.length = ps.length → bindArgs fd ⟨us,[]⟩ = pure (ps.zip us)) : Binds K fd ps []:=fun s us _ hl=>by
 rw [List.append_nil] at hl ⊢
 exact .of_eq (h us hl)
def Jj9 (CX : CXT) (X : Cx) (E : XK) : Prop:=∀ (pins : List (Addr × Obj)) (σ : St) (H : Hp) (s : Shared) (e : Value) (s' : Shared),Inv X pins σ H s → CX X.stack H s E e s' → X.xe e s'
section
variable {X : Cx} {CX : CXT} {k : Nat} {f C : Addr} {fd : FuncData} {ps : List Str} {sp : Sp} {dvs : List V} {ds : List Value} {E : XK} {x m : Str} {p pos apos : Pos} {e o : Expr} {es : List Expr} {ta : TE} {t : TA}
theorem Jnx {pins : List (Addr × Obj)} {σ : St} {H : Hp} {s : Shared} {Q : VK} {us : List Value} {vs : List V} (F : FnOk X.prog X.w X.K X.mg X.base CX k f fd ps sp) (hr : Room k X.A) (hb : Binds X.K fd ps ds) (hd : Vals dvs ds) (hx : Jj9 CX X E)
  (I : Inv X pins σ H s) (r : Vals vs us) (h : sp (vs ++ dvs) H Q E) : wpAny (model X.prog X.w) X.A (call (.ref f) us) (EP X pins σ Q) X.xe s:=by
 have r2 : Vals (vs ++ dvs) (us ++ ds):=r.append hd
 have hl : (us ++ ds).length = ps.length:=by rw [← r2.length]; exact F.len _ _ _ _ h
 refine wpAny_call (codeAny_mono (F.run X.A X.stack s H ⟨us,[]⟩ (us ++ ds) (vs ++ dvs) Q E hr I.env0 (hb s us I.kIn hl) r2 h) fun r s' hq=>?_)
 cases r with
 | error e=>exact hx pins σ H s e s' I hq
 | ok fl =>
  cases fl with
  | ret u=>exact I.after hq
  | next=>exact False.elim hq
  | brk=>exact False.elim hq
  | cont=>exact False.elim hq
theorem Jrm (F : FnOk X.prog X.w X.K X.mg X.base CX k f fd ps sp) (hr : Room k X.A) (hg : Gl X x) (hm : X.mg x = some (.ref f)) (hk : PySem.W.keepIn X.K (.ref f) = true) (hb : Binds X.K fd ps ds) (hd : Vals dvs ds) (hx : Jj9 CX X E)
  (ha : PA X (e :: es) t) (hdb : (x == ("__debug__" : Str)) = false:=by decide) (he : starEach (e :: es) X.env = (false,eval e X.env) :: starEach es X.env:=by rfl) (hpl : (backTo pos (starEach es X.env)).any (·.1) = false:=by rfl) :
  PE X (.Call (.Name x p) (e :: es) [] pos) (Jop sp dvs E t):=by
 intro pins s σ H Q I h
 refine wpAny_Call_Name_kw (Jhy I hg hm ?_ hdb)
 refine PySem.W.callWith_K (h₀:=X.base) I.ok.mod.kin hk (thn (ha pos pins s σ H _ I h) fun us s1 ⟨vs,H1,I1,r,q⟩=>⟨I1.kIn,?_⟩) he hpl
 exact Jnx F hr hb hd hx I1 r q
theorem Joi {pl : Sem Bool} (he : PE X o ta) (c : Cls X.K C) (hm : Jnj X.K C m f) (F : FnOk X.prog X.w X.K X.mg X.base CX k f fd ps sp) (hr : Room k X.A) (hb : Binds X.K fd ps ds) (hd : Vals dvs ds) (hx : Jj9 CX X E) (ha : PA X (e :: es) t)
  (hst : starEach (e :: es) X.env = (false,eval e X.env) :: starEach es X.env:=by rfl) (hpl : (backTo pos (starEach es X.env)).any (·.1) = false:=by rfl)
  (ht : eval (.Call (.Attribute o m apos) (e :: es) [] pos) X.env = (do
   let ov ← eval o X.env
   standAt apos.atName
   let (f,first) ← holding [ov] (getMethod ov m pl)
   callWith pos f first (backTo pos (starEach (e :: es) X.env)) (backToKw pos (keywordEach [] X.env))):=by rfl) :
  PE X (.Call (.Attribute o m apos) (e :: es) [] pos) (tMeth C m sp dvs E ta t):=by
 intro pins s σ H Q I h
 refine PySem.W.methodCall_KW (pl:=pl) (thn (he pins s σ H _ I h) fun u s1 ⟨x,H1,I1,rx,a,dx,fs,ex,ea,l,q⟩=>?_) ht
 subst ex
 obtain rfl : u = Value.ref a:=rx
 refine Jky I1 ea c hm l ?_
 refine PySem.W.callWith_K (first:=[.ref a]) (h₀:=X.base) I.ok.mod.kin hm.kp (thn (ha pos pins s1 σ H1 _ I1 q) fun us s2 ⟨vs,H2,I2,r,q2⟩=>⟨I2.kIn,?_⟩) hst hpl
 exact Jnx (us:=.ref a :: us) (vs:=.ref a :: vs) F hr hb hd hx I2 (.cons rfl r) q2
theorem Jqc {pl : Sem Bool} (he : PE X o ta) (c : Cls X.K C) (hm : Jnj X.K C m f) (F : FnOk X.prog X.w X.K X.mg X.base CX k f fd ps sp) (hr : Room k X.A) (hb : Binds X.K fd ps ds) (hd : Vals dvs ds) (hx : Jj9 CX X E)
  (ht : eval (.Call (.Attribute o m apos) [] [] pos) X.env = (do
   let ov ← eval o X.env
   standAt apos.atName
   let (f,first) ← holding [ov] (getMethod ov m pl)
   callWith pos f first (backTo pos (starEach [] X.env)) (backToKw pos (keywordEach [] X.env))):=by rfl) :
  PE X (.Call (.Attribute o m apos) [] [] pos) (tMeth C m sp dvs E ta Jnd):=by
 intro pins s σ H Q I h
 refine PySem.W.methodCall_KW (pl:=pl) (thn (he pins s σ H _ I h) fun u s1 ⟨x,H1,I1,rx,a,dx,fs,ex,ea,l,q⟩=>?_) ht
 subst ex
 obtain rfl : u = Value.ref a:=rx
 refine Jky I1 ea c hm l ?_
 exact PySem.W.callWith_K0 (first:=[.ref a]) I1.kIn hm.kp (Jnx (us:=[.ref a]) (vs:=[.ref a]) F hr hb hd hx I1 (.cons rfl .nil) q)
structure Mk (K : PySem.W.Frag) (C f : Addr) : Prop where
 makes : PySem.W.makesIn K C = true
 init : PySem.W.findIn K (.ref C) "__init__" = some (some (.ref f))
 fn : PySem.W.isFn K (.ref f) = true
 kp : PySem.W.keepIn K (.ref C) = true
theorem Jqk {pins : List (Addr × Obj)} {σ : St} {H : Hp} {s : Shared} {Q : VK} {us : List Value} {vs : List V} (M : Mk X.K C f) (F : FnOk X.prog X.w X.K X.mg X.base CX k f fd ps sp) (hr : Room (k + 1) X.A) (hb : Binds X.K fd ps ds) (hd : Vals dvs ds)
  (hx : Jj9 CX X E) (I : Inv X pins σ H s) (r : Vals vs us)
  (h : ∀ x dx,H x = none → H dx = none → dx ≠ x → sp (.ref x :: (vs ++ dvs)) (upd (upd H dx (.own x)) x (.ins C dx [])) (fun v H2=>v = .non ∧ Q (.ref x) H2) E) :
  wpAny (model X.prog X.w) X.A (call (.ref C) us) (EP X pins σ Q) X.xe s:=by
 have hq:=h (s.heap.objs.size + 1) s.heap.objs.size (I.hok.fresh (Nat.le_succ _)) (I.hok.fresh (Nat.le_refl _)) (Nat.ne_of_lt (Nat.lt_succ_self _))
 have I2:=Inv.made (C:=C) I
 have r2 : Vals (V.ref (s.heap.objs.size + 1) :: (vs ++ dvs)) (Value.ref (s.heap.objs.size + 1) :: (us ++ ds)):=.cons rfl (r.append hd)
 have hl : (Value.ref (s.heap.objs.size + 1) :: us ++ ds).length = ps.length:=by
  have e:=r2.length
  rw [F.len _ _ _ _ hq] at e
  exact e.symm
 refine wpAny_call (Jn0 (f:=f) I.kIn M.makes M.init (beq_iff_eq.mp M.fn) (codeAny_mono (F.run _ X.stack _ _ ⟨Value.ref (s.heap.objs.size + 1) :: us,[]⟩ (Value.ref (s.heap.objs.size + 1) :: (us ++ ds)) _ _ E (hr.make C us [])
  (I2.env0.make C us []) (hb _ (Value.ref (s.heap.objs.size + 1) :: us) I2.kIn hl) r2 hq) fun r s' hq'=>?_))
 cases r with
 | error e=>exact hx pins σ _ _ e s' I2 hq'
 | ok fl =>
  cases fl with
  | ret u =>
   obtain ⟨v,H', I3,rv,ev,q3⟩:=I2.after hq'
   subst ev
   exact ⟨rv,⟨V.ref (s.heap.objs.size + 1),H', I3,rfl,q3⟩⟩
  | next=>exact False.elim hq'
  | brk=>exact False.elim hq'
  | cont=>exact False.elim hq'
theorem Jh6 (M : Mk X.K C f) (F : FnOk X.prog X.w X.K X.mg X.base CX k f fd ps sp) (hr : Room (k + 1) X.A) (hg : Gl X x) (hm : X.mg x = some (.ref C)) (hb : Binds X.K fd ps ds) (hd : Vals dvs ds) (hx : Jj9 CX X E)
  (ha : PA X (e :: es) t) (hdb : (x == ("__debug__" : Str)) = false:=by decide) (he : starEach (e :: es) X.env = (false,eval e X.env) :: starEach es X.env:=by rfl) (hpl : (backTo pos (starEach es X.env)).any (·.1) = false:=by rfl) :
  PE X (.Call (.Name x p) (e :: es) [] pos) (tMake C sp dvs E t):=by
 intro pins s σ H Q I h
 refine wpAny_Call_Name_kw (Jhy I hg hm ?_ hdb)
 refine PySem.W.callWith_K (h₀:=X.base) I.ok.mod.kin M.kp (thn (ha pos pins s σ H _ I h) fun us s1 ⟨vs,H1,I1,r,q⟩=>⟨I1.kIn,?_⟩) he hpl
 exact Jqk M F hr hb hd hx I1 r q
end
section
variable {X : Cx} {CX : CXT} {k : Nat} {f C : Addr} {fd : FuncData} {ps ks : List Str} {sp : Sp} {E : XK} {x m : Str} {p pos apos kpos : Pos} {e o : Expr} {es : List Expr} {kws : List Keyword} {te ta : TE} {t tk : TA} {nm : Option Str}
structure KBinds (K : PySem.W.Frag) (fd : FuncData) (ps ks : List Str) (g : List Value → List Value → List Value) (gV : List V → List V → List V) : Prop where
 to : ∀ (s : Shared) (us ws : List Value),K.In s.heap → (g us ws).length = ps.length → BindsTo s fd ⟨us,ks.zip ws⟩ (ps.zip (g us ws))
 rel : ∀ {vs : List V} {us : List Value} {zs : List V} {ws : List Value},Vals vs us → Vals zs ws → Vals (gV vs zs) (g us ws)
variable {g : List Value → List Value → List Value} {gV : List V → List V → List V}
end
structure Jfx (N P : List Str) (sc : Scope) : Prop where
 kind : sc.kind = .function
 co : sc.isCoroutine = false
 gen : sc.isGenerator = false
 nd : N.Nodup
 pre : N.take P.length = P
 par : ∀ x ∈ P,sc.names.lookup x = some .local ∨ sc.names.lookup x = some .cell
 nofree : ∀ y ∈ sc.names,y.2 ≠ .free
theorem Jlr {kindOf : Str → Option NameKind} {x : Str} : ∀ {binds : List (Str × Value)} {m : Str → Option Value},(∀ v,(x,v) ∉ binds) → bindL kindOf binds m x = m x
 | [],_,_=>rfl
 | (n,v) :: r,m,h=>by
  unfold bindL
  rw [Jlr fun w hw=>h w (List.mem_cons_of_mem _ hw)]
  split
  ·have : x ≠ n:=by rintro rfl; exact h v List.mem_cons_self
   simp [this]
  ·rfl
theorem Jlp {kindOf : Str → Option NameKind} {x : Str} : ∀ {binds : List (Str × Value)} {m : Str → Option Value},(∀ v,(x,v) ∉ binds) → bindC kindOf binds m x = m x
 | [],_,_=>rfl
 | (n,v) :: r,m,h=>by
  unfold bindC
  rw [Jlp fun w hw=>h w (List.mem_cons_of_mem _ hw)]
  split
  ·rfl
  ·have : x ≠ n:=by rintro rfl; exact h v List.mem_cons_self
   simp [this]
theorem Jlq {kindOf : Str → Option NameKind} {x : Str} {v : Value} : ∀ {P : List Str} {vs : List Value} {i : Nat} {m : Str → Option Value},P.Nodup → P[i]? = some x → vs[i]? = some v → kindOf x = some .local →
  bindL kindOf (P.zip vs) m x = some v
 | [],_,_,_,_,h,_,_=>by simp at h
 | _ :: _,[],_,_,_,_,h,_=>by simp at h
 | p :: P,w :: vs,0,m,nd,h1,h2,hk=>by
  simp at h1 h2; subst h1; subst h2
  show bindL kindOf ((p,w) :: P.zip vs) m p = _
  unfold bindL
  rw [Jlr fun v hv=>(List.nodup_cons.mp nd).1 (List.of_mem_zip hv).1,if_pos hk]
  simp
 | p :: P,w :: vs,i + 1,m,nd,h1,h2,hk=>by
  show bindL kindOf ((p,w) :: P.zip vs) m x = _
  unfold bindL
  exact Jlq (i:=i) (List.nodup_cons.mp nd).2 (by simpa using h1) (by simpa using h2) hk
theorem Jlo {kindOf : Str → Option NameKind} {x : Str} {v : Value} : ∀ {P : List Str} {vs : List Value} {i : Nat} {m : Str → Option Value},P.Nodup → P[i]? = some x → vs[i]? = some v → kindOf x ≠ some .local →
  bindC kindOf (P.zip vs) m x = some v
 | [],_,_,_,_,h,_,_=>by simp at h
 | _ :: _,[],_,_,_,_,h,_=>by simp at h
 | p :: P,w :: vs,0,m,nd,h1,h2,hk=>by
  simp at h1 h2; subst h1; subst h2
  show bindC kindOf ((p,w) :: P.zip vs) m p = _
  unfold bindC
  rw [Jlp fun v hv=>(List.nodup_cons.mp nd).1 (List.of_mem_zip hv).1,if_neg hk]
  simp
 | p :: P,w :: vs,i + 1,m,nd,h1,h2,hk=>by
  show bindC kindOf ((p,w) :: P.zip vs) m x = _
  unfold bindC
  exact Jlo (i:=i) (List.nodup_cons.mp nd).2 (by simpa using h1) (by simpa using h2) hk
def start (N : List Str) (vs : List V) : St:=vs.map some ++ List.replicate (N.length - vs.length) none
def Jkw (CX : CXT) (P : Program) (w : World) (K : PySem.W.Frag) (mg : Str → Option Value) (base : Heap) (N : List Str) (qual : Str) (scope : Scope) (f : Addr) (cd : Value) (A : Around) (outer : List Env) (s : Shared) (H : Hp) (E : XK) : Cx where
 prog:=P
 w:=w
 K:=K
 mg:=mg
 base:=base
 A:=A.deeper (envOfC qual scope s.heap.objs.size f cd)
 N:=N
 s₀:=s
 H₀:=H
 env:=envOfC qual scope s.heap.objs.size f cd
 outer:=outer
 stack:=envOfC qual scope s.heap.objs.size f cd :: outer
 ex:=[]
 calm:=true
 fn:=fun _=>true
 pn:=[]
 xe:=fun e s'=>wpAny (model P w) (A.deeper (envOfC qual scope s.heap.objs.size f cd)) (leaving (envOfC qual scope s.heap.objs.size f cd) e) (fun _ s''=>CX outer H s E e s'') (fun e' s''=>CX outer H s E e' s'') s'
theorem Jmw {sc : Scope} {n : Nat} {x : Str} (h : sc.names.lookup x = some .cell) : ∃ c,(cellsFrom n sc.names []).lookup x = some c:=by
 have q:=PySem.W.cellsFrom_some sc.names n [] (.inl h)
 exact Option.isSome_iff_exists.mp q
theorem Jm0 {CX : CXT} {P : Program} {w : World} {K : PySem.W.Frag} {mg : Str → Option Value} {base : Heap} {N ps : List Str} {qual : Str} {scope : Scope} {f : Addr} {cd : Value} {A : Around} {outer : List Env} {s s1 : Shared} {H : Hp} {E : XK} {us : List Value} {vs : List V}
  (S : Jfx N ps scope) (hd : A.handled = none) (e0 : Env0 P w K mg base A outer s H) (hl : vs.length = ps.length) (r : Vals vs us)
  (x : InCallC s s.heap.objs.size (bindL (envOfC qual scope s.heap.objs.size f cd).kindOf (ps.zip us) fun _=>none) (cellsFrom (s.heap.objs.size + 1) scope.names []) (bindC (envOfC qual scope s.heap.objs.size f cd).kindOf (ps.zip us) fun _=>none) s1) :
  Inv (Jkw CX P w K mg base N qual scope f cd A outer s H E) [] (start N vs) H s1:=by
 have hpl : ps.length ≤ N.length:=by have:=congrArg List.length S.pre; rw [List.length_take] at this; omega
 obtain ⟨h1,tk,rfl,hk⟩:=x.done
 have noA : ∀ b : Addr,b ∉ (Jkw CX P w K mg base N qual scope f cd A outer s H E).ex:=fun b z=>absurd (show b ∈ ([] : List Addr) from z) (by simp)
 refine ⟨⟨e0.mod,S.kind,rfl,rfl,Nat.le_refl _,fun y z c h1 h2=>?_,fun y hy=>?_,fun y c _ h=>?_,fun _=>hd,Around.frames_deeper e0.frames,.inr ⟨rfl,rfl⟩,fun b z=>absurd z (noA b),e0.bs,e0.bsz,fun b _ _=>noA b,fun b z=>absurd z (noA b),e0.funs,e0.frf⟩,
  rfl,e0.bare,Un.kept hk,⟨_,x.toInCall.ns,fun i y v h1 h2 h3=>?_⟩,fun y c h=>⟨_,x.cell y c h⟩,e0.hok.fresh (Nat.le_refl _),fun y c h=>?_,fun p hp=>absurd (show p ∈ ([] : List (Addr × Obj)) from hp) (by simp),e0.hok.kept hk,?_⟩
 ·exact name_of_addr x.apart (PySem.mem_of_lookup h1) (PySem.mem_of_lookup h2)
 ·have hy : scope.names.lookup y = some .cell ∨ scope.names.lookup y = some .free:=hy
  rcases hy with hy | hy
  ·exact Jmw hy
  ·exact absurd rfl (S.nofree _ (PySem.mem_of_lookup hy))
 ·exact Nat.le_of_lt (x.above y c (PySem.mem_of_lookup h))
 ·have hi : i < vs.length:=by
   unfold start at h2
   by_cases hi : i < vs.length
   ·exact hi
   ·rw [List.getElem?_append_right (by simpa using hi)] at h2
    rw [List.getElem?_replicate] at h2
    split at h2 <;> cases h2
  have ha : vs[i]? = some v:=by
   unfold start at h2
   rw [List.getElem?_append_left (by simpa using hi),List.getElem?_map] at h2
   cases e : vs[i]? with
   | none=>rw [e] at h2; cases h2
   | some a=>rw [e] at h2; cases h2; rfl
  obtain ⟨u,hu,rv⟩:=r.get ha
  have hp : ps[i]? = some y:=by
   rw [← S.pre,List.getElem?_take_of_lt (by omega)]; exact h1
  have ndP : ps.Nodup:=by rw [← S.pre]; exact S.nd.sublist (List.take_sublist _ _)
  refine ⟨u,rv,?_⟩
  rcases S.par y (List.mem_of_getElem? hp) with k | k
  ·exact .inl ⟨k,Jlq ndP hp hu k⟩
  ·obtain ⟨c,e⟩:=Jmw (n:=s.heap.objs.size + 1) k
   refine .inr ⟨.inl k,c,e,?_⟩
   have q:=x.cell y c e
   rw [Jlo ndP hp hu (by show scope.names.lookup y ≠ _; rw [k]; decide)] at q
   exact q
 ·exact e0.hok.fresh (Nat.le_of_lt (x.above y c (PySem.mem_of_lookup h)))
 ·unfold start
  show _ = N.length
  rw [List.length_append,List.length_map,List.length_replicate]
  omega
theorem fn_of {CX : CXT} {P : Program} {w : World} {K : PySem.W.Frag} {mg : Str → Option Value} {base : Heap} {k : Nat} {f : Addr} {name qual : Str} {params : Arguments} {body : List Stmt} {scope : Scope} {dV kV doc pm cdv ct oc : Value} {an od : Option Addr}
  {osl : Array (Option Value)} {N ps : List Str} {sp : Sp} (lk : K.lookup f = some ⟨oc,od,.func (PySem.W.fnOf name qual params body scope dV kV doc pm an cdv ct),osl⟩) (hcd : PySem.W.codeIn K cdv qual = true) (S : Jfx N ps scope)
  (len : ∀ vs H Q E,sp vs H Q E → vs.length = ps.length)
  (hbody : ∀ (A : Around) (outer : List Env) (s : Shared) (H : Hp) (vs : List V) (Q : VK) (E : XK),Room k (A.deeper (envOfC qual scope s.heap.objs.size f cdv)) → sp vs H Q E →
   ∃ t,PSs (Jkw CX P w K mg base N qual scope f cdv A outer s H E) body t ∧ t { nx:=fun _ H'=>Q .non H', rt:=Q } (start N vs) H) :
  FnOk P w K mg base CX (k + 1) f (PySem.W.fnOf name qual params body scope dV kV doc pm an cdv ct) ps sp:=by
 refine ⟨len,fun A outer s H args us vs Q E hr e0 hb r hsp=>?_⟩
 have hl:=len _ _ _ _ hsp
 have KX : K.In s.heap:=e0.mod.kin.keeps fun b o e=>(e0.bs b o e).1
 have lim : s.heap.NoLimit:=e0.mod.nolimit.keeps fun b o e=>(e0.bs b o e).1
 have hkind : ∀ y ∈ ps.zip us,scope.names.lookup y.1 = some .local ∨ (scope.names.lookup y.1 = some .cell ∧ ((cellsFrom (s.heap.objs.size + 1) scope.names []).lookup y.1).isSome = true):=fun ⟨n,v⟩ hy=>by
  rcases S.par n (List.of_mem_zip hy).1 with q | q
  ·exact .inl q
  ·exact .inr ⟨q,PySem.W.cellsFrom_some _ _ _ (.inl q)⟩
 refine codeAny_call_function hr.depth (KX _ _ lk) rfl S.co S.gen rfl (PySem.W.codeRec_of KX hcd) (hb _ _ _ _ ?_)
 refine wpAny_newFunctionEnv_cells S.kind hkind fun env he s1 x=>?_
 subst he
 refine ⟨lim.keeps x.toInCall.keep,codeAny_func ?_⟩
 obtain ⟨t,ht,hq⟩:=hbody A outer s H vs Q E (hr.deeper _) hsp
 have I : Inv (Jkw CX P w K mg base N qual scope f cdv A outer s H E) [] (start N vs) H s1:=Jm0 S hr.hd e0 hl r x
 refine wpAny_mono (ht [] s1 (start N vs) H _ I hq) (fun fl s' hs=>?_) fun e s' hs=>hs
 have fin : ∀ {σ' : St} {H' : Hp} {v : V} {u : Value},Inv (Jkw CX P w K mg base N qual scope f cdv A outer s H E) [] σ' H' s' → RelV v u → Q v H' → CE outer P w H s Q u s' :=
  fun {σ' H' v u} J rv q=>⟨v,H', J.os,J.bare,J.base,J.hok,rv,q⟩
 cases fl with
 | ret u =>
  obtain ⟨v,σ', H', J,rv,q⟩:=hs
  exact fin J rv q
 | next =>
  obtain ⟨σ', H', J,q⟩:=hs
  exact fin (v:=V.non) (u:=Value.none) J rfl q
 | brk =>
  obtain ⟨_,_,_,q⟩:=hs
  exact False.elim q
 | cont =>
  obtain ⟨_,_,_,q⟩:=hs
  exact False.elim q
end L2
namespace L2
open PySem PySem.Spec PyProof.Rows
section
variable {X : Cx} {x : Str} {p pos : Pos} {e : Expr} {es : List Expr} {t : TA} {id T : String} {r : List V → Hp → VK → Prop}
def tCB (r : List V → Hp → VK → Prop) (t : TA) : TE:=fun σ H Q=>t σ H fun vs H1=>r vs H1 Q
theorem Jft (hc : Jhs X (.builtin id) r) (hg : Gl X x) (hm : X.mg x = none) (hv : bootBuiltins x = some (.builtin id)) (ha : PA X (e :: es) t) (hn : x ≠ "__name__" := by decide) (hdb : (x == ("__debug__" : Str)) = false:=by decide)
  (he : starEach (e :: es) X.env = (false,eval e X.env) :: starEach es X.env:=by rfl) (hpl : (backTo pos (starEach es X.env)).any (·.1) = false:=by rfl) : PE X (.Call (.Name x p) (e :: es) [] pos) (tCB r t):=by
 intro pins s σ H Q I h
 refine wpAny_Call_Name_kw (Jk4 I hg hm hv ?_ hn hdb)
 exact PyProof.Rows.callWith_builtin1 (thn (ha pos pins s σ H _ I h) fun us s1 ⟨vs,H1,I1,r1,q1⟩=>hc pins s1 σ H1 vs us Q I1 r1 q1) he hpl
theorem Jgj (hc : Jhs X (.type T) r) (hg : Gl X x) (hm : X.mg x = none) (hv : bootBuiltins x = some (.type T)) (ha : PA X (e :: es) t) (hn : x ≠ "__name__" := by decide) (hdb : (x == ("__debug__" : Str)) = false:=by decide)
  (he : starEach (e :: es) X.env = (false,eval e X.env) :: starEach es X.env:=by rfl) (hpl : (backTo pos (starEach es X.env)).any (·.1) = false:=by rfl) : PE X (.Call (.Name x p) (e :: es) [] pos) (tCB r t):=by
 intro pins s σ H Q I h
 refine wpAny_Call_Name_kw (Jk4 I hg hm hv ?_ hn hdb)
 exact PyProof.Rows.callWith_type1 (thn (ha pos pins s σ H _ I h) fun us s1 ⟨vs,H1,I1,r1,q1⟩=>hc pins s1 σ H1 vs us Q I1 r1 q1) he hpl
end
end L2
namespace HT
open PySem PyProof.Rows
section
open PySem.SeqAt
open PySem.AutoSeq1 (wpAny_loadPart')
open PySem.MeetsSeq PySem.MeetsSeq2 PySem.MeetsSeq3
end
section
variable {prog : Program} {w : World} {A : Around} {E : Value → Shared → Prop} {s : Shared}
def sIx (n d : Nat) : Option Int → Nat
 | none=>d
 | some v=>if v < 0 then (v + (n : Int)).toNat else min v.toNat n
theorem sIx_none (n d : Nat) : sIx n d none = d:=rfl
theorem sIx_nat (n d k : Nat) : sIx n d (some (k : Int)) = min k n:=by
 show (if (k : Int) < 0 then ((k : Int) + (n : Int)).toNat else min (k : Int).toNat n) = min k n
 rw [if_neg (by omega),Int.toNat_natCast]
end
end HT
namespace L2
open PySem PySem.Spec PyProof.Rows
abbrev TO:=St → Hp → (Option Int → Hp → Prop) → Prop
def PO (X : Cx) (e : Option Expr) (t : TO) : Prop :=
 ∀ (pins : List (Addr × Obj)) (s : Shared) (σ : St) (H : Hp) (Q : Option Int → Hp → Prop),Inv X pins σ H s → t σ H Q →
  wpAny (model X.prog X.w) X.A (evalPart e X.env) (fun u s'=>∃ o H', Inv X pins σ H' s' ∧ IsPart u o ∧ Q o H') X.xe s
def Js6 : TO:=fun _ H Q=>Q none H
def tPart (t : TE) : TO:=fun σ H Q=>t σ H fun x H1=>∃ i,x = .int i ∧ Q (some i) H1
section
variable {X : Cx} {e : Expr} {te : TE} {lo hi : Option Expr} {tl th : TO} {pos p2 : Pos}
theorem Jgz : PO X none Js6:=by
 intro pins s σ H Q I h
 rw [evalPart_none]
 exact wpAny_pure ⟨none,H,I,.none,h⟩
theorem Jh0 (h : PE X e te) : PO X (some e) (tPart te):=by
 intro pins s σ H Q I hw
 rw [evalPart_some]
 refine thn (h pins s σ H _ I hw) fun u s1 ⟨x,H1,I1,r1,q1⟩=>?_
 obtain ⟨i,rfl,q⟩:=q1
 obtain ⟨t,rfl⟩:=r1
 exact ⟨some i,H1,I1,.int i t,q⟩
def SlR (X : Cx) (r : V → Option Int → Option Int → Hp → VK → Prop) : Prop :=
 ∀ (pins : List (Addr × Obj)) (s : Shared) (σ : St) (H : Hp) (x : V) (v vl vu : Value) (lo hi : Option Int) (sl : Addr) (Q : VK),Inv X pins σ H s → RelV x v → s.heap.IsSliceOf sl vl vu .none → IsPart vl lo → IsPart vu hi → r x lo hi H Q →
  ∃ T id,typeLookup (.type T) "__getitem__" = pure (some (.builtin id)) ∧ s.TypeIs v T ∧ wpAny (model X.prog X.w) X.A (getItem v (.ref sl)) (EP X pins σ Q) X.xe s
def tSl (r : V → Option Int → Option Int → Hp → VK → Prop) (te : TE) (tl th : TO) : TE:=fun σ H Q=>te σ H fun x H1=>tl σ H1 fun l H2=>th σ H2 fun u H3=>r x l u H3 Q
theorem Jgp {r : V → Option Int → Option Int → Hp → VK → Prop} (hr : SlR X r) (he : PE X e te) (hl : PO X lo tl) (hu : PO X hi th) : PE X (.Subscript e (.Slice lo hi none p2) pos) (tSl r te tl th):=by
 intro pins s σ H Q I h
 refine Subscript_ (thn (he pins s σ H _ I h) fun v s1 ⟨x,H1,I1,r1,q1⟩=>?_)
 refine wpAny_Slice (thn (hl pins s1 σ H1 _ I1 q1) fun vl s2 ⟨l,H2,I2,pl,q2⟩=>thn (hu pins s2 σ H2 _ I2 q2) fun vu s3 ⟨u,H3,I3,pu,q3⟩=>?_)
 rw [evalPart_none]
 refine wpAny_pure ?_
 have I4 : Inv X pins σ H3 { s3 with heap:=s3.heap.push { cls:=.type "slice",data:=.fields #[vl,vu,.none] } }:=I3.kept (t':=s3.toks) fun b ob q=>Heap.get?_push_of_some _ q
 obtain ⟨T,id,hT,ht,hg⟩:=hr pins { s3 with heap:=s3.heap.push { cls:=.type "slice",data:=.fields #[vl,vu,.none] } } σ H3 x v vl vu l u s3.heap.objs.size Q I4 r1 (Heap.IsSliceOf.new ..) pl pu q3
 show wpAny (model X.prog X.w) X.A (subscriptTail e (.Slice lo hi none p2) v (.ref s3.heap.objs.size)) (EP X pins σ Q) X.xe { s3 with heap:=s3.heap.push { cls:=.type "slice",data:=.fields #[vl,vu,.none] } }
 exact tail_any (ops:=[.ref s3.heap.objs.size,v]) ht hT hg (by with_unfolding_all rfl)
def Jij (xs : List V) (lo hi : Option Int) : List V:=(xs.drop (HT.sIx xs.length 0 lo)).take (HT.sIx xs.length xs.length hi - HT.sIx xs.length 0 lo)
theorem Jmz (xs : List V) (lo hi : Option Int) : (Jij xs lo hi).length ≤ xs.length:=by
 unfold Jij
 rw [List.length_take,List.length_drop]
 omega
end
end L2
namespace L2
open PySem PySem.Spec PyProof.Rows
def ixN (n : Nat) (i : Int) : Option Nat:=if 0 ≤ i then (if i < n then some i.toNat else none) else if -(n : Int) ≤ i then some (i + n).toNat else none
def atI {α : Type} (xs : List α) (i : Int) : Option α:=(ixN xs.length i).bind fun j=>xs[j]?
theorem Jod {n : Nat} {i : Int} {j : Nat} (h : ixN n i = some j) : seqIndex? i n = some j ∧ j < n ∧ -(n : Int) ≤ i ∧ i < n:=by
 unfold ixN at h
 by_cases h0 : 0 ≤ i
 ·rw [if_pos h0] at h
  by_cases h1 : i < n
  ·rw [if_pos h1] at h
   have e : i.toNat = j:=Option.some.inj h
   exact ⟨by rw [seqIndex_of h0 h1,e],by omega,by omega,h1⟩
  ·rw [if_neg h1] at h; cases h
 ·rw [if_neg h0] at h
  by_cases h1 : -(n : Int) ≤ i
  ·rw [if_pos h1] at h
   have e : (i + n).toNat = j:=Option.some.inj h
   exact ⟨by rw [seqIndex_neg (by omega) h1,e],by omega,h1,by omega⟩
  ·rw [if_neg h1] at h; cases h
theorem Jm8 {α : Type} {xs : List α} {i : Int} {v : α} (h : atI xs i = some v) : ∃ j,seqIndex? i xs.length = some j ∧ xs[j]? = some v ∧ j < xs.length ∧ -(xs.length : Int) ≤ i ∧ i < xs.length:=by
 unfold atI at h
 cases e : ixN xs.length i with
 | none=>rw [e] at h; cases h
 | some j =>
  rw [e] at h
  obtain ⟨h1,h2,h3,h4⟩:=Jod e
  exact ⟨j,h1,h,h2,h3,h4⟩
theorem Jhb {α : Type} {xs : List α} {j : Nat} {v : α} (h : xs[j]? = some v) : atI xs (j : Int) = some v:=by
 have hj : j < xs.length:=(List.getElem?_eq_some_iff.mp h).1
 have e : ixN xs.length (j : Int) = some j:=by
  unfold ixN
  rw [if_pos (by omega),if_pos (by omega)]; simp
 unfold atI; rw [e]; exact h
def Jr4 (b : Expr) : Prop:=∀ o i,subscripted b false o i = operate [o,i] (getItem o i)
def IxR (X : Cx) (r : R2) : Prop :=
 ∀ (value slice : Expr) (pins : List (Addr × Obj)) (s : Shared) (σ : St) (H : Hp) (x y : V) (v u : Value) (Q : VK),Inv X pins σ H s → RelV x v → RelV y u → r x y H Q →
  subscripted slice false v u = operate [v,u] (getItem v u) → wpAny (model X.prog X.w) X.A (subscriptTail value slice v u) (EP X pins σ Q) X.xe s
def MtR (X : Cx) (id : String) (r : V → List V → Hp → VK → Prop) : Prop :=
 ∀ (pins : List (Addr × Obj)) (s : Shared) (σ : St) (H : Hp) (x : V) (xs : List V) (v : Value) (us : List Value) (Q : VK),Inv X pins σ H s → RelV x v → Vals xs us → r x xs H Q →
  wpAny (model X.prog X.w) X.A (call (.builtin id) (v :: us)) (EP X pins σ Q) X.xe s
section
variable {X : Cx} {a b : Expr} {ta tb : TE} {pos : Pos}
theorem Jfz {r : R2} (hr : IxR X r) (ha : PE X a ta) (hb : PE X b tb) (hs : Jr4 b) : PE X (.Subscript a b pos) (tOp r ta tb):=by
 intro pins s σ H Q I h
 exact Subscript_ (binT ha hb I h fun v u s2 x y H2 I2 rx ry q=>hr a b pins s2 σ H2 x y v u Q I2 rx ry q (hs _ _))
def rIxL (K : PySem.W.Frag) : R2:=fun x y H Q=>∃ p xs i v,x = .ref p ∧ y = .int i ∧ SqL K H p xs ∧ atI xs i = some v ∧ Q v H
def rIxT (K : PySem.W.Frag) : R2:=fun x y H Q=>∃ p xs i v,x = .ref p ∧ y = .int i ∧ SqT K H p xs ∧ atI xs i = some v ∧ Q v H
def rIxS : R2:=fun x y H Q=>∃ z i c,x = .str z ∧ y = .int i ∧ z.length ≤ sizeLine ∧ atI z.cps.toList i = some c ∧ Q (.str ⟨#[c]⟩) H
theorem Jfs : IxR X (rIxL X.K):=by
 intro value slice pins s σ H x y v u Q I rx ry h hs
 obtain ⟨p,xs,i,z,rfl,rfl,hq,he,q⟩:=h
 cases rx
 obtain ⟨t,rfl⟩:=ry
 obtain ⟨its,r,pl,hz⟩:=I.list hq
 obtain ⟨j,h1,h2,h3,h4,h5⟩:=Jm8 he
 obtain ⟨w,ew,rw'⟩:=r.get h2
 have hl:=r.length
 have hn:=Jk5
 have fin : EP X pins σ Q w s:=⟨z,H,I,rw', q⟩
 by_cases h0 : 0 ≤ i
 ·have hj : i.toNat = j:=by
   rw [seqIndex_of h0 h5] at h1
   exact Option.some.inj h1
  exact item_listR pl.isList h0 (by omega) (by rw [hj]; simpa using ew) fin hs
 ·have hj : (i + (its.toArray.size : Int)).toNat = j:=by
   rw [seqIndex_neg (by omega) h4] at h1
   rw [List.size_toArray,← hl]
   exact Option.some.inj h1
  exact subscriptTail_builtinR (x:=w) pl.isList.typeIs slot_list_getitem.lookup
   (wpAny_getItem_list_neg (Q:=fun r s'=>r = w ∧ EP X pins σ Q r s') pl.isList (by omega) (by rw [List.size_toArray] <;> omega) (by omega) (by rw [hj]; simpa using ew) ⟨rfl,fin⟩) hs
theorem Jkz : IxR X (rIxT X.K):=by
 intro value slice pins s σ H x y v u Q I rx ry h hs
 obtain ⟨p,xs,i,z,rfl,rfl,hq,he,q⟩:=h
 cases rx
 obtain ⟨t,rfl⟩:=ry
 obtain ⟨its,r,pl,hz⟩:=I.tuple hq
 obtain ⟨j,h1,h2,h3,h4,h5⟩:=Jm8 he
 obtain ⟨w,ew,rw'⟩:=r.get h2
 have hl:=r.length
 have hn:=Jk5
 have fin : EP X pins σ Q w s:=⟨z,H,I,rw', q⟩
 exact subscriptTail_builtinR (x:=w) pl.typeIs slot_tuple_getitem.lookup
  (getItem_tuple (j:=j) (Q:=fun r s'=>r = w ∧ EP X pins σ Q r s') pl (by omega) (by omega) (by rw [List.size_toArray,← hl]; exact h1) (by simpa using ew) ⟨rfl,fin⟩) hs
theorem Jmh : IxR X rIxS:=by
 intro value slice pins s σ H x y v u Q I rx ry h hs
 obtain ⟨z,i,c,rfl,rfl,hz,he,q⟩:=h
 obtain ⟨t,rfl⟩:=rx
 obtain ⟨t', rfl⟩:=ry
 obtain ⟨j,h1,h2,h3,h4,h5⟩:=Jm8 he
 have hl : z.cps.toList.length = z.length:=by simp [Str.length]
 rw [hl] at h1 h4 h5
 have hn:=Jk5
 exact tail_any (typeIs_str s z t) slot_str_getitem.lookup (getItem_str (c:=c) (by
  have e1 : decide (i < -(2 ^ 63 : Int)) = false:=decide_eq_false (by omega)
  have e2 : decide (i ≥ 2 ^ 63) = false:=decide_eq_false (by omega)
  rw [e1,e2,Bool.or_false]) (by rw [h1]; simpa using h2) ⟨.str ⟨#[c]⟩,H,I.tok _,⟨_,rfl⟩,q⟩) hs
theorem Jno (its : List Value) (n j : Nat) (u : Value) : Obj.mapSeq (·.setIfInBounds j u) { cls:=.type "list",data:=.seq its.toArray n } = { cls:=.type "list",data:=.seq (its.set j u).toArray n }:=by
 simp [Obj.mapSeq]
theorem Inv.lst {pins : List (Addr × Obj)} {σ : St} {H : Hp} {s : Shared} {p : Addr} {xs : List V} (I : Inv X pins σ H s) (h : H p = some (.lst xs)) :
  ∃ (its : List Value) (n : Nat),Vals xs its ∧ s.heap.get? p = some { cls:=.type "list",data:=.seq its.toArray n } ∧ xs.length ≤ sizeLine:=by
 obtain ⟨z,its,n,r,e⟩:=I.hok p _ h
 exact ⟨its,n,r,e,z⟩
theorem Inv.lstUpd {pins : List (Addr × Obj)} {σ : St} {H : Hp} {s : Shared} {p : Addr} {xs ys : List V} {its its' : List Value} {n n' : Nat} {f : Obj → Obj} (I : Inv X pins σ H s) (h : H p = some (.lst xs))
  (ho : s.heap.get? p = some { cls:=.type "list",data:=.seq its.toArray n }) (hf : f { cls:=.type "list",data:=.seq its.toArray n } = { cls:=.type "list",data:=.seq its'.toArray n' }) (r : Vals ys its') (hz : ys.length ≤ sizeLine) (t : Nat) :
  Inv X pins σ (upd H p (.lst ys)) { s with heap:=s.heap.update p f,toks:=t }:=by
 have e : (s.heap.update p f).get? p = some { cls:=.type "list",data:=.seq its'.toArray n' }:=by
  rw [Heap.get?_update_self f ho (by rw [hf] <;> rfl),hf]
 refine I.write (x:=p) (e:=p) (by rw [h]; trivial) (.inl rfl) (fun b u hb q=>(Heap.get?_update_other _ _ (Ne.symm hb)).trans q) ⟨_,e⟩ ?_
 exact ⟨hz,its', n', r,e⟩
def rSetL : V → V → V → Hp → (Hp → Prop) → Prop:=fun o i v H Q=>∃ p xs k j,o = .ref p ∧ i = .int k ∧ H p = some (.lst xs) ∧ ixN xs.length k = some j ∧ Q (upd H p (.lst (xs.set j v)))
theorem Jiu : PSet X rSetL:=by
 intro pins s σ H o i v ov iv u Q I ro ri rv h
 obtain ⟨p,xs,k,j,rfl,rfl,hp,hj,q⟩:=h
 cases ro
 obtain ⟨t,rfl⟩:=ri
 obtain ⟨its,n,r,ho,hz⟩:=I.lst hp
 obtain ⟨h1,h2,h3,h4⟩:=Jod hj
 have hl:=r.length
 have hn:=Jk5
 have I' : Inv X pins σ (upd H p (.lst (xs.set j v))) { s with heap:=s.heap.update p (Obj.mapSeq (·.setIfInBounds j u)) } :=
  I.lstUpd hp ho (Jno its n j u) (r.set rv j) (by rw [List.length_set]; exact hz) s.toks
 by_cases h0 : 0 ≤ k
 ·have hk : k.toNat = j:=by
   rw [seqIndex_of h0 h4] at h1
   exact Option.some.inj h1
  exact PySem.W.ki_setAt ho h0 (by omega) (by rw [List.size_toArray,← hl]; exact h4) (by rw [hk]; exact ⟨_,I', q⟩)
 ·have hk : (k + (its.toArray.size : Int)).toNat = j:=by
   rw [seqIndex_neg (by omega) h3] at h1
   rw [List.size_toArray,← hl]
   exact Option.some.inj h1
  exact PySem.W.ki_setBack ho (by omega) (by rw [List.size_toArray,← hl]; exact h3) (by omega) (by rw [hk]; exact ⟨_,I', q⟩)
theorem Jms (lo hi : Option Int) (n : Nat) : (sliceBounds lo hi none n).1 = ((HT.sIx n 0 lo : Nat) : Int) ∧ (sliceBounds lo hi none n).2.1 = ((HT.sIx n n hi : Nat) : Int) ∧ (sliceBounds lo hi none n).2.2 = 1:=by
 refine ⟨?_,?_,rfl⟩
 ·cases lo with
  | none=>simp [sliceBounds,HT.sIx]
  | some i =>
   simp only [sliceBounds,HT.sIx,Option.getD_none,show (1 : Int) > 0 by decide,if_true]
   by_cases h : i < 0
   ·simp only [h,if_true] <;> omega
   ·simp only [h,if_false] <;> omega
 ·cases hi with
  | none=>simp [sliceBounds,HT.sIx]
  | some i =>
   simp only [sliceBounds,HT.sIx,Option.getD_none,show (1 : Int) > 0 by decide,if_true]
   by_cases h : i < 0
   ·simp only [h,if_true] <;> omega
   ·simp only [h,if_false] <;> omega
theorem Jlm (its : List Value) (lo hi : Option Int) : slicePick its.toArray lo hi none = ((its.drop (HT.sIx its.length 0 lo)).take (HT.sIx its.length its.length hi - HT.sIx its.length 0 lo)).toArray:=by
 obtain ⟨h1,h2,h3⟩:=Jms lo hi its.toArray.size
 unfold slicePick
 rw [h1,h2,h3]
 simp only [sliceRange_one,pick_run,List.size_toArray] <;> rfl
def rSlL (K : PySem.W.Frag) : V → Option Int → Option Int → Hp → VK → Prop:=fun x lo hi H Q=>∃ a xs,x = .ref a ∧ SqL K H a xs ∧ ∀ p,H p = none → Q (.ref p) (upd H p (.lst (Jij xs lo hi)))
theorem Jh1 : SlR X (rSlL X.K):=by
 intro pins s σ H x v vl vu lo hi sl Q I rx hs pl pu h
 obtain ⟨a,xs,rfl,hx,q⟩:=h
 cases rx
 obtain ⟨its,r,ht,hz⟩:=I.list hx
 have hlen:=r.length
 refine ⟨"list",_,slot_list_getitem.lookup,ht.isList.typeIs,?_⟩
 refine wpAny_getItem_list_slice ht.isList hs pl pu .none (by simp) ?_ (by rw [List.size_toArray] <;> omega)
 rw [Jlm,← hlen]
 refine ⟨.ref s.heap.objs.size,_,I.laid (t':=s.toks) (o:=.lst (Jij xs lo hi)) (fun b ob q=>Heap.get?_push_of_some _ q) (Nat.le_refl _) ?_,rfl,q _ (I.hok.fresh (Nat.le_refl _))⟩
 exact ⟨Nat.le_trans (Jmz xs lo hi) hz,_,0,(r.drop (HT.sIx xs.length 0 lo)).take (HT.sIx xs.length xs.length hi - HT.sIx xs.length 0 lo),Heap.get?_push_size _ rfl⟩
def Jhf : V → Bool
 | .non=>true
 | .bl _=>true
 | .int _=>true
 | .str _=>true
 | _=>false
def eqV : V → V → Bool
 | .non,.non=>true
 | .bl a,.bl b=>a == b
 | .bl a,.int b=>(if a then 1 else 0) == b
 | .int a,.bl b=>a == (if b then 1 else 0)
 | .int a,.int b=>a == b
 | .str a,.str b=>a == b
 | _,_=>false
theorem Jpu {A : Around} {s : Shared} {y x : V} {u v : Value} (ry : RelV y u) (rx : RelV x v) (fy : Jhf y = true) (fx : Jhf x = true) : SeqAt.EqAt A s u v (eqV y x):=by
 cases y with
 | non =>
  cases ry
  cases x with
  | non=>cases rx; exact SeqAt.EqAt.same _
  | bl b=>cases rx; exact SeqAt.EqAt.none_bool b
  | int b=>obtain ⟨t,rfl⟩:=rx; exact SeqAt.EqAt.none_int b t
  | str b=>obtain ⟨t,rfl⟩:=rx; exact SeqAt.EqAt.none_str b t
  | _=>exact absurd (show false = true from fx) Bool.false_ne_true
 | bl a =>
  cases ry
  cases x with
  | non=>cases rx; exact SeqAt.EqAt.bool_none a
  | bl b=>cases rx; exact SeqAt.EqAt.bool_bool a b
  | int b=>obtain ⟨t,rfl⟩:=rx; exact SeqAt.EqAt.bool_int a b t
  | str b=>obtain ⟨t,rfl⟩:=rx; exact SeqAt.EqAt.bool_str a b t
  | _=>exact absurd (show false = true from fx) Bool.false_ne_true
 | int a =>
  obtain ⟨t', rfl⟩:=ry
  cases x with
  | non=>cases rx; exact SeqAt.EqAt.int_none a t'
  | bl b=>cases rx; exact SeqAt.EqAt.int_bool a t' b
  | int b=>obtain ⟨t,rfl⟩:=rx; exact SeqAt.EqAt.int_int a t' b t
  | str b=>obtain ⟨t,rfl⟩:=rx; exact SeqAt.EqAt.int_str a t' b t
  | _=>exact absurd (show false = true from fx) Bool.false_ne_true
 | str a =>
  obtain ⟨t', rfl⟩:=ry
  cases x with
  | non=>cases rx; exact SeqAt.EqAt.str_none a t'
  | bl b=>cases rx; exact SeqAt.EqAt.str_bool a t' b
  | int b=>obtain ⟨t,rfl⟩:=rx; exact SeqAt.EqAt.str_int a t' b t
  | str b=>obtain ⟨t,rfl⟩:=rx; exact SeqAt.EqAt.str_str a t' b t
  | _=>exact absurd (show false = true from fx) Bool.false_ne_true
 | _=>exact absurd (show false = true from fy) Bool.false_ne_true
def eqU (x : V) (u : Value) : Bool:=match u with
 | .none=>eqV .non x
 | .bool b=>eqV (.bl b) x
 | .int i _=>eqV (.int i) x
 | .str z _=>eqV (.str z) x
 | _=>false
theorem Jpv {x y : V} {u : Value} (r : RelV y u) (f : Jhf y = true) : eqU x u = eqV y x:=by
 cases y with
 | non=>cases r; rfl
 | bl b=>cases r; rfl
 | int i=>obtain ⟨t,rfl⟩:=r; rfl
 | str z=>obtain ⟨t,rfl⟩:=r; rfl
 | _=>exact absurd (show false = true from f) Bool.false_ne_true
theorem Jjk {x : V} : ∀ {xs : List V} {us : List Value},Vals xs us → xs.all Jhf = true → us.any (eqU x) = xs.any fun y=>eqV y x
 | _,_,.nil,_=>rfl
 | y :: xs,u :: us,.cons r t,f=>by
  rw [List.all_cons,Bool.and_eq_true] at f
  rw [List.any_cons,List.any_cons,Jpv r f.1,Jjk t f.2]
theorem Jim {A : Around} {s : Shared} {x : V} {v : Value} (rx : RelV x v) (fx : Jhf x = true) : ∀ {xs : List V} {us : List Value},Vals xs us → xs.all Jhf = true → ∀ u ∈ us,SeqAt.EqAt A s u v (eqU x u)
 | _,_,.nil,_=>fun u hu=>by cases hu
 | y :: xs,u :: us,.cons r t,f=>fun u' hu=>by
  rw [List.all_cons,Bool.and_eq_true] at f
  rcases List.mem_cons.mp hu with rfl | hu
  ·rw [Jpv r f.1]; exact Jpu r rx f.1 fx
  ·exact Jim rx fx t f.2 u' hu
def inV (x : V) (xs : List V) : Bool:=xs.any fun y=>eqV y x
def rIn (K : PySem.W.Frag) (neg : Bool) : R2:=fun x y H Q=>∃ p xs,y = .ref p ∧ (SqL K H p xs ∨ SqT K H p xs) ∧ Jhf x = true ∧ xs.all Jhf = true ∧ Q (.bl (if neg then !inV x xs else inV x xs)) H
theorem Jp7 : OpR X (compareOp .In) (rIn X.K false):=by
 intro pins s σ H x y v u Q I rx ry h
 obtain ⟨p,xs,rfl,hq,fx,fs,q⟩:=h
 cases ry
 rcases hq with hq | hq
 ·obtain ⟨its,r,pl,hz⟩:=I.list hq
  refine SeqAt.in_listAt (eqU x) pl.isList (fun w hw=>Jim rx fx r fs w (by simpa using hw)) ⟨.bl _,H,I,rfl,?_⟩
  rw [show its.toArray.any (eqU x) = its.any (eqU x) by simp,Jjk r fs]
  exact q
 ·obtain ⟨its,r,pl,hz⟩:=I.tuple hq
  refine SeqAt.in_tupleAt (eqU x) pl (fun w hw=>Jim rx fx r fs w (by simpa using hw)) ⟨.bl _,H,I,rfl,?_⟩
  rw [show its.toArray.any (eqU x) = its.any (eqU x) by simp,Jjk r fs]
  exact q
theorem Jid : OpR X (compareOp .NotIn) (rIn X.K true):=by
 intro pins s σ H x y v u Q I rx ry h
 obtain ⟨p,xs,rfl,hq,fx,fs,q⟩:=h
 cases ry
 rcases hq with hq | hq
 ·obtain ⟨its,r,pl,hz⟩:=I.list hq
  refine SeqAt.notIn_listAt (eqU x) pl.isList (fun w hw=>Jim rx fx r fs w (by simpa using hw)) ⟨.bl _,H,I,rfl,?_⟩
  rw [show its.toArray.any (eqU x) = its.any (eqU x) by simp,Jjk r fs]
  exact q
 ·obtain ⟨its,r,pl,hz⟩:=I.tuple hq
  refine SeqAt.notIn_tupleAt (eqU x) pl (fun w hw=>Jim rx fx r fs w (by simpa using hw)) ⟨.bl _,H,I,rfl,?_⟩
  rw [show its.toArray.any (eqU x) = its.any (eqU x) by simp,Jjk r fs]
  exact q
theorem Jgd : Jhs X (.builtin "len") (fun xs H Q=>∃ p ys,xs = [.ref p] ∧ (SqL X.K H p ys ∨ SqT X.K H p ys) ∧ Q (.int ys.length) H):=by
 intro pins s σ H xs us Q I r h
 obtain ⟨p,ys,rfl,hq,q⟩:=h
 obtain ⟨u,rfl,rx⟩:=Jii r
 cases rx
 have hn:=Jk5
 rcases hq with hq | hq
 ·obtain ⟨its,r', pl,hz⟩:=I.list hq
  have hlen:=r'.length
  exact Calls.call_len_list pl.isList (by simp only [List.size_toArray] <;> omega) ⟨.int ys.length,H,I.tok _,⟨s.toks + 1,by rw [List.size_toArray,hlen]⟩,q⟩
 ·obtain ⟨its,r', pl,hz⟩:=I.tuple hq
  have hlen:=r'.length
  exact len_tuple pl (by simp only [List.size_toArray] <;> omega) ⟨.int ys.length,H,I.tok _,⟨s.toks + 1,by rw [List.size_toArray,hlen]⟩,q⟩
theorem Jmb : Jhs X (.builtin "len") (fun xs H Q=>∃ z,xs = [.str z] ∧ z.length ≤ sizeLine ∧ Q (.int z.length) H):=by
 intro pins s σ H xs us Q I r h
 obtain ⟨z,rfl,hz,q⟩:=h
 obtain ⟨u,rfl,t,rfl⟩:=Jii r
 have hn:=Jk5
 exact len_str (by omega) ⟨.int z.length,H,I.tok _,⟨_,rfl⟩,q⟩
theorem Jhe : Jhs X (.type "list") (fun xs H Q=>∃ p ys,xs = [.ref p] ∧ (SqL X.K H p ys ∨ SqT X.K H p ys) ∧ ∀ l,H l = none → Q (.ref l) (upd H l (.lst ys))):=by
 intro pins s σ H xs us Q I r h
 obtain ⟨p,ys,rfl,hq,q⟩:=h
 obtain ⟨u,rfl,rx⟩:=Jii r
 cases rx
 have fin : ∀ (its : List Value),Vals ys its → ys.length ≤ sizeLine → ∀ (h' : Heap) (c' : Nat),(∀ b o', s.heap.get? b = some o' → h'.get? b = some o') →
   h'.get? s.heap.objs.size = some { cls:=.type "list",dict:=none,data:=.seq its.toArray c', slots:=#[] } → EP X pins σ Q (.ref s.heap.objs.size) { s with heap:=h' }:=fun its r' hz h' c' kp e =>
  ⟨.ref s.heap.objs.size,_,I.laid (t':=s.toks) kp (Nat.le_refl _) (show ObjOk X.prog X.w _ h' _ (.lst ys) from ⟨hz,its,c', r', e⟩),rfl,q _ (I.hok.fresh (Nat.le_refl _))⟩
 rcases hq with hq | hq
 ·obtain ⟨its,r', pl,hz⟩:=I.list hq
  have hlen:=r'.length
  obtain ⟨o,ho,hc,n,hd⟩:=pl.isList
  exact call_list_seq p (.inl rfl) ho hc hd (fun h' c' kp e=>fin its r' hz h' c' kp e) (by simp only [List.size_toArray] <;> omega)
 ·obtain ⟨its,r', pl,hz⟩:=I.tuple hq
  have hlen:=r'.length
  obtain ⟨o,ho,hc,n,hd⟩:=pl
  exact call_list_seq p (.inr rfl) ho hc hd (fun h' c' kp e=>fin its r' hz h' c' kp e) (by simp only [List.size_toArray] <;> omega)
theorem Jgq : Jhs X (.type "tuple") (fun xs H Q=>∃ p ys,xs = [.ref p] ∧ ((SqL X.K H p ys ∧ ∀ l,H l = none → Q (.ref l) (upd H l (.tup ys))) ∨ (SqT X.K H p ys ∧ Q (.ref p) H))):=by
 intro pins s σ H xs us Q I r h
 obtain ⟨p,ys,rfl,h⟩:=h
 obtain ⟨u,rfl,rx⟩:=Jii r
 cases rx
 rcases h with ⟨hq,q⟩ | ⟨hq,q⟩
 ·obtain ⟨its,r', pl,hz⟩:=I.list hq
  have hlen:=r'.length
  refine call_tuple_list pl.isList (fun h' kp=>?_) (by simp only [List.size_toArray] <;> omega)
  have I1 : Inv X pins σ H { s with heap:=h' }:=I.kept (t':=s.toks) kp
  have I2 : Inv X pins σ (upd H h'.objs.size (.tup ys)) { s with heap:=h'.push { cls:=.type "tuple",data:=.seq its.toArray } } :=
   I1.laid (t':=s.toks) (fun b o e=>Heap.get?_push_of_some _ e) (Nat.le_refl _) (show ObjOk X.prog X.w _ _ _ (.tup ys) from ⟨hz,its,r', IsTup.new _ _⟩)
  exact ⟨.ref h'.objs.size,_,I2,rfl,q _ (I1.hok.fresh (Nat.le_refl _))⟩
 ·obtain ⟨its,r', pl,hz⟩:=I.tuple hq
  exact call_tuple_same pl ⟨.ref p,H,I,rfl,q⟩
def tyV (K : PySem.W.Frag) (T : String) (x : V) (H : Hp) : Prop:=match x with
 | .str _=>T = "str"
 | .int _=>T = "int"
 | .ref p=>(T = "list" ∧ ∃ xs,SqL K H p xs) ∨ (T = "tuple" ∧ ∃ o,K.lookup p = some o ∧ o.cls = .type "tuple" ∧ o.dict = none) ∨
   (T = "dict" ∧ ((∃ kvs,H p = some (.dK kvs)) ∨ ∃ kvs,H p = some (.dT kvs))) ∨ (T = "set" ∧ ∃ S n,H p = some (.set S n))
 | _=>False
theorem Jqx {pins : List (Addr × Obj)} {σ : St} {H : Hp} {s : Shared} {T : String} {x : V} {v : Value} (I : Inv X pins σ H s) (r : RelV x v) (ty : tyV X.K T x H) :
  s.TypeIs v T ∧ ∀ a,v = .ref a → ∃ ob,s.heap.get? a = some ob ∧ ob.dict = none:=by
 cases x with
 | str z =>
  obtain ⟨t,rfl⟩:=r
  cases (show T = "str" from ty)
  exact ⟨typeIs_str s z t,fun _ e=>nomatch e⟩
 | int i =>
  obtain ⟨t,rfl⟩:=r
  cases (show T = "int" from ty)
  exact ⟨typeIs_int s i t,fun _ e=>nomatch e⟩
 | ref p =>
  cases r
  rcases ty with ⟨rfl,xs,hq⟩ | ⟨rfl,o,hk,hc,hd⟩ | ⟨rfl,hk⟩ | ⟨rfl,S,n,hk⟩
  ·obtain ⟨its,_,pl,_⟩:=I.list hq
   refine ⟨pl.isList.typeIs,fun a e=>?_⟩
   cases e
   obtain ⟨o,n,e,c,hd,_⟩:=pl
   exact ⟨o,e,hd⟩
  ·refine ⟨⟨o,I.kIn p o hk,hc⟩,fun a e=>?_⟩
   cases e
   exact ⟨o,I.kIn _ o hk,hd⟩
  ·have z : ∃ o,s.heap.get? p = some o ∧ o.ExactDict:=by
    rcases hk with ⟨kvs,hk⟩ | ⟨kvs,hk⟩
    ·obtain ⟨_,_,_,_,o,_,_,e,ex,_⟩:=I.hok p _ hk
     exact ⟨o,e,ex⟩
    ·obtain ⟨_,_,_,_,o,_,_,e,ex,_⟩:=I.hok p _ hk
     exact ⟨o,e,ex⟩
   obtain ⟨o,e,ex⟩:=z
   refine ⟨⟨o,e,ex.1⟩,fun a e2=>?_⟩
   cases e2
   exact ⟨o,e,ex.2.1⟩
  ·obtain ⟨o,_,_,_,e,ex,_⟩:=I.hok p _ hk
   refine ⟨⟨o,e,ex.1⟩,fun a e2=>?_⟩
   cases e2
   exact ⟨o,e,ex.2.1⟩
 | _=>exact False.elim ty
def tBM0 (K : PySem.W.Frag) (T : String) (r : V → List V → Hp → VK → Prop) (to : TE) : TE:=fun σ H Q=>to σ H fun x H1=>tyV K T x H1 ∧ r x [] H1 Q
def tBM (K : PySem.W.Frag) (T : String) (r : V → List V → Hp → VK → Prop) (to : TE) (t : TA) : TE:=fun σ H Q=>to σ H fun x H1=>tyV K T x H1 ∧ t σ H1 fun xs H2=>r x xs H2 Q
variable {o e : Expr} {es : List Expr} {to : TE} {t : TA} {name : Str} {apos cpos : Pos} {T id : String} {r : V → List V → Hp → VK → Prop}
theorem Jqa (pa : PlainAttrs T) (slot : Slot T name id) (hty : typeOf (.builtin id) = pure (.type "method_descriptor")) (hm : MtR X id r) (ho : PE X o to)
  (hbase : attributeBase o name X.env (eval o X.env) = eval o X.env:=by rfl) (hline : (apos.endLine == cpos.line) = true:=by rfl) : PE X (.Call (.Attribute o name apos) [] [] cpos) (tBM0 X.K T r to):=by
 intro pins s σ H Q I h
 refine wpAny_Call_method0_late hbase hline (thn (ho pins s σ H _ I h) fun v s1 ⟨x,H1,I1,r1,ty,q1⟩=>?_)
 obtain ⟨h1,h2⟩:=Jqx I1 r1 ty
 exact ⟨T,id,pa,slot,hty,h1,h2,Calls.callWith_builtin rfl (PySem.evalArgs_none (hm pins s1 σ H1 x [] v [] Q I1 r1 .nil q1))⟩
theorem Jm3 (pa : PlainAttrs T) (slot : Slot T name id) (hty : typeOf (.builtin id) = pure (.type "method_descriptor")) (hm : MtR X id r) (ho : PE X o to) (ha : PA X (e :: es) t)
  (hbase : attributeBase o name X.env (eval o X.env) = eval o X.env:=by rfl)
  (hfew : ((backTo cpos (starEach (e :: es) X.env)).all (fun x=>!x.1) && (backToKw cpos (keywordEach [] X.env)).all (fun x=>x.1.isSome)
   && decide ((e :: es).length + ([] : List Keyword).length + (if ([] : List Keyword).isEmpty then 0 else 1) < 30)) = true:=by rfl)
  (hline : (apos.endLine == cpos.line) = true:=by rfl) (hs : starEach (e :: es) X.env = (false,eval e X.env) :: starEach es X.env:=by rfl) (hplain : (backTo cpos (starEach es X.env)).any (·.1) = false:=by rfl) :
  PE X (.Call (.Attribute o name apos) (e :: es) [] cpos) (tBM X.K T r to t):=by
 intro pins s σ H Q I h
 refine wpAny_Call_method_late hbase hfew hline rfl (thn (ho pins s σ H _ I h) fun v s1 ⟨x,H1,I1,r1,ty,q1⟩=>?_)
 obtain ⟨h1,h2⟩:=Jqx I1 r1 ty
 refine ⟨T,id,pa,slot,hty,h1,h2,?_⟩
 have hA:=ha cpos pins s1 σ H1 _ I1 q1
 rw [hs] at hA ⊢
 refine Calls.callWith_builtin (by show (false || (backTo cpos (starEach es X.env)).any (·.1)) = false; rw [hplain] <;> rfl) (Calls.evalArgs_plain ?_)
 exact thn hA fun us s2 ⟨vs,H2,I2,r2,q2⟩=>hm pins s2 σ H2 x vs v us Q I2 r1 r2 q2
end
end L2
namespace L2
open PySem PySem.Spec PyProof.Rows
def MtM (X : Cx) (id : String) (r : V → List V → Hp → VK → Prop) : Prop :=
 ∀ (pins : List (Addr × Obj)) (s : Shared) (σ : St) (H : Hp) (x : V) (xs : List V) (v : Value) (us : List Value) (Q : VK),Inv X pins σ H s → RelV x v → Vals xs us → r x xs H Q →
  wpAny (model X.prog X.w) X.A (call (.builtin id) (v :: us)) (EP X pins σ Q) X.xe s
theorem Vals.one : ∀ {x : V} {us : List Value},Vals [x] us → ∃ u,us = [u] ∧ RelV x u
 | _,_,.cons r .nil=>⟨_,rfl,r⟩
theorem Vals.zero : ∀ {us : List Value},Vals [] us → us = []
 | _,.nil=>rfl
section
variable {X : Cx} {pins : List (Addr × Obj)} {σ : St} {H : Hp} {s : Shared} {l b : Addr} {xs ys zs : List V}
theorem Inv.lset {its its' : List Value} {n : Nat} {f : Array Value → Array Value} {t' : Nat} (I : Inv X pins σ H s) (hH : H l = some (.lst xs))
  (e : s.heap.get? l = some { cls:=.type "list",data:=.seq its.toArray n }) (hf : f its.toArray = its'.toArray) (hv : Vals ys its') (hz : ys.length ≤ sizeLine) :
  Inv X pins σ (upd H l (.lst ys)) { s with heap:=s.heap.update l (Obj.mapSeq f),toks:=t' }:=by
 have q:=PySem.IsL.update e f
 rw [hf] at q
 refine I.write (x:=l) (e:=l) (by rw [hH]; exact trivial) (.inl rfl) (fun b' u hb hu=>(Heap.get?_update_other s.heap (Obj.mapSeq f) (Ne.symm hb)).trans hu) ⟨_,q⟩ ?_
 exact ⟨hz,its', _,hv,q⟩
theorem Inv.lnew {its : List Value} {t' : Nat} (I : Inv X pins σ H s) (hv : Vals ys its) (hz : ys.length ≤ sizeLine) :
  Inv X pins σ (upd H s.heap.objs.size (.lst ys)) { s with heap:=s.heap.push { cls:=.type "list",data:=.seq its.toArray },toks:=t' } :=
 I.laid (fun _ _ q=>Heap.get?_push_of_some _ q) (Nat.le_refl _) ⟨hz,its,0,hv,Heap.get?_push_size _ rfl⟩
theorem Inv.fresh (I : Inv X pins σ H s) : H s.heap.objs.size = none:=I.hok.fresh (Nat.le_refl _)
theorem Inv.lstM (I : Inv X pins σ H s) (hH : H l = some (.lst xs)) : xs.length ≤ sizeLine ∧ ∃ (its : List Value) (n : Nat),Vals xs its ∧ xs.length = its.length ∧ s.heap.get? l = some { cls:=.type "list",data:=.seq its.toArray n }:=by
 obtain ⟨z,its,n,r,e⟩:=I.hok l _ hH
 exact ⟨z,its,n,r,r.length,e⟩
end
section
variable {X : Cx}
def Jrq : V → List V → Hp → VK → Prop:=fun x vs H Q=>∃ l xs y,x = .ref l ∧ vs = [y] ∧ H l = some (.lst xs) ∧ xs.length < sizeLine ∧ Q .non (upd H l (.lst (xs ++ [y])))
theorem Ji7 : MtM X "list.append" Jrq:=by
 intro pins s σ H x vs v us Q I rx rv h
 obtain ⟨l,xs,y,rfl,rfl,hH,hz,q⟩:=h
 cases rx
 obtain ⟨u,rfl,ru⟩:=rv.one
 obtain ⟨z,its,n,r,hl,e⟩:=I.lstM hH
 refine call_meets F.slot_list_append ⟨_,e,rfl⟩ F.entry_list_append (F.args_list_append_2 _ _) (PySem.list_append l its.toArray n u (by rw [List.size_toArray]; omega)) ⟨e,?_⟩
 refine ⟨.non,_,I.lset (its':=its ++ [u]) hH e (by simp) (r.append (.cons ru .nil)) ?_,rfl,q⟩
 rw [List.length_append,List.length_singleton]
 omega
def rClear : V → List V → Hp → VK → Prop:=fun x vs H Q=>∃ l xs,x = .ref l ∧ vs = [] ∧ H l = some (.lst xs) ∧ Q .non (upd H l (.lst []))
theorem Jn1 : MtM X "list.clear" rClear:=by
 intro pins s σ H x vs v us Q I rx rv h
 obtain ⟨l,xs,rfl,rfl,hH,q⟩:=h
 cases rx
 have hus:=rv.zero
 subst hus
 obtain ⟨z,its,n,r,hl,e⟩:=I.lstM hH
 refine call_meets F.slot_list_clear ⟨_,e,rfl⟩ F.entry_list_clear (F.args_list_clear_1 _) (AutoSeq1.list_clear_list_0 l its.toArray n (by rw [List.size_toArray]; omega)) ⟨e,?_⟩
 exact ⟨.non,_,I.lset (its':=[]) (ys:=[]) hH e rfl .nil (Nat.zero_le _),rfl,q⟩
def rCat : R2:=fun x y H Q=>∃ l b xs zs,x = .ref l ∧ y = .ref b ∧ H l = some (.lst xs) ∧ H b = some (.lst zs) ∧ xs.length + zs.length ≤ sizeLine ∧ ∀ p,H p = none → Q (.ref p) (upd H p (.lst (xs ++ zs)))
theorem Jhu : OpR X (binaryOp .Add) rCat:=by
 intro pins s σ H x y v u Q I rx ry h
 obtain ⟨l,b,xs,zs,rfl,rfl,hH,hB,hz,q⟩:=h
 cases rx
 cases ry
 obtain ⟨z,its,n,r,hl,e⟩:=I.lstM hH
 obtain ⟨z2,its2,n2,r2,hl2,e2⟩:=I.lstM hB
 refine PySem.P.add_list e e2 ?_ (by rw [List.size_toArray,List.size_toArray]; omega)
 have ea : its.toArray ++ its2.toArray = (its ++ its2).toArray:=by simp
 rw [ea]
 exact ⟨.ref _,_,I.lnew (t':=s.toks) (r.append r2) (by rw [List.length_append]; omega),rfl,q _ I.fresh⟩
end
section
variable {prog : Program} {w : World} {A : Around} {E : Value → Shared → Prop} {s : Shared}
end
section
variable {X : Cx}
end
end L2
namespace L2
open PySem PySem.Spec PyProof.Rows
section
variable {κ : Type} [DecidableEq κ]
end
section
variable {P : Program} {w : World} {H : Hp} {h : Heap} {a : Addr}
theorem rd_of {u : HO} (ok : HOk P w H h) (e : Rd H a u) : ObjOk P w H h a u:=e.ok ok
theorem dk_rd {kvs : List (Key × V)} (ok : HOk P w H h) (e : Rd H a (.dK kvs)) : kvs.length ≤ sizeLine ∧ (a == sysModules) = false ∧ ∃ vs,KV kvs vs ∧ h.DictOf (Jgr P w) a vs :=
 show ObjOk P w H h a (.dK kvs) from rd_of ok e
theorem dk_of {kvs : List (Key × V)} (ok : HOk P w H h) (e : H a = some (.dK kvs)) : kvs.length ≤ sizeLine ∧ (a == sysModules) = false ∧ ∃ vs,KV kvs vs ∧ h.DictOf (Jgr P w) a vs:=dk_rd ok (.inl e)
end
section
variable {X : Cx} {pins : List (Addr × Obj)} {σ : St} {H : Hp} {s : Shared} {a : Addr} {y v : V} {u r : Value} {o : Option V} {A : Around} {E : Value → Shared → Prop}
theorem Inv.big (I : Inv X pins σ H s) : sysModules < s.heap.objs.size:=by
 have h : mainGlobals < s.heap.objs.size:=(I.mod.glob.keeps I.bk).lt
 exact Nat.lt_trans (by decide) h
end
section
variable {X : Cx} {pins : List (Addr × Obj)} {σ : St} {H : Hp} {s : Shared} {a : Addr} {kvs : List (Key × V)} {k : Key} {u : Value} {A : Around} {E : Value → Shared → Prop}
end
section
variable {X : Cx} {o i e value : Expr} {pos pos' tpos : Pos} {td ty tv : TE}
end
theorem Jps {P : Program} {w : World} {H : Hp} (h : Heap) (hb : sysModules < h.objs.size) : ObjOk P w H (h.push { cls:=.type "dict",data:=.dict #[] }) h.objs.size (.dK []) :=
 ⟨Nat.zero_le _,beq_eq_false_iff_ne.mpr (Ne.symm (Nat.ne_of_lt hb)),[],.nil,Heap.DictOf.new h⟩
def tDNewK : TE:=fun _ H Q=>∀ p,H p = none → Q (.ref p) (upd H p (.dK []))
section
variable {X : Cx} {pos : Pos}
theorem Jjr : PE X (.Dict [] [] pos) tDNewK:=fun pins s σ H Q I h =>
 wpAny_Dict_empty ⟨.ref s.heap.objs.size,_,I.laid (a:=s.heap.objs.size) (o:=.dK []) (t':=s.toks) (fun _ _ q=>Heap.get?_push_of_some _ q) (Nat.le_refl _) (Jps s.heap I.big),rfl,h _ (I.hok.fresh (Nat.le_refl _))⟩
end
structure M1 (X : Cx) (o : Expr) (m : Str) (apos : Pos) (e : Expr) (cpos : Pos) : Prop where
 base : attributeBase o m X.env (eval o X.env) = eval o X.env
 few : ((backTo cpos (starEach [e] X.env)).all (fun x=>!x.1) && (backToKw cpos (keywordEach [] X.env)).all (fun x=>x.1.isSome)
  && decide (([e] : List Expr).length + ([] : List Keyword).length + (if ([] : List Keyword).isEmpty then 0 else 1) < 30)) = true
 line : (apos.endLine == cpos.line) = true
 trees : backTo cpos (starEach [e] X.env) = [(false,eval e X.env)]
structure M2 (X : Cx) (o : Expr) (m : Str) (apos : Pos) (e f : Expr) (cpos : Pos) : Prop where
 base : attributeBase o m X.env (eval o X.env) = eval o X.env
 few : ((backTo cpos (starEach [e,f] X.env)).all (fun x=>!x.1) && (backToKw cpos (keywordEach [] X.env)).all (fun x=>x.1.isSome)
  && decide (([e,f] : List Expr).length + ([] : List Keyword).length + (if ([] : List Keyword).isEmpty then 0 else 1) < 30)) = true
 line : (apos.endLine == cpos.line) = true
 trees : backTo cpos (starEach [e,f] X.env) = [(false,eval e X.env),(false,eval f X.env)]
section
variable {X : Cx} {pins : List (Addr × Obj)} {σ : St} {H : Hp} {s : Shared} {a : Addr} {y d : V} {u r : Value} {o : Option V} {A : Around} {E : Value → Shared → Prop}
end
section
variable {X : Cx} {o e f : Expr} {apos cpos : Pos} {td ty tx : TE}
end
section
variable {X : Cx} {pins : List (Addr × Obj)} {σ : St} {H : Hp} {s : Shared} {a : Addr} {kvs : List (Key × V)} {A : Around} {E : Value → Shared → Prop}
end
section
variable {X : Cx} {pins : List (Addr × Obj)} {σ : St} {H : Hp} {s : Shared} {a : Addr} {y : V} {u : Value} {A : Around} {E : Value → Shared → Prop}
end
end L2
namespace Att
open PySem PySem.W PySem.Calls PyProof.Rows
theorem Jkj {P : Params} {h : Heap} : ∀ (ns : List Int) (vs : List Value),WellAll P h vs (ns.map WData.int) → IntsAre vs ns:=by
 intro ns
 induction ns with
 | nil =>
  intro vs w
  rw [List.map_nil] at w
  cases w
  exact .nil
 | cons n ns ih =>
  intro vs w
  rw [List.map_cons] at w
  cases w with
  | cons a b =>
   cases a
   exact .cons _ _ (ih _ b)
theorem Jpc {l : OpenLaw} {n : Nat} (hn : l.most = some n) {P : Params} {h : Heap} {args : List WData} {vals : List Value}
  (hpre : l.row.toRowW.claim.pre args = true) (hwl : WellAll P h vals args) :
  ∃ a vs ns,vals = [Value.ref a] ∧ args = [WData.list (ns.map WData.int)] ∧ h.get? a = some { cls:=.type "list",data:=.seq vs.toArray } ∧ IntsAre vs ns ∧ ns.length ≤ n:=by
 have hsh : WShape.hasAll [] args [.list .int] = true:=(pre_splitW hpre).1
 have hc : l.pre.holds [] { args:=args } = true:=(pre_splitW hpre).2
 obtain ⟨d,r,rfl,h1,h2⟩:=hasAllW_cons hsh
 obtain rfl:=hasAllW_nil h2
 obtain ⟨xs,rfl,h3⟩:=hasW_list h1
 obtain ⟨ns,rfl⟩:=items_int h3
 have hlen : ns.length ≤ n:=by
  unfold OpenLaw.pre at hc
  have h4 : (WTm.not (.lt (.lit (.int (n : Int))) (.len (.arg 0)))).holds [] { args:=[.list (ns.map .int)] } = true:=by
   have h4:=(holds_andW hc).1
   rw [hn] at h4
   exact h4
  have h5:=condW_of h4 (w_not (w_lt w_lit (w_len_list (w_arg rfl))))
  rw [List.length_map] at h5
  refine Nat.le_of_not_lt fun q=>?_
  have q' : (n : Int) < ((ns.length : Nat) : Int):=by omega
  first
   | (rw [decide_eq_true q'] at h5; exact absurd h5 (by decide))
   | (simp at h5; omega)
 cases hwl with
 | cons w1 w2 =>
  cases w2
  cases w1 with
  | list ho hall=>exact ⟨_,_,ns,rfl,rfl,ho,Jkj ns _ hall,hlen⟩
theorem Jpa (l : OpenLaw) (args : List WData) : l.row.toRowW.claim.post args (.bool true) args = true :=
 postW_of (r:=l.row.toRowW) (X:=(true == true))
  (show WShape.has [] (.bool true) .bool = true by first | rfl | decide | simp [WShape.has,WShape.arms,WShape.armsAll])
  (show (WTm.eq .res (.lit (.bool true))).value [] { args:=args,res:=some (.bool true),after:=args } = some (.bool (true == true)) from w_eq_bool (w_res rfl) w_lit) rfl
theorem attach_call {l : OpenLaw} {n : Nat} {q : Program} {loose : List Str} {XP : (Str → Option Value) → Heap → Prop} {YP : World → Heap → Prop} {d : DefRec}
  (hn : l.most = some n) (hdf : d.params.defaults = [])
  (call : ∀ (w : World) (s₀ s₁ : Shared) (mg mb : Str → Option Value) (fa : Addr) (o : Obj) (pm cd doc : Value) (a : Addr) (vs : List Value) (ns : List Int),
   Ground q loose [] XP w s₀ mg mb s₁.heap → YP w s₁.heap →
   s₁.heap.get? fa = some o → o.data = .func (docDef d.name d.params d.body d.scope pm cd doc) → s₁.heap.CodeRec cd d.name → mg d.name = some (.ref fa) →
   s₁.heap.get? a = some { cls:=.type "list",data:=.seq vs.toArray } → IntsAre vs ns → ns.length ≤ n → s₁.gens = #[] →
   codeAny (model l.prog w) callerA (.call (.ref fa) ⟨[.ref a],[]⟩) (fun r s'=>r = .ok (.ret (.bool true)) ∧ OldK s₁.heap s'.heap ∧ s'.os = s₁.os ∧ AllBare s'.gens) s₁) :
  WalkO q loose XP YP l.row.toRowW d [] (fun f vs=>PySem.call f vs):=by
 intro w s₀ s₁ mg mb G Y fa o pm cd doc dV kV ho hd hcd hD hmg hg args vals as hpre hlay hrd hwl hlo
 obtain rfl : dV = .none:=Dflts.none hD hdf
 obtain rfl : kV = .none:=Dflts.noKw hD
 obtain ⟨a,vs,ns,rfl,rfl,hobj,hints,hlen⟩:=Jpc hn hpre hwl
 refine enter_call (codeAny_mono (call w s₀ s₁ mg mb fa o pm cd doc a vs ns G Y ho (fd_plain hd) hcd hmg hobj hints hlen hg) fun r s' hq=>?_)
 obtain ⟨rfl,h2,h3,h4⟩:=hq
 exact ⟨.inl ⟨.bool true,.bool true,[],rfl,fun _=>rfl,.bool true,Jpa l _,fun _=>⟨List.Pairwise.nil,fun _ hm=>(nomatch hm)⟩⟩,h2,h3,h4⟩
section
variable {prog : Program} {w : World} {A : Around} {E : Value → Shared → Prop} {s : Shared} {K : Frag}
end
end Att
namespace L2
open PySem PySem.Spec PyProof.Rows
theorem Jm6 : ∀ {vs : List Value} {ns : List Int},IntsAre vs ns → Vals (ns.map V.int) vs
 | _,_,.nil=>.nil
 | _,_,.cons n t h=>.cons ⟨t,rfl⟩ (Jm6 h)
def Only (H : Hp) : Prop:=∀ b,H b = none ∨ ∃ o xs,H b = some (.frz o (.lst xs))
theorem Jq5 {P : Program} {w : World} {K : PySem.W.Frag} {mg mb : Str → Option Value} {CX : CXT} {k : Nat} {fa a : Addr} {fd : FuncData} {x : Str} {sp : Sp} {s₁ : Shared} {vs : List Value} {ns : List Int}
  (KX : K.In s₁.heap) (hns : s₁.heap.Ns mainGlobals mg) (hb : s₁.heap.Ns builtinsNs mb) (hbb : ∀ x : Str,x ≠ "__name__" → mb x = bootBuiltins x) (hlim : s₁.heap.NoLimit) (hg : s₁.gens = #[])
  (ha : s₁.heap.get? a = some { cls:=.type "list",data:=.seq vs.toArray }) (hi : IntsAre vs ns) (hl : ns.length ≤ sizeLine) (hr : Room k callerA)
  (F : ∀ base : Heap,K.In base → base.Ns mainGlobals mg → FnOk P w K mg base CX k fa fd [x] sp) (hbind : ∀ (s : Shared) (u : Value),BindsTo s fd ⟨[u],[]⟩ [(x,u)])
  (hsp : ∀ H : Hp,Only H → SqL K H a (ns.map V.int) → sp [.ref a] H (fun v _=>v = .bl true) fun _ _ _=>False)
  (hCX : ∀ H e s', CX [] H s₁ (fun _ _ _=>False) e s' → False) :
  codeAny (model P w) callerA (.call (.ref fa) ⟨[.ref a],[]⟩) (fun r s'=>r = .ok (.ret (.bool true)) ∧ OldK s₁.heap s'.heap ∧ s'.os = s₁.os ∧ AllBare s'.gens) s₁:=by
 have rv:=Jm6 hi
 have lenV:=hi.length
 have core : ∀ H : Hp,Only H → SqL K H a (ns.map V.int) → HOk P w H s₁.heap → (∀ b,H b ≠ none → b = a) → (H a ≠ none → K.lookup a = none) →
   codeAny (model P w) callerA (.call (.ref fa) ⟨[.ref a],[]⟩) (fun r s'=>r = .ok (.ret (.bool true)) ∧ OldK s₁.heap s'.heap ∧ s'.os = s₁.os ∧ AllBare s'.gens) s₁:=by
  intro H hO hS hok hA hK
  have base_of : ∀ {b : Addr} {o : Obj},s₁.heap.get? b = some o → H b = none → (Jmg s₁.heap H).get? b = some o:=fun e n=>Jq2 e n
  have noA : ∀ {b : Addr} {o : Obj} {es : Array DictEntry} {ep : Nat},s₁.heap.get? b = some o → o.data = .dict es ep → H b = none:=fun {b o es ep} e d=>by
   cases q : H b with
   | none=>rfl
   | some u =>
    have e' : b = a:=hA b (by rw [q]; simp)
    subst e'
    rw [ha] at e; cases e
    have d' : Data.seq vs.toArray _ = Data.dict es ep:=d
    cases d'
  have nsK : ∀ {b : Addr} {m : Str → Option Value},s₁.heap.Ns b m → (Jmg s₁.heap H).Ns b m:=fun {b m} ⟨o,es,ep,e,d,r⟩=>⟨o,es,ep,base_of e (noA e d),d,r⟩
  have hKb : K.In (Jmg s₁.heap H):=fun b o e=>base_of (KX b o e) (by
   cases q : H b with
   | none=>rfl
   | some u =>
    have e' : b = a:=hA b (by rw [q]; simp)
    subst e'
    rw [hK (by rw [q]; simp)] at e; cases e)
  have hM : Mod K mg (Jmg s₁.heap H):=⟨hKb,nsK hns,⟨mb,nsK hb,hbb⟩,let ⟨mc,h1,h2⟩:=hlim; ⟨mc,nsK h1,h2⟩⟩
  have e0 : Env0 P w K mg (Jmg s₁.heap H) callerA [] s₁ H:=⟨rfl,hM,fun b o e=>Jrj e,Nat.le_of_eq (Jp1 _ _),trivial,fun b hb=>absurd (show b ∈ ([] : List Addr) from hb) (by simp),hok,.of_eq hg⟩
  refine codeAny_mono ((F _ hKb (nsK hns)).run callerA [] s₁ H ⟨[.ref a],[]⟩ [.ref a] [.ref a] _ _ hr e0 (hbind s₁ (.ref a)) (.cons rfl .nil) (hsp H hO hS)) fun r s' h=>?_
  cases r with
  | error e=>exact (hCX H e s' h).elim
  | ok fl =>
   cases fl with
   | next=>exact False.elim h
   | brk=>exact False.elim h
   | cont=>exact False.elim h
   | ret u =>
    obtain ⟨v,H', os,bare,un,hok', r', q⟩:=h
    have q' : v = .bl true:=q
    subst q'
    obtain rfl : u = Value.bool true:=r'
    refine ⟨rfl,OldK.of_keep fun b o e=>?_,os,bare⟩
    cases q : H b with
    | none=>exact un.keep b o e q (by intro z; exact absurd (show b ∈ ([] : List Addr) from z) (by simp)) (by simp)
    | some u =>
     rcases hO b with z | ⟨ob,xs,z⟩
     ·rw [q] at z; cases z
     ·have z2:=un.frzs b ob _ z
      obtain ⟨e1,_⟩:=hok b _ z
      obtain ⟨e2,_⟩:=hok' b _ z2
      rw [e] at e1; cases e1
      exact e2
 cases hk : K.lookup a with
 | some o =>
  have e:=KX a o hk
  rw [ha] at e
  cases e
  refine core (fun _=>none) (fun _=>.inl rfl) (.inr ⟨_,vs.toArray,_,hk,rfl,rfl,rfl,by rw [List.size_toArray,lenV]; exact hl,by simpa using rv⟩) (fun b u z=>by have z' : (none : Option HO) = some u:=z; cases z') (fun b z=>absurd rfl z) fun z=>absurd rfl z
 | none =>
  refine core (fun b=>if b = a then some (.frz { cls:=.type "list",data:=.seq vs.toArray } (.lst (ns.map V.int))) else none) (fun b=>?_) (.inl (.inr ⟨{ cls:=.type "list",data:=.seq vs.toArray },if_pos rfl⟩)) (fun b u z=>?_) (fun b z=>?_) fun _=>hk
  ·by_cases hb : b = a
   ·exact .inr ⟨_,_,if_pos hb⟩
   ·exact .inl (if_neg hb)
  ·by_cases hb : b = a
   ·have z':=(if_pos hb).symm.trans z
    cases z'
    subst hb
    exact ⟨ha,by rw [List.length_map]; exact hl,vs,_,rv,ha⟩
   ·have z':=(if_neg hb).symm.trans z
    cases z'
  ·by_cases hb : b = a
   ·exact hb
   ·exact absurd (if_neg hb) z
end L2
namespace L2
open PySem PySem.Spec PyProof.Rows
abbrev KOf {K : PySem.W.Frag} {h : Heap} (_ : K.In h) : PySem.W.Frag:=K
theorem Js7 {l : PySem.W.OpenLaw} {n k : Nat} {q : Program} {loose : List Str} {XP : (Str → Option Value) → Heap → Prop} {YP : World → Heap → Prop} {d : DefRec} {K : Params → PySem.W.Frag} {CX : World → CXT} {sp : World → Sp} {x : Str}
  (hn : l.most = some n) (hn2 : n ≤ sizeLine) (hdf : d.params.defaults = []) (hr : Room k callerA)
  (hY : ∀ (w : World) (h : Heap),YP w h → (K w.params).In h)
  (F : ∀ (w : World) (mg : Str → Option Value) (fa : Addr) (h : Heap),(K w.params).In h → h.Ns mainGlobals mg → mg d.name = some (.ref fa) →
   ∃ fd : FuncData,(∀ (s : Shared) (u : Value),BindsTo s fd ⟨[u],[]⟩ [(x,u)]) ∧
    ∀ base : Heap,(K w.params).In base → base.Ns mainGlobals mg → FnOk l.prog w (K w.params) mg base (CX w) k fa fd [x] (sp w))
  (hsp : ∀ (w : World) (H : Hp) (a : Addr) (ns : List Int),ns.length ≤ n → Only H → SqL (K w.params) H a (ns.map V.int) → sp w [.ref a] H (fun v _=>v = .bl true) fun _ _ _=>False)
  (hCX : ∀ (w : World) (H : Hp) (s : Shared) (e : Value) (s' : Shared),CX w [] H s (fun _ _ _=>False) e s' → False) :
  PySem.W.WalkO q loose XP YP l.row.toRowW d [] (fun f vs=>PySem.call f vs):=by
 refine Att.attach_call hn hdf fun w s₀ s₁ mg mb fa o pm cd doc a vs ns G Y ho hd hcd hmg hobj hints hlen hg=>?_
 have KX:=hY w _ Y
 obtain ⟨fd,hb,hF⟩:=F w mg fa _ KX G.T.g hmg
 exact Jq5 KX G.T.g G.T.b G.T.builtins G.T.nolimit hg hobj hints (Nat.le_trans hlen hn2) hr hF hb (fun H hO hS=>hsp w H a ns hlen hO hS) fun H e s'=>hCX w H s₁ e s'
theorem walk_ofK {l : PySem.W.OpenLaw} {n k : Nat} {q : Program} {loose : List Str} {XP : (Str → Option Value) → Heap → Prop} {YP : World → Heap → Prop} {d : DefRec} {K : Params → PySem.W.Frag} {CX : CXT} {sp : PySem.W.Frag → Sp} {x : Str}
  (hn : l.most = some n) (hn2 : n ≤ sizeLine) (hdf : d.params.defaults = []) (hr : Room k callerA)
  (hY : ∀ (w : World) (h : Heap),YP w h → (K w.params).In h)
  (F : ∀ (w : World) (mg : Str → Option Value) (fa : Addr) (h : Heap),(K w.params).In h → h.Ns mainGlobals mg → mg d.name = some (.ref fa) →
   ∃ fd : FuncData,(∀ (s : Shared) (u : Value),BindsTo s fd ⟨[u],[]⟩ [(x,u)]) ∧
    ∀ base : Heap,(K w.params).In base → base.Ns mainGlobals mg → FnOk l.prog w (K w.params) mg base CX k fa fd [x] (sp (K w.params)))
  (hsp : ∀ (K : PySem.W.Frag) (H : Hp) (a : Addr) (ns : List Int),ns.length ≤ n → Only H → SqL K H a (ns.map V.int) → sp K [.ref a] H (fun v _=>v = .bl true) fun _ _ _=>False)
  (hCX : ∀ (H : Hp) (s : Shared) (e : Value) (s' : Shared),CX [] H s (fun _ _ _=>False) e s' → False) :
  PySem.W.WalkO q loose XP YP l.row.toRowW d [] (fun f vs=>PySem.call f vs) :=
 Js7 (K:=K) (CX:=fun _=>CX) (sp:=fun w=>sp (K w.params)) hn hn2 hdf hr hY F (fun w H a ns h1 h2 h3=>hsp (K w.params) H a ns h1 h2 h3) fun _ H s e s'=>hCX H s e s'
end L2
namespace L2
open PySem PySem.Spec PyProof.Rows
def Jg0 (s : Stmt) (j : Nat) : Stmt:=match s with
 | .ClassDef _ _ _ body _ _ _ _ _ _ _=>body.getD j (.Pass ⟨0,0,0,0⟩)
 | _=>.Pass ⟨0,0,0,0⟩
def Jhk (s : Stmt) : Arguments:=match s with
 | .FunctionDef _ a _ _ _ _ _ _ _ _=>a
 | _=>{ posonlyargs:=[],args:=[],vararg:=none,kwonlyargs:=[],kw_defaults:=[],kwarg:=none,defaults:=[] }
def Jh5 (s : Stmt) : List Stmt:=match s with
 | .FunctionDef _ _ b _ _ _ _ _ _ _=>b
 | _=>[]
def Jfr (s : Stmt) : Scope:=match s with
 | .FunctionDef _ _ _ _ _ _ sc _ _ _=>sc
 | _=>{ kind:=.function,names:=[],isGenerator:=false,isCoroutine:=false }
abbrev CX0 : CXT:=fun _ _ _ _ _ _=>False
abbrev E0 : XK:=fun _ _ _=>False
theorem Jhm {X : Cx} : Jj9 CX0 X E0:=fun _ _ _ _ _ _ _ h=>h.elim
structure Fun (K : PySem.W.Frag) (x qual : Str) (st : Stmt) (f : Addr) (fd : FuncData) : Prop where
 ex : ∃ (oc : Value) (od : Option Addr) (kV doc pm : Value) (an : Option Addr) (cdv ct : Value) (osl : Array (Option Value)),
  fd = PySem.W.fnOf x qual (Jhk st) (Jh5 st) (Jfr st) .none kV doc pm an cdv ct ∧ K.lookup f = some ⟨oc,od,.func fd,osl⟩ ∧ PySem.W.codeIn K cdv qual = true
 kp : PySem.W.keepIn K (.ref f) = true
section
variable {P : Program} {w : World} {K : PySem.W.Frag} {mg : Str → Option Value} {base : Heap}
theorem Fun.ok {x qual : Str} {st : Stmt} {f : Addr} {fd : FuncData} {N ps : List Str} {k : Nat} {sp : Sp} (F : Fun K x qual st f fd) (S : Jfx N ps (Jfr st)) (len : ∀ vs H Q E,sp vs H Q E → vs.length = ps.length)
  (hbody : ∀ (cdv : Value) (A : Around) (outer : List Env) (s : Shared) (H : Hp) (vs : List V) (Q : VK) (E : XK),Room k (A.deeper (envOfC qual (Jfr st) s.heap.objs.size f cdv)) → sp vs H Q E →
   ∃ t,PSs (Jkw CX0 P w K mg base N qual (Jfr st) f cdv A outer s H E).nox (Jh5 st) t ∧ t { nx:=fun _ H'=>Q .non H', rt:=Q } (start N vs) H) : FnOk P w K mg base CX0 (k + 1) f fd ps sp:=by
 obtain ⟨oc,od,kV,doc,pm,an,cdv,ct,osl,rfl,lk,hcd⟩:=F.ex
 refine fn_of lk hcd S len fun A outer s H vs Q E hr hsp=>?_
 obtain ⟨t,h,q⟩:=hbody cdv A outer s H vs Q E hr hsp
 exact ⟨t,h.nox,q⟩
theorem Fun.binds {x qual : Str} {st : Stmt} {f : Addr} {fd : FuncData} {ps : List Str} (F : Fun K x qual st f fd)
  (h : ∀ (kV doc pm : Value) (an : Option Addr) (cdv ct : Value) (us : List Value),us.length = ps.length → bindArgs (PySem.W.fnOf x qual (Jhk st) (Jh5 st) (Jfr st) .none kV doc pm an cdv ct) ⟨us,[]⟩ = pure (ps.zip us)) : Binds K fd ps []:=by
 obtain ⟨oc,od,kV,doc,pm,an,cdv,ct,osl,rfl,lk,hcd⟩:=F.ex
 exact .all (h kV doc pm an cdv ct)
theorem Jme {x qual : Str} {st : Stmt} {f : Addr} {oc : Value} {od an : Option Addr} {osl : Array (Option Value)} {kV doc pm cdv ct : Value} (l : K.lookup f = some ⟨oc,od,.func (PySem.W.fnOf x qual (Jhk st) (Jh5 st) (Jfr st) .none kV doc pm an cdv ct),osl⟩)
  (c : PySem.W.codeIn K cdv qual = true) (k : PySem.W.keepIn K (.ref f) = true) : Fun K x qual st f (PySem.W.fnOf x qual (Jhk st) (Jh5 st) (Jfr st) .none kV doc pm an cdv ct):=⟨⟨oc,od,kV,doc,pm,an,cdv,ct,osl,rfl,l,c⟩,k⟩
end
section
variable {X : Cx}
theorem pv (i : Nat) {x : Str} {pos : Pos} (hN : X.N[i]? = some x:=by rfl) (hv : Vis X.env.scope x:=by first | exact Or.inl rfl | exact Or.inr (Or.inl rfl) | exact Or.inr (Or.inr rfl)) (hd : (x == ("__debug__" : Str)) = false:=by decide)
  (hcd : (x == ("__classdict__" : Str)) = false:=by decide) : PE X (.Name x pos) (tVar i):=pe_var hN hv hd hcd
end
theorem Jgi {A B : Prop} (h : B) : if false = true then A else B:=by
 rw [if_neg Bool.false_ne_true]
 exact h
theorem Jha {A B : Prop} (h : A) : if true = true then A else B:=by
 rw [if_pos rfl]
 exact h
theorem Jk2 {c A B : Prop} [Decidable c] (h1 : c → A) (h2 : ¬ c → B) : if c then A else B:=by
 by_cases h : c
 ·rw [if_pos h]
  exact h1 h
 ·rw [if_neg h]
  exact h2 h
def Same (H H' : Hp) : Prop:=∀ b o,H b = some o → H' b = some o
theorem Same.refl (H : Hp) : Same H H:=fun _ _ h=>h
theorem Same.trans {H H1 H2 : Hp} (a : Same H H1) (b : Same H1 H2) : Same H H2:=fun c o h=>b c o (a c o h)
theorem Same.free {H H' : Hp} (e : Same H H') {l : Addr} (h : H' l = Option.none) : H l = Option.none:=by
 cases q : H l with
 | none=>rfl
 | some o =>
  rw [e l o q] at h
  cases h
theorem Same.seq {K : PySem.W.Frag} {H H' : Hp} {a : Addr} {xs : List V} (e : Same H H') (h : SqL K H a xs) : SqL K H' a xs:=by
 rcases h with (h | ⟨o,h⟩) | h
 ·exact .inl (.inl (e _ _ h))
 ·exact .inl (.inr ⟨o,e _ _ h⟩)
 ·exact .inr h
section
variable {κ : Type} [DecidableEq κ]
end
end L2
set_option Elab.async false
set_option linter.all false
set_option maxRecDepth 100000
set_option maxHeartbeats 4000000
namespace L2
open PySem PySem.Spec PyProof.Rows
def Jho (cells : List (Str × Addr)) : List (Str × NameKind) → List (Str × Addr) → List (Str × Addr)
 | [],acc=>acc
 | (n,k) :: r,acc=>if (k == NameKind.free) = true then (match cells.lookup n with | some c=>Jho cells r ((n,c) :: acc) | none=>Jho cells r acc) else Jho cells r acc
theorem Ji5 {cells : List (Str × Addr)} : ∀ (ns : List (Str × NameKind)) (acc : List (Str × Addr)),(∀ x c,acc.lookup x = some c → cells.lookup x = some c) → ∀ x c,(Jho cells ns acc).lookup x = some c → cells.lookup x = some c
 | [],_,h,x,c,e=>h x c e
 | (n,k) :: r,acc,h,x,c,e=>by
  unfold Jho at e
  by_cases hk : (k == NameKind.free) = true
  ·rw [if_pos hk] at e
   cases hc : cells.lookup n with
   | none=>rw [hc] at e; exact Ji5 r acc h x c e
   | some d =>
    rw [hc] at e
    refine Ji5 r ((n,d) :: acc) (fun y b q=>?_) x c e
    rw [List.lookup_cons] at q
    by_cases hy : (y == n) = true
    ·rw [hy] at q
     have hy' : y = n:=beq_iff_eq.mp hy
     rw [hy', hc]
     exact q
    ·have hy' : (y == n) = false:=by simpa using hy
     rw [hy'] at q
     exact h y b q
  ·rw [if_neg hk] at e
   exact Ji5 r acc h x c e
theorem Jia {cells : List (Str × Addr)} : ∀ (ns : List (Str × NameKind)) (acc : List (Str × Addr)) (x : Str),(acc.lookup x).isSome = true → ((Jho cells ns acc).lookup x).isSome = true
 | [],_,_,h=>h
 | (n,k) :: r,acc,x,h=>by
  unfold Jho
  by_cases hk : (k == NameKind.free) = true
  ·rw [if_pos hk]
   cases hc : cells.lookup n with
   | none=>exact Jia r acc x h
   | some d =>
    refine Jia r ((n,d) :: acc) x ?_
    rw [List.lookup_cons]
    cases hy : x == n with
    | true=>rfl
    | false=>exact h
  ·rw [if_neg hk]
   exact Jia r acc x h
theorem Ji4 {cells : List (Str × Addr)} {x : Str} : ∀ (ns : List (Str × NameKind)) (acc : List (Str × Addr)),(x,NameKind.free) ∈ ns → (∃ c,cells.lookup x = some c) → ((Jho cells ns acc).lookup x).isSome = true
 | [],_,h,_=>by simp at h
 | (n,k) :: r,acc,h,hc=>by
  unfold Jho
  rcases List.mem_cons.mp h with e | e
  ·cases e
   obtain ⟨c,hc⟩:=hc
   rw [if_pos (by decide),hc]
   exact Jia r _ x (by rw [List.lookup_cons,beq_self_eq_true]; rfl)
  ·by_cases hk : (k == NameKind.free) = true
   ·rw [if_pos hk]
    cases hd : cells.lookup n with
    | none=>exact Ji4 r acc e hc
    | some d=>exact Ji4 r _ e hc
   ·rw [if_neg hk]
    exact Ji4 r acc e hc
theorem Jla {sc : Scope} {env : Env} (h : ∀ y ∈ sc.names,y.2 = .free → ∃ c,env.cells.lookup y.1 = some c) : closureFor sc env = pure (Jho env.cells sc.names []):=by
 have key : ∀ (ns : List (Str × NameKind)) (acc : List (Str × Addr)),(∀ y ∈ ns,y.2 = .free → ∃ c,env.cells.lookup y.1 = some c) →
   (forIn ns acc fun (x : Str × NameKind) (r : List (Str × Addr))=>if (x.2 == NameKind.free) = true then (cellOf env x.1 >>= fun c=>pure (ForInStep.yield ((x.1,c) :: r)) : Sem _) else pure (ForInStep.yield r)) = (pure (Jho env.cells ns acc) : Sem _):=by
  intro ns
  induction ns with
  | nil=>intro acc _; rfl
  | cons y r ih =>
   intro acc hy
   obtain ⟨n,k⟩:=y
   rw [List.forIn_cons]
   unfold Jho
   by_cases hk : (k == NameKind.free) = true
   ·have hk' : k = .free:=by simpa using hk
    obtain ⟨c,hc⟩:=hy (n,k) List.mem_cons_self hk'
    have hc' : env.cells.lookup n = some c:=hc
    simp only [hk,if_true]
    have e1 : cellOf env n = pure c:=by unfold cellOf; rw [hc']
    rw [e1,hc']
    exact ih _ fun z hz=>hy z (List.mem_cons_of_mem _ hz)
   ·simp only [hk,if_false]
    exact ih _ fun z hz=>hy z (List.mem_cons_of_mem _ hz)
 have k0:=key sc.names [] h
 unfold closureFor
 first
  | exact k0
  | (refine Eq.trans ?_ (congrArg (fun m : Sem (List (Str × Addr))=>m >>= fun r=>pure r) k0); rfl)
def blk (X : Cx) (sc : Scope) (N : List Str) (C : Addr) (s : Shared) (H : Hp) (fp : List Addr) (pn : List (Addr × Obj)) : Cx :=
 { X with N:=N,s₀:=s,H₀:=H,env:=compEnvC sc (Jho X.env.cells sc.names []) C X.env,outer:=X.stack,ex:=fp,fn:=fun _=>false,pn:=pn,xe:=fun _ _=>False }
def Jp0 (ini : List (Option Nat)) (σ : St) : St:=ini.map fun o=>match o with | none=>none | some j=>(σ[j]?).join
def scB (sc : Scope) : Bool:=decide (sc.kind = .function) && sc.names.all (fun y=>decide (y.2 ≠ .cell)) && sc.names.all (fun y=>!decide (y.2 = .local) || decide (sc.names.lookup y.1 = some .local))
def frB (outer : List (Str × NameKind)) (sc : Scope) : Bool:=sc.names.all fun y=>!decide (y.2 = .free) || (decide (outer.lookup y.1 = some .cell) || decide (outer.lookup y.1 = some .free))
def iniB (No N : List Str) (ini : List (Option Nat)) (outer : List (Str × NameKind)) (sc : Scope) : Bool :=
 (N.zip ini).all fun y=>match y.2 with | none=>true | some j=>decide (No[j]? = some y.1) && decide (sc.names.lookup y.1 = some .free) && (decide (outer.lookup y.1 = some .cell) || decide (outer.lookup y.1 = some .free))
def PIf (X : Cx) (ifs : List Expr) (t : TT) : Prop :=
 ∀ (pins : List (Addr × Obj)) (s : Shared) (σ : St) (H : Hp) (Q : Bool → Hp → Prop),Inv X pins σ H s → t σ H Q →
  wpAny (model X.prog X.w) X.A (forIn ifs true fun c r=>if r = true then do let ok ← isTrue c X.env (eval c X.env); pure (ForInStep.yield ok) else pure (ForInStep.yield r)) (TP X pins σ Q) X.xe s
def Jph : TT:=fun _ H Q=>Q true H
theorem Jgt {X : Cx} : PIf X [] Jph:=fun _ _ _ H _ I h=>wpAny_tests_nil ⟨H,I,h⟩
theorem Jro {X : Cx} {c : Expr} {t : TT} (h : PT X c t) : PIf X [c] t:=fun pins s σ H Q I q=>wpAny_tests_one (h pins s σ H Q I q)
def Jqv (wi : TI) (ini : List (Option Nat)) (g : TG) (tt : TT) (te : TE) : TE:=fun σ H Q=>wi σ H fun J H1=>∀ D,H1 D = none → ∃ W : Nat → Nat → St → Hp → Prop,(∃ m,W 0 m (Jp0 ini σ) (upd H1 D (.lst []))) ∧
 ∀ i m σ' H', W i m σ' H' → (J.stop i H' ∧ Q (.ref D) H') ∨ (J.go i H' ∧ ∃ N : St → Hp → Prop,(∀ σ2 H2,N σ2 H2 → ∃ m', m' < m ∧ W (i + 1) m' σ2 H2) ∧
  ∀ x H2,J.yld i H' x H2 → g x σ' H2 fun σ3 H3=>tt σ3 H3 fun b H4=>if b = true then te σ3 H4 (fun v H5=>∃ ys,H5 D = some (.lst ys) ∧ ys.length < sizeLine ∧ N σ3 (upd H5 D (.lst (ys ++ [v])))) else N σ3 H4)
section
variable {prog : Program} {w : World} {A : Around} {R : Result → Shared → Prop} {s : Shared}
theorem Jmc {elt target iter : Expr} {ifs : List Expr} {scope : Scope} {pos : Pos} {it acc : Value} {env : Env} (I : Nat → Shared → Prop)
  (turn : ∀ n s,I n s → wpAny (model prog w) A (pyNext it) (fun r s1=>match r with
   | none=>R (.ok .next) s1
   | some v=>wpAny (model prog w) A (letOwnedTupleGo target it v) (fun _ s1'=>wpAny (model prog w) A (assign target env v) (fun _ s2 =>
     wpAny (model prog w) A (forIn ifs true fun c r=>if r = true then do let ok ← isTrue c env (eval c env); pure (ForInStep.yield ok) else pure (ForInStep.yield r)) (fun ok s3 =>
      if ok = true then wpAny (model prog w) A (eval elt env) (fun x s4 =>
       wpAny (model prog w) A (call (.builtin "list.append") [acc,x]) (fun _ s5=>∃ m,m < n ∧ I m s5) (fun _ _=>False) s4) (fun _ _=>False) s3
      else ∃ m,m < n ∧ I m s3) (fun _ _=>False) s2) (fun _ _=>False) s1') (fun _ _=>False) s1) (fun _ _=>False) s)
  (n : Nat) (h : I n s) : codeAny (model prog w) A (.compLoop (.ListComp elt [⟨target,iter,ifs,0⟩] scope pos) 0 it acc env) R s:=by
 refine codeAny_loop rfl I (fun n s hI=>?_) n h
 show wpAny _ A ((compTurn (.ListComp elt [⟨target,iter,ifs,0⟩] scope pos) 0 it acc env).onRaise (fun x=>do noteFrame x env; theTreesLotGoes x)) _ _ s
 refine wpAny_noted (wpAny_noRaise ?_)
 rw [compTurn_list]
 refine wpAny_bind (wpAny_standAt (wpAny_bind (wpAny_mono (turn n s hI) (fun r s1 h1=>?_) fun _ _ h'=>h')))
 cases r with
 | none=>exact wpAny_pure h1
 | some v =>
  refine wpAny_bind (wpAny_mono h1 (fun _ s1' h1'=>?_) fun _ _ h'=>h')
  refine wpAny_bind (wpAny_mono h1' (fun _ s2 h2=>wpAny_bind (wpAny_mono h2 (fun ok s3 h3=>?_) fun _ _ h'=>h')) fun _ _ h'=>h')
  cases ok with
  | false=>exact wpAny_pure ⟨rfl,h3⟩
  | true =>
   exact wpAny_bind (wpAny_bind (wpAny_mono h3 (fun x s4 h4=>wpAny_bind (wpAny_mono h4 (fun _ s5 h5=>wpAny_pure (wpAny_pure ⟨rfl,h5⟩)) fun _ _ h'=>h')) fun _ _ h'=>h'))
end
section
variable {X : Cx} {pins : List (Addr × Obj)} {σ : St} {H : Hp} {s : Shared}
theorem blk_ok {sc : Scope} {N : List Str} {C : Addr} {fp : List Addr} {pn : List (Addr × Obj)} (I : Inv X pins σ H s) (hk : sc.kind = .function) (hcell : ∀ y ∈ sc.names,y.2 ≠ .cell)
  (hfr : ∀ y ∈ sc.names,y.2 = .free → X.env.kindOf y.1 = some .cell ∨ X.env.kindOf y.1 = some .free) (hC : C = s.heap.objs.size) (hf : ∀ b ∈ fp,Jjx X pins H b ∧ b < s.heap.objs.size) : (blk X sc N C s H fp pn).Ok:=by
 have hin : ∀ x c,(Jho X.env.cells sc.names []).lookup x = some c → X.env.cells.lookup x = some c:=Ji5 sc.names [] (fun x c e=>by simp at e)
 refine ⟨I.ok.mod,hk,I.ok.glob,I.ok.blt,Nat.le_of_eq hC.symm,fun x y c h1 h2=>I.ok.inj x y c (hin _ _ h1) (hin _ _ h2),fun x hx=>?_,fun x c h _=>(by cases h),I.ok.hd,I.ok.frames,.inl rfl,fun b hb=>?_,I.bs,Nat.le_trans I.ok.bsz I.sz,fun b o e hb=>?_,fun b hb z=>?_,I.stack,I.stkFree⟩
 ·have hx' : (relabel sc X.env).names.lookup x = some .cell ∨ (relabel sc X.env).names.lookup x = some .free:=hx
  have hm : (x,NameKind.free) ∈ sc.names:=by
   have : ∀ k,(relabel sc X.env).names.lookup x = some k → (k = .cell ∨ k = .free) → (x,NameKind.free) ∈ sc.names:=fun k e hkk=>by
    have m:=PySem.mem_of_lookup e
    obtain ⟨⟨n', k'⟩,m1,m2⟩:=List.mem_map.mp m
    dsimp only at m2
    by_cases hc : (k' == NameKind.free && X.env.scope.kind == .function && X.env.kindOf n' == some .cell) = true
    ·rw [if_pos hc] at m2
     have e1 : n' = x:=congrArg Prod.fst m2
     have e2 : k' = NameKind.free:=by simp at hc; exact hc.1.1
     rw [← e1,← e2]
     exact m1
    ·rw [if_neg hc] at m2
     have e1 : n' = x:=congrArg Prod.fst m2
     have e2 : k' = k:=congrArg Prod.snd m2
     rcases hkk with z | z
     ·exact absurd (e2.trans z) (hcell _ m1)
     ·rw [← e1,← z,← e2]; exact m1
   rcases hx' with e | e
   ·exact this _ e (.inl rfl)
   ·exact this _ e (.inr rfl)
  have hh:=Ji4 (cells:=X.env.cells) sc.names [] hm (I.ok.has x (hfr _ hm rfl))
  exact Option.isSome_iff_exists.mp hh
 ·obtain ⟨⟨f0,f1,f2,f3,f4,f5⟩,lt⟩:=hf b hb
  exact ⟨fun z=>Nat.ne_of_lt lt (z.trans hC),fun x c e=>f4 x c (hin _ _ e)⟩
 ·obtain ⟨⟨f0,f1,f2,f3,f4,f5⟩,lt⟩:=hf b hb
  rcases f3 with z | z
  ·exact I.ok.noex b o e z
  ·exact absurd (Nat.lt_of_lt_of_le (Heap.lt_size (I.ok.bs b o e).1) z) (Nat.lt_irrefl _)
 ·obtain ⟨⟨f0,f1,f2,f3,f4,f5⟩,lt⟩:=hf b hb
  rcases List.mem_cons.mp (I.stkSub b z) with e | e
  ·exact f1 e
  ·exact f2 e
theorem Jr7 {sc : Scope} {N : List Str} {ini : List (Option Nat)} {fp : List Addr} {h1 : Heap} {t' : Nat} (I : Inv X pins σ H s) (hk : sc.kind = .function) (hcell : ∀ y ∈ sc.names,y.2 ≠ .cell)
  (hfr : ∀ y ∈ sc.names,y.2 = .free → X.env.kindOf y.1 = some .cell ∨ X.env.kindOf y.1 = some .free) (hf : ∀ b ∈ fp,Jjx X pins H b ∧ b < s.heap.objs.size) (hlen : N.length = ini.length)
  (hini : ∀ (i : Nat) (x : Str) (j : Nat),N[i]? = some x → ini[i]? = some (some j) → X.N[j]? = some x ∧ sc.names.lookup x = some .free ∧ (X.env.kindOf x = some .cell ∨ X.env.kindOf x = some .free))
  (hn : h1.Ns s.heap.objs.size (fun _=>none)) (kp : ∀ b o,s.heap.get? b = some o → h1.get? b = some o) :
  Inv (blk X sc N s.heap.objs.size s H fp (X.pn ++ pins)) [] (Jp0 ini σ) H { s with heap:=h1,toks:=t' }:=by
 have hin : ∀ x c,(Jho X.env.cells sc.names []).lookup x = some c → X.env.cells.lookup x = some c:=Ji5 sc.names [] (fun x c e=>by simp at e)
 refine ⟨blk_ok I hk hcell hfr rfl hf,rfl,I.bare,Un.kept kp,⟨_,hn,fun i x v e1 e2 e3=>?_⟩,fun x c e=>?_,I.hok.fresh (Nat.le_refl _),fun x c e=>I.freeC x c (hin _ _ e),fun p hp=>?_,I.hok.kept kp,?_⟩
 ·have e1' : N[i]? = some x:=e1
  have e2' : (Jp0 ini σ)[i]? = some (some v):=e2
  unfold Jp0 at e2'
  rw [List.getElem?_map] at e2'
  cases hi : ini[i]? with
  | none=>rw [hi] at e2'; cases e2'
  | some o =>
   rw [hi] at e2'
   cases o with
   | none=>cases e2'
   | some j =>
    have e4 : (σ[j]?).join = some v:=Option.some.inj e2'
    have e5 : σ[j]? = some (some v):=by
     cases q : σ[j]? with
     | none=>rw [q] at e4; cases e4
     | some z=>rw [q] at e4; exact congrArg some e4
    obtain ⟨a1,a2,a3⟩:=hini i x j e1' hi
    obtain ⟨m,hm,hl⟩:=I.loc
    have hvis : Vis X.env.scope x:=by
     rcases a3 with z | z
     ·exact .inr (.inl z)
     ·exact .inr (.inr z)
    obtain ⟨u,r,l⟩:=hl j x v a1 e5 hvis
    refine ⟨u,r,.inr ⟨?_,?_⟩⟩
    ·have hm2:=PySem.mem_of_lookup a2
     have e3' : Vis (relabel sc X.env) x:=e3
     rcases e3' with z | z | z
     ·exfalso
      have m1:=PySem.mem_of_lookup z
      obtain ⟨⟨n', k'⟩,m2,m3⟩:=List.mem_map.mp m1
      dsimp only at m3
      have key : ∀ {ns : List (Str × NameKind)},ns.lookup x = some .free → (ns.map fun (n,k)=>if (k == NameKind.free && X.env.scope.kind == .function && X.env.kindOf n == some .cell) then (n,NameKind.cell) else (n,k)).lookup x ≠ some .local:=by
       intro ns
       induction ns with
       | nil=>intro q; simp at q
       | cons y r ih =>
        obtain ⟨n,k⟩:=y
        intro q
        rw [List.lookup_cons] at q
        rw [List.map_cons]
        dsimp only
        cases hx : x == n with
        | true =>
         rw [hx] at q
         have q' : k = .free:=Option.some.inj q
         subst q'
         split
         ·rw [List.lookup_cons,hx]; intro z; cases z
         ·rw [List.lookup_cons,hx]; intro z; cases z
        | false =>
         rw [hx] at q
         split
         ·rw [List.lookup_cons,hx]; exact ih q
         ·rw [List.lookup_cons,hx]; exact ih q
      exact key a2 z
     ·exact .inl z
     ·exact .inr z
    ·rcases l with ⟨k1,_⟩ | ⟨_,c,hc,hcl⟩
     ·exfalso
      rcases a3 with z | z
      ·rw [z] at k1; cases k1
      ·rw [z] at k1; cases k1
     ·have hh:=Ji4 (cells:=X.env.cells) sc.names [] (PySem.mem_of_lookup a2) ⟨c,hc⟩
      obtain ⟨c', hc'⟩:=Option.isSome_iff_exists.mp hh
      have : c' = c:=by
       have q:=hin _ _ hc'
       rw [hc] at q
       exact (Option.some.inj q).symm
      subst this
      obtain ⟨oc,hoc,hod⟩:=hcl
      exact ⟨c', hc', oc,kp _ _ hoc,hod⟩
 ·obtain ⟨v,oc,hoc,hod⟩:=I.cell x c (hin _ _ e)
  exact ⟨v,oc,kp _ _ hoc,hod⟩
 ·have hp' : p ∈ X.pn ++ pins:=by simpa [blk] using hp
  obtain ⟨e,n,ne,nf,d⟩:=I.pin p hp'
  refine ⟨kp _ _ e,n,Nat.ne_of_lt (Heap.lt_size e),fun z=>?_,d⟩
  rcases List.mem_cons.mp (I.stkSub p.1 z) with q | q
  ·exact ne q
  ·exact nf q
 ·unfold Jp0
  show (ini.map _).length = N.length
  rw [List.length_map]
  exact hlen.symm
end
end L2
namespace L2
open PySem PySem.Spec PyProof.Rows
section
variable {X : Cx} {elt iter tg : Expr} {ifs : List Expr} {sc : Scope} {pos : Pos} {N : List Str} {ini : List (Option Nat)} {wi : TI} {g : TG} {tt : TT} {te : TE}
theorem Jlv {pins : List (Addr × Obj)} {σ : St} {H : Hp} {s : Shared} {Q : VK} {use : Option (Value → Sem Unit)} {Q' : Value → Shared → Prop} {p : Pos} (hc : X.calm = true) (hi : PI X tg iter wi)
  (hsc : scB sc = true) (hfr : frB X.env.scope.names sc = true) (hlen : N.length = ini.length) (hini : iniB X.N N ini X.env.scope.names sc = true)
  (hg : ∀ C s H fp pn,PG (blk X sc N C s H fp pn) tg g) (ht : ∀ C s H fp pn,PIf (blk X sc N C s H fp pn) ifs tt) (he : ∀ C s H fp pn,PE (blk X sc N C s H fp pn) elt te)
  (hs : ∀ x,foldedSetIterable iter X.env x = pure x) (I : Inv X pins σ H s) (h : Jqv wi ini g tt te σ H Q)
  (hfin : ∀ (D : Addr) (H' : Hp) (s' : Shared) (C : Addr) (m : Str → Option Value),Inv X pins σ H' s' → Jjx X pins H' C → s'.heap.Ns C m → Q (.ref D) H' → compPost (model X.prog X.w) X.A X.xe use Q' (.ref D) C (.ok .next) s') :
  wpAny (model X.prog X.w) X.A (comprehension (.ListComp elt [⟨tg,iter,ifs,0⟩] sc pos) sc X.env p (newList []) false (eval iter X.env) use) Q' X.xe s:=by
 have hsc':=hsc
 unfold scB at hsc'
 rw [Bool.and_eq_true,Bool.and_eq_true] at hsc'
 obtain ⟨⟨hk0,hcell0⟩,hnames0⟩:=hsc'
 have hk : sc.kind = .function:=of_decide_eq_true hk0
 have hcell : ∀ y ∈ sc.names,y.2 ≠ .cell:=fun y hy=>of_decide_eq_true (List.all_eq_true.mp hcell0 y hy)
 have hnames : ∀ y ∈ sc.names,y.2 = .local → sc.names.lookup y.1 = some .local:=fun y hy hl=>by
  have q:=List.all_eq_true.mp hnames0 y hy
  rw [decide_eq_true hl] at q
  exact of_decide_eq_true (by simpa using q)
 have hfrP : ∀ y ∈ sc.names,y.2 = .free → X.env.kindOf y.1 = some .cell ∨ X.env.kindOf y.1 = some .free:=fun y hy hl=>by
  have q:=List.all_eq_true.mp hfr y hy
  rw [decide_eq_true hl] at q
  have q2 : decide (X.env.scope.names.lookup y.1 = some .cell) = true ∨ decide (X.env.scope.names.lookup y.1 = some .free) = true:=by simpa using q
  rcases q2 with z | z
  ·exact .inl (of_decide_eq_true z)
  ·exact .inr (of_decide_eq_true z)
 have hiniP : ∀ (i : Nat) (x : Str) (j : Nat),N[i]? = some x → ini[i]? = some (some j) → X.N[j]? = some x ∧ sc.names.lookup x = some .free ∧ (X.env.kindOf x = some .cell ∨ X.env.kindOf x = some .free):=fun i x j e1 e2=>by
  have hm : (x,some j) ∈ N.zip ini:=by
   refine List.mem_of_getElem? (i:=i) ?_
   rw [List.getElem?_zip_eq_some]
   exact ⟨e1,e2⟩
  have q:=List.all_eq_true.mp hini _ hm
  dsimp only at q
  rw [Bool.and_eq_true,Bool.and_eq_true,Bool.or_eq_true] at q
  obtain ⟨⟨q1,q2⟩,q3⟩:=q
  refine ⟨of_decide_eq_true q1,of_decide_eq_true q2,?_⟩
  rcases q3 with z | z
  ·exact .inl (of_decide_eq_true z)
  ·exact .inr (of_decide_eq_true z)
 refine wpAny_comprehension_free (use:=use) rfl hs (Jla fun y hy hl=>I.ok.has y.1 (hfrP y hy hl)) hk hnames ?_
 refine thn (hi pins s σ H _ I h) fun v s1 h1=>thn h1 fun itv s2 h2=>?_
 obtain ⟨it,fp,tn,J,H2,e,I2,T,st2,f2,step⟩:=h2
 subst e
 refine wpAny_newObj_type (wpAny_newFunctionEnv hcell (by intro y hy; simp at hy) (fun h1 hns1 hsb1=>?_) hk)
 dsimp only at hns1 hsb1 ⊢
 have hD : H2 s2.heap.objs.size = none:=I2.hok.fresh (Nat.le_refl _)
 have kp3 : ∀ b o,s2.heap.get? b = some o → (s2.heap.push { cls:=.type "list",dict:=none,data:=.seq ([] : List Value).toArray }).get? b = some o:=fun b o e=>Heap.get?_push_of_some _ e
 have I3 : Inv X pins σ (upd H2 s2.heap.objs.size (.lst [])) { s2 with heap:=s2.heap.push { cls:=.type "list",dict:=none,data:=.seq ([] : List Value).toArray } } :=
  I2.laid (t':=s2.toks) kp3 (Nat.le_refl _) ⟨Nat.zero_le _,[],0,.nil,Heap.get?_push_size _ rfl⟩
 obtain ⟨W,⟨m0,w0⟩,turn⟩:=step s2.heap.objs.size hD
 generalize hs3 : ({ s2 with heap:=s2.heap.push { cls:=.type "list",dict:=none,data:=.seq ([] : List Value).toArray } } : Shared) = s3 at I3
 have e3h : s3.heap = s2.heap.push { cls:=.type "list",dict:=none,data:=.seq ([] : List Value).toArray }:=by rw [← hs3]
 rw [← e3h] at hns1 hsb1 kp3 ⊢
 have sz3 : s2.heap.objs.size < s3.heap.objs.size:=by rw [e3h,Heap.size_push]; exact Nat.lt_succ_self _
 have hf3 : ∀ b ∈ fp,Jjx X pins (upd H2 s2.heap.objs.size (.lst [])) b ∧ b < s3.heap.objs.size:=fun b hb=>by
  obtain ⟨o,eo,_⟩:=T.obj 0 _ st2 b hb
  have lt:=Heap.lt_size eo
  obtain ⟨f0,fr⟩:=f2 b hb
  exact ⟨⟨by rw [Jfp (Nat.ne_of_lt lt)]; exact f0,fr⟩,Nat.lt_trans lt sz3⟩
 have kp4 : ∀ b o,s3.heap.get? b = some o → h1.get? b = some o:=fun b o e=>(hsb1.2 b (Nat.ne_of_lt (Heap.lt_size e))).trans (Heap.get?_push_of_some _ e)
 have I4 : Inv (blk X sc N s3.heap.objs.size s3 (upd H2 s2.heap.objs.size (.lst [])) fp (X.pn ++ pins)) [] (Jp0 ini σ) (upd H2 s2.heap.objs.size (.lst [])) { s3 with heap:=h1,toks:=s3.toks + ([] : List (Str × Value)).length } :=
  Jr7 I3 hk hcell hfrP hf3 hlen hiniP hns1 kp4
 have st4 : tn 0 h1:=T.keep 0 _ _ st2 fun b hb o e=>kp4 b o (kp3 b o e)
 have e4s : ({ s2 with heap:=h1,toks:=s2.toks + ([] : List (Str × Value)).length } : Shared) = { s3 with heap:=h1,toks:=s3.toks + ([] : List (Str × Value)).length }:=by rw [← hs3]
 have stat : ∀ {H' : Hp},(∀ b ∈ fp,H' b = none) → ∀ b ∈ fp,Jjx (blk X sc N s3.heap.objs.size s3 (upd H2 s2.heap.objs.size (.lst [])) fp (X.pn ++ pins)) [] H' b:=fun {H'} hn b hb=>by
  obtain ⟨⟨f0,f1,f2', f3,f4,f5⟩,lt⟩:=hf3 b hb
  refine ⟨hn b hb,Nat.ne_of_lt lt,fun z=>?_,.inl hb,fun x c e=>f4 x c (Ji5 sc.names [] (fun x c e=>by simp at e) x c e),fun p hp=>f5 p (by simpa [blk] using hp)⟩
  rcases List.mem_cons.mp (I3.stkSub b z) with q | q
  ·exact f1 q
  ·exact f2' q
 have loop : ∀ s4 : Shared,s4 = { s3 with heap:=h1,toks:=s3.toks + ([] : List (Str × Value)).length } → codeAny (model X.prog X.w) X.A (.compLoop (.ListComp elt [⟨tg,iter,ifs,0⟩] sc pos) 0 (.ref it) (.ref s2.heap.objs.size) (compEnvC sc (Jho X.env.cells sc.names []) s3.heap.objs.size X.env))
   (compPost (model X.prog X.w) X.A X.xe use Q' (.ref s2.heap.objs.size) s3.heap.objs.size) s4:=by
  rintro s4 rfl
  refine Jmc (fun n s'=>∃ i σ' H', Inv (blk X sc N s3.heap.objs.size s3 (upd H2 s2.heap.objs.size (.lst [])) fp (X.pn ++ pins)) [] σ' H' s' ∧ tn i s'.heap ∧ (∀ b ∈ fp,H' b = none) ∧ W i n σ' H') ?_ m0
   ⟨0,_,_,I4,st4,fun b hb=>(hf3 b hb).1.1,w0⟩
  rintro n s5 ⟨i,σ5,H5,I5,st5,fr5,w5⟩
  rcases turn i n σ5 H5 w5 with ⟨stop,q⟩ | ⟨go,N', hN', step'⟩
  ·refine thn (T.done (blk X sc N s3.heap.objs.size s3 (upd H2 s2.heap.objs.size (.lst [])) fp (X.pn ++ pins)) rfl rfl rfl hc i [] s5 σ5 H5 _ I5 (stat fr5) st5 stop) fun r s6 ⟨hr,I6⟩=>?_
   subst hr
   have un : Un (frs X.stack) fp H2 H5 s2.heap s6.heap:=(Un.laid (fs:=frs X.stack) (ex:=fp) kp3 (Nat.le_refl _) hD).trans I6.base
   have os6 : s6.os = s2.os:=I6.os.trans (show s3.os = s2.os by rw [← hs3])
   have IX : Inv X pins σ H5 s6:=I2.call' (ch:=fp) os6 un I6.hok I6.bare fun b hb=>by
    obtain ⟨⟨f0,f1,f2', f3,f4,f5⟩,lt⟩:=hf3 b hb
    exact ⟨f3,f1,f4,f5⟩
   obtain ⟨m,hm,_⟩:=I6.loc
   exact hfin _ H5 s6 s3.heap.objs.size m IX (I2.fpOk (Nat.le_of_lt sz3) I6.free) hm q
  ·refine thn (T.item (blk X sc N s3.heap.objs.size s3 (upd H2 s2.heap.objs.size (.lst [])) fp (X.pn ++ pins)) rfl rfl rfl hc i [] s5 σ5 H5 _ I5 (stat fr5) st5 go) fun r s6 ⟨u,hr,h6⟩=>?_
   subst hr
   refine thn h6 fun _ s7 ⟨x,H7,I7,r7,y7,st7,fr7⟩=>?_
   have I7':=I7.pinned (stat fr7) (T.obj _ _ st7)
   refine thn (hg _ _ _ _ _ _ s7 σ5 H7 x u _ I7' r7 (step' x H7 y7)) fun _ s8 ⟨σ8,H8,I8,q8⟩=>?_
   refine thn (ht _ _ _ _ _ _ s8 σ8 H8 _ I8 q8) fun ok s9 ⟨H9,I9,q9⟩=>?_
   have again : ∀ {σ' : St} {H' : Hp} {s' : Shared},Inv (blk X sc N s3.heap.objs.size s3 (upd H2 s2.heap.objs.size (.lst [])) fp (X.pn ++ pins)) ([] ++ Jl4 fp s7.heap) σ' H' s' → N' σ' H' →
     ∃ m,m < n ∧ ∃ i σ' H', Inv (blk X sc N s3.heap.objs.size s3 (upd H2 s2.heap.objs.size (.lst [])) fp (X.pn ++ pins)) [] σ' H' s' ∧ tn i s'.heap ∧ (∀ b ∈ fp,H' b = none) ∧ W i m σ' H':=fun {σ' H' s'} J n'=>by
    obtain ⟨m', hm,w'⟩:=hN' σ' H' n'
    refine ⟨m', hm,i + 1,σ', H', J.unpinned,T.keep _ _ _ st7 fun b hb o e=>(J.pin (b,o) (List.mem_append_right _ (List.mem_append_right _ (Jib hb e)))).1,fun b hb=>?_,w'⟩
    obtain ⟨o,e,d⟩:=T.obj _ _ st7 b hb
    exact (J.pin (b,o) (List.mem_append_right _ (List.mem_append_right _ (Jib hb e)))).2.1
   cases ok with
   | false =>
    rw [if_neg Bool.false_ne_true] at q9 ⊢
    exact again I9 q9
   | true =>
    rw [if_pos rfl] at q9 ⊢
    refine thn (he _ _ _ _ _ _ s9 σ8 H9 _ I9 q9) fun v10 s10 ⟨x10,H10,I10,r10,ys,hys,hyl,q10⟩=>?_
    refine thn (Ji7 _ s10 σ8 H10 (.ref s2.heap.objs.size) [x10] _ [v10] (fun _ H'=>N' σ8 H') I10 rfl (.cons r10 .nil) ⟨_,ys,x10,rfl,rfl,hys,hyl,q10⟩) fun _ s11 ⟨_,H11,I11,_,q11⟩=>?_
    exact again I11 q11
 have fin:=codeAny_compStart_list (R:=compPost (model X.prog X.w) X.A X.xe use Q' (.ref s2.heap.objs.size) s3.heap.objs.size) (loop _ rfl) (T.self X.A 0 { s3 with heap:=h1,toks:=s3.toks + ([] : List (Str × Value)).length } _ _ st4 (loop _ rfl))
 rw [← e4s] at fin
 exact fin
theorem Jgs (hc : X.calm = true) (hi : PI X tg iter wi) (hg : ∀ C s H fp pn,PG (blk X sc N C s H fp pn) tg g) (ht : ∀ C s H fp pn,PIf (blk X sc N C s H fp pn) ifs tt) (he : ∀ C s H fp pn,PE (blk X sc N C s H fp pn) elt te)
  (hsc : scB sc = true:=by rfl) (hfr : frB X.env.scope.names sc = true:=by rfl) (hlen : N.length = ini.length:=by rfl) (hini : iniB X.N N ini X.env.scope.names sc = true:=by rfl)
  (hs : ∀ x,foldedSetIterable iter X.env x = pure x:=by intro _; rfl) : PE X (.ListComp elt [⟨tg,iter,ifs,0⟩] sc pos) (Jqv wi ini g tt te):=by
 intro pins s σ H Q I h
 rw [eval_ListComp]
 refine Jlv (use:=none) hc hi hsc hfr hlen hini hg ht he hs I h fun D H' s' C m I' f hn q=>?_
 obtain ⟨f0,f1,f2,f3,f4,f5⟩:=f
 exact ⟨m,hn,fun h' sb=>⟨.ref D,H', I'.turned (it:=C) (t':=s'.toks) (fun b o hb e=>(sb.2 b hb).trans e) f0 f1 f3 f4 f5,rfl,q⟩⟩
def tSetC (i : Nat) (te : TE) : TS:=fun D σ H=>te σ H fun v H1=>D.nx (σ.set i (some v)) H1
theorem Jrp {i : Nat} {y : Str} {py spos : Pos} (hN : X.N.Nodup) (hiy : X.N[i]? = some y) (hx : Loc X.env.scope y) (hc : X.calm = true) (hi : PI X tg iter wi) (hg : ∀ C s H fp pn,PG (blk X sc N C s H fp pn) tg g) (ht : ∀ C s H fp pn,PIf (blk X sc N C s H fp pn) ifs tt) (he : ∀ C s H fp pn,PE (blk X sc N C s H fp pn) elt te)
  (hf : X.fn y = true ∨ X.env.scope.names.lookup y = some .local:=by first | exact .inl rfl | exact .inr rfl | assumption)
  (hsw : swapsWith (.ListComp elt [⟨tg,iter,ifs,0⟩] sc pos) (some (.Name y py)) spos.line X.env = pure true:=by rfl)
  (hsc : scB sc = true:=by rfl) (hfr : frB X.env.scope.names sc = true:=by rfl) (hlen : N.length = ini.length:=by rfl) (hini : iniB X.N N ini X.env.scope.names sc = true:=by rfl)
  (hs : ∀ x,foldedSetIterable iter X.env x = pure x:=by intro _; rfl) : PS X (.Assign [.Name y py] (.ListComp elt [⟨tg,iter,ifs,0⟩] sc pos) spos) (tSetC i (Jqv wi ini g tt te)):=by
 intro pins s σ H D I h
 rw [exec_Assign_Name_used _ _ _ _ hsw]
 refine wpAny_bind (wpAny_standAt (wpAny_bind ?_))
 show wpAny _ X.A (do let _ ← comprehension (.ListComp elt [⟨tg,iter,ifs,0⟩] sc pos) sc X.env _ (newList []) false (eval iter X.env) (some (assign (.Name y py) X.env))) _ _ s
 refine wpAny_bind (wpAny_mono (Jlv (use:=some (assign (.Name y py) X.env)) (Q':=fun _ s'=>SP X pins D .next s') hc hi hsc hfr hlen hini hg ht he hs I h fun D' H' s' C m I' f hn q=>?_) (fun _ s' hq=>wpAny_pure (wpAny_pure hq)) fun _ _ e=>e)
 obtain ⟨f0,f1,f2,f3,f4,f5⟩:=f
 show wpAny _ X.A (assign (.Name y py) X.env (.ref D')) _ _ _
 refine wpAny_assign_Name (Jm4 I' hN hiy hx (v:=.ref D') rfl (fun s'' I'' sb=>?_) hf)
 obtain ⟨a,sb,ha⟩:=sb
 have hCa : C ≠ a:=by
  rcases ha with z | z
  ·rw [z]; exact f1
  ·exact fun e=>f4 y a z e.symm
 refine ⟨m,hn.sameBut sb hCa,fun h' sb'=>⟨_,H', I''.turned (it:=C) (t':=s''.toks) (fun b o hb e=>(sb'.2 b hb).trans e) f0 f1 f3 f4 f5,q⟩⟩
end
section
variable {g : TG} {tt : TT} {te : TE} {H : Hp} {D : Addr} {σ : St} {R : Hp → Prop}
theorem Jja {lo : Int} {n : Nat} (Pv : Nat → St → Hp → Prop) (h0 : Pv 0 σ H)
  (hs : ∀ i σ H,i < n → Pv i σ H → g (.int (lo + i)) σ H fun σ3 H3=>tt σ3 H3 fun b H4=>if b = true then te σ3 H4 (fun v H5=>∃ ys,H5 D = some (.lst ys) ∧ ys.length < sizeLine ∧ Pv (i + 1) σ3 (upd H5 D (.lst (ys ++ [v])))) else Pv (i + 1) σ3 H4)
  (hd : ∀ σ H,Pv n σ H → R H) :
  ∃ W : Nat → Nat → St → Hp → Prop,(∃ m,W 0 m σ H) ∧ ∀ i m σ' H', W i m σ' H' → ((Itr lo n).stop i H' ∧ R H') ∨ ((Itr lo n).go i H' ∧ ∃ N : St → Hp → Prop,(∀ σ2 H2,N σ2 H2 → ∃ m', m' < m ∧ W (i + 1) m' σ2 H2) ∧
   ∀ x H2,(Itr lo n).yld i H' x H2 → g x σ' H2 fun σ3 H3=>tt σ3 H3 fun b H4=>if b = true then te σ3 H4 (fun v H5=>∃ ys,H5 D = some (.lst ys) ∧ ys.length < sizeLine ∧ N σ3 (upd H5 D (.lst (ys ++ [v])))) else N σ3 H4):=by
 refine ⟨fun i m σ H=>m = n - i ∧ i ≤ n ∧ Pv i σ H,⟨n,by simp,Nat.zero_le _,h0⟩,?_⟩
 rintro i m σ H ⟨rfl,hi,p⟩
 by_cases hlt : i < n
 ·refine .inr ⟨hlt,Pv (i + 1),fun σ' H' p'=>⟨n - (i + 1),by omega,rfl,hlt,p'⟩,fun x H' y=>?_⟩
  obtain ⟨e,y⟩:=y
  subst e y
  exact hs i σ _ hlt p
 ·have e : i = n:=by omega
  subst e
  exact .inl ⟨Nat.le_refl _,hd σ H p⟩
theorem Jlw {K : PySem.W.Frag} {a : Addr} {xs : List V} (Pv : Nat → St → Hp → Prop) (h0 : Pv 0 σ H) (hl : ∀ i σ H,i ≤ xs.length → Pv i σ H → SqL K H a xs)
  (hs : ∀ i x σ H,xs[i]? = some x → Pv i σ H → g x σ H fun σ3 H3=>tt σ3 H3 fun b H4=>if b = true then te σ3 H4 (fun v H5=>∃ ys,H5 D = some (.lst ys) ∧ ys.length < sizeLine ∧ Pv (i + 1) σ3 (upd H5 D (.lst (ys ++ [v])))) else Pv (i + 1) σ3 H4)
  (hd : ∀ σ H,Pv xs.length σ H → R H) :
  ∃ W : Nat → Nat → St → Hp → Prop,(∃ m,W 0 m σ H) ∧ ∀ i m σ' H', W i m σ' H' → ((Itl K a).stop i H' ∧ R H') ∨ ((Itl K a).go i H' ∧ ∃ N : St → Hp → Prop,(∀ σ2 H2,N σ2 H2 → ∃ m', m' < m ∧ W (i + 1) m' σ2 H2) ∧
   ∀ x H2,(Itl K a).yld i H' x H2 → g x σ' H2 fun σ3 H3=>tt σ3 H3 fun b H4=>if b = true then te σ3 H4 (fun v H5=>∃ ys,H5 D = some (.lst ys) ∧ ys.length < sizeLine ∧ N σ3 (upd H5 D (.lst (ys ++ [v])))) else N σ3 H4):=by
 refine ⟨fun i m σ H=>m = xs.length - i ∧ i ≤ xs.length ∧ Pv i σ H,⟨xs.length,by simp,Nat.zero_le _,h0⟩,?_⟩
 rintro i m σ H ⟨rfl,hi,p⟩
 have q:=hl i σ H hi p
 by_cases hlt : i < xs.length
 ·refine .inr ⟨⟨xs,xs[i],q,by simp [hlt]⟩,Pv (i + 1),fun σ' H' p'=>⟨xs.length - (i + 1),by omega,rfl,hlt,p'⟩,fun x H' y=>?_⟩
  obtain ⟨e,y⟩:=y
  subst e
  exact hs i x σ _ (y xs q) p
 ·have e : i = xs.length:=by omega
  subst e
  exact .inl ⟨⟨xs,q,Nat.le_refl _⟩,hd σ H p⟩
end
theorem Jhw {i : Nat} {v : V} {σ : St} {H : Hp} {A B : St → Hp → Prop} (h : A (σ.set i (some v)) H) : Jkc i v σ H fun σ3 H3=>Jph σ3 H3 fun b H4=>if b = true then A σ3 H4 else B σ3 H4:=by
 show if true = true then A (σ.set i (some v)) H else B (σ.set i (some v)) H
 rw [if_pos rfl]
 exact h
def sgn (c : Nat) : V:=.str ⟨#[c]⟩
def Its (z : Str) : It:=⟨fun i _=>i < z.cps.size,fun i H x H'=>H' = H ∧ ∃ c,z.cps[i]? = some c ∧ x = sgn c,fun i _=>z.cps.size = i⟩
def iStr (tl : TE) : TI:=fun σ H R=>tl σ H fun x H1=>∃ z,x = .str z ∧ R (Its z) H1
theorem Jnf {P : Program} {w : World} {K : PySem.W.Frag} {tg : Expr} {z : Str} {it : Addr} {n : String} {fl : Nat → Array Value} {St : Nat → Heap → Prop}
  (Wk : ∀ A' : Around,A'.handled = none → Walks P w A' it [it] [it] z.cps.size (SignAt z) St) (hst : ∀ i h,St i h → ∃ o,h.get? it = some o ∧ o.cls = .type n ∧ ∃ a,o.data = .fields a)
  (hn : ["enumerate","zip","dict_itemiterator","dict_reverseitemiterator","odict_iterator","itertools.zip_longest","itertools.pairwise"].contains n = false)
  (hself : ∀ (A : Around) (i : Nat) (s : Shared) (Q : Value → Shared → Prop) (E : Value → Shared → Prop),St i s.heap → Q (.ref it) s → wpAny (model P w) A (pyIter (.ref it)) Q E s) : Jm7 P w K tg (Its z) [it] it St where
 mem:=by simp
 obj:=fun i h st b hb=>by
  have e : b = it:=by simpa using hb
  subst e
  obtain ⟨o,e,_,a,d⟩:=hst i h st
  exact ⟨o,e,fun v z=>by rw [d] at z; cases z⟩
 keep:=fun i h h' st k=>by
  have W0:=Wk callerA rfl
  exact W0.frame i h h' st fun b hb o e=>k b hb o e
 item:=by
  intro X hP hw hK hc i pins s σ H E I hf st hg
  subst hP hw hK
  obtain ⟨f0,f1,f2,f3,f4,f5⟩:=hf it (by simp)
  have W:=Wk X.A (I.ok.hd hc)
  refine W.item i s _ _ hg st fun v h' tk hv st' kk=>?_
  obtain ⟨c,u,hcp,rfl⟩:=hv
  have I1 : Inv X pins σ H { s with heap:=h', toks:=tk }:=I.turned (fun b o hb e=>kk b o (by simpa using hb) e) f0 f1 f3 f4 f5
  obtain ⟨o,e,cl,a,d⟩:=hst _ _ st'
  exact ⟨_,rfl,Job (s:={ s with heap:=h', toks:=tk }) e cl d hn ⟨sgn c,H,I1,⟨u,rfl⟩,⟨rfl,c,hcp,rfl⟩,st', fun b hb=>(hf b hb).1⟩⟩
 done:=by
  intro X hP hw hK hc i pins s σ H E I hf st hg
  subst hP hw hK
  obtain ⟨f0,f1,f2,f3,f4,f5⟩:=hf it (by simp)
  have W:=Wk X.A (I.ok.hd hc)
  have hg' : z.cps.size = i:=hg
  subst hg'
  exact W.done s _ _ st fun h' tk kk=>⟨rfl,I.turned (fun b o hb e=>kk b o (by simpa using hb) e) f0 f1 f3 f4 f5⟩
 self:=hself
theorem Jqf {X : Cx} {tg l : Expr} {tl : TE} (hl : PE X l tl) : PI X tg l (iStr tl):=by
 intro pins s σ H R I h
 refine thn (hl pins s σ H _ I h) fun v s1 ⟨x,H1,I1,r1,z,e,q⟩=>?_
 subst e
 obtain ⟨t,rfl⟩:=r1
 have fin : ∀ (o : Obj) (St : Nat → Heap → Prop) (n : String),Jm7 X.prog X.w X.K tg (Its z) [s1.heap.objs.size] s1.heap.objs.size St → St 0 (s1.heap.push o) → PIE X pins σ tg R (.ref s1.heap.objs.size) { s1 with heap:=s1.heap.push o }:=fun o St n T st0=>by
  refine ⟨s1.heap.objs.size,[s1.heap.objs.size],St,Its z,H1,rfl,I1.kept (t':=s1.toks) fun b o e=>Heap.get?_push_of_some _ e,T,st0,fun b hb=>?_,q⟩
  have e : b = s1.heap.objs.size:=by simpa using hb
  subst e
  exact I1.fpOk (Nat.le_refl _) (I1.hok.fresh (Nat.le_refl _))
 cases ha : z.cps.all (· < 128)
 ·refine wpAny_pyIter_wide ha (fin _ (fun i h=>h.IsStrIter s1.heap.objs.size "str_iterator" z t i) "str_iterator" (Jnf (n := "str_iterator") (fl:=fun _=>#[]) (fun A' hA=>Walks.strWide hA _ z t) (fun i h st=>?_) (by decide) (fun A i s Q E st q=>wpAny_pyIter_striter_wide st q)) ⟨_,Heap.get?_push_size _ rfl,rfl,rfl⟩)
  obtain ⟨o,e,c,d⟩:=st
  exact ⟨o,e,c,_,d⟩
 ·refine wpAny_pyIter_ascii ha (fin _ (fun i h=>h.IsStrIter s1.heap.objs.size "str_ascii_iterator" z t i) "str_ascii_iterator" (Jnf (n := "str_ascii_iterator") (fl:=fun _=>#[]) (fun A' hA=>Walks.strAscii hA _ z t) (fun i h st=>?_) (by decide) (fun A i s Q E st q=>wpAny_pyIter_striter_ascii st q)) ⟨_,Heap.get?_push_size _ rfl,rfl,rfl⟩)
  obtain ⟨o,e,c,d⟩:=st
  exact ⟨o,e,c,_,d⟩
theorem Jmy {z : Str} {g : TG} {tt : TT} {te : TE} {H : Hp} {D : Addr} {σ : St} {R : Hp → Prop} (Pv : Nat → St → Hp → Prop) (h0 : Pv 0 σ H)
  (hs : ∀ i c σ H,z.cps[i]? = some c → Pv i σ H → g (sgn c) σ H fun σ3 H3=>tt σ3 H3 fun b H4=>if b = true then te σ3 H4 (fun v H5=>∃ ys,H5 D = some (.lst ys) ∧ ys.length < sizeLine ∧ Pv (i + 1) σ3 (upd H5 D (.lst (ys ++ [v])))) else Pv (i + 1) σ3 H4)
  (hd : ∀ σ H,Pv z.cps.size σ H → R H) :
  ∃ W : Nat → Nat → St → Hp → Prop,(∃ m,W 0 m σ H) ∧ ∀ i m σ' H', W i m σ' H' → ((Its z).stop i H' ∧ R H') ∨ ((Its z).go i H' ∧ ∃ N : St → Hp → Prop,(∀ σ2 H2,N σ2 H2 → ∃ m', m' < m ∧ W (i + 1) m' σ2 H2) ∧
   ∀ x H2,(Its z).yld i H' x H2 → g x σ' H2 fun σ3 H3=>tt σ3 H3 fun b H4=>if b = true then te σ3 H4 (fun v H5=>∃ ys,H5 D = some (.lst ys) ∧ ys.length < sizeLine ∧ N σ3 (upd H5 D (.lst (ys ++ [v])))) else N σ3 H4):=by
 refine ⟨fun i m σ H=>m = z.cps.size - i ∧ i ≤ z.cps.size ∧ Pv i σ H,⟨z.cps.size,by simp,Nat.zero_le _,h0⟩,?_⟩
 rintro i m σ H ⟨rfl,hi,p⟩
 by_cases hlt : i < z.cps.size
 ·refine .inr ⟨hlt,Pv (i + 1),fun σ' H' p'=>⟨z.cps.size - (i + 1),by omega,rfl,hlt,p'⟩,fun x H' y=>?_⟩
  obtain ⟨e,c,hcp,y⟩:=y
  subst e y
  exact hs i c σ _ hcp p
 ·have e : i = z.cps.size:=by omega
  subst e
  exact .inl ⟨rfl,hd σ H p⟩
end L2
namespace L2
open PySem PySem.Spec PyProof.Rows
section
variable {X : Cx}
theorem Jn6 : OpR X (binaryOp .FloorDiv) (rI (fun _ j=>0 < j ∧ j.natAbs.log2 < 9000) fun i j=>.int (i / j)):=opI fun i j _ _ _ _ _ hc q=>by
 have h1 : (0 : Int) < j:=hc.1
 exact floordiv_int (by omega) (by rw [Int.fdiv_eq_ediv_of_nonneg i (by omega)]; exact q) (.inl (PyProof.noPylong_of_log2 hc.2))
def clsV : V → Option Value
 | .ty n=>some (.type n)
 | .ref a=>some (.ref a)
 | _=>none
theorem Joo : ∀ {ys : List Str} {us : List Value},Vals (ys.map V.str) us → StrsAre us ys
 | [],_,.nil=>.nil
 | _ :: _,_,.cons ⟨_,rfl⟩ t=>.cons _ _ (Joo t)
def rJoin (K : PySem.W.Frag) : V → List V → Hp → VK → Prop:=fun x xs H Q=>∃ (z : Str) (a : Addr) (ys : List Str),x = .str z ∧ xs = [.ref a] ∧ SqL K H a (ys.map V.str) ∧ (ys.map (·.length)).sum + ys.length * z.length ≤ 16777216 ∧ Q (.str (Txt.join z ys)) H
theorem Jrf : MtR X "str.join" (rJoin X.K):=by
 intro pins s σ H x xs v us Q I rx rs h
 obtain ⟨z,a,ys,rfl,rfl,hq,hz,q⟩:=h
 obtain ⟨t,rfl⟩:=rx
 obtain ⟨u,rfl,ru⟩:=Jii rs
 cases ru
 obtain ⟨its,r,pl,_⟩:=I.list hq
 exact join_list pl.isList (by simpa using Joo r) hz fun t' k=>⟨.str _,H,I.tok _,⟨_,rfl⟩,q⟩
def rAll (K : PySem.W.Frag) : List V → Hp → VK → Prop:=fun xs H Q=>∃ (a : Addr) (bs : List Bool),xs = [.ref a] ∧ SqL K H a (bs.map V.bl) ∧ Q (.bl (bs.all id)) H
theorem Jjm (hc : X.calm = true) : Jhs X (.builtin "all") (rAll X.K):=by
 intro pins s σ H xs us Q I r h
 obtain ⟨a,bs,rfl,hq,q⟩:=h
 obtain ⟨u,rfl,ru⟩:=Jii r
 cases ru
 obtain ⟨its,rv,pl,hz⟩:=I.list hq
 have hlen:=rv.length
 refine call_all_walk (wpAny_pyIter_list pl.isList ⟨s.heap.objs.size,[s.heap.objs.size,a],[s.heap.objs.size],its.toArray.size,_,_,fun i=>bs.getD i true,rfl,Walks.list (prog:=X.prog) (w:=X.w) (A:=X.A.in1) (show X.A.in1.handled = none from I.ok.hd hc) s.heap.objs.size a ?_ its.toArray,⟨⟨_,Heap.get?_push_size _ rfl,rfl,rfl⟩,pl.isList.at fun o e=>Heap.get?_push_of_some _ e⟩,?_,fun h' tk k=>?_⟩)
 ·obtain ⟨o,_,e,_⟩:=pl
  exact Nat.ne_of_lt (Heap.lt_size e)
 ·intro i v s' Q' E' hv hq'
  have hv' : its[i]? = some v:=by simpa using hv
  have hi : i < its.length:=(List.getElem?_eq_some_iff.mp hv').1
  have hb : i < bs.length:=by rw [List.length_map] at hlen; omega
  obtain ⟨u', hu', ru'⟩:=rv.get (i:=i) (x:=V.bl bs[i]) (by rw [List.getElem?_map,List.getElem?_eq_getElem hb]; rfl)
  rw [hv'] at hu'
  cases hu'
  cases ru'
  refine wpAny_truthy_bool ?_
  have : bs.getD i true = bs[i]:=by rw [List.getD_eq_getElem?_getD,List.getElem?_eq_getElem hb]; rfl
  rw [← this]
  exact hq'
 ·have e : ((List.range its.toArray.size).all fun i=>bs.getD i true) = bs.all id:=by
   have hl2 : its.toArray.size = bs.length:=by rw [List.length_map] at hlen; rw [List.size_toArray]; exact hlen.symm
   rw [hl2,Bool.eq_iff_iff,List.all_eq_true,List.all_eq_true]
   constructor
   ·intro hh b hb
    obtain ⟨i,hi,rfl⟩:=List.getElem_of_mem hb
    have:=hh i (List.mem_range.mpr hi)
    rw [List.getD_eq_getElem?_getD,List.getElem?_eq_getElem hi] at this
    exact this
   ·intro hh i hi
    have hi':=List.mem_range.mp hi
    rw [List.getD_eq_getElem?_getD,List.getElem?_eq_getElem hi']
    exact hh _ (List.getElem_mem hi')
  rw [e]
  exact ⟨.bl _,H,I.kept fun b o e=>k b o (fun z=>by
   have z' : b = s.heap.objs.size:=by simpa using z
   exact absurd (Heap.lt_size e) (by rw [z']; exact Nat.lt_irrefl _)) (Heap.get?_push_of_some _ e),rfl,q⟩
end
mutual
inductive DatV (K : PySem.W.Frag) (H : Hp) : V → PyData → Prop
 | non : DatV K H .non .none
 | bl (b : Bool) : DatV K H (.bl b) (.bool b)
 | int (i : Int) : DatV K H (.int i) (.int i)
 | str (z : Str) : DatV K H (.str z) (.str z)
 | lst {a : Addr} {xs : List V} {ds : List PyData} : SqL K H a xs → DatVs K H xs ds → DatV K H (.ref a) (.list ds)
 | tup {a : Addr} {xs : List V} {ds : List PyData} : SqT K H a xs → DatVs K H xs ds → DatV K H (.ref a) (.tuple ds)
inductive DatVs (K : PySem.W.Frag) (H : Hp) : List V → List PyData → Prop
 | nil : DatVs K H [] []
 | cons {x : V} {d : PyData} {xs : List V} {ds : List PyData} : DatV K H x d → DatVs K H xs ds → DatVs K H (x :: xs) (d :: ds)
end
section
variable {X : Cx} {pins : List (Addr × Obj)} {σ : St} {H : Hp} {s : Shared}
mutual
theorem DatV.reads (I : Inv X pins σ H s) : ∀ {x : V} {d : PyData},DatV X.K H x d → ∀ {v : Value},RelV x v → ∃ as,Reads s.heap v d as
 | _,_,.non,_,r=>by cases r; exact ⟨_,.none⟩
 | _,_,.bl b,_,r=>by cases r; exact ⟨_,.bool b⟩
 | _,_,.int i,_,r=>by obtain ⟨t,rfl⟩:=r; exact ⟨_,.int i t⟩
 | _,_,.str z,_,r=>by obtain ⟨t,rfl⟩:=r; exact ⟨_,.str z t⟩
 | _,_,.lst (a:=a) hq hd,_,r=>by
  cases r
  obtain ⟨its,rv,⟨o,n,e,c,dd,dt⟩,_⟩:=I.list hq
  obtain ⟨as,ra⟩:=DatVs.reads I hd rv
  exact ⟨_,.list e c dt (by simpa using ra)⟩
 | _,_,.tup (a:=a) hq hd,_,r=>by
  cases r
  obtain ⟨its,rv,⟨o,e,c,n,dt⟩,_⟩:=I.tuple hq
  obtain ⟨as,ra⟩:=DatVs.reads I hd rv
  exact ⟨_,.tuple e c dt (by simpa using ra)⟩
theorem DatVs.reads (I : Inv X pins σ H s) : ∀ {xs : List V} {ds : List PyData},DatVs X.K H xs ds → ∀ {us : List Value},Vals xs us → ∃ as,ReadsAll s.heap us ds as
 | _,_,.nil,_,r=>by cases r; exact ⟨_,.nil⟩
 | _,_,.cons h t,_,r=>by
  cases r with
  | cons r1 r2 =>
   obtain ⟨as,ra⟩:=DatV.reads I h r1
   obtain ⟨bs,rb⟩:=DatVs.reads I t r2
   exact ⟨_,.cons ra rb⟩
end
def rEqD (K : PySem.W.Frag) (neg : Bool) : R2:=fun x y H Q=>∃ d e,DatV K H x d ∧ DatV K H y e ∧ SeqAt.shaped d = true ∧ SeqAt.shaped e = true ∧ Q (.bl (if neg then !PyData.eqv d e else PyData.eqv d e)) H
theorem Jq7 (hu : X.A.units + 64 < cLine) : OpR X (compareOp .Eq) (rEqD X.K false):=by
 intro pins s σ H x y v u Q I rx ry h
 obtain ⟨d,e,hd,he,sd,se,q⟩:=h
 obtain ⟨as,ra⟩:=hd.reads I rx
 obtain ⟨bs,rb⟩:=he.reads I ry
 exact eq_dataH ra rb sd se hu (Jg7 I q rfl)
theorem op_neD (hu : X.A.units + 64 < cLine) : OpR X (compareOp .NotEq) (rEqD X.K true):=by
 intro pins s σ H x y v u Q I rx ry h
 obtain ⟨d,e,hd,he,sd,se,q⟩:=h
 obtain ⟨as,ra⟩:=hd.reads I rx
 obtain ⟨bs,rb⟩:=he.reads I ry
 exact ne_dataH ra rb sd se hu (Jg7 I q rfl)
end
end L2
namespace L2
open PySem PySem.Spec PyProof.Rows
theorem Jfu : bootBuiltins "isinstance" = some (.builtin "isinstance"):=by decide +kernel
theorem Jhi : bootBuiltins "len" = some (.builtin "len"):=by decide +kernel
theorem Jpp : bootBuiltins "max" = some (.builtin "max"):=by decide +kernel
theorem Jnk : bootBuiltins "min" = some (.builtin "min"):=by decide +kernel
theorem Jma : bootBuiltins "all" = some (.builtin "all"):=by decide +kernel
theorem bt_int : bootBuiltins "int" = some (.type "int"):=by decide +kernel
theorem bt_str : bootBuiltins "str" = some (.type "str"):=by decide +kernel
theorem Jiy : bootBuiltins "bool" = some (.type "bool"):=by decide +kernel
theorem Jhx : bootBuiltins "list" = some (.type "list"):=by decide +kernel
theorem Jgu : bootBuiltins "tuple" = some (.type "tuple"):=by decide +kernel
structure FT (K : PySem.W.Frag) (mg : Str → Option Value) (x : Str) (st : Stmt) (ps : List Str) (f : Addr) (fd : FuncData) : Prop where
 mgx : mg x = some (.ref f)
 fn : Fun K x x st f fd
 bd : Binds K fd ps []
section
variable {X : Cx} {x : Str} {st : Stmt} {ps : List Str} {f : Addr} {fd : FuncData} {sp : Sp} {k j : Nat} {p pos : Pos} {e : Expr} {es : List Expr} {t : TA}
theorem Jfq (F : FT X.K X.mg x st ps f fd) (G : FnOk X.prog X.w X.K X.mg X.base CX0 k f fd ps sp) (hr : Room j X.A) (hk : k ≤ j) (ha : PA X (e :: es) t) (hg : Gl X x:=by rfl) (hdb : (x == ("__debug__" : Str)) = false:=by decide)
  (he : starEach (e :: es) X.env = (false,eval e X.env) :: starEach es X.env:=by rfl) (hpl : (backTo pos (starEach es X.env)).any (·.1) = false:=by rfl) : PE X (.Call (.Name x p) (e :: es) [] pos) (Jop sp [] E0 t) :=
 Jrm G (hr.mono hk) hg F.mgx F.fn.kp F.bd .nil Jhm ha hdb he hpl
end
theorem Same.upd {H : Hp} {D : Addr} {o : HO} (h : H D = none) : Same H (upd H D o):=fun b u e=>by rw [Jfp (Jfo e h)]; exact e
def Strm (H : Hp) (p : Addr) : Prop:=∃ a b c : Int,H p = some (.lst [.int a,.int b,.int c])
def But (p : Addr) (H H' : Hp) : Prop:=(∀ b o,b ≠ p → H b = some o → H' b = some o) ∧ Strm H' p
theorem But.trans {p : Addr} {H H1 H2 : Hp} (a : But p H H1) (b : But p H1 H2) : But p H H2:=⟨fun c o n e=>b.1 c o n (a.1 c o n e),b.2⟩
theorem But.refl {p : Addr} {H : Hp} (s : Strm H p) : But p H H:=⟨fun _ _ _ e=>e,s⟩
theorem But.same {p : Addr} {H H1 H2 : Hp} (a : But p H H1) (b : Same H1 H2) : But p H H2:=⟨fun c o n e=>b c o (a.1 c o n e),let ⟨x,y,z,e⟩:=a.2; ⟨x,y,z,b p _ e⟩⟩
theorem Strm.same {p : Addr} {H H1 : Hp} (a : Strm H p) (b : Same H H1) : Strm H1 p:=let ⟨x,y,z,e⟩:=a; ⟨x,y,z,b p _ e⟩
theorem But.of {p : Addr} {H H1 : Hp} (a : Strm H p) (b : Same H H1) : But p H H1:=(But.refl a).same b
theorem But.free {p : Addr} {H H' : Hp} (s : Strm H p) (b : But p H H') {D : Addr} (h : H' D = none) : H D = none:=by
 by_cases e : D = p
 ·obtain ⟨x,y,z,q⟩:=b.2
  rw [e,q] at h
  cases h
 ·cases q : H D with
  | none=>rfl
  | some o =>
   rw [b.1 D o e q] at h
   cases h
theorem Strm.ne {p D : Addr} {H : Hp} (s : Strm H p) (hD : H D = none) : D ≠ p:=by
 obtain ⟨x,y,z,q⟩:=s
 exact (Jfo q hD).symm
theorem Jg1 {p : Addr} {H : Hp} {a : Addr} {o : HO} (s : Strm H p) (h : H a = some o) (hn : ∀ x y z : Int,o ≠ .lst [.int x,.int y,.int z]) : a ≠ p:=by
 intro e
 obtain ⟨x,y,z,q⟩:=s
 rw [e,q] at h
 exact hn x y z (Option.some.inj h).symm
def Jqr : Sp:=fun vs H Q _=>∃ (p : Addr) (m : Int),vs = [.ref p,.int m] ∧ Strm H p ∧ 0 < m ∧ m.natAbs.log2 < 9000 ∧ ∀ (r : Int) (H' : Hp),0 ≤ r → r < m → But p H H' → Q (.int r) H'
def Jqq : Sp:=fun vs H Q _=>∃ c : Int,vs = [.int c] ∧ ∀ (p : Addr) (H' : Hp),H p = none → Same H H' → Strm H' p → Q (.ref p) H'
def spCell (K : PySem.W.Frag) : Sp:=fun vs H Q _=>∃ (a : Addr) (ns : List Int) (k : Nat),vs = [.ref a,.int k] ∧ SqL K H a (ns.map V.int) ∧ ∀ n : Int,Q (.int n) H
theorem Jrd {ns : List Int} {k : Nat} (h : k < ns.length) : atI (ns.map V.int) (k : Int) = some (.int ns[k]):=Jhb (by rw [List.getElem?_map,List.getElem?_eq_getElem h]; rfl)
theorem Jjo {A : Around} {k : Nat} (hr : Room k A) : A.units + 64 < cLine:=hr.units
end L2
namespace L2
open PySem PySem.Spec PyProof.Rows Builtin Builtin.ObjectAttr
abbrev VEm : List Value:=[.type "ValueError",.type "Exception",.type "BaseException",.type "object"]
def xcB (K : PySem.W.Frag) (C fI : Addr) : Bool :=
 PySem.W.findIn K (.ref C) "__getattribute__" == some (some (.builtin "BaseException.__getattribute__")) && PySem.W.findIn K (.ref C) "__getattr__" == some none && PySem.W.findIn K (.ref C) "__setattr__" == some (some (.builtin "object.__setattr__")) &&
 PySem.W.findIn K (.ref C) "__init__" == some (some (.ref fI)) && PySem.W.typeIn K (.ref fI) == some (.type "function") && PySem.W.keepIn K (.ref C) && PySem.W.hasDictIn K C && PySem.W.mroIn K C (.type "BaseException") == some true && PySem.W.mroIn K C (.type "object") == some true &&
 PySem.W.findIn K (.ref C) "__class__" == some (some (.builtin "object.__class__")) && PySem.W.specialIn K (.builtin "object.__class__") "__get__" == some (some (.builtin "getset_descriptor.__get__")) && PySem.W.takesIn K (.builtin "object.__class__") == some true
structure XCls (K : PySem.W.Frag) (C W fI : Addr) : Prop where
 obj : ∃ (nm q : Str) (N : Addr) (bs : List Value) (sn : List Str) (sub : List Value) (ab : Bool) (col : Option Bool) (dd : Option Addr) (k0 k1 k2 k3 k5 : Option Value),
  K.lookup C = some (excClassObj nm q C N bs (.ref W :: VEm) true sn sub ab col dd k0 k1 k2 k3 k5 "ValueError.__new__")
 tl : PySem.W.tailIn K VEm (.ref W :: VEm) = true
 all : xcB K C fI = true
theorem Jgm {K : PySem.W.Frag} {C fI : Addr} (h : xcB K C fI = true) :
  (PySem.W.findIn K (.ref C) "__getattribute__" = some (some (.builtin "BaseException.__getattribute__")) ∧ PySem.W.findIn K (.ref C) "__getattr__" = some none ∧ PySem.W.findIn K (.ref C) "__setattr__" = some (some (.builtin "object.__setattr__"))) ∧
  (PySem.W.findIn K (.ref C) "__init__" = some (some (.ref fI)) ∧ PySem.W.typeIn K (.ref fI) = some (.type "function") ∧ PySem.W.keepIn K (.ref C) = true ∧ PySem.W.hasDictIn K C = true) ∧ PySem.W.mroIn K C (.type "BaseException") = some true ∧ PySem.W.mroIn K C (.type "object") = some true ∧
  PySem.W.findIn K (.ref C) "__class__" = some (some (.builtin "object.__class__")) ∧ PySem.W.specialIn K (.builtin "object.__class__") "__get__" = some (some (.builtin "getset_descriptor.__get__")) ∧ PySem.W.takesIn K (.builtin "object.__class__") = some true:=by
 unfold xcB at h
 simp only [Bool.and_eq_true,beq_iff_eq] at h
 obtain ⟨⟨⟨⟨⟨⟨⟨⟨⟨⟨⟨a,b⟩,c⟩,d⟩,e⟩,f⟩,g⟩,i⟩,j⟩,k⟩,l⟩,m⟩:=h
 exact ⟨⟨a,b,c⟩,⟨d,e,f,g⟩,i,j,k,l,m⟩
section
variable {K : PySem.W.Frag} {C W fI : Addr} (c : XCls K C W fI)
include c
theorem XCls.ga : PySem.W.findIn K (.ref C) "__getattribute__" = some (some (.builtin "BaseException.__getattribute__")):=(Jgm c.all).1.1
theorem XCls.gh : PySem.W.findIn K (.ref C) "__getattr__" = some none:=(Jgm c.all).1.2.1
theorem XCls.sa : PySem.W.findIn K (.ref C) "__setattr__" = some (some (.builtin "object.__setattr__")):=(Jgm c.all).1.2.2
theorem XCls.ini : PySem.W.findIn K (.ref C) "__init__" = some (some (.ref fI)):=(Jgm c.all).2.1.1
theorem XCls.fn : PySem.W.typeIn K (.ref fI) = some (.type "function"):=(Jgm c.all).2.1.2.1
theorem XCls.kp : PySem.W.keepIn K (.ref C) = true:=(Jgm c.all).2.1.2.2.1
theorem XCls.hd : PySem.W.hasDictIn K C = true:=(Jgm c.all).2.1.2.2.2
theorem XCls.mb : PySem.W.mroIn K C (.type "BaseException") = some true:=(Jgm c.all).2.2.1
theorem XCls.mo : PySem.W.mroIn K C (.type "object") = some true:=(Jgm c.all).2.2.2.1
theorem XCls.cl : PySem.W.findIn K (.ref C) "__class__" = some (some (.builtin "object.__class__")):=(Jgm c.all).2.2.2.2.1
theorem XCls.cg : PySem.W.specialIn K (.builtin "object.__class__") "__get__" = some (some (.builtin "getset_descriptor.__get__")):=(Jgm c.all).2.2.2.2.2.1
theorem XCls.ct : PySem.W.takesIn K (.builtin "object.__class__") = some true:=(Jgm c.all).2.2.2.2.2.2
end
theorem Jpk (self : Value) (C W : Addr) : refuseLoop self "__setattr__" (.ref C :: .ref W :: VEm) = pure ():=by
 rw [refuseLoop_ref,refuseLoop_ref]
 exact PySem.F.store_ValueError.passes self
theorem XCls.mro {K : PySem.W.Frag} {C W fI : Addr} (c : XCls K C W fI) : ∃ cd,PySem.W.clsIn K C = some cd ∧ cd.mro = .ref C :: .ref W :: VEm ∧ cd.hasDict = true:=by
 obtain ⟨nm,q,N,bs,sn,sub,ab,col,dd,k0,k1,k2,k3,k5,l⟩:=c.obj
 unfold PySem.W.clsIn
 rw [l]
 exact ⟨_,rfl,rfl,rfl⟩
section
variable {prog : Program} {w : World} {A : Around} {E : Value → Shared → Prop} {s : Shared} {K : PySem.W.Frag} {x C W fI : Addr} {ox : Obj} {od : Option Obj} {name : Str}
theorem Js8 : builtinKind "BaseException.__getattribute__" = some .slot:=by decide +kernel
theorem Jr0 : splitId "BaseException.__getattribute__" = some ("BaseException","__getattribute__"):=by decide +kernel
theorem Jou {r : Found} {tk : Tok} {R : Result → Shared → Prop} (c : XCls K C W fI) (X : K.In s.heap) (I : PySem.W.InstAt s.heap x ox C od) (hf : PySem.W.findObj K C od name = some r)
  (h : wpAny (model prog w) A.in1 (match r with | .value v=>ret v | .bind g b=>bindTo g b (.ref x) (.ref C) | .missing=>unsupported "none")
   (fun fin s'=>match fin with | .done f=>R (.ok f) s' | .again c'=>c'.quiet = true ∧ codeAny (model prog w) A c' R s') (fun e s'=>R (.error e) s') s) (hr : r ≠ .missing) :
  codeAny (model prog w) A (.call (.builtin "BaseException.__getattribute__") ⟨[.ref x,.str name tk],[]⟩) R s:=by
 have T0:=I.type (M:=model prog w)
 have T3:=PySem.W.looks_find (M:=model prog w) X I hf
 have T4 : PySem.W.Looks (model prog w) s.heap (isInstance (.ref x) (.type "BaseException")) true:=T0.andThen (PySem.W.looks_mroIn X c.mb)
 have ck : ∀ {Q' : Unit → Shared → Prop} {E' : Value → Shared → Prop} {A' : Around},Q' () s → wpAny (model prog w) A' (checkBuiltinCall "BaseException.__getattribute__" ⟨[.ref x,.str name tk],[]⟩) Q' E' s:=fun {Q' E' A'} q =>
  @PySem.W.check_slot (model prog w) A' E' s "BaseException.__getattribute__" "BaseException" "__getattribute__" (.ref x) [.str name tk] [] Q' Js8 Jr0 T4 (F.args_bexc_ga (.ref x) (.str name tk)) q
 refine codeAny_call_builtin F.excAttr_ValueError.ga.plain F.entry_bexc_ga (ck ?_)
 unfold Builtin.«object.__getattribute__»
 refine wpAny_bind (wpAny_pure (wpAny_bind (wpAny_pure (wpAny_bind (T0.here (wpAny_bind (T3.here ?_)))))))
 cases r with
 | missing=>exact absurd rfl hr
 | value v=>exact h
 | bind gg b=>exact h
theorem xc_get {v : Value} {expr : Bool} {Q : Value → Shared → Prop} (c : XCls K C W fI) (X : K.In s.heap) (I : PySem.W.InstAt s.heap x ox C od) (hf : PySem.W.findObj K C od name = some (.value v)) (hh : PySem.W.handedIn v = true)
  (q : Q v { s with toks:=s.toks + 1 }) : wpAny (model prog w) A (getAttr (.ref x) name expr) Q E s:=by
 obtain ⟨hp,g,d,t,os⟩:=s
 have T0:=I.type (M:=model prog w)
 have T1:=PySem.W.looks_findIn (M:=model prog w) X c.ga
 have T2:=PySem.W.looks_findIn (M:=model prog w) X c.gh
 unfold getAttr getAttrBy
 refine wpAny_bind (wpAny_mkText (wpAny_holding (wpAny_bind (T0.at (wpAny_bind (T1.at ?_))))))
 show wpAny _ _ (getAttrByItsOwn (.ref x) _ (.ref C) _ _ _) _ _ _
 unfold getAttrByItsOwn
 refine wpAny_bind (show wpAny _ _ (typeLookup (.ref C) "__getattr__") _ _ _ from T2.at ?_)
 have e0 : callGetattribute (.ref x) (.str name t) (.builtin "BaseException.__getattribute__") expr = boundAndCalled (.builtin "BaseException.__getattribute__") (.ref x) (.str name t):=by cases expr <;> rfl
 rw [e0]
 unfold boundAndCalled
 rw [F.excAttr_ValueError.ga.bind]
 refine wpAny_bind (wpAny_attempt (wpAny_holding (wpAny_bind (wpAny_pure (wpAny_call (Jou (s:=⟨hp,g,d,t + 1,os⟩) (r:=.value v) c X I hf ?_ (fun z=>nomatch z)))))))
 refine wpAny_pure ?_
 show wpAny _ _ (handedOut v) _ _ _
 rw [PySem.W.handedOut_of hh]
 exact wpAny_pure q
end
end L2
namespace L2
open PySem PySem.Spec PyProof.Rows Builtin Builtin.ObjectAttr
section
variable {prog : Program} {w : World} {A : Around} {E : Value → Shared → Prop} {s : Shared} {K : PySem.W.Frag} {x C W fI : Addr} {ox : Obj} {od : Option Obj} {name : Str} {v : Value}
theorem xc_osa {tk : Tok} {R : Result → Shared → Prop} (c : XCls K C W fI) (X : K.In s.heap) (I : PySem.W.InstAt s.heap x ox C od) (hn : PySem.W.findIn K (.ref C) name = some none)
  (h : wpAny (model prog w) A.in1 (storeInOwnDict (.ref x) (.ref C) (.str name tk) name v false)
   (fun fin s'=>match fin with | .done f=>R (.ok f) s' | .again c'=>c'.quiet = true ∧ codeAny (model prog w) A c' R s') (fun e s'=>R (.error e) s') s) :
  codeAny (model prog w) A (.call (.builtin "object.__setattr__") ⟨[.ref x,.str name tk,v],[]⟩) R s:=by
 have SF:=PySem.F.store_object
 obtain ⟨cd,hc,hm,_⟩:=c.mro
 have T0:=I.type (M:=model prog w)
 have sub : PySem.W.Looks (model prog w) s.heap (isInstance (.ref x) (.type "object")) true:=T0.andThen (PySem.W.looks_mroIn X c.mo)
 have hmr : PySem.W.Looks (model prog w) s.heap (mroOf (.ref C)) cd.mro:=(PySem.W.looks_clsIn X hc).andThen .now
 have T2:=PySem.W.looks_findIn (M:=model prog w) X hn
 refine codeAny_call_builtin SF.slot.plain SF.entry (@PySem.W.check_slot (model prog w) _ _ s "object.__setattr__" "object" "__setattr__" (.ref x) [.str name tk,v] [] _ SF.kind SF.split sub (SF.args (.ref x) (.str name tk) v) ?_)
 rw [PySem.W.osa_eq,refuse_eq]
 refine wpAny_bind (wpAny_bind (T0.here (wpAny_bind (hmr.here ?_))))
 rw [hm,Jpk]
 exact wpAny_pure (wpAny_bind (T0.here (wpAny_bind (T2.here (wpAny_bind (wpAny_pure h))))))
theorem Jo3 {vs : Array Value} {Q : Unit → Shared → Prop} (c : XCls K C W fI) (X : K.In s.heap) (hx : s.heap.get? x = some ox) (hcl : ox.cls = .ref C) (hdi : ox.dict = none) (hd : ox.data = .fields vs) (hn : PySem.W.findIn K (.ref C) name = some none)
  (h : ∀ h', (∀ b u,b ≠ x → s.heap.get? b = some u → h'.get? b = some u) → h'.get? x = some { ox with dict:=some s.heap.objs.size } → h'.Ns1 s.heap.objs.size (fun y=>if y = name then some v else none) → Q () { s with heap:=h', toks:=s.toks + 2 }) :
  wpAny (model prog w) A (setAttr (.ref x) name v) Q E s:=by
 have I : PySem.W.InstAt s.heap x ox C none:=⟨hx,hcl,by unfold PySem.W.notCls; rw [hd],by rw [hdi]; trivial⟩
 obtain ⟨cd,hc,_,hdct⟩:=c.mro
 refine PySem.W.set_plain X I c.sa (xc_osa (s:={ s with toks:=s.toks + 1 }) c X I hn ?_)
 obtain ⟨oc,odi,oda,osl⟩:=ox
 dsimp only at hcl hdi hd
 subst hcl hdi hd
 refine wpAny_bind (wpAny_pure (wpAny_bind (wpAny_bind (wpAny_loadPart hx (wpAny_bind (PySem.W.Looks.here (s:={ s with toks:=s.toks + 1 }) (PySem.W.looks_clsIn X hc) ?_))))))
 rw [hdct]
 dsimp only
 simp only [Bool.not_true,Bool.false_eq_true,if_false,typeHasDict,Bool.or_false]
 have e1 : (s.heap.push { cls:=.type "dict",data:=.dict #[] }).get? x = some ⟨.ref C,none,.fields vs,osl⟩:=Heap.get?_push_of_some _ hx
 have nx : s.heap.objs.size ≠ x:=Nat.ne_of_gt (Heap.lt_size hx)
 have n0 : (s.heap.push { cls:=.type "dict",data:=.dict #[] }).Ns s.heap.objs.size (fun _=>none):=⟨_,#[],_,Heap.get?_push_size s.heap rfl,rfl,(fun e he=>absurd he (by simp)),fun _=>rfl⟩
 refine wpAny_bind (wpAny_alloc (wpAny_bind (wpAny_update e1 ?_)))
 have e2:=Heap.get?_update_self (fun o=>{ o with dict:=some s.heap.objs.size }) e1 rfl
 have n1 : ((s.heap.push { cls:=.type "dict",data:=.dict #[] }).update x fun o=>{ o with dict:=some s.heap.objs.size }).Ns1 s.heap.objs.size (fun _=>none) :=
  (Heap.Ns1.of_empty n0).at fun o q=>by rw [Heap.get?_update_other _ _ (Ne.symm nx)]; exact q
 refine wpAny_pure (wpAny_bind (wpAny_pure (wpAny_bind ?_)))
 refine wpAny_nsSet1 n1 fun h' n2 sb=>?_
 obtain ⟨oD,esD,epD,hoD,hdD,hcD⟩:=n2.count (PySem.Within.cons name v PySem.Within.nil)
 refine wpAny_bind (wpAny_lookBehind hoD (by rw [hdD]; exact pastItsLine_dict (Nat.le_trans hcD (Nat.le_add_left 1 sizeLine))) ?_)
 refine wpAny_pure (h h' (fun b u hb q=>?_) ((sb.2 _ (Ne.symm nx)).trans e2) n2)
 have nb : b ≠ s.heap.objs.size:=Nat.ne_of_lt (Heap.lt_size q)
 rw [sb.2 b nb,Heap.get?_update_other _ _ (Ne.symm hb)]
 exact Heap.get?_push_of_some _ q
end
abbrev Jpl (us : List Value) : Obj:={ cls:=.type "tuple",data:=.seq us.toArray }
abbrev xObj (C : Addr) (t : Addr) : Obj:={ cls:=.ref C,data:=.fields #[.ref t,.none,.none,.none,.bool false,.none] }
section
variable {prog : Program} {w : World} {A : Around} {E : Value → Shared → Prop} {K : PySem.W.Frag} {C W fI : Addr} {us : List Value} {hp : Heap} {g : Array GenState} {d : Drawn} {t : Nat} {os : OsState}
theorem Jr1 {Q : PySem.Fin → Shared → Prop} (c : XCls K C W fI) (X : K.In hp) (hz : us.length ≤ sizeLine)
  (h : wpAny (model prog w) A (call (.ref fI) (.ref (hp.objs.size + 1) :: us)) (fun r s'=>r = .none ∧ Q (.done (.ret (.ref (hp.objs.size + 1)))) s') E ⟨(hp.push (Jpl us)).push (xObj C hp.objs.size),g,d,t,os⟩) :
  wpAny (model prog w) A (Builtin.«type.__call__» ⟨.ref C :: us,[]⟩) Q E ⟨hp,g,d,t,os⟩:=by
 obtain ⟨nm,q,N,bs,sn,sub,ab,col,dd,k0,k1,k2,k3,k5,l⟩:=c.obj
 have FV:=F.excBase_ValueError
 have kC:=X _ _ l
 have TL : OwnTail hp VEm (.ref W :: VEm):=PySem.W.tail_of_in X c.tl
 have up : ∀ b o,hp.get? b = some o → ((hp.push (Jpl us)).push (xObj C hp.objs.size)).get? b = some o:=fun b o e=>Heap.get?_push_of_some _ (Heap.get?_push_of_some _ e)
 have gE : ((hp.push (Jpl us)).push (xObj C hp.objs.size)).get? (hp.objs.size + 1) = some ({ cls:=.ref C,data:=.fields #[.ref hp.objs.size,.none,.none,.none,.bool false,.none] } : Obj):=Heap.get?_push_at (by simp only [Heap.size_push]) rfl
 have X2:=X.keeps up
 have kC2:=X2 _ _ l
 have hcC : (Value.ref C :: .ref W :: VEm).contains (.ref C) = true:=by simp
 repeat (first | with_reducible refine wpAny_loadPart_at kC ?_ | with_reducible refine wpAny_madeBy_exc kC ?_ | wp_step)
 refine codeAny_call_builtin_code (Code.quiet_builtin _ FV.quiet) (wpAny_check_new_subT FV TL kC (codeAny_exc_new_subT FV TL kC ?_ hz))
 show wpAny _ _ _ _ _ _
 unfold isInstance
 repeat (first | with_reducible refine wpAny_loadPart_at gE ?_ | (with_reducible refine wpAny_isSubtype_exc kC2 ?_; rw [hcC]) | wp_step)
 show wpAny _ _ (typeLookup (.ref C) _) _ _ _
 refine (PySem.W.looks_findIn X2 c.ini).at (wpAny_holding (wpAny_bind ((PySem.W.bind_fn X2 _ c.fn).at ?_)))
 refine wpAny_bind (wpAny_mono h (fun r s' hr=>?_) fun _ _ z=>z)
 obtain ⟨rfl,hQ⟩:=hr
 wp_walk
 exact hQ
theorem Js9 {s : Shared} {Q : Value → Shared → Prop} (c : XCls K C W fI) (X : K.In s.heap) (hz : us.length ≤ sizeLine)
  (h : wpAny (model prog w) (A.under (.builtin "type.__call__" ⟨.ref C :: us,[]⟩)) (call (.ref fI) (.ref (s.heap.objs.size + 1) :: us)) (fun r s'=>r = .none ∧ Q (.ref (s.heap.objs.size + 1)) s') E { s with heap:=(s.heap.push (Jpl us)).push (xObj C s.heap.objs.size) }) :
  wpAny (model prog w) A (call (.ref C) us) Q E s:=by
 obtain ⟨hp,g,d,t,os⟩:=s
 obtain ⟨nm,q,N,bs,sn,sub,ab,col,dd,k0,k1,k2,k3,k5,l⟩:=c.obj
 have kC:=X _ _ l
 have v1:=tc_lookup
 have v2:=tc_bind (.ref C)
 have hT : (⟨hp,g,d,t,os⟩ : Shared).TypeIs (.ref C) "type" := ⟨_,kC,rfl⟩
 refine wpAny_call (codeAny_of_tree ?_)
 show wpAny _ _ (callAny (.ref C) _) _ _ _
 repeat (any_goals (first | assumption | with_reducible refine wpAny_loadPart_at kC ?_ | wp_step))
 exact ⟨rfl,codeAny_call_builtin_at (Code.quiet_builtin _ (by decide +kernel)) entry_typeCall (wpAny_check_type_call_sub kC (Jr1 c X hz h))⟩
end
end L2
namespace L2
open PySem PySem.Spec PyProof.Rows
def XO (e C : Addr) (dx : Option Addr) (fr : Bool) : HO:=.ext fun h=>∃ o vs,h.get? e = some o ∧ o.cls = .ref C ∧ o.dict = dx ∧ o.data = .fields vs ∧ (∃ t,vs[0]? = some (.ref t)) ∧ ∃ y,vs[1]? = some y ∧ (fr = true → y = .none)
def XD (dx : Addr) (fs : List (Str × V)) : HO:=.ext fun h=>∃ mA,h.Ns1 dx mA ∧ (∀ f,RelO (fs.lookup f) (mA f)) ∧ PySem.Within mA (fs.map (·.1)) ∧ fs.length ≤ 1000
section
variable {P : Program} {w : World} {H : Hp} {h : Heap} {e C dx : Addr} {od : Option Addr} {fr : Bool} {fs : List (Str × V)}
theorem Jr2 {o : Obj} {vs : Array Value} (he : h.get? e = some o) (h1 : o.cls = .ref C) (h2 : o.dict = od) (h3 : o.data = .fields vs) (h4 : ∃ t,vs[0]? = some (.ref t)) (h5 : ∃ y,vs[1]? = some y ∧ (fr = true → y = .none)) : ObjOk P w H h e (XO e C od fr) :=
 ⟨⟨o,vs,he,h1,h2,h3,h4,h5⟩,⟨o,he⟩,fun _ _ ⟨o,vs,a,r⟩ k=>⟨o,vs,k o a,r⟩⟩
theorem Jl8 (hok : HOk P w H h) (q : H e = some (XO e C od fr)) : ∃ o vs,h.get? e = some o ∧ o.cls = .ref C ∧ o.dict = od ∧ o.data = .fields vs ∧ (∃ t,vs[0]? = some (.ref t)) ∧ ∃ y,vs[1]? = some y ∧ (fr = true → y = .none):=(hok e _ q).1
theorem xd_ok {mA : Str → Option Value} (n : h.Ns1 dx mA) (r : ∀ f,RelO (fs.lookup f) (mA f)) (w' : PySem.Within mA (fs.map (·.1))) (z : fs.length ≤ 1000) : ObjOk P w H h dx (XD dx fs) :=
 ⟨⟨mA,n,r,w', z⟩,(let ⟨o,_,_,q,_⟩:=n; ⟨o,q⟩),fun _ _ ⟨m,a,r⟩ k=>⟨m,a.at k,r⟩⟩
theorem xd_get (hok : HOk P w H h) (q : H dx = some (XD dx fs)) : ∃ mA,h.Ns1 dx mA ∧ (∀ f,RelO (fs.lookup f) (mA f)) ∧ PySem.Within mA (fs.map (·.1)) ∧ fs.length ≤ 1000:=(hok dx _ q).1
theorem Jov (hok : HOk P w H h) (q : H e = some (XO e C (some dx) fr)) (qd : H dx = some (XD dx fs)) : ∃ (ox oD : Obj) (mA : Str → Option Value),PySem.W.InstAt h e ox C (some oD) ∧ (∀ n,PySem.W.lookIn n oD = some (mA n)) ∧ ∀ f,RelO (fs.lookup f) (mA f):=by
 obtain ⟨o,vs,he,hc,hd,hf,_⟩:=Jl8 hok q
 obtain ⟨mA,n1,r,_⟩:=xd_get hok qd
 obtain ⟨oD,hD,hl⟩:=Jm1 n1
 exact ⟨o,oD,mA,⟨he,hc,by unfold PySem.W.notCls; rw [hf],by rw [hd]; exact hD⟩,hl,r⟩
end
section
variable {X : Cx} {pins : List (Addr × Obj)} {σ : St} {H : Hp} {s : Shared} {e C W fI dx : Addr} {fs : List (Str × V)} {fr : Bool} {f : Str} {v : V} {A : Around} {E : Value → Shared → Prop}
theorem Jni {b : Bool} {Q : Value → Shared → Prop} (I : Inv X pins σ H s) (q : H e = some (XO e C (some dx) fr)) (qd : H dx = some (XD dx fs)) (c : XCls X.K C W fI) (n : NoAttr X.K C f) (l : fs.lookup f = some v)
  (h : ∀ u s', Inv X pins σ H s' → RelV v u → Q u s') : wpAny (model X.prog X.w) A (getAttr (.ref e) f b) Q E s:=by
 obtain ⟨ox,oD,mA,J,hl,r⟩:=Jov I.hok q qd
 obtain ⟨u,hu,ru⟩:=RelO.some_of (v:=v) (o:=mA f) (by rw [← l]; exact r f)
 exact xc_get c I.kIn J (PySem.W.findObj_own c.hd n rfl (by rw [hl,hu])) (Jlz ru) (h u _ (I.tok _) ru)
theorem Jr3 {y : V} {u : Value} {Q : Unit → Shared → Prop} (I : Inv X pins σ H s) (q : H e = some (XO e C none fr)) (c : XCls X.K C W fI) (n : NoAttr X.K C f) (ry : RelV y u)
  (h : ∀ dx s', H dx = none → dx ≠ e → Inv X pins σ (upd (upd H dx (XD dx [(f,y)])) e (XO e C (some dx) fr)) s' → Q () s') : wpAny (model X.prog X.w) A (setAttr (.ref e) f u) Q E s:=by
 obtain ⟨o,vs,he,hc,hd,hf,h0,h1⟩:=Jl8 I.hok q
 have ne : s.heap.objs.size ≠ e:=Nat.ne_of_gt (Heap.lt_size he)
 have hn : H s.heap.objs.size = none:=I.hok.fresh (Nat.le_refl _)
 refine Jo3 c I.kIn he hc hd hf n fun h' kp ke n1=>h s.heap.objs.size _ hn ne ?_
 have hD : h'.get? s.heap.objs.size ≠ none:=by obtain ⟨oD,_,_,q1,_⟩:=n1; rw [q1]; exact fun z=>nomatch z
 have qd : ∀ m : Hp,ObjOk X.prog X.w m h' s.heap.objs.size (XD s.heap.objs.size [(f,y)]):=fun m=>xd_ok n1 (fun g=>by
  by_cases z : g = f
  ·have zb : (g == f) = true:=beq_iff_eq.mpr z
   simp only [List.lookup,zb,if_pos z]; exact ry
  ·have zb : (g == f) = false:=beq_eq_false_iff_ne.mpr z
   simp only [List.lookup,zb,if_neg z]; exact True.intro) (fun g hg=>by
  by_cases z : g = f
  ·rw [z]; simp
  ·exact absurd (if_neg z) hg) (by simp)
 have un1 : Un X.fs [] H (upd (upd H s.heap.objs.size (XD s.heap.objs.size [(f,y)])) e (XO e C (some s.heap.objs.size) fr)) s.heap h':=by
  have nb : ∀ b ob,s.heap.get? b = some ob → b ≠ s.heap.objs.size:=fun b ob z=>Nat.ne_of_lt (Heap.lt_size z)
  have sm : ∀ b u', H b = some u' → u' ≠ XO e C none fr → upd (upd H s.heap.objs.size (XD s.heap.objs.size [(f,y)])) e (XO e C (some s.heap.objs.size) fr) b = some u':=fun b u' z d=>by
   rw [Jfp (fun w' : b = e=>d (by rw [w', q] at z; exact (Option.some.inj z).symm)),Jfp (Jfo z hn)]; exact z
  refine ⟨fun b ob z n _ _=>kp b ob (fun w'=>by rw [w', q] at n; cases n) z,fun b ob z n _ _=>⟨ob.slots,kp b ob (fun w'=>by rw [w', q] at n; cases n) z⟩,fun b ob z n _=>?_,fun b ob z _=>?_,fun b xs z=>sm b _ z (fun w'=>by cases w'),fun b ob u' z=>sm b _ z (fun w'=>by cases w'),fun b ps z=>⟨#[],by rw [sm b _ z (fun w'=>by cases w')]; simp⟩⟩
  ·rw [Jfp (fun w'=>by rw [w', q] at n; cases n),Jfp (nb b ob z)]; exact n
  ·by_cases w' : b = e
   ·exact ⟨_,by rw [w']; exact ke⟩
   ·exact ⟨ob,kp b ob w' z⟩
 refine I.un (t':=s.toks + 2) un1 fun b ob z=>?_
 by_cases w1 : b = e
 ·subst w1
  rw [Jfj] at z; cases z
  exact Jr2 ke hc rfl hf h0 h1
 ·rw [Jfp w1] at z
  by_cases w2 : b = s.heap.objs.size
  ·subst w2
   rw [Jfj] at z; cases z
   exact qd _
  ·rw [Jfp w2] at z
   have keep : ∀ c' u', H c' = some u' → u' ≠ XO e C none fr → upd (upd H s.heap.objs.size (XD s.heap.objs.size [(f,y)])) e (XO e C (some s.heap.objs.size) fr) c' = some u':=fun c' u' zz d=>by
    rw [Jfp (fun w' : c' = e=>d (by rw [w', q] at zz; exact (Option.some.inj zz).symm)),Jfp (Jfo zz hn)]; exact zz
   refine (I.hok b ob z).stay (fun c' v' hc' zz=>kp c' v' ?_ zz) (fun c' zz=>keep c' _ zz (fun w'=>by cases w')) fun c' xs zz=>keep c' _ zz (fun w'=>by cases w')
   rcases hc' with rfl | hc'
   ·exact w1
   ·rintro rfl; rw [q] at hc'; cases hc'
theorem Inv.xmade {us : List Value} (I : Inv X pins σ H s) : Inv X pins σ (upd H (s.heap.objs.size + 1) (XO (s.heap.objs.size + 1) C none true)) { s with heap:=(s.heap.push (Jpl us)).push (xObj C s.heap.objs.size) }:=by
 have I1:=I.kept (h':=s.heap.push (Jpl us)) (t':=s.toks) fun b u q=>Heap.get?_push_of_some _ q
 refine I1.laid (a:=s.heap.objs.size + 1) (t':=s.toks) (fun b u q=>Heap.get?_push_of_some _ q) (Nat.le_of_eq (Heap.size_push _ _)) ?_
 exact Jr2 (Heap.get?_push_at (by simp only [Heap.size_push]) rfl) rfl rfl rfl ⟨_,rfl⟩ ⟨_,rfl,fun _=>rfl⟩
end
def tFldX (K : PySem.W.Frag) (ta : TE) (f : Str) : TE:=fun σ H Q=>ta σ H fun x H1=>∃ e C W fI dx fs v fr,x = .ref e ∧ H1 e = some (XO e C (some dx) fr) ∧ H1 dx = some (XD dx fs) ∧ XCls K C W fI ∧ NoAttr K C f ∧ fs.lookup f = some v ∧ Q v H1
def sFldN (K : PySem.W.Frag) (ta tv : TE) (f : Str) : TS:=fun D σ H=>tv σ H fun y H1=>ta σ H1 fun x H2=>∃ e C W fI fr,x = .ref e ∧ H2 e = some (XO e C none fr) ∧ XCls K C W fI ∧ NoAttr K C f ∧ ∀ dx,H2 dx = none → dx ≠ e →
 D.nx σ (upd (upd H2 dx (XD dx [(f,y)])) e (XO e C (some dx) fr))
def tExc (C : Addr) (sp : Sp) (t : TA) : TE:=fun σ H Q=>t σ H fun vs H1=>vs.length ≤ 1000 ∧ ∀ e,H1 e = none → sp (.ref e :: vs) (upd H1 e (XO e C none true)) (fun v H2=>v = .non ∧ Q (.ref e) H2) E0
section
variable {X : Cx} {o e value : Expr} {f : Str} {pos pos' tpos p : Pos} {ta tv : TE} {C W fI : Addr} {fd : FuncData} {ps : List Str} {sp : Sp} {k j : Nat} {x : Str} {es : List Expr} {t : TA}
theorem Joh (he : PE X e ta) (hb : attributeBase e f X.env (eval e X.env) = eval e X.env) : PE X (.Attribute e f pos) (tFldX X.K ta f):=by
 intro pins s σ H Q I h
 refine Jo6 hb (thn (he pins s σ H _ I h) fun u s1 ⟨x,H1,I1,rx,a,C,W,fI,dx,fs,v,fr,ex,q,qd,c,n,l,k⟩=>?_)
 subst ex
 obtain rfl : u = Value.ref a:=rx
 exact Jni I1 q qd c n l fun u' s2 I2 ru=>⟨v,H1,I2,ru,k⟩
theorem Jj0 (ha : PE X o ta) (hv : PE X value tv) (hs : swapsWith value (some (.Attribute o f pos')) pos.line X.env = pure false) : PS X (.Assign [.Attribute o f pos'] value pos) (sFldN X.K ta tv f):=by
 intro pins s σ H D I h
 refine plainObj_wpAny_Assign_Attribute (thn (hv pins s σ H _ I h) fun u s1 ⟨y,H1,I1,ry,q⟩=>thn (ha pins s1 σ H1 _ I1 q) fun ov s2 ⟨x,H2,I2,rx,a,C,W,fI,fr,ex,ea,c,n,q2⟩=>?_) hs
 subst ex
 obtain rfl : ov = Value.ref a:=rx
 exact Jr3 I2 ea c n ry fun dx s3 h1 h2 I3=>⟨σ,_,I3,q2 dx h1 h2⟩
theorem Jrr {pins : List (Addr × Obj)} {σ : St} {H : Hp} {s : Shared} {Q : VK} {us : List Value} {vs : List V} (c : XCls X.K C W fI) (G : FnOk X.prog X.w X.K X.mg X.base CX0 k fI fd ps sp) (hr : Room (k + 1) X.A) (hb : Binds X.K fd ps []) (I : Inv X pins σ H s) (r : Vals vs us) (hz : vs.length ≤ 1000)
  (h : ∀ e,H e = none → sp (.ref e :: vs) (upd H e (XO e C none true)) (fun v H2=>v = .non ∧ Q (.ref e) H2) E0) : wpAny (model X.prog X.w) X.A (call (.ref C) us) (EP X pins σ Q) X.xe s:=by
 have hq:=h (s.heap.objs.size + 1) (I.hok.fresh (Nat.le_succ _))
 have I2:=Inv.xmade (C:=C) (us:=us) I
 have r2 : Vals (V.ref (s.heap.objs.size + 1) :: vs) (Value.ref (s.heap.objs.size + 1) :: us):=.cons rfl r
 have hl : (Value.ref (s.heap.objs.size + 1) :: us ++ []).length = ps.length:=by
  rw [List.append_nil,← r2.length,G.len _ _ _ _ hq]
 refine Js9 c I.kIn (by rw [← r.length]; exact Nat.le_trans hz (by decide)) (wpAny_call (codeAny_mono (G.run _ X.stack _ _ ⟨Value.ref (s.heap.objs.size + 1) :: us,[]⟩ (Value.ref (s.heap.objs.size + 1) :: us) _ _ E0 (hr.make C us [])
  (I2.env0.make C us []) (by have:=hb _ (Value.ref (s.heap.objs.size + 1) :: us) I2.kIn hl; rw [List.append_nil] at this; exact this) r2 hq) fun r s' hq'=>?_))
 cases r with
 | error e=>exact False.elim hq'
 | ok fl =>
  cases fl with
  | ret u =>
   obtain ⟨v,H', I3,rv,ev,q3⟩:=I2.after hq'
   subst ev
   exact ⟨rv,⟨V.ref (s.heap.objs.size + 1),H', I3,rfl,q3⟩⟩
  | next=>exact False.elim hq'
  | brk=>exact False.elim hq'
  | cont=>exact False.elim hq'
theorem Jhv (c : XCls X.K C W fI) (G : FnOk X.prog X.w X.K X.mg X.base CX0 k fI fd ps sp) (hr : Room j X.A) (hk : k + 1 ≤ j) (hb : Binds X.K fd ps []) (hm : X.mg x = some (.ref C)) (ha : PA X (e :: es) t) (hg : Gl X x:=by rfl)
  (hdb : (x == ("__debug__" : Str)) = false:=by decide) (he : starEach (e :: es) X.env = (false,eval e X.env) :: starEach es X.env:=by rfl) (hpl : (backTo pos (starEach es X.env)).any (·.1) = false:=by rfl) :
  PE X (.Call (.Name x p) (e :: es) [] pos) (tExc C sp t):=by
 intro pins s σ H Q I h
 refine wpAny_Call_Name_kw (Jhy I hg hm ?_ hdb)
 refine PySem.W.callWith_K (h₀:=X.base) I.ok.mod.kin c.kp (thn (ha pos pins s σ H _ I h) fun us s1 ⟨vs,H1,I1,r,z,q⟩=>⟨I1.kIn,?_⟩) he hpl
 exact Jrr c G (hr.mono hk) hb I1 r z q
end
section
variable {K : PySem.W.Frag} {C W fI : Addr} {x : Addr}
theorem xkit (c : XCls K C W fI) : PySem.W.KitX K (.ref x) (.ref C) (fun h=>∃ ox od,PySem.W.InstAt h x ox C (some od)) where
 ty:=fun _ _ _ ⟨_,_,I⟩=>I.type
 it:=fun _ _ X _=>by
  obtain ⟨nm,q,N,bs,sn,sub,ab,col,dd,k0,k1,k2,k3,k5,l⟩:=c.obj
  intro A' Q' E' s' k q
  unfold isType loadHead
  exact wpAny_bind (wpAny_loadPart (k _ _ (X _ _ l)) (wpAny_pure q))
 ne:=fun h tp dd its n sl X htp=>by
  obtain ⟨nm,q,N,bs,sn,sub,ab,col,dd,k0,k1,k2,k3,k5,l⟩:=c.obj
  refine Bool.eq_false_iff.mpr fun z=>?_
  have e : C = tp:=Value.ref.inj (beq_iff_eq.mp z)
  subst e
  have z:=congrArg (Option.map (·.cls)) ((X _ _ l).symm.trans htp)
  simp at z
 ca:=fun {prog w A E Q s} X ⟨ox,od,I⟩ kq=>by
  have hf : PySem.W.findObj K C (some od) "__class__" = some (.bind (.builtin "getset_descriptor.__get__") (.builtin "object.__class__")):=PySem.W.findObj_data (by obtain ⟨cd,hc,_⟩:=c.mro; rw [hc]; rfl) c.cl c.cg c.ct
  obtain ⟨hp,g,d,t,os⟩:=s
  have T0:=I.type (M:=model prog w)
  have T1:=PySem.W.looks_findIn (M:=model prog w) X c.ga
  have T2:=PySem.W.looks_findIn (M:=model prog w) X c.gh
  unfold getAttr? getAttrBy? getAttrBy
  refine wpAny_bind (wpAny_mkText (wpAny_bind (wpAny_attempt (wpAny_holding (wpAny_bind (T0.at (wpAny_bind (T1.at ?_))))))))
  show wpAny _ _ (getAttrByItsOwn (.ref x) _ (.ref C) _ _ _) _ _ _
  unfold getAttrByItsOwn
  refine wpAny_bind (show wpAny _ _ (typeLookup (.ref C) "__getattr__") _ _ _ from T2.at ?_)
  show wpAny _ _ ((holding _ (boundAndCalled (.builtin "BaseException.__getattribute__") (.ref x) (.str "__class__" t))).attempt >>= _) _ _ _
  unfold boundAndCalled
  rw [F.excAttr_ValueError.ga.bind]
  refine wpAny_bind (wpAny_attempt (wpAny_holding (wpAny_bind (wpAny_pure (wpAny_call (Jou (s:=⟨hp,g,d,t + 1,os⟩) c X I hf ?_ (fun z=>nomatch z)))))))
  show wpAny _ _ (holding [_] (call _ [_,.ref x,.ref C]) >>= ret) _ _ _
  refine wpAny_bind (wpAny_holding (wpAny_call (PySem.W.class_get (s:=⟨hp,g,d,t + 1,os⟩) X I c.mo (wpAny_pure ?_))))
  show wpAny _ _ (handedOut (.ref C)) _ _ _
  rw [PySem.W.handedOut_of rfl]
  exact wpAny_pure (wpAny_pure kq)
end
end L2
namespace L2
open PySem PySem.Spec PyProof.Rows
section
variable {M : Model} {A : Around} {E : Value → Shared → Prop} {s : Shared} {env : Env} {outer : List Env} {base : Heap} {L e T : Addr} {oe oT : Obj} {vs ts : Array Value} {Q : Unit → Shared → Prop}
theorem Jm2 {head : Value} {hadNext : Bool} (hfr : A.frames = some (env :: outer)) (hl : s.heap.FunFrames base (env :: outer)) (hf : env.frame = some L) (he : s.heap.get? e = some oe) (hd : oe.data = .fields vs) (hz : 1 < vs.size)
  (hQ : ∀ h' T,(∀ b o,s.heap.get? b = some o → b ∉ frs (env :: outer) → b ≠ e → h'.get? b = some o) → (∀ b o,s.heap.get? b = some o → b ≠ e → ∃ sl,h'.get? b = some { o with slots:=sl }) → s.heap.objs.size ≤ T →
   h'.get? e = some (oe.mapFields (·.setIfInBounds 1 (.ref T))) → (∃ oT ts,h'.get? T = some oT ∧ oT.data = .fields ts ∧ ts[3]? = some (rawInt L)) → Q () { s with heap:=h' }) :
  wpAny M A (do let a ← frameOf env; let pl ← entryPlaceOf L hadNext; let b ← EntryCells.newEntry head a .none (rawInt L) .none pl; setField (.ref e) 1 b) Q E s:=by
 have hen : e ∉ frs (env :: outer):=fun z=>by
  obtain ⟨_,o,ho,nf⟩:=hl.mem z
  rw [he] at ho
  cases ho
  exact nf vs hd
 refine wpAny_bind (wpAny_frameOf_fun hfr hl hf fun h1 sl1=>wpAny_bind (wpAny_entryPlaceOf fun pl hpl=>?_))
 unfold EntryCells.newEntry newFields
 have he1 : h1.get? e = some oe:=(sl1.2.1 e hen).trans he
 have nT : h1.objs.size ≠ e:=Nat.ne_of_gt (Heap.lt_size he1)
 refine wpAny_bind (wpAny_newObj_type (wpAny_setField (Heap.get?_push_of_some _ he1) hd hz (hQ _ h1.objs.size (fun b o hb hn ne=>?_) (fun b o hb ne=>?_) (Nat.le_of_eq sl1.1.symm) (Heap.get?_update_self _ (Heap.get?_push_of_some _ he1) (Obj.isFreed_of_fields (Obj.data_mapFields hd _))) ?_)) (hpl.sizeOk5 _ _ _ _ _))
 ·rw [Heap.get?_update_other _ _ (Ne.symm ne)]
  exact Heap.get?_push_of_some _ ((sl1.2.1 b hn).trans hb)
 ·obtain ⟨sl,q⟩:=sl1.2.2 b o hb
  exact ⟨sl,by rw [Heap.get?_update_other _ _ (Ne.symm ne)]; exact Heap.get?_push_of_some _ q⟩
 ·refine ⟨_,_,(Heap.get?_update_other _ _ (Ne.symm nT)).trans (Heap.get?_push_size h1 rfl),rfl,?_⟩
  first | (simp; done) | (rcases hpl with rfl | ⟨_,_,_,_,_,_,_,rfl⟩ <;> simp)
theorem Jnq (hfr : A.frames = some (env :: outer)) (hl : s.heap.FunFrames base (env :: outer)) (hf : env.frame = some L) (he : s.heap.get? e = some oe) (hd : oe.data = .fields vs) (h1 : vs[1]? = some .none)
  (hQ : ∀ h' T,(∀ b o,s.heap.get? b = some o → b ∉ frs (env :: outer) → b ≠ e → h'.get? b = some o) → (∀ b o,s.heap.get? b = some o → b ≠ e → ∃ sl,h'.get? b = some { o with slots:=sl }) → s.heap.objs.size ≤ T →
   h'.get? e = some (oe.mapFields (·.setIfInBounds 1 (.ref T))) → (∃ oT ts,h'.get? T = some oT ∧ oT.data = .fields ts ∧ ts[3]? = some (rawInt L)) → Q () { s with heap:=h' }) :
  wpAny M A (noteFrame (.ref e) env) Q E s:=by
 unfold noteFrame
 simp only [hf]
 refine wpAny_bind (wpAny_field he hd h1 ?_)
 rw [if_neg (by decide : ¬ (Value.none != Value.none) = true)]
 exact Jm2 hfr hl hf he hd (Array.getElem?_eq_some_iff.mp h1).1 hQ
theorem Jp4 (hfr : A.frames = some (env :: outer)) (hl : s.heap.FunFrames base (env :: outer)) (hf : env.frame = some L) (he : s.heap.get? e = some oe) (hd : oe.data = .fields vs) (h1 : vs[1]? = some (.ref T))
  (hT : s.heap.get? T = some oT) (hdT : oT.data = .fields ts) (h3 : ts[3]? = some .none) (ne : T ≠ e)
  (hQ : ∀ h' T', (∀ b o,s.heap.get? b = some o → b ∉ frs (env :: outer) → b ≠ e → b ≠ T → h'.get? b = some o) → (∀ b o,s.heap.get? b = some o → b ≠ e → b ≠ T → ∃ sl,h'.get? b = some { o with slots:=sl }) → s.heap.objs.size ≤ T' →
   h'.get? e = some (oe.mapFields (·.setIfInBounds 1 (.ref T'))) → (∃ oT ts,h'.get? T' = some oT ∧ oT.data = .fields ts ∧ ts[3]? = some (rawInt L)) → Q () { s with heap:=h' }) :
  wpAny M A (noteFrame (.ref e) env) Q E s:=by
 unfold noteFrame
 simp only [hf]
 refine wpAny_bind (wpAny_field he hd h1 ?_)
 rw [if_pos (by simp : (Value.ref T != Value.none) = true)]
 refine wpAny_bind (wpAny_field hT hdT h3 ?_)
 rw [if_neg (by simp [rawInt] : ¬ (Value.none == rawInt L) = true)]
 have ot : ∀ b,b ≠ T → (s.heap.update T (Obj.mapFields (·.setIfInBounds 3 Value.none))).get? b = s.heap.get? b:=fun b hb=>Heap.get?_update_other _ _ (Ne.symm hb)
 have nr : ∀ b o,s.heap.get? b = some o → (∀ ws,o.data ≠ .fields ws) → b ≠ T:=fun b o hb nf z=>by
  rw [z,hT] at hb
  cases hb
  exact nf ts hdT
 refine wpAny_bind (wpAny_setField hT hdT (Array.getElem?_eq_some_iff.mp h3).1 ?_)
 refine Jm2 (s:={ s with heap:=s.heap.update T (Obj.mapFields (·.setIfInBounds 3 Value.none)) }) hfr (hl.of_keeps fun b o hb nf=>⟨o,(ot b (nr b o hb nf)).trans hb,rfl⟩) hf ((ot e (Ne.symm ne)).trans he) hd (Array.getElem?_eq_some_iff.mp h1).1 fun h' T' k1 k2 k3 k4 k5=>?_
 refine hQ h' T' (fun b o hb hn h1 h2=>k1 b o ((ot b h2).trans hb) hn h1) (fun b o hb h1 h2=>k2 b o ((ot b h2).trans hb) h1) ?_ k4 k5
 have z : (s.heap.update T (Obj.mapFields (·.setIfInBounds 3 Value.none))).objs.size = s.heap.objs.size:=Heap.size_after_update ..
 rw [← z]; exact k3
end
def Flt (X : Cx) (pins : List (Addr × Obj)) (H : Hp) (h : Heap) (e : Addr) (fl : Value) : Prop :=
 ∃ oe vs T oT ts,h.get? e = some oe ∧ oe.data = .fields vs ∧ vs[1]? = some (.ref T) ∧ H T = none ∧ h.get? T = some oT ∧ oT.data = .fields ts ∧ ts[3]? = some fl ∧ X.s₀.heap.objs.size ≤ T ∧ ∀ p ∈ X.pn ++ pins,p.1 ≠ T
def Jo4 (X : Cx) : Prop:=X.stack = X.env :: X.outer ∧ X.env.frame = some X.env.locals
section
variable {X : Cx} {pins : List (Addr × Obj)} {σ : St} {H : Hp} {s : Shared} {e C : Addr} {od : Option Addr} {fr fr' : Bool} {A : Around} {M : Model} {E : Value → Shared → Prop} {Q : Unit → Shared → Prop} {fl : Value} {h' : Heap}
theorem Inv.freeOf (I : Inv X pins σ H s) {b : Addr} {o : Obj} {ts : Array Value} (hb : s.heap.get? b = some o) (hd : o.data = .fields ts) : b ≠ X.env.locals ∧ ∀ x c,X.env.cells.lookup x = some c → c ≠ b:=by
 refine ⟨fun z=>?_,fun x c e z=>?_⟩
 ·obtain ⟨m,⟨o', es,ep,ho', hd', _⟩,_⟩:=I.loc
  rw [z,ho'] at hb; cases hb; rw [hd'] at hd; cases hd
 ·obtain ⟨v,o', ho', hd'⟩:=I.cell x c e
  rw [z,hb] at ho'; cases ho'; rw [hd] at hd'; cases hd'
theorem Inv.fly {ch : List Addr} (I : Inv X pins σ H s) (q : H e = some (XO e C od fr)) (hch : ∀ b ∈ ch,X.s₀.heap.objs.size ≤ b ∧ H b = none ∧ (∃ o ts,s.heap.get? b = some o ∧ o.data = .fields ts) ∧ ∀ p ∈ X.pn ++ pins,p.1 ≠ b)
  (k : ∀ b o,s.heap.get? b = some o → b ∉ frs X.stack → b ≠ e → b ∉ ch → h'.get? b = some o) (ks : ∀ b o,s.heap.get? b = some o → b ≠ e → b ∉ ch → ∃ sl,h'.get? b = some { o with slots:=sl })
  (new : ObjOk X.prog X.w (upd H e (XO e C od fr')) h' e (XO e C od fr')) : Inv X pins σ (upd H e (XO e C od fr')) { s with heap:=h' }:=by
 have ne : ∀ b u,H b = some u → u ≠ XO e C od fr → b ≠ e:=fun b u z d w'=>d (by rw [w', q] at z; exact (Option.some.inj z).symm)
 have nn : ∀ b,H b = none → b ≠ e:=fun b z w'=>by rw [w', q] at z; cases z
 have u : Un (frs X.stack) ch H (upd H e (XO e C od fr')) s.heap h':=by
  refine ⟨fun b o hb n hs hc=>k b o hb hs (nn b n) hc,fun b o hb n _ hc=>ks b o hb (nn b n) hc,fun b o _ n _=>by rw [Jfp (nn b n)]; exact n,fun b o hb hc=>?_,fun b xs z=>?_,fun b o u z=>?_,fun b ps z=>⟨#[],?_⟩⟩
  ·by_cases w' : b = e
   ·rw [w']; exact new.2.1
   ·obtain ⟨sl,z⟩:=ks b o hb w' hc
    exact ⟨_,z⟩
  ·rw [Jfp (ne b _ z (fun w'=>by cases w'))]; exact z
  ·rw [Jfp (ne b _ z (fun w'=>by cases w'))]; exact z
  ·rw [Jfp (ne b _ z (fun w'=>by cases w')),z]; simp
 refine I.call (g':=s.gens) (d':=s.drawn) (t':=s.toks) (ch:=ch) u (fun b o z=>?_) I.bare fun b hb=>?_
 ·by_cases w' : b = e
  ·subst w'
   rw [Jfj] at z; cases z
   exact new
  ·rw [Jfp w'] at z
   refine (I.hok b o z).stay (fun c v hc zz=>k c v zz ?_ ?_ ?_) (fun c zz=>by rw [Jfp (ne c _ zz (fun w'=>by cases w'))]; exact zz) fun c xs zz=>by rw [Jfp (ne c _ zz (fun w'=>by cases w'))]; exact zz
   ·intro hs
    have:=I.stkFree c hs
    rcases hc with rfl | hc
    ·rw [this] at z; cases z
    ·rw [this] at hc; cases hc
   ·rcases hc with rfl | hc
    ·exact w'
    ·exact ne c _ hc (fun w'=>by cases w')
   ·intro hb
    have:=(hch c hb).2.1
    rcases hc with rfl | hc
    ·rw [this] at z; cases z
    ·rw [this] at hc; cases hc
 ·obtain ⟨h1,_,⟨o,ts,ho,hd⟩,h4⟩:=hch b hb
  exact ⟨.inr h1,(I.freeOf ho hd).1,(I.freeOf ho hd).2,h4⟩
theorem Jof (I : Inv X pins σ H s) (hs : Jo4 X) (hA : A.frames = some X.stack) (q : H e = some (XO e C od fr)) (hfl : fr = true ∨ Flt X pins H s.heap e .none)
  (h : ∀ s', Inv X pins σ (upd H e (XO e C od false)) s' → Flt X pins (upd H e (XO e C od false)) s'.heap e (rawInt X.env.locals) → Q () s') : wpAny M A (noteFrame (.ref e) X.env) Q E s:=by
 obtain ⟨o,vs,he,hc,hd,hf,⟨t0,h0⟩,y,h1,hy⟩:=Jl8 I.hok q
 have hA' : A.frames = some (X.env :: X.outer):=by rw [hA,hs.1]
 have FF : s.heap.FunFrames X.base (X.env :: X.outer):=by rw [← hs.1]; exact I.stack
 have sub : ∀ b,b ∉ frs X.stack → b ∉ frs (X.env :: X.outer):=fun b z w'=>z (by rw [hs.1]; exact w')
 have new : ∀ {h' : Heap} {T : Addr},h'.get? e = some (o.mapFields (·.setIfInBounds 1 (.ref T))) → ObjOk X.prog X.w (upd H e (XO e C od false)) h' e (XO e C od false):=fun {h' T} z=>by
  have hz : 1 < vs.size:=(Array.getElem?_eq_some_iff.mp h1).1
  refine Jr2 z ((Obj.cls_mapFields _ _).trans hc) ?_ (Obj.data_mapFields hf _) ⟨t0,by rw [Array.getElem?_setIfInBounds_ne (by decide)]; exact h0⟩ ⟨.ref T,by simp [hz],fun z=>nomatch z⟩
  obtain ⟨_,_,dt,_⟩:=o
  cases dt <;> first | exact hd | cases hf
 have fin : ∀ {h' : Heap} {T : Addr},Inv X pins σ (upd H e (XO e C od false)) { s with heap:=h' } → s.heap.objs.size ≤ T → h'.get? e = some (o.mapFields (·.setIfInBounds 1 (.ref T))) → (∃ oT ts,h'.get? T = some oT ∧ oT.data = .fields ts ∧ ts[3]? = some (rawInt X.env.locals)) → Q () { s with heap:=h' }:=fun {h' T} J k3 k4 ⟨oT,ts,k5,k6,k7⟩=>by
  have hz : 1 < vs.size:=(Array.getElem?_eq_some_iff.mp h1).1
  refine h _ J ⟨_,_,T,oT,ts,k4,Obj.data_mapFields hf _,by simp [hz],?_,k5,k6,k7,Nat.le_trans I.sz k3,fun p hp z=>?_⟩
  ·rw [Jfp (fun z=>absurd (Heap.lt_size he) (by rw [← z]; exact Nat.not_lt.mpr k3))]
   exact I.hok.fresh k3
  ·obtain ⟨z1,_⟩:=I.pin p hp
   exact absurd (Heap.lt_size z1) (by rw [z]; exact Nat.not_lt.mpr k3)
 by_cases hfr : y = .none
 ·subst hfr
  refine Jnq hA' FF hs.2 he hf h1 fun h' T k1 k2 k3 k4 k5=>fin (I.fly (ch:=[]) q (fun b z=>absurd z (by simp)) (fun b o hb hn ne _=>k1 b o hb (sub b hn) ne) (fun b o hb ne _=>k2 b o hb ne) (new k4)) k3 k4 k5
 ·rcases hfl with z | ⟨oe,ws,T,oT,ts,z1,z2,z3,z4,z5,z6,z7,z8,z9⟩
  ·exact absurd (hy z) hfr
  ·rw [he] at z1; cases z1
   rw [hf] at z2; cases z2
   have ne : T ≠ e:=fun w'=>by rw [w', q] at z4; cases z4
   refine Jp4 hA' FF hs.2 he hf z3 z5 z6 z7 ne fun h' T' k1 k2 k3 k4 k5=>fin (I.fly (ch:=[T]) q (fun b hb=>?_) (fun b o hb hn ne hc=>k1 b o hb (sub b hn) ne (by simpa using hc)) (fun b o hb ne hc=>k2 b o hb ne (by simpa using hc)) (new k4)) k3 k4 k5
   obtain rfl : b = T:=by simpa using hb
   exact ⟨z8,z4,⟨oT,ts,z5,z6⟩,z9⟩
theorem Jk0 (I : Inv X pins σ H s) (q : H e = some (XO e C od fr)) (hfl : Flt X pins H s.heap e fl) (h : ∀ s', Inv X pins σ H s' → Flt X pins H s'.heap e .none → Q () s') : wpAny M A (setFlight (.ref e) none) Q E s:=by
 obtain ⟨oe,vs,T,oT,ts,z1,z2,z3,z4,z5,z6,z7,z8,z9⟩:=hfl
 have hz : 3 < ts.size:=(Array.getElem?_eq_some_iff.mp z7).1
 have ne : T ≠ e:=fun w'=>by rw [w', q] at z4; cases z4
 have ot : ∀ b,b ≠ T → (s.heap.update T (Obj.mapFields (·.setIfInBounds 3 Value.none))).get? b = s.heap.get? b:=fun b hb=>Heap.get?_update_other _ _ (Ne.symm hb)
 refine wpAny_setFlight_none z1 z2 z3 z5 z6 hz (h _ (I.turned (it:=T) (t':=s.toks) (fun b o hb z=>(ot b hb).trans z) z4 (I.freeOf z5 z6).1 (.inr z8) (I.freeOf z5 z6).2 z9) ?_)
 exact ⟨oe,vs,T,_,_,(ot e (Ne.symm ne)).trans z1,z2,z3,z4,Heap.get?_update_self _ z5 (Obj.isFreed_of_fields (Obj.data_mapFields z6 _)),Obj.data_mapFields z6 _,by simp [hz],z8,z9⟩
end
def CXX (P : Program) (w : World) : CXT:=fun outer H s E ev s'=>∃ e C dx H', ev = .ref e ∧ s'.os = s.os ∧ AllBare s'.gens ∧ Un (frs outer) [] H H' s.heap s'.heap ∧ HOk P w H' s'.heap ∧ H' e = some (XO e C (some dx) false) ∧
 (∃ oe vs T oT ts,s'.heap.get? e = some oe ∧ oe.data = .fields vs ∧ vs[1]? = some (.ref T) ∧ H' T = none ∧ s'.heap.get? T = some oT ∧ oT.data = .fields ts ∧ ts[3]? = some .none ∧ s.heap.objs.size ≤ T) ∧ E (.ref C) (some e) H'
def Jkb (X : Cx) (R : St → XK) : Prop:=∀ pins σ H s e C dx fr,Inv X pins σ H s → H e = some (XO e C (some dx) fr) → (fr = true ∨ Flt X pins H s.heap e .none) → R σ (.ref C) (some e) (upd H e (XO e C (some dx) false)) → X.xe (.ref e) s
theorem Jh9 {P : Program} {w : World} {K : PySem.W.Frag} {mg : Str → Option Value} {base : Heap} {N : List Str} {qual : Str} {scope : Scope} {f : Addr} {cd : Value} {A : Around} {outer : List Env} {s : Shared} {H : Hp} {E : XK} :
  Jkb (Jkw (CXX P w) P w K mg base N qual scope f cd A outer s H E) (fun _=>E):=by
 intro pins σ H1 s1 e C dx fr I q hfl hE
 show wpAny _ _ (leaving _ _) _ _ _
 unfold leaving
 refine wpAny_bind (Jof I ⟨rfl,rfl⟩ I.ok.frames q hfl fun s2 I2 f2=>Jk0 I2 Jfj f2 fun s3 I3 f3=>?_)
 obtain ⟨oe,vs,T,oT,ts,z1,z2,z3,z4,z5,z6,z7,z8,_⟩:=f3
 exact ⟨e,C,dx,_,rfl,I3.os,I3.bare,I3.base,I3.hok,Jfj,⟨oe,vs,T,oT,ts,z1,z2,z3,z4,z5,z6,z7,z8⟩,hE⟩
theorem upd_id {H : Hp} {a : Addr} {o : HO} (h : H a = some o) : upd H a o = H:=by
 funext b
 unfold upd
 split
 ·rename_i z; rw [z,h]
 ·rfl
section
variable {X : Cx} {pins : List (Addr × Obj)} {σ : St} {H : Hp} {s s' : Shared} {R : St → XK} {ev : Value}
theorem Jow (hw : Jkb X R) (I : Inv X pins σ H s) (h : CXX X.prog X.w X.stack H s (R σ) ev s') : X.xe ev s':=by
 obtain ⟨e,C,dx,H', rfl,ho,hg,un,hok,q,⟨oe,vs,T,oT,ts,z1,z2,z3,z4,z5,z6,z7,z8⟩,hR⟩:=h
 have I' : Inv X pins σ H' s':=I.call' (ch:=[]) ho un hok hg fun b z=>absurd z (by simp)
 refine hw pins σ H' s' e C dx false I' q (.inr ⟨oe,vs,T,oT,ts,z1,z2,z3,z4,z5,z6,z7,Nat.le_trans I.sz z8,fun p hp z=>?_⟩) (by rw [upd_id q]; exact hR)
 obtain ⟨y1,_⟩:=I.pin p hp
 exact absurd (Heap.lt_size y1) (by rw [z]; exact Nat.not_lt.mpr z8)
end
theorem FnOk.calm {P : Program} {w : World} {K : PySem.W.Frag} {mg : Str → Option Value} {base : Heap} {k : Nat} {f : Addr} {fd : FuncData} {ps : List Str} {sp : Sp} (G : FnOk P w K mg base (CXX P w) k f fd ps sp) : FnOk P w K mg base CX0 k f fd ps (fun vs H Q _=>sp vs H Q E0) :=
 ⟨fun vs H Q _ h=>G.len vs H Q E0 h,fun A outer s H args us vs Q E hr he hb hv hs=>codeAny_mono (G.run A outer s H args us vs Q E0 hr he hb hv hs) fun r s' hq=>by
  cases r with
  | error e=>obtain ⟨_,_,_,_,_,_,_,_,_,_,_,z⟩:=hq; exact z.elim
  | ok fl=>cases fl <;> exact hq⟩
theorem Fun.okX {P : Program} {w : World} {K : PySem.W.Frag} {mg : Str → Option Value} {base : Heap} {x qual : Str} {st : Stmt} {f : Addr} {fd : FuncData} {N ps : List Str} {k : Nat} {sp : Sp} (F : Fun K x qual st f fd) (S : Jfx N ps (Jfr st)) (len : ∀ vs H Q E,sp vs H Q E → vs.length = ps.length)
  (hbody : ∀ (cdv : Value) (A : Around) (outer : List Env) (s : Shared) (H : Hp) (vs : List V) (Q : VK) (E : XK),Room k (A.deeper (envOfC qual (Jfr st) s.heap.objs.size f cdv)) → sp vs H Q E →
   ∃ t,PSs (Jkw (CXX P w) P w K mg base N qual (Jfr st) f cdv A outer s H E) (Jh5 st) t ∧ t { nx:=fun _ H'=>Q .non H', rt:=Q } (start N vs) H) : FnOk P w K mg base (CXX P w) (k + 1) f fd ps sp:=by
 obtain ⟨oc,od,kV,doc,pm,an,cdv,ct,osl,rfl,lk,hcd⟩:=F.ex
 exact fn_of lk hcd S len fun A outer s H vs Q E hr hsp=>hbody cdv A outer s H vs Q E hr hsp
def tCallX (sp : Sp) (R : St → XK) (t : TA) : TE:=fun σ H Q=>t σ H fun vs H1=>sp vs H1 Q (R σ)
def tMakeX (C : Addr) (sp : Sp) (R : St → XK) (t : TA) : TE:=fun σ H Q=>t σ H fun vs H1=>∀ x dx,H1 x = none → H1 dx = none → dx ≠ x →
 sp (.ref x :: vs) (upd (upd H1 dx (.own x)) x (.ins C dx [])) (fun v H2=>v = .non ∧ Q (.ref x) H2) (R σ)
section
variable {X : Cx} {k j : Nat} {f C : Addr} {fd : FuncData} {ps : List Str} {sp : Sp} {R : St → XK} {x m : Str} {p pos apos : Pos} {e o : Expr} {es : List Expr} {ta : TE} {t : TA}
theorem Jrs {pins : List (Addr × Obj)} {σ : St} {H : Hp} {s : Shared} {Q : VK} {us : List Value} {vs : List V} (G : FnOk X.prog X.w X.K X.mg X.base (CXX X.prog X.w) k f fd ps sp) (hw : Jkb X R) (hr : Room k X.A) (hb : Binds X.K fd ps [])
  (I : Inv X pins σ H s) (r : Vals vs us) (h : sp vs H Q (R σ)) : wpAny (model X.prog X.w) X.A (call (.ref f) us) (EP X pins σ Q) X.xe s:=by
 have hl : (us ++ []).length = ps.length:=by rw [List.append_nil,← r.length,G.len _ _ _ _ h]
 have hb':=hb s us I.kIn hl
 rw [List.append_nil] at hb'
 refine wpAny_call (codeAny_mono (G.run X.A X.stack s H ⟨us,[]⟩ us vs Q (R σ) hr I.env0 hb' r h) fun r s' hq=>?_)
 cases r with
 | error e=>exact Jow hw I hq
 | ok fl =>
  cases fl with
  | ret u=>exact I.after hq
  | next=>exact False.elim hq
  | brk=>exact False.elim hq
  | cont=>exact False.elim hq
theorem Jir {st : Stmt} (F : FT X.K X.mg x st ps f fd) (G : FnOk X.prog X.w X.K X.mg X.base (CXX X.prog X.w) k f fd ps sp) (hw : Jkb X R) (hr : Room j X.A) (hk : k ≤ j) (ha : PA X (e :: es) t) (hg : Gl X x:=by rfl)
  (hdb : (x == ("__debug__" : Str)) = false:=by decide) (he : starEach (e :: es) X.env = (false,eval e X.env) :: starEach es X.env:=by rfl) (hpl : (backTo pos (starEach es X.env)).any (·.1) = false:=by rfl) :
  PE X (.Call (.Name x p) (e :: es) [] pos) (tCallX sp R t):=by
 intro pins s σ H Q I h
 refine wpAny_Call_Name_kw (Jhy I hg F.mgx ?_ hdb)
 refine PySem.W.callWith_K (h₀:=X.base) I.ok.mod.kin F.fn.kp (thn (ha pos pins s σ H _ I h) fun us s1 ⟨vs,H1,I1,r,q⟩=>⟨I1.kIn,?_⟩) he hpl
 exact Jrs G hw (hr.mono hk) F.bd I1 r q
theorem Jqb (Mk' : Mk X.K C f) (G : FnOk X.prog X.w X.K X.mg X.base (CXX X.prog X.w) k f fd ps sp) (hw : Jkb X R) (hr : Room j X.A) (hk : k + 1 ≤ j) (hb : Binds X.K fd ps []) (hm : X.mg x = some (.ref C)) (ha : PA X (e :: es) t) (hg : Gl X x:=by rfl)
  (hdb : (x == ("__debug__" : Str)) = false:=by decide) (he : starEach (e :: es) X.env = (false,eval e X.env) :: starEach es X.env:=by rfl) (hpl : (backTo pos (starEach es X.env)).any (·.1) = false:=by rfl) :
  PE X (.Call (.Name x p) (e :: es) [] pos) (tMakeX C sp R t):=by
 intro pins s σ H Q I h
 refine wpAny_Call_Name_kw (Jhy I hg hm ?_ hdb)
 refine PySem.W.callWith_K (h₀:=X.base) I.ok.mod.kin Mk'.kp (thn (ha pos pins s σ H _ I h) fun us s1 ⟨vs,H1,I1,r,q⟩=>⟨I1.kIn,?_⟩) he hpl
 have hq:=q (s1.heap.objs.size + 1) s1.heap.objs.size (I1.hok.fresh (Nat.le_succ _)) (I1.hok.fresh (Nat.le_refl _)) (Nat.ne_of_lt (Nat.lt_succ_self _))
 have I2:=Inv.made (C:=C) I1
 have r2 : Vals (V.ref (s1.heap.objs.size + 1) :: vs) (Value.ref (s1.heap.objs.size + 1) :: us):=.cons rfl r
 have hl : (Value.ref (s1.heap.objs.size + 1) :: us ++ []).length = ps.length:=by
  rw [List.append_nil,← r2.length,G.len _ _ _ _ hq]
 refine wpAny_call (Jn0 (f:=f) I1.kIn Mk'.makes Mk'.init (beq_iff_eq.mp Mk'.fn) (codeAny_mono (G.run _ X.stack _ _ ⟨Value.ref (s1.heap.objs.size + 1) :: us,[]⟩ (Value.ref (s1.heap.objs.size + 1) :: us) _ _ (R σ) ((hr.mono hk).make C us [])
  (I2.env0.make C us []) (by have:=hb _ (Value.ref (s1.heap.objs.size + 1) :: us) I2.kIn hl; rw [List.append_nil] at this; exact this) r2 hq) fun r s' hq'=>?_))
 cases r with
 | error e=>exact Jow hw I2 hq'
 | ok fl =>
  cases fl with
  | ret u =>
   obtain ⟨v,H', I3,rv,ev,q3⟩:=I2.after hq'
   subst ev
   exact ⟨rv,⟨V.ref (s1.heap.objs.size + 1),H', I3,rfl,q3⟩⟩
  | next=>exact False.elim hq'
  | brk=>exact False.elim hq'
  | cont=>exact False.elim hq'
end
end L2
namespace L2
open PySem PySem.Spec PyProof.Rows
def Jql (K : PySem.W.Frag) (R : St → XK) (te : TE) : TS:=fun _ σ H=>te σ H fun v H1=>∃ e C W fI dx,v = .ref e ∧ H1 e = some (XO e C (some dx) true) ∧ XCls K C W fI ∧ R σ (.ref C) (some e) (upd H1 e (XO e C (some dx) false))
section
variable {X : Cx} {R : St → XK} {x : Expr} {pos : Pos} {te : TE}
theorem Jh3 (hw : Jkb X R) (hc : X.calm = true) (hx : PE X x te) : PS X (.Raise (some x) none pos) (Jql X.K R te):=by
 intro pins s σ H D I h
 rw [arm_exec_Raise]
 refine wpAny_bind (wpAny_standAt ?_)
 show wpAny _ _ (raiseStmt X.env (some (do let v ← eval x X.env; standAt pos; pure v)) none) _ _ _
 unfold raiseStmt
 refine wpAny_bind (wpAny_bind (thn (hx pins s σ H _ I h) fun u s1 ⟨y,H1,I1,ry,e,C,W,fI,dx,ey,q,c,k⟩=>wpAny_bind (wpAny_standAt (wpAny_pure ?_))))
 subst ey
 obtain rfl : u = Value.ref e:=ry
 obtain ⟨o,vs,he,hcl,hd,hf,h0,y,h1,hy⟩:=Jl8 I1.hok q
 have hy':=hy rfl
 subst hy'
 have fin : X.xe (.ref e) s1:=hw pins σ H1 s1 e C dx true I1 q (.inl rfl) k
 have hh : X.A.handled = none:=I.ok.hd hc
 obtain ⟨nm,qn,N,bs,sn,sub,ab,col,dd,k0,k1,k2,k3,k5,l⟩:=c.obj
 have kC:=I1.kIn _ _ l
 have hcB : (Value.ref C :: .ref W :: VEm).contains (.type "BaseException") = true:=by simp
 obtain ⟨oc,odi,oda,osl⟩:=o
 dsimp only at hcl hd hf
 subst hcl hd hf
 obtain ⟨hp,g,d,tk,os⟩:=s1
 repeat (first | with_reducible refine wpAny_loadPart_at he ?_ | with_reducible refine wpAny_loadPart_at kC ?_ | (with_reducible refine wpAny_isSubtype_exc kC ?_; rw [hcB]) | with_reducible refine wpAny_field he rfl h1 ?_ | wp_step)
 exact wpAny_raiseNew_none hh fin
end
structure Jox (K : PySem.W.Frag) (C : Addr) : Prop where
 obj : ∃ (dd : Option Addr) (cd : ClassData) (sl : Array (Option Value)),K.lookup C = some ⟨.type "type",dd,.cls cd,sl⟩
 mb : PySem.W.mroIn K C (.type "BaseException") = some true
theorem XCls.e {K : PySem.W.Frag} {C W fI : Addr} (c : XCls K C W fI) : Jox K C:=by
 obtain ⟨nm,qn,N,bs,sn,sub,ab,col,dd,k0,k1,k2,k3,k5,l⟩:=c.obj
 exact ⟨⟨_,_,_,l⟩,c.mb⟩
section
variable {prog : Program} {w : World} {A : Around} {E : Value → Shared → Prop} {s : Shared} {K : PySem.W.Frag} {e C C0 : Addr} {oe : Obj} {b : Bool}
theorem Jnp {Q : Bool → Shared → Prop} (X : K.In s.heap) (c0 : Jox K C0) (he : s.heap.get? e = some oe) (hc : oe.cls = .ref C) (hm : PySem.W.mroIn K C (.ref C0) = some b) (q : Q b s) : wpAny (model prog w) A (excMatches (.ref e) (.ref C0)) Q E s:=by
 obtain ⟨dd,cd,sl,l⟩:=c0.obj
 have k0:=X _ _ l
 have f0:=tc_notTuple
 have m1:=PySem.W.looks_mroIn (M:=model prog w) X c0.mb
 have m2:=PySem.W.looks_mroIn (M:=model prog w) X hm
 obtain ⟨oc,odi,oda,osl⟩:=oe
 dsimp only at hc
 subst hc
 obtain ⟨hp,g,d,tk,os⟩:=s
 unfold excMatches
 repeat (first | with_reducible refine wpAny_loadPart_at he ?_ | with_reducible refine wpAny_loadPart_at k0 ?_ | with_reducible refine m1.at ?_ | with_reducible refine m2.at ?_ | wp_step)
 cases b <;> (repeat wp_step) <;> exact q
end
def Cx.caught (X : Cx) (e : Addr) : Cx:={ X with A:=X.A.mark (some (.ref e)),calm:=false,xe:=fun _ _=>False }
def Cx.tried (X : Cx) (pins : List (Addr × Obj)) (R : St → XK) : Cx :=
 { X with pn:=X.pn ++ pins,xe:=fun ev s'=>∃ σ H e C dx fr,ev = .ref e ∧ Inv X pins σ H s' ∧ H e = some (XO e C (some dx) fr) ∧ (fr = true ∨ Flt X pins H s'.heap e .none) ∧ R σ (.ref C) (some e) (upd H e (XO e C (some dx) false)) }
section
variable {X : Cx} {pins pins' : List (Addr × Obj)} {σ : St} {H : Hp} {s : Shared} {R : St → XK} {e : Addr}
theorem Inv.caught (I : Inv X pins σ H s) (e : Addr) : Inv (X.caught e) pins σ H s :=
 ⟨⟨I.ok.mod,I.ok.kind,I.ok.glob,I.ok.blt,I.ok.above,I.ok.inj,I.ok.has,I.ok.cab,(fun z=>nomatch z),I.ok.frames,I.ok.stk,I.ok.exf,I.ok.bs,I.ok.bsz,I.ok.noex,I.ok.exfs,I.ok.funs,I.ok.frf⟩,I.os,I.bare,I.base,I.loc,I.cell,I.free,I.freeC,I.pin,I.hok,I.len⟩
theorem Inv.uncaught (ok : X.Ok) (I : Inv (X.caught e) pins σ H s) : Inv X pins σ H s:=⟨ok,I.os,I.bare,I.base,I.loc,I.cell,I.free,I.freeC,I.pin,I.hok,I.len⟩
theorem Inv.tried (I : Inv X pins σ H s) (R : St → XK) : Inv (X.tried pins R) [] σ H s :=
 ⟨⟨I.ok.mod,I.ok.kind,I.ok.glob,I.ok.blt,I.ok.above,I.ok.inj,I.ok.has,I.ok.cab,I.ok.hd,I.ok.frames,I.ok.stk,I.ok.exf,I.ok.bs,I.ok.bsz,I.ok.noex,I.ok.exfs,I.ok.funs,I.ok.frf⟩,I.os,I.bare,I.base,I.loc,I.cell,I.free,I.freeC,(fun p hp=>I.pin p (by rw [List.append_nil] at hp; exact hp)),I.hok,I.len⟩
theorem Inv.untried (I : Inv (X.tried pins R) pins' σ H s) : Inv X pins σ H s :=
 ⟨⟨I.ok.mod,I.ok.kind,I.ok.glob,I.ok.blt,I.ok.above,I.ok.inj,I.ok.has,I.ok.cab,I.ok.hd,I.ok.frames,I.ok.stk,I.ok.exf,I.ok.bs,I.ok.bsz,I.ok.noex,I.ok.exfs,I.ok.funs,I.ok.frf⟩,I.os,I.bare,I.base,I.loc,I.cell,I.free,I.freeC,(fun p hp=>I.pin p (List.mem_append_left _ hp)),I.hok,I.len⟩
theorem xw_try : Jkb (X.tried pins R) R:=fun pins' σ H s e C dx fr I q hfl hR=>⟨σ,H,e,C,dx,fr,rfl,I.untried,q,hfl.imp id fun ⟨oe,vs,T,oT,ts,z1,z2,z3,z4,z5,z6,z7,z8,z9⟩=>⟨oe,vs,T,oT,ts,z1,z2,z3,z4,z5,z6,z7,z8,fun p hp=>z9 p (List.mem_append_left _ hp)⟩,hR⟩
theorem SP.map {X Y : Cx} {pl pm : List (Addr × Obj)} {D : Ends} {f : Flow} {s' : Shared} (hI : ∀ σ H,Inv X pl σ H s' → Inv Y pm σ H s') (h : SP X pl D f s') : SP Y pm D f s':=by
 cases f with
 | next=>obtain ⟨σ', H', I,q⟩:=h; exact ⟨σ', H', hI _ _ I,q⟩
 | brk=>obtain ⟨σ', H', I,q⟩:=h; exact ⟨σ', H', hI _ _ I,q⟩
 | cont=>obtain ⟨σ', H', I,q⟩:=h; exact ⟨σ', H', hI _ _ I,q⟩
 | ret u=>obtain ⟨v,σ', H', I,r,q⟩:=h; exact ⟨v,σ', H', hI _ _ I,r,q⟩
theorem Jpj {M : Model} {A : Around} {E : Value → Shared → Prop} {i : Nat} {n : Str} {pos : Pos} {Q : Unit → Shared → Prop} (I : Inv X pins σ H s) (hN : X.N.Nodup) (hi : X.N[i]? = some n) (hk : X.env.scope.names.lookup n = some .local)
  (h : ∀ s', Inv X pins (σ.set i none) H s' → Q () s') : wpAny M A (do bindName X.env n .none; unbindBehindTheSuite X.env n pos) Q E s:=by
 obtain ⟨m,hn,hl⟩:=id I.loc
 have hcls : (X.env.scope.kind == .class || (X.env.scope.kind == .module && X.env.locals != X.env.globals)) = false:=by rw [I.ok.kind]; rfl
 have cne:=I.cne
 refine wpAny_nameGoes_keeps hk hn hcls fun h' v hn' sb=>h _ ?_
 obtain ⟨oL,_,_,hoL,_⟩:=id hn
 have lo : ∀ b o,X.s₀.heap.get? b = some o → b ≠ X.env.locals:=fun b o z=>Nat.ne_of_lt (Nat.lt_of_lt_of_le (Heap.lt_size z) I.ok.above)
 refine ⟨I.ok,I.os,I.bare,⟨fun b o z n hb hx=>(sb.2 b (lo b o z)).trans (I.base.keep b o z n hb hx),fun b o z n hb hx=>?_,I.base.free,fun b o z hx=>?_,I.base.tups,I.base.frzs,I.base.tbls⟩,⟨_,hn', fun j y v' e1 e2 e3=>?_⟩,fun y c z=>?_,I.free,I.freeC,fun p hp=>?_,fun b ob z=>?_,by simpa using I.len⟩
 ·obtain ⟨sl,z1⟩:=I.base.slot b o z n hb hx
  exact ⟨sl,(sb.2 b (lo b o z)).trans z1⟩
 ·obtain ⟨o', z1⟩:=I.base.there b o z hx
  exact ⟨o', (sb.2 b (lo b o z)).trans z1⟩
 ·have hj : j ≠ i:=fun z=>by
   subst z
   have : j < σ.length:=by rw [I.len]; exact (List.getElem?_eq_some_iff.mp hi).1
   rw [List.getElem?_set_self this] at e2
   cases e2
  rw [List.getElem?_set_ne (Ne.symm hj)] at e2
  obtain ⟨u', r', q⟩:=hl j y v' e1 e2 e3
  refine ⟨u', r', ?_⟩
  rcases q with ⟨k,z⟩ | ⟨k,c,z,zz⟩
  ·refine .inl ⟨k,?_⟩
   have : y ≠ n:=fun z=>hj (Jl0 hN e1 (z ▸ hi))
   show (if y = n then v else m y) = some u'
   rw [if_neg this]; exact z
  ·exact .inr ⟨k,c,z,zz.sameBut sb (cne y c z)⟩
 ·obtain ⟨w', zz⟩:=I.cell y c z
  exact ⟨w', zz.sameBut sb (cne y c z)⟩
 ·obtain ⟨z,n,ne,nf,d⟩:=I.pin p hp
  exact ⟨(sb.2 p.1 ne).trans z,n,ne,nf,d⟩
 ·refine (I.hok b ob z).stay (fun c w' hc q=>(sb.2 c ?_).trans q) (fun _ q=>q) fun _ _ q=>q
  rintro rfl
  rcases hc with rfl | hc
  ·rw [I.free] at z; cases z
  ·rw [I.free] at hc; cases hc
end
abbrev TH:=Ends → St → Value → Option Addr → Hp → Prop
def PH (X : Cx) (hs : List ExceptHandler) (th : TH) : Prop :=
 ∀ (pins : List (Addr × Obj)) (s : Shared) (σ : St) (H : Hp) (D : Ends) (e C dx : Addr),Inv X pins σ H s → H e = some (XO e C (some dx) false) → Flt X pins H s.heap e .none → th D σ (.ref C) (some e) H →
  wpAny (model X.prog X.w) X.A (handleBy (.ref e) X.env hs) (SP X pins D) X.xe s
def hNil : TH:=fun _ _ _ _ _=>False
theorem ph_nil {X : Cx} : PH X [] hNil:=fun _ _ _ _ _ _ _ _ _ _ _ h=>h.elim
def Ends.less (D : Ends) (i : Nat) : Ends:=⟨fun σ H=>D.nx (σ.set i none) H,D.rt,fun σ H=>D.bk (σ.set i none) H,fun σ H=>D.ct (σ.set i none) H⟩
def hAs (K : PySem.W.Frag) (C0 : Addr) (i : Nat) (ts : Addr → TS) (th : TH) : TH:=fun D σ c eo H=>∃ e C b,c = .ref C ∧ eo = some e ∧ PySem.W.mroIn K C (.ref C0) = some b ∧ if b = true then ts e (D.less i) (σ.set i (some (.ref e))) H else th D σ c eo H
section
variable {X : Cx} {x n : Str} {np pos : Pos} {C0 : Addr} {i : Nat} {b₀ : Stmt} {suite : List Stmt} {rest : List ExceptHandler} {ts : Addr → TS} {th : TH}
theorem ph_as (c0 : Jox X.K C0) (hm : X.mg x = some (.ref C0)) (hN : X.N.Nodup) (hi : X.N[i]? = some n) (hl : X.env.scope.names.lookup n = some .local) (hsu : ∀ e,PSs (X.caught e) (b₀ :: suite) (ts e)) (hr : PH X rest th) (hg : Gl X x:=by rfl)
  (hdb : (x == ("__debug__" : Str)) = false:=by decide) : PH X (.ExceptHandler (some (.Name x np)) (some n) (b₀ :: suite) pos :: rest) (hAs X.K C0 i ts th):=by
 rintro pins s σ H D e C dx I q hfl ⟨e', C', b,hC,he,hmr,h⟩
 cases hC
 cases he
 obtain ⟨o,vs,go,gc,_⟩:=Jl8 I.hok q
 refine wpAny_handleBy_cons (codeAny_handlers_test (Jhy (X:=X.caught e) (I.caught e) hg hm (Jnp I.kIn c0 go gc hmr ?_) hdb)) (fun z=>by cases z)
 cases b with
 | false=>exact hr pins s σ H D e C dx I q hfl h
 | true =>
  refine codeAny_handlers_suite_as (Jk0 I q hfl fun s1 I1 f1=>Jl6 (v:=.ref e) I1 hN hi (.inl hl) rfl (fun s2 I2=>?_) (.inr hl))
  refine wpAny_mono (hsu e pins s2 _ H (D.less i) (I2.caught e) h) (fun f s3 hf=>?_) fun _ _ z=>False.elim z
  have go : ∀ {f : Flow} {σ' : St} {H' : Hp},Inv (X.caught e) pins σ' H' s3 → (∀ s', Inv X pins (σ'.set i none) H' s' → SP X pins D f s') → wpAny (model X.prog X.w) X.A (do bindName X.env n .none; unbindBehindTheSuite X.env n pos) (fun _ s'=>SP X pins D f s') X.xe s3 :=
   fun {f σ' H'} I3 k=>Jpj (Inv.uncaught I.ok I3) hN hi hl k
  cases f with
  | next=>obtain ⟨σ', H', I3,k⟩:=hf; exact go I3 fun s' I'=>⟨_,H', I', k⟩
  | brk=>obtain ⟨σ', H', I3,k⟩:=hf; exact go I3 fun s' I'=>⟨_,H', I', k⟩
  | cont=>obtain ⟨σ', H', I3,k⟩:=hf; exact go I3 fun s' I'=>⟨_,H', I', k⟩
  | ret u=>obtain ⟨v,σ', H', I3,r,k⟩:=hf; exact go I3 fun s' I'=>⟨v,_,H', I', r,k⟩
end
def tTry (tb : List (Addr × Obj) → (St → XK) → TS) (th : TH) : TS:=fun D σ H=>∀ pins,tb pins (fun σ' c e H'=>th D σ' c e H') D σ H
theorem ps_try {X : Cx} {body : List Stmt} {h₀ : ExceptHandler} {hs : List ExceptHandler} {pos : Pos} {tb : List (Addr × Obj) → (St → XK) → TS} {th : TH} (hst : Jo4 X) (hb : ∀ pins R,Jkb (X.tried pins R) R → PSs (X.tried pins R) body (tb pins R)) (hh : PH X (h₀ :: hs) th) :
  PS X (.Try body (h₀ :: hs) [] [] pos) (tTry tb th):=by
 intro pins s σ H D I h
 refine wpAny_Try_except (wpAny_mono (hb pins (fun σ' c e H'=>th D σ' c e H') xw_try [] s σ H D (I.tried _) (h pins)) (fun f s1 hf=>?_) fun ev s1 hx=>?_)
 ·have hf' : SP X pins D f s1:=hf.map fun _ _ J=>J.untried
  cases f with
  | next=>exact wpAny_execs_nil hf'
  | brk=>exact hf'
  | cont=>exact hf'
  | ret u=>exact hf'
 ·obtain ⟨σ', H', e,C,dx,fr,rfl,I', q,hfl,hR⟩:=hx
  exact Jof I' hst I'.ok.frames q hfl fun s2 I2 f2=>Jk0 I2 Jfj f2 fun s3 I3 f3=>hh pins s3 σ' _ D e C dx I3 Jfj f3 hR
end L2
namespace L2
open PySem PySem.Spec PyProof.Rows
structure FM (K : PySem.W.Frag) (x qual : Str) (st : Stmt) (ps : List Str) (f : Addr) (fd : FuncData) : Prop where
 fn : Fun K x qual st f fd
 bd : Binds K fd ps []
structure YCls (K : PySem.W.Frag) (C : Addr) : Prop where
 ya : PySem.W.findIn K (.ref C) "__class__" = some (some (.builtin "object.__class__"))
 yb : PySem.W.specialIn K (.builtin "object.__class__") "__get__" = some (some (.builtin "getset_descriptor.__get__"))
 yc : PySem.W.takesIn K (.builtin "object.__class__") = some true
 yd : PySem.W.mroIn K C (.type "object") = some true
theorem YCls.ty {K : PySem.W.Frag} {C a dx : Addr} {H : Hp} {fs : List (Str × V)} (y : YCls K C) (c : Cls K C) (e : H a = some (.ins C dx fs)) : Jjy K H (.ref a) (.ref C):=.ins e c y.ya y.yb y.yc y.yd
def Jiv (K : PySem.W.Frag) (f : Str) : Sp:=fun vs H Q _=>∃ e C W fI y,vs = [.ref e,y] ∧ H e = some (XO e C none true) ∧ XCls K C W fI ∧ NoAttr K C f ∧ ∀ dx,H dx = none → dx ≠ e → Q .non (upd (upd H dx (XD dx [(f,y)])) e (XO e C (some dx) true))
theorem Jp2 {K : PySem.W.Frag} {C W fI : Addr} {f : Str} {y : V} {H : Hp} {Q : VK} (c : XCls K C W fI) (n : NoAttr K C f) (k : ∀ e dx,H e = none → H dx = none → dx ≠ e → Q (.ref e) (upd (upd H dx (XD dx [(f,y)])) e (XO e C (some dx) true))) :
  [y].length ≤ 1000 ∧ ∀ e,H e = none → Jiv K f (.ref e :: [y]) (upd H e (XO e C none true)) (fun v H2=>v = .non ∧ Q (.ref e) H2) E0:=by
 refine ⟨by simp,fun e he=>⟨e,C,W,fI,y,rfl,Jfj,c,n,fun dx h1 h2=>⟨rfl,?_⟩⟩⟩
 have z:=k e dx he (by rw [Jfp h2] at h1; exact h1) h2
 have e2 : upd (upd (upd H e (XO e C none true)) dx (XD dx [(f,y)])) e (XO e C (some dx) true) = upd (upd H dx (XD dx [(f,y)])) e (XO e C (some dx) true):=by
  funext b
  unfold upd
  split
  ·rfl
  ·split <;> rfl
 rw [e2]
 exact z
end L2
namespace L2
open PySem PySem.Spec PyProof.Rows
section
variable {X : Cx} {pins : List (Addr × Obj)} {σ : St} {H : Hp} {s : Shared}
theorem Inv.turnTup {ch : List Addr} {T : Addr} {xs : List V} {h' : Heap} {t' : Nat} (I : Inv X pins σ H s) (hch : ∀ b ∈ ch,Jjx X pins H b) (k : ∀ b o,b ∉ ch → s.heap.get? b = some o → h'.get? b = some o) (hT : s.heap.objs.size ≤ T)
  (new : ObjOk X.prog X.w (upd H T (.tup xs)) h' T (.tup xs)) : Inv X pins σ (upd H T (.tup xs)) { s with heap:=h', toks:=t' }:=by
 have hn : H T = none:=I.hok.fresh hT
 have nb : ∀ b o,s.heap.get? b = some o → b ≠ T:=fun b o z w'=>absurd (Heap.lt_size z) (by rw [w']; exact Nat.not_lt.mpr hT)
 have nt : ∀ b u,H b = some u → b ≠ T:=fun b u z=>Jfo z hn
 have nc : ∀ b u,H b = some u → b ∉ ch:=fun b u z w'=>by rw [(hch b w').1] at z; cases z
 have u : Un (frs X.stack) ch H (upd H T (.tup xs)) s.heap h':=by
  refine ⟨fun b o hb n hs hc=>k b o hc hb,fun b o hb n _ hc=>⟨o.slots,k b o hc hb⟩,fun b o hb n _=>by rw [Jfp (nb b o hb)]; exact n,fun b o hb hc=>⟨o,k b o hc hb⟩,fun b ys z=>by rw [Jfp (nt b _ z)]; exact z,fun b o v z=>by rw [Jfp (nt b _ z)]; exact z,fun b ps z=>⟨#[],by rw [Jfp (nt b _ z),z]; simp⟩⟩
 refine I.call (g':=s.gens) (d':=s.drawn) (ch:=ch) u (fun b o z=>?_) I.bare fun b hb=>?_
 ·by_cases w' : b = T
  ·subst w'
   rw [Jfj] at z; cases z
   exact new
  ·rw [Jfp w'] at z
   refine (I.hok b o z).stay (fun c v hc zz=>k c v ?_ zz) (fun c zz=>by rw [Jfp (nt c _ zz)]; exact zz) fun c ys zz=>by rw [Jfp (nt c _ zz)]; exact zz
   rcases hc with rfl | hc
   ·exact nc c o z
   ·exact nc c _ hc
 ·obtain ⟨_,h1,_,h3,h4,h5⟩:=hch b hb
  exact ⟨h3,h1,h4,h5⟩
theorem Inv.turnMany {ch : List Addr} {h' : Heap} {t' : Nat} (I : Inv X pins σ H s) (hch : ∀ b ∈ ch,Jjx X pins H b) (k : ∀ b o,b ∉ ch → s.heap.get? b = some o → h'.get? b = some o) : Inv X pins σ H { s with heap:=h', toks:=t' }:=by
 have nc : ∀ b u,H b = some u → b ∉ ch:=fun b u z w'=>by rw [(hch b w').1] at z; cases z
 have u : Un (frs X.stack) ch H H s.heap h' :=
  ⟨fun b o hb n hs hc=>k b o hc hb,fun b o hb n _ hc=>⟨o.slots,k b o hc hb⟩,fun b o hb n _=>n,fun b o hb hc=>⟨o,k b o hc hb⟩,fun b ys z=>z,fun b o v z=>z,fun b ps z=>⟨#[],by rw [z]; simp⟩⟩
 refine I.call (g':=s.gens) (d':=s.drawn) (ch:=ch) u (fun b o z=>(I.hok b o z).stay (fun c v hc zz=>k c v ?_ zz) (fun _ zz=>zz) fun _ _ zz=>zz) I.bare fun b hb=>?_
 ·rcases hc with rfl | hc
  ·exact nc c o z
  ·exact nc c _ hc
 ·obtain ⟨_,h1,_,h3,h4,h5⟩:=hch b hb
  exact ⟨h3,h1,h4,h5⟩
end
end L2
namespace L2
open PySem PySem.Spec PyProof.Rows
section
variable {X : Cx} {pins : List (Addr × Obj)} {σ : St} {H : Hp} {s : Shared}
inductive TyX (K : PySem.W.Frag) (H : Hp) : V → Value → Prop where
 | of {x : V} {t : Value} : Jjy K H x t → TyX K H x t
 | exc {e C W fI dx : Addr} {fs : List (Str × V)} {fr : Bool} : H e = some (XO e C (some dx) fr) → H dx = some (XD dx fs) → XCls K C W fI → TyX K H (.ref e) (.ref C)
theorem TyX.kit {x : V} {u t : Value} (I : Inv X pins σ H s) (rx : RelV x u) (ty : TyX X.K H x t) : u ≠ .builtin "__main__.__loader__#opaque" ∧ ∃ Hh,PySem.W.KitX X.K u t Hh ∧ Hh s.heap:=by
 cases ty with
 | exc q qd c =>
  obtain rfl : u = Value.ref _:=rx
  obtain ⟨ox,oD,mA,J,_,_⟩:=Jov I.hok q qd
  exact ⟨(fun z=>nomatch z),_,xkit c,ox,oD,J⟩
 | of ty =>
  cases ty with
  | non=>cases (show u = Value.none from rx); exact ⟨(fun z=>nomatch z),_,PySem.W.kitx_none,trivial⟩
  | bl y=>cases (show u = Value.bool y from rx); exact ⟨(fun z=>nomatch z),_,PySem.W.kitx_bool,trivial⟩
  | int i=>obtain ⟨t,q⟩:=(show ∃ t,u = Value.int i t from rx); cases q; exact ⟨(fun z=>nomatch z),_,PySem.W.kitx_int,trivial⟩
  | str y=>obtain ⟨t,q⟩:=(show ∃ t,u = Value.str y t from rx); cases q; exact ⟨(fun z=>nomatch z),_,PySem.W.kitx_str,trivial⟩
  | flt y=>obtain ⟨t,q⟩:=(show ∃ t,u = Value.float y t from rx); cases q; exact ⟨(fun z=>nomatch z),_,PySem.W.kitx_float,trivial⟩
  | @lst a xs ea =>
   cases (show u = Value.ref a from rx)
   obtain ⟨_,_,n,_,h1⟩:=(show ObjOk X.prog X.w H s.heap a (.lst xs) from I.hok a _ ea)
   exact ⟨(fun z=>nomatch z),_,PySem.W.kitx_list,_,h1,rfl⟩
  | @frz a ob xs ea =>
   cases (show u = Value.ref a from rx)
   obtain ⟨_,_,_,n,_,h1⟩:=(show ObjOk X.prog X.w H s.heap a (.frz ob (.lst xs)) from I.hok a _ ea)
   exact ⟨(fun z=>nomatch z),_,PySem.W.kitx_list,_,h1,rfl⟩
  | @tup a xs ea =>
   cases (show u = Value.ref a from rx)
   obtain ⟨_,_,_,o,h1,h2,_⟩:=(show ObjOk X.prog X.w H s.heap a (.tup xs) from I.hok a _ ea)
   exact ⟨(fun z=>nomatch z),_,PySem.W.kitx_tuple,o,h1,h2⟩
  | @dK a kvs ea =>
   cases (show u = Value.ref a from rx)
   obtain ⟨_,_,vs,_,o,es,ep,h1,h2,_⟩:=(show ObjOk X.prog X.w H s.heap a (.dK kvs) from I.hok a _ ea)
   exact ⟨(fun z=>nomatch z),_,PySem.W.kitx_dict,o,h1,h2.1⟩
  | @dT a kvs ea =>
   cases (show u = Value.ref a from rx)
   obtain ⟨_,_,xs,_,o,es,ep,h1,h2,_⟩:=(show ObjOk X.prog X.w H s.heap a (.dT kvs) from I.hok a _ ea)
   exact ⟨(fun z=>nomatch z),_,PySem.W.kitx_dict,o,h1,h2.1⟩
  | @ins a C dx fs ea cl ha hn htk hm =>
   cases (show u = Value.ref a from rx)
   obtain ⟨mA,O,_⟩:=Jko I.hok ea
   obtain ⟨od,J,_⟩:=O.look
   exact ⟨(fun z=>nomatch z),_,PySem.W.kitx_own (cl.get _) cl.hd ha hn htk hm,J⟩
def rIsA (K : PySem.W.Frag) : List V → Hp → VK → Prop:=fun xs H Q=>∃ x c u t b,xs = [x,c] ∧ clsV c = some u ∧ TyX K H x t ∧ PySem.W.kitOne K t u = some b ∧ Q (.bl b) H
theorem Jgc : Jhs X (.builtin "isinstance") (rIsA X.K):=by
 rintro pins s σ H vs us Q I r ⟨x,c,u,t,b,rfl,hc,ty,ek,k⟩
 obtain ⟨v,w', rfl,r1,r2⟩:=Jos r
 have e2 : w' = u:=by
  cases c with
  | ty n=>cases hc; cases r2; rfl
  | ref a=>cases hc; cases r2; rfl
  | _=>cases hc
 subst e2
 obtain ⟨hx,Hh,Z,p⟩:=ty.kit I r1
 exact PySem.W.kia_one Z I.kIn p ek hx fun tk=>⟨.bl b,H,I.tok _,rfl,k⟩
theorem Jmx : ∀ {cs : List V} {us ws : List Value},cs.mapM clsV = some us → Vals cs ws → ws = us
 | [],us,_,e,.nil=>by cases e; rfl
 | c :: cs,us,_,e,.cons r t=>by
  rw [List.mapM_cons] at e
  simp only [Option.bind_eq_bind,Option.bind_eq_some_iff,Option.pure_def,Option.some.injEq] at e
  obtain ⟨u,hu,us', hus,rfl⟩:=e
  rw [Jmx hus t]
  cases c with
  | ty n=>cases hu; cases r; rfl
  | ref a=>cases hu; cases r; rfl
  | _=>cases hu
def rIsT (K : PySem.W.Frag) : List V → Hp → VK → Prop:=fun xs H Q=>∃ x p cs us t b,xs = [x,.ref p] ∧ H p = some (.tup cs) ∧ cs.mapM clsV = some us ∧ TyX K H x t ∧ PySem.W.kitAny K t us = some b ∧ Q (.bl b) H
theorem Jks : Jhs X (.builtin "isinstance") (rIsT X.K):=by
 rintro pins s σ H vs us Q I r ⟨x,p,cs,us', t,b,rfl,hp,hc,ty,ek,k⟩
 obtain ⟨v,w', rfl,r1,r2⟩:=Jos r
 obtain rfl : w' = Value.ref p:=r2
 obtain ⟨hx,Hh,Z,q⟩:=ty.kit I r1
 obtain ⟨_,its,rv,o,h1,h2,n,h3⟩:=(show ObjOk X.prog X.w H s.heap p (.tup cs) from I.hok p _ hp)
 have e:=Jmx hc rv
 subst e
 obtain ⟨oc,odi,oda,osl⟩:=o
 dsimp only at h2 h3
 subst h2 h3
 exact PySem.W.kia_tup Z I.kIn q h1 ek hx fun tk=>⟨.bl b,H,I.tok _,rfl,k⟩
def iSeq (K : PySem.W.Frag) (tl : TE) : TI:=fun σ H R=>tl σ H fun x H1=>∃ a,x = .ref a ∧ (((∃ xs,SqL K H1 a xs) ∧ R (Itl K a) H1) ∨ ((∃ xs,SqT K H1 a xs) ∧ R (Itt K a) H1))
theorem Jje {tg l : Expr} {tl : TE} (hl : PE X l tl) : PI X tg l (iSeq X.K tl):=by
 intro pins s σ H R I h
 refine thn (hl pins s σ H _ I h) fun v s1 ⟨x,H1,I1,r1,a,e,q1⟩=>?_
 subst e
 cases r1
 have fin : ∀ {J : It} {tn : Nat → Heap → Prop} {o : Obj},Jm7 X.prog X.w X.K tg J [s1.heap.objs.size] s1.heap.objs.size tn → tn 0 (s1.heap.push o) → R J H1 → PIE X pins σ tg R (.ref s1.heap.objs.size) { s1 with heap:=s1.heap.push o }:=fun {J tn o} T st q=>by
  refine ⟨s1.heap.objs.size,[s1.heap.objs.size],tn,J,H1,rfl,I1.kept (t':=s1.toks) fun b o e=>Heap.get?_push_of_some _ e,T,st,fun b hb=>?_,q⟩
  have e : b = s1.heap.objs.size:=by simpa using hb
  subst e
  exact I1.fpOk (Nat.le_refl _) (I1.hok.fresh (Nat.le_refl _))
 rcases q1 with ⟨⟨xs,hq⟩,q⟩ | ⟨⟨xs,hq⟩,q⟩
 ·obtain ⟨its,rv,p,hz⟩:=I1.list hq
  exact wpAny_pyIter_list p.isList (fin (Jm5 a _) ⟨_,Heap.get?_push_size _ rfl,rfl,rfl⟩ q)
 ·obtain ⟨its,rv,p,hz⟩:=I1.tuple hq
  exact wpAny_pyIter_tuple (show s1.heap.IsTuple a its.toArray from p) (fin (Jl7 a _) ⟨_,Heap.get?_push_size _ rfl,rfl,rfl⟩ q)
def SameOr (x y : V) (b : Bool) : Prop:=(∃ a,x = .ref a ∧ y = .ref a ∧ b = true) ∨ (Jhf x = true ∧ Jhf y = true ∧ eqV x y = b)
theorem Jpw {x : V} (h : Jhf x = true) : eqV x x = true:=by
 cases x <;> first | rfl | (simp [eqV]; done) | cases h
theorem SameOr.self {x : V} (h : Jhf x = true ∨ ∃ a,x = .ref a) : SameOr x x true:=by
 rcases h with h | ⟨a,rfl⟩
 ·exact .inr ⟨h,h,Jpw h⟩
 ·exact .inl ⟨a,rfl,rfl,rfl⟩
theorem SameOr.at {A : Around} {x y : V} {b : Bool} {u v : Value} (h : SameOr x y b) (rx : RelV x u) (ry : RelV y v) : SeqAt.EqAt A s u v b:=by
 rcases h with ⟨a,rfl,rfl,rfl⟩ | ⟨f1,f2,rfl⟩
 ·cases rx; cases ry; exact SeqAt.EqAt.same _
 ·exact Jpu rx ry f1 f2
end
section
variable {X : Cx} {j : Nat} {m : Str} {apos pos : Pos} {e o : Expr} {es : List Expr} {ta : TE} {t : TA} {R : St → XK}
end
end L2
namespace L2
open PySem PySem.Spec PyProof.Rows
theorem Jh7 {n : Nat} (h : n ≤ 2000) : n < sizeLine:=Nat.lt_of_le_of_lt h (by decide)
theorem Jg2 (n : Nat) (h : n ≤ 2000) : n ≤ sizeLine:=Nat.le_of_lt (Jh7 h)
def tpB (t : Value) : Bool:=[Value.type "bool",.type "str",.type "NoneType",.type "list",.type "tuple",.type "dict"].contains t
def Tm (K : PySem.W.Frag) (H : Hp) (x : V) : Prop:=(∃ i : Int,x = .int i) ∨ ∃ t,TyX K H x t ∧ tpB t = true
def Jhj : V → Int → Int → Bool
 | .int i,lo,hi=>decide (lo ≤ i) && decide (i ≤ hi)
 | _,_,_=>false
theorem tp_int {K : PySem.W.Frag} {t : Value} (h : tpB t = true) : PySem.W.kitOne K t (.type "int") = some (t == .type "bool") ∧ PySem.W.kitOne K t (.type "bool") = some (t == .type "bool"):=by
 unfold tpB at h
 simp only [List.contains_cons,List.contains_nil,Bool.or_false,Bool.or_eq_true,beq_iff_eq] at h
 rcases h with rfl | rfl | rfl | rfl | rfl | rfl <;> exact ⟨rfl,rfl⟩
theorem Jrh {K : PySem.W.Frag} {H : Hp} {x : V} {t : Value} (ty : TyX K H x t) (h : tpB t = true) : ∀ lo hi,Jhj x lo hi = false:=by
 intro lo hi
 cases ty with
 | exc=>rfl
 | of ty =>
  cases ty <;> first | rfl | (exfalso; revert h; decide)
def Js4 (K : PySem.W.Frag) : Sp:=fun vs H Q _=>∃ (x : V) (lo hi : Int),vs = [x,.int lo,.int hi] ∧ Tm K H x ∧ Q (.bl (Jhj x lo hi)) H
theorem TyX.same {K : PySem.W.Frag} {H H' : Hp} {x : V} {t : Value} (s : ∀ b o,x = .ref b → H b = some o → H' b = some o) (sx : ∀ b fs,H b = some (XD b fs) → H' b = some (XD b fs)) (ty : TyX K H x t) : TyX K H' x t:=by
 cases ty with
 | exc q qd c=>exact .exc (s _ _ rfl q) (sx _ _ qd) c
 | of ty =>
  refine .of ?_
  cases ty with
  | non=>exact .non
  | bl b=>exact .bl b
  | int i=>exact .int i
  | str z=>exact .str z
  | flt z=>exact .flt z
  | lst e=>exact .lst (s _ _ rfl e)
  | frz e=>exact .frz (s _ _ rfl e)
  | tup e=>exact .tup (s _ _ rfl e)
  | dK e=>exact .dK (s _ _ rfl e)
  | dT e=>exact .dT (s _ _ rfl e)
  | ins e a b c d f=>exact .ins (s _ _ rfl e) a b c d f
theorem Tm.same {K : PySem.W.Frag} {H H' : Hp} {x : V} (s : Same H H') (h : Tm K H x) : Tm K H' x:=by
 rcases h with h | ⟨t,ty,e⟩
 ·exact .inl h
 ·exact .inr ⟨t,ty.same (fun b o _ q=>s b o q) (fun b fs q=>s b _ q),e⟩
theorem Jra {K : PySem.W.Frag} {q : Addr} {xs : List V} {g : TG} {tb : TS} {D : Ends} {σ : St} {H : Hp} (Pv : Nat → St → Hp → Prop) (h0 : Pv 0 σ H) (hl : (∀ i σ H,i ≤ xs.length → Pv i σ H → SqL K H q xs) ∨ (∀ i σ H,i ≤ xs.length → Pv i σ H → SqT K H q xs))
  (hs : ∀ i x σ H,xs[i]? = some x → Pv i σ H → g x σ H fun σ2 H2=>tb { D with nx:=Pv (i + 1),ct:=Pv (i + 1),bk:=D.nx } σ2 H2) (hd : ∀ σ H,Pv xs.length σ H → D.nx σ H) :
  ((∃ xs,SqL K H q xs) ∧ ∃ W : Nat → Nat → St → Hp → Prop,(∃ m,W 0 m σ H) ∧ ∀ i m σ H,W i m σ H →
   ((Itl K q).stop i H ∧ D.nx σ H) ∨ ((Itl K q).go i H ∧ ∃ N : St → Hp → Prop,(∀ σ' H', N σ' H' → ∃ m', m' < m ∧ W (i + 1) m' σ' H') ∧ ∀ x H', (Itl K q).yld i H x H' → g x σ H' fun σ2 H2=>tb { D with nx:=N,ct:=N,bk:=D.nx } σ2 H2)) ∨
  ((∃ xs,SqT K H q xs) ∧ ∃ W : Nat → Nat → St → Hp → Prop,(∃ m,W 0 m σ H) ∧ ∀ i m σ H,W i m σ H →
   ((Itt K q).stop i H ∧ D.nx σ H) ∨ ((Itt K q).go i H ∧ ∃ N : St → Hp → Prop,(∀ σ' H', N σ' H' → ∃ m', m' < m ∧ W (i + 1) m' σ' H') ∧ ∀ x H', (Itt K q).yld i H x H' → g x σ H' fun σ2 H2=>tb { D with nx:=N,ct:=N,bk:=D.nx } σ2 H2)):=by
 rcases hl with hl | hl
 ·exact .inl ⟨⟨xs,hl 0 σ H (Nat.zero_le _) h0⟩,Jjn Pv h0 hl hs hd⟩
 ·exact .inr ⟨⟨xs,hl 0 σ H (Nat.zero_le _) h0⟩,Jrb Pv h0 hl hs hd⟩
theorem Ji9 {K : PySem.W.Frag} {R : L2.St → XK} {C W fI : Addr} {f : Str} {i : Nat} {y : V} {σ : L2.St} {H : Hp} {D : Ends} (c : XCls K C W fI) (n : NoAttr K C f) (hi : σ[i]? = some (some y))
  (k : ∀ e dx,H e = none → H dx = none → dx ≠ e → R σ (.ref C) (some e) (upd (upd (upd H dx (XD dx [(f,y)])) e (XO e C (some dx) true)) e (XO e C (some dx) false))) : Jql K R (tExc C (Jiv K f) (Jgf (tVar i) Jnd)) D σ H:=by
 refine ⟨y,hi,?_⟩
 exact Jp2 (Q:=fun v H1=>∃ e C W fI dx,v = .ref e ∧ H1 e = some (XO e C (some dx) true) ∧ XCls K C W fI ∧ R σ (.ref C) (some e) (upd H1 e (XO e C (some dx) false))) c n fun e dx h1 h2 h3=>⟨e,C,W,fI,dx,rfl,Jfj,c,k e dx h1 h2 h3⟩
theorem iteN {c A B : Prop} [Decidable c] (hc : ¬ c) (h : B) : if decide c = true then A else B:=by
 rw [decide_eq_false hc]
 exact Jgi h
def Jg8 : Expr → Bool
 | .Starred _ _=>true
 | _=>false
theorem Jpg (e : Expr) (es : List Expr) (env : Env) (h : Jg8 e = false) : starEach (e :: es) env = (false,eval e env) :: starEach es env:=by
 cases e <;> first | rfl | cases h
theorem Jh8 {X : Cx} {e : Expr} {es : List Expr} {te : TE} {t : TA} (ha : PE X e te) (hr : PA X es t) (hs : Jg8 e = false:=by rfl) : PA X (e :: es) (Jgf te t):=Jfi ha hr (Jpg e es X.env hs)
theorem pa4 {X : Cx} {e0 : Expr} {t0 : TE} {e1 : Expr} {t1 : TE} {e2 : Expr} {t2 : TE} {e3 : Expr} {t3 : TE} (h0 : PE X e0 t0) (h1 : PE X e1 t1) (h2 : PE X e2 t2) (h3 : PE X e3 t3) (s0 : Jg8 e0 = false:=by rfl) (s1 : Jg8 e1 = false:=by rfl) (s2 : Jg8 e2 = false:=by rfl) (s3 : Jg8 e3 = false:=by rfl) : PA X [e0,e1,e2,e3] (Jgf t0 (Jgf t1 (Jgf t2 (Jgf t3 (Jnd))))):=Jh8 h0 (Jh8 h1 (Jh8 h2 (Jh8 h3 (Jfk) s3) s2) s1) s0
theorem pa5 {X : Cx} {e0 : Expr} {t0 : TE} {e1 : Expr} {t1 : TE} {e2 : Expr} {t2 : TE} {e3 : Expr} {t3 : TE} {e4 : Expr} {t4 : TE} (h0 : PE X e0 t0) (h1 : PE X e1 t1) (h2 : PE X e2 t2) (h3 : PE X e3 t3) (h4 : PE X e4 t4) (s0 : Jg8 e0 = false:=by rfl) (s1 : Jg8 e1 = false:=by rfl) (s2 : Jg8 e2 = false:=by rfl) (s3 : Jg8 e3 = false:=by rfl) (s4 : Jg8 e4 = false:=by rfl) : PA X [e0,e1,e2,e3,e4] (Jgf t0 (Jgf t1 (Jgf t2 (Jgf t3 (Jgf t4 (Jnd)))))):=Jh8 h0 (Jh8 h1 (Jh8 h2 (Jh8 h3 (Jh8 h4 (Jfk) s4) s3) s2) s1) s0
theorem pa6 {X : Cx} {e0 : Expr} {t0 : TE} {e1 : Expr} {t1 : TE} {e2 : Expr} {t2 : TE} {e3 : Expr} {t3 : TE} {e4 : Expr} {t4 : TE} {e5 : Expr} {t5 : TE} (h0 : PE X e0 t0) (h1 : PE X e1 t1) (h2 : PE X e2 t2) (h3 : PE X e3 t3) (h4 : PE X e4 t4) (h5 : PE X e5 t5) (s0 : Jg8 e0 = false:=by rfl) (s1 : Jg8 e1 = false:=by rfl) (s2 : Jg8 e2 = false:=by rfl) (s3 : Jg8 e3 = false:=by rfl) (s4 : Jg8 e4 = false:=by rfl) (s5 : Jg8 e5 = false:=by rfl) : PA X [e0,e1,e2,e3,e4,e5] (Jgf t0 (Jgf t1 (Jgf t2 (Jgf t3 (Jgf t4 (Jgf t5 (Jnd))))))):=Jh8 h0 (Jh8 h1 (Jh8 h2 (Jh8 h3 (Jh8 h4 (Jh8 h5 (Jfk) s5) s4) s3) s2) s1) s0
theorem pa8 {X : Cx} {e0 : Expr} {t0 : TE} {e1 : Expr} {t1 : TE} {e2 : Expr} {t2 : TE} {e3 : Expr} {t3 : TE} {e4 : Expr} {t4 : TE} {e5 : Expr} {t5 : TE} {e6 : Expr} {t6 : TE} {e7 : Expr} {t7 : TE} (h0 : PE X e0 t0) (h1 : PE X e1 t1) (h2 : PE X e2 t2) (h3 : PE X e3 t3) (h4 : PE X e4 t4) (h5 : PE X e5 t5) (h6 : PE X e6 t6) (h7 : PE X e7 t7) (s0 : Jg8 e0 = false:=by rfl) (s1 : Jg8 e1 = false:=by rfl) (s2 : Jg8 e2 = false:=by rfl) (s3 : Jg8 e3 = false:=by rfl) (s4 : Jg8 e4 = false:=by rfl) (s5 : Jg8 e5 = false:=by rfl) (s6 : Jg8 e6 = false:=by rfl) (s7 : Jg8 e7 = false:=by rfl) : PA X [e0,e1,e2,e3,e4,e5,e6,e7] (Jgf t0 (Jgf t1 (Jgf t2 (Jgf t3 (Jgf t4 (Jgf t5 (Jgf t6 (Jgf t7 (Jnd))))))))):=Jh8 h0 (Jh8 h1 (Jh8 h2 (Jh8 h3 (Jh8 h4 (Jh8 h5 (Jh8 h6 (Jh8 h7 (Jfk) s7) s6) s5) s4) s3) s2) s1) s0
theorem pa10 {X : Cx} {e0 : Expr} {t0 : TE} {e1 : Expr} {t1 : TE} {e2 : Expr} {t2 : TE} {e3 : Expr} {t3 : TE} {e4 : Expr} {t4 : TE} {e5 : Expr} {t5 : TE} {e6 : Expr} {t6 : TE} {e7 : Expr} {t7 : TE} {e8 : Expr} {t8 : TE} {e9 : Expr} {t9 : TE} (h0 : PE X e0 t0) (h1 : PE X e1 t1) (h2 : PE X e2 t2) (h3 : PE X e3 t3) (h4 : PE X e4 t4) (h5 : PE X e5 t5) (h6 : PE X e6 t6) (h7 : PE X e7 t7) (h8 : PE X e8 t8) (h9 : PE X e9 t9) (s0 : Jg8 e0 = false:=by rfl) (s1 : Jg8 e1 = false:=by rfl) (s2 : Jg8 e2 = false:=by rfl) (s3 : Jg8 e3 = false:=by rfl) (s4 : Jg8 e4 = false:=by rfl) (s5 : Jg8 e5 = false:=by rfl) (s6 : Jg8 e6 = false:=by rfl) (s7 : Jg8 e7 = false:=by rfl) (s8 : Jg8 e8 = false:=by rfl) (s9 : Jg8 e9 = false:=by rfl) : PA X [e0,e1,e2,e3,e4,e5,e6,e7,e8,e9] (Jgf t0 (Jgf t1 (Jgf t2 (Jgf t3 (Jgf t4 (Jgf t5 (Jgf t6 (Jgf t7 (Jgf t8 (Jgf t9 (Jnd))))))))))):=Jh8 h0 (Jh8 h1 (Jh8 h2 (Jh8 h3 (Jh8 h4 (Jh8 h5 (Jh8 h6 (Jh8 h7 (Jh8 h8 (Jh8 h9 (Jfk) s9) s8) s7) s6) s5) s4) s3) s2) s1) s0
end L2
namespace L2
open PySem PySem.Spec PyProof.Rows PySem.W
section
variable {X : Cx}
theorem Jls {K : PySem.W.Frag} (h : X.K = K) : Jhs X (.builtin "isinstance") (rIsA K):=by subst h; exact Jgc
end
end L2
namespace L2
open PySem PySem.Spec PyProof.Rows PySem.W
section
variable {prog : Program} {w : World} {A : Around} {E : Value → Shared → Prop} {s : Shared}
end
section
variable {X : Cx} {pos : Pos}
def rCnt : V → List V → Hp → VK → Prop:=fun x vs H Q=>∃ (l : Addr) (bs : List Bool) (b : Bool),x = .ref l ∧ vs = [.bl b] ∧ H l = some (.lst (bs.map V.bl)) ∧ Q (.int (bs.countP (· == b) : Nat)) H
theorem Jpn : ∀ {bs : List Bool} {us : List Value},Vals (bs.map V.bl) us → us = bs.map Value.bool
 | [],_,.nil=>rfl
 | _ :: _,_,.cons rfl t=>by rw [Jpn t]; rfl
def Jpo (b : Bool) : Value → Bool
 | .bool c=>c == b
 | _=>false
theorem Jq6 : MtR X "list.count" rCnt:=by
 intro pins s σ H x vs v us Q I rx rv h
 obtain ⟨l,bs,b,rfl,rfl,hH,q⟩:=h
 obtain rfl : v = Value.ref l:=rx
 obtain ⟨u,rfl,ru⟩:=Jii rv
 obtain rfl : u = Value.bool b:=ru
 obtain ⟨z,its,n,r,e⟩:=(show ObjOk X.prog X.w H s.heap l (.lst (bs.map V.bl)) from I.hok l _ hH)
 have hb:=Jpn r
 subst hb
 refine call_meets F.slot_list_count ⟨_,e,rfl⟩ F.entry_list_count (F.args_list_count_2 _ _) (SeqAt.list_countAt l _ n none #[] (.bool b) (Jpo b)) ⟨e,fun y hy=>?_,?_⟩
 ·have hy' : y ∈ bs.map Value.bool:=by simpa using hy
  obtain ⟨c,_,rfl⟩:=List.mem_map.mp hy'
  exact SeqAt.EqAt.bool_bool c b
 ·have e2 : List.countP (Jpo b) (bs.map Value.bool).toArray.toList = bs.countP (· == b):=by
   rw [List.countP_map]
   rfl
  rw [e2]
  exact ⟨.int _,H,I.tok _,⟨_,rfl⟩,q⟩
end
end L2
namespace L2
open PySem PySem.Spec PyProof.Rows PySem.W
structure Jpm (P : Program) (w : World) (K : PySem.W.Frag) (mg : Str → Option Value) (base : Heap) (k : Nat) (f : Addr) (fd : FuncData) (ps : List Str) (sp : Sp) : Prop where
 len : ∀ vs H Q E,sp vs H Q E → vs.length = ps.length
 run : ∀ (e : Addr) (A : Around) (outer : List Env) (s : Shared) (H : Hp) (args : Args) (us : List Value) (vs : List V) (Q : VK) (E : XK),Room k A → Env0 P w K mg base A outer s H → BindsTo s fd args (ps.zip us) → Vals vs us → sp vs H Q E →
  codeAny (model P w) (A.mark (some (.ref e))) (.call (.ref f) args) (CR CX0 outer P w H s Q E) s
section
variable {P : Program} {w : World} {K : PySem.W.Frag} {mg : Str → Option Value} {base : Heap}
theorem Fun.okC {x qual : Str} {st : Stmt} {f : Addr} {fd : FuncData} {N ps : List Str} {k : Nat} {sp : Sp} (F : Fun K x qual st f fd) (S : Jfx N ps (Jfr st)) (len : ∀ vs H Q E,sp vs H Q E → vs.length = ps.length)
  (hbody : ∀ (er : Addr) (cdv : Value) (A : Around) (outer : List Env) (s : Shared) (H : Hp) (vs : List V) (Q : VK) (E : XK),Room k (A.deeper (envOfC qual (Jfr st) s.heap.objs.size f cdv)) → sp vs H Q E →
   ∃ t,PSs ((Jkw CX0 P w K mg base N qual (Jfr st) f cdv A outer s H E).caught er) (Jh5 st) t ∧ t { nx:=fun _ H'=>Q .non H', rt:=Q } (start N vs) H) : Jpm P w K mg base (k + 1) f fd ps sp:=by
 obtain ⟨oc,od,kV,doc,pm,an,cdv,ct,osl,rfl,lk,hcd⟩:=F.ex
 refine ⟨len,fun er A outer s H args us vs Q E hr e0 hb r hsp=>?_⟩
 have hl:=len _ _ _ _ hsp
 have KX : K.In s.heap:=e0.mod.kin.keeps fun b o e=>(e0.bs b o e).1
 have lim : s.heap.NoLimit:=e0.mod.nolimit.keeps fun b o e=>(e0.bs b o e).1
 have hkind : ∀ y ∈ ps.zip us,(Jfr st).names.lookup y.1 = some .local ∨ ((Jfr st).names.lookup y.1 = some .cell ∧ ((cellsFrom (s.heap.objs.size + 1) (Jfr st).names []).lookup y.1).isSome = true):=fun ⟨n,v⟩ hy=>by
  rcases S.par n (List.of_mem_zip hy).1 with q | q
  ·exact .inl q
  ·exact .inr ⟨q,PySem.W.cellsFrom_some _ _ _ (.inl q)⟩
 refine codeAny_call_function (A:=A.mark (some (.ref er))) hr.depth (KX _ _ lk) rfl S.co S.gen rfl (PySem.W.codeRec_of KX hcd) (hb _ _ _ _ ?_)
 refine wpAny_newFunctionEnv_cells S.kind hkind fun env he s1 x=>?_
 subst he
 refine ⟨lim.keeps x.toInCall.keep,codeAny_func ?_⟩
 obtain ⟨t,ht,hq⟩:=hbody er cdv A outer s H vs Q E (hr.deeper _) hsp
 have I : Inv (Jkw CX0 P w K mg base N qual (Jfr st) f cdv A outer s H E) [] (start N vs) H s1:=Jm0 S hr.hd e0 hl r x
 refine wpAny_mono (ht [] s1 (start N vs) H _ (I.caught er) hq) (fun fl s' hs=>?_) fun e s' hs=>?_
 ·have fin : ∀ {σ' : L2.St} {H' : Hp} {v : V} {u : Value},Inv ((Jkw CX0 P w K mg base N qual (Jfr st) f cdv A outer s H E).caught er) [] σ' H' s' → RelV v u → Q v H' → CE outer P w H s Q u s' :=
   fun {σ' H' v u} J rv q=>⟨v,H', J.os,J.bare,J.base,J.hok,rv,q⟩
  cases fl with
  | ret u =>
   obtain ⟨v,σ', H', J,rv,q⟩:=hs
   exact fin J rv q
  | next =>
   obtain ⟨σ', H', J,q⟩:=hs
   exact fin (v:=V.non) (u:=Value.none) J rfl q
  | brk =>
   obtain ⟨_,_,_,q⟩:=hs
   exact False.elim q
  | cont =>
   obtain ⟨_,_,_,q⟩:=hs
   exact False.elim q
 ·exact False.elim hs
end
section
variable {X : Cx} {x : Str} {st : Stmt} {ps : List Str} {f : Addr} {fd : FuncData} {sp : Sp} {k j : Nat} {p pos : Pos} {e : Expr} {es : List Expr} {t : TA} {er : Addr}
theorem Jn7 (F : FT X.K X.mg x st ps f fd) (G : Jpm X.prog X.w X.K X.mg X.base k f fd ps sp) (hr : Room j X.A) (hk : k ≤ j) (ha : PA (X.caught er) (e :: es) t) (hg : Gl (X.caught er) x:=by rfl) (hdb : (x == ("__debug__" : Str)) = false:=by decide)
  (he : starEach (e :: es) X.env = (false,eval e X.env) :: starEach es X.env:=by rfl) (hpl : (backTo pos (starEach es X.env)).any (·.1) = false:=by rfl) : PE (X.caught er) (.Call (.Name x p) (e :: es) [] pos) (Jop sp [] E0 t):=by
 intro pins s σ H Q I h
 refine wpAny_Call_Name_kw (Jhy I hg F.mgx ?_ hdb)
 refine PySem.W.callWith_K (h₀:=X.base) I.ok.mod.kin F.fn.kp (thn (ha pos pins s σ H _ I h) fun us s1 ⟨vs,H1,I1,r,q⟩=>⟨I1.kIn,?_⟩) he hpl
 have q' : sp (vs ++ []) H1 Q E0:=q
 rw [List.append_nil] at q'
 have hl : us.length = ps.length:=by rw [← r.length]; exact G.len _ _ _ _ q'
 have bd:=F.bd s1 us I1.kIn (by rw [List.append_nil]; exact hl)
 rw [List.append_nil] at bd
 have e0 : Env0 X.prog X.w X.K X.mg X.base X.A X.stack s1 H1:=⟨I1.env0.frames,I1.env0.mod,I1.env0.bs,I1.env0.bsz,I1.env0.funs,I1.env0.frf,I1.env0.hok,I1.env0.bare⟩
 refine wpAny_call (codeAny_mono (G.run er X.A X.stack s1 H1 ⟨us,[]⟩ us vs Q E0 (hr.mono hk) e0 bd r q') fun r s' hq=>?_)
 cases r with
 | error e=>exact False.elim hq
 | ok fl =>
  cases fl with
  | ret u=>exact I1.after hq
  | next=>exact False.elim hq
  | brk=>exact False.elim hq
  | cont=>exact False.elim hq
end
end L2
namespace L2
open PySem PySem.Spec PyProof.Rows PySem.W
def stU (acc : List Str) (z : Str) : List Str:=if acc.contains z = true then acc else acc ++ [z]
def uq (zs : List Str) : List Str:=zs.foldl stU []
def inU (zs : List Str) : Key → Bool
 | .inl _=>false
 | .inr z=>(uq zs).contains z
theorem Jor (zs : List Str) (z : Str) : uq (zs ++ [z]) = stU (uq zs) z:=by unfold uq; rw [List.foldl_append]; rfl
theorem Jqz (zs : List Str) : (uq zs).length ≤ zs.length:=by
 have h : ∀ (l acc : List Str),(l.foldl stU acc).length ≤ acc.length + l.length:=by
  intro l
  induction l with
  | nil=>intro acc; simp
  | cons z r ih =>
   intro acc
   rw [List.foldl_cons]
   have h1:=ih (stU acc z)
   have h2 : (stU acc z).length ≤ acc.length + 1:=by unfold stU; split <;> simp
   rw [List.length_cons]
   omega
 simpa [uq] using h zs []
theorem Jjw {zs : List Str} (h : zs.Nodup) : uq zs = zs:=by
 have g : ∀ (l acc : List Str),(acc ++ l).Nodup → l.foldl stU acc = acc ++ l:=by
  intro l
  induction l with
  | nil=>intro acc _; simp
  | cons z r ih =>
   intro acc hn
   rw [List.foldl_cons]
   have hz : acc.contains z = false:=by
    cases e : acc.contains z with
    | false=>rfl
    | true =>
     have hm : z ∈ acc:=List.contains_iff_mem.mp e
     exact absurd rfl ((List.nodup_append.mp hn).2.2 z hm z List.mem_cons_self)
   have e : stU acc z = acc ++ [z]:=by unfold stU; rw [hz]; rfl
   rw [e,ih (acc ++ [z]) (by simpa using hn)]
   simp
 simpa [uq] using g zs [] (by simpa using h)
theorem Jq4 (zs : List Str) (z : Str) (k : Key) : inU (zs ++ [z]) k = (inU zs k || decide (k = .inr z)):=by
 cases k with
 | inl i=>simp [inU]
 | inr y =>
  show (uq (zs ++ [z])).contains y = ((uq zs).contains y || decide ((.inr y : Key) = .inr z))
  have e : decide ((.inr y : Key) = .inr z) = decide (y = z):=by
   by_cases h : y = z
   ·subst h; simp
   ·rw [decide_eq_false h,decide_eq_false (fun q=>h (Sum.inr.inj q))]
  rw [Jor,e]
  unfold stU
  split
  ·rename_i hc
   by_cases h : y = z
   ·subst h; rw [hc]; simp
   ·simp [h]
  ·rw [Bool.eq_iff_iff]
   simp [List.contains_iff_mem]
theorem Joq (zs : List Str) (z : Str) : (uq (zs ++ [z])).length = if inU zs (.inr z) = true then (uq zs).length else (uq zs).length + 1:=by
 rw [Jor]
 show (stU (uq zs) z).length = if (uq zs).contains z = true then _ else _
 unfold stU
 split <;> simp
section
variable {prog : Program} {w : World} {A : Around} {R : Result → Shared → Prop} {I : Addr} {fp wr : List Addr} {n : Nat} {P : Nat → Value → Prop} {St : Nat → Heap → Prop}
theorem Jjv {h h' : Heap} {a : Addr} {S T : Key → Bool} {m m' : Nat} (hS : h.SetOf (Jgr prog w) a S m) (k : ∀ o,h.get? a = some o → h'.get? a = some o) (e : ∀ x,S x = T x) (en : m = m') : h'.SetOf (Jgr prog w) a T m':=by
 obtain rfl : S = T:=funext e
 subst en
 obtain ⟨o,es,ep,t,ho,rest⟩:=hS
 exact ⟨o,es,ep,t,k o ho,rest⟩
theorem Jo1 (W : Walks prog w A.in1 I fp wr n P St) (S : Addr) (hSf : S ∉ fp) (zs : List Str) (hn : zs.length = n) (hP : ∀ i v,P i v → ∃ z t,zs[i]? = some z ∧ v = .str z t) (hb : n + 1 < scanBound) :
  ∀ (k i : Nat) (s : Shared),n - i = k → i ≤ n → St i s.heap → s.heap.SetOf (Jgr prog w) S (inU (zs.take i)) (uq (zs.take i)).length →
   (∀ h' tk,(∀ b o,b ≠ S → b ∉ wr → s.heap.get? b = some o → h'.get? b = some o) → h'.SetOf (Jgr prog w) S (inU zs) (uq zs).length → R (.ok (.ret .none)) { s with heap:=h', toks:=tk }) →
   codeAny (model prog w) A (.builtin "set.update.loop" ⟨[.ref S,.ref I],[]⟩) R s:=by
 have hSw : S ∉ wr:=fun h=>hSf (W.sub _ h)
 intro k
 induction k with
 | zero =>
  intro i s hk hi hst hS hR
  obtain rfl : i = n:=by omega
  refine codeAny_builtin PyProof.Rows.F.entry_set_update_loop ?_
  rw [Around.under_plainId PyProof.Rows.F.plain_set_update_loop _]
  refine wpAny_bind (W.done s _ _ hst fun h' tk km=>?_)
  refine wpAny_pure (hR h' tk (fun b o _ nb e=>km b o nb e) (Jjv hS (fun o e=>km S o hSw e) (fun x=>?_) ?_))
  ·rw [List.take_of_length_le (by omega)]
  ·rw [List.take_of_length_le (by omega)]
 | succ k ih =>
  intro i s hk hi hst hS hR
  have hlt : i < n:=by omega
  refine codeAny_builtin PyProof.Rows.F.entry_set_update_loop ?_
  rw [Around.under_plainId PyProof.Rows.F.plain_set_update_loop _]
  refine wpAny_bind (W.item i s _ _ hlt hst fun v h1 tk hv hst1 km=>?_)
  obtain ⟨z,t,hz,rfl⟩:=hP i v hv
  have et : zs.take (i + 1) = zs.take i ++ [z]:=by rw [List.take_add_one,hz]; rfl
  have hS1 : h1.SetOf (Jgr prog w) S (inU (zs.take i)) (uq (zs.take i)).length:=Jjv hS (fun o e=>km S o hSw e) (fun _=>rfl) rfl
  have room : (uq (zs.take i)).length + 1 < scanBound:=by
   have h1:=Jqz (zs.take i)
   rw [List.length_take] at h1
   omega
  refine wpAny_bind (wpAny_holding ?_)
  unfold setAdd
  refine wpAny_holding (wpAny_bind ((Jgr prog w).pyHash (k:=.inr z) (Jkg _ _ _ _) ?_))
  refine wpAny_setAddHashed_of (knd:=Jgr prog w) (k:=.inr z) (Jkg _ _ _ _) rfl hS1 room fun h2 sb hS2=>?_
  refine wpAny_pure ⟨plainId_quiet PyProof.Rows.F.plain_set_update_loop _,ih (i + 1) _ (by omega) hlt (W.frame _ _ _ hst1 fun b hbf o e=>?_) (Jjv hS2 (fun o e=>e) (fun x=>?_) ?_) fun h3 tk3 k3 hS3=>?_⟩
  ·show h2.get? b = some o
   rw [sb.2 b (fun q=>hSf (by rw [← q]; exact hbf))]
   exact e
  ·rw [et,Jq4]
  ·rw [et,Joq]
  ·exact hR h3 tk3 (fun b o nS nw e=>k3 b o nS nw (by show h2.get? b = some o; rw [sb.2 b nS]; exact km b o nw e)) hS3
end
section
variable {prog : Program} {w : World} {A : Around} {E : Value → Shared → Prop} {s : Shared}
set_option maxRecDepth 100000 in
set_option maxHeartbeats 3200000 in
theorem Jpd {l : Addr} {items : Array Value} {zs : List Str} {Q : Value → Shared → Prop} (hh : A.handled = none) (hl : s.heap.IsList l items) (hz : zs.length = items.size) (hi : ∀ (i : Nat) (v : Value),items[i]? = some v → ∃ z t,zs[i]? = some z ∧ v = .str z t) (hb : items.size + 1 < scanBound)
  (h : ∀ (h' : Heap) (tk : Nat),h'.SetOf (Jgr prog w) s.heap.objs.size (inU zs) (uq zs).length → (∀ b o,s.heap.get? b = some o → h'.get? b = some o) → Q (.ref s.heap.objs.size) { s with heap:=h', toks:=tk }) : wpAny (model prog w) A (call (.type "set") [.ref l]) Q E s:=by
 obtain ⟨cc,tl,hmro⟩:=F.called_set.mro
 have hmade:=F.called_set.made
 have hsub:=F.called_set.sub
 refine wpAny_call (codeAny_of_tree ?_)
 show wpAny _ _ (callAny (.type "set") _) _ _ _
 refine wpAny_pure ⟨Code.quiet_builtin _ (by decide +kernel),codeAny_builtin F.entry_type_call ?_⟩
 rw [Around.under_plain (weight_type_call_type "set" [.ref l] []) rfl]
 have g1:=F.called_set.notType
 have g2:=F.called_set.canCreate
 have g3:=F.typeCall_set_1 (.ref l)
 repeat (any_goals (first | assumption | wp_step))
 refine codeAny_mono (code_set_new_1 (.ref l) (E:=E) (Q₁:=fun obj s1=>∃ led : Bool,obj = .ref s.heap.objs.size ∧ s1 = { s with heap:=s.heap.push { cls:=.type "set",dict:=none,data:=.set #[] 0 (.fresh 0 0 led) } }) fun led=>⟨led,rfl,rfl⟩) fun r s1 hr=>?_
 cases r with
 | error e=>exact hr
 | ok fl =>
  cases fl with
  | ret obj =>
   obtain ⟨led,rfl,rfl⟩:=hr
   have hS : (s.heap.push { cls:=.type "set",dict:=none,data:=.set #[] 0 (.fresh 0 0 led) }).get? s.heap.objs.size = some { cls:=.type "set",dict:=none,data:=.set #[] 0 (.fresh 0 0 led) }:=Heap.get?_push_size _ rfl
   have hT : Shared.TypeIs { s with heap:=s.heap.push { cls:=.type "set",dict:=none,data:=.set #[] 0 (.fresh 0 0 led) } } (.ref s.heap.objs.size) "set" := ⟨_,hS,rfl⟩
   have g4:=F.called_set.init.lookup
   have g5:=F.called_set.init.bind (.ref s.heap.objs.size)
   repeat (any_goals (first | assumption | wp_step))
   refine codeAny_mono (codeAny_call_builtin (R:=wants (fun r s2=>r = .none ∧ ∃ h' tk,s2 = { s with heap:=h', toks:=tk } ∧ h'.SetOf (Jgr prog w) s.heap.objs.size (inU zs) (uq zs).length ∧ (∀ b o,s.heap.get? b = some o → h'.get? b = some o)) E) F.called_set.init.plain F.entry_set_init (check_set_init_1 hT ?_)) fun r2 s2 hr2=>?_
   ·obtain ⟨⟨oc,od,oda,osl⟩,hol,hcl,nl,hdl⟩:=hl
    simp only at hcl hdl
    subst hcl hdl
    have hol' : (s.heap.push { cls:=.type "set",dict:=none,data:=.set #[] 0 (.fresh 0 0 led) }).get? l = some { cls:=.type "list",dict:=od,data:=.seq items nl,slots:=osl }:=Heap.get?_push_of_some _ hol
    have g6:=F.sub_list_set
    have g7:=F.sub_list_frozenset
    have g8 : (Value.type "list" == Value.type "dict") = false:=by decide
    have hl1 : (s.heap.push { cls:=.type "set",dict:=none,data:=.set #[] 0 (.fresh 0 0 led) }).IsList l items:=⟨_,hol', rfl,nl,rfl⟩
    unfold Builtin.«set.__init__» noKeywords Builtin.Frozenset.updateFrom
    generalize hPI : pyIter = PI
    wp_walk
    subst hPI
    refine wpAny_pyIter_list hl1 (wpAny_bind (wpAny_runValue ?_))
    have lS : l < s.heap.objs.size:=Heap.lt_size hol
    have h3 : A.in1.in1.in1.handled = none:=by simp [hh]
    have nI : l ≠ (s.heap.push { cls:=.type "set",dict:=none,data:=.set #[] 0 (.fresh 0 0 led) }).objs.size:=by rw [Heap.size_push]; exact Nat.ne_of_lt (Nat.lt_succ_of_lt lS)
    have nS : s.heap.objs.size ∉ [(s.heap.push { cls:=.type "set",dict:=none,data:=.set #[] 0 (.fresh 0 0 led) }).objs.size,l]:=by
     rw [Heap.size_push]
     simp only [List.mem_cons,List.not_mem_nil,or_false,not_or]
     exact ⟨Nat.ne_of_lt (Nat.lt_succ_self _),Nat.ne_of_gt lS⟩
    refine Jo1 (Walks.list h3 _ l nI items) s.heap.objs.size nS zs hz hi hb (items.size - 0) 0 _ (by omega) (Nat.zero_le _) ⟨⟨_,Heap.get?_push_size _ rfl,rfl,rfl⟩,hl1.push _⟩ ?S0 ?R0
    case S0 =>
     have q : ((s.heap.push { cls:=.type "set",dict:=none,data:=.set #[] 0 (.fresh 0 0 led) }).push { cls:=.type "list_iterator",data:=.fields #[.ref l,.int 0 0] }).get? s.heap.objs.size = some { cls:=.type "set",dict:=none,data:=.set #[] 0 (.fresh 0 0 led) }:=Heap.get?_push_of_some _ hS
     refine ⟨_,#[],0,_,q,⟨rfl,rfl,rfl⟩,rfl,fun e he=>by simp at he,fun x=>?_,by decide,by rfl,rfl⟩
     cases x <;> simp [inU,uq]
    case R0 =>
     intro h' tk km hS'
     show wpAny _ _ _ _ _ _
     refine wpAny_pure ?_
     show wpAny _ _ (ret Value.none) _ _ _
     refine wpAny_pure ⟨rfl,h', tk,rfl,hS', fun b o e=>?_⟩
     have lb : b < s.heap.objs.size:=Heap.lt_size e
     refine km b o (Nat.ne_of_lt lb) ?_ (Heap.get?_push_of_some _ (Heap.get?_push_of_some _ e))
     rw [Heap.size_push]
     simp only [List.mem_cons,List.not_mem_nil,or_false]
     exact Nat.ne_of_lt (Nat.lt_succ_of_lt lb)
   ·cases r2 with
    | error e=>exact hr2
    | ok fl2 =>
     cases fl2 with
     | ret r =>
      obtain ⟨rfl,h', tk,rfl,hS', hk'⟩:=hr2
      repeat (any_goals (first | assumption | wp_step))
      exact h _ _ hS' hk'
     | _=>exact hr2.elim
  | _=>exact hr.elim
end
def TxS (P : Program) (w : World) (a : Addr) (zs : List Str) : HO:=.ext fun h=>h.SetOf (Jgr P w) a (inU zs) (uq zs).length
theorem txs_ok {P : Program} {w : World} {H : Hp} {h : Heap} {a : Addr} {zs : List Str} (hS : h.SetOf (Jgr P w) a (inU zs) (uq zs).length) : ObjOk P w H h a (TxS P w a zs) :=
 ⟨hS,(let ⟨o,_,_,_,ho,_⟩:=hS; ⟨o,ho⟩),fun _ _ p k=>Jjv p k (fun _=>rfl) rfl⟩
section
variable {X : Cx}
theorem Jku (hc : X.calm = true) : Jhs X (.type "set") (fun xs H Q=>∃ (l : Addr) (zs : List Str),xs = [.ref l] ∧ SqL X.K H l (zs.map V.str) ∧ zs.length ≤ 2000 ∧ ∀ a,H a = none → Q (.ref a) (upd H a (TxS X.prog X.w a zs))):=by
 intro pins s σ H xs us Q I r h
 obtain ⟨l,zs,rfl,hq,hz,q⟩:=h
 obtain ⟨u,rfl,ru⟩:=Jii r
 obtain rfl : u = Value.ref l:=ru
 obtain ⟨its,rv,pl,_⟩:=I.list hq
 have hlen:=rv.length
 rw [List.length_map] at hlen
 refine Jpd (zs:=zs) (I.ok.hd hc) pl.isList (by simpa using hlen) (fun i v hv=>?_) (by simp only [List.size_toArray]; unfold scanBound; omega) fun h' tk hS kk=>⟨.ref s.heap.objs.size,_,I.laid (a:=s.heap.objs.size) (o:=TxS X.prog X.w s.heap.objs.size zs) (t':=tk) kk (Nat.le_refl _) (txs_ok hS),rfl,q _ (I.hok.fresh (Nat.le_refl _))⟩
 ·have hv' : its[i]? = some v:=by simpa using hv
  have hlt : i < zs.length:=by have:=(List.getElem?_eq_some_iff.mp hv').1; omega
  obtain ⟨u,hu,ru⟩:=rv.get (i:=i) (x:=V.str zs[i]) (by rw [List.getElem?_map,List.getElem?_eq_getElem hlt]; rfl)
  rw [hv'] at hu
  cases hu
  obtain ⟨t,rfl⟩:=ru
  exact ⟨zs[i],t,List.getElem?_eq_getElem hlt,rfl⟩
theorem Jkt : Jhs X (.builtin "len") (fun xs H Q=>∃ (a : Addr) (zs : List Str),xs = [.ref a] ∧ H a = some (TxS X.prog X.w a zs) ∧ Q (.int (uq zs).length) H):=by
 intro pins s σ H xs us Q I r h
 obtain ⟨a,zs,rfl,ha,q⟩:=h
 obtain ⟨u,rfl,ru⟩:=Jii r
 obtain rfl : u = Value.ref a:=ru
 obtain ⟨o,es,ep,t,ho,hex,hd,_,_,hb,hf,hn⟩:=(I.hok a _ ha).1
 refine call_len_set ho hex hd hf (by unfold scanBound at hb; omega) ?_
 rw [hn]
 exact ⟨.int _,H,I.tok _,⟨_,rfl⟩,q⟩
end
end L2
namespace L2
open PySem PySem.Spec PyProof.Rows PySem.W
theorem bt_set : bootBuiltins "set" = some (.type "set"):=by decide +kernel
theorem Jjl : bootBuiltins "enumerate" = some (.type "enumerate"):=by decide +kernel
section
variable {X : Cx}
end
end L2
namespace L2
open PySem PySem.Spec PyProof.Rows PySem.W
def ItE (K : PySem.W.Frag) (a : Addr) : It:=⟨fun i H=>∃ xs x,SqL K H a xs ∧ xs[i]? = some x,
 fun i H x H'=>∃ T u,H T = none ∧ x = .ref T ∧ (∀ xs,SqL K H a xs → xs[i]? = some u) ∧ H' = upd H T (.tup [.int i,u]),
 fun i H=>∃ xs,SqL K H a xs ∧ i = xs.length⟩
def EnuSt (e it l : Addr) (i : Nat) (h : Heap) : Prop:=(∃ old,IsEnum h e it i old) ∧ h.IsListIter it l i
theorem EnuSt.obj {e it l : Addr} {i : Nat} {h : Heap} (st : EnuSt e it l i h) : ∀ b ∈ [e,it],∃ o,h.get? b = some o ∧ ∀ v,o.data ≠ .cell v:=fun b hb=>by
 obtain ⟨⟨old,h1⟩,⟨o4,h4,_,d4⟩⟩:=st
 simp only [List.mem_cons,List.not_mem_nil,or_false] at hb
 rcases hb with rfl | rfl
 ·exact ⟨_,h1,fun v z=>by cases z⟩
 ·exact ⟨o4,h4,fun v z=>by rw [d4] at z; cases z⟩
theorem Jqw {P : Program} {w : World} {K : PySem.W.Frag} {elts : List Expr} {kt : Nat} {pt : Pos} (e it l : Addr) (n1 : e ≠ it) (n2 : l ≠ e) (n3 : l ≠ it) :
  Jm7 P w K (.Tuple elts kt pt) (ItE K l) [e,it] e (EnuSt e it l) where
 mem:=by simp
 obj:=fun i h st=>st.obj
 keep:=fun i h h' st k=>by
  obtain ⟨⟨old,h1⟩,h2⟩:=st
  exact ⟨⟨old,k e (by simp) _ h1⟩,h2.at fun o q=>k it (by simp) o q⟩
 item:=by
  intro X hP hw hK hc i pins s σ H E I hf st hg
  subst hP hw hK
  obtain ⟨xs,x,q1,hx⟩:=hg
  obtain ⟨its,rv,p1,_⟩:=I.list q1
  obtain ⟨u,hu,ru⟩:=rv.get hx
  have W:=WalksT.enumerate (prog:=X.prog) (w:=X.w) (I.ok.hd hc) e it l n1 n2 n3 its.toArray
  obtain ⟨s1,s2⟩:=st
  have li : i < its.length:=(List.getElem?_eq_some_iff.mp hu).1
  refine W.item i s _ _ (by simp only [List.size_toArray]; omega) ⟨s1,s2,p1.isList⟩ fun T vals h' tk hP fT tT mid kk=>?_
  refine ⟨_,rfl,W.go elts kt pt i T _ _ _ mid fun h'' st'' kk2=>?_⟩
  obtain ⟨t,a,ha,rfl⟩:=hP
  have ea : a = u:=by simpa [hu] using ha.symm
  subst ea
  obtain ⟨t1,t2,_⟩:=st''
  have kT : h''.IsTuple T #[.int i t,a]:=by
   obtain ⟨o,q,r⟩:=tT
   exact ⟨o,kk2 T o (W.apart i T h' mid) q,r⟩
  refine ⟨.ref T,upd H T (.tup [.int i,x]),I.turnTup (ch:=[e,it]) (t':=tk) hf (fun c o hc q=>kk2 c o hc (kk c o hc q)) fT ⟨(show 2 ≤ sizeLine by decide),[.int i t,a],.cons ⟨t,rfl⟩ (.cons ru .nil),kT⟩,rfl,⟨T,x,I.hok.fresh fT,rfl,fun xs' hq=>by rw [I.list_inj hq q1]; exact hx,rfl⟩,⟨t1,t2⟩,fun c hc=>?_⟩
  have hcn:=(hf c hc).1
  rw [Jfp (fun w'=>?_)]
  ·exact hcn
  ·subst w'
   obtain ⟨o,q,_⟩:=EnuSt.obj (show EnuSt e it l i s.heap from ⟨s1,s2⟩) c hc
   exact absurd (Heap.lt_size q) (Nat.not_lt.mpr fT)
 done:=by
  intro X hP hw hK hc i pins s σ H E I hf st hg
  subst hP hw hK
  obtain ⟨xs,q1,hi⟩:=hg
  obtain ⟨its,rv,p1,_⟩:=I.list q1
  have W:=WalksT.enumerate (prog:=X.prog) (w:=X.w) (I.ok.hd hc) e it l n1 n2 n3 its.toArray
  obtain ⟨s1,s2⟩:=st
  have e1:=rv.length
  have ei : i = its.toArray.size:=by simp only [List.size_toArray]; omega
  subst ei
  refine W.done s _ _ ⟨s1,s2,p1.isList⟩ fun h' tk kk=>⟨rfl,?_⟩
  exact I.turnMany (ch:=[e,it]) hf fun c o hc q=>kk c o hc q
 self:=fun _ _ _ _ _ st h=>let ⟨_,q⟩:=st.1; wpAny_pyIter_enum q h
def iEnu (K : PySem.W.Frag) (ta : TA) : TI:=fun σ H R=>ta σ H fun vs H1=>∃ a,vs = [.ref a] ∧ (∃ xs,SqL K H1 a xs) ∧ R (ItE K a) H1
theorem Jrn {X : Cx} {elts : List Expr} {kt : Nat} {pt : Pos} {a : Expr} {ta : TA} {p pos : Pos} (hg : Gl X "enumerate") (hm : X.mg "enumerate" = none) (ha : PA X [a] ta) (hs : starEach [a] X.env = [(false,eval a X.env)]:=by rfl) :
  PI X (.Tuple elts kt pt) (.Call (.Name "enumerate" p) [a] [] pos) (iEnu X.K ta):=by
 intro pins s σ H R I h
 refine Call_ (Jk4 I hg hm Jjl (PyProof.Rows.callWith_type1 (thn (ha pos pins s σ H _ I h) fun us s1 ⟨vs,H1,I1,r1,q1⟩=>?_) (by rw [hs]; rfl) rfl))
 obtain ⟨l,rfl,⟨xs,q1⟩,q⟩:=q1
 obtain ⟨u,rfl,r2⟩:=Jii r1
 obtain rfl : u = Value.ref l:=r2
 obtain ⟨its,rv,p1,_⟩:=I1.list q1
 have a1 : l < s1.heap.objs.size:=by obtain ⟨o,n,e,_⟩:=p1; exact Heap.lt_size e
 refine call_enumerate_list p1.isList fun h' z1 z2 z3 kk=>?_
 have I2 : Inv X pins σ H1 { s1 with heap:=h' }:=I1.kept (t':=s1.toks) kk
 refine wpAny_pyIter_enum z1 ⟨_,_,_,_,H1,rfl,I2,Jqw (s1.heap.objs.size + 1) s1.heap.objs.size l (Nat.succ_ne_self _) (Nat.ne_of_lt (Nat.lt_succ_of_lt a1)) (Nat.ne_of_lt a1),⟨⟨_,z1⟩,z2⟩,fun c hc=>?_,q⟩
 have hc' : s1.heap.objs.size ≤ c:=by
  simp only [List.mem_cons,List.not_mem_nil,or_false] at hc
  rcases hc with rfl | rfl
  ·exact Nat.le_succ _
  ·exact Nat.le_refl _
 exact I1.fpOk hc' (I1.hok.fresh hc')
end L2
namespace L2
open PySem PySem.Spec PyProof.Rows PySem.W
section
variable {prog : Program} {w : World} {A : Around} {E : Value → Shared → Prop} {s : Shared}
theorem Jmt {it t : Addr} {i : Nat} {items : Array Value} {x : Value} {Q : Value → Shared → Prop} (hit : s.heap.IsTupleIter it t i) (ht : s.heap.IsTuple t items) (hx : items[i]? = some x)
  (hQ : ∀ h', h'.IsTupleIter it t (i + 1) → Heap.SameBut it s.heap h' → Q x { s with heap:=h' }) : wpAny (model prog w) A (Builtin.SmallTypes.nextOf (.ref it)) Q E s:=by
 obtain ⟨o,ho,hc,hd⟩:=id hit
 obtain ⟨ol,hol,_,nl,hdl⟩:=ht
 have hT : s.TypeIs (.ref it) "tuple_iterator" := ⟨o,ho,hc⟩
 unfold Builtin.SmallTypes.nextOf
 refine wpAny_bind (wpAny_callSpecial?_slot (name:=Str.ofString "__next__") hT slot_tupleiter_next (wpAny_call_entry slot_tupleiter_next hT entry_tupleiter_next ?_ (args_tupleiter_next _)))
 refine wpAny_bind (m:=field (.ref it) 0) (wpAny_field ho hd (x:=.ref t) rfl ?_)
 show wpAny _ _ (if (Value.ref t == Value.none) = true then _ else _) _ _ s
 rw [if_neg (show ¬ ((Value.ref t == Value.none) = true) from Bool.false_ne_true)]
 refine wpAny_bind (m:=field (.ref it) 1) (wpAny_field ho hd (x:=.int i 0) rfl ?_)
 refine wpAny_bind (m:=seqItems? (.ref t)) (wpAny_seqItems hol hdl ?_)
 simp only [Int.toNat_natCast,hx]
 refine wpAny_bind (wpAny_setField ho hd (by simp) (wpAny_pure ⟨x,rfl,wpAny_pure (hQ _ ⟨_,Heap.get?_update_self _ ho (Obj.isFreed_of_fields (Obj.data_mapFields hd _)),(Obj.cls_mapFields ..).trans hc,?_⟩ (Heap.SameBut.update ..))⟩))
 rw [Obj.data_mapFields hd]
 simp [rawInt]
theorem Jne {it t : Addr} {i : Nat} {items : Array Value} {Q : Value → Shared → Prop} (hh : A.handled = none) (hit : s.heap.IsTupleIter it t i) (ht : s.heap.IsTuple t items) (hx : items[i]? = none)
  (hE : ∀ h' e,Heap.ExtBut it s.heap h' → (∃ o,h'.get? e = some o ∧ o.cls = .type "StopIteration") → E (.ref e) { s with heap:=h' }) : wpAny (model prog w) A (Builtin.SmallTypes.nextOf (.ref it)) Q E s:=by
 obtain ⟨o,ho,hc,hd⟩:=id hit
 obtain ⟨ol,hol,_,nl,hdl⟩:=ht
 have hT : s.TypeIs (.ref it) "tuple_iterator" := ⟨o,ho,hc⟩
 unfold Builtin.SmallTypes.nextOf
 refine wpAny_bind (wpAny_callSpecial?_slot (name:=Str.ofString "__next__") hT slot_tupleiter_next (wpAny_call_entry slot_tupleiter_next hT entry_tupleiter_next ?_ (args_tupleiter_next _)))
 refine wpAny_bind (m:=field (.ref it) 0) (wpAny_field ho hd (x:=.ref t) rfl ?_)
 show wpAny _ _ (if (Value.ref t == Value.none) = true then _ else _) _ _ s
 rw [if_neg (show ¬ ((Value.ref t == Value.none) = true) from Bool.false_ne_true)]
 refine wpAny_bind (m:=field (.ref it) 1) (wpAny_field ho hd (x:=.int i 0) rfl ?_)
 refine wpAny_bind (m:=seqItems? (.ref t)) (wpAny_seqItems hol hdl ?_)
 simp only [Int.toNat_natCast,hx]
 refine wpAny_bind (wpAny_rule (wpAny_bind (wpAny_setField ho hd (by simp) ?_)))
 refine wpAny_bind (m:=newExc (.type "StopIteration") []) ?_
 simp only [newExc,newTuple]
 refine wpAny_bind (wpAny_newObj_type (wpAny_bind (m:=firstArgMember _ _) (wpAny_of_eq (a:=Value.none) (by first | rfl | (simp only [firstArgMember]; rfl)) (wpAny_newObj_type ?_ (by size_fits)))) (by size_fits))
 simp only [raiseNew]
 refine wpAny_bind (wpAny_handled ?_)
 first | rw [show A.in1.handled = none from hh] | rw [hh]
 exact wpAny_bind (wpAny_pure (wpAny_throw (hE _ _ (((Heap.SameBut.update ..).extBut.push _).push _) ⟨_,Heap.get?_push_size _ rfl,rfl⟩)))
end
theorem Jly {prog : Program} {w : World} {A : Around} (hh : A.handled = none) (it l : Addr) (hne : l ≠ it) (items : Array Value) :
  Draws prog w A it [it,l] items.size (fun i v=>items[i]? = some v) (fun i h=>h.IsTupleIter it l i ∧ h.IsTuple l items) where
 live:=fun _ _ st=>let ⟨o,ho,_⟩:=st.1; ⟨o,ho⟩
 frame:=fun _ _ _ st hk=>⟨st.1.at fun o e=>hk it (by simp) o e,st.2.at fun o e=>hk l (by simp) o e⟩
 item:=fun i s Q E hi st hQ=>Jmt st.1 st.2 (x:=items[i]) (by simp [hi]) fun h' hit' hs'=>hQ _ h' s.toks (by simp [hi]) ⟨hit', st.2.extBut hs'.extBut hne⟩ hs'
 done:=fun s Q E st hE=>Jne hh st.1 st.2 (by simp) hE
end L2
namespace L2
open PySem PySem.Spec PyProof.Rows PySem.W
set_option maxRecDepth 100000 in
set_option maxHeartbeats 2000000 in
theorem Jpt (l : Addr) (items : Array Value) (n : Nat) (dct : Option Addr) (sl : Array (Option Value)) :
  Meets (Builtin.«enumerate.__new__» ⟨[.type "enumerate",.ref l],[]⟩) (fun _ R s=>s.heap.get? l = some { cls:=.type "tuple",dict:=dct,data:=.seq items n,slots:=sl } ∧
   R (.ok (.ret (.ref (s.heap.push { cls:=.type "tuple_iterator",data:=.fields #[.ref l,.int 0 0] }).objs.size)))
    { s with heap:=(s.heap.push { cls:=.type "tuple_iterator",data:=.fields #[.ref l,.int 0 0] }).push { cls:=.type "enumerate",data:=.fields #[.none,.bool false,.ref s.heap.objs.size,rawInt 0,.none,.none] } }) :=
 .of_wp fun prog w A R s h=>by
  obtain ⟨hp,g,d,tk,os⟩:=s
  obtain ⟨hl,h⟩:=h
  have e1:=sub_enumerate
  have e2 : Heap.IsTuple (Shared.heap ⟨hp,g,d,tk,os⟩) l items:=⟨_,hl,rfl,n,rfl⟩
  wp_walk using AutoSeq1.wpAny_loadPart' hl
  refine wpAny_stack_any fun st=>wpAny_pure ?_
  split
  ·rename_i c _ _ _ _ _
   cases (c == Value.type "enumerate")
   ·wp_walk using AutoSeq1.wpAny_loadPart' hl,wpAny_pyIter_tuple e2
    exact ⟨_,rfl,h⟩
   ·wp_walk using AutoSeq1.wpAny_loadPart' hl,wpAny_pyIter_tuple e2
    exact ⟨_,rfl,h⟩
  ·wp_walk using AutoSeq1.wpAny_loadPart' hl,wpAny_pyIter_tuple e2
   exact ⟨_,rfl,h⟩
section
variable {prog : Program} {w : World} {A : Around} {E : Value → Shared → Prop} {s : Shared}
theorem Joy {l : Addr} {items : Array Value} {Q : Value → Shared → Prop} (hL : s.heap.IsTuple l items)
  (h : ∀ h', IsEnum h' (s.heap.objs.size + 1) s.heap.objs.size 0 .none → h'.IsTupleIter s.heap.objs.size l 0 → (∀ b o,s.heap.get? b = some o → h'.get? b = some o) → Q (.ref (s.heap.objs.size + 1)) { s with heap:=h' }) :
  wpAny (model prog w) A (call (.type "enumerate") [.ref l]) Q E s:=by
 obtain ⟨⟨c,dct,dt,sl⟩,hl,hc,n,hd⟩:=hL
 replace hc : c = .type "tuple" := hc
 replace hd : dt = .seq items n:=hd
 subst hc hd
 refine callType_new F.called_enumerate (by decide) (F.typeCall_enumerate_1 _) (F.newCall_enumerate_1 _) (fun obj=>F.args_object_init_2 obj _) F.entry_enumerate_new (Jpt l items n dct sl) ⟨hl,?_⟩
 have hz : (s.heap.push { cls:=.type "tuple_iterator",data:=.fields #[.ref l,.int 0 0] }).objs.size = s.heap.objs.size + 1:=Heap.size_push ..
 show _ ∧ _
 rw [hz]
 have he : IsEnum ((s.heap.push { cls:=.type "tuple_iterator",data:=.fields #[.ref l,.int 0 0] }).push { cls:=.type "enumerate",data:=.fields #[.none,.bool false,.ref s.heap.objs.size,rawInt 0,.none,.none] }) (s.heap.objs.size + 1) s.heap.objs.size 0 .none:=by
  have q:=Heap.get?_push_size (s.heap.push { cls:=.type "tuple_iterator",data:=.fields #[.ref l,.int 0 0] }) (o:={ cls:=.type "enumerate",data:=.fields #[.none,.bool false,.ref s.heap.objs.size,rawInt 0,.none,.none] }) rfl
  rw [hz] at q
  exact q
 exact ⟨⟨_,he,rfl⟩,h _ he ⟨_,Heap.get?_push_of_some _ (Heap.get?_push_size _ rfl),rfl,rfl⟩ fun b o x=>Heap.get?_push_of_some _ (Heap.get?_push_of_some _ x)⟩
end
def ItU (K : PySem.W.Frag) (a : Addr) : It:=⟨fun i H=>∃ xs x,SqT K H a xs ∧ xs[i]? = some x,
 fun i H x H'=>∃ T u,H T = none ∧ x = .ref T ∧ (∀ xs,SqT K H a xs → xs[i]? = some u) ∧ H' = upd H T (.tup [.int i,u]),
 fun i H=>∃ xs,SqT K H a xs ∧ i = xs.length⟩
def EnuTt (e it l : Addr) (i : Nat) (h : Heap) : Prop:=(∃ old,IsEnum h e it i old) ∧ h.IsTupleIter it l i
theorem EnuTt.obj {e it l : Addr} {i : Nat} {h : Heap} (st : EnuTt e it l i h) : ∀ b ∈ [e,it],∃ o,h.get? b = some o ∧ ∀ v,o.data ≠ .cell v:=fun b hb=>by
 obtain ⟨⟨old,h1⟩,⟨o4,h4,_,d4⟩⟩:=st
 simp only [List.mem_cons,List.not_mem_nil,or_false] at hb
 rcases hb with rfl | rfl
 ·exact ⟨_,h1,fun v z=>by cases z⟩
 ·exact ⟨o4,h4,fun v z=>by rw [d4] at z; cases z⟩
theorem Jpi {P : Program} {w : World} {K : PySem.W.Frag} {elts : List Expr} {kt : Nat} {pt : Pos} (e it l : Addr) (n1 : e ≠ it) (n2 : l ≠ e) (n3 : l ≠ it) :
  Jm7 P w K (.Tuple elts kt pt) (ItU K l) [e,it] e (EnuTt e it l) where
 mem:=by simp
 obj:=fun i h st=>st.obj
 keep:=fun i h h' st k=>by
  obtain ⟨⟨old,h1⟩,h2⟩:=st
  exact ⟨⟨old,k e (by simp) _ h1⟩,h2.at fun o q=>k it (by simp) o q⟩
 item:=by
  intro X hP hw hK hc i pins s σ H E I hf st hg
  subst hP hw hK
  obtain ⟨xs,x,q1,hx⟩:=hg
  obtain ⟨its,rv,p1,_⟩:=I.tuple q1
  obtain ⟨u,hu,ru⟩:=rv.get hx
  have hh : X.A.in1.handled = none:=I.ok.hd hc
  have W:=WalksT.enumerateD (prog:=X.prog) (w:=X.w) (A:=X.A) (Jly hh it l n3 its.toArray) e n1 (by simp [n1,Ne.symm n2]) (by simp)
  obtain ⟨s1,s2⟩:=st
  have li : i < its.length:=(List.getElem?_eq_some_iff.mp hu).1
  refine W.item i s _ _ (by simp only [List.size_toArray]; omega) ⟨s1,s2,p1⟩ fun T vals h' tk hP fT tT mid kk=>?_
  refine ⟨_,rfl,W.go elts kt pt i T _ _ _ mid fun h'' st'' kk2=>?_⟩
  obtain ⟨t,a,ha,rfl⟩:=hP
  have ea : a = u:=by simpa [hu] using ha.symm
  subst ea
  obtain ⟨t1,t2,_⟩:=st''
  have kT : h''.IsTuple T #[.int i t,a]:=by
   obtain ⟨o,q,r⟩:=tT
   exact ⟨o,kk2 T o (W.apart i T h' mid) q,r⟩
  refine ⟨.ref T,upd H T (.tup [.int i,x]),I.turnTup (ch:=[e,it]) (t':=tk) hf (fun c o hc q=>kk2 c o hc (kk c o hc q)) fT ⟨(show 2 ≤ sizeLine by decide),[.int i t,a],.cons ⟨t,rfl⟩ (.cons ru .nil),kT⟩,rfl,⟨T,x,I.hok.fresh fT,rfl,fun xs' hq=>by rw [I.tuple_inj hq q1]; exact hx,rfl⟩,⟨t1,t2⟩,fun c hc=>?_⟩
  have hcn:=(hf c hc).1
  rw [Jfp (fun w'=>?_)]
  ·exact hcn
  ·subst w'
   obtain ⟨o,q,_⟩:=EnuTt.obj (show EnuTt e it l i s.heap from ⟨s1,s2⟩) c hc
   exact absurd (Heap.lt_size q) (Nat.not_lt.mpr fT)
 done:=by
  intro X hP hw hK hc i pins s σ H E I hf st hg
  subst hP hw hK
  obtain ⟨xs,q1,hi⟩:=hg
  obtain ⟨its,rv,p1,_⟩:=I.tuple q1
  have hh : X.A.in1.handled = none:=I.ok.hd hc
  have W:=WalksT.enumerateD (prog:=X.prog) (w:=X.w) (A:=X.A) (Jly hh it l n3 its.toArray) e n1 (by simp [n1,Ne.symm n2]) (by simp)
  obtain ⟨s1,s2⟩:=st
  have e1:=rv.length
  have ei : i = its.toArray.size:=by simp only [List.size_toArray]; omega
  subst ei
  refine W.done s _ _ ⟨s1,s2,p1⟩ fun h' tk kk=>⟨rfl,?_⟩
  exact I.turnMany (ch:=[e,it]) hf fun c o hc q=>kk c o hc q
 self:=fun _ _ _ _ _ st h=>let ⟨_,q⟩:=st.1; wpAny_pyIter_enum q h
def iEnuT (K : PySem.W.Frag) (ta : TA) : TI:=fun σ H R=>ta σ H fun vs H1=>∃ a,vs = [.ref a] ∧ (∃ xs,SqT K H1 a xs) ∧ R (ItU K a) H1
theorem Jqe {X : Cx} {elts : List Expr} {kt : Nat} {pt : Pos} {a : Expr} {ta : TA} {p pos : Pos} (hg : Gl X "enumerate") (hm : X.mg "enumerate" = none) (ha : PA X [a] ta) (hs : starEach [a] X.env = [(false,eval a X.env)]:=by rfl) :
  PI X (.Tuple elts kt pt) (.Call (.Name "enumerate" p) [a] [] pos) (iEnuT X.K ta):=by
 intro pins s σ H R I h
 refine Call_ (Jk4 I hg hm Jjl (PyProof.Rows.callWith_type1 (thn (ha pos pins s σ H _ I h) fun us s1 ⟨vs,H1,I1,r1,q1⟩=>?_) (by rw [hs]; rfl) rfl))
 obtain ⟨l,rfl,⟨xs,q1⟩,q⟩:=q1
 obtain ⟨u,rfl,r2⟩:=Jii r1
 obtain rfl : u = Value.ref l:=r2
 obtain ⟨its,rv,p1,_⟩:=I1.tuple q1
 have a1 : l < s1.heap.objs.size:=by obtain ⟨o,e,_⟩:=p1; exact Heap.lt_size e
 refine Joy (show s1.heap.IsTuple l its.toArray from p1) fun h' z1 z2 kk=>?_
 have I2 : Inv X pins σ H1 { s1 with heap:=h' }:=I1.kept (t':=s1.toks) kk
 refine wpAny_pyIter_enum z1 ⟨_,_,_,_,H1,rfl,I2,Jpi (s1.heap.objs.size + 1) s1.heap.objs.size l (Nat.succ_ne_self _) (Nat.ne_of_lt (Nat.lt_succ_of_lt a1)) (Nat.ne_of_lt a1),⟨⟨_,z1⟩,z2⟩,fun c hc=>?_,q⟩
 have hc' : s1.heap.objs.size ≤ c:=by
  simp only [List.mem_cons,List.not_mem_nil,or_false] at hc
  rcases hc with rfl | rfl
  ·exact Nat.le_succ _
  ·exact Nat.le_refl _
 exact I1.fpOk hc' (I1.hok.fresh hc')
end L2
namespace L2
open PySem PySem.Spec PyProof.Rows PySem.W
structure Z3 (z TI TO i1 i2 i3 l1 l2 l3 : Addr) : Prop where
 nd : [z,TI,TO,i1,i2,i3].Nodup
 m1 : l1 ∉ [z,TI,TO,i1,i2,i3]
 m2 : l2 ∉ [z,TI,TO,i1,i2,i3]
 m3 : l3 ∉ [z,TI,TO,i1,i2,i3]
section
variable {prog : Program} {w : World} {A : Around} {E : Value → Shared → Prop} {s : Shared}
variable {z TI TO i1 i2 i3 l1 l2 l3 : Addr} {n k : Nat} {P1 P2 P3 : Nat → Value → Prop} {S1 S2 S3 : Nat → Heap → Prop} {a b c : Value}
end
end L2
namespace L2
open PySem PySem.Spec PyProof.Rows PySem.W
section
variable {prog : Program} {w : World} {z TI TO i1 i2 i3 l1 l2 l3 : Addr} {n : Nat} {P1 P2 P3 : Nat → Value → Prop} {S1 S2 S3 : Nat → Heap → Prop}
end
end L2
namespace L2
open PySem PySem.Spec PyProof.Rows PySem.W
section
variable {prog : Program} {w : World} {A : Around} {E : Value → Shared → Prop} {s : Shared}
end
end L2
namespace L2
open PySem PySem.Spec PyProof.Rows PySem.W
section
variable {prog : Program} {w : World} {A : Around} {E : Value → Shared → Prop} {s : Shared}
end
end L2
namespace L2
open PySem PySem.Spec PyProof.Rows PySem.W
section
variable {X : Cx} {pins : List (Addr × Obj)} {σ : St} {H : Hp} {s : Shared}
end
section
variable {K : PySem.W.Frag} {g : TG} {σ : St} {H : Hp}
theorem Jr9 {a : Addr} {xs : List V} {tb : TS} {D : Ends} (Pv : Nat → St → Hp → Prop) (h0 : Pv 0 σ H) (hl : ∀ i σ H,i ≤ xs.length → Pv i σ H → SqL K H a xs)
  (hs : ∀ i x σ H T,xs[i]? = some x → Pv i σ H → H T = none → g (.ref T) σ (upd H T (.tup [.int i,x])) fun σ2 H2=>tb { D with nx:=Pv (i + 1),ct:=Pv (i + 1),bk:=D.nx } σ2 H2) (hd : ∀ σ H,Pv xs.length σ H → D.nx σ H) :
  ∃ W : Nat → Nat → St → Hp → Prop,(∃ m,W 0 m σ H) ∧ ∀ i m σ H,W i m σ H →
   ((ItE K a).stop i H ∧ D.nx σ H) ∨ ((ItE K a).go i H ∧ ∃ N : St → Hp → Prop,(∀ σ' H', N σ' H' → ∃ m', m' < m ∧ W (i + 1) m' σ' H') ∧ ∀ x H', (ItE K a).yld i H x H' → g x σ H' fun σ2 H2=>tb { D with nx:=N,ct:=N,bk:=D.nx } σ2 H2):=by
 refine ⟨fun i m σ H=>m = xs.length - i ∧ i ≤ xs.length ∧ Pv i σ H,⟨xs.length,by simp,Nat.zero_le _,h0⟩,?_⟩
 rintro i m σ H ⟨rfl,hi,p⟩
 have q:=hl i σ H hi p
 by_cases hlt : i < xs.length
 ·refine .inr ⟨⟨xs,xs[i],q,by simp [hlt]⟩,Pv (i + 1),fun σ' H' p'=>⟨xs.length - (i + 1),by omega,rfl,hlt,p'⟩,fun x H' y=>?_⟩
  obtain ⟨T,u,hT,rfl,hu,rfl⟩:=y
  exact hs i u σ _ T (hu xs q) p hT
 ·have e : i = xs.length:=by omega
  subst e
  exact .inl ⟨⟨xs,q,rfl⟩,hd σ H p⟩
theorem Jq0 {a : Addr} {xs : List V} {tb : TS} {D : Ends} (Pv : Nat → St → Hp → Prop) (h0 : Pv 0 σ H) (hl : ∀ i σ H,i ≤ xs.length → Pv i σ H → SqT K H a xs)
  (hs : ∀ i x σ H T,xs[i]? = some x → Pv i σ H → H T = none → g (.ref T) σ (upd H T (.tup [.int i,x])) fun σ2 H2=>tb { D with nx:=Pv (i + 1),ct:=Pv (i + 1),bk:=D.nx } σ2 H2) (hd : ∀ σ H,Pv xs.length σ H → D.nx σ H) :
  ∃ W : Nat → Nat → St → Hp → Prop,(∃ m,W 0 m σ H) ∧ ∀ i m σ H,W i m σ H →
   ((ItU K a).stop i H ∧ D.nx σ H) ∨ ((ItU K a).go i H ∧ ∃ N : St → Hp → Prop,(∀ σ' H', N σ' H' → ∃ m', m' < m ∧ W (i + 1) m' σ' H') ∧ ∀ x H', (ItU K a).yld i H x H' → g x σ H' fun σ2 H2=>tb { D with nx:=N,ct:=N,bk:=D.nx } σ2 H2):=by
 refine ⟨fun i m σ H=>m = xs.length - i ∧ i ≤ xs.length ∧ Pv i σ H,⟨xs.length,by simp,Nat.zero_le _,h0⟩,?_⟩
 rintro i m σ H ⟨rfl,hi,p⟩
 have q:=hl i σ H hi p
 by_cases hlt : i < xs.length
 ·refine .inr ⟨⟨xs,xs[i],q,by simp [hlt]⟩,Pv (i + 1),fun σ' H' p'=>⟨xs.length - (i + 1),by omega,rfl,hlt,p'⟩,fun x H' y=>?_⟩
  obtain ⟨T,u,hT,rfl,hu,rfl⟩:=y
  exact hs i u σ _ T (hu xs q) p hT
 ·have e : i = xs.length:=by omega
  subst e
  exact .inl ⟨⟨xs,q,rfl⟩,hd σ H p⟩
end
end L2
namespace L2
open PySem PySem.Spec PyProof.Rows PySem.W
section
variable {X : Cx}
theorem Jns {K : PySem.W.Frag} (h : X.K = K) : OpR X (compareOp .In) (rIn K false):=by subst h; exact Jp7
theorem Jhp {K : PySem.W.Frag} {e : Expr} {f : Str} {ta : TE} {pos : Pos} (h : X.K = K) (he : PE X e ta) (hb : attributeBase e f X.env (eval e X.env) = eval e X.env) : PE X (.Attribute e f pos) (tFld K ta f):=by subst h; exact Jgl he hb
end
end L2
namespace L2
open PySem PySem.Spec PyProof.Rows PySem.W
section
variable {X : Cx} {pos : Pos}
end
section
variable {g : TG} {tt : TT} {te : TE} {H : Hp} {D : Addr} {σ : St} {R : Hp → Prop}
theorem Jpq {K : PySem.W.Frag} {a : Addr} {xs : List V} (Pv : Nat → St → Hp → Prop) (h0 : Pv 0 σ H) (hl : ∀ i σ H,i ≤ xs.length → Pv i σ H → SqT K H a xs)
  (hs : ∀ i x σ H,xs[i]? = some x → Pv i σ H → g x σ H fun σ3 H3=>tt σ3 H3 fun b H4=>if b = true then te σ3 H4 (fun v H5=>∃ ys,H5 D = some (.lst ys) ∧ ys.length < sizeLine ∧ Pv (i + 1) σ3 (upd H5 D (.lst (ys ++ [v])))) else Pv (i + 1) σ3 H4)
  (hd : ∀ σ H,Pv xs.length σ H → R H) :
  ∃ W : Nat → Nat → St → Hp → Prop,(∃ m,W 0 m σ H) ∧ ∀ i m σ' H', W i m σ' H' → ((Itt K a).stop i H' ∧ R H') ∨ ((Itt K a).go i H' ∧ ∃ N : St → Hp → Prop,(∀ σ2 H2,N σ2 H2 → ∃ m', m' < m ∧ W (i + 1) m' σ2 H2) ∧
   ∀ x H2,(Itt K a).yld i H' x H2 → g x σ' H2 fun σ3 H3=>tt σ3 H3 fun b H4=>if b = true then te σ3 H4 (fun v H5=>∃ ys,H5 D = some (.lst ys) ∧ ys.length < sizeLine ∧ N σ3 (upd H5 D (.lst (ys ++ [v])))) else N σ3 H4):=by
 refine ⟨fun i m σ H=>m = xs.length - i ∧ i ≤ xs.length ∧ Pv i σ H,⟨xs.length,by simp,Nat.zero_le _,h0⟩,?_⟩
 rintro i m σ H ⟨rfl,hi,p⟩
 have q:=hl i σ H hi p
 by_cases hlt : i < xs.length
 ·refine .inr ⟨⟨xs,xs[i],q,by simp [hlt]⟩,Pv (i + 1),fun σ' H' p'=>⟨xs.length - (i + 1),by omega,rfl,hlt,p'⟩,fun x H' y=>?_⟩
  obtain ⟨e,y⟩:=y
  subst e
  exact hs i x σ _ (y xs q) p
 ·have e : i = xs.length:=by omega
  subst e
  exact .inl ⟨⟨xs,q,Nat.le_refl _⟩,hd σ H p⟩
end
theorem Jht {K : PySem.W.Frag} {a D : Addr} {xs : List V} {te : TE} {R : Hp → Prop} {H : Hp} {o : Option V} {rest : List (Option V)} (ys : List V) (hD : H D = none) (el : ys.length = xs.length) (sz : xs.length ≤ 2000) (hq : H a = some (.lst xs))
  (he : ∀ (i : Nat) (x y : V) (H' : Hp) (Q : VK),xs[i]? = some x → ys[i]? = some y → Same H H' → (∀ H5,Same H' H5 → Q y H5) → te (some x :: rest) H' Q) (hd : ∀ H', Same H H' → H' D = some (.lst ys) → R H') :
  ∃ W : Nat → Nat → St → Hp → Prop,(∃ m,W 0 m (o :: rest) (upd H D (.lst []))) ∧ ∀ i m σ' H', W i m σ' H' → ((Itl K a).stop i H' ∧ R H') ∨ ((Itl K a).go i H' ∧ ∃ N : St → Hp → Prop,(∀ σ2 H2,N σ2 H2 → ∃ m', m' < m ∧ W (i + 1) m' σ2 H2) ∧
   ∀ x H2,(Itl K a).yld i H' x H2 → Jkc 0 x σ' H2 fun σ3 H3=>Jph σ3 H3 fun b H4=>if b = true then te σ3 H4 (fun v H5=>∃ ys,H5 D = some (.lst ys) ∧ ys.length < sizeLine ∧ N σ3 (upd H5 D (.lst (ys ++ [v])))) else N σ3 H4):=by
 refine Jlw (fun i σ H'=>(∃ o,σ = o :: rest) ∧ H' D = some (.lst (ys.take i)) ∧ Same H H') ⟨⟨_,rfl⟩,Jfj,Same.upd hD⟩ (fun i σ H' _ ⟨_,_,sm⟩=>SqL.of (sm _ _ hq)) ?_ ?_
 ·rintro i x σ H' hx ⟨⟨o,rfl⟩,hDs,sm⟩
  have hi : i < ys.length:=by rw [el]; exact (List.getElem?_eq_some_iff.mp hx).1
  refine Jhw (he i x ys[i] H' _ hx (List.getElem?_eq_getElem hi) sm fun H5 s5=>⟨_,s5 _ _ hDs,?_,⟨_,rfl⟩,?_,fun c u z=>?_⟩)
  ·rw [List.length_take]
   exact Jh7 (by omega)
  ·rw [Jfj,List.take_add_one,List.getElem?_eq_getElem hi]
   rfl
  ·rw [Jfp (Jfo z hD)]
   exact s5 _ _ (sm _ _ z)
 ·rintro σ H' ⟨_,hDs,sm⟩
  rw [List.take_of_length_le (by omega)] at hDs
  exact hd H' sm hDs
theorem Jlx {K : PySem.W.Frag} {a D : Addr} {xs : List V} {te : TE} {R : Hp → Prop} {H : Hp} {o : Option V} {rest : List (Option V)} (ys : List V) (hD : H D = none) (el : ys.length = xs.length) (sz : xs.length ≤ 2000) (hq : H a = some (.tup xs))
  (he : ∀ (i : Nat) (x y : V) (H' : Hp) (Q : VK),xs[i]? = some x → ys[i]? = some y → Same H H' → (∀ H5,Same H' H5 → Q y H5) → te (some x :: rest) H' Q) (hd : ∀ H', Same H H' → H' D = some (.lst ys) → R H') :
  ∃ W : Nat → Nat → St → Hp → Prop,(∃ m,W 0 m (o :: rest) (upd H D (.lst []))) ∧ ∀ i m σ' H', W i m σ' H' → ((Itt K a).stop i H' ∧ R H') ∨ ((Itt K a).go i H' ∧ ∃ N : St → Hp → Prop,(∀ σ2 H2,N σ2 H2 → ∃ m', m' < m ∧ W (i + 1) m' σ2 H2) ∧
   ∀ x H2,(Itt K a).yld i H' x H2 → Jkc 0 x σ' H2 fun σ3 H3=>Jph σ3 H3 fun b H4=>if b = true then te σ3 H4 (fun v H5=>∃ ys,H5 D = some (.lst ys) ∧ ys.length < sizeLine ∧ N σ3 (upd H5 D (.lst (ys ++ [v])))) else N σ3 H4):=by
 refine Jpq (fun i σ H'=>(∃ o,σ = o :: rest) ∧ H' D = some (.lst (ys.take i)) ∧ Same H H') ⟨⟨_,rfl⟩,Jfj,Same.upd hD⟩ (fun i σ H' _ ⟨_,_,sm⟩=>SqT.of (sm _ _ hq)) ?_ ?_
 ·rintro i x σ H' hx ⟨⟨o,rfl⟩,hDs,sm⟩
  have hi : i < ys.length:=by rw [el]; exact (List.getElem?_eq_some_iff.mp hx).1
  refine Jhw (he i x ys[i] H' _ hx (List.getElem?_eq_getElem hi) sm fun H5 s5=>⟨_,s5 _ _ hDs,?_,⟨_,rfl⟩,?_,fun c u z=>?_⟩)
  ·rw [List.length_take]
   exact Jh7 (by omega)
  ·rw [Jfj,List.take_add_one,List.getElem?_eq_getElem hi]
   rfl
  ·rw [Jfp (Jfo z hD)]
   exact s5 _ _ (sm _ _ z)
 ·rintro σ H' ⟨_,hDs,sm⟩
  rw [List.take_of_length_le (by omega)] at hDs
  exact hd H' sm hDs
end L2
namespace L2
open PySem PySem.Spec PyProof.Rows PySem.W
section
variable {X : Cx}
end
theorem But.new {p D : Addr} {H H' : Hp} {o : HO} (b : But p H H') (hD : H D = none) (hp : Strm H p) : But p H (upd H' D o):=by
 have ne : p ≠ D:=fun e=>by obtain ⟨_,_,_,q⟩:=hp; rw [e,hD] at q; cases q
 refine ⟨fun c u n e=>?_,?_⟩
 ·rw [Jfp (fun z=>by subst z; rw [hD] at e; cases e)]
  exact b.1 c u n e
 ·obtain ⟨x,y,z,q⟩:=b.2
  exact ⟨x,y,z,by rw [Jfp ne]; exact q⟩
end L2
namespace L2
open PySem PySem.Spec PyProof.Rows PySem.W
section
variable {X : Cx}
def nodeV (x : V) : Prop:=Jhf x = true ∨ ∃ a,x = .ref a
theorem Jkr : ∀ n : Nat,(List.replicate n true).all id = true
 | 0=>rfl
 | n + 1=>by rw [List.replicate_succ,List.all_cons,Jkr n]; rfl
theorem Jpb {vs : List V} (h : ∀ v ∈ vs,nodeV v) : ∀ (i : Nat) x y b,vs[i]? = some x → vs[i]? = some y → (List.replicate vs.length true)[i]? = some b → SameOr x y b:=by
 intro i x y b e1 e2 e3
 rw [e1] at e2
 cases e2
 have : b = true:=by
  rw [List.getElem?_replicate] at e3
  split at e3
  ·exact (Option.some.inj e3).symm
  ·cases e3
 subst this
 exact SameOr.self (h x (List.mem_of_getElem? e1))
end
end L2
namespace L2
open PySem PySem.Spec PyProof.Rows PySem.W
end L2
namespace L2
open PySem PySem.Spec PyProof.Rows PySem.W
end L2
namespace L2
open PySem PySem.Spec PyProof.Rows PySem.W
structure Z4 (z TI TO i1 i2 i3 i4 l1 l2 l3 l4 : Addr) : Prop where
 nd : [z,TI,TO,i1,i2,i3,i4].Nodup
 m1 : l1 ∉ [z,TI,TO,i1,i2,i3,i4]
 m2 : l2 ∉ [z,TI,TO,i1,i2,i3,i4]
 m3 : l3 ∉ [z,TI,TO,i1,i2,i3,i4]
 m4 : l4 ∉ [z,TI,TO,i1,i2,i3,i4]
section
variable {prog : Program} {w : World} {A : Around} {E : Value → Shared → Prop} {s : Shared}
variable {z TI TO i1 i2 i3 i4 l1 l2 l3 l4 : Addr} {n k : Nat} {P1 P2 P3 P4 : Nat → Value → Prop} {S1 S2 S3 S4 : Nat → Heap → Prop} {a b c d0 : Value}
end
section
variable {prog : Program} {w : World} {z TI TO i1 i2 i3 i4 l1 l2 l3 l4 : Addr} {n : Nat} {P1 P2 P3 P4 : Nat → Value → Prop} {S1 S2 S3 S4 : Nat → Heap → Prop}
end
end L2
namespace L2
open PySem PySem.Spec PyProof.Rows PySem.W
section
variable {prog : Program} {w : World} {A : Around} {E : Value → Shared → Prop} {s : Shared}
end
section
variable {K : PySem.W.Frag} {g : TG} {σ : St} {H : Hp}
end
end L2
namespace L2
open PySem PySem.Spec PyProof.Rows PySem.W
end L2
namespace L2
open PySem PySem.Spec PyProof.Rows PySem.W
end L2
namespace L2
open PySem PySem.Spec PyProof.Rows PySem.W
section
variable {X : Cx}
end
end L2
namespace L2
open PySem PySem.Spec PyProof.Rows PySem.W
section
variable {X : Cx}
end
end L2
namespace L2
open PySem PySem.Spec PyProof.Rows PySem.W
theorem ft_mk {K : PySem.W.Frag} {h : Heap} {mg : Str → Option Value} (X : K.In h) (G : h.Ns mainGlobals mg) {q : Str} {st : Stmt} {ps : List Str} {f : Addr} {od an : Option Addr} {sl : Array (Option Value)} {oc kV dc pm cd ct : Value} (a : PySem.W.nsIn K mainGlobals q = some (some (.ref f)))
  (l : K.lookup f = some ⟨oc,od,.func (PySem.W.fnOf q q (Jhk st) (Jh5 st) (Jfr st) .none kV dc pm an cd ct),sl⟩) (c : PySem.W.codeIn K cd q = true) (k : PySem.W.keepIn K (.ref f) = true)
  (hb : ∀ (kV doc pm : Value) (an : Option Addr) (cdv ct : Value) (us : List Value),us.length = ps.length → bindArgs (PySem.W.fnOf q q (Jhk st) (Jh5 st) (Jfr st) .none kV doc pm an cdv ct) ⟨us,[]⟩ = pure (ps.zip us)) : FT K mg q st ps f (PySem.W.fnOf q q (Jhk st) (Jh5 st) (Jfr st) .none kV dc pm an cd ct) :=
 ⟨PySem.W.mg_of X G a,Jme (st:=st) l c k,(Jme (st:=st) l c k).binds hb⟩
theorem fm_mk {K : PySem.W.Frag} {n q : Str} {st : Stmt} {ps : List Str} {f : Addr} {od an : Option Addr} {sl : Array (Option Value)} {oc kV dc pm cd ct : Value}
  (l : K.lookup f = some ⟨oc,od,.func (PySem.W.fnOf n q (Jhk st) (Jh5 st) (Jfr st) .none kV dc pm an cd ct),sl⟩) (c : PySem.W.codeIn K cd q = true) (k : PySem.W.keepIn K (.ref f) = true)
  (hb : ∀ (kV doc pm : Value) (an : Option Addr) (cdv ct : Value) (us : List Value),us.length = ps.length → bindArgs (PySem.W.fnOf n q (Jhk st) (Jh5 st) (Jfr st) .none kV doc pm an cdv ct) ⟨us,[]⟩ = pure (ps.zip us)) : FM K n q st ps f (PySem.W.fnOf n q (Jhk st) (Jh5 st) (Jfr st) .none kV dc pm an cd ct) :=
 ⟨Jme (st:=st) l c k,(Jme (st:=st) l c k).binds hb⟩
theorem xc_mk {K : PySem.W.Frag} {C W fI : Addr} {nm q : Str} {N : Addr} {bs : List Value} {sn : List Str} {sub : List Value} {ab : Bool} {col : Option Bool} {dd : Option Addr} {u v w x y : Option Value}
  (l : K.lookup C = some (excClassObj nm q C N bs (.ref W :: VEm) true sn sub ab col dd u v w x y "ValueError.__new__")) (t : PySem.W.tailIn K VEm (.ref W :: VEm) = true) (a : xcB K C fI = true) : XCls K C W fI:=⟨⟨_,_,_,_,_,_,_,_,_,_,_,_,_,_,l⟩,t,a⟩
theorem ec_mk {K : PySem.W.Frag} {C : Addr} {dd : Option Addr} {cl : ClassData} {s : Array (Option Value)} (l : K.lookup C = some ⟨.type "type",dd,.cls cl,s⟩) (m : PySem.W.mroIn K C (.type "BaseException") = some true) : Jox K C:=⟨⟨_,_,_,l⟩,m⟩
end L2
namespace L2
open PySem PySem.Spec PyProof.Rows PySem.W
section
variable {K : PySem.W.Frag} {g : TG} {σ : St} {H : Hp}
end
end L2
namespace L2
open PySem PySem.Spec PyProof.Rows PySem.W
structure Z2 (z TI TO i1 i2 l1 l2 : Addr) : Prop where
 nd : [z,TI,TO,i1,i2].Nodup
 m1 : l1 ∉ [z,TI,TO,i1,i2]
 m2 : l2 ∉ [z,TI,TO,i1,i2]
section
variable {prog : Program} {w : World} {A : Around} {E : Value → Shared → Prop} {s : Shared}
variable {z TI TO i1 i2 l1 l2 : Addr} {n k : Nat} {P1 P2 : Nat → Value → Prop} {S1 S2 : Nat → Heap → Prop} {a b : Value}
end
section
variable {prog : Program} {w : World} {z TI TO i1 i2 l1 l2 : Addr} {n : Nat} {P1 P2 : Nat → Value → Prop} {S1 S2 : Nat → Heap → Prop}
end
section
variable {prog : Program} {w : World} {A : Around} {E : Value → Shared → Prop} {s : Shared}
end
section
variable {K : PySem.W.Frag} {g : TG} {σ : St} {H : Hp}
end
end L2
namespace L2
open PySem PySem.Spec PyProof.Rows PySem.W
section
variable {X : Cx}
theorem Jmv {bs : List Bool} {n : Nat} (e : n = bs.length) : ((List.range n).all fun j=>bs.getD j false) = bs.all id:=by
 subst e
 rw [Bool.eq_iff_iff,List.all_eq_true,List.all_eq_true]
 constructor
 ·intro h b hb
  obtain ⟨j,hj,rfl⟩:=List.getElem_of_mem hb
  have:=h j (List.mem_range.mpr hj)
  simpa [List.getD,List.getElem?_eq_getElem hj] using this
 ·intro h j hj
  have hj':=List.mem_range.mp hj
  have:=h bs[j] (List.getElem_mem hj')
  simpa [List.getD,List.getElem?_eq_getElem hj'] using this
theorem Jom {s : Shared} {A : Around} {xs ys : List V} {bs : List Bool} {its jts : List Value} (r1 : Vals xs its) (r2 : Vals ys jts) (l1 : xs.length = ys.length) (l2 : bs.length = xs.length)
  (hs : ∀ (i : Nat) x y b,xs[i]? = some x → ys[i]? = some y → bs[i]? = some b → SameOr x y b) : ∀ j (h1 : j < its.toArray.size) (h2 : j < jts.toArray.size),SeqAt.EqAt A s its.toArray[j] jts.toArray[j] (bs.getD j false):=by
 intro j j1 j2
 have e1:=r1.length
 have e2:=r2.length
 simp only [List.size_toArray] at j1 j2
 have a1 : xs[j]? = some xs[j]:=List.getElem?_eq_getElem (by omega)
 have a2 : ys[j]? = some ys[j]:=List.getElem?_eq_getElem (by omega)
 have a3 : bs[j]? = some bs[j]:=List.getElem?_eq_getElem (by omega)
 obtain ⟨u,hu1,ru⟩:=r1.get a1
 obtain ⟨w', hw1,rw'⟩:=r2.get a2
 have b1 : its.toArray[j] = u:=by simpa [List.getElem?_eq_getElem j1] using hu1
 have b2 : jts.toArray[j] = w':=by simpa [List.getElem?_eq_getElem j2] using hw1
 have b3 : bs.getD j false = bs[j]:=by simp [List.getD,a3]
 rw [b1,b2,b3]
 exact (hs j _ _ _ a1 a2 a3).at ru rw'
def rNeL (K : PySem.W.Frag) : R2:=fun x y H Q=>∃ (p q : Addr) (xs ys : List V) (bs : List Bool),x = .ref p ∧ y = .ref q ∧ SqL K H p xs ∧ SqL K H q ys ∧ xs.length = ys.length ∧ bs.length = xs.length ∧
 (∀ (i : Nat) x y b,xs[i]? = some x → ys[i]? = some y → bs[i]? = some b → SameOr x y b) ∧ Q (.bl (!bs.all id)) H
theorem Jnt (hu : X.A.units + 64 < cLine) : OpR X (compareOp .NotEq) (rNeL X.K):=by
 rintro pins s σ H x y v u Q I rx ry ⟨p,q,xs,ys,bs,rfl,rfl,h1,h2,l1,l2,hs,k⟩
 obtain rfl : v = Value.ref p:=rx
 obtain rfl : u = Value.ref q:=ry
 obtain ⟨its,r1,p1,_⟩:=I.list h1
 obtain ⟨jts,r2,p2,_⟩:=I.list h2
 have e1:=r1.length
 have e2:=r2.length
 refine SeqAt.RcNeAt.lists (e:=fun j=>bs.getD j false) p1.isList p2.isList (by simp only [List.size_toArray]; omega) (by omega) (Jom r1 r2 l1 l2 hs) _ _ _ _ ⟨.bl _,H,I,rfl,?_⟩
 rw [Jmv (by simp only [List.size_toArray]; omega)]
 exact k
def rNeT (K : PySem.W.Frag) : R2:=fun x y H Q=>∃ (p q : Addr) (xs ys : List V) (bs : List Bool),x = .ref p ∧ y = .ref q ∧ SqT K H p xs ∧ SqT K H q ys ∧ xs.length = ys.length ∧ bs.length = xs.length ∧
 (∀ (i : Nat) x y b,xs[i]? = some x → ys[i]? = some y → bs[i]? = some b → SameOr x y b) ∧ Q (.bl (!bs.all id)) H
theorem op_neT (hu : X.A.units + 64 < cLine) : OpR X (compareOp .NotEq) (rNeT X.K):=by
 rintro pins s σ H x y v u Q I rx ry ⟨p,q,xs,ys,bs,rfl,rfl,h1,h2,l1,l2,hs,k⟩
 obtain rfl : v = Value.ref p:=rx
 obtain rfl : u = Value.ref q:=ry
 obtain ⟨its,r1,p1,_⟩:=I.tuple h1
 obtain ⟨jts,r2,p2,_⟩:=I.tuple h2
 have e1:=r1.length
 have e2:=r2.length
 refine SeqAt.RcNeAt.tuples (e:=fun j=>bs.getD j false) (show s.heap.IsTuple p its.toArray from p1) (show s.heap.IsTuple q jts.toArray from p2) (by omega) (Jom r1 r2 l1 l2 hs) _ _ _ _ ⟨.bl _,H,I,rfl,?_⟩
 rw [show min its.toArray.size jts.toArray.size = its.toArray.size by simp only [List.size_toArray]; omega,Jmv (by simp only [List.size_toArray]; omega),show (its.toArray.size == jts.toArray.size) = true by simp only [List.size_toArray,beq_iff_eq]; omega,Bool.and_true]
 exact k
def rMinL (K : PySem.W.Frag) : List V → Hp → VK → Prop:=fun xs H Q=>∃ (a : Addr) (ns : List Int),xs = [.ref a] ∧ SqL K H a (ns.map V.int) ∧ ns ≠ [] ∧ ∀ m,m ∈ ns → (∀ n ∈ ns,m ≤ n) → Q (.int m) H
theorem Jlu (hc : X.calm = true) : Jhs X (.builtin "min") (rMinL X.K):=by
 intro pins s σ H xs us Q I r h
 obtain ⟨a,ns,rfl,hq,hne,q⟩:=h
 obtain ⟨u,rfl,ru⟩:=Jii r
 obtain rfl : u = Value.ref a:=ru
 obtain ⟨its,rv,pl,_⟩:=I.list hq
 have hl:=rv.length
 rw [List.length_map] at hl
 have n0 : 0 < ns.length:=List.length_pos_iff.mpr hne
 have ne : a ≠ s.heap.objs.size:=by obtain ⟨o,_,e,_⟩:=pl; exact Nat.ne_of_lt (Heap.lt_size e)
 have fin : ∀ (i : Nat) (v : Value),its.toArray[i]? = some v → ∃ t,v = .int ((fun j=>ns.getD j 0) i) t:=fun i v hv=>by
  have hv' : its[i]? = some v:=by simpa using hv
  have hi : i < ns.length:=by have:=(List.getElem?_eq_some_iff.mp hv').1; omega
  obtain ⟨u', hu', ru'⟩:=rv.get (i:=i) (x:=V.int ns[i]) (by rw [List.getElem?_map,List.getElem?_eq_getElem hi]; rfl)
  rw [hv'] at hu'
  cases hu'
  obtain ⟨t,rfl⟩:=ru'
  exact ⟨t,by simp [List.getD,List.getElem?_eq_getElem hi]⟩
 refine call_min_walk (wpAny_pyIter_list pl.isList ⟨s.heap.objs.size,_,_,its.toArray.size,_,_,_,rfl,Walks.list (prog:=X.prog) (w:=X.w) (A:=X.A.in1) (show X.A.in1.handled = none from I.ok.hd hc) s.heap.objs.size a ne its.toArray,⟨⟨_,Heap.get?_push_size _ rfl,rfl,rfl⟩,pl.isList.push _⟩,fun b hb=>?_,by simp only [List.size_toArray]; omega,CmpOf.ints_lt (fun j=>ns.getD j 0) fin,fun v h' tk hP k=>?_⟩)
 ·rw [Heap.size_push]
  simp only [List.mem_cons,List.not_mem_nil,or_false] at hb
  rcases hb with rfl | rfl
  ·exact Nat.lt_succ_self _
  ·obtain ⟨o,_,e,_⟩:=pl
   exact Nat.lt_succ_of_lt (Heap.lt_size e)
 ·obtain ⟨t,rfl⟩:=fin _ _ hP
  obtain ⟨b1,b2⟩:=argBest_lt (fun j=>ns.getD j 0) (its.toArray.size - 1)
  generalize hA : argBest (fun i j=>decide ((fun j=>ns.getD j 0) i < (fun j=>ns.getD j 0) j)) (its.toArray.size - 1) = m at *
  simp only [List.size_toArray] at b1 b2
  have hm : m < ns.length:=by omega
  have em : ns.getD m 0 = ns[m]:=by simp [List.getD,List.getElem?_eq_getElem hm]
  refine ⟨.int (ns.getD m 0),H,I.kept fun b o e=>k b o (fun z=>by
    have z' : b = s.heap.objs.size:=by simpa using z
    exact absurd (Heap.lt_size e) (by rw [z']; exact Nat.lt_irrefl _)) (Heap.get?_push_of_some _ e),⟨_,rfl⟩,q _ ?_ fun n hn=>?_⟩
  ·rw [em]
   exact List.getElem_mem hm
  ·obtain ⟨j,hj,rfl⟩:=List.getElem_of_mem hn
   have:=b2 j (by omega)
   have ej : ns.getD j 0 = ns[j]:=by simp [List.getD,List.getElem?_eq_getElem hj]
   rw [← ej]
   exact this
open PySem.SeqAt AutoSeq1 MeetsSeq in
theorem Jix (b : Str) (u : Tok) (l C dx : Addr) :
  Meets (Builtin.«str.__eq__» ⟨[.str b u,.ref l],[]⟩) (fun _ R s=>s.heap.get? l = some (PySem.W.instObj C dx) ∧ R (.ok (.ret .notImplemented)) s) :=
 .of_wp fun prog w A R s h=>by obtain ⟨hp,g,d,tk,os⟩:=s; obtain ⟨hl,h⟩:=h; wp_walk using wpAny_loadPart' hl,wpAny_load hl; exact ⟨_,rfl,h⟩
open PySem.SeqAt AutoSeq1 MeetsSeq in
theorem Jiw (b : Str) (u : Tok) (l : Addr) (c : Value) (dd : Option Addr) (es : Array DictEntry) (n : Nat) (sl : Array (Option Value)) :
  Meets (Builtin.«str.__eq__» ⟨[.str b u,.ref l],[]⟩) (fun _ R s=>s.heap.get? l = some { cls:=c,dict:=dd,data:=.dict es n,slots:=sl } ∧ R (.ok (.ret .notImplemented)) s) :=
 .of_wp fun prog w A R s h=>by obtain ⟨hp,g,d,tk,os⟩:=s; obtain ⟨hl,h⟩:=h; wp_walk using wpAny_loadPart' hl,wpAny_load hl; exact ⟨_,rfl,h⟩
open PySem.SeqAt AutoSeq1 MeetsSeq in
theorem Jil (b : Str) (u : Tok) (l : Addr) (dd : Option Addr) (es : Array DictEntry) (n : Nat) (sl : Array (Option Value)) :
  Meets (Builtin.«dict.__eq__» ⟨[.ref l,.str b u],[]⟩) (fun _ R s=>s.heap.get? l = some { cls:=.type "dict",dict:=dd,data:=.dict es n,slots:=sl } ∧ R (.ok (.ret .notImplemented)) s) :=
 .of_wp fun prog w A R s h=>by obtain ⟨hp,g,d,tk,os⟩:=s; obtain ⟨hl,h⟩:=h; have f1:=F.sub_str_dict; wp_walk using wpAny_loadPart' hl,wpAny_load hl; exact ⟨_,rfl,h⟩
structure ECmp (K : PySem.W.Frag) (C : Addr) : Prop where
 e : PySem.W.findIn K (.ref C) "__eq__" = some (some (.builtin "object.__eq__"))
 s : PySem.W.mroIn K C (.type "str") = some false
 o : PySem.W.mroIn K C (.type "object") = some true
theorem Jp5 {M : Model} {A : Around} {E : Value → Shared → Prop} {s : Shared} {x : Addr} {b : Str} {u : Tok} {Q : Fin → Shared → Prop} (hq : Q (.done (.ret .notImplemented)) s) : wpAny M A (Builtin.«object.__eq__» ⟨[.ref x,.str b u],[]⟩) Q E s:=by
 unfold Builtin.«object.__eq__»
 repeat (first | with_reducible refine wpAny_of_eq (rfl : isSame (.ref x) (.str b u) = pure false) ?_ | wp_step)
 exact hq
theorem Jna {prog : Program} {w : World} {A : Around} {E : Value → Shared → Prop} {s : Shared} {K : PySem.W.Frag} {x C dx : Addr} {b : Str} {u : Tok} {Q : Value → Shared → Prop} (X : K.In s.heap) (hx : s.heap.get? x = some (PySem.W.instObj C dx)) (c : ECmp K C) (hu : A.units < cLine)
  (h : Q (.bool false) s) : wpAny (model prog w) A (richCompare .Eq (.str b u) (.ref x)) Q E s:=by
 have T : Looks (model prog w) s.heap (typeOf (.ref x)) (.ref C):=(Looks.ld hx).andThen .now
 have kp : ∀ b o,s.heap.get? b = some o → s.heap.get? b = some o:=fun _ _ e=>e
 have SP : Looks (model prog w) s.heap (specialOf (.ref x) "__eq__") (some (.builtin "object.__eq__")):=T.andThen (looks_findIn X c.e)
 have IO : Looks (model prog w) s.heap (isInstance (.ref x) (.type "object")) true:=T.andThen (looks_mroIn X c.o)
 simp only [richCompare,cmpInfo_Eq,(typeIs_str s b u).oneThing_none]
 refine wpAny_holding ?_
 refine wpAny_bind (wpAny_cRoomFor hu ?_)
 refine wpAny_bind (wpAny_typeOf (typeIs_str s b u) (wpAny_bind (T _ _ _ s kp ?_)))
 rw [if_pos (by rfl)]
 refine wpAny_bind (looks_mroIn X c.s _ _ _ s kp ?_)
 simp only [Bool.false_eq_true,if_false,Bool.not_false,if_true]
 refine wpAny_bind (m:=tryCompare (.str b u) _ (.ref x)) (wpAny_tryCompare_declines (typeIs_str s b u) F.slot_str_eq (call_meets F.slot_str_eq (typeIs_str s b u) F.entry_str_eq (F.args_str_eq_2 _ _) (Jix b u x C dx) ⟨hx,rfl,?_⟩))
 refine wpAny_bind (m:=tryCompare (.ref x) _ (.str b u)) ?_
 simp only [tryCompare]
 refine wpAny_bind ?_
 simp only [callSpecialIfBound?,bindSpecialIfBound?]
 refine wpAny_holding (wpAny_bind (wpAny_bind (SP _ _ _ s kp ?_)))
 simp only [F.cmp_object.eq.bind]
 have fin : wpAny (model prog w) A (call (.builtin "object.__eq__") ([.ref x] ++ [.str b u])) (fun v s'=>v = .notImplemented ∧ s' = s) E s :=
  wpAny_call (codeAny_call_builtin F.cmp_object.eq.plain F.cmpEntry_eq (@PySem.W.check_slot _ _ _ _ "object.__eq__" "object" "__eq__" (.ref x) [.str b u] [] _ F.cmpKind_eq F.cmpSplit_eq IO (F.cmpArgs_eq _ _) (Jp5 ⟨rfl,rfl⟩)))
 refine wpAny_bind (wpAny_askSetting (wpAny_ite ?_))
 split
 ·refine wpAny_bind (wpAny_pure (wpAny_pure ?_))
  refine wpAny_bind (wpAny_mono fin (fun v s' hv=>?_) fun _ _ e=>e)
  obtain ⟨rfl,rfl⟩:=hv
  exact wpAny_pure (wpAny_pure (wpAny_bind (wpAny_rule (wpAny_bind (wpAny_of_eq (rfl : isSame (.str b u) (.ref x) = pure false) (wpAny_pure h))))))
 ·refine wpAny_tryCatch (wpAny_bind (wpAny_pure (wpAny_pure ?_)))
  refine wpAny_bind (wpAny_mono fin (fun v s' hv=>?_) fun _ _ e=>e)
  obtain ⟨rfl,rfl⟩:=hv
  exact wpAny_pure (wpAny_pure (wpAny_bind (wpAny_rule (wpAny_bind (wpAny_of_eq (rfl : isSame (.str b u) (.ref x) = pure false) (wpAny_pure h))))))
theorem Jhd {K : PySem.W.Frag} {q : Addr} {xs : List V} {te : TE} {R : Addr → Hp → Prop} {H : Hp} {o : Option V} {rest : List (Option V)} (ys : List V) (hq : H q = some (.lst xs) ∨ H q = some (.tup xs)) (el : ys.length = xs.length) (sz : xs.length ≤ 2000)
  (he : ∀ (i : Nat) (x y : V) (H' : Hp) (Q : VK),xs[i]? = some x → ys[i]? = some y → Same H H' → (∀ H5,Same H' H5 → Q y H5) → te (some x :: rest) H' Q) (hd : ∀ D H', Same H H' → H' D = some (.lst ys) → R D H') :
  ((∃ xs,SqL K H q xs) ∧ ∀ D,H D = none → ∃ W : Nat → Nat → St → Hp → Prop,(∃ m,W 0 m (o :: rest) (upd H D (.lst []))) ∧ ∀ i m σ' H', W i m σ' H' → ((Itl K q).stop i H' ∧ R D H') ∨ ((Itl K q).go i H' ∧ ∃ N : St → Hp → Prop,(∀ σ2 H2,N σ2 H2 → ∃ m', m' < m ∧ W (i + 1) m' σ2 H2) ∧
   ∀ x H2,(Itl K q).yld i H' x H2 → Jkc 0 x σ' H2 fun σ3 H3=>Jph σ3 H3 fun b H4=>if b = true then te σ3 H4 (fun v H5=>∃ ys,H5 D = some (.lst ys) ∧ ys.length < sizeLine ∧ N σ3 (upd H5 D (.lst (ys ++ [v])))) else N σ3 H4)) ∨
  ((∃ xs,SqT K H q xs) ∧ ∀ D,H D = none → ∃ W : Nat → Nat → St → Hp → Prop,(∃ m,W 0 m (o :: rest) (upd H D (.lst []))) ∧ ∀ i m σ' H', W i m σ' H' → ((Itt K q).stop i H' ∧ R D H') ∨ ((Itt K q).go i H' ∧ ∃ N : St → Hp → Prop,(∀ σ2 H2,N σ2 H2 → ∃ m', m' < m ∧ W (i + 1) m' σ2 H2) ∧
   ∀ x H2,(Itt K q).yld i H' x H2 → Jkc 0 x σ' H2 fun σ3 H3=>Jph σ3 H3 fun b H4=>if b = true then te σ3 H4 (fun v H5=>∃ ys,H5 D = some (.lst ys) ∧ ys.length < sizeLine ∧ N σ3 (upd H5 D (.lst (ys ++ [v])))) else N σ3 H4)):=by
 rcases hq with hq | hq
 ·exact .inl ⟨⟨_,SqL.of hq⟩,fun D hD=>Jht ys hD el sz hq he (hd D)⟩
 ·exact .inr ⟨⟨_,SqT.of hq⟩,fun D hD=>Jlx ys hD el sz hq he (hd D)⟩
end
end L2
namespace L2
open PySem PySem.Spec PyProof.Rows PySem.W
inductive Oth (K : PySem.W.Frag) (H : Hp) : V → Prop where
 | flat {y : V} : Jhf y = true → Oth K H y
 | lst {p : Addr} {xs : List V} : H p = some (.lst xs) → Oth K H (.ref p)
 | tup {p : Addr} {xs : List V} : H p = some (.tup xs) → Oth K H (.ref p)
 | dct {p : Addr} {kvs : List (Key × V)} : H p = some (.dK kvs) → Oth K H (.ref p)
 | ins {p C dx : Addr} {fs : List (Str × V)} : H p = some (.ins C dx fs) → ECmp K C → Oth K H (.ref p)
theorem Oth.same {K : PySem.W.Frag} {H H' : Hp} {x : V} (s : Same H H') (h : Oth K H x) : Oth K H' x:=by
 cases h with
 | flat f=>exact .flat f
 | lst e=>exact .lst (s _ _ e)
 | tup e=>exact .tup (s _ _ e)
 | dct e=>exact .dct (s _ _ e)
 | ins e c=>exact .ins (s _ _ e) c
section
variable {X : Cx}
theorem Jlg {K : PySem.W.Frag} (h : X.K = K) : OpR X (compareOp .NotIn) (rIn K true):=by subst h; exact Jid
theorem Jrk (hu : X.A.units + 64 < cLine) : OpR X (compareOp .Eq) (fun x y H Q=>∃ z,x = .str z ∧ Oth X.K H y ∧ Q (.bl (decide (x = y))) H):=by
 rintro pins s σ H x y v u Q I rx ry ⟨z,rfl,ot,q⟩
 cases ot with
 | flat f =>
  refine Jig pins s σ H _ y v u Q I rx ry ⟨?_,q⟩
  cases y with
  | non=>rfl
  | bl b=>rfl
  | int i=>rfl
  | str i=>rfl
  | _=>cases f
 | @lst p xs e =>
  rw [decide_eq_false (by intro h; cases h)] at q
  obtain ⟨t,rfl⟩:=rx
  obtain rfl : u = Value.ref p:=ry
  obtain ⟨its,rv,pl,_⟩:=I.list (SqL.of e)
  exact SeqAt.RcAt.str_list z t pl.isList (by omega) _ _ _ _ ⟨.bl _,H,I,rfl,q⟩
 | @tup p xs e =>
  rw [decide_eq_false (by intro h; cases h)] at q
  obtain ⟨t,rfl⟩:=rx
  obtain rfl : u = Value.ref p:=ry
  obtain ⟨its,rv,pt,_⟩:=I.tuple (SqT.of e)
  exact SeqAt.RcAt.str_tuple z t (show s.heap.IsTuple p its.toArray from pt) (by omega) _ _ _ _ ⟨.bl _,H,I,rfl,q⟩
 | @dct p kvs e =>
  rw [decide_eq_false (by intro h; cases h)] at q
  obtain ⟨t,rfl⟩:=rx
  obtain rfl : u = Value.ref p:=ry
  obtain ⟨_,hd,vs,rv,o,es,ep,ho,ex,hd2,_⟩:=dk_of I.hok e
  obtain ⟨c,dd,dt,sl⟩:=o
  obtain ⟨e1,e2,e3⟩:=ex
  simp only at e1 e2 e3 hd2
  subst e1 e2 e3 hd2
  exact SeqAt.rc_eq_decline_or (k:=false) (typeIs_str s z t) ⟨_,ho,rfl⟩ (by decide) F.sub_dict_str F.slot_str_eq F.slot_dict_eq_refl
   (fun _ hq=>call_meets F.slot_str_eq (typeIs_str s z t) F.entry_str_eq (F.args_str_eq_2 _ _) (Jiw z t p (.type "dict") none es ep #[]) ⟨ho,hq⟩)
   (fun _ hq=>call_meets F.slot_dict_eq_refl ⟨_,ho,rfl⟩ F.entry_dict_eq (F.args_dict_eq_2 _ _) (Jil z t p none es ep #[]) ⟨ho,hq⟩)
   (fun _ hq=>wpAny_of_eq (rfl : isSame (.str z t) (.ref p) = pure false) hq) (.inr (by omega)) ⟨.bl _,H,I,rfl,q⟩
 | @ins p C dx fs e c =>
  rw [decide_eq_false (by intro h; cases h)] at q
  obtain ⟨t,rfl⟩:=rx
  obtain rfl : u = Value.ref p:=ry
  obtain ⟨_,_,_,ho,_⟩:=(show ObjOk X.prog X.w H s.heap p (.ins C dx fs) from I.hok p _ e)
  exact Jna I.kIn ho c (by omega) ⟨.bl _,H,I,rfl,q⟩
end
end L2
namespace L2
open PySem PySem.Spec PyProof.Rows PySem.W
section
variable {X : Cx}
def rNeE (K : PySem.W.Frag) : R2:=fun x y H Q=>∃ (p q : Addr) (xs : List V),x = .ref p ∧ y = .ref q ∧ SqL K H p xs ∧ SqL K H q [] ∧ Q (.bl (!xs.isEmpty)) H
theorem Jq8 (hu : X.A.units + 64 < cLine) : OpR X (compareOp .NotEq) (rNeE X.K):=by
 rintro pins s σ H x y v u Q I rx ry ⟨p,q,xs,rfl,rfl,h1,h2,k⟩
 cases xs with
 | nil=>exact Jnt hu pins s σ H _ _ v u Q I rx ry ⟨p,q,[],[],[],rfl,rfl,h1,h2,rfl,rfl,fun i x y b e=>by simp at e,k⟩
 | cons c r =>
  obtain rfl : v = Value.ref p:=rx
  obtain rfl : u = Value.ref q:=ry
  obtain ⟨its,r1,p1,_⟩:=I.list h1
  obtain ⟨jts,r2,p2,_⟩:=I.list h2
  have e1:=r1.length
  have e2:=r2.length
  refine SeqAt.RcNeAt.lists_lengths p1.isList p2.isList ?_ (by omega) _ _ _ _ ⟨.bl _,H,I,rfl,k⟩
  simp only [List.size_toArray,bne_iff_ne]
  rw [← e1,← e2]
  simp
end
end L2

namespace K05
open PySem L2 PyProof.Rows PySem.NumText
def top (i : Nat) : Stmt:=PySem.Challenge.pw_weirwatch_k05_rivers_made.main.body.getD i (.Pass ⟨0,0,0,0⟩)
structure Ad where
 Jcy : Addr
 Jcz : FuncData
 Jd0 : Addr
 Jd1 : FuncData
 Jd2 : Addr
 Jd3 : FuncData
 Jd4 : Addr
 Jd5 : FuncData
 Jd6 : Addr
 Jd7 : FuncData
 Jd8 : Addr
 Jd9 : FuncData
 Jda : Addr
 Jdb : FuncData
 Jdc : Addr
 Jdd : FuncData
 Jde : Addr
 Jdf : FuncData
 Jdg : Addr
 Jdh : FuncData
 Jdi : Addr
 Jdj : FuncData
 Jdk : Addr
 Jdl : FuncData
 Jdm : Addr
 Jdn : FuncData
 Jdo : Addr
 Jdp : FuncData
 Jdq : Addr
 Jdr : FuncData
 Jds : Addr
 Jdt : FuncData
 Jdu : Addr
 Jdv : FuncData
 Jdw : Addr
 Jdx : FuncData
 Jdy : Addr
 Jdz : FuncData
 Je0 : Addr
 Je1 : FuncData
 Je2 : Addr
 Je3 : FuncData
 Je4 : Addr
 Je5 : FuncData
 Je6 : Addr
 Je7 : FuncData
 Je8 : Addr
 Je9 : FuncData
 Jea : Addr
 Jeb : FuncData
 Jec : Addr
 Jed : FuncData
 Jee : Addr
 Jef : FuncData
 Jeg : Addr
 Jeh : FuncData
 Jei : Addr
 Jej : FuncData
 Jek : Addr
 Jel : FuncData
 Jem : Addr
 Jen : FuncData
 Jeo : Addr
 Jep : FuncData
 Jeq : Addr
 Jer : FuncData
 Jes : Addr
 Jet : FuncData
 Jeu : Addr
 Jev : FuncData
 a_law : Addr
 d_law : FuncData
 Jew : Tok
 Jex : Tok
 Jey : Tok
 Jez : Tok
 Jf0 : Tok
 Jf1 : Tok
 Jf2 : Tok
 Jf3 : Tok
 Jf4 : Tok
 Jf5 : Tok
 Jf6 : Addr
 Jf7 : Addr
 Jf8 : Addr
 Jf9 : Addr
 Jfa : Addr
 Jfb : Addr
 Jfc : Addr
 Jfd : Addr
 Jfe : Addr
 Jff : Addr
 Jfg : Addr
 Jfh : Addr
structure Tx (K : W.Frag) (mg : Str → Option Value) (a : Ad) : Prop where
 J0 : FT K mg "is_whole" (top 12) ["thing","low","high"] a.Jda a.Jdb
 J1 : FT K mg "is_made_of" (top 13) ["text","signs"] a.Jdc a.Jdd
 J2 : FT K mg "is_name" (top 14) ["thing"] a.Jde a.Jdf
 J3 : FT K mg "are_marks" (top 18) ["thing","lowest"] a.Jdg a.Jdh
 J4 : FT K mg "kept_marks" (top 19) ["marks","lowest"] a.Jdi a.Jdj
 J5 : FT K mg "refuse_no_level" (top 30) ["thing","low","high"] a.Jdm a.Jdn
 J6 : FT K mg "are_unlike" (top 33) ["names"] a.Jds a.Jdt
 J7 : FT K mg "are_basins" (top 34) ["thing"] a.Jdu a.Jdv
 J8 : FT K mg "are_towns" (top 35) ["thing","basins"] a.Jdw a.Jdx
 J9 : FT K mg "_law_cell" (top 38) ["_law_script","_law_k"] a.Je4 a.Je5
 Ja : FT K mg "_law_stream" (top 39) ["_law_cell_here"] a.Je6 a.Je7
 Jb : FT K mg "_law_take" (top 40) ["_law_stream_here","_law_many"] a.Je8 a.Je9
 Jc : FT K mg "_law_names" (top 41) ["_law_stream_here","_law_many"] a.Jea a.Jeb
 Jd : FT K mg "_law_river" (top 42) ["_law_stream_here"] a.Jec a.Jed
 Je : FT K mg "_law_no_number" (top 43) ["_law_stream_here","_law_high"] a.Jee a.Jef
 Jf : FT K mg "_law_no_basins" (top 44) ["_law_stream_here","_law_basins"] a.Jeg a.Jeh
 Jg : FT K mg "_law_strange" (top 45) ["_law_basins"] a.Jei a.Jej
 Jh : FT K mg "_law_no_towns" (top 46) ["_law_stream_here","_law_basins","_law_towns"] a.Jek a.Jel
 Ji : FT K mg "_law_spoilt" (top 47) ["_law_stream_here","_law_parts","_law_good"] a.Jem a.Jen
 Jj : FT K mg "_law_due" (top 48) ["_law_bad"] a.Jeo a.Jep
 Jk : FT K mg "_law_told" (top 49) ["_law_e","_law_word","_law_thing"] a.Jeq a.Jer
 Jl : FT K mg "_law_made" (top 50) ["_law_parts"] a.Jes a.Jet
 Jm : FT K mg "_law_right" (top 51) ["_law_river_here","_law_good"] a.Jeu a.Jev
 f_law : FT K mg "law" (top 52) ["_law_script"] a.a_law a.d_law
 Jn : mg "LETTERS" = some (.str "abcdefghijklmnopqrstuvwxyz" a.Jew)
 Jo : mg "MOST_LETTERS" = some (.int 8 a.Jex)
 Jp : mg "MOST_SETTINGS" = some (.int 4 a.Jey)
 Jq : mg "HIGHEST_MARK" = some (.int 12 a.Jez)
 Jr : mg "HIGHEST" = some (.int 12 a.Jf0)
 Js : mg "MOST_RAIN" = some (.int 6 a.Jf1)
 Jt : mg "MOST_WANT" = some (.int 6 a.Jf2)
 Ju : mg "MOST_CLOUD" = some (.int 12 a.Jf3)
 Jv : mg "MOST_BASINS" = some (.int 16 a.Jf4)
 Jw : mg "MOST_TOWNS" = some (.int 3 a.Jf5)
 Jx : mg "all" = none
 Jy : mg "bool" = none
 Jz : mg "enumerate" = none
 Ja0 : mg "int" = none
 Ja1 : mg "isinstance" = none
 Ja2 : mg "len" = none
 Ja3 : mg "list" = none
 Ja4 : mg "max" = none
 Ja5 : mg "min" = none
 Ja6 : mg "range" = none
 Ja7 : mg "set" = none
 Ja8 : mg "str" = none
 Ja9 : mg "tuple" = none
 Jaa : mg "WeirError" = some (.ref a.Jf6)
 Jab : mg "NoName" = some (.ref a.Jf7)
 Jac : mg "NoGate" = some (.ref a.Jf8)
 Jad : mg "NoBasin" = some (.ref a.Jf9)
 Jae : mg "NoTown" = some (.ref a.Jfa)
 Jaf : mg "NoCloud" = some (.ref a.Jfb)
 Jag : mg "NoRiver" = some (.ref a.Jfc)
 Jah : mg "Gate" = some (.ref a.Jfd)
 Jai : mg "StepGate" = some (.ref a.Jfe)
 Jaj : mg "Basin" = some (.ref a.Jff)
 Jak : mg "Town" = some (.ref a.Jfg)
 Jal : mg "River" = some (.ref a.Jfh)
 Jam : FM K "__init__" "NoName.__init__" (Jg0 (top 3) 0) ["self","thing"] a.Jcy a.Jcz
 Jan : FM K "__init__" "NoGate.__init__" (Jg0 (top 4) 0) ["self","thing"] a.Jd0 a.Jd1
 Jao : FM K "__init__" "NoBasin.__init__" (Jg0 (top 5) 0) ["self","thing"] a.Jd2 a.Jd3
 Jap : FM K "__init__" "NoTown.__init__" (Jg0 (top 6) 0) ["self","thing"] a.Jd4 a.Jd5
 Jaq : FM K "__init__" "NoCloud.__init__" (Jg0 (top 7) 0) ["self","thing"] a.Jd6 a.Jd7
 Jar : FM K "__init__" "NoRiver.__init__" (Jg0 (top 8) 0) ["self","thing"] a.Jd8 a.Jd9
 Jas : FM K "__init__" "StepGate.__init__" (Jg0 (top 22) 0) ["self","marks"] a.Jdk a.Jdl
 Jat : FM K "__init__" "Basin.__init__" (Jg0 (top 31) 0) ["self","name","low","high","start","rain","gate"] a.Jdo a.Jdp
 Jau : FM K "__init__" "Town.__init__" (Jg0 (top 32) 0) ["self","name","basin","want"] a.Jdq a.Jdr
 Jav : FM K "__init__" "River.__init__" (Jg0 (top 36) 0) ["self","cloud","gain","basins","towns"] a.Jdy a.Jdz
 Jaw : FM K "place_of" "River.place_of" (Jg0 (top 36) 1) ["self","name"] a.Je0 a.Je1
 Jax : FM K "beginning" "River.beginning" (Jg0 (top 36) 2) ["self"] a.Je2 a.Je3
 Jay : XCls K a.Jf7 a.Jf6 a.Jcy
 Jaz : XCls K a.Jf8 a.Jf6 a.Jd0
 Jb0 : NoAttr K a.Jf8 "thing"
 Jb1 : XCls K a.Jf9 a.Jf6 a.Jd2
 Jb2 : NoAttr K a.Jf9 "thing"
 Jb3 : XCls K a.Jfa a.Jf6 a.Jd4
 Jb4 : XCls K a.Jfb a.Jf6 a.Jd6
 Jb5 : Jox K a.Jfb
 Jb6 : NoAttr K a.Jfb "thing"
 Jb7 : XCls K a.Jfc a.Jf6 a.Jd8
 Jb8 : Jox K a.Jfc
 Jb9 : NoAttr K a.Jfc "thing"
 Jba : Cls K a.Jfe
 Jbb : YCls K a.Jfe
 Jbc : Mk K a.Jfe a.Jdk
 Jbd : NoAttr K a.Jfe "marks"
 Jbe : Cls K a.Jff
 Jbf : YCls K a.Jff
 Jbg : Mk K a.Jff a.Jdo
 Jbh : NoAttr K a.Jff "name"
 Jbi : NoAttr K a.Jff "low"
 Jbj : NoAttr K a.Jff "high"
 Jbk : NoAttr K a.Jff "start"
 Jbl : NoAttr K a.Jff "rain"
 Jbm : NoAttr K a.Jff "gate"
 Jbn : Cls K a.Jfg
 Jbo : YCls K a.Jfg
 Jbp : Mk K a.Jfg a.Jdq
 Jbq : NoAttr K a.Jfg "name"
 Jbr : NoAttr K a.Jfg "basin"
 Jbs : NoAttr K a.Jfg "want"
 Jbt : Cls K a.Jfh
 Jbu : Mk K a.Jfh a.Jdy
 Jbv : Jnj K a.Jfh "place_of" a.Je0
 Jbw : Jnj K a.Jfh "beginning" a.Je2
 Jbx : NoAttr K a.Jfh "cloud"
 Jby : NoAttr K a.Jfh "gain"
 Jbz : NoAttr K a.Jfh "basins"
 Jc0 : NoAttr K a.Jfh "towns"
 Jc1 : W.kitOne K (.ref a.Jfe) (.ref a.Jfd) = some true
 Jc2 : W.kitOne K (.type "NoneType") (.ref a.Jff) = some false
 Jc3 : W.kitOne K (.type "int") (.ref a.Jff) = some false
 Jc4 : W.kitOne K (.type "str") (.ref a.Jff) = some false
 Jc5 : W.kitOne K (.type "tuple") (.ref a.Jff) = some false
 Jc6 : W.kitOne K (.type "NoneType") (.ref a.Jfg) = some false
 Jc7 : W.kitOne K (.type "int") (.ref a.Jfg) = some false
 Jc8 : W.kitOne K (.type "str") (.ref a.Jfg) = some false
 Jc9 : W.kitOne K (.type "tuple") (.ref a.Jfg) = some false
 Jca : W.kitOne K (.ref a.Jff) (.ref a.Jff) = some true
 Jcb : W.kitOne K (.ref a.Jff) (.ref a.Jfg) = some false
 Jcc : W.kitOne K (.ref a.Jfg) (.ref a.Jff) = some false
 Jcd : W.kitOne K (.ref a.Jfg) (.ref a.Jfg) = some true
 Jce : W.kitAny K (.ref a.Jff) [.type "list",.type "tuple"] = some false
 Jcf : W.kitOne K (.ref a.Jff) (.type "bool") = some false
 Jcg : W.findIn K (.ref a.Jff) "__eq__" = some (some (.builtin "object.__eq__"))
 Jch : W.mroIn K a.Jff (.type "str") = some false
 Jci : W.mroIn K a.Jff (.type "object") = some true
 Jcj : W.kitOne K (.ref a.Jfb) (.ref a.Jfb) = some true
 Jck : W.kitOne K (.ref a.Jfb) (.ref a.Jfc) = some false
 Jcl : W.kitOne K (.ref a.Jfb) (.ref a.Jf9) = some false
 Jcm : W.kitOne K (.ref a.Jfb) (.ref a.Jf7) = some false
 Jcn : W.kitOne K (.ref a.Jfb) (.ref a.Jfa) = some false
 Jco : W.kitOne K (.ref a.Jfc) (.ref a.Jfb) = some false
 Jcp : W.kitOne K (.ref a.Jfc) (.ref a.Jfc) = some true
 Jcq : W.kitOne K (.ref a.Jfc) (.ref a.Jf9) = some false
 Jcr : W.kitOne K (.ref a.Jfc) (.ref a.Jf7) = some false
 Jcs : W.kitOne K (.ref a.Jfc) (.ref a.Jfa) = some false
 Jct : W.kitOne K (.ref a.Jfb) (.ref a.Jf6) = some true
 Jcu : W.kitOne K (.ref a.Jfc) (.ref a.Jf6) = some true
 Jcv : W.mroIn K a.Jfb (.ref a.Jfb) = some true
 Jcw : W.mroIn K a.Jfc (.ref a.Jfb) = some false
 Jcx : W.mroIn K a.Jfc (.ref a.Jfc) = some true
def Ji2 : Int → List V → Bool
 | _,[]=>true
 | lo,.int i :: r=>(decide (lo ≤ i) && decide (i ≤ 12)) && Ji2 (i + 1) r
 | _,_ :: _=>false
def Jl9 (lo : Int) (xs : List V) : Bool:=decide (1 ≤ xs.length ∧ xs.length ≤ 4) && Ji2 lo xs
theorem Jkf (lo : Int) (x : V) (r : List V) : Ji2 lo (x :: r) = (Jhj x lo 12 && match x with | .int i=>Ji2 (i + 1) r | _=>false):=by
 cases x <;> simp [Ji2,Jhj]
inductive Sq (H : Hp) : V → List V → Prop where
 | lst {p : Addr} {xs : List V} : H p = some (.lst xs) → Sq H (.ref p) xs
 | tup {p : Addr} {xs : List V} : H p = some (.tup xs) → Sq H (.ref p) xs
theorem Sq.same {H H' : Hp} {x : V} {xs : List V} (s : Same H H') (h : Sq H x xs) : Sq H' x xs:=by
 cases h with
 | lst e=>exact .lst (s _ _ e)
 | tup e=>exact .tup (s _ _ e)
theorem Sq.ty {K : W.Frag} {H : Hp} {x : V} {xs : List V} (h : Sq H x xs) : ∃ t,TyX K H x t ∧ tpB t = true ∧ W.kitAny K t [.type "list",.type "tuple"] = some true:=by
 cases h with
 | lst e=>exact ⟨_,.of (.lst e),rfl,rfl⟩
 | tup e=>exact ⟨_,.of (.tup e),rfl,rfl⟩
inductive Shp (K : W.Frag) (H : Hp) (lo : Int) : V → Bool → Prop where
 | seq {x : V} {xs : List V} : Sq H x xs → (∀ y ∈ xs,Tm K H y) → Shp K H lo x (Jl9 lo xs)
 | non {x : V} {t : Value} : TyX K H x t → W.kitAny K t [.type "list",.type "tuple"] = some false → Shp K H lo x false
def spAre (K : W.Frag) : Sp:=fun vs H Q _=>∃ (x : V) (lo : Int) (b : Bool),vs = [x,.int lo] ∧ Shp K H lo x b ∧ ∀ H', Same H H' → Q (.bl b) H'
def Rf (a : Ad) (H H' : Hp) (x : V) (c : Value) (eo : Option Addr) : Prop:=∃ e dx,c = .ref a.Jf8 ∧ eo = some e ∧ Same H H' ∧ H' e = some (XO e a.Jf8 (some dx) false) ∧ H' dx = some (XD dx [("thing",x)])
theorem Rf.of {a : Ad} {H H1 H' : Hp} {x : V} {c : Value} {eo : Option Addr} (s : Same H H1) (h : Rf a H1 H' x c eo) : Rf a H H' x c eo:=by
 obtain ⟨e,dx,h1,h2,h3,h4,h5⟩:=h
 exact ⟨e,dx,h1,h2,s.trans h3,h4,h5⟩
theorem Rf.new {a : Ad} {H : Hp} {x : V} {e dx : Addr} (h1 : H e = none) (h2 : H dx = none) (ne : dx ≠ e) : Rf a H (upd (upd (upd H dx (XD dx [("thing",x)])) e (XO e a.Jf8 (some dx) true)) e (XO e a.Jf8 (some dx) false)) x (.ref a.Jf8) (some e):=by
 refine ⟨e,dx,rfl,rfl,?_,Jfj,?_⟩
 ·rw [Ji1]
  intro b o q
  rw [Jfp (Jfo q h1),Jfp (Jfo q h2)]
  exact q
 ·rw [Jfp ne,Jfp ne,Jfj]
def spKept (K : W.Frag) (a : Ad) : Sp:=fun vs H Q E=>∃ (x : V) (lo : Int),vs = [x,.int lo] ∧
 ((∃ xs,Sq H x xs ∧ (∀ y ∈ xs,Tm K H y) ∧ Jl9 lo xs = true ∧ ∀ t H', Same H H' → H' t = some (.tup xs) → Q (.ref t) H') ∨ (Shp K H lo x false ∧ ∀ c eo H', Rf a H H' x c eo → E c eo H'))
def Jqn (K : W.Frag) (a : Ad) (lo : Int) : Sp:=fun vs H Q E=>∃ (p C dx : Addr) (x : V),vs = [.ref p,x] ∧ H p = some (.ins C dx []) ∧ Cls K C ∧ NoAttr K C "marks" ∧
 ((∃ xs,Sq H x xs ∧ (∀ y ∈ xs,Tm K H y) ∧ Jl9 lo xs = true ∧ ∀ t H', Same H H' → H' t = some (.tup xs) → Q .non (upd H' p (.ins C dx [("marks",.ref t)]))) ∨ (Shp K H lo x false ∧ ∀ c eo H', Rf a H H' x c eo → E c eo H'))
def LET : Str := "abcdefghijklmnopqrstuvwxyz"
def Jln (g z : Str) : Bool:=z.cps.toList.all fun c=>decide (c ∈ g.cps.toList)
def Jgk (z : Str) : Bool:=decide (1 ≤ z.length ∧ z.length ≤ 8) && Jln LET z
structure Wd (n : Nat) (z : Str) : Prop where
 len : z.length ≤ n
 low : ∀ c ∈ z.cps.toList,c < 128
theorem Jkp (z : Str) : z.cps.toList.length = z.length:=Array.length_toList
theorem Jm9 {g : Str} {r : Int} (h0 : 0 ≤ r) (h1 : r < g.length) : ∃ c,c ∈ g.cps.toList ∧ atI g.cps.toList r = some c:=by
 obtain ⟨n,rfl⟩:=Int.eq_ofNat_of_zero_le h0
 have hn : n < g.cps.toList.length:=by rw [Jkp]; omega
 exact ⟨g.cps.toList[n],List.getElem_mem hn,Jhb (List.getElem?_eq_getElem hn)⟩
theorem Jka {z : Str} {n : Nat} (h : (decide (z.length ≤ n) && z.cps.toList.all (fun c=>decide (c < 128))) = true) : Wd n z:=by
 rw [Bool.and_eq_true] at h
 exact ⟨of_decide_eq_true h.1,fun c hc=>of_decide_eq_true (List.all_eq_true.mp h.2 c hc)⟩
theorem wd_let : Wd 26 LET:=Jka (by decide +kernel)
def nameV : V → Bool
 | .str z=>Jgk z
 | _=>false
def Nmd (K : W.Frag) (H : Hp) (x : V) : Prop:=Tm K H x ∧ ∀ z,x = .str z → Wd 50 z
def spMade : Sp:=fun vs H Q _=>∃ z g : Str,vs = [.str z,.str g] ∧ z.length ≤ 2000 ∧ ∀ H', Same H H' → Q (.bl (Jln g z)) H'
def spName (K : W.Frag) : Sp:=fun vs H Q _=>∃ x : V,vs = [x] ∧ Nmd K H x ∧ ∀ H', Same H H' → Q (.bl (nameV x)) H'
def RfC (C : Addr) (H H' : Hp) (x : V) (c : Value) (eo : Option Addr) : Prop:=∃ e dx,c = .ref C ∧ eo = some e ∧ Same H H' ∧ H' e = some (XO e C (some dx) false) ∧ H' dx = some (XD dx [("thing",x)])
theorem RfC.of {C : Addr} {H H1 H' : Hp} {x : V} {c : Value} {eo : Option Addr} (s : Same H H1) (h : RfC C H1 H' x c eo) : RfC C H H' x c eo:=by
 obtain ⟨e,dx,h1,h2,h3,h4,h5⟩:=h
 exact ⟨e,dx,h1,h2,s.trans h3,h4,h5⟩
theorem RfC.new {C : Addr} {H : Hp} {x : V} {e dx : Addr} (h1 : H e = none) (h2 : H dx = none) (ne : dx ≠ e) : RfC C H (upd (upd (upd H dx (XD dx [("thing",x)])) e (XO e C (some dx) true)) e (XO e C (some dx) false)) x (.ref C) (some e):=by
 refine ⟨e,dx,rfl,rfl,?_,Jfj,?_⟩
 ·rw [Ji1]
  intro b o q
  rw [Jfp (Jfo q h1),Jfp (Jfo q h2)]
  exact q
 ·rw [Jfp ne,Jfp ne,Jfj]
def Jpe (K : W.Frag) (a : Ad) : Sp:=fun vs H Q E=>∃ (x : V) (lo hi : Int),vs = [x,.int lo,.int hi] ∧ Tm K H x ∧ ((Jhj x lo hi = true ∧ Q .non H) ∨ (Jhj x lo hi = false ∧ ∀ c eo H', RfC a.Jf9 H H' x c eo → E c eo H'))
def basF (n lo hi st rn g : V) : List (Str × V):=[("name",n),("low",lo),("high",hi),("start",st),("rain",rn),("gate",g)]
def twnF (n b wt : V) : List (Str × V):=[("name",n),("basin",b),("want",wt)]
theorem Jhq {K : W.Frag} {H H' : Hp} {x : V} {t : Value} (s : Same H H') (h : TyX K H x t) : TyX K H' x t:=h.same (fun b o _ q=>s b o q) (fun b fs q=>s b _ q)
theorem ty_str {K : W.Frag} {H : Hp} {x : V} {t : Value} (h : TyX K H x t) (e : t = .type "str") : ∃ z,x = .str z:=by
 cases h with
 | exc=>cases e
 | of ty =>
  cases ty with
  | str z=>exact ⟨z,rfl⟩
  | ins=>cases e
  | non=>exact absurd (Value.type.inj e) (by decide)
  | bl=>exact absurd (Value.type.inj e) (by decide)
  | int=>exact absurd (Value.type.inj e) (by decide)
  | flt=>exact absurd (Value.type.inj e) (by decide)
  | lst=>exact absurd (Value.type.inj e) (by decide)
  | frz=>exact absurd (Value.type.inj e) (by decide)
  | tup=>exact absurd (Value.type.inj e) (by decide)
  | dK=>exact absurd (Value.type.inj e) (by decide)
  | dT=>exact absurd (Value.type.inj e) (by decide)
structure Bsn where
 z : Str
 lo : Int
 hi : Int
 st : Int
 rn : Int
 g : V
def BasAt (a : Ad) (H : Hp) (o : Addr) (B : Bsn) : Prop:=∃ dx,H o = some (.ins a.Jff dx (basF (.str B.z) (.int B.lo) (.int B.hi) (.int B.st) (.int B.rn) B.g))
theorem BasAt.same {a : Ad} {H H' : Hp} {o : Addr} {B : Bsn} (s : Same H H') (h : BasAt a H o B) : BasAt a H' o B:=let ⟨dx,h1⟩:=h; ⟨dx,s _ _ h1⟩
structure Twn where
 z : Str
 b : Str
 wt : Int
def TwnAt (a : Ad) (H : Hp) (o : Addr) (B : Twn) : Prop:=∃ dx,H o = some (.ins a.Jfg dx (twnF (.str B.z) (.str B.b) (.int B.wt)))
theorem TwnAt.same {a : Ad} {H H' : Hp} {o : Addr} {B : Twn} (s : Same H H') (h : TwnAt a H o B) : TwnAt a H' o B:=let ⟨dx,h1⟩:=h; ⟨dx,s _ _ h1⟩
def RowL {β : Type} (F : Addr → β → Prop) : List Addr → List β → Prop
 | [],[]=>True
 | o :: os,B :: Bs=>F o B ∧ RowL F os Bs
 | _,_=>False
theorem RowL.imp {β : Type} {F G : Addr → β → Prop} (f : ∀ o B,F o B → G o B) : ∀ {os : List Addr} {Bs : List β},RowL F os Bs → RowL G os Bs
 | [],[],_=>True.intro
 | _ :: _,_ :: _,⟨h,t⟩=>⟨f _ _ h,RowL.imp f t⟩
theorem RowL.len {β : Type} {F : Addr → β → Prop} : ∀ {os : List Addr} {Bs : List β},RowL F os Bs → os.length = Bs.length
 | [],[],_=>rfl
 | _ :: _,_ :: _,⟨_,t⟩=>by rw [List.length_cons,List.length_cons,RowL.len t]
theorem RowL.get {β : Type} {F : Addr → β → Prop} : ∀ {os : List Addr} {Bs : List β} {i : Nat} {v : V},RowL F os Bs → (os.map V.ref)[i]? = some v → ∃ o B,v = .ref o ∧ os[i]? = some o ∧ Bs[i]? = some B ∧ F o B
 | _ :: _,B :: _,0,v,⟨h,_⟩,e=>⟨_,B,by simpa using e.symm,rfl,rfl,h⟩
 | _ :: _,_ :: _,i + 1,v,⟨_,t⟩,e=>RowL.get (i:=i) t (by simpa using e)
 | [],[],i,v,_,e=>by simp at e
theorem RowL.app {β : Type} {F : Addr → β → Prop} : ∀ {os ps : List Addr} {Bs Cs : List β},RowL F os Bs → RowL F ps Cs → RowL F (os ++ ps) (Bs ++ Cs)
 | [],_,[],_,_,h=>h
 | _ :: _,_,_ :: _,_,⟨h,t⟩,q=>⟨h,RowL.app t q⟩
theorem RowL.take {β : Type} {F : Addr → β → Prop} : ∀ {os : List Addr} {Bs : List β} (n : Nat),RowL F os Bs → RowL F (os.take n) (Bs.take n)
 | [],[],_,_=>by simp [RowL]
 | _ :: _,_ :: _,0,_=>True.intro
 | _ :: _,_ :: _,n + 1,⟨h,t⟩=>⟨h,RowL.take n t⟩
theorem RowL.drop {β : Type} {F : Addr → β → Prop} : ∀ {os : List Addr} {Bs : List β} (n : Nat),RowL F os Bs → RowL F (os.drop n) (Bs.drop n)
 | [],[],_,_=>by simp [RowL]
 | _ :: _,_ :: _,0,h=>h
 | _ :: _,_ :: _,n + 1,⟨_,t⟩=>RowL.drop n t
abbrev BasL (a : Ad) (H : Hp):=RowL (BasAt a H)
abbrev TwnL (a : Ad) (H : Hp):=RowL (TwnAt a H)
theorem BasL.same {a : Ad} {H H' : Hp} {os : List Addr} {Bs : List Bsn} (s : Same H H') (h : BasL a H os Bs) : BasL a H' os Bs:=h.imp fun _ _ q=>q.same s
theorem TwnL.same {a : Ad} {H H' : Hp} {os : List Addr} {Bs : List Twn} (s : Same H H') (h : TwnL a H os Bs) : TwnL a H' os Bs:=h.imp fun _ _ q=>q.same s
def Jqs (K : W.Frag) : Sp:=fun vs H Q _=>∃ (l : Addr) (zs : List Str),vs = [.ref l] ∧ SqL K H l (zs.map V.str) ∧ zs.length ≤ 2000 ∧ ∀ H', Same H H' → Q (.bl (decide ((uq zs).length = zs.length))) H'
def SqA (H : Hp) (q : Addr) (vs : List V) : Prop:=H q = some (.lst vs) ∨ H q = some (.tup vs)
theorem SqA.same {H H' : Hp} {q : Addr} {vs : List V} (s : Same H H') (h : SqA H q vs) : SqA H' q vs:=h.imp (s _ _) (s _ _)
def IsK (K : W.Frag) (H : Hp) (C : Addr) (x : V) (b : Bool) : Prop:=∃ t,TyX K H x t ∧ W.kitOne K t (.ref C) = some b
theorem IsK.same {K : W.Frag} {H H' : Hp} {C : Addr} {x : V} {b : Bool} (s : Same H H') (h : IsK K H C x b) : IsK K H' C x b:=let ⟨t,h1,h2⟩:=h; ⟨t,Jhq s h1,h2⟩
inductive BasIs (K : W.Frag) (a : Ad) (H : Hp) : V → Bool → Prop where
 | non {x : V} {t : Value} : TyX K H x t → W.kitAny K t [.type "list",.type "tuple"] = some false → BasIs K a H x false
 | len {q : Addr} {vs : List V} : SqA H q vs → ¬ (1 ≤ vs.length ∧ vs.length ≤ 16) → BasIs K a H (.ref q) false
 | odd {q : Addr} {vs : List V} {bs : List Bool} : SqA H q vs → (1 ≤ vs.length ∧ vs.length ≤ 16) → bs.length = vs.length → (∀ (i : Nat) v b,vs[i]? = some v → bs[i]? = some b → IsK K H a.Jff v b) → bs.all id = false → BasIs K a H (.ref q) false
 | row {q : Addr} {os : List Addr} {Bs : List Bsn} : SqA H q (os.map V.ref) → (1 ≤ Bs.length ∧ Bs.length ≤ 16) → BasL a H os Bs → BasIs K a H (.ref q) (decide ((uq (Bs.map (·.z))).length = (Bs.map (·.z)).length))
theorem BasIs.same {K : W.Frag} {a : Ad} {H H' : Hp} {x : V} {b : Bool} (s : Same H H') (h : BasIs K a H x b) : BasIs K a H' x b:=by
 cases h with
 | non t e=>exact .non (Jhq s t) e
 | len q n=>exact .len (q.same s) n
 | odd q n l f e=>exact .odd (q.same s) n l (fun i v b h1 h2=>(f i v b h1 h2).same s) e
 | row q n l=>exact .row (q.same s) n (l.same s)
def Jqm (K : W.Frag) (a : Ad) : Sp:=fun vs H Q _=>∃ (x : V) (b : Bool),vs = [x] ∧ BasIs K a H x b ∧ ∀ H', Same H H' → Q (.bl b) H'
inductive TwnIs (K : W.Frag) (a : Ad) (H : Hp) (zs : List Str) : V → Bool → Prop where
 | non {x : V} {t : Value} : TyX K H x t → W.kitAny K t [.type "list",.type "tuple"] = some false → TwnIs K a H zs x false
 | len {q : Addr} {vs : List V} : SqA H q vs → 3 < vs.length → TwnIs K a H zs (.ref q) false
 | odd {q : Addr} {vs : List V} {bs : List Bool} : SqA H q vs → vs.length ≤ 3 → bs.length = vs.length → (∀ (i : Nat) v b,vs[i]? = some v → bs[i]? = some b → IsK K H a.Jfg v b) → bs.all id = false → TwnIs K a H zs (.ref q) false
 | row {q : Addr} {os : List Addr} {Bs : List Twn} : SqA H q (os.map V.ref) → Bs.length ≤ 3 → TwnL a H os Bs → TwnIs K a H zs (.ref q) (decide ((uq (Bs.map (·.z))).length = (Bs.map (·.z)).length) && Bs.all fun t=>decide (t.b ∈ zs))
theorem TwnIs.same {K : W.Frag} {a : Ad} {H H' : Hp} {zs : List Str} {x : V} {b : Bool} (s : Same H H') (h : TwnIs K a H zs x b) : TwnIs K a H' zs x b:=by
 cases h with
 | non t e=>exact .non (Jhq s t) e
 | len q n=>exact .len (q.same s) n
 | odd q n l f e=>exact .odd (q.same s) n l (fun i v b h1 h2=>(f i v b h1 h2).same s) e
 | row q n l=>exact .row (q.same s) n (l.same s)
def Js3 (K : W.Frag) (a : Ad) : Sp:=fun vs H Q _=>∃ (x : V) (l : Addr) (os : List Addr) (Bs : List Bsn) (b : Bool),vs = [x,.ref l] ∧ SqA H l (os.map V.ref) ∧ BasL a H os Bs ∧ Bs.length ≤ 16 ∧ TwnIs K a H (Bs.map (·.z)) x b ∧ ∀ H', Same H H' → Q (.bl b) H'
theorem ifF {b : Bool} {A B : Prop} (h : b = false) (k : B) : if b = true then A else B:=by rw [h]; exact Jgi k
theorem ifT {b : Bool} {A B : Prop} (h : b = true) (k : A) : if b = true then A else B:=by rw [h]; exact Jha k
section
variable {P : Program} {w : World} {K : W.Frag} {mg : Str → Option Value} {base : Heap} {a : Ad}
theorem Jjf : Jfx ["self","thing"] ["self","thing"] (Jfr (Jg0 (top 4) 0)):=⟨rfl,rfl,rfl,by decide +kernel,rfl,by decide +kernel,by decide +kernel⟩
theorem Jin (T : Tx K mg a) : FnOk P w K mg base CX0 1 a.Jd0 a.Jd1 ["self","thing"] (Jiv K "thing"):=by
 refine T.Jan.fn.ok Jjf (fun vs H Q E h=>?_) (fun cdv A outer s H vs Q E hr h=>?_)
 ·obtain ⟨e,C,W,fI,y,rfl,_⟩:=h
  rfl
 ·obtain ⟨e,C,W,fI,y,rfl,q,c,n,k⟩:=h
  refine ⟨_,(Jfn (Jj0 (pv 0) (pv 1) rfl)),?_⟩
  exact ⟨_,rfl,_,rfl,e,C,W,fI,true,rfl,q,c,n,k⟩
theorem Jnb : Jfx ["thing","low","high"] ["thing","low","high"] (Jfr (top 12)):=⟨rfl,rfl,rfl,by decide +kernel,rfl,by decide +kernel,by decide +kernel⟩
theorem Jhz (T : Tx K mg a) : FnOk P w K mg base CX0 1 a.Jda a.Jdb ["thing","low","high"] (Js4 K):=by
 refine T.J0.fn.ok Jnb (fun vs H Q E h=>?_) (fun cdv A outer s H vs Q E hr h=>?_)
 ·obtain ⟨x,lo,hi,rfl,_⟩:=h
  rfl
 ·obtain ⟨x,lo,hi,rfl,tm,k⟩:=h
  refine ⟨_,(Jfm (Jg9 (Jih (Jge (Jft Jgc (by rfl) T.Ja1 Jfu (Jfi (pv 0) (Jfi (Jgo (v:=.ty "bool") (by rfl) T.Jy Jiy rfl) Jfk)))) (Ji3 (Jgg (Jge (Jft Jgc (by rfl) T.Ja1 Jfu (Jfi (pv 0) (Jfi (Jgo (v:=.ty "int") (by rfl) T.Ja0 bt_int rfl) Jfk))))))).pt (Jfn (Jfw Jgv)) Jfv)
   (Jfn (Jfw (Jn8 Jkh Jkh (pv 1) (pv 0) (pv 2))))),?_⟩
  rcases tm with ⟨i,rfl⟩ | ⟨t,ty,ht⟩
  ·refine ⟨_,rfl,_,_,_,_,_,rfl,rfl,.of (.int i),(by rfl : W.kitOne K (.type "int") (.type "bool") = some false),_,rfl,Jgi ⟨_,rfl,_,_,_,_,_,rfl,rfl,.of (.int i),(by rfl : W.kitOne K (.type "int") (.type "int") = some true),_,rfl,Jgi ?_⟩⟩
   refine ⟨_,rfl,_,rfl,_,_,rfl,rfl,_,rfl,?_⟩
   have k' : Q (.bl (decide (lo ≤ i) && decide (i ≤ hi))) H:=k
   by_cases h1 : lo ≤ i
   ·rw [decide_eq_true h1] at k' ⊢
    exact Jha ⟨_,rfl,_,_,rfl,rfl,by simpa using k'⟩
   ·rw [decide_eq_false h1] at k' ⊢
    exact Jgi (by simpa using k')
  ·rw [Jrh ty ht] at k
   have e:=tp_int (K:=K) ht
   cases eb : (t == .type "bool") with
   | true =>
    rw [eb] at e
    exact ⟨_,rfl,_,_,_,_,_,rfl,rfl,ty,e.2,_,rfl,Jha (Jha k)⟩
   | false =>
    rw [eb] at e
    exact ⟨_,rfl,_,_,_,_,_,rfl,rfl,ty,e.2,_,rfl,Jgi ⟨_,rfl,_,_,_,_,_,rfl,rfl,ty,e.1,_,rfl,Jha k⟩⟩
theorem sc_are_marks : Jfx ["thing","lowest","least","mark"] ["thing","lowest"] (Jfr (top 18)):=⟨rfl,rfl,rfl,by decide +kernel,rfl,by decide +kernel,by decide +kernel⟩
theorem Jmk (T : Tx K mg a) : FnOk P w K mg base CX0 2 a.Jdg a.Jdh ["thing","lowest"] (spAre K):=by
 have G_is_whole:=Jhz (P:=P) (w:=w) (base:=base) T
 refine T.J3.fn.ok sc_are_marks (fun vs H Q E h=>?_) (fun cdv A outer s H vs Q E hr h=>?_)
 ·obtain ⟨x,lo,b,rfl,_⟩:=h
  rfl
 ·obtain ⟨x,lo,b,rfl,sh,k⟩:=h
  refine ⟨_,(Jfm (Jg9 (Jgg (Jge (Jft Jks (by rfl) T.Ja1 Jfu (Jfi (pv 0) (Jfi (Jhg (Jfi (Jgo (v:=.ty "list") (by rfl) T.Ja3 Jhx rfl) (Jfi (Jgo (v:=.ty "tuple") (by rfl) T.Ja9 Jgu rfl) Jfk))) Jfk))))) (Jfn (Jfw Jgv)) Jfv)
   (Jfm (Jg9 (Jgg (Jn9 Jkh Jkh Jfl (Jft Jgd (by rfl) T.Ja2 Jhi (Jfi (pv 0) Jfk)) (Jgh (by rfl) T.Jp (v:=.int 4) ⟨_,rfl⟩))) (Jfn (Jfw Jgv)) Jfv)
   (Jfm (Jfy (i:=2) sc_are_marks.nd rfl (Or.inl rfl) (pv 1))
   (Jfm (Jie PassesOwn.never rfl (Jje (pv 0)) (Jg6 (i:=3) sc_are_marks.nd rfl (Or.inl rfl)) (Jfm (Jg9 (Jgg (Jge (Jfq T.J0 G_is_whole hr (by decide) (Jfi (pv 3) (Jfi (pv 2) (Jfi (Jgh (by rfl) T.Jq (v:=.int 12) ⟨_,rfl⟩) Jfk)))))) (Jfn (Jfw Jgv)) Jfv)
    (Jfn (Jfy (i:=2) sc_are_marks.nd rfl (Or.inl rfl) (Jg3 Jgw (pv 3) Jfl)))))
   (Jfn (Jfw Jgv)))))),?_⟩
  cases sh with
  | @non t ty e =>
   refine ⟨_,rfl,(show 2 ≤ sizeLine by decide),fun p hp=>⟨_,p,_,_,t,_,rfl,Jfj,rfl,ty.same (fun b o _ q=>Same.upd hp b o q) (fun b fs q=>Same.upd hp b _ q),e,_,rfl,Jha (k _ (Same.upd hp))⟩⟩
  | @seq xs sq tms =>
   obtain ⟨t,ty,_,e⟩:=sq.ty (K:=K)
   refine ⟨_,rfl,(show 2 ≤ sizeLine by decide),fun p hp=>⟨_,p,_,_,t,_,rfl,Jfj,rfl,ty.same (fun b o _ q=>Same.upd hp b o q) (fun b fs q=>Same.upd hp b _ q),e,_,rfl,Jgi ?_⟩⟩
   have s1:=Same.upd (o:=.tup [.ty "list",.ty "tuple"]) hp
   have sq1:=sq.same s1
   obtain ⟨q,rfl⟩ : ∃ q,x = .ref q:=by cases sq <;> exact ⟨_,rfl⟩
   have len : SqL K (upd H p (.tup [.ty "list",.ty "tuple"])) q xs ∨ SqT K (upd H p (.tup [.ty "list",.ty "tuple"])) q xs:=by
    cases sq1 with
    | lst e=>exact .inl (SqL.of e)
    | tup e=>exact .inr (SqT.of e)
   refine ⟨_,rfl,q,xs,rfl,len,_,_,rfl,rfl,_,rfl,?_⟩
   have no : Jl9 lo xs = false → ∀ H', Same H H' → Q (.bl false) H':=fun z H' s'=>by
    have:=k H' s'
    rw [z] at this
    exact this
   by_cases h1 : (1 : Int) ≤ (xs.length : Int)
   ·rw [decide_eq_true h1]
    refine Jha ⟨_,_,rfl,rfl,_,rfl,?_⟩
    by_cases h2 : (xs.length : Int) ≤ 4
    ·rw [decide_eq_true h2]
     refine Jgi ⟨_,rfl,?_⟩
     have lz : decide (1 ≤ xs.length ∧ xs.length ≤ 4) = true:=decide_eq_true (by omega)
     have ar : Jl9 lo xs = Ji2 lo xs:=by unfold Jl9; rw [lz,Bool.true_and]
     refine ⟨_,rfl,q,rfl,Jra (xs:=xs) (fun i σ H'=>∃ (l : Int) (o : Option V),σ = [some (.ref q),some (.int lo),some (.int l),o] ∧ H' = upd H p (.tup [.ty "list",.ty "tuple"]) ∧ Ji2 lo xs = Ji2 l (xs.drop i)) ⟨lo,_,rfl,rfl,rfl⟩ ?_ ?_ ?_⟩
     ·rcases len with z | z
      ·exact .inl fun i σ H' _ ⟨_,_,_,e,_⟩=>by rw [e]; exact z
      ·exact .inr fun i σ H' _ ⟨_,_,_,e,_⟩=>by rw [e]; exact z
     ·rintro i y σ H' hy ⟨l,o,rfl,rfl,em⟩
      have hd : xs.drop i = y :: xs.drop (i + 1):=by
       obtain ⟨hi,rfl⟩:=List.getElem?_eq_some_iff.mp hy
       exact List.drop_eq_getElem_cons hi
      refine ⟨_,rfl,_,rfl,y,l,12,rfl,(tms y (List.mem_of_getElem? hy)).same s1,_,rfl,?_⟩
      cases z : Jhj y l 12 with
      | false =>
       refine Jha (no ?_ _ s1)
       rw [ar,em,hd,Jkf,z,Bool.false_and]
      | true =>
       rw [hd,Jkf,z,Bool.true_and] at em
       cases y with
       | int i'=>exact Jgi ⟨_,rfl,_,_,rfl,rfl,i' + 1,_,rfl,rfl,em⟩
       | _=>cases z
     ·rintro σ H' ⟨l,o,rfl,rfl,em⟩
      have e : Jl9 lo xs = true:=by rw [ar,em,List.drop_of_length_le (Nat.le_refl _)]; rfl
      have:=k _ s1
      rw [e] at this
      exact this
    ·rw [decide_eq_false h2]
     refine Jha (no ?_ _ s1)
     unfold Jl9
     rw [decide_eq_false (by omega : ¬ (1 ≤ xs.length ∧ xs.length ≤ 4)),Bool.false_and]
   ·rw [decide_eq_false h1]
    refine Jgi ⟨_,rfl,Jha (no ?_ _ s1)⟩
    unfold Jl9
    rw [decide_eq_false (by omega : ¬ (1 ≤ xs.length ∧ xs.length ≤ 4)),Bool.false_and]
end
section
variable {P : Program} {w : World} {K : W.Frag} {mg : Str → Option Value} {base : Heap} {a : Ad}
theorem Jlk : Jfx ["marks","lowest"] ["marks","lowest"] (Jfr (top 19)):=⟨rfl,rfl,rfl,by decide +kernel,rfl,by decide +kernel,by decide +kernel⟩
theorem Jld (T : Tx K mg a) : FnOk P w K mg base (CXX P w) 3 a.Jdi a.Jdj ["marks","lowest"] (spKept K a):=by
 have G_are_marks:=Jmk (P:=P) (w:=w) (base:=base) T
 have G_NoGate___init__:=Jin (P:=P) (w:=w) (base:=base) T
 refine T.J4.fn.okX Jlk (fun vs H Q E h=>?_) (fun cdv A outer s H vs Q E hr h=>?_)
 ·obtain ⟨x,lo,rfl,_⟩:=h
  rfl
 ·obtain ⟨x,lo,rfl,h⟩:=h
  refine ⟨_,(Jfm (Jg9 (Jgg (Jge (Jfq T.J3 G_are_marks hr (by decide) (Jfi (pv 0) (Jfi (pv 1) Jfk))))) (Jfn (Jh3 Jh9 rfl (Jhv T.Jaz G_NoGate___init__ hr (by decide) T.Jan.bd T.Jac (Jfi (pv 0) Jfk)))) Jfv)
   (Jfn (Jfw (Jgj Jgq (by rfl) T.Ja9 Jgu (Jfi (pv 0) Jfk))))),?_⟩
  rcases h with ⟨xs,sq,tms,e,k⟩ | ⟨sh,k⟩
  ·have sh:=Shp.seq (lo:=lo) sq tms
   rw [e] at sh
   refine ⟨_,rfl,_,rfl,x,lo,true,rfl,sh,fun H1 s1=>⟨_,rfl,Jgi ?_⟩⟩
   cases sq with
   | lst e=>exact ⟨_,rfl,_,xs,rfl,.inl ⟨SqL.of (s1 _ _ e),fun l hl=>k l _ (s1.trans (Same.upd hl)) Jfj⟩⟩
   | tup e=>exact ⟨_,rfl,_,xs,rfl,.inr ⟨SqT.of (s1 _ _ e),k _ _ s1 (s1 _ _ e)⟩⟩
  ·exact ⟨_,rfl,_,rfl,x,lo,false,rfl,sh,fun H1 s1=>⟨_,rfl,Jha (Ji9 T.Jaz T.Jb0 rfl fun e dx h1 h2 h3=>k _ _ _ ((Rf.new h1 h2 h3).of s1))⟩⟩
theorem Jit : Jfx ["self","marks"] ["self","marks"] (Jfr (Jg0 (top 22) 0)):=⟨rfl,rfl,rfl,by decide +kernel,rfl,by decide +kernel,by decide +kernel⟩
theorem Ji8 (T : Tx K mg a) : FnOk P w K mg base (CXX P w) 4 a.Jdk a.Jdl ["self","marks"] (Jqn K a 0):=by
 have G_kept_marks:=Jld (P:=P) (w:=w) (base:=base) T
 refine T.Jas.fn.okX Jit (fun vs H Q E h=>?_) (fun cdv A outer s H vs Q E hr h=>?_)
 ·obtain ⟨p,C,dx,x,rfl,_⟩:=h
  rfl
 ·obtain ⟨p,C,dx,x,rfl,hp,c,n,h⟩:=h
  refine ⟨_,(Jfn (Jhh (pv 0) (Jir T.J4 G_kept_marks Jh9 hr (by decide) (Jfi (pv 1) (Jfi Jfl Jfk))) rfl)),?_⟩
  rcases h with ⟨xs,sq,tms,e,k⟩ | ⟨sh,k⟩
  ·exact ⟨_,rfl,x,0,rfl,.inl ⟨xs,sq,tms,e,fun t H' s' ht=>⟨_,rfl,p,C,dx,[],rfl,s' _ _ hp,c,n,by simp,k t H' s' ht⟩⟩⟩
  ·exact ⟨_,rfl,x,0,rfl,.inr ⟨sh,k⟩⟩
end
section
variable {P : Program} {w : World} {K : W.Frag} {mg : Str → Option Value} {base : Heap} {a : Ad}
theorem Jnc : Jfx ["_law_script","_law_k"] ["_law_script","_law_k"] (Jfr (top 38)):=⟨rfl,rfl,rfl,by decide +kernel,rfl,by decide +kernel,by decide +kernel⟩
theorem Jn2 (T : Tx K mg a) : FnOk P w K mg base CX0 1 a.Je4 a.Je5 ["_law_script","_law_k"] (spCell K):=by
 refine T.J9.fn.ok Jnc (fun vs H Q E h=>?_) (fun cdv A outer s H vs Q E hr h=>?_)
 ·obtain ⟨x,ns,i,rfl,_⟩:=h
  rfl
 ·obtain ⟨x,ns,i,rfl,hS,k⟩:=h
  refine ⟨_,(Jfm (Jg9 (Jg4 op_lt (pv 1) (Jft Jgd (by rfl) T.Ja2 Jhi (Jfi (pv 0) Jfk)) (Jga _)) (Jfn (Jfw (Jfz Jfs (pv 0) (pv 1) (fun _ _=>rfl)))) Jfv)
   (Jfn (Jfw (Jg3 Jgw (Jg3 Jjd Jfl (pv 1)) Jfl)))),?_⟩
  refine ⟨_,rfl,_,rfl,x,_,rfl,.inl hS,_,_,rfl,rfl,_,rfl,Jk2 (fun q=>?_) (fun q=>?_)⟩
  ·have hi : i < ns.length:=by
    have q':=of_decide_eq_true q
    rw [List.length_map] at q'
    omega
   exact ⟨_,rfl,_,rfl,x,_,_,_,rfl,rfl,hS,Jrd hi,k _⟩
  ·exact ⟨_,rfl,_,_,rfl,rfl,.inl ⟨by decide,by decide⟩,_,_,rfl,rfl,k _⟩
theorem Jll : Jfx ["_law_cell_here"] ["_law_cell_here"] (Jfr (top 39)):=⟨rfl,rfl,rfl,by decide +kernel,rfl,by decide +kernel,by decide +kernel⟩
theorem Jlf (T : Tx K mg a) : FnOk P w K mg base CX0 1 a.Je6 a.Je7 ["_law_cell_here"] Jqq:=by
 refine T.Ja.fn.ok Jll (fun vs H Q E h=>?_) (fun cdv A outer s H vs Q E hr h=>?_)
 ·obtain ⟨c,rfl,_⟩:=h
  rfl
 ·obtain ⟨c,rfl,k⟩:=h
  refine ⟨_,(Jfn (Jfw (Jg5 (Jfi (Jft (Jlt rfl) (by rfl) T.Ja4 Jpp (Jfi Jfl (Jfi (Jg3 Jmq (pv 0) (Jg3 Jq9 Jfl Jfl)) Jfk))) (Jfi (Jg3 Jiq (pv 0) Jfl) (Jfi Jfl Jfk)))))),?_⟩
  refine ⟨_,rfl,_,_,rfl,rfl,⟨by decide,by decide,by decide⟩,_,_,rfl,rfl,_,_,rfl,_,rfl,_,_,rfl,rfl,(by show (0 : Int) < 2147483647; decide),Jg2 _ (by show 3 ≤ 2000; decide),fun p hp=>?_⟩
  exact k p _ hp (Same.upd hp) ⟨_,_,_,Jfj⟩
theorem sc_law_take : Jfx ["_law_stream_here","_law_many","_law_digit","_law_number"] ["_law_stream_here","_law_many"] (Jfr (top 40)):=⟨rfl,rfl,rfl,by decide +kernel,rfl,by decide +kernel,by decide +kernel⟩
theorem Jh2 (T : Tx K mg a) : FnOk P w K mg base CX0 1 a.Je8 a.Je9 ["_law_stream_here","_law_many"] Jqr:=by
 refine T.Jb.fn.ok sc_law_take (fun vs H Q E h=>?_) (fun cdv A outer s H vs Q E hr h=>?_)
 ·obtain ⟨p,m,rfl,_⟩:=h
  rfl
 ·obtain ⟨p,m,rfl,⟨a0,b0,c0,hp⟩,hm,hl,k⟩:=h
  refine ⟨_,(Jfm (Jl5 (Jg3 Jgw (Jfz Jfs (pv 0) Jfl (fun _ _=>rfl)) Jfl) (Jl3 (pv 0) Jfl Jiu))
   (Jfm (Jg9 (Jg4 op_gt (Jfz Jfs (pv 0) Jfl (fun _ _=>rfl)) Jfl (Jga _)) (Jfm (Jfy (i:=2) sc_law_take.nd rfl (Or.inl rfl) (Jg3 Jiq (Jfz Jfs (pv 0) Jfl (fun _ _=>rfl)) (pv 1)))
    (Jfm (Jl5 (Jg3 Jn6 (Jfz Jfs (pv 0) Jfl (fun _ _=>rfl)) (pv 1)) (Jl3 (pv 0) Jfl Jiu))
    (Jfn (Jfw (pv 2))))) Jfv)
   (Jfm (Jfy (i:=3) sc_law_take.nd rfl (Or.inl rfl) (Jg3 Jiq (Jg3 Jjd (Jg3 Jgw (Jfz Jfs (pv 0) Jfl (fun _ _=>rfl)) (Jg3 Jjd Jfl (Jfz Jfs (pv 0) Jfl (fun _ _=>rfl)))) Jfl) Jfl))
   (Jfm (Jfy (i:=3) sc_law_take.nd rfl (Or.inl rfl) (Jg3 Jiq (Jg3 Jjd (pv 3) (pv 3)) Jfl))
   (Jfn (Jfw (Jg3 Jiq (Jg3 Jn6 (Jg3 Jiq (Jg3 Jgw (Jg3 Jjd (pv 3) (Jg3 Jgw (pv 3) Jfl)) (Jg3 Jjd Jfl (Jfz Jfs (pv 0) Jfl (fun _ _=>rfl)))) Jfl) Jfl) (pv 1)))))))),?_⟩
  refine ⟨_,rfl,p,_,_,_,rfl,rfl,SqL.of hp,rfl,_,_,rfl,rfl,_,rfl,p,_,_,_,rfl,rfl,hp,rfl,?_⟩
  refine ⟨_,rfl,p,_,_,_,rfl,rfl,SqL.of Jfj,rfl,_,_,rfl,rfl,_,rfl,Jk2 (fun _=>?_) (fun _=>?_)⟩
  ·refine ⟨_,rfl,p,_,_,_,rfl,rfl,SqL.of Jfj,rfl,_,rfl,_,_,rfl,rfl,hm,?_⟩
   refine ⟨_,rfl,p,_,_,_,rfl,rfl,SqL.of Jfj,rfl,_,rfl,_,_,rfl,rfl,⟨hm,hl⟩,_,rfl,p,_,_,_,rfl,rfl,Jfj,rfl,?_⟩
   refine ⟨_,rfl,k _ _ (Int.emod_nonneg _ (by omega)) (Int.emod_lt_of_pos _ hm) ⟨fun b o ne e=>?_,_,_,_,Jfj⟩⟩
   rw [Jfp ne,Jfp ne]
   exact e
  ·refine ⟨_,rfl,p,_,_,_,rfl,rfl,SqL.of Jfj,rfl,_,rfl,p,_,_,_,rfl,rfl,SqL.of Jfj,rfl,_,_,rfl,rfl,.inl ⟨by decide,by decide⟩,_,_,rfl,rfl,_,_,rfl,rfl,.inr ⟨by decide,by decide⟩,_,_,rfl,rfl,(by show (0 : Int) < 2147483629; decide),?_⟩
   have n1 : ∀ x : Int,-(2 ^ 64) < x % 2147483629 ∧ x % 2147483629 < 2 ^ 64:=fun x=>by
    have h1:=Int.emod_nonneg x (show (2147483629 : Int) ≠ 0 by decide)
    have h2:=Int.emod_lt_of_pos x (show (0 : Int) < 2147483629 by decide)
    constructor <;> omega
   have n2 : ∀ x : Int,-(2 ^ 64) < x % 2147483587 ∧ x % 2147483587 < 2 ^ 64:=fun x=>by
    have h1:=Int.emod_nonneg x (show (2147483587 : Int) ≠ 0 by decide)
    have h2:=Int.emod_lt_of_pos x (show (0 : Int) < 2147483587 by decide)
    constructor <;> omega
   refine ⟨_,rfl,_,rfl,_,_,rfl,rfl,.inl (n1 _),_,_,rfl,rfl,(by show (0 : Int) < 2147483587; decide),?_⟩
   refine ⟨_,rfl,_,rfl,_,_,rfl,rfl,_,_,rfl,rfl,.inl (n2 _),_,rfl,p,_,_,_,rfl,rfl,SqL.of Jfj,rfl,_,_,rfl,rfl,.inl ⟨by decide,by decide⟩,_,_,rfl,rfl,_,_,rfl,rfl,(by show (0 : Int) < 2147483647; decide),_,_,rfl,rfl,⟨by decide,by decide⟩,_,rfl,_,_,rfl,rfl,hm,?_⟩
   refine k _ _ (Int.emod_nonneg _ (by omega)) (Int.emod_lt_of_pos _ hm) ⟨fun b o ne e=>?_,_,_,_,Jfj⟩
   rw [Jfp ne]
   exact e
end
section
variable {P : Program} {w : World} {K : W.Frag} {mg : Str → Option Value} {base : Heap} {a : Ad}
theorem Jjg : Jfx ["self","thing"] ["self","thing"] (Jfr (Jg0 (top 3) 0)):=⟨rfl,rfl,rfl,by decide +kernel,rfl,by decide +kernel,by decide +kernel⟩
theorem Jio (T : Tx K mg a) : FnOk P w K mg base CX0 1 a.Jcy a.Jcz ["self","thing"] (Jiv K "thing"):=by
 refine T.Jam.fn.ok Jjg (fun vs H Q E h=>?_) (fun cdv A outer s H vs Q E hr h=>?_)
 ·obtain ⟨e,C,W,fI,y,rfl,_⟩:=h
  rfl
 ·obtain ⟨e,C,W,fI,y,rfl,q,c,n,k⟩:=h
  refine ⟨_,(Jfn (Jj0 (pv 0) (pv 1) rfl)),?_⟩
  exact ⟨_,rfl,_,rfl,e,C,W,fI,true,rfl,q,c,n,k⟩
theorem Jj1 : Jfx ["self","thing"] ["self","thing"] (Jfr (Jg0 (top 5) 0)):=⟨rfl,rfl,rfl,by decide +kernel,rfl,by decide +kernel,by decide +kernel⟩
theorem Jkk (T : Tx K mg a) : FnOk P w K mg base CX0 1 a.Jd2 a.Jd3 ["self","thing"] (Jiv K "thing"):=by
 refine T.Jao.fn.ok Jj1 (fun vs H Q E h=>?_) (fun cdv A outer s H vs Q E hr h=>?_)
 ·obtain ⟨e,C,W,fI,y,rfl,_⟩:=h
  rfl
 ·obtain ⟨e,C,W,fI,y,rfl,q,c,n,k⟩:=h
  refine ⟨_,(Jfn (Jj0 (pv 0) (pv 1) rfl)),?_⟩
  exact ⟨_,rfl,_,rfl,e,C,W,fI,true,rfl,q,c,n,k⟩
theorem Jjh : Jfx ["self","thing"] ["self","thing"] (Jfr (Jg0 (top 6) 0)):=⟨rfl,rfl,rfl,by decide +kernel,rfl,by decide +kernel,by decide +kernel⟩
theorem Jl1 (T : Tx K mg a) : FnOk P w K mg base CX0 1 a.Jd4 a.Jd5 ["self","thing"] (Jiv K "thing"):=by
 refine T.Jap.fn.ok Jjh (fun vs H Q E h=>?_) (fun cdv A outer s H vs Q E hr h=>?_)
 ·obtain ⟨e,C,W,fI,y,rfl,_⟩:=h
  rfl
 ·obtain ⟨e,C,W,fI,y,rfl,q,c,n,k⟩:=h
  refine ⟨_,(Jfn (Jj0 (pv 0) (pv 1) rfl)),?_⟩
  exact ⟨_,rfl,_,rfl,e,C,W,fI,true,rfl,q,c,n,k⟩
theorem Jlj : Jfx ["text","signs"] ["text","signs"] (Jfr (top 13)):=⟨rfl,rfl,rfl,by decide +kernel,rfl,by decide +kernel,by decide +kernel⟩
theorem Jlc (T : Tx K mg a) : FnOk P w K mg base CX0 1 a.Jdc a.Jdd ["text","signs"] spMade:=by
 refine T.J1.fn.ok Jlj (fun vs H Q E h=>?_) (fun cdv A outer s H vs Q E hr h=>?_)
 ·obtain ⟨z,g,rfl,_⟩:=h
  rfl
 ·obtain ⟨z,g,rfl,hz,k⟩:=h
  refine ⟨_,(Jfn (Jfw (Jft (Jjm rfl) (by rfl) T.Jx Jma (Jfi (Jgs (N:=(["sign","signs"] : List Str)) (ini:=[none,some 1]) rfl (Jqf (pv 0)) (fun _ _ _ _ _=>(Jg6 (i:=0) (by decide +kernel : (["sign","signs"] : List Str).Nodup) rfl (Or.inl rfl))) (fun _ _ _ _ _=>Jgt) (fun _ _ _ _ _=>(Jkq Jp8 (pv 0) (pv 1) (by with_unfolding_all rfl)))) Jfk)))),?_⟩
  refine ⟨_,rfl,z,rfl,fun D hD=>?_⟩
  refine Jmy (z:=z) (D:=D) (fun i σ H'=>∃ o,σ = [o,some (.str g)] ∧ H' = upd H D (.lst ((z.cps.toList.take i).map fun c=>V.bl (decide (c ∈ g.cps.toList))))) ?_ ?_ ?_
  ·exact ⟨none,rfl,rfl⟩
  ·rintro i c σ H' hc ⟨o,rfl,rfl⟩
   refine Jhw ⟨_,rfl,_,rfl,⟨#[c]⟩,g,rfl,rfl,_,Jfj,?_,_,rfl,?_⟩
   ·rw [List.length_map,List.length_take,Jkp]
    exact Jh7 (by omega)
   ·rw [Ji1,StrLaws.found_one]
    have e : z.cps.toList[i]? = some c:=by simpa using hc
    rw [List.take_add_one,e]
    simp
  ·rintro σ H' ⟨o,rfl,rfl⟩
   have e : z.cps.toList.take z.cps.size = z.cps.toList:=List.take_of_length_le (by simp)
   refine ⟨D,z.cps.toList.map fun c=>decide (c ∈ g.cps.toList),rfl,SqL.of (by rw [Jfj,e,List.map_map]; rfl),?_⟩
   have e2 : (z.cps.toList.map fun c=>decide (c ∈ g.cps.toList)).all id = Jln g z:=by
    unfold Jln
    rw [List.all_map]
    rfl
   rw [e2]
   exact k _ (Same.upd hD)
theorem Jri {H : Hp} {x : V} (h : Tm K H x) (n : ∀ z,x ≠ .str z) : ∃ t,TyX K H x t ∧ W.kitOne K t (.type "str") = some false:=by
 rcases h with ⟨i,rfl⟩ | ⟨t,ty,ht⟩
 ·exact ⟨_,.of (.int i),rfl⟩
 ·refine ⟨t,ty,?_⟩
  unfold tpB at ht
  simp only [List.contains_cons,List.contains_nil,Bool.or_false,Bool.or_eq_true,beq_iff_eq] at ht
  rcases ht with rfl | rfl | rfl | rfl | rfl | rfl
  ·rfl
  ·obtain ⟨z,e⟩:=ty_str ty rfl
   exact absurd e (n z)
  ·rfl
  ·rfl
  ·rfl
  ·rfl
theorem Jny : Jfx ["thing"] ["thing"] (Jfr (top 14)):=⟨rfl,rfl,rfl,by decide +kernel,rfl,by decide +kernel,by decide +kernel⟩
theorem Jl2 (T : Tx K mg a) : FnOk P w K mg base CX0 2 a.Jde a.Jdf ["thing"] (spName K):=by
 have G_is_made_of:=Jlc (P:=P) (w:=w) (base:=base) T
 refine T.J2.fn.ok Jny (fun vs H Q E h=>?_) (fun cdv A outer s H vs Q E hr h=>?_)
 ·obtain ⟨x,rfl,_⟩:=h
  rfl
 ·obtain ⟨x,rfl,nm,k⟩:=h
  refine ⟨_,(Jfm (Jg9 (Jgg (Jge (Jft Jgc (by rfl) T.Ja1 Jfu (Jfi (pv 0) (Jfi (Jgo (v:=.ty "str") (by rfl) T.Ja8 bt_str rfl) Jfk))))) (Jfn (Jfw Jgv)) Jfv)
   (Jfn (Jfw (Jnu (Jn8 Jkh Jkh Jfl (Jft Jmb (by rfl) T.Ja2 Jhi (Jfi (pv 0) Jfk)) (Jgh (by rfl) T.Jo (v:=.int 8) ⟨_,rfl⟩)) (Jnv (Jfq T.J1 G_is_made_of hr (by decide) (Jfi (pv 0) (Jfi (Jgh (by rfl) T.Jn (v:=.str "abcdefghijklmnopqrstuvwxyz") ⟨_,rfl⟩) Jfk)))))))),?_⟩
  by_cases hx : ∃ z,x = .str z
  ·obtain ⟨z,rfl⟩:=hx
   have k : ∀ H', Same H H' → Q (.bl (Jgk z)) H':=k
   have hz : z.length ≤ 2000:=by have:=(nm.2 z rfl).len; omega
   refine ⟨_,rfl,_,_,_,_,_,rfl,rfl,.of (.str z),(by rfl : W.kitOne K (.type "str") (.type "str") = some true),_,rfl,Jgi ?_⟩
   refine ⟨_,rfl,z,rfl,Jg2 _ hz,_,_,rfl,rfl,_,rfl,?_⟩
   have no : ¬ (1 ≤ z.length ∧ z.length ≤ 8) → Q (.bl false) H:=fun q=>by
    have k':=k H (Same.refl H)
    unfold Jgk at k'
    rw [decide_eq_false q,Bool.false_and] at k'
    exact k'
   by_cases h1 : (1 : Int) ≤ (z.length : Int)
   ·rw [decide_eq_true h1]
    refine Jha ⟨_,_,rfl,rfl,_,rfl,?_⟩
    by_cases h2 : (z.length : Int) ≤ 8
    ·rw [decide_eq_true h2]
     refine Jha ⟨_,rfl,z,_,rfl,hz,fun H' s'=>?_⟩
     have e : Jgk z = Jln LET z:=by
      unfold Jgk
      rw [decide_eq_true (by omega : 1 ≤ z.length ∧ z.length ≤ 8),Bool.true_and]
     have k':=k H' s'
     rw [e] at k'
     exact k'
    ·rw [decide_eq_false h2]
     exact Jgi (no (by omega))
   ·rw [decide_eq_false h1]
    exact Jgi ⟨_,rfl,Jgi (no (by omega))⟩
  ·obtain ⟨t,ty,e1⟩:=Jri nm.1 fun z e=>hx ⟨z,e⟩
   have k':=k H (Same.refl H)
   have e : nameV x = false:=by
    cases x with
    | str z=>exact absurd ⟨z,rfl⟩ hx
    | _=>rfl
   rw [e] at k'
   exact ⟨_,rfl,_,_,_,_,_,rfl,rfl,ty,e1,_,rfl,Jha k'⟩
theorem Jjj : Jfx ["thing","low","high"] ["thing","low","high"] (Jfr (top 30)):=⟨rfl,rfl,rfl,by decide +kernel,rfl,by decide +kernel,by decide +kernel⟩
theorem Jjb (T : Tx K mg a) : FnOk P w K mg base (CXX P w) 3 a.Jdm a.Jdn ["thing","low","high"] (Jpe K a):=by
 have G_is_whole:=Jhz (P:=P) (w:=w) (base:=base) T
 have G_NoBasin___init__:=Jkk (P:=P) (w:=w) (base:=base) T
 refine T.J5.fn.okX Jjj (fun vs H Q E h=>?_) (fun cdv A outer s H vs Q E hr h=>?_)
 ·obtain ⟨x,lo,hi,rfl,_⟩:=h
  rfl
 ·obtain ⟨x,lo,hi,rfl,tm,h⟩:=h
  refine ⟨_,(Jfn (Jg9 (Jgg (Jge (Jfq T.J0 G_is_whole hr (by decide) (Jfi (pv 0) (Jfi (pv 1) (Jfi (pv 2) Jfk)))))) (Jfn (Jh3 Jh9 rfl (Jhv T.Jb1 G_NoBasin___init__ hr (by decide) T.Jao.bd T.Jad (Jfi (pv 0) Jfk)))) Jfv)),?_⟩
  refine ⟨_,rfl,_,rfl,_,rfl,x,lo,hi,rfl,tm,_,rfl,?_⟩
  rcases h with ⟨e,k⟩ | ⟨e,k⟩
  ·rw [e]
   exact Jgi k
  ·rw [e]
   exact Jha (Ji9 T.Jb1 T.Jb2 rfl fun e dx h1 h2 h3=>k _ _ _ (RfC.new h1 h2 h3))
end
theorem Jh4 {f : Str} {v : V} : ∀ {fs : List (Str × V)},(fs.map (·.1)).contains f = false → Jhc f v fs = fs ++ [(f,v)]
 | [],_=>rfl
 | (g,x) :: r,h=>by
  rw [List.map_cons,List.contains_cons,Bool.or_eq_false_iff] at h
  have ne : ¬ g = f:=fun e=>by
   have:=h.1
   rw [e] at this
   simp at this
  show (if g = f then (g,v) :: r else (g,x) :: Jhc f v r) = _
  rw [if_neg ne,Jh4 h.2]
  rfl
theorem Jgy {i lo hi : Int} (h1 : lo ≤ i) (h2 : i ≤ hi) : Jhj (.int i) lo hi = true:=by
 show (decide (lo ≤ i) && decide (i ≤ hi)) = true
 rw [decide_eq_true h1,decide_eq_true h2]
 rfl
def spBas (K : W.Frag) (a : Ad) : Sp:=fun vs H Q _=>∃ (p dx : Addr) (B : Bsn),vs = [.ref p,.str B.z,.int B.lo,.int B.hi,.int B.st,.int B.rn,B.g] ∧ H p = some (.ins a.Jff dx []) ∧ Jgk B.z = true ∧ Wd 50 B.z ∧ (0 ≤ B.lo ∧ B.lo ≤ B.hi ∧ B.hi ≤ 12) ∧ (B.lo ≤ B.st ∧ B.st ≤ B.hi) ∧ (0 ≤ B.rn ∧ B.rn ≤ 6) ∧ IsK K H a.Jfd B.g true ∧
 ∀ H', Same H H' → Q .non (upd H' p (.ins a.Jff dx (basF (.str B.z) (.int B.lo) (.int B.hi) (.int B.st) (.int B.rn) B.g)))
def spTwn (K : W.Frag) (a : Ad) : Sp:=fun vs H Q _=>∃ (p dx : Addr) (B : Twn),vs = [.ref p,.str B.z,.str B.b,.int B.wt] ∧ H p = some (.ins a.Jfg dx []) ∧ Jgk B.z = true ∧ Wd 50 B.z ∧ Jgk B.b = true ∧ Wd 50 B.b ∧ (1 ≤ B.wt ∧ B.wt ≤ 6) ∧
 ∀ H', Same H H' → Q .non (upd H' p (.ins a.Jfg dx (twnF (.str B.z) (.str B.b) (.int B.wt))))
theorem Jmj {K : W.Frag} {H : Hp} {z : Str} (w : Wd 50 z) : Nmd K H (.str z):=⟨.inr ⟨_,.of (.str z),rfl⟩,fun y e=>by cases e; exact w⟩
section
variable {P : Program} {w : World} {K : W.Frag} {mg : Str → Option Value} {base : Heap} {a : Ad}
theorem Jjt : Jfx ["self","name","low","high","start","rain","gate"] ["self","name","low","high","start","rain","gate"] (Jfr (Jg0 (top 31) 0)):=⟨rfl,rfl,rfl,by decide +kernel,rfl,by decide +kernel,by decide +kernel⟩
theorem Jj5 (T : Tx K mg a) : FnOk P w K mg base (CXX P w) 4 a.Jdo a.Jdp ["self","name","low","high","start","rain","gate"] (spBas K a):=by
 have G_is_name:=Jl2 (P:=P) (w:=w) (base:=base) T
 have G_refuse_no_level:=Jjb (P:=P) (w:=w) (base:=base) T
 have G_NoName___init__:=Jio (P:=P) (w:=w) (base:=base) T
 have G_NoGate___init__:=Jin (P:=P) (w:=w) (base:=base) T
 refine T.Jat.fn.okX Jjt (fun vs H Q E h=>?_) (fun cdv A outer s H vs Q E hr h=>?_)
 ·obtain ⟨p,dx,B,rfl,_⟩:=h
  rfl
 ·obtain ⟨p,dx,⟨z,l,h,st,rn,g⟩,rfl,hp,nz,wz,hl,hs,hrn,⟨t,ty,g1⟩,k⟩:=h
  refine ⟨?t,?B,?C⟩
  case B =>
   refine' Jfm (Jg9 (Jgg (Jge (Jfq T.J2 G_is_name hr (by decide) (Jfi (pv 1) Jfk)))) (Jfn (Jh3 Jh9 rfl (Jhv T.Jay G_NoName___init__ hr (by decide) T.Jam.bd T.Jab (Jfi (pv 1) Jfk)))) Jfv) ?_
   rotate_left
   refine' Jfm (Jhl (Jir T.J5 G_refuse_no_level Jh9 hr (by decide) (Jfi (pv 2) (Jfi Jfl (Jfi (Jgh (by rfl) T.Jr (v:=.int 12) ⟨_,rfl⟩) Jfk))))) ?_
   rotate_left
   refine' Jfm (Jhl (Jir T.J5 G_refuse_no_level Jh9 hr (by decide) (Jfi (pv 3) (Jfi (pv 2) (Jfi (Jgh (by rfl) T.Jr (v:=.int 12) ⟨_,rfl⟩) Jfk))))) ?_
   rotate_left
   refine' Jfm (Jhl (Jir T.J5 G_refuse_no_level Jh9 hr (by decide) (Jfi (pv 4) (Jfi (pv 2) (Jfi (pv 3) Jfk))))) ?_
   rotate_left
   refine' Jfm (Jhl (Jir T.J5 G_refuse_no_level Jh9 hr (by decide) (Jfi (pv 5) (Jfi Jfl (Jfi (Jgh (by rfl) T.Js (v:=.int 6) ⟨_,rfl⟩) Jfk))))) ?_
   rotate_left
   refine' Jfm (Jg9 (Jgg (Jge (Jft Jgc (by rfl) T.Ja1 Jfu (Jfi (pv 6) (Jfi (Jgh (by rfl) T.Jah (v:=.ref _) rfl) Jfk))))) (Jfn (Jh3 Jh9 rfl (Jhv T.Jaz G_NoGate___init__ hr (by decide) T.Jan.bd T.Jac (Jfi (pv 6) Jfk)))) Jfv) ?_
   rotate_left
   refine' Jfm (Jhh (pv 0) (pv 1) rfl) ?_
   rotate_left
   refine' Jfm (Jhh (pv 0) (pv 2) rfl) ?_
   rotate_left
   refine' Jfm (Jhh (pv 0) (pv 3) rfl) ?_
   rotate_left
   refine' Jfm (Jhh (pv 0) (pv 4) rfl) ?_
   rotate_left
   refine' Jfm (Jhh (pv 0) (pv 5) rfl) ?_
   rotate_left
   exact (Jfn (Jhh (pv 0) (pv 6) rfl))
  refine ⟨_,rfl,_,rfl,Jmj wz,fun H1 s1=>⟨_,rfl,ifF (by show (!Jgk z) = false; rw [nz]; rfl) ?_⟩⟩
  refine ⟨_,rfl,_,0,12,rfl,.inl ⟨_,rfl⟩,.inl ⟨Jgy hl.1 (by omega),?_⟩⟩
  refine ⟨_,rfl,_,rfl,_,l,12,rfl,.inl ⟨_,rfl⟩,.inl ⟨Jgy hl.2.1 hl.2.2,?_⟩⟩
  refine ⟨_,rfl,_,rfl,_,rfl,_,l,h,rfl,.inl ⟨_,rfl⟩,.inl ⟨Jgy hs.1 hs.2,?_⟩⟩
  refine ⟨_,rfl,_,0,6,rfl,.inl ⟨_,rfl⟩,.inl ⟨Jgy hrn.1 hrn.2,?_⟩⟩
  refine ⟨_,rfl,g,_,_,t,_,rfl,rfl,Jhq s1 ty,g1,_,rfl,Jgi ?_⟩
  refine ⟨_,rfl,_,rfl,p,_,dx,[],rfl,s1 _ _ hp,T.Jbe,T.Jbh,by simp,?_⟩
  rw [show Jhc "name" (.str z) [] = ([("name",.str z)] : List (Str × V)) from rfl]
  refine ⟨_,rfl,_,rfl,p,_,dx,_,rfl,Jfj,T.Jbe,T.Jbi,by simp,?_⟩
  rw [show Jhc "low" (.int l) [("name",.str z)] = ([("name",.str z),("low",(.int l))] : List (Str × V)) from Jh4 (fs:=[("name",.str z)]) (show (["name"] : List Str).contains "low" = false by decide +kernel)]
  refine ⟨_,rfl,_,rfl,p,_,dx,_,rfl,Jfj,T.Jbe,T.Jbj,by simp,?_⟩
  rw [show Jhc "high" (.int h) [("name",.str z),("low",.int l)] = ([("name",.str z),("low",.int l),("high",(.int h))] : List (Str × V)) from Jh4 (fs:=[("name",.str z),("low",.int l)]) (show (["name","low"] : List Str).contains "high" = false by decide +kernel)]
  refine ⟨_,rfl,_,rfl,p,_,dx,_,rfl,Jfj,T.Jbe,T.Jbk,by simp,?_⟩
  rw [show Jhc "start" (.int st) [("name",.str z),("low",.int l),("high",.int h)] = ([("name",.str z),("low",.int l),("high",.int h),("start",.int st)] : List (Str × V)) from Jh4 (fs:=[("name",.str z),("low",.int l),("high",.int h)]) (show (["name","low","high"] : List Str).contains "start" = false by decide +kernel)]
  refine ⟨_,rfl,_,rfl,p,_,dx,_,rfl,Jfj,T.Jbe,T.Jbl,by simp,?_⟩
  rw [show Jhc "rain" (.int rn) [("name",.str z),("low",.int l),("high",.int h),("start",.int st)] = ([("name",.str z),("low",.int l),("high",.int h),("start",.int st),("rain",.int rn)] : List (Str × V)) from Jh4 (fs:=[("name",.str z),("low",.int l),("high",.int h),("start",.int st)]) (show (["name","low","high","start"] : List Str).contains "rain" = false by decide +kernel)]
  refine ⟨_,rfl,_,rfl,p,_,dx,_,rfl,Jfj,T.Jbe,T.Jbm,by simp,?_⟩
  rw [show Jhc "gate" g [("name",.str z),("low",.int l),("high",.int h),("start",.int st),("rain",.int rn)] = ([("name",.str z),("low",.int l),("high",.int h),("start",.int st),("rain",.int rn),("gate",g)] : List (Str × V)) from Jh4 (fs:=[("name",.str z),("low",.int l),("high",.int h),("start",.int st),("rain",.int rn)]) (show (["name","low","high","start","rain"] : List Str).contains "gate" = false by decide +kernel)]
  show Q .non _
  simp only [Ji1]
  exact k _ s1
theorem Jk8 : Jfx ["self","name","basin","want"] ["self","name","basin","want"] (Jfr (Jg0 (top 32) 0)):=⟨rfl,rfl,rfl,by decide +kernel,rfl,by decide +kernel,by decide +kernel⟩
theorem Jic (T : Tx K mg a) : FnOk P w K mg base (CXX P w) 4 a.Jdq a.Jdr ["self","name","basin","want"] (spTwn K a):=by
 have G_is_name:=Jl2 (P:=P) (w:=w) (base:=base) T
 have G_is_whole:=Jhz (P:=P) (w:=w) (base:=base) T
 have G_NoName___init__:=Jio (P:=P) (w:=w) (base:=base) T
 have G_NoTown___init__:=Jl1 (P:=P) (w:=w) (base:=base) T
 refine T.Jau.fn.okX Jk8 (fun vs H Q E h=>?_) (fun cdv A outer s H vs Q E hr h=>?_)
 ·obtain ⟨p,dx,B,rfl,_⟩:=h
  rfl
 ·obtain ⟨p,dx,⟨n,b,wt⟩,rfl,hp,nn,wn,nb,wb,hw,k⟩:=h
  refine ⟨?t,?B,?C⟩
  case B =>
   refine' Jfm (Jg9 (Jgg (Jge (Jfq T.J2 G_is_name hr (by decide) (Jfi (pv 1) Jfk)))) (Jfn (Jh3 Jh9 rfl (Jhv T.Jay G_NoName___init__ hr (by decide) T.Jam.bd T.Jab (Jfi (pv 1) Jfk)))) Jfv) ?_
   rotate_left
   refine' Jfm (Jg9 (Jgg (Jge (Jfq T.J2 G_is_name hr (by decide) (Jfi (pv 2) Jfk)))) (Jfn (Jh3 Jh9 rfl (Jhv T.Jay G_NoName___init__ hr (by decide) T.Jam.bd T.Jab (Jfi (pv 2) Jfk)))) Jfv) ?_
   rotate_left
   refine' Jfm (Jg9 (Jgg (Jge (Jfq T.J0 G_is_whole hr (by decide) (Jfi (pv 3) (Jfi Jfl (Jfi (Jgh (by rfl) T.Jt (v:=.int 6) ⟨_,rfl⟩) Jfk)))))) (Jfn (Jh3 Jh9 rfl (Jhv T.Jb3 G_NoTown___init__ hr (by decide) T.Jap.bd T.Jae (Jfi (pv 3) Jfk)))) Jfv) ?_
   rotate_left
   refine' Jfm (Jhh (pv 0) (pv 1) rfl) ?_
   rotate_left
   refine' Jfm (Jhh (pv 0) (pv 2) rfl) ?_
   rotate_left
   exact (Jfn (Jhh (pv 0) (pv 3) rfl))
  refine ⟨_,rfl,_,rfl,Jmj wn,fun H1 s1=>⟨_,rfl,ifF (by show (!Jgk n) = false; rw [nn]; rfl) ?_⟩⟩
  refine ⟨_,rfl,_,rfl,Jmj wb,fun H2 s2=>⟨_,rfl,ifF (by show (!Jgk b) = false; rw [nb]; rfl) ?_⟩⟩
  refine ⟨_,rfl,_,1,6,rfl,.inl ⟨_,rfl⟩,_,rfl,ifF (by rw [Jgy hw.1 hw.2]; rfl) ?_⟩
  refine ⟨_,rfl,_,rfl,p,_,dx,[],rfl,s2 _ _ (s1 _ _ hp),T.Jbn,T.Jbq,by simp,?_⟩
  rw [show Jhc "name" (.str n) [] = ([("name",.str n)] : List (Str × V)) from rfl]
  refine ⟨_,rfl,_,rfl,p,_,dx,_,rfl,Jfj,T.Jbn,T.Jbr,by simp,?_⟩
  rw [show Jhc "basin" (.str b) [("name",.str n)] = ([("name",.str n),("basin",.str b)] : List (Str × V)) from Jh4 (fs:=[("name",.str n)]) (show (["name"] : List Str).contains "basin" = false by decide +kernel)]
  refine ⟨_,rfl,_,rfl,p,_,dx,_,rfl,Jfj,T.Jbn,T.Jbs,by simp,?_⟩
  rw [show Jhc "want" (.int wt) [("name",.str n),("basin",.str b)] = ([("name",.str n),("basin",.str b),("want",.int wt)] : List (Str × V)) from Jh4 (fs:=[("name",.str n),("basin",.str b)]) (show (["name","basin"] : List Str).contains "want" = false by decide +kernel)]
  show Q .non _
  simp only [Ji1]
  exact k _ (s1.trans s2)
end
section
variable {P : Program} {w : World} {K : W.Frag} {mg : Str → Option Value} {base : Heap} {a : Ad}
theorem Jli : Jfx ["names"] ["names"] (Jfr (top 33)):=⟨rfl,rfl,rfl,by decide +kernel,rfl,by decide +kernel,by decide +kernel⟩
theorem Jj7 (T : Tx K mg a) : FnOk P w K mg base CX0 1 a.Jds a.Jdt ["names"] (Jqs K):=by
 refine T.J6.fn.ok Jli (fun vs H Q E h=>?_) (fun cdv A outer s H vs Q E hr h=>?_)
 ·obtain ⟨l,zs,rfl,_⟩:=h
  rfl
 ·obtain ⟨l,zs,rfl,hq,hz,k⟩:=h
  refine ⟨_,(Jfn (Jfw (Jkq Jig (Jft Jkt (by rfl) T.Ja2 Jhi (Jfi (Jgj (Jku rfl) (by rfl) T.Ja7 bt_set (Jfi (pv 0) Jfk)) Jfk)) (Jft Jgd (by rfl) T.Ja2 Jhi (Jfi (pv 0) Jfk)) (Jga _)))),?_⟩
  refine ⟨_,rfl,l,zs,rfl,hq,hz,fun t ht=>⟨t,zs,rfl,Jfj,?_⟩⟩
  have s1:=Same.upd (o:=TxS P w t zs) ht
  refine ⟨_,rfl,l,_,rfl,.inl (s1.seq hq),rfl,?_⟩
  have e : decide (V.int ((uq zs).length : Nat) = V.int ((zs.map V.str).length : Nat)) = decide ((uq zs).length = zs.length):=by
   rw [List.length_map]
   by_cases h : (uq zs).length = zs.length
   ·rw [decide_eq_true h,decide_eq_true (by rw [h])]
   ·rw [decide_eq_false h,decide_eq_false (fun q=>h (by have:=V.int.inj q; omega))]
  rw [e]
  exact k _ s1
theorem Jol {H : Hp} {C : Addr} {os : List Addr} {vs : List V} {bs : List Bool} (f : ∀ (i : Nat) v b,vs[i]? = some v → bs[i]? = some b → IsK K H C v b) {i : Nat} {x y : V} (hx : vs[i]? = some x) (hy : (bs.map V.bl)[i]? = some y) : ∃ b,y = .bl b ∧ IsK K H C x b:=by
 rw [List.getElem?_map] at hy
 obtain ⟨b,hb,rfl⟩:=Option.map_eq_some_iff.mp hy
 exact ⟨b,rfl,f i x b hx hb⟩
theorem Jlh : Jfx ["thing"] ["thing"] (Jfr (top 34)):=⟨rfl,rfl,rfl,by decide +kernel,rfl,by decide +kernel,by decide +kernel⟩
theorem Jlb (T : Tx K mg a) : FnOk P w K mg base CX0 2 a.Jdu a.Jdv ["thing"] (Jqm K a):=by
 have G_are_unlike:=Jj7 (P:=P) (w:=w) (base:=base) T
 refine T.J7.fn.ok Jlh (fun vs H Q E h=>?_) (fun cdv A outer s H vs Q E hr h=>?_)
 ·obtain ⟨x,b,rfl,_⟩:=h
  rfl
 ·obtain ⟨x,b,rfl,bi,k⟩:=h
  refine ⟨?t,?B,?C⟩
  case B =>
   refine' Jfm ?s1 ?r1
   case s1 =>
    refine' Jg9 ?c2 ?a2 ?b2
    case c2 =>
     exact (Jih (Jgg (Jge (Jft Jks (by rfl) T.Ja1 Jfu (Jfi (pv 0) (Jfi (Jhg (Jfi (Jgo (v:=.ty "list") (by rfl) T.Ja3 Jhx rfl) (Jfi (Jgo (v:=.ty "tuple") (by rfl) T.Ja9 Jgu rfl) Jfk))) Jfk))))) (Ji3 (Jgg (Jn9 Jkh Jkh Jfl (Jft Jgd (by rfl) T.Ja2 Jhi (Jfi (pv 0) Jfk)) (Jgh (by rfl) T.Jv (v:=.int 16) ⟨_,rfl⟩))))).pt
    case a2 =>
     refine' Jfn ?s3
     case s3 =>
      exact (Jfw Jgv)
    case b2 =>
     exact Jfv
   case r1 =>
    refine' Jfm ?s7 ?r7
    case s7 =>
     refine' Jg9 ?c8 ?a8 ?b8
     case c8 =>
      exact (Jgg (Jge (Jft (Jjm rfl) (by rfl) T.Jx Jma (Jfi (Jgs (N:=(["basin"] : List Str)) (ini:=[none]) rfl (Jje (pv 0)) (fun _ _ _ _ _=>(Jg6 (i:=0) (by decide +kernel : (["basin"] : List Str).Nodup) rfl (Or.inl rfl))) (fun _ _ _ _ _=>Jgt) (fun _ _ _ _ _=>(Jft (Jls (K:=K) rfl) (by rfl) T.Ja1 Jfu (Jfi (pv 0) (Jfi (Jgh (by rfl) T.Jaj (v:=.ref _) rfl) Jfk))))) Jfk))))
     case a8 =>
      refine' Jfn ?s9
      case s9 =>
       exact (Jfw Jgv)
     case b8 =>
      exact Jfv
    case r7 =>
     refine' Jfn ?s13
     case s13 =>
      exact (Jfw (Jfq T.J6 G_are_unlike hr (by decide) (Jfi (Jgs (N:=(["basin"] : List Str)) (ini:=[none]) rfl (Jje (pv 0)) (fun _ _ _ _ _=>(Jg6 (i:=0) (by decide +kernel : (["basin"] : List Str).Nodup) rfl (Or.inl rfl))) (fun _ _ _ _ _=>Jgt) (fun _ _ _ _ _=>(Jhp (K:=K) rfl (pv 0) (by rfl)))) Jfk)))
  have sqt : ∀ {q : Addr} {vs : List V} {H : Hp},SqA H q vs → ∃ t,TyX K H (.ref q) t ∧ W.kitAny K t [.type "list",.type "tuple"] = some true:=fun h=>by
   rcases h with h | h
   ·exact ⟨_,.of (.lst h),rfl⟩
   ·exact ⟨_,.of (.tup h),rfl⟩
  have sql : ∀ {q : Addr} {vs : List V} {H : Hp},SqA H q vs → SqL K H q vs ∨ SqT K H q vs:=fun h=>h.imp SqL.of SqT.of
  cases bi with
  | @non x t ty e =>
   exact ⟨_,rfl,(show 2 ≤ sizeLine by decide),fun p hp=>⟨_,p,_,_,t,_,rfl,Jfj,rfl,Jhq (Same.upd hp) ty,e,_,rfl,Jha (Jha (k _ (Same.upd hp)))⟩⟩
  | @len q vs sq n =>
   refine ⟨_,rfl,(show 2 ≤ sizeLine by decide),fun p hp=>?_⟩
   have s1:=Same.upd (o:=.tup [.ty "list",.ty "tuple"]) hp
   obtain ⟨t,ty,e⟩:=sqt (sq.same s1)
   refine ⟨_,p,_,_,t,_,rfl,Jfj,rfl,ty,e,_,rfl,Jgi ?_⟩
   refine ⟨_,rfl,q,_,rfl,sql (sq.same s1),_,_,rfl,rfl,_,rfl,?_⟩
   by_cases h1 : (1 : Int) ≤ (vs.length : Int)
   ·rw [decide_eq_true h1]
    refine Jha ⟨_,_,rfl,rfl,_,rfl,?_⟩
    rw [decide_eq_false (by omega : ¬ (vs.length : Int) ≤ 16)]
    exact Jha (k _ s1)
   ·rw [decide_eq_false h1]
    exact Jgi ⟨_,rfl,Jha (k _ s1)⟩
  | @odd q vs bs sq n bl f e =>
   refine ⟨_,rfl,(show 2 ≤ sizeLine by decide),fun p hp=>?_⟩
   have s1:=Same.upd (o:=.tup [.ty "list",.ty "tuple"]) hp
   obtain ⟨t,ty,et⟩:=sqt (sq.same s1)
   refine ⟨_,p,_,_,t,_,rfl,Jfj,rfl,ty,et,_,rfl,Jgi ?_⟩
   refine ⟨_,rfl,q,_,rfl,sql (sq.same s1),_,_,rfl,rfl,_,rfl,ifT (by simp; omega) ⟨_,_,rfl,rfl,_,rfl,ifF (by simp; omega) ?_⟩⟩
   refine ⟨_,rfl,q,rfl,Jhd (bs.map V.bl) (sq.same s1) (by simp [bl]) (by omega) ?_ ?_⟩
   ·intro i x y H' Q' hx hy sm k'
    obtain ⟨b,rfl,tx,ty', ek⟩:=Jol (os:=[]) f hx hy
    exact ⟨_,rfl,_,_,_,tx,b,rfl,rfl,Jhq (s1.trans sm) ty', ek,k' _ (Same.refl _)⟩
   ·intro D H1 sm hD
    refine ⟨D,bs,rfl,SqL.of hD,_,rfl,?_⟩
    rw [e]
    exact Jha (k _ (s1.trans sm))
  | @row q os Bs sq n bl =>
   have ln:=bl.len
   refine ⟨_,rfl,(show 2 ≤ sizeLine by decide),fun p hp=>?_⟩
   have s1:=Same.upd (o:=.tup [.ty "list",.ty "tuple"]) hp
   obtain ⟨t,ty,et⟩:=sqt (sq.same s1)
   refine ⟨_,p,_,_,t,_,rfl,Jfj,rfl,ty,et,_,rfl,Jgi ?_⟩
   refine ⟨_,rfl,q,_,rfl,sql (sq.same s1),_,_,rfl,rfl,_,rfl,ifT (by simp; omega) ⟨_,_,rfl,rfl,_,rfl,ifF (by simp; omega) ?_⟩⟩
   refine ⟨_,rfl,q,rfl,Jhd ((List.replicate os.length true).map V.bl) (sq.same s1) (by simp) (by simp; omega) ?_ ?_⟩
   ·intro i x y H' Q' hx hy sm k'
    obtain ⟨o,B,rfl,_,_,dx,hb⟩:=(bl.same (s1.trans sm)).get hx
    obtain rfl : y = .bl true:=by
     rw [List.getElem?_map,List.getElem?_replicate] at hy
     split at hy
     ·exact (Option.some.inj hy).symm
     ·cases hy
    exact ⟨_,rfl,_,_,_,_,true,rfl,rfl,.of (T.Jbf.ty T.Jbe hb),T.Jca,k' _ (Same.refl _)⟩
   ·intro D H1 sm hD
    have s2:=s1.trans sm
    refine ⟨D,_,rfl,SqL.of hD,_,rfl,ifF (by simp) ?_⟩
    refine ⟨_,rfl,q,rfl,Jhd ((Bs.map (·.z)).map V.str) (sq.same s2) (by simp; omega) (by simp; omega) ?_ ?_⟩
    ·intro i x y H' Q' hx hy sm3 k'
     obtain ⟨o,B,rfl,_,hB,dx,hb⟩:=(bl.same (s2.trans sm3)).get hx
     rw [List.getElem?_map,List.getElem?_map,hB] at hy
     cases hy
     exact ⟨_,rfl,o,_,dx,_,_,rfl,hb,T.Jbe,T.Jbh,rfl,k' _ (Same.refl _)⟩
    ·intro D2 H2 sm3 hD2
     exact ⟨D2,Bs.map (·.z),rfl,SqL.of hD2,by rw [List.length_map]; omega,fun H3 s3=>k _ ((s2.trans sm3).trans s3)⟩
theorem sc_are_towns : Jfx ["thing","basins","names"] ["thing","basins"] (Jfr (top 35)):=⟨rfl,rfl,rfl,by decide +kernel,rfl,by decide +kernel,by decide +kernel⟩
theorem Jml (T : Tx K mg a) : FnOk P w K mg base CX0 2 a.Jdw a.Jdx ["thing","basins"] (Js3 K a):=by
 have G_are_unlike:=Jj7 (P:=P) (w:=w) (base:=base) T
 refine T.J8.fn.ok sc_are_towns (fun vs H Q E h=>?_) (fun cdv A outer s H vs Q E hr h=>?_)
 ·obtain ⟨x,l,os,Bs,b,rfl,_⟩:=h
  rfl
 ·obtain ⟨x,l,os,Bs,b,rfl,sql0,bl,bn,ti,k⟩:=h
  have blen:=bl.len
  refine ⟨?t,?B,?C⟩
  case B =>
   refine' Jfm ?s1 ?r1
   case s1 =>
    refine' Jg9 ?c2 ?a2 ?b2
    case c2 =>
     exact (Jih (Jgg (Jge (Jft Jks (by rfl) T.Ja1 Jfu (Jfi (pv 0) (Jfi (Jhg (Jfi (Jgo (v:=.ty "list") (by rfl) T.Ja3 Jhx rfl) (Jfi (Jgo (v:=.ty "tuple") (by rfl) T.Ja9 Jgu rfl) Jfk))) Jfk))))) (Ji3 (Jg4 op_gt (Jft Jgd (by rfl) T.Ja2 Jhi (Jfi (pv 0) Jfk)) (Jgh (by rfl) T.Jw (v:=.int 3) ⟨_,rfl⟩) (Jga _)))).pt
    case a2 =>
     refine' Jfn ?s3
     case s3 =>
      exact (Jfw Jgv)
    case b2 =>
     exact Jfv
   case r1 =>
    refine' Jfm ?s7 ?r7
    case s7 =>
     refine' Jg9 ?c8 ?a8 ?b8
     case c8 =>
      exact (Jgg (Jge (Jft (Jjm rfl) (by rfl) T.Jx Jma (Jfi (Jgs (N:=(["town"] : List Str)) (ini:=[none]) rfl (Jje (pv 0)) (fun _ _ _ _ _=>(Jg6 (i:=0) (by decide +kernel : (["town"] : List Str).Nodup) rfl (Or.inl rfl))) (fun _ _ _ _ _=>Jgt) (fun _ _ _ _ _=>(Jft (Jls (K:=K) rfl) (by rfl) T.Ja1 Jfu (Jfi (pv 0) (Jfi (Jgh (by rfl) T.Jak (v:=.ref _) rfl) Jfk))))) Jfk))))
     case a8 =>
      refine' Jfn ?s9
      case s9 =>
       exact (Jfw Jgv)
     case b8 =>
      exact Jfv
    case r7 =>
     refine' Jfm ?s13 ?r13
     case s13 =>
      exact (Jfy (i:=2) sc_are_towns.nd rfl (Or.inr rfl) (Jgs (N:=(["basin"] : List Str)) (ini:=[none]) rfl (Jje (pv 1)) (fun _ _ _ _ _=>(Jg6 (i:=0) (by decide +kernel : (["basin"] : List Str).Nodup) rfl (Or.inl rfl))) (fun _ _ _ _ _=>Jgt) (fun _ _ _ _ _=>(Jhp (K:=K) rfl (pv 0) (by rfl)))))
     case r13 =>
      refine' Jfn ?s15
      case s15 =>
       exact (Jfw (Jnu (Jfq T.J6 G_are_unlike hr (by decide) (Jfi (Jgs (N:=(["town"] : List Str)) (ini:=[none]) rfl (Jje (pv 0)) (fun _ _ _ _ _=>(Jg6 (i:=0) (by decide +kernel : (["town"] : List Str).Nodup) rfl (Or.inl rfl))) (fun _ _ _ _ _=>Jgt) (fun _ _ _ _ _=>(Jhp (K:=K) rfl (pv 0) (by rfl)))) Jfk)) (Jnv (Jft (Jjm rfl) (by rfl) T.Jx Jma (Jfi (Jgs (N:=(["town","names"] : List Str)) (ini:=[none,some 2]) rfl (Jje (pv 0)) (fun _ _ _ _ _=>(Jg6 (i:=0) (by decide +kernel : (["town","names"] : List Str).Nodup) rfl (Or.inl rfl))) (fun _ _ _ _ _=>Jgt) (fun _ _ _ _ _=>(Jkq (Jns (K:=K) rfl) (Jhp (K:=K) rfl (pv 0) (by rfl)) (pv 1) (by with_unfolding_all rfl)))) Jfk)))))
  have sqt : ∀ {q : Addr} {vs : List V} {H : Hp},SqA H q vs → ∃ t,TyX K H (.ref q) t ∧ W.kitAny K t [.type "list",.type "tuple"] = some true:=fun h=>by
   rcases h with h | h
   ·exact ⟨_,.of (.lst h),rfl⟩
   ·exact ⟨_,.of (.tup h),rfl⟩
  have sql : ∀ {q : Addr} {vs : List V} {H : Hp},SqA H q vs → SqL K H q vs ∨ SqT K H q vs:=fun h=>h.imp SqL.of SqT.of
  cases ti with
  | @non x t ty e =>
   exact ⟨_,rfl,(show 2 ≤ sizeLine by decide),fun p hp=>⟨_,p,_,_,t,_,rfl,Jfj,rfl,Jhq (Same.upd hp) ty,e,_,rfl,Jha (Jha (k _ (Same.upd hp)))⟩⟩
  | @len q vs sq n =>
   refine ⟨_,rfl,(show 2 ≤ sizeLine by decide),fun p hp=>?_⟩
   have s1:=Same.upd (o:=.tup [.ty "list",.ty "tuple"]) hp
   obtain ⟨t,ty,e⟩:=sqt (sq.same s1)
   refine ⟨_,p,_,_,t,_,rfl,Jfj,rfl,ty,e,_,rfl,Jgi ?_⟩
   exact ⟨_,rfl,q,_,rfl,sql (sq.same s1),_,_,rfl,rfl,_,rfl,ifT (by simp; omega) (k _ s1)⟩
  | @odd q vs bs sq n bsl f e =>
   refine ⟨_,rfl,(show 2 ≤ sizeLine by decide),fun p hp=>?_⟩
   have s1:=Same.upd (o:=.tup [.ty "list",.ty "tuple"]) hp
   obtain ⟨t,ty,et⟩:=sqt (sq.same s1)
   refine ⟨_,p,_,_,t,_,rfl,Jfj,rfl,ty,et,_,rfl,Jgi ?_⟩
   refine ⟨_,rfl,q,_,rfl,sql (sq.same s1),_,_,rfl,rfl,_,rfl,ifF (by simp; omega) ?_⟩
   refine ⟨_,rfl,q,rfl,Jhd (bs.map V.bl) (sq.same s1) (by simp [bsl]) (by omega) ?_ ?_⟩
   ·intro i x y H' Q' hx hy sm k'
    obtain ⟨b,rfl,tx,ty', ek⟩:=Jol (os:=[]) f hx hy
    exact ⟨_,rfl,_,_,_,tx,b,rfl,rfl,Jhq (s1.trans sm) ty', ek,k' _ (Same.refl _)⟩
   ·intro D H1 sm hD
    refine ⟨D,bs,rfl,SqL.of hD,_,rfl,?_⟩
    rw [e]
    exact Jha (k _ (s1.trans sm))
  | @row q ts Ts sq n tl =>
   have tlen:=tl.len
   refine ⟨_,rfl,(show 2 ≤ sizeLine by decide),fun p hp=>?_⟩
   have s1:=Same.upd (o:=.tup [.ty "list",.ty "tuple"]) hp
   obtain ⟨t,ty,et⟩:=sqt (sq.same s1)
   refine ⟨_,p,_,_,t,_,rfl,Jfj,rfl,ty,et,_,rfl,Jgi ?_⟩
   refine ⟨_,rfl,q,_,rfl,sql (sq.same s1),_,_,rfl,rfl,_,rfl,ifF (by simp; omega) ?_⟩
   refine ⟨_,rfl,q,rfl,Jhd ((List.replicate ts.length true).map V.bl) (sq.same s1) (by simp) (by simp; omega) ?_ ?_⟩
   ·intro i x y H' Q' hx hy sm k'
    obtain ⟨o,B,rfl,_,_,dx,hb⟩:=(tl.same (s1.trans sm)).get hx
    obtain rfl : y = .bl true:=by
     rw [List.getElem?_map,List.getElem?_replicate] at hy
     split at hy
     ·exact (Option.some.inj hy).symm
     ·cases hy
    exact ⟨_,rfl,_,_,_,_,true,rfl,rfl,.of (T.Jbo.ty T.Jbn hb),T.Jcd,k' _ (Same.refl _)⟩
   ·intro D H1 sm hD
    have s2:=s1.trans sm
    refine ⟨D,_,rfl,SqL.of hD,_,rfl,ifF (by simp) ?_⟩
    refine ⟨_,rfl,l,rfl,Jhd ((Bs.map (·.z)).map V.str) (sql0.same s2) (by simp; omega) (by simp; omega) ?_ ?_⟩
    ·intro i x y H' Q' hx hy sm3 k'
     obtain ⟨o,B,rfl,_,hB,dx,hb⟩:=(bl.same (s2.trans sm3)).get hx
     rw [List.getElem?_map,List.getElem?_map,hB] at hy
     cases hy
     exact ⟨_,rfl,o,_,dx,_,_,rfl,hb,T.Jbe,T.Jbh,rfl,k' _ (Same.refl _)⟩
    ·intro D2 H2 sm3 hD2
     have s3:=s2.trans sm3
     refine ⟨_,rfl,q,rfl,Jhd ((Ts.map (·.z)).map V.str) (sq.same s3) (by simp; omega) (by simp; omega) ?_ ?_⟩
     ·intro i x y H' Q' hx hy sm4 k'
      obtain ⟨o,B,rfl,_,hB,dx,hb⟩:=(tl.same (s3.trans sm4)).get hx
      rw [List.getElem?_map,List.getElem?_map,hB] at hy
      cases hy
      exact ⟨_,rfl,o,_,dx,_,_,rfl,hb,T.Jbn,T.Jbq,rfl,k' _ (Same.refl _)⟩
     ·intro D3 H3 sm4 hD3
      refine ⟨D3,Ts.map (·.z),rfl,SqL.of hD3,by rw [List.length_map]; omega,fun H4 s4=>⟨_,rfl,?_⟩⟩
      have s5:=(s3.trans sm4).trans s4
      have hD24:=s4 _ _ (sm4 _ _ hD2)
      cases eu : decide ((uq (Ts.map (·.z))).length = (Ts.map (·.z)).length) with
      | false =>
       have k':=k _ s5
       rw [eu,Bool.false_and] at k'
       exact Jgi k'
      | true =>
       refine Jha ?_
       refine ⟨_,rfl,q,rfl,Jhd ((Ts.map fun t=>decide (t.b ∈ Bs.map (·.z))).map V.bl) (sq.same s5) (by simp; omega) (by simp; omega) ?_ ?_⟩
       ·intro i x y H' Q' hx hy sm6 k'
        obtain ⟨o,B,rfl,_,hB,dx,hb⟩:=(tl.same (s5.trans sm6)).get hx
        rw [List.getElem?_map,List.getElem?_map,hB] at hy
        cases hy
        refine ⟨_,rfl,o,_,dx,_,_,rfl,hb,T.Jbn,T.Jbr,rfl,_,rfl,D2,_,rfl,.inl (SqL.of (sm6 _ _ hD24)),rfl,by simp [Jhf],?_⟩
        have e : inV (V.str B.b) ((Bs.map (·.z)).map V.str) = decide (B.b ∈ Bs.map (·.z)):=by
         unfold inV
         rw [Bool.eq_iff_iff,List.any_eq_true,decide_eq_true_eq]
         constructor
         ·rintro ⟨v,hv,ev⟩
          obtain ⟨z,hz,rfl⟩:=List.mem_map.mp hv
          have : z = B.b:=by simpa [eqV] using ev
          rw [← this]
          exact hz
         ·intro hz
          exact ⟨V.str B.b,List.mem_map.mpr ⟨B.b,hz,rfl⟩,by simp [eqV]⟩
        show Q' _ _
        rw [if_neg Bool.false_ne_true,e]
        exact k' _ (Same.refl _)
       ·intro D4 H5 sm6 hD4
        refine ⟨D4,_,rfl,SqL.of hD4,?_⟩
        have k':=k _ (s5.trans sm6)
        rw [eu,Bool.true_and] at k'
        rw [List.all_map]
        exact k'
end
theorem Jnh {H : Hp} {p q : Addr} {o u : HO} (h : p ≠ q) : upd (upd H p o) q u = upd (upd H q u) p o:=by
 funext c
 by_cases h1 : c = p
 ·subst h1
  rw [Jfj,Jfp h,Jfj]
 ·rw [Jfp h1]
  by_cases h2 : c = q
  ·subst h2
   rw [Jfj,Jfj]
  ·rw [Jfp h2,Jfp h2,Jfp h1]
def Jnw (c g b t : V) : List (Str × V):=[("cloud",c),("gain",g),("basins",b),("towns",t)]
structure Rgd where
 c : Int
 g : Int
 os : List Addr
 Bs : List Bsn
 ts : List Addr
 Ts : List Twn
structure Jmu (R : Rgd) : Prop where
 c : 0 ≤ R.c ∧ R.c ≤ 12
 g : 0 ≤ R.g ∧ R.g ≤ R.c
 n : 1 ≤ R.Bs.length ∧ R.Bs.length ≤ 16
 nd : (R.Bs.map (·.z)).Nodup
 tn : R.Ts.length ≤ 3
 tnd : (R.Ts.map (·.z)).Nodup
 inn : ∀ t ∈ R.Ts,t.b ∈ R.Bs.map (·.z)
 nm : ∀ B ∈ R.Bs,Jgk B.z = true ∧ Wd 50 B.z
 tm : ∀ B ∈ R.Ts,Jgk B.z = true ∧ Wd 50 B.z
def BsGd (a : Ad) (H : Hp) (x : V) (R : Rgd) : Prop:=∃ l,x = .ref l ∧ SqA H l (R.os.map V.ref) ∧ BasL a H R.os R.Bs
def TsGd (a : Ad) (H : Hp) (x : V) (R : Rgd) : Prop:=∃ l,x = .ref l ∧ SqA H l (R.ts.map V.ref) ∧ TwnL a H R.ts R.Ts
theorem BsGd.same {a : Ad} {H H' : Hp} {x : V} {R : Rgd} (s : Same H H') (h : BsGd a H x R) : BsGd a H' x R:=let ⟨l,e,h1,h2⟩:=h; ⟨l,e,h1.same s,h2.same s⟩
theorem TsGd.same {a : Ad} {H H' : Hp} {x : V} {R : Rgd} (s : Same H H') (h : TsGd a H x R) : TsGd a H' x R:=let ⟨l,e,h1,h2⟩:=h; ⟨l,e,h1.same s,h2.same s⟩
inductive RvBad (K : W.Frag) (a : Ad) (H : Hp) (R : Rgd) : V → V → V → V → Bool → V → Prop where
 | cloud {c g b t : V} : Tm K H c → Jhj c 0 12 = false → RvBad K a H R c g b t false c
 | gain {g b t : V} : Tm K H g → Jhj g 0 R.c = false → RvBad K a H R (.int R.c) g b t false g
 | basins {b t : V} : BasIs K a H b false → RvBad K a H R (.int R.c) (.int R.g) b t true b
 | towns {b t : V} : BsGd a H b R → TwnIs K a H (R.Bs.map (·.z)) t false → RvBad K a H R (.int R.c) (.int R.g) b t true t
theorem RvBad.same {K : W.Frag} {a : Ad} {H H' : Hp} {R : Rgd} {c g b t : V} {k : Bool} {x : V} (s : Same H H') (h : RvBad K a H R c g b t k x) : RvBad K a H' R c g b t k x:=by
 cases h with
 | cloud t e=>exact .cloud (t.same s) e
 | gain t e=>exact .gain (t.same s) e
 | basins h=>exact .basins (h.same s)
 | towns h q=>exact .towns (h.same s) (q.same s)
def Js2 (K : W.Frag) (a : Ad) : Sp:=fun vs H Q E=>∃ (p dx : Addr) (c g b t : V) (R : Rgd),vs = [.ref p,c,g,b,t] ∧ H p = some (.ins a.Jfh dx []) ∧ Jmu R ∧
 ((c = .int R.c ∧ g = .int R.g ∧ BsGd a H b R ∧ TsGd a H t R ∧ ∀ H' b t,Same H H' → H' b = some (.tup (R.os.map V.ref)) → H' t = some (.tup (R.ts.map V.ref)) → b ≠ p → t ≠ p → Q .non (upd H' p (.ins a.Jfh dx (Jnw (.int R.c) (.int R.g) (.ref b) (.ref t))))) ∨
  (∃ k x,RvBad K a H R c g b t k x ∧ ∀ c eo H', RfC (if k then a.Jfc else a.Jfb) H H' x c eo → E c eo H'))
def RivAt (a : Ad) (H : Hp) (o : Addr) (R : Rgd) : Prop:=∃ dx b t,H o = some (.ins a.Jfh dx (Jnw (.int R.c) (.int R.g) (.ref b) (.ref t))) ∧ H b = some (.tup (R.os.map V.ref)) ∧ H t = some (.tup (R.ts.map V.ref)) ∧ BasL a H R.os R.Bs ∧ TwnL a H R.ts R.Ts
theorem RivAt.same {a : Ad} {H H' : Hp} {o : Addr} {R : Rgd} (s : Same H H') (h : RivAt a H o R) : RivAt a H' o R:=let ⟨dx,b,t,h1,h2,h3,h4,h5⟩:=h; ⟨dx,b,t,s _ _ h1,s _ _ h2,s _ _ h3,h4.same s,h5.same s⟩
def Jp9 (zs : List Str) : V → V
 | .str z=>if z ∈ zs then .int (zs.idxOf z : Nat) else .non
 | _=>.non
def Js0 (K : W.Frag) (a : Ad) : Sp:=fun vs H Q _=>∃ (o : Addr) (R : Rgd) (x : V),vs = [.ref o,x] ∧ RivAt a H o R ∧ Oth K H x ∧ ∀ H', Same H H' → Q (Jp9 (R.Bs.map (·.z)) x) H'
theorem Jq3 : ∀ {l : List Str} {i : Nat} {z : Str},l[i]? = some z → (∀ j,j < i → l[j]? ≠ some z) → l.idxOf z = i
 | [],_,_,h,_=>by simp at h
 | x :: l,0,z,h,_=>by
  have e : x = z:=by simpa using h
  rw [e]
  simp
 | x :: l,i + 1,z,h,n=>by
  have hx : x ≠ z:=fun e=>n 0 (by omega) (by simp [e])
  have ih:=Jq3 (l:=l) (i:=i) (z:=z) (by simpa using h) (fun j hj=>by have:=n (j + 1) (by omega); simpa using this)
  have hb : (x == z) = false:=beq_false_of_ne hx
  simp [List.idxOf_cons,hb,ih]
theorem Jqh {zs : List Str} {z : Str} {i : Nat} (h : zs[i]? = some z) (no : ∀ j,j < i → zs[j]? ≠ some z) : Jp9 zs (.str z) = .int i:=by
 have hi:=(List.getElem?_eq_some_iff.mp h).1
 have e:=Jq3 h no
 show (if z ∈ zs then V.int (zs.idxOf z : Nat) else .non) = _
 rw [if_pos (List.mem_of_getElem? h),e]
def Jru (a : Ad) : Sp:=fun vs H Q _=>∃ (o : Addr) (R : Rgd),vs = [.ref o] ∧ RivAt a H o R ∧ Jmu R ∧ ∀ (y u : Addr) H', Same H H' → H' y = some (.tup [.ref u,.int R.c]) → H' u = some (.tup ((R.Bs.map (·.st)).map V.int)) → Q (.ref y) H'
section
variable {P : Program} {w : World} {K : W.Frag} {mg : Str → Option Value} {base : Heap} {a : Ad}
theorem Jj2 : Jfx ["self","thing"] ["self","thing"] (Jfr (Jg0 (top 7) 0)):=⟨rfl,rfl,rfl,by decide +kernel,rfl,by decide +kernel,by decide +kernel⟩
theorem Jkl (T : Tx K mg a) : FnOk P w K mg base CX0 1 a.Jd6 a.Jd7 ["self","thing"] (Jiv K "thing"):=by
 refine T.Jaq.fn.ok Jj2 (fun vs H Q E h=>?_) (fun cdv A outer s H vs Q E hr h=>?_)
 ·obtain ⟨e,C,W,fI,y,rfl,_⟩:=h
  rfl
 ·obtain ⟨e,C,W,fI,y,rfl,q,c,n,k⟩:=h
  refine ⟨_,(Jfn (Jj0 (pv 0) (pv 1) rfl)),?_⟩
  exact ⟨_,rfl,_,rfl,e,C,W,fI,true,rfl,q,c,n,k⟩
theorem Jj3 : Jfx ["self","thing"] ["self","thing"] (Jfr (Jg0 (top 8) 0)):=⟨rfl,rfl,rfl,by decide +kernel,rfl,by decide +kernel,by decide +kernel⟩
theorem Jkm (T : Tx K mg a) : FnOk P w K mg base CX0 1 a.Jd8 a.Jd9 ["self","thing"] (Jiv K "thing"):=by
 refine T.Jar.fn.ok Jj3 (fun vs H Q E h=>?_) (fun cdv A outer s H vs Q E hr h=>?_)
 ·obtain ⟨e,C,W,fI,y,rfl,_⟩:=h
  rfl
 ·obtain ⟨e,C,W,fI,y,rfl,q,c,n,k⟩:=h
  refine ⟨_,(Jfn (Jj0 (pv 0) (pv 1) rfl)),?_⟩
  exact ⟨_,rfl,_,rfl,e,C,W,fI,true,rfl,q,c,n,k⟩
theorem Jju : Jfx ["self","cloud","gain","basins","towns"] ["self","cloud","gain","basins","towns"] (Jfr (Jg0 (top 36) 0)):=⟨rfl,rfl,rfl,by decide +kernel,rfl,by decide +kernel,by decide +kernel⟩
theorem Jj6 (T : Tx K mg a) : FnOk P w K mg base (CXX P w) 4 a.Jdy a.Jdz ["self","cloud","gain","basins","towns"] (Js2 K a):=by
 have G_is_whole:=Jhz (P:=P) (w:=w) (base:=base) T
 have G_are_basins:=Jlb (P:=P) (w:=w) (base:=base) T
 have G_are_towns:=Jml (P:=P) (w:=w) (base:=base) T
 have G_NoCloud___init__:=Jkl (P:=P) (w:=w) (base:=base) T
 have G_NoRiver___init__:=Jkm (P:=P) (w:=w) (base:=base) T
 refine T.Jav.fn.okX Jju (fun vs H Q E h=>?_) (fun cdv A outer s H vs Q E hr h=>?_)
 ·obtain ⟨p,dx,c,g,b,t,R,rfl,_⟩:=h
  rfl
 ·obtain ⟨p,dx,c,g,bv,tv,R,rfl,hp,ok,h⟩:=h
  refine ⟨?t,?B,?C⟩
  case B =>
   refine' Jfm ?s1 ?r1
   case s1 =>
    refine' Jg9 ?c2 ?a2 ?b2
    case c2 =>
     exact (Jgg (Jge (Jfq T.J0 G_is_whole hr (by decide) (Jfi (pv 1) (Jfi Jfl (Jfi (Jgh (by rfl) T.Ju (v:=.int 12) ⟨_,rfl⟩) Jfk))))))
    case a2 =>
     refine' Jfn ?s3
     case s3 =>
      exact (Jh3 Jh9 rfl (Jhv T.Jb4 G_NoCloud___init__ hr (by decide) T.Jaq.bd T.Jaf (Jfi (pv 1) Jfk)))
    case b2 =>
     exact Jfv
   case r1 =>
    refine' Jfm ?s6 ?r6
    case s6 =>
     refine' Jg9 ?c7 ?a7 ?b7
     case c7 =>
      exact (Jgg (Jge (Jfq T.J0 G_is_whole hr (by decide) (Jfi (pv 2) (Jfi Jfl (Jfi (pv 1) Jfk))))))
     case a7 =>
      refine' Jfn ?s8
      case s8 =>
       exact (Jh3 Jh9 rfl (Jhv T.Jb4 G_NoCloud___init__ hr (by decide) T.Jaq.bd T.Jaf (Jfi (pv 2) Jfk)))
     case b7 =>
      exact Jfv
    case r6 =>
     refine' Jfm ?s11 ?r11
     case s11 =>
      refine' Jg9 ?c12 ?a12 ?b12
      case c12 =>
       exact (Jgg (Jge (Jfq T.J7 G_are_basins hr (by decide) (Jfi (pv 3) Jfk))))
      case a12 =>
       refine' Jfn ?s13
       case s13 =>
        exact (Jh3 Jh9 rfl (Jhv T.Jb7 G_NoRiver___init__ hr (by decide) T.Jar.bd T.Jag (Jfi (pv 3) Jfk)))
      case b12 =>
       exact Jfv
     case r11 =>
      refine' Jfm ?s16 ?r16
      case s16 =>
       refine' Jg9 ?c17 ?a17 ?b17
       case c17 =>
        exact (Jgg (Jge (Jfq T.J8 G_are_towns hr (by decide) (Jfi (pv 4) (Jfi (pv 3) Jfk)))))
       case a17 =>
        refine' Jfn ?s18
        case s18 =>
         exact (Jh3 Jh9 rfl (Jhv T.Jb7 G_NoRiver___init__ hr (by decide) T.Jar.bd T.Jag (Jfi (pv 4) Jfk)))
       case b17 =>
        exact Jfv
      case r16 =>
       refine' Jfm ?s21 ?r21
       case s21 =>
        exact (Jhh (pv 0) (pv 1) rfl)
       case r21 =>
        refine' Jfm ?s23 ?r23
        case s23 =>
         exact (Jhh (pv 0) (pv 2) rfl)
        case r23 =>
         refine' Jfm ?s25 ?r25
         case s25 =>
          exact (Jhh (pv 0) (Jgj Jgq (by rfl) T.Ja9 Jgu (Jfi (pv 3) Jfk)) rfl)
         case r25 =>
          refine' Jfn ?s27
          case s27 =>
           exact (Jhh (pv 0) (Jgj Jgq (by rfl) T.Ja9 Jgu (Jfi (pv 4) Jfk)) rfl)
  rcases h with ⟨rfl,rfl,bg,tg,k⟩ | ⟨kk,x,bad,k⟩
  ·obtain ⟨l,rfl,sl,bl⟩:=bg
   obtain ⟨m,rfl,sm,tl⟩:=tg
   have bb : BasIs K a H (.ref l) true:=by
    have:=BasIs.row (K:=K) sl ok.n bl
    rwa [Jjw ok.nd,decide_eq_true rfl] at this
   refine ⟨_,rfl,_,0,12,rfl,.inl ⟨_,rfl⟩,_,rfl,ifF (by rw [Jgy ok.c.1 ok.c.2]; rfl) ?_⟩
   refine ⟨_,rfl,_,rfl,_,0,R.c,rfl,.inl ⟨_,rfl⟩,_,rfl,ifF (by rw [Jgy ok.g.1 ok.g.2]; rfl) ?_⟩
   refine ⟨_,rfl,_,true,rfl,bb,fun H1 s1=>⟨_,rfl,Jgi ?_⟩⟩
   have tt : TwnIs K a H1 (R.Bs.map (·.z)) (.ref m) true:=by
    have:=TwnIs.row (K:=K) (zs:=R.Bs.map (·.z)) (sm.same s1) ok.tn (tl.same s1)
    rwa [Jjw ok.tnd,decide_eq_true rfl,Bool.true_and,show (R.Ts.all fun t=>decide (t.b ∈ R.Bs.map (·.z))) = true from List.all_eq_true.mpr fun t ht=>decide_eq_true (ok.inn t ht)] at this
   refine ⟨_,rfl,_,rfl,_,l,R.os,R.Bs,true,rfl,sl.same s1,bl.same s1,ok.n.2,tt,fun H2 s2=>⟨_,rfl,Jgi ?_⟩⟩
   have s3:=s1.trans s2
   have hp2:=s3 _ _ hp
   refine ⟨_,rfl,_,rfl,p,_,dx,[],rfl,hp2,T.Jbt,T.Jbx,by simp,?_⟩
   rw [show Jhc "cloud" (.int R.c) [] = ([("cloud",.int R.c)] : List (Str × V)) from rfl]
   refine ⟨_,rfl,_,rfl,p,_,dx,_,rfl,Jfj,T.Jbt,T.Jby,by simp,?_⟩
   rw [show Jhc "gain" (.int R.g) [("cloud",.int R.c)] = ([("cloud",.int R.c),("gain",.int R.g)] : List (Str × V)) from Jh4 (fs:=[("cloud",.int R.c)]) (show (["cloud"] : List Str).contains "gain" = false by decide +kernel),Ji1]
   have nl : l ≠ p:=fun e=>by subst e; rcases sl with z | z <;> (rw [z] at hp; cases hp)
   have nm : m ≠ p:=fun e=>by subst e; rcases sm with z | z <;> (rw [z] at hp; cases hp)
   refine ⟨_,rfl,l,R.os.map V.ref,rfl,?_⟩
   rcases sl.same s3 with e | e
   case' inl =>
    refine .inl ⟨SqL.of (by rw [Jfp nl]; exact e),fun b hb0=>?_⟩
    have nb : b ≠ p:=fun z=>by subst z; rw [Jfj] at hb0; cases hb0
    rw [Jfp nb] at hb0
    rw [Jnh nb.symm]
    have s4:=Same.upd (o:=.tup (R.os.map V.ref)) hb0
    have hb:=Jfj (H:=H2) (a:=b) (o:=.tup (R.os.map V.ref))
   case' inr =>
    refine .inr ⟨SqT.of (by rw [Jfp nl]; exact e),?_⟩
    have s4:=Same.refl H2
    have hb:=e
    have nb:=nl
    obtain ⟨b,hbl⟩ : ∃ b,b = l:=⟨l,rfl⟩
    subst hbl
   all_goals
    refine ⟨_,rfl,p,_,dx,_,rfl,Jfj,T.Jbt,T.Jbz,by simp,?_⟩
    rw [show Jhc "basins" (.ref b) [("cloud",.int R.c),("gain",.int R.g)] = ([("cloud",.int R.c),("gain",.int R.g),("basins",.ref b)] : List (Str × V)) from Jh4 (fs:=[("cloud",.int R.c),("gain",.int R.g)]) (show (["cloud","gain"] : List Str).contains "basins" = false by decide +kernel),Ji1]
    have s5:=s3.trans s4
    refine ⟨_,rfl,m,R.ts.map V.ref,rfl,?_⟩
    rcases sm.same s5 with e2 | e2
    case' inl =>
     refine .inl ⟨SqL.of (by rw [Jfp nm]; exact e2),fun t ht0=>?_⟩
     have nt : t ≠ p:=fun z=>by subst z; rw [Jfj] at ht0; cases ht0
     rw [Jfp nt] at ht0
     rw [Jnh nt.symm]
     have s6:=Same.upd (o:=.tup (R.ts.map V.ref)) ht0
    case' inr =>
     refine .inr ⟨SqT.of (by rw [Jfp nm]; exact e2),?_⟩
     have s6:=Same.refl H2
     have ht:=e2
     have nt:=nm
     obtain ⟨t,htl⟩ : ∃ t,t = m:=⟨m,rfl⟩
     subst htl
    all_goals
     refine ⟨_,rfl,p,_,dx,_,rfl,Jfj,T.Jbt,T.Jc0,by simp,?_⟩
     rw [show Jhc "towns" (.ref t) [("cloud",.int R.c),("gain",.int R.g),("basins",.ref b)] = (Jnw (.int R.c) (.int R.g) (.ref b) (.ref t)) from Jh4 (fs:=[("cloud",.int R.c),("gain",.int R.g),("basins",.ref b)]) (show (["cloud","gain","basins"] : List Str).contains "towns" = false by decide +kernel),Ji1]
     first
      | exact k _ b t (s5.trans s6) (s6 _ _ hb) Jfj nb nt
      | exact k _ b t s5 hb ht nb nt
  ·cases bad with
   | cloud tm e =>
    refine ⟨_,rfl,_,0,12,rfl,tm,_,rfl,ifT (by rw [e]; rfl) ?_⟩
    exact Ji9 T.Jb4 T.Jb6 rfl fun e dx h1 h2 h3=>k _ _ _ (RfC.new h1 h2 h3)
   | gain tm e =>
    refine ⟨_,rfl,_,0,12,rfl,.inl ⟨_,rfl⟩,_,rfl,ifF (by rw [Jgy ok.c.1 ok.c.2]; rfl) ?_⟩
    refine ⟨_,rfl,_,rfl,_,0,R.c,rfl,tm,_,rfl,ifT (by rw [e]; rfl) ?_⟩
    exact Ji9 T.Jb4 T.Jb6 rfl fun e dx h1 h2 h3=>k _ _ _ (RfC.new h1 h2 h3)
   | basins bi =>
    refine ⟨_,rfl,_,0,12,rfl,.inl ⟨_,rfl⟩,_,rfl,ifF (by rw [Jgy ok.c.1 ok.c.2]; rfl) ?_⟩
    refine ⟨_,rfl,_,rfl,_,0,R.c,rfl,.inl ⟨_,rfl⟩,_,rfl,ifF (by rw [Jgy ok.g.1 ok.g.2]; rfl) ?_⟩
    refine ⟨_,rfl,_,false,rfl,bi,fun H1 s1=>⟨_,rfl,Jha ?_⟩⟩
    exact Ji9 T.Jb7 T.Jb9 rfl fun e dx h1 h2 h3=>k _ _ _ ((RfC.new h1 h2 h3).of s1)
   | towns bg ti =>
    obtain ⟨l,rfl,sl,bl⟩:=bg
    have bb : BasIs K a H (.ref l) true:=by
     have:=BasIs.row (K:=K) sl ok.n bl
     rwa [Jjw ok.nd,decide_eq_true rfl] at this
    refine ⟨_,rfl,_,0,12,rfl,.inl ⟨_,rfl⟩,_,rfl,ifF (by rw [Jgy ok.c.1 ok.c.2]; rfl) ?_⟩
    refine ⟨_,rfl,_,rfl,_,0,R.c,rfl,.inl ⟨_,rfl⟩,_,rfl,ifF (by rw [Jgy ok.g.1 ok.g.2]; rfl) ?_⟩
    refine ⟨_,rfl,_,true,rfl,bb,fun H1 s1=>⟨_,rfl,Jgi ?_⟩⟩
    refine ⟨_,rfl,_,rfl,_,l,R.os,R.Bs,false,rfl,sl.same s1,bl.same s1,ok.n.2,ti.same s1,fun H2 s2=>⟨_,rfl,Jha ?_⟩⟩
    exact Ji9 T.Jb7 T.Jb9 rfl fun e dx h1 h2 h3=>k _ _ _ ((RfC.new h1 h2 h3).of (s1.trans s2))
theorem sc_River_place_of : Jfx ["self","name","place","basin"] ["self","name"] (Jfr (Jg0 (top 36) 1)):=⟨rfl,rfl,rfl,by decide +kernel,rfl,by decide +kernel,by decide +kernel⟩
theorem Jn5 (T : Tx K mg a) : FnOk P w K mg base CX0 1 a.Je0 a.Je1 ["self","name"] (Js0 K a):=by
 refine T.Jaw.fn.ok sc_River_place_of (fun vs H Q E h=>?_) (fun cdv A outer s H vs Q E hr h=>?_)
 ·obtain ⟨o,R,x,rfl,_⟩:=h
  rfl
 ·obtain ⟨o,R,x,rfl,⟨dx,b,t,ho,hb,ht,bl,tl⟩,ot,k⟩:=h
  have hu64:=Jjo hr
  have blen:=bl.len
  refine ⟨?t,?B,?C⟩
  case B =>
   refine' Jfm ?s1 ?r1
   case s1 =>
    refine' Jie ?f2_0 ?f2_1 ?f2_2 ?f2_3 ?f2_4
    case f2_0 =>
     exact PassesOwn.never
    case f2_1 =>
     exact rfl
    case f2_2 =>
     exact (Jqe (by rfl) T.Jz (Jfi (Jgl (pv 0) (by rfl)) Jfk))
    case f2_3 =>
     exact (Jqd rfl (Jjs (Jg6 (i:=2) sc_River_place_of.nd rfl (Or.inl rfl)) (Jjs (Jg6 (i:=3) sc_River_place_of.nd rfl (Or.inl rfl)) Joj)))
    case f2_4 =>
     refine' Jfn ?s3
     case s3 =>
      refine' Jg9 ?c4 ?a4 ?b4
      case c4 =>
       exact (Jg4 (Jrk hu64) (Jgl (pv 3) (by rfl)) (pv 1) (Jga _))
      case a4 =>
       refine' Jfn ?s5
       case s5 =>
        exact (Jfw (pv 2))
      case b4 =>
       exact Jfv
   case r1 =>
    refine' Jfn ?s9
    case s9 =>
     exact (Jfw Jhn)
  refine ⟨_,rfl,o,_,dx,_,_,rfl,ho,T.Jbt,T.Jbz,rfl,b,rfl,⟨_,SqT.of hb⟩,?_⟩
  refine Jq0 (xs:=R.os.map V.ref) (fun i σ H'=>(∃ o1 o2,σ = [some (.ref o),some x,o1,o2]) ∧ Same H H' ∧ ∀ j,j < i → ∀ z,x = .str z → (R.Bs.map (·.z))[j]? ≠ some z) ⟨⟨_,_,rfl⟩,Same.refl _,fun j hj=>absurd hj (Nat.not_lt_zero j)⟩ (fun i σ H' _ ⟨_,sm,_⟩=>SqT.of (sm _ _ hb)) ?_ ?_
  ·rintro i y σ H' Ta hx ⟨⟨o1,o2,rfl⟩,sm,no⟩ hT
   obtain ⟨ob,B,rfl,_,hB,dxb,hob⟩:=(bl.same sm).get hx
   have sT:=Same.upd (o:=.tup [.int i,.ref ob]) hT
   have hz : (R.Bs.map (·.z))[i]? = some B.z:=by rw [List.getElem?_map,hB]; rfl
   refine ⟨Ta,_,rfl,SqT.of Jfj,rfl,_,_,rfl,_,_,rfl,rfl,?_⟩
   refine ⟨_,rfl,ob,_,dxb,_,_,rfl,sT _ _ hob,T.Jbe,T.Jbh,rfl,_,rfl,_,rfl,ot.same (sm.trans sT),_,rfl,?_⟩
   by_cases e : V.str B.z = x
   ·subst e
    refine ifT (by simp) ⟨_,rfl,?_⟩
    have k':=k _ (sm.trans sT)
    rw [Jqh hz fun j hj=>no j hj _ rfl] at k'
    exact k'
   ·refine ifF (by simp [e]) ⟨⟨_,_,rfl⟩,sm.trans sT,fun j hj z ez=>?_⟩
    by_cases ej : j = i
    ·subst ej
     rw [hz]
     intro q
     exact e (by rw [ez,Option.some.inj q])
    ·exact no j (by omega) z ez
  ·rintro σ H' ⟨_,sm,no⟩
   have k':=k _ sm
   have e : Jp9 (R.Bs.map (·.z)) x = .non:=by
    cases x with
    | str z =>
     show (if z ∈ R.Bs.map (·.z) then V.int ((R.Bs.map (·.z)).idxOf z : Nat) else .non) = _
     rw [if_neg fun hm=>?_]
     obtain ⟨j,hj,ej⟩:=List.getElem_of_mem hm
     exact no j (by rw [List.length_map,blen]; rw [List.length_map] at hj; exact hj) z rfl (by rw [List.getElem?_eq_getElem hj,ej])
    | _=>rfl
   rw [e] at k'
   exact k'
theorem Jji : Jfx ["self"] ["self"] (Jfr (Jg0 (top 36) 2)):=⟨rfl,rfl,rfl,by decide +kernel,rfl,by decide +kernel,by decide +kernel⟩
theorem Jmm (T : Tx K mg a) : FnOk P w K mg base CX0 1 a.Je2 a.Je3 ["self"] (Jru a):=by
 refine T.Jax.fn.ok Jji (fun vs H Q E h=>?_) (fun cdv A outer s H vs Q E hr h=>?_)
 ·obtain ⟨o,R,rfl,_⟩:=h
  rfl
 ·obtain ⟨o,R,rfl,⟨dx,b,t,ho,hb,ht,bl,tl⟩,ok,k⟩:=h
  have blen:=bl.len
  have bn:=ok.n
  refine ⟨?t,?B,?C⟩
  case B =>
   refine' Jfn ?s1
   case s1 =>
    exact (Jfw (Jhg (Jfi (Jgj Jgq (by rfl) T.Ja9 Jgu (Jfi (Jgs (N:=(["basin"] : List Str)) (ini:=[none]) rfl (pi_tup (Jgl (pv 0) (by rfl))) (fun _ _ _ _ _=>(Jg6 (i:=0) (by decide +kernel : (["basin"] : List Str).Nodup) rfl (Or.inl rfl))) (fun _ _ _ _ _=>Jgt) (fun _ _ _ _ _=>(Jhp (K:=K) rfl (pv 0) (by rfl)))) Jfk)) (Jfi (Jgl (pv 0) (by rfl)) Jfk))))
  refine ⟨_,rfl,o,_,dx,_,_,rfl,ho,T.Jbt,T.Jbz,rfl,b,rfl,⟨_,SqT.of hb⟩,fun D hD=>?_⟩
  refine Jlx ((R.Bs.map (·.st)).map V.int) hD (by simp; omega) (by simp; omega) hb ?_ ?_
  ·intro i x y H' Q' hx hy sm k'
   obtain ⟨q,B,rfl,_,hB,dq,hq⟩:=(bl.same sm).get hx
   rw [List.getElem?_map,List.getElem?_map,hB] at hy
   cases hy
   exact ⟨_,rfl,q,_,dq,_,_,rfl,hq,T.Jbe,T.Jbk,rfl,k' _ (Same.refl _)⟩
  ·intro H1 s1 hD1
   refine ⟨D,_,rfl,.inl ⟨SqL.of hD1,fun u hu=>?_⟩⟩
   have s2:=s1.trans (Same.upd (o:=.tup ((R.Bs.map (·.st)).map V.int)) hu)
   refine ⟨_,rfl,o,_,dx,_,_,rfl,s2 _ _ ho,T.Jbt,T.Jbx,rfl,(show 2 ≤ sizeLine by decide),fun y hy=>?_⟩
   have s3:=Same.upd (o:=.tup [.ref u,.int R.c]) hy
   exact k y u _ (s2.trans s3) Jfj (s3 _ _ Jfj)
end
theorem Jmd (xs : List V) (k : Nat) (h : k ≤ xs.length) : Jij xs none (some (k : Int)) = xs.take k:=by
 unfold Jij
 rw [HT.sIx_none,HT.sIx_nat]
 simp [Nat.min_eq_left h]
theorem Jkv (xs : List V) (k : Nat) (h : k ≤ xs.length) : Jij xs (some (k : Int)) none = xs.drop k:=by
 unfold Jij
 rw [HT.sIx_none,HT.sIx_nat,Nat.min_eq_left h]
 exact List.take_of_length_le (by rw [List.length_drop]; exact Nat.le_refl _)
theorem Jik {xs : List V} {r : Int} (h0 : 0 ≤ r) (h1 : r < xs.length) : ∃ v,v ∈ xs ∧ atI xs r = some v:=by
 obtain ⟨n,rfl⟩:=Int.eq_ofNat_of_zero_le h0
 have hn : n < xs.length:=by omega
 exact ⟨xs[n],List.getElem_mem hn,Jhb (List.getElem?_eq_getElem hn)⟩
theorem Jj4 {i : Int} (h : i.natAbs ≤ 1000) : i.natAbs.log2 < 9000:=Nat.lt_of_le_of_lt (Nat.log2_le_self _) (by omega)
def one (c : Nat) : Str:=⟨#[c]⟩
theorem Jiz (cs : List Nat) : (Txt.join ("" : Str) (cs.map one)).cps.toList = cs:=by
 have e1 : Txt.join ("" : Str) (cs.map one) = Str.join ("" : Str) (cs.map one):=beq_iff_eq.mp (join_plain_closes ("" : Str) _)
 rw [e1]
 induction cs with
 | nil=>rfl
 | cons c r ih =>
  cases r with
  | nil=>rfl
  | cons d r' =>
   have e : Str.join ("" : Str) ((c :: d :: r').map one) = one c ++ ("" : Str) ++ Str.join ("" : Str) ((d :: r').map one):=rfl
   rw [e]
   have a : ∀ x y : Str,(x ++ y).cps.toList = x.cps.toList ++ y.cps.toList:=fun x y=>by
    show (x.cps ++ y.cps).toList = _
    exact Array.toList_append
   rw [a,a,ih (beq_iff_eq.mp (join_plain_closes ("" : Str) _))]
   have z : ("" : Str).cps.toList = []:=by decide +kernel
   rw [z]
   rfl
theorem Jqt (cs : List Nat) : ((cs.map one).map (·.length)).sum = cs.length:=by
 induction cs with
 | nil=>rfl
 | cons c r ih =>
  rw [List.map_cons,List.map_cons,List.sum_cons,ih,List.length_cons]
  show 1 + _ = _
  omega
def Nms (zs : List Str) : Prop:=zs.Nodup ∧ ∀ z ∈ zs,Jgk z = true ∧ Wd 50 z
theorem Jrg {z : Str} (h1 : 1 ≤ z.cps.toList.length) (h2 : z.cps.toList.length ≤ 8) (h : ∀ c ∈ z.cps.toList,c ∈ LET.cps.toList) : Jgk z = true ∧ Wd 50 z:=by
 rw [Jkp] at h1 h2
 refine ⟨?_,by omega,fun c hc=>wd_let.low c (h c hc)⟩
 unfold Jgk Jln
 rw [Bool.and_eq_true]
 exact ⟨decide_eq_true ⟨h1,h2⟩,List.all_eq_true.mpr fun d hd=>decide_eq_true (h d hd)⟩
theorem Jre {i j : Int} {c : Nat} (i0 : 0 ≤ i) (i1 : i < 26) (j0 : 0 ≤ j) (j1 : j < 26) (hi : atI LET.cps.toList i = some c) (hj : atI LET.cps.toList j = some c) : i = j:=by
 have all : (List.range 26).all (fun p=>(List.range 26).all fun q=>decide (p = q) || !decide (atI LET.cps.toList (p : Int) = atI LET.cps.toList (q : Int))) = true:=by decide +kernel
 obtain ⟨p,rfl⟩:=Int.eq_ofNat_of_zero_le i0
 obtain ⟨q,rfl⟩:=Int.eq_ofNat_of_zero_le j0
 have h1:=List.all_eq_true.mp all p (List.mem_range.mpr (by omega))
 have h2:=List.all_eq_true.mp h1 q (List.mem_range.mpr (by omega))
 rw [hi,hj] at h2
 have h3 : p = q:=by simpa using h2
 rw [h3]
def Stp (s : Int) : Prop:=s = 1 ∨ s = 3 ∨ s = 5 ∨ s = 7 ∨ s = 9 ∨ s = 11 ∨ s = 15 ∨ s = 17
theorem Js5 {s f : Int} {i j : Nat} (h : Stp s) (hi : i < 17) (hj : j < 17) (e : (f + s * i) % 26 = (f + s * j) % 26) : i = j:=by
 rcases h with rfl | rfl | rfl | rfl | rfl | rfl | rfl | rfl <;> omega
def NmK (f s : Int) (n : Nat) (k : Nat) (z : Str) : Prop:=1 ≤ z.cps.toList.length ∧ z.cps.toList.length ≤ 8 ∧ (∀ c ∈ z.cps.toList,c ∈ LET.cps.toList) ∧ ∃ c,atI LET.cps.toList ((f + s * (k : Int)) % 26) = some c ∧ z.cps.toList[n]? = some c
theorem nms_of {f s : Int} {n : Nat} {zs : List Str} (hs : Stp s) (hl : zs.length ≤ 16) (h : ∀ (k : Nat) z,zs[k]? = some z → NmK f s n k z) : Nms zs:=by
 refine ⟨List.pairwise_iff_getElem.mpr fun i j hi hj hij e=>?_,fun z hz=>?_⟩
 ·obtain ⟨_,_,_,c,a1,b1⟩:=h i _ (List.getElem?_eq_getElem hi)
  obtain ⟨_,_,_,d,a2,b2⟩:=h j _ (List.getElem?_eq_getElem hj)
  rw [e,b2] at b1
  cases b1
  have:=Js5 hs (by omega) (by omega) (Jre (by omega) (by omega) (by omega) (by omega) a1 a2)
  omega
 ·obtain ⟨k,hk,rfl⟩:=List.getElem_of_mem hz
  obtain ⟨h1,h2,h3,_⟩:=h k _ (List.getElem?_eq_getElem hk)
  exact Jrg h1 h2 h3
def Jrw : Sp:=fun vs H Q _=>∃ (p : Addr) (m : Nat),vs = [.ref p,.int m] ∧ Strm H p ∧ m ≤ 16 ∧ ∀ (l : Addr) (zs : List Str) (H' : Hp),H l = none → But p H H' → H' l = some (.lst (zs.map V.str)) → zs.length = m → Nms zs → Q (.ref l) H'
section
variable {P : Program} {w : World} {K : W.Frag} {mg : Str → Option Value} {base : Heap} {a : Ad}
theorem Jmr {t1 t2 : TS} {D : Ends} {σ : L2.St} {H : Hp} (Mid : L2.St → Hp → Prop) (h1 : ∀ R,(∀ σ H,Mid σ H → R σ H) → t1 { D with nx:=R } σ H) (h2 : ∀ σ H,Mid σ H → t2 D σ H) : tSeq t1 t2 D σ H:=h1 _ h2
theorem sc_law_names : Jfx ["_law_stream_here","_law_many","_law_letters","_law_size","_law_at","_law_base","_law_first","_law_step","_law_shorter","_law_names_here","_law_k","_law_sign","_law_word"] ["_law_stream_here","_law_many"] (Jfr (top 41)):=⟨rfl,rfl,rfl,by decide +kernel,rfl,by decide +kernel,by decide +kernel⟩
theorem Jmn (T : Tx K mg a) : FnOk P w K mg base CX0 2 a.Jea a.Jeb ["_law_stream_here","_law_many"] Jrw:=by
 have G__law_take:=Jh2 (P:=P) (w:=w) (base:=base) T
 refine T.Jc.fn.ok sc_law_names (fun vs H Q E h=>?_) (fun cdv A outer s H vs Q E hr h=>?_)
 ·obtain ⟨p,m,rfl,_⟩:=h
  rfl
 ·obtain ⟨p,m,rfl,st,hm,k⟩:=h
  refine ⟨?t,?B,?C⟩
  case B =>
   refine' Jfm ?s1 ?r1
   case s1 =>
    exact (Jfy (i:=2) sc_law_names.nd rfl (Or.inr rfl) Jgb)
   case r1 =>
    refine' Jfm ?s3 ?r3
    case s3 =>
     exact (Jfy (i:=3) sc_law_names.nd rfl (Or.inl rfl) (Jg3 Jgw Jfl (Jfq T.Jb G__law_take hr (by decide) (Jfi (pv 0) (Jfi Jfl Jfk)))))
    case r3 =>
     refine' Jfm ?s5 ?r5
     case s5 =>
      exact (Jfy (i:=4) sc_law_names.nd rfl (Or.inl rfl) (Jfq T.Jb G__law_take hr (by decide) (Jfi (pv 0) (Jfi (pv 3) Jfk))))
     case r5 =>
      refine' Jfm ?s7 ?r7
      case s7 =>
       exact (Jrp (i:=5) (N:=(["_law_k","_law_letters","_law_stream_here"] : List Str)) (ini:=[none,some 2,some 0]) sc_law_names.nd rfl (Or.inl rfl) rfl (Jhr (by rfl) T.Ja6 (Jfi (pv 3) Jfk)) (fun _ _ _ _ _=>(Jg6 (i:=0) (by decide +kernel : (["_law_k","_law_letters","_law_stream_here"] : List Str).Nodup) rfl (Or.inl rfl))) (fun _ _ _ _ _=>Jgt) (fun _ _ _ _ _=>(Jfz Jmh (pv 1) (Jfq T.Jb G__law_take hr (by decide) (Jfi (pv 2) (Jfi Jfl Jfk))) (fun _ _=>rfl))))
      case r7 =>
       refine' Jfm ?s9 ?r9
       case s9 =>
        exact (Jfy (i:=6) sc_law_names.nd rfl (Or.inl rfl) (Jfq T.Jb G__law_take hr (by decide) (Jfi (pv 0) (Jfi Jfl Jfk))))
       case r9 =>
        refine' Jfm ?s11 ?r11
        case s11 =>
         exact (Jfy (i:=7) sc_law_names.nd rfl (Or.inl rfl) (Jfz Jfs (Jg5 (pa8 Jfl Jfl Jfl Jfl Jfl Jfl Jfl Jfl)) (Jfq T.Jb G__law_take hr (by decide) (Jfi (pv 0) (Jfi Jfl Jfk))) (fun _ _=>rfl)))
        case r11 =>
         refine' Jfm ?s13 ?r13
         case s13 =>
          exact (Jfy (i:=8) sc_law_names.nd rfl (Or.inl rfl) (Jfq T.Jb G__law_take hr (by decide) (Jfi (pv 0) (Jfi Jfl Jfk))))
         case r13 =>
          refine' Jfm ?s15 ?r15
          case s15 =>
           exact (Jfy (i:=9) sc_law_names.nd rfl (Or.inl rfl) (Jg5 Jfk))
          case r15 =>
           refine' Jfm ?s17 ?r17
           case s17 =>
            refine' Jie ?f18_0 ?f18_1 ?f18_2 ?f18_3 ?f18_4
            case f18_0 =>
             exact PassesOwn.never
            case f18_1 =>
             exact rfl
            case f18_2 =>
             exact (Jhr (by rfl) T.Ja6 (Jfi (pv 1) Jfk))
            case f18_3 =>
             exact (Jg6 (i:=10) sc_law_names.nd rfl (Or.inl rfl))
            case f18_4 =>
             refine' Jfm ?s19 ?r19
             case s19 =>
              exact (Jfy (i:=11) sc_law_names.nd rfl (Or.inl rfl) (Jfz Jmh (pv 2) (Jg3 Jiq (Jg3 Jgw (pv 6) (Jg3 Jjd (pv 7) (pv 10))) Jfl) (fun _ _=>rfl)))
             case r19 =>
              refine' Jfm ?s21 ?r21
              case s21 =>
               exact (Jfy (i:=12) sc_law_names.nd rfl (Or.inl rfl) (Jg3 Jhu (Jg3 Jhu (Jgp Jh1 (pv 5) Jgz (Jh0 (pv 4))) (Jg5 (Jfi (pv 11) Jfk))) (Jgp Jh1 (pv 5) (Jh0 (Jg3 Jgw (pv 4) Jfl)) Jgz)))
              case r21 =>
               refine' Jfm ?s23 ?r23
               case s23 =>
                refine' Jg9 ?c24 ?a24 ?b24
                case c24 =>
                 exact (Jg4 Jig (pv 8) Jfl (Jga _))
                case a24 =>
                 refine' Jfn ?s25
                 case s25 =>
                  exact (Jfy (i:=12) sc_law_names.nd rfl (Or.inl rfl) (Jgp Jh1 (pv 12) Jgz (Jh0 (Jg3 Jgw (Jg3 Jgw (pv 4) Jfl) (Jg3 Jiq (pv 10) (Jg3 Jmq (pv 3) (pv 4)))))))
                case b24 =>
                 exact Jfv
               case r23 =>
                refine' Jfn ?s28
                case s28 =>
                 exact (Jhl (Jm3 F.plainAttrs_list F.slot_list_append F.type_list_append Ji7 (pv 9) (Jfi (Jm3 F.plainAttrs_str F.slot_str_join F.type_str_join Jrf Jgb (Jfi (pv 12) Jfk)) Jfk)))
           case r17 =>
            refine' Jfn ?s30
            case s30 =>
             exact (Jfw (pv 9))
  refine ⟨_,rfl,p,8,rfl,st,by decide,by decide,fun sz H1 z0 z1 b1=>⟨_,_,rfl,rfl,?_⟩⟩
  refine ⟨_,rfl,_,rfl,p,_,rfl,b1.2,by omega,Jj4 (by omega),fun at_ H2 a0 a1 b2=>?_⟩
  have b12:=b1.trans b2
  refine ⟨_,rfl,_,rfl,by omega,by omega,fun D hD=>?_⟩
  have neD : D ≠ p:=b12.2.ne hD
  refine Jja (D:=D) (fun i σ H'=>∃ (o : Option V) (cs : List Nat),σ = [o,some (.str LET),some (.ref p)] ∧ H' D = some (.lst (cs.map sgn)) ∧ cs.length = i ∧ (∀ c ∈ cs,c ∈ LET.cps.toList) ∧ But p H2 H')
   ?_ ?_ ?_
  ·exact ⟨none,[],rfl,Jfj,rfl,(fun y hy=>absurd hy (by simp)),But.of b12.2 (Same.upd hD)⟩
  ·rintro i σ H' hi ⟨o,cs,rfl,hDs,hl,hw,b⟩
   refine Jhw ⟨_,rfl,_,rfl,p,26,rfl,b.2,by decide,by decide,fun r H3 r0 r1 b3=>?_⟩
   obtain ⟨c,hc,hat⟩:=Jm9 (g:=LET) r0 (by
    have : LET.length = 26:=by decide +kernel
    omega)
   refine ⟨LET,r,c,rfl,rfl,Jg2 _ (by decide +kernel),hat,cs.map sgn,b3.1 D _ neD hDs,?_,_,cs ++ [c],rfl,?_,?_,?_,(b.trans b3).new hD b12.2⟩
   ·rw [List.length_map]
    exact Jh7 (by omega)
   ·rw [Jfj,List.map_append]
    rfl
   ·rw [List.length_append]
    show cs.length + 1 = i + 1
    omega
   ·intro y hy
    rcases List.mem_append.mp hy with hy | hy
    ·exact hw y hy
    ·rw [List.mem_singleton.mp hy]
     exact hc
  rintro σ H3 ⟨o,cs,rfl,hDs,hl,hw,b3⟩
  have hl' : cs.length = (1 + sz).toNat:=hl
  have b13:=b12.trans b3
  refine ⟨_,rfl,p,26,rfl,b13.2,by decide,by decide,fun f H4 f0 f1 b4=>?_⟩
  refine ⟨(show 8 ≤ sizeLine by decide),fun L1 hL1=>?_⟩
  have t5:=Same.upd (o:=.lst [.int 1,.int 3,.int 5,.int 7,.int 9,.int 11,.int 15,.int 17]) hL1
  have g5:=Jfj (H:=H4) (a:=L1) (o:=.lst [.int 1,.int 3,.int 5,.int 7,.int 9,.int 11,.int 15,.int 17])
  generalize upd H4 L1 (.lst [.int 1,.int 3,.int 5,.int 7,.int 9,.int 11,.int 15,.int 17]) = H5 at *
  have b5:=b4.same t5
  refine ⟨_,rfl,p,8,rfl,b5.2,by decide,by decide,fun r H6 r0 r1 b6=>?_⟩
  obtain ⟨sv,ms,as⟩:=Jik (xs:=[.int 1,.int 3,.int 5,.int 7,.int 9,.int 11,.int 15,.int 17]) r0 r1
  obtain ⟨sp,rfl,hsp⟩ : ∃ sp : Int,sv = .int sp ∧ Stp sp:=by
   simp only [List.mem_cons,List.not_mem_nil,or_false] at ms
   unfold Stp
   rcases ms with rfl | rfl | rfl | rfl | rfl | rfl | rfl | rfl <;> exact ⟨_,rfl,by decide⟩
  refine ⟨L1,_,_,_,rfl,rfl,SqL.of (b6.1 _ _ (Jg1 b5.2 g5 (fun _ _ _ z=>by cases z)) g5),as,?_⟩
  refine ⟨_,rfl,p,3,rfl,b6.2,by decide,by decide,fun sh H7 s0 s1 b7=>?_⟩
  refine ⟨Jg2 _ (by show 0 ≤ 2000; decide),fun L hL=>?_⟩
  have b37:=(b5.trans b6).trans b7
  have hD7:=b37.1 _ _ neD hDs
  have nLD : D ≠ L:=Jfo hD7 hL
  have hsb : -(2 ^ 64) < sp ∧ sp < 2 ^ 64:=by
   rcases hsp with rfl | rfl | rfl | rfl | rfl | rfl | rfl | rfl <;> decide
  obtain ⟨n,rfl⟩:=Int.eq_ofNat_of_zero_le a0
  obtain ⟨z,rfl⟩:=Int.eq_ofNat_of_zero_le z0
  have hn : n < cs.length:=by omega
  refine ⟨_,rfl,_,rfl,by omega,by omega,?_⟩
  refine Jk1 (fun i σ H'=>(∃ o1 o2 o3,σ = [some (.ref p),some (.int m),some (.str LET),some (.int (1 + z)),some (.int n),some (.ref D),some (.int f),some (.int sp),some (.int sh),some (.ref L),o1,o2,o3]) ∧ (∃ zs : List Str,H' L = some (.lst (zs.map V.str)) ∧ zs.length = i ∧ ∀ (k : Nat) z,zs[k]? = some z → NmK f sp n k z) ∧ ∀ b o,b ≠ L → H7 b = some o → H' b = some o) ⟨⟨_,_,_,rfl⟩,⟨[],Jfj,rfl,fun k z e=>by simp at e⟩,fun b o nb e=>by rw [Jfp nb]; exact e⟩ ?_ ?_
  ·rintro i σ H' hi ⟨⟨o1,o2,o3,rfl⟩,⟨zs,hLs,hzl,hz⟩,sm⟩
   obtain ⟨c,hc,hat⟩:=Jm9 (g:=LET) (r:=(f + sp * (0 + (i : Int))) % 26) (by omega) (by
    have : LET.length = 26:=by decide +kernel
    omega)
   refine ⟨_,rfl,_,rfl,_,rfl,_,rfl,_,_,rfl,rfl,.inl hsb,_,_,rfl,rfl,_,_,rfl,rfl,(show (0 : Int) < 26 by decide),LET,_,c,rfl,rfl,Jg2 _ (by decide +kernel),hat,?_⟩
   have hD':=sm D _ nLD hD7
   have e1 : Jij (cs.map sgn) none (some (n : Int)) = (cs.take n).map sgn:=by rw [Jmd _ n (by rw [List.length_map]; omega),List.map_take]
   have e2 : Jij (cs.map sgn) (some ((n : Int) + 1)) none = (cs.drop (n + 1)).map sgn:=by rw [show ((n : Int) + 1) = ((n + 1 : Nat) : Int) from rfl,Jkv _ (n + 1) (by rw [List.length_map]; omega),List.map_drop]
   refine ⟨_,rfl,_,rfl,_,rfl,D,_,rfl,SqL.of hD', fun q1 hq1=>?_⟩
   rw [e1]
   have t1:=Same.upd (o:=.lst ((cs.take n).map sgn)) hq1
   have g1:=Jfj (H:=H') (a:=q1) (o:=.lst ((cs.take n).map sgn))
   generalize upd H' q1 (.lst ((cs.take n).map sgn)) = K1 at *
   refine ⟨_,rfl,(show 1 ≤ sizeLine by decide),fun q2 hq2=>?_⟩
   have t2:=Same.upd (o:=.lst [.str ⟨#[c]⟩]) hq2
   have g2:=Jfj (H:=K1) (a:=q2) (o:=.lst [.str ⟨#[c]⟩])
   generalize upd K1 q2 (.lst [.str ⟨#[c]⟩]) = K2 at *
   have hl3 : ((cs.take n).map sgn).length + [V.str ⟨#[c]⟩].length ≤ sizeLine:=Jg2 _ (by rw [List.length_map,List.length_take]; show _ + 1 ≤ 2000; omega)
   refine ⟨q1,q2,_,_,rfl,rfl,t2 _ _ g1,g2,hl3,fun q3 hq3=>?_⟩
   have t3:=Same.upd (o:=.lst ((cs.take n).map sgn ++ [.str ⟨#[c]⟩])) hq3
   have g3:=Jfj (H:=K2) (a:=q3) (o:=.lst ((cs.take n).map sgn ++ [.str ⟨#[c]⟩]))
   generalize upd K2 q3 (.lst ((cs.take n).map sgn ++ [.str ⟨#[c]⟩])) = K3 at *
   have t13:=(t1.trans t2).trans t3
   refine ⟨_,rfl,_,rfl,_,_,rfl,rfl,_,rfl,D,_,rfl,SqL.of (t13 _ _ hD'),fun q4 hq4=>?_⟩
   rw [e2]
   have t4:=Same.upd (o:=.lst ((cs.drop (n + 1)).map sgn)) hq4
   have g4:=Jfj (H:=K3) (a:=q4) (o:=.lst ((cs.drop (n + 1)).map sgn))
   generalize upd K3 q4 (.lst ((cs.drop (n + 1)).map sgn)) = K4 at *
   have hl5 : ((cs.take n).map sgn ++ [V.str ⟨#[c]⟩]).length + ((cs.drop (n + 1)).map sgn).length ≤ sizeLine:=Jg2 _ (by rw [List.length_append,List.length_map,List.length_map,List.length_take,List.length_drop]; show _ + 1 + _ ≤ 2000; omega)
   refine ⟨q3,q4,_,_,rfl,rfl,t4 _ _ g3,g4,hl5,fun q5 hq5=>?_⟩
   obtain ⟨ws,ew,wl,wn,wi⟩ : ∃ ws : List Nat,(cs.take n).map sgn ++ [.str ⟨#[c]⟩] ++ (cs.drop (n + 1)).map sgn = ws.map sgn ∧ ws.length = cs.length ∧ ws[n]? = some c ∧ ∀ d ∈ ws,d ∈ LET.cps.toList:=by
    refine ⟨cs.take n ++ [c] ++ cs.drop (n + 1),by simp [sgn],by simp; omega,?_,fun d hd=>?_⟩
    ·rw [List.append_assoc,List.getElem?_append_right (by simp; omega)]
     simp [Nat.min_eq_left (Nat.le_of_lt hn)]
    ·rcases List.mem_append.mp hd with hd | hd
     ·rcases List.mem_append.mp hd with hd | hd
      ·exact hw d (List.mem_of_mem_take hd)
      ·rw [List.mem_singleton.mp hd]; exact hc
     ·exact hw d (List.mem_of_mem_drop hd)
   rw [ew]
   have t5':=Same.upd (o:=.lst (ws.map sgn)) hq5
   have g5':=Jfj (H:=K4) (a:=q5) (o:=.lst (ws.map sgn))
   generalize upd K4 q5 (.lst (ws.map sgn)) = K5 at *
   have t15:=(t13.trans t4).trans t5'
   unfold Jkc
   dsimp only
   refine Jmr (fun σ K6=>(∃ q6,σ = [some (.ref p),some (.int m),some (.str LET),some (.int (1 + z)),some (.int n),some (.ref D),some (.int f),some (.int sp),some (.int sh),some (.ref L),some (.int (0 + (i : Int))),some (.str ⟨#[c]⟩),some (.ref q6)] ∧ ∃ us : List Nat,K6 q6 = some (.lst (us.map sgn)) ∧ us.length ≤ 8 ∧ us[n]? = some c ∧ ∀ d ∈ us,d ∈ LET.cps.toList) ∧ Same H' K6) (fun R hR=>?_) ?_
   ·refine ⟨_,rfl,rfl,_,rfl,Jk2 (fun _=>?_) (fun _=>?_)⟩
    ·have hsz : (0 : Int) < 1 + z - n:=by omega
     have hmd:=Int.emod_nonneg ((i : Int)) (show (1 + (z : Int) - n) ≠ 0 by omega)
     have hmd2:=Int.emod_lt_of_pos ((i : Int)) hsz
     refine ⟨_,rfl,_,rfl,_,_,rfl,rfl,_,rfl,_,rfl,_,rfl,_,_,rfl,rfl,_,_,rfl,rfl,hsz,_,_,rfl,rfl,_,rfl,q5,_,rfl,SqL.of g5', fun q6 hq6=>?_⟩
     obtain ⟨u,hu⟩:=Int.eq_ofNat_of_zero_le (show 0 ≤ (n : Int) + 1 + (0 + (i : Int)) % (1 + z - n) by rw [Int.zero_add]; omega)
     have hu2 : n + 1 ≤ u ∧ u ≤ ws.length:=by rw [Int.zero_add] at hu; omega
     have eu : Jij (ws.map sgn) none (some ((n : Int) + 1 + (0 + (i : Int)) % (1 + z - n))) = (ws.take u).map sgn:=by rw [hu,Jmd _ u (by rw [List.length_map]; omega),List.map_take]
     refine hR _ _ ⟨⟨q6,rfl,ws.take u,by rw [eu]; exact Jfj,by rw [List.length_take]; omega,by rw [List.getElem?_take_of_lt (by omega)]; exact wn,fun d hd=>wi d (List.mem_of_mem_take hd)⟩,t15.trans (Same.upd hq6)⟩
    ·exact hR _ _ ⟨⟨q5,rfl,ws,g5', by omega,wn,wi⟩,t15⟩
   ·rintro σ K6 ⟨⟨q6,rfl,us,g6,ul,un,ui⟩,t6⟩
    have hL6:=t6 _ _ hLs
    have hsg : us.map sgn = (us.map one).map V.str:=by rw [List.map_map]; rfl
    refine ⟨_,rfl,.inl ⟨rfl,_,SqL.of hL6⟩,rfl,_,rfl,"",q6,us.map one,rfl,rfl,SqL.of (by rw [← hsg]; exact g6),?_,L,_,_,rfl,rfl,hL6,?_,⟨_,_,_,rfl⟩,⟨zs ++ [Txt.join ("" : Str) (us.map one)],by rw [Jfj,List.map_append]; rfl,by rw [List.length_append,hzl]; rfl,fun k z e=>?_⟩,fun b o nb e=>?_⟩
    ·have : ("" : Str).length = 0:=by decide +kernel
     rw [this,Jqt]
     omega
    ·rw [List.length_map]
     exact Jh7 (by omega)
    ·rw [List.getElem?_append] at e
     split at e
     ·exact hz k z e
     ·have hk : k = i:=by
       have:=(List.getElem?_eq_some_iff.mp e).1
       simp at this
       omega
      subst hk
      rw [hzl,Nat.sub_self] at e
      cases e
      rw [Int.zero_add] at hat
      refine ⟨?_,?_,?_,c,hat,?_⟩
      ·rw [Jiz]
       have:=(List.getElem?_eq_some_iff.mp un).1
       omega
      ·rw [Jiz]; exact ul
      ·rw [Jiz]; exact ui
      ·rw [Jiz]; exact un
    ·rw [Jfp nb]
     exact t6 _ _ (sm b o nb e)
  ·rintro σ H' ⟨⟨o1,o2,o3,rfl⟩,⟨zs,hLs,hzl,hz⟩,sm⟩
   have nLp : L ≠ p:=b7.2.ne hL
   have b07:=b13.trans b37
   refine ⟨_,rfl,k L zs H' (b07.free st hL) ⟨fun b o nb e=>sm b o ?_ (b07.1 _ _ nb e),?_⟩ hLs (by simpa using hzl) (nms_of hsp (by simp at hzl; omega) hz)⟩
   ·exact Jfo (b07.1 _ _ nb e) hL
   ·obtain ⟨x,y,z', e⟩:=b07.2
    exact ⟨x,y,z', sm p _ nLp.symm e⟩
end
def But2 (p l : Addr) (H H' : Hp) : Prop:=(∀ b o,b ≠ p → b ≠ l → H b = some o → H' b = some o) ∧ Strm H' p
theorem Jgx {os : List Addr} : ∀ x y z : Int,HO.lst (os.map V.ref) ≠ .lst [.int x,.int y,.int z]:=by
 intro x y z e
 cases os with
 | nil=>cases e
 | cons o r=>cases e
theorem Jon {os : List Str} : ∀ x y z : Int,HO.lst (os.map V.str) ≠ .lst [.int x,.int y,.int z]:=by
 intro x y z e
 cases os with
 | nil=>cases e
 | cons o r=>cases e
theorem BasAt.put {a : Ad} {H : Hp} {b D : Addr} {B : Bsn} {bs : List V} {o : HO} (hD : H D = some (.lst bs)) (h : BasAt a H b B) : BasAt a (upd H D o) b B:=by
 obtain ⟨dx,h1⟩:=h
 exact ⟨dx,by rw [Jfp (fun z=>by rw [z,hD] at h1; cases h1)]; exact h1⟩
theorem TwnAt.put {a : Ad} {H : Hp} {b D : Addr} {B : Twn} {bs : List V} {o : HO} (hD : H D = some (.lst bs)) (h : TwnAt a H b B) : TwnAt a (upd H D o) b B:=by
 obtain ⟨dx,h1⟩:=h
 exact ⟨dx,by rw [Jfp (fun z=>by rw [z,hD] at h1; cases h1)]; exact h1⟩
theorem BasAt.keep {a : Ad} {H H' : Hp} {b : Addr} {B : Bsn} (f : ∀ c C dx fs,H c = some (.ins C dx fs) → H' c = some (.ins C dx fs)) (h : BasAt a H b B) : BasAt a H' b B:=let ⟨dx,h1⟩:=h; ⟨dx,f _ _ _ _ h1⟩
theorem TwnAt.keep {a : Ad} {H H' : Hp} {b : Addr} {B : Twn} (f : ∀ c C dx fs,H c = some (.ins C dx fs) → H' c = some (.ins C dx fs)) (h : TwnAt a H b B) : TwnAt a H' b B:=let ⟨dx,h1⟩:=h; ⟨dx,f _ _ _ _ h1⟩
theorem But.ins {p : Addr} {H H' : Hp} (st : Strm H p) (b : But p H H') : ∀ c C dx fs,H c = some (.ins C dx fs) → H' c = some (.ins C dx fs):=fun _ _ _ _ e=>b.1 _ _ (Jg1 st e (fun _ _ _ z=>by cases z)) e
structure GdAt (a : Ad) (H : Hp) (q l m : Addr) (R : Rgd) : Prop where
 q : H q = some (.lst [.int R.c,.int R.g,.ref l,.ref m])
 l : H l = some (.lst (R.os.map V.ref))
 m : H m = some (.lst (R.ts.map V.ref))
 B : BasL a H R.os R.Bs
 T : TwnL a H R.ts R.Ts
theorem GdAt.same {a : Ad} {H H' : Hp} {q l m : Addr} {R : Rgd} (s : Same H H') (h : GdAt a H q l m R) : GdAt a H' q l m R:=⟨s _ _ h.q,s _ _ h.l,s _ _ h.m,h.B.same s,h.T.same s⟩
theorem GdAt.but {a : Ad} {H H' : Hp} {q l m p : Addr} {R : Rgd} (st : Strm H p) (b : But p H H') (h : GdAt a H q l m R) : GdAt a H' q l m R :=
 ⟨b.1 _ _ (Jg1 st h.q (fun _ _ _ z=>by cases z)) h.q,b.1 _ _ (Jg1 st h.l Jgx) h.l,b.1 _ _ (Jg1 st h.m Jgx) h.m,h.B.imp fun _ _ x=>x.keep (But.ins st b),h.T.imp fun _ _ x=>x.keep (But.ins st b)⟩
theorem Joc (z : Str) (zs : List Str) : inV (V.str z) (zs.map V.str) = decide (z ∈ zs):=by
 unfold inV
 rw [Bool.eq_iff_iff,List.any_eq_true,decide_eq_true_eq]
 constructor
 ·rintro ⟨v,hv,ev⟩
  obtain ⟨y,hy,rfl⟩:=List.mem_map.mp hv
  have : y = z:=by simpa [eqV] using ev
  rw [← this]
  exact hy
 ·intro hz
  exact ⟨V.str z,List.mem_map.mpr ⟨z,hz,rfl⟩,by simp [eqV]⟩
theorem Jjz (zs : List Str) : (zs.map V.str).all Jhf = true:=by
 rw [List.all_map]
 exact List.all_eq_true.mpr fun _ _=>rfl
def Jqo (a : Ad) : Sp:=fun vs H Q _=>∃ p : Addr,vs = [.ref p] ∧ Strm H p ∧ ∀ (q l m : Addr) (R : Rgd) (H' : Hp),But p H H' → H q = none → H l = none → H m = none → l ≠ m → GdAt a H' q l m R → Jmu R → Q (.ref q) H'
section
variable {P : Program} {w : World} {K : W.Frag} {mg : Str → Option Value} {base : Heap} {a : Ad}
theorem Jkx {H : Hp} {g dx : Addr} {o u : HO} (hg : H g = none) (hd : H dx = none) : Same H (upd (upd H dx o) g u):=fun b v e=>by rw [Jfp (Jfo e hg),Jfp (Jfo e hd)]; exact e
theorem Jmi (T : Tx K mg a) {H : Hp} {l g dx : Addr} {m : Int} {Q : VK} {E : XK} (hg : H g = none) (hd : H dx = none) (hl : H l = some (.lst [.int m])) (hm : 0 ≤ m ∧ m ≤ 12) (k : ∀ H', Same H H' → (∃ dx fs,H' g = some (.ins a.Jfe dx fs)) → Q .non H') :
  Jqn K a 0 [.ref g,.ref l] (upd (upd H dx (.own g)) g (.ins a.Jfe dx [])) Q E:=by
 have s1:=Jkx (o:=.own g) (u:=.ins a.Jfe dx []) hg hd
 refine ⟨g,_,dx,_,rfl,Jfj,T.Jba,T.Jbd,.inl ⟨[.int m],.lst (s1 _ _ hl),fun y hy=>?_,?_,fun t H' s' ht=>?_⟩⟩
 ·rw [List.mem_singleton.mp hy]
  exact .inl ⟨_,rfl⟩
 ·unfold Jl9 Ji2 Ji2
  simp [hm.1,hm.2]
 ·exact k _ (fun b o e=>by rw [Jfp (Jfo e hg)]; exact s' _ _ (s1 _ _ e)) ⟨_,_,Jfj⟩
theorem Jmf (T : Tx K mg a) {H : Hp} {g : Addr} (h : ∃ dx fs,H g = some (.ins a.Jfe dx fs)) : IsK K H a.Jfd (.ref g) true:=let ⟨_,_,e⟩:=h; ⟨_,.of (T.Jbb.ty T.Jba e),T.Jc1⟩
theorem Jjp {H : Hp} {o dx : Addr} {B : Bsn} {Q : VK} {E : XK} (ho : H o = none) (hd : H dx = none) (nz : Jgk B.z = true) (wz : Wd 50 B.z) (h1 : 0 ≤ B.lo ∧ B.lo ≤ B.hi ∧ B.hi ≤ 12) (h2 : B.lo ≤ B.st ∧ B.st ≤ B.hi) (h3 : 0 ≤ B.rn ∧ B.rn ≤ 6) (hg : IsK K H a.Jfd B.g true) (k : ∀ H', Same H H' → BasAt a H' o B → Q .non H') :
  spBas K a [.ref o,.str B.z,.int B.lo,.int B.hi,.int B.st,.int B.rn,B.g] (upd (upd H dx (.own o)) o (.ins a.Jff dx [])) Q E:=by
 have s1:=Jkx (o:=.own o) (u:=.ins a.Jff dx []) ho hd
 exact ⟨o,dx,B,rfl,Jfj,nz,wz,h1,h2,h3,hg.same s1,fun H' s'=>k _ (fun b v e=>by rw [Jfp (Jfo e ho)]; exact s' _ _ (s1 _ _ e)) ⟨dx,Jfj⟩⟩
theorem Jjq {H : Hp} {o dx : Addr} {B : Twn} {Q : VK} {E : XK} (ho : H o = none) (hd : H dx = none) (nz : Jgk B.z = true) (wz : Wd 50 B.z) (nb : Jgk B.b = true) (wb : Wd 50 B.b) (h1 : 1 ≤ B.wt ∧ B.wt ≤ 6) (k : ∀ H', Same H H' → TwnAt a H' o B → Q .non H') :
  spTwn K a [.ref o,.str B.z,.str B.b,.int B.wt] (upd (upd H dx (.own o)) o (.ins a.Jfg dx [])) Q E:=by
 have s1:=Jkx (o:=.own o) (u:=.ins a.Jfg dx []) ho hd
 exact ⟨o,dx,B,rfl,Jfj,nz,wz,nb,wb,h1,fun H' s'=>k _ (fun b v e=>by rw [Jfp (Jfo e ho)]; exact s' _ _ (s1 _ _ e)) ⟨dx,Jfj⟩⟩
end
section
variable {P : Program} {w : World} {K : W.Frag} {mg : Str → Option Value} {base : Heap} {a : Ad}
theorem sc_law_river : Jfx ["_law_stream_here","_law_cloud","_law_many","_law_basins","_law_name","_law_low","_law_high","_law_start","_law_rain","_law_towns"] ["_law_stream_here"] (Jfr (top 42)):=⟨rfl,rfl,rfl,by decide +kernel,rfl,by decide +kernel,by decide +kernel⟩
theorem Jmp (T : Tx K mg a) : FnOk P w K mg base CX0 6 a.Jec a.Jed ["_law_stream_here"] (Jqo a):=by
 have G__law_take:=Jh2 (P:=P) (w:=w) (base:=base) T
 have G__law_names:=Jmn (P:=P) (w:=w) (base:=base) T
 have G_StepGate___init__:=Ji8 (P:=P) (w:=w) (base:=base) T
 have G_Basin___init__:=Jj5 (P:=P) (w:=w) (base:=base) T
 have G_Town___init__:=Jic (P:=P) (w:=w) (base:=base) T
 refine T.Jd.fn.ok sc_law_river (fun vs H Q E h=>?_) (fun cdv A outer s H vs Q E hr h=>?_)
 ·obtain ⟨p,rfl,_⟩:=h
  rfl
 ·obtain ⟨p,rfl,st,k⟩:=h
  refine ⟨?t,?B,?C⟩
  case B =>
   refine' Jfm ?s1 ?r1
   case s1 =>
    exact (Jfy (i:=1) sc_law_river.nd rfl (Or.inl rfl) (Jfq T.Jb G__law_take hr (by decide) (Jfi (pv 0) (Jfi Jfl Jfk))))
   case r1 =>
    refine' Jfm ?s3 ?r3
    case s3 =>
     exact (Jfy (i:=2) sc_law_river.nd rfl (Or.inl rfl) (Jfz Jfs (Jg5 (pa8 Jfl Jfl Jfl Jfl Jfl Jfl Jfl Jfl)) (Jfq T.Jb G__law_take hr (by decide) (Jfi (pv 0) (Jfi Jfl Jfk))) (fun _ _=>rfl)))
    case r3 =>
     refine' Jfm ?s5 ?r5
     case s5 =>
      exact (Jfy (i:=3) sc_law_river.nd rfl (Or.inl rfl) (Jg5 Jfk))
     case r5 =>
      refine' Jfm ?s7 ?r7
      case s7 =>
       refine' Jie ?f8_0 ?f8_1 ?f8_2 ?f8_3 ?f8_4
       case f8_0 =>
        exact PassesOwn.never
       case f8_1 =>
        exact rfl
       case f8_2 =>
        exact (Ji0 (Jfq T.Jc G__law_names hr (by decide) (Jfi (pv 0) (Jfi (pv 2) Jfk))))
       case f8_3 =>
        exact (Jg6 (i:=4) sc_law_river.nd rfl (Or.inl rfl))
       case f8_4 =>
        refine' Jfm ?s9 ?r9
        case s9 =>
         exact (Jfy (i:=5) sc_law_river.nd rfl (Or.inl rfl) (Jfq T.Jb G__law_take hr (by decide) (Jfi (pv 0) (Jfi Jfl Jfk))))
        case r9 =>
         refine' Jfm ?s11 ?r11
         case s11 =>
          exact (Jfy (i:=6) sc_law_river.nd rfl (Or.inl rfl) (Jg3 Jgw (pv 5) (Jfq T.Jb G__law_take hr (by decide) (Jfi (pv 0) (Jfi (Jg3 Jmq Jfl (pv 5)) Jfk)))))
         case r11 =>
          refine' Jfm ?s13 ?r13
          case s13 =>
           exact (Jfy (i:=7) sc_law_river.nd rfl (Or.inl rfl) (Jg3 Jgw (pv 5) (Jfq T.Jb G__law_take hr (by decide) (Jfi (pv 0) (Jfi (Jg3 Jgw (Jg3 Jmq (pv 6) (pv 5)) Jfl) Jfk)))))
          case r13 =>
           refine' Jfm ?s15 ?r15
           case s15 =>
            exact (Jfy (i:=8) sc_law_river.nd rfl (Or.inl rfl) (Jfq T.Jb G__law_take hr (by decide) (Jfi (pv 0) (Jfi Jfl Jfk))))
           case r15 =>
            refine' Jfn ?s17
            case s17 =>
             exact (Jhl (Jm3 F.plainAttrs_list F.slot_list_append F.type_list_append Ji7 (pv 3) (Jfi (Jh6 T.Jbg G_Basin___init__.calm (hr.mono (by decide)) (by rfl) T.Jaj T.Jat.bd .nil Jhm (pa6 (pv 4) (pv 5) (pv 6) (pv 7) (pv 8) (Jh6 T.Jbc G_StepGate___init__.calm (hr.mono (by decide)) (by rfl) T.Jai T.Jas.bd .nil Jhm (Jfi (Jg5 (Jfi (Jfq T.Jb G__law_take hr (by decide) (Jfi (pv 0) (Jfi Jfl Jfk))) Jfk)) Jfk)))) Jfk)))
      case r7 =>
       refine' Jfm ?s19 ?r19
       case s19 =>
        exact (Jfy (i:=9) sc_law_river.nd rfl (Or.inl rfl) (Jg5 Jfk))
       case r19 =>
        refine' Jfm ?s21 ?r21
        case s21 =>
         refine' Jie ?f22_0 ?f22_1 ?f22_2 ?f22_3 ?f22_4
         case f22_0 =>
          exact PassesOwn.never
         case f22_1 =>
          exact rfl
         case f22_2 =>
          exact (Ji0 (Jfq T.Jc G__law_names hr (by decide) (Jfi (pv 0) (Jfi (Jfq T.Jb G__law_take hr (by decide) (Jfi (pv 0) (Jfi Jfl Jfk))) Jfk))))
         case f22_3 =>
          exact (Jg6 (i:=4) sc_law_river.nd rfl (Or.inl rfl))
         case f22_4 =>
          refine' Jfm ?s23 ?r23
          case s23 =>
           refine' Jg9 ?c24 ?a24 ?b24
           case c24 =>
            exact (Jqi (Jg4 Jig (Jfq T.Jb G__law_take hr (by decide) (Jfi (pv 0) (Jfi Jfl Jfk))) Jfl (Jga _)) (Jok (Jg4 Jid (Jgl (Jfz Jfs (pv 3) Jfl (fun _ _=>rfl)) (by rfl)) (Jgs (N:=(["_law_town"] : List Str)) (ini:=[none]) rfl (Ji0 (pv 9)) (fun _ _ _ _ _=>(Jg6 (i:=0) (by decide +kernel : (["_law_town"] : List Str).Nodup) rfl (Or.inl rfl))) (fun _ _ _ _ _=>Jgt) (fun _ _ _ _ _=>(Jhp (K:=K) rfl (pv 0) (by rfl)))) (by with_unfolding_all rfl)))).pt
           case a24 =>
            refine' Jfn ?s25
            case s25 =>
             exact (Jfy (i:=4) sc_law_river.nd rfl (Or.inl rfl) (Jgl (Jfz Jfs (pv 3) Jfl (fun _ _=>rfl)) (by rfl)))
           case b24 =>
            exact Jfv
          case r23 =>
           refine' Jfn ?s28
           case s28 =>
            refine' Jg9 ?c29 ?a29 ?b29
            case c29 =>
             exact (Jg4 Jid (pv 4) (Jgs (N:=(["_law_town"] : List Str)) (ini:=[none]) rfl (Ji0 (pv 9)) (fun _ _ _ _ _=>(Jg6 (i:=0) (by decide +kernel : (["_law_town"] : List Str).Nodup) rfl (Or.inl rfl))) (fun _ _ _ _ _=>Jgt) (fun _ _ _ _ _=>(Jhp (K:=K) rfl (pv 0) (by rfl)))) (by with_unfolding_all rfl))
            case a29 =>
             refine' Jfn ?s30
             case s30 =>
              exact (Jhl (Jm3 F.plainAttrs_list F.slot_list_append F.type_list_append Ji7 (pv 9) (Jfi (Jh6 T.Jbp G_Town___init__.calm (hr.mono (by decide)) (by rfl) T.Jak T.Jau.bd .nil Jhm (Jfi (pv 4) (Jfi (Jgl (Jfz Jfs (pv 3) (Jfq T.Jb G__law_take hr (by decide) (Jfi (pv 0) (Jfi (pv 2) Jfk))) (fun _ _=>rfl)) (by rfl)) (Jfi (Jg3 Jgw Jfl (Jfq T.Jb G__law_take hr (by decide) (Jfi (pv 0) (Jfi Jfl Jfk)))) Jfk)))) Jfk)))
            case b29 =>
             exact Jfv
        case r21 =>
         refine' Jfn ?s33
         case s33 =>
          refine' Jfw ?e35_0
          case e35_0 =>
           refine' Jg5 ?e36_0
           case e36_0 =>
            refine' pa4 ?e37_0 ?e37_1 ?e37_2 ?e37_3
            case e37_0 =>
             exact (pv 1)
            case e37_1 =>
             exact (Jfq T.Jb G__law_take hr (by decide) (Jfi (pv 0) (Jfi (Jg3 Jgw (pv 1) Jfl) Jfk)))
            case e37_2 =>
             exact (pv 3)
            case e37_3 =>
             exact (pv 9)
  refine ⟨_,rfl,p,13,rfl,st,by decide,by decide,fun c H1 c0 c1 b1=>?_⟩
  refine ⟨(show 8 ≤ sizeLine by decide),fun L1 hL1=>?_⟩
  have t2:=Same.upd (o:=.lst [.int 1,.int 2,.int 3,.int 4,.int 2,.int 3,.int 4,.int 16]) hL1
  have g2:=Jfj (H:=H1) (a:=L1) (o:=.lst [.int 1,.int 2,.int 3,.int 4,.int 2,.int 3,.int 4,.int 16])
  generalize upd H1 L1 (.lst [.int 1,.int 2,.int 3,.int 4,.int 2,.int 3,.int 4,.int 16]) = H2 at *
  have b2:=b1.same t2
  refine ⟨_,rfl,p,8,rfl,b2.2,by decide,by decide,fun r H3 r0 r1 b3=>?_⟩
  obtain ⟨sv,ms,as⟩:=Jik (xs:=[.int 1,.int 2,.int 3,.int 4,.int 2,.int 3,.int 4,.int 16]) r0 r1
  obtain ⟨mn,rfl,hmn⟩ : ∃ mn : Nat,sv = .int mn ∧ (1 ≤ mn ∧ mn ≤ 16):=by
   simp only [List.mem_cons,List.not_mem_nil,or_false] at ms
   rcases ms with rfl | rfl | rfl | rfl | rfl | rfl | rfl | rfl
   ·exact ⟨1,rfl,by decide⟩
   ·exact ⟨2,rfl,by decide⟩
   ·exact ⟨3,rfl,by decide⟩
   ·exact ⟨4,rfl,by decide⟩
   ·exact ⟨2,rfl,by decide⟩
   ·exact ⟨3,rfl,by decide⟩
   ·exact ⟨4,rfl,by decide⟩
   ·exact ⟨16,rfl,by decide⟩
  refine ⟨L1,_,_,_,rfl,rfl,SqL.of (b3.1 _ _ (Jg1 b2.2 g2 (fun _ _ _ z=>by cases z)) g2),as,?_⟩
  refine ⟨Jg2 _ (by show 0 ≤ 2000; decide),fun l hl=>?_⟩
  have b4:=(b2.trans b3).same (Same.upd (o:=.lst []) hl)
  have gl:=Jfj (H:=H3) (a:=l) (o:=.lst [])
  have hl0:=(b2.trans b3).free st hl
  generalize upd H3 l (.lst []) = H4 at *
  refine ⟨_,rfl,_,rfl,p,mn,rfl,b4.2,by omega,fun ln zs H5 hln b5 gln zl nz=>?_⟩
  have nlp : l ≠ p:=Jg1 b4.2 gl (fun _ _ _ z=>by cases z)
  have gl5:=b5.1 _ _ nlp gl
  have nlnp : ln ≠ p:=Jg1 b5.2 gln Jon
  have nlnl : ln ≠ l:=fun z=>by subst z; rw [gl] at hln; cases hln
  refine ⟨ln,rfl,⟨_,SqL.of gln⟩,?_⟩
  refine Jjn (xs:=zs.map V.str) (fun i σ H'=>(∃ o4 o5 o6 o7 o8 o9,σ = [some (.ref p),some (.int c),some (.int mn),some (.ref l),o4,o5,o6,o7,o8,o9]) ∧ (∃ (os : List Addr) (Bs : List Bsn),H' l = some (.lst (os.map V.ref)) ∧ BasL a H' os Bs ∧ Bs.map (·.z) = zs.take i) ∧ But2 p l H5 H') ⟨⟨_,_,_,_,_,_,rfl⟩,⟨[],[],gl5,True.intro,by simp⟩,fun b o _ _ e=>e,b5.2⟩ (fun i σ H' _ ⟨_,_,bb⟩=>SqL.of (bb.1 _ _ nlnp nlnl gln)) ?_ ?_
  ·rintro i x σ H' hx ⟨⟨o4,o5,o6,o7,o8,o9,rfl⟩,⟨os,Bs,hl', bl,ez⟩,bb⟩
   rw [List.getElem?_map] at hx
   obtain ⟨z,hz,rfl⟩:=Option.map_eq_some_iff.mp hx
   have hil : i < zs.length:=(List.getElem?_eq_some_iff.mp hz).1
   have nm:=nz.2 z (List.mem_of_getElem? hz)
   have bln:=bl.len
   have bsl : Bs.length ≤ 16:=by
    have:=congrArg List.length ez
    rw [List.length_map,List.length_take] at this
    omega
   refine ⟨_,rfl,p,13,rfl,bb.2,by decide,by decide,fun lo K1 l0 l1 d1=>?_⟩
   refine ⟨_,rfl,_,rfl,_,rfl,_,_,rfl,rfl,p,_,rfl,d1.2,by omega,Jj4 (by omega),fun r2 K2 x0 x1 d2=>⟨_,_,rfl,rfl,?_⟩⟩
   refine ⟨_,rfl,_,rfl,_,rfl,_,rfl,_,_,rfl,rfl,_,_,rfl,rfl,p,_,rfl,d2.2,by omega,Jj4 (by omega),fun r3 K3 y0 y1 d3=>⟨_,_,rfl,rfl,?_⟩⟩
   refine ⟨_,rfl,p,7,rfl,d3.2,by decide,by decide,fun rn K4 z0 z1 d4=>?_⟩
   have d14:=((d1.trans d2).trans d3).trans d4
   have nl' : l ≠ p:=nlp
   have hl4:=d14.1 _ _ nl' hl'
   refine ⟨_,rfl,.inl ⟨rfl,_,SqL.of hl4⟩,?_⟩
   refine ⟨_,rfl,_,rfl,_,rfl,_,rfl,_,rfl,_,rfl,p,13,rfl,d4.2,by decide,by decide,fun mk K5 m0 m1 d5=>⟨(show 1 ≤ sizeLine by decide),fun lm hlm=>?_⟩⟩
   have d6:=d5.same (Same.upd (o:=.lst [.int mk]) hlm)
   have glm:=Jfj (H:=K5) (a:=lm) (o:=.lst [.int mk])
   generalize upd K5 lm (.lst [.int mk]) = K6 at *
   intro g dg hg hdg _
   refine Jmi T hg hdg glm ⟨m0,by omega⟩ fun K7 s7 ig=>⟨rfl,?_⟩
   intro o dx ho hdx _
   refine Jjp ho hdx (B:=⟨z,lo,lo + r2,lo + r3,rn,.ref g⟩) nm.1 nm.2 ⟨l0,by show lo ≤ lo + r2; omega,by show lo + r2 ≤ 12; omega⟩ ⟨by show lo ≤ lo + r3; omega,by show lo + r3 ≤ lo + r2; omega⟩ ⟨z0,by show rn ≤ 6; omega⟩ (Jmf T ig) fun K8 s8 ba=>⟨rfl,?_⟩
   have d8:=(d14.trans d6).same (s7.trans s8)
   have hl8:=d8.1 _ _ nl' hl'
   refine ⟨l,_,_,rfl,rfl,hl8,Jh7 (by rw [List.length_map]; omega),⟨_,_,_,_,_,_,rfl⟩,⟨os ++ [o],Bs ++ [⟨z,lo,lo + r2,lo + r3,rn,.ref g⟩],by rw [Jfj,List.map_append]; rfl,(bl.imp fun _ _ q=>(q.keep (But.ins bb.2 d8)).put hl8).app ⟨ba.put hl8,True.intro⟩,?_⟩,fun b v n1 n2 e=>?_,?_⟩
   ·rw [List.map_append,ez,List.take_add_one,hz]
    rfl
   ·rw [Jfp n2]
    exact d8.1 _ _ n1 (bb.1 _ _ n1 n2 e)
   ·obtain ⟨u1,u2,u3,e⟩:=d8.2
    exact ⟨u1,u2,u3,by rw [Jfp nl'.symm]; exact e⟩
  rintro σ H6 ⟨⟨o4,o5,o6,o7,o8,o9,rfl⟩,⟨os,Bs,hl6,bl,ez⟩,bb6⟩
  rw [List.length_map,List.take_of_length_le (Nat.le_refl _)] at ez
  have bzl : Bs.length = mn:=by
   have:=congrArg List.length ez
   rw [List.length_map] at this
   omega
  have bln:=bl.len
  refine ⟨Jg2 _ (by show 0 ≤ 2000; decide),fun m hm=>?_⟩
  have s7:=Same.upd (o:=.lst []) hm
  have gm:=Jfj (H:=H6) (a:=m) (o:=.lst [])
  generalize upd H6 m (.lst []) = H7 at *
  have st7:=bb6.2.same s7
  have nmp : m ≠ p:=Jg1 st7 gm (fun _ _ _ z=>by cases z)
  have nlm : l ≠ m:=Jfo hl6 hm
  have hl7:=s7 _ _ hl6
  have bl7:=bl.same s7
  refine ⟨_,rfl,_,rfl,p,4,rfl,st7,by decide,by decide,fun tn H8 t0 t1 b8=>?_⟩
  obtain ⟨tn,rfl⟩:=Int.eq_ofNat_of_zero_le t0
  refine ⟨p,tn,rfl,b8.2,by omega,fun ln2 ys H9 hln2 b9 gln2 yl ny=>?_⟩
  have b79:=b8.trans b9
  have gm9:=b79.1 _ _ nmp gm
  have nln2p : ln2 ≠ p:=Jg1 b9.2 gln2 Jon
  have nln2m : ln2 ≠ m:=fun z=>by subst z; rw [b8.1 _ _ nmp gm] at hln2; cases hln2
  have nln2l : ln2 ≠ l:=fun z=>by subst z; rw [b8.1 _ _ nlp hl7] at hln2; cases hln2
  have hl9:=b79.1 _ _ nlp hl7
  have bl9:=bl7.imp fun _ _ q=>q.keep (But.ins st7 b79)
  obtain ⟨ob,oB,rfl⟩ : ∃ ob oB,os = ob :: oB:=by
   cases os with
   | nil=>simp at bln; omega
   | cons x r=>exact ⟨x,r,rfl⟩
  obtain ⟨B0,Br,rfl⟩ : ∃ x r,Bs = x :: r:=by
   cases Bs with
   | nil=>simp at bln
   | cons x r=>exact ⟨x,r,rfl⟩
  refine ⟨ln2,rfl,⟨_,SqL.of gln2⟩,?_⟩
  have b0 : BasAt a H9 ob B0:=bl9.1
  refine Jjn (xs:=ys.map V.str) (fun i σ H'=>(∃ o4 o5 o6 o7 o8,σ = [some (.ref p),some (.int c),some (.int mn),some (.ref l),o4,o5,o6,o7,o8,some (.ref m)]) ∧ (∃ (ts : List Addr) (Ts : List Twn),H' m = some (.lst (ts.map V.ref)) ∧ TwnL a H' ts Ts ∧ Ts.length ≤ i ∧ (Ts.map (·.z)).Nodup ∧ ∀ t ∈ Ts,t.b ∈ (B0 :: Br).map (·.z) ∧ Jgk t.z = true ∧ Wd 50 t.z) ∧ But2 p m H9 H') ⟨⟨_,_,_,_,_,rfl⟩,⟨[],[],gm9,True.intro,Nat.le_refl _,List.nodup_nil,fun t ht=>by simp at ht⟩,fun b o _ _ e=>e,b9.2⟩ (fun i σ H' _ ⟨_,_,bb⟩=>SqL.of (bb.1 _ _ nln2p nln2m gln2)) ?_ ?_
  ·rintro i x σ H' hx ⟨⟨o4,o5,o6,o7,o8,rfl⟩,⟨ts,Ts,hm', tl,tsl,tnd,tin⟩,bb⟩
   rw [List.getElem?_map] at hx
   obtain ⟨z,hz,rfl⟩:=Option.map_eq_some_iff.mp hx
   have hil : i < ys.length:=(List.getElem?_eq_some_iff.mp hz).1
   have nm:=ny.2 z (List.mem_of_getElem? hz)
   have tln:=tl.len
   have nB0:=nz.2 B0.z (by rw [← ez]; simp)
   have hl':=bb.1 _ _ nlp nlm hl9
   have insK : ∀ c C dx fs,H9 c = some (.ins C dx fs) → H' c = some (.ins C dx fs):=fun c C dx fs e=>bb.1 _ _ (Jg1 b9.2 e (fun _ _ _ z=>by cases z)) (fun q=>by rw [q,gm9] at e; cases e) e
   have bl':=bl9.imp fun _ _ q=>q.keep insK
   have comp : ∀ (K1 : Hp),But p H' K1 → K1 m = some (.lst (ts.map V.ref)) ∧ TwnL a K1 ts Ts:=fun K1 d=>⟨d.1 _ _ nmp hm', tl.imp fun _ _ q=>q.keep (But.ins bb.2 d)⟩
   refine Jmr (fun σ K6=>(∃ z', σ = [some (.ref p),some (.int c),some (.int mn),some (.ref l),some (.str z'),o5,o6,o7,o8,some (.ref m)] ∧ Jgk z' = true ∧ Wd 50 z') ∧ But p H' K6) (fun R hR=>?_) ?_
   ·refine ⟨_,rfl,p,4,rfl,bb.2,by decide,by decide,fun r K1 r0 r1 d1=>⟨rfl,_,rfl,Jk2 (fun _=>?_) (fun _=>?_)⟩⟩
    ·obtain ⟨hm1,tl1⟩:=comp K1 d1
     obtain ⟨dx0,hb0⟩:=(bl'.1 : BasAt a H' ob B0).keep (But.ins bb.2 d1)
     refine ⟨_,rfl,l,_,0,_,rfl,rfl,SqL.of (d1.1 _ _ nlp hl'),(show atI _ ((0 : Nat) : Int) = some (V.ref ob) from Jhb rfl),ob,_,dx0,_,_,rfl,hb0,T.Jbe,T.Jbh,rfl,?_⟩
     refine ⟨_,rfl,m,rfl,⟨_,SqL.of hm1⟩,fun D hD=>?_⟩
     refine Jht ((Ts.map (·.z)).map V.str) hD (by simp; omega) (by simp; omega) hm1 ?_ ?_
     ·intro j x y K2 Q' hx hy sm k'
      obtain ⟨o,B,rfl,_,hB,dx,hb⟩:=(tl1.same sm).get hx
      rw [List.getElem?_map,List.getElem?_map,hB] at hy
      cases hy
      exact ⟨_,rfl,o,_,dx,_,_,rfl,hb,T.Jbn,T.Jbq,rfl,k' _ (Same.refl _)⟩
     ·intro K2 s2 hD2
      refine ⟨D,_,rfl,.inl (SqL.of hD2),rfl,Jjz _,_,rfl,Jk2 (fun _=>?_) (fun _=>?_)⟩
      ·refine ⟨_,rfl,l,_,0,_,rfl,rfl,SqL.of (s2 _ _ (d1.1 _ _ nlp hl')),(show atI _ ((0 : Nat) : Int) = some (V.ref ob) from Jhb rfl),ob,_,dx0,_,_,rfl,s2 _ _ hb0,T.Jbe,T.Jbh,rfl,?_⟩
       exact hR _ _ ⟨⟨_,rfl,nB0⟩,d1.same s2⟩
      ·exact hR _ _ ⟨⟨_,rfl,nm⟩,d1.same s2⟩
    ·exact hR _ _ ⟨⟨_,rfl,nm⟩,d1⟩
   ·rintro σ K6 ⟨⟨z', rfl,nz', wz'⟩,d6⟩
    obtain ⟨hm6,tl6⟩:=comp K6 d6
    have hl6':=d6.1 _ _ nlp hl'
    refine ⟨_,rfl,_,rfl,m,rfl,⟨_,SqL.of hm6⟩,fun D hD=>?_⟩
    refine Jht ((Ts.map (·.z)).map V.str) hD (by simp; omega) (by simp; omega) hm6 ?_ ?_
    ·intro j x y K2 Q' hx hy sm k'
     obtain ⟨o,B,rfl,_,hB,dx,hb⟩:=(tl6.same sm).get hx
     rw [List.getElem?_map,List.getElem?_map,hB] at hy
     cases hy
     exact ⟨_,rfl,o,_,dx,_,_,rfl,hb,T.Jbn,T.Jbq,rfl,k' _ (Same.refl _)⟩
    ·intro K7 s7' hD7
     have d7:=d6.same s7'
     obtain ⟨hm7,tl7⟩:=comp K7 d7
     refine ⟨D,_,rfl,.inl (SqL.of hD7),rfl,Jjz _,_,rfl,?_⟩
     rw [if_pos rfl,Joc]
     by_cases hin : z' ∈ Ts.map (·.z)
     ·rw [decide_eq_true hin]
      refine Jgi ⟨⟨_,_,_,_,_,rfl⟩,⟨ts,Ts,hm7,tl7,by omega,tnd,tin⟩,fun b o n1 n2 e=>d7.1 _ _ n1 (bb.1 _ _ n1 n2 e),d7.2⟩
     ·rw [decide_eq_false hin]
      refine Jha ?_
      refine ⟨_,rfl,.inl ⟨rfl,_,SqL.of hm7⟩,?_⟩
      have lenb : (((ob :: oB).map V.ref).length : Int) = mn:=by rw [List.length_map,bln,bzl]
      refine ⟨_,rfl,_,rfl,_,rfl,_,rfl,p,_,rfl,d7.2,by omega,Jj4 (by omega),fun r8 K8 x0 x1 d8=>?_⟩
      have d78:=d7.trans d8
      have hl8:=d78.1 _ _ nlp hl'
      obtain ⟨n8,rfl⟩:=Int.eq_ofNat_of_zero_le x0
      have h8 : n8 < ((ob :: oB).map V.ref).length:=by omega
      have bl8:=bl'.imp fun _ _ q=>q.keep (But.ins bb.2 d78)
      obtain ⟨o8', B8,e8,_,hB8,dx8,hb8⟩:=RowL.get bl8 (List.getElem?_eq_getElem h8)
      have nB8:=nz.2 B8.z (by rw [← ez]; exact List.mem_map_of_mem (f:=fun B : Bsn=>B.z) (List.mem_of_getElem? hB8))
      refine ⟨l,_,_,_,rfl,rfl,SqL.of hl8,Jhb (by rw [List.getElem?_eq_getElem h8,e8]),o8', _,dx8,_,_,rfl,hb8,T.Jbe,T.Jbh,rfl,?_⟩
      refine ⟨_,rfl,p,6,rfl,d8.2,by decide,by decide,fun r9 K9 y0 y1 d9=>⟨_,_,rfl,rfl,?_⟩⟩
      intro o dx ho hdx _
      refine Jjq ho hdx (B:=⟨z', B8.z,1 + r9⟩) nz' wz' nB8.1 nB8.2 ⟨by show 1 ≤ 1 + r9; omega,by show 1 + r9 ≤ 6; omega⟩ fun K10 s10 ta=>⟨rfl,?_⟩
      have d10:=(d78.trans d9).same s10
      obtain ⟨hm10,tl10⟩:=comp K10 d10
      refine ⟨m,_,_,rfl,rfl,hm10,Jh7 (by rw [List.length_map]; omega),⟨_,_,_,_,_,rfl⟩,⟨ts ++ [o],Ts ++ [⟨z', B8.z,1 + r9⟩],by rw [Jfj,List.map_append]; rfl,(tl10.imp fun _ _ q=>q.put hm10).app ⟨ta.put hm10,True.intro⟩,by rw [List.length_append]; show _ + 1 ≤ _; omega,?_,fun t ht=>?_⟩,fun b v n1 n2 e=>?_,?_⟩
      ·rw [List.map_append,List.nodup_append]
       refine ⟨tnd,by simp,fun x hx y hy=>?_⟩
       have : y = z':=by simpa using hy
       rw [this]
       exact fun q=>hin (q ▸ hx)
      ·rcases List.mem_append.mp ht with ht | ht
       ·exact tin t ht
       ·rw [List.mem_singleton.mp ht]
        exact ⟨List.mem_map_of_mem (f:=fun B : Bsn=>B.z) (List.mem_of_getElem? hB8),nz', wz'⟩
      ·rw [Jfp n2]
       exact d10.1 _ _ n1 (bb.1 _ _ n1 n2 e)
      ·obtain ⟨u1,u2,u3,e⟩:=d10.2
       exact ⟨u1,u2,u3,by rw [Jfp nmp.symm]; exact e⟩
  rintro σ H' ⟨⟨o4,o5,o6,o7,o8,rfl⟩,⟨ts,Ts,hm', tl,tsl,tnd,tin⟩,bb⟩
  rw [List.length_map] at tsl
  refine ⟨_,rfl,_,rfl,_,rfl,_,_,rfl,rfl,p,_,rfl,bb.2,by omega,Jj4 (by omega),fun g Ha g0 g1 ba=>?_⟩
  refine ⟨_,rfl,_,rfl,(show 4 ≤ sizeLine by decide),fun q hq=>?_⟩
  have sq:=Same.upd (o:=.lst [.int c,.int g,.ref l,.ref m]) hq
  have gq:=Jfj (H:=Ha) (a:=q) (o:=.lst [.int c,.int g,.ref l,.ref m])
  generalize upd Ha q (.lst [.int c,.int g,.ref l,.ref m]) = Hb at *
  have key6 : ∀ b o,b ≠ p → H b = some o → H6 b = some o:=fun b o nb e=>bb6.1 _ _ nb (Jfo e hl0) (b5.1 _ _ nb (b4.1 _ _ nb e))
  have free : ∀ {b : Addr} {K1 : Hp},b ≠ p → (∀ b o,b ≠ p → H b = some o → K1 b = some o) → K1 b = none → H b = none:=fun {b K1} nb f e=>by
   cases q : H b with
   | none=>rfl
   | some o=>rw [f b o nb q] at e; cases e
  have hm0 : H m = none:=free nmp key6 hm
  have keya : ∀ b o,b ≠ p → H b = some o → Ha b = some o:=fun b o nb e=>ba.1 _ _ nb (bb.1 _ _ nb (Jfo e hm0) (b79.1 _ _ nb (s7 _ _ (key6 b o nb e))))
  have nqp : q ≠ p:=ba.2.ne hq
  have insK : ∀ c C dx fs,H9 c = some (.ins C dx fs) → H' c = some (.ins C dx fs):=fun c C dx fs e=>bb.1 _ _ (Jg1 b9.2 e (fun _ _ _ z=>by cases z)) (fun q=>by rw [q,gm9] at e; cases e) e
  refine k q l m ⟨c,g,ob :: oB,B0 :: Br,ts,Ts⟩ Hb ⟨fun b o nb e=>sq _ _ (keya b o nb e),ba.2.same sq⟩ (free nqp keya hq) hl0 hm0 nlm ⟨gq,sq _ _ (ba.1 _ _ nlp (bb.1 _ _ nlp nlm hl9)),sq _ _ (ba.1 _ _ nmp hm'),?_,?_⟩ ?_
  ·exact BasL.same sq ((bl9.imp fun _ _ q=>q.keep insK).imp fun _ _ q=>q.keep (But.ins bb.2 ba))
  ·exact TwnL.same sq (tl.imp fun _ _ q=>q.keep (But.ins bb.2 ba))
  ·refine ⟨⟨c0,by show c ≤ 12; omega⟩,⟨g0,by show g ≤ c; omega⟩,by show 1 ≤ (B0 :: Br).length ∧ (B0 :: Br).length ≤ 16; omega,by show ((B0 :: Br).map (·.z)).Nodup; rw [ez]; exact nz.1,by show Ts.length ≤ 3; omega,tnd,fun t ht=>(tin t ht).1,fun B hB=>nz.2 B.z (by rw [← ez]; exact List.mem_map_of_mem (f:=fun B : Bsn=>B.z) hB),fun t ht=>(tin t ht).2⟩
end
def Thg (K : W.Frag) (H : Hp) (x : V) : Prop:=nodeV x ∧ ∃ t b,TyX K H x t ∧ W.kitOne K t (.type "bool") = some b
theorem Thg.same {K : W.Frag} {H H' : Hp} {x : V} (s : Same H H') (h : Thg K H x) : Thg K H' x:=let ⟨n,t,b,h1,h2⟩:=h; ⟨n,t,b,Jhq s h1,h2⟩
def Jry (K : W.Frag) : Sp:=fun vs H Q _=>∃ (p : Addr) (hi : Int),vs = [.ref p,.int hi] ∧ Strm H p ∧ hi ≤ 12 ∧ ∀ (x : V) (H' : Hp),But p H H' → Tm K H' x → Jhj x 0 hi = false → Thg K H' x → (∀ b,x = .ref b → H b = none) → Q x H'
section
variable {P : Program} {w : World} {K : W.Frag} {mg : Str → Option Value} {base : Heap} {a : Ad}
theorem Jk9 : Jfx ["_law_stream_here","_law_high"] ["_law_stream_here","_law_high"] (Jfr (top 43)):=⟨rfl,rfl,rfl,by decide +kernel,rfl,by decide +kernel,by decide +kernel⟩
theorem Jk7 (T : Tx K mg a) : FnOk P w K mg base CX0 2 a.Jee a.Jef ["_law_stream_here","_law_high"] (Jry K):=by
 have G__law_take:=Jh2 (P:=P) (w:=w) (base:=base) T
 refine T.Je.fn.ok Jk9 (fun vs H Q E h=>?_) (fun cdv A outer s H vs Q E hr h=>?_)
 ·obtain ⟨p,hi,rfl,_⟩:=h
  rfl
 ·obtain ⟨p,hi,rfl,st,hh,k⟩:=h
  refine ⟨?t,?B,?C⟩
  case B =>
   refine' Jfn ?s1
   case s1 =>
    refine' Jfw ?e3_0
    case e3_0 =>
     refine' Jfz ?e4_0 ?e4_1 ?e4_2 ?e4_3
     case e4_0 =>
      exact Jfs
     case e4_1 =>
      refine' Jg5 ?e5_0
      case e5_0 =>
       refine' pa10 ?e6_0 ?e6_1 ?e6_2 ?e6_3 ?e6_4 ?e6_5 ?e6_6 ?e6_7 ?e6_8 ?e6_9
       case e6_0 =>
        exact (pe_un un_neg Jfl)
       case e6_1 =>
        exact (Jg3 Jgw (pv 1) Jfl)
       case e6_2 =>
        exact Jgv
       case e6_3 =>
        exact Jgv
       case e6_4 =>
        exact Jhn
       case e6_5 =>
        exact Jgb
       case e6_6 =>
        exact (Jg5 (Jfi Jfl Jfk))
       case e6_7 =>
        exact (Jhg Jfk)
       case e6_8 =>
        exact (Jg3 Jq9 Jfl Jfl)
       case e6_9 =>
        exact Jjr
     case e4_2 =>
      exact (Jfq T.Jb G__law_take hr (by decide) (Jfi (pv 0) (Jfi Jfl Jfk)))
     case e4_3 =>
      exact (fun _ _=>rfl)
  refine ⟨_,rfl,_,rfl,_,_,rfl,rfl,(show 1 ≤ sizeLine by decide),fun l1 hl1=>?_⟩
  have s1:=Same.upd (o:=.lst [.int 0]) hl1
  have g1:=Jfj (H:=H) (a:=l1) (o:=.lst [.int 0])
  generalize upd H l1 (.lst [.int 0]) = H1 at *
  refine ⟨(show 0 ≤ sizeLine by decide),fun t1 ht1=>?_⟩
  have s2:=Same.upd (o:=.tup []) ht1
  have g2:=Jfj (H:=H1) (a:=t1) (o:=.tup [])
  generalize upd H1 t1 (.tup []) = H2 at *
  refine ⟨_,_,rfl,rfl,⟨by decide,by decide,by decide⟩,fun d hd=>?_⟩
  have s3:=Same.upd (o:=.dK []) hd
  have g3:=Jfj (H:=H2) (a:=d) (o:=.dK [])
  generalize upd H2 d (.dK []) = H3 at *
  refine ⟨(show 10 ≤ sizeLine by decide),fun L hL=>?_⟩
  have s4:=Same.upd (o:=.lst [.int (-1),.int (hi + 1),.bl true,.bl false,.non,.str "0",.ref l1,.ref t1,.int (10 ^ 30),.ref d]) hL
  have g4:=Jfj (H:=H3) (a:=L) (o:=.lst [.int (-1),.int (hi + 1),.bl true,.bl false,.non,.str "0",.ref l1,.ref t1,.int (10 ^ 30),.ref d])
  have e30 : (fun i j : Int=>V.int (i ^ j.toNat)) 10 30 = V.int (10 ^ 30):=rfl
  rw [e30]
  change Jop Jqr [] E0 _ _ (upd H3 L (.lst [.int (-1),.int (hi + 1),.bl true,.bl false,.non,.str "0",.ref l1,.ref t1,.int (10 ^ 30),.ref d])) _
  generalize upd H3 L (.lst [.int (-1),.int (hi + 1),.bl true,.bl false,.non,.str "0",.ref l1,.ref t1,.int (10 ^ 30),.ref d]) = H4 at *
  have st4:=st.same (((s1.trans s2).trans s3).trans s4)
  refine ⟨_,rfl,p,10,rfl,st4,by decide,by decide,fun r H5 r0 r1 b5=>?_⟩
  obtain ⟨v,mv,av⟩:=Jik (xs:=[.int (-1),.int (hi + 1),.bl true,.bl false,.non,.str "0",.ref l1,.ref t1,.int (10 ^ 30),.ref d]) r0 r1
  have bb : But p H H5:=(But.of st (((s1.trans s2).trans s3).trans s4)).trans b5
  have n12:=s1.trans s2
  have k1:=b5.1 _ _ (Jg1 st4 (s4 _ _ (s3 _ _ (s2 _ _ g1))) (fun _ _ _ z=>by cases z)) (s4 _ _ (s3 _ _ (s2 _ _ g1)))
  have k2:=b5.1 _ _ (Jg1 st4 (s4 _ _ (s3 _ _ g2)) (fun _ _ _ z=>by cases z)) (s4 _ _ (s3 _ _ g2))
  have k3:=b5.1 _ _ (Jg1 st4 (s4 _ _ g3) (fun _ _ _ z=>by cases z)) (s4 _ _ g3)
  refine ⟨L,_,_,v,rfl,rfl,SqL.of (b5.1 _ _ (Jg1 st4 g4 (fun _ _ _ z=>by cases z)) g4),av,?_⟩
  have nf : ∀ {x : V},Jhf x = true → ∀ b,x = .ref b → H b = none:=fun f b e=>by rw [e] at f; cases f
  simp only [List.mem_cons,List.not_mem_nil,or_false] at mv
  rcases mv with rfl | rfl | rfl | rfl | rfl | rfl | rfl | rfl | rfl | rfl
  ·exact k _ _ bb (.inl ⟨_,rfl⟩) rfl ⟨.inl rfl,_,_,.of (.int _),rfl⟩ (nf rfl)
  ·exact k _ _ bb (.inl ⟨_,rfl⟩) (by show (decide (0 ≤ hi + 1) && decide (hi + 1 ≤ hi)) = false; rw [decide_eq_false (by omega : ¬ hi + 1 ≤ hi),Bool.and_false]) ⟨.inl rfl,_,_,.of (.int _),rfl⟩ (nf rfl)
  ·exact k _ _ bb (.inr ⟨_,.of (.bl _),rfl⟩) rfl ⟨.inl rfl,_,_,.of (.bl _),rfl⟩ (nf rfl)
  ·exact k _ _ bb (.inr ⟨_,.of (.bl _),rfl⟩) rfl ⟨.inl rfl,_,_,.of (.bl _),rfl⟩ (nf rfl)
  ·exact k _ _ bb (.inr ⟨_,.of .non,rfl⟩) rfl ⟨.inl rfl,_,_,.of .non,rfl⟩ (nf rfl)
  ·exact k _ _ bb (.inr ⟨_,.of (.str _),rfl⟩) rfl ⟨.inl rfl,_,_,.of (.str _),rfl⟩ (nf rfl)
  ·exact k _ _ bb (.inr ⟨_,.of (.lst k1),rfl⟩) rfl ⟨.inr ⟨_,rfl⟩,_,_,.of (.lst k1),rfl⟩ (fun b e=>by cases e; exact hl1)
  ·exact k _ _ bb (.inr ⟨_,.of (.tup k2),rfl⟩) rfl ⟨.inr ⟨_,rfl⟩,_,_,.of (.tup k2),rfl⟩ (fun b e=>by cases e; exact s1.free ht1)
  ·exact k _ _ bb (.inl ⟨_,rfl⟩) (by show (decide (0 ≤ (10 : Int) ^ 30) && decide ((10 : Int) ^ 30 ≤ hi)) = false; rw [decide_eq_false (by omega : ¬ (10 : Int) ^ 30 ≤ hi),Bool.and_false]) ⟨.inl rfl,_,_,.of (.int _),rfl⟩ (nf rfl)
  ·exact k _ _ bb (.inr ⟨_,.of (.dK k3),rfl⟩) rfl ⟨.inr ⟨_,rfl⟩,_,_,.of (.dK k3),rfl⟩ (fun b e=>by cases e; exact n12.free hd)
theorem Jqg : ∀ (ws ns : List Str),ws.Nodup → (∀ w ∈ ws,w ∈ ns) → ws.length ≤ ns.length
 | [],_,_,_=>Nat.zero_le _
 | w :: ws,ns,nd,h=>by
  rw [List.nodup_cons] at nd
  have hw:=h w List.mem_cons_self
  have ih:=Jqg ws (ns.erase w) nd.2 fun x hx=>(List.mem_erase_of_ne (fun e=>nd.1 (by rw [← e]; exact hx))).mpr (h x (List.mem_cons_of_mem _ hx))
  rw [List.length_erase_of_mem hw] at ih
  have:=List.length_pos_of_mem hw
  rw [List.length_cons]
  omega
def AQ : Str := "abcdefghijklmnopq"
def wrd (c : Nat) : Str:=("n" : Str) ++ (⟨#[c]⟩ : Str)
theorem wrd_nd : (AQ.cps.toList.map wrd).Nodup:=by decide +kernel
theorem Jot : (AQ.cps.toList.map wrd).length = 17:=by decide +kernel
theorem wrd_nm : ∀ z ∈ AQ.cps.toList.map wrd,Jgk z = true ∧ Wd 50 z:=by
 intro z hz
 have h : (AQ.cps.toList.map wrd).all (fun z=>Jgk z && (decide (z.length ≤ 50) && z.cps.toList.all fun c=>decide (c < 128))) = true:=by decide +kernel
 have:=List.all_eq_true.mp h z hz
 rw [Bool.and_eq_true] at this
 exact ⟨this.1,Jka this.2⟩
def Jpf (a : Ad) : Sp:=fun vs H Q _=>∃ (l : Addr) (os : List Addr) (Bs : List Bsn),vs = [.ref l] ∧ H l = some (.lst (os.map V.ref)) ∧ BasL a H os Bs ∧ Bs.length ≤ 16 ∧ ∀ (z : Str) (H' : Hp),Same H H' → z ∉ Bs.map (·.z) → Jgk z = true → Wd 50 z → Q (.str z) H'
theorem sc_law_strange : Jfx ["_law_basins","_law_names_here"] ["_law_basins"] (Jfr (top 45)):=⟨rfl,rfl,rfl,by decide +kernel,rfl,by decide +kernel,by decide +kernel⟩
theorem Jip (T : Tx K mg a) : FnOk P w K mg base CX0 1 a.Jei a.Jej ["_law_basins"] (Jpf a):=by
 refine T.Jg.fn.ok sc_law_strange (fun vs H Q E h=>?_) (fun cdv A outer s H vs Q E hr h=>?_)
 ·obtain ⟨l,os,Bs,rfl,_⟩:=h
  rfl
 ·obtain ⟨l,os,Bs,rfl,hl,bl,bn,k⟩:=h
  have bln:=bl.len
  refine ⟨?t,?B,?C⟩
  case B =>
   refine' Jfm ?s1 ?r1
   case s1 =>
    exact (Jfy (i:=1) sc_law_strange.nd rfl (Or.inr rfl) (Jgs (N:=(["_law_basin"] : List Str)) (ini:=[none]) rfl (Ji0 (pv 0)) (fun _ _ _ _ _=>(Jg6 (i:=0) (by decide +kernel : (["_law_basin"] : List Str).Nodup) rfl (Or.inl rfl))) (fun _ _ _ _ _=>Jgt) (fun _ _ _ _ _=>(Jhp (K:=K) rfl (pv 0) (by rfl)))))
   case r1 =>
    refine' Jfn ?s3
    case s3 =>
     exact (Jfw (Jfz Jfs (Jgs (N:=(["_law_word","_law_names_here"] : List Str)) (ini:=[none,some 1]) rfl (Ji0 (Jgs (N:=(["_law_sign"] : List Str)) (ini:=[none]) rfl (Jqf Jgb) (fun _ _ _ _ _=>(Jg6 (i:=0) (by decide +kernel : (["_law_sign"] : List Str).Nodup) rfl (Or.inl rfl))) (fun _ _ _ _ _=>Jgt) (fun _ _ _ _ _=>(Jg3 Jjc Jgb (pv 0))))) (fun _ _ _ _ _=>(Jg6 (i:=0) (by decide +kernel : (["_law_word","_law_names_here"] : List Str).Nodup) rfl (Or.inl rfl))) (fun _ _ _ _ _=>(Jro (Jg4 (Jlg (K:=K) rfl) (pv 0) (pv 1) (by with_unfolding_all rfl)))) (fun _ _ _ _ _=>(pv 0))) Jfl (fun _ _=>rfl)))
  refine ⟨_,rfl,l,rfl,⟨_,SqL.of hl⟩,fun D hD=>?_⟩
  refine Jht ((Bs.map (·.z)).map V.str) hD (by simp; omega) (by simp; omega) hl ?_ ?_
  ·intro j x y K2 Q' hx hy sm k'
   obtain ⟨o,B,rfl,_,hB,dx,hb⟩:=(bl.same sm).get hx
   rw [List.getElem?_map,List.getElem?_map,hB] at hy
   cases hy
   exact ⟨_,rfl,o,_,dx,_,_,rfl,hb,T.Jbe,T.Jbh,rfl,k' _ (Same.refl _)⟩
  ·intro H1 s1 hD1
   refine ⟨AQ,rfl,fun D2 hD2=>?_⟩
   refine Jmy (z:=AQ) (D:=D2) (fun i σ H'=>(∃ o,σ = [o]) ∧ H' D2 = some (.lst (((AQ.cps.toList.take i).map wrd).map V.str)) ∧ Same H1 H') ⟨⟨none,rfl⟩,Jfj,Same.upd hD2⟩ ?_ ?_
   ·rintro i c σ H' hc ⟨⟨o,rfl⟩,hDs,sm⟩
    have e : AQ.cps.toList[i]? = some c:=by simpa using hc
    refine Jhw ⟨_,rfl,_,_,rfl,rfl,?_,_,hDs,?_,⟨_,rfl⟩,?_,fun b v z=>?_⟩
    ·exact Jg2 _ (by show ("n" : Str).length + 1 ≤ 2000; decide +kernel)
    ·rw [List.length_map,List.length_map,List.length_take,Jkp]
     have h17 : AQ.length = 17:=by decide +kernel
     exact Jh7 (by omega)
    ·rw [Jfj,List.take_add_one,e]
     simp
     rfl
    ·rw [Jfp (Jfo z hD2)]
     exact sm _ _ z
   ·rintro σ H2 ⟨_,hDs,s2⟩
    rw [List.take_of_length_le (by simp)] at hDs
    refine ⟨D2,rfl,⟨_,SqL.of hDs⟩,fun D3 hD3=>?_⟩
    have hD12:=s2 _ _ hD1
    refine Jlw (K:=K) (a:=D2) (xs:=(AQ.cps.toList.map wrd).map V.str) (D:=D3) (fun i σ H'=>(∃ o,σ = [o,some (.ref D)]) ∧ H' D3 = some (.lst ((((AQ.cps.toList.map wrd).take i).filter fun w=>!decide (w ∈ Bs.map (·.z))).map V.str)) ∧ Same H2 H') ⟨⟨_,rfl⟩,Jfj,Same.upd hD3⟩ (fun i σ H' _ ⟨_,_,sm⟩=>SqL.of (sm _ _ hDs)) ?_ ?_
    ·rintro i x σ H' hx ⟨⟨o,rfl⟩,hD3s,sm⟩
     rw [List.getElem?_map] at hx
     obtain ⟨w0,hw0,rfl⟩:=Option.map_eq_some_iff.mp hx
     refine ⟨_,rfl,_,rfl,D,_,rfl,.inl (SqL.of (sm _ _ hD12)),rfl,Jjz _,_,rfl,?_⟩
     rw [if_pos rfl,Joc]
     by_cases hin : w0 ∈ Bs.map (·.z)
     ·rw [decide_eq_true hin]
      refine Jgi ⟨⟨_,rfl⟩,?_,sm⟩
      have ef : ((some w0 : Option Str).toList.filter fun w=>!decide (w ∈ Bs.map (·.z))) = []:=by
       show List.filter _ [w0] = []
       rw [List.filter_cons,decide_eq_true hin]
       rfl
      rw [hD3s,List.take_add_one,hw0,List.filter_append,ef,List.append_nil]
     ·rw [decide_eq_false hin]
      refine Jha ⟨_,rfl,_,hD3s,Jh7 ?_,⟨_,rfl⟩,?_,fun b v z=>?_⟩
      ·rw [List.length_map]
       refine Nat.le_trans (List.length_filter_le _ _) ?_
       rw [List.length_take,Jot]
       omega
      ·have ef : ((some w0 : Option Str).toList.filter fun w=>!decide (w ∈ Bs.map (·.z))) = [w0]:=by
        show List.filter _ [w0] = [w0]
        rw [List.filter_cons,decide_eq_false hin]
        rfl
       rw [Jfj,List.take_add_one,hw0,List.filter_append,ef,List.map_append]
       rfl
      ·rw [Jfp (Jfo z hD3)]
       exact sm _ _ z
    ·rintro σ H3 ⟨_,hD3s,s3⟩
     rw [List.take_of_length_le (by simp)] at hD3s
     cases e : (AQ.cps.toList.map wrd).filter (fun w=>!decide (w ∈ Bs.map (·.z))) with
     | nil =>
      exfalso
      have:=Jqg (AQ.cps.toList.map wrd) (Bs.map (·.z)) wrd_nd fun w hw=>by
       have:=List.filter_eq_nil_iff.mp e w hw
       simpa using this
      rw [Jot,List.length_map] at this
      omega
     | cons w0 r =>
      rw [e] at hD3s
      have hm : w0 ∈ (AQ.cps.toList.map wrd).filter (fun w=>!decide (w ∈ Bs.map (·.z))):=by rw [e]; exact List.mem_cons_self
      rw [List.mem_filter] at hm
      have nmw:=wrd_nm w0 hm.1
      exact ⟨D3,_,0,_,rfl,rfl,SqL.of hD3s,(show atI _ ((0 : Nat) : Int) = some (V.str w0) from Jhb rfl),k w0 _ ((s1.trans s2).trans s3) (by simpa using hm.2) nmw.1 nmw.2⟩
end
def IsKs (K : W.Frag) (H : Hp) (C : Addr) (vs : List V) (bs : List Bool) : Prop:=bs.length = vs.length ∧ ∀ (i : Nat) v b,vs[i]? = some v → bs[i]? = some b → IsK K H C v b
theorem IsKs.app {K : W.Frag} {H : Hp} {C : Addr} {vs us : List V} {bs cs : List Bool} (h : IsKs K H C vs bs) (g : IsKs K H C us cs) : IsKs K H C (vs ++ us) (bs ++ cs):=by
 refine ⟨by rw [List.length_append,List.length_append,h.1,g.1],fun i v b e1 e2=>?_⟩
 by_cases hi : i < vs.length
 ·rw [List.getElem?_append_left hi] at e1
  rw [List.getElem?_append_left (by rw [h.1]; exact hi)] at e2
  exact h.2 i v b e1 e2
 ·rw [List.getElem?_append_right (by omega)] at e1
  rw [List.getElem?_append_right (by rw [h.1]; omega),h.1] at e2
  exact g.2 _ v b e1 e2
theorem IsKs.one {K : W.Frag} {H : Hp} {C : Addr} {v : V} {b : Bool} (h : IsK K H C v b) : IsKs K H C [v] [b]:=⟨rfl,fun i u c e1 e2=>by
 match i with
 | 0=>cases e1; cases e2; exact h
 | i + 1=>simp at e1⟩
theorem Jo5 (n m : Nat) : (List.replicate n true ++ [false] ++ List.replicate m true).all id = false:=by
 rw [List.all_append,List.all_append]
 simp
theorem uq_nd : ∀ (n : Nat) (zs : List Str),zs.length = n → (uq zs).length = zs.length → zs.Nodup
 | 0,zs,h,_=>by rw [List.length_eq_zero_iff.mp h]; exact List.nodup_nil
 | n + 1,zs,h,e=>by
  obtain ⟨i,z,rfl⟩ : ∃ i z,zs = i ++ [z]:=⟨zs.dropLast,zs.getLast (by intro q; rw [q] at h; cases h),(List.dropLast_concat_getLast _).symm⟩
  rw [Joq,List.length_append] at e
  have l:=Jqz i
  simp only [List.length_singleton] at e
  split at e
  ·omega
  ·rename_i hn
   have nd:=uq_nd n i (by simpa using h) (by omega)
   rw [List.nodup_append]
   refine ⟨nd,by simp,fun x hx y hy q=>hn ?_⟩
   have e2 : y = z:=by simpa using hy
   show (uq i).contains z = true
   rw [Jjw nd,← e2,← q]
   simpa using hx
theorem Jqy {zs : List Str} (h : ¬ zs.Nodup) : decide ((uq zs).length = zs.length) = false:=by
 exact decide_eq_false fun e=>h (uq_nd _ zs rfl e)
def AX (c : Nat) : Str:=("x" : Str) ++ (⟨#[c]⟩ : Str)
theorem ax_nm {c : Nat} (h : c ∈ AQ.cps.toList) : Jgk (AX c) = true ∧ Wd 50 (AX c):=by
 have h1 : AQ.cps.toList.all (fun c=>Jgk (AX c) && (decide ((AX c).length ≤ 50) && (AX c).cps.toList.all fun c=>decide (c < 128))) = true:=by decide +kernel
 have:=List.all_eq_true.mp h1 c h
 rw [Bool.and_eq_true] at this
 exact ⟨this.1,Jka this.2⟩
def ZZ : Str := "zz"
theorem zz_nm : Jgk ZZ = true ∧ Wd 50 ZZ:=⟨by decide +kernel,Jka (by decide +kernel)⟩
section
variable {P : Program} {w : World} {K : W.Frag} {mg : Str → Option Value} {base : Heap} {a : Ad}
theorem Jo7 (T : Tx K mg a) {H : Hp} {o : Addr} {B : Bsn} (h : BasAt a H o B) : IsK K H a.Jff (.ref o) true:=let ⟨_,h1⟩:=h; ⟨_,.of (T.Jbf.ty T.Jbe h1),T.Jca⟩
theorem twn_isK (T : Tx K mg a) {H : Hp} {o : Addr} {B : Twn} (h : TwnAt a H o B) : IsK K H a.Jfg (.ref o) true:=let ⟨_,h1⟩:=h; ⟨_,.of (T.Jbo.ty T.Jbn h1),T.Jcd⟩
theorem Jis {β : Type} {F : Addr → β → Prop} {H : Hp} {C : Addr} (f : ∀ o B,F o B → IsK K H C (.ref o) true) : ∀ {os : List Addr} {Bs : List β},RowL F os Bs → IsKs K H C (os.map V.ref) (List.replicate os.length true)
 | [],[],_=>⟨rfl,fun i v b e _=>by simp at e⟩
 | o :: os,_ :: _,⟨h,t⟩=>(IsKs.one (f _ _ h)).app (Jis f t)
theorem Jr6 (T : Tx K mg a) {H : Hp} {q : Addr} {os : List Addr} {Bs : List Bsn} {n : Nat} {y : V} (hq : H q = some (.lst ((os.take n).map V.ref ++ [y] ++ (os.drop n).map V.ref))) (bl : BasL a H os Bs) (hy : IsK K H a.Jff y false) : BasIs K a H (.ref q) false:=by
 by_cases hl : ((os.take n).map V.ref ++ [y] ++ (os.drop n).map V.ref).length ≤ 16
 ·have ks:=((Jis (fun _ _ h=>Jo7 T h) (bl.take n)).app (IsKs.one hy)).app (Jis (fun _ _ h=>Jo7 T h) (bl.drop n))
  exact .odd (.inl hq) ⟨by simp; omega,hl⟩ ks.1 ks.2 (Jo5 _ _)
 ·exact .len (.inl hq) fun z=>hl z.2
theorem Jr5 {H : Hp} {q o : Addr} {os : List Addr} {Bs : List Bsn} {n : Nat} {B : Bsn} (hq : H q = some (.lst ((os.take n).map V.ref ++ [.ref o] ++ (os.drop n).map V.ref))) (bl : BasL a H os Bs) (hb : BasAt a H o B) (hz : B.z ∈ Bs.map (·.z)) : BasIs K a H (.ref q) false:=by
 have row : BasL a H (os.take n ++ [o] ++ os.drop n) (Bs.take n ++ [B] ++ Bs.drop n):=((bl.take n).app (show BasL a H [o] [B] from ⟨hb,True.intro⟩)).app (bl.drop n)
 have hq' : SqA H q ((os.take n ++ [o] ++ os.drop n).map V.ref):=.inl (by rw [hq]; simp)
 have nn : ¬ ((Bs.take n ++ [B] ++ Bs.drop n).map (·.z)).Nodup:=by
  intro nd
  rw [List.map_append,List.map_append,List.append_assoc,List.nodup_append] at nd
  obtain ⟨n1,n2,n3⟩:=nd
  rw [← List.take_append_drop n Bs,List.map_append,List.mem_append] at hz
  rcases hz with hz | hz
  ·exact n3 _ hz _ (by simp) rfl
  ·rw [List.map_singleton,List.singleton_append,List.nodup_cons] at n2
   exact n2.1 hz
 by_cases hl : (Bs.take n ++ [B] ++ Bs.drop n).length ≤ 16
 ·have:=BasIs.row (K:=K) hq' ⟨by simp; omega,hl⟩ row
  rwa [Jqy nn] at this
 ·exact .len hq' fun z=>hl (by rw [List.length_map,row.len] at z; exact z.2)
end
def Jrx (K : W.Frag) (a : Ad) : Sp:=fun vs H Q _=>∃ (p l : Addr) (R : Rgd),vs = [.ref p,.ref l] ∧ Strm H p ∧ H l = some (.lst (R.os.map V.ref)) ∧ BasL a H R.os R.Bs ∧ Jmu R ∧ ∀ (x : V) (H' : Hp),But p H H' → BasIs K a H' x false → Thg K H' x → (∀ b,x = .ref b → H b = none) → Q x H'
section
variable {P : Program} {w : World} {K : W.Frag} {mg : Str → Option Value} {base : Heap} {a : Ad}
theorem sc_law_no_basins : Jfx ["_law_stream_here","_law_basins","_law_way","_law_at","_law_one"] ["_law_stream_here","_law_basins"] (Jfr (top 44)):=⟨rfl,rfl,rfl,by decide +kernel,rfl,by decide +kernel,by decide +kernel⟩
theorem Jk6 (T : Tx K mg a) : FnOk P w K mg base CX0 6 a.Jeg a.Jeh ["_law_stream_here","_law_basins"] (Jrx K a):=by
 have G__law_take:=Jh2 (P:=P) (w:=w) (base:=base) T
 have G_StepGate___init__:=Ji8 (P:=P) (w:=w) (base:=base) T
 have G_Basin___init__:=Jj5 (P:=P) (w:=w) (base:=base) T
 have G_Town___init__:=Jic (P:=P) (w:=w) (base:=base) T
 refine T.Jf.fn.ok sc_law_no_basins (fun vs H Q E h=>?_) (fun cdv A outer s H vs Q E hr h=>?_)
 ·obtain ⟨p,l,R,rfl,_⟩:=h
  rfl
 ·obtain ⟨p,l,R,rfl,st,hl,bl,ok,k⟩:=h
  have bln:=bl.len
  have bn:=ok.n
  have nlp : l ≠ p:=Jg1 st hl Jgx
  refine ⟨?t,?B,?C⟩
  case B =>
   refine' Jfm ?s1 ?r1
   case s1 =>
    exact (Jfy (i:=2) sc_law_no_basins.nd rfl (Or.inl rfl) (Jfq T.Jb G__law_take hr (by decide) (Jfi (pv 0) (Jfi Jfl Jfk))))
   case r1 =>
    refine' Jfm ?s3 ?r3
    case s3 =>
     exact (Jfy (i:=3) sc_law_no_basins.nd rfl (Or.inl rfl) (Jfq T.Jb G__law_take hr (by decide) (Jfi (pv 0) (Jfi (Jg3 Jgw (Jft Jgd (by rfl) T.Ja2 Jhi (Jfi (pv 1) Jfk)) Jfl) Jfk))))
    case r3 =>
     refine' Jfm ?s5 ?r5
     case s5 =>
      exact (Jfy (i:=4) sc_law_no_basins.nd rfl (Or.inl rfl) (Jh6 T.Jbg G_Basin___init__.calm (hr.mono (by decide)) (by rfl) T.Jaj T.Jat.bd .nil Jhm (pa6 Jgb Jfl Jfl Jfl Jfl (Jh6 T.Jbc G_StepGate___init__.calm (hr.mono (by decide)) (by rfl) T.Jai T.Jas.bd .nil Jhm (Jfi (Jg5 (Jfi Jfl Jfk)) Jfk)))))
     case r5 =>
      refine' Jfm ?s7 ?r7
      case s7 =>
       refine' Jg9 ?c8 ?a8 ?b8
       case c8 =>
        exact (Jg4 Jig (pv 2) Jfl (Jga _))
       case a8 =>
        refine' Jfn ?s9
        case s9 =>
         refine' Jfw ?e11_0
         case e11_0 =>
          exact (Jgs (N:=(["_law_k"] : List Str)) (ini:=[none]) rfl (Jhr (by rfl) T.Ja6 (Jfi Jfl Jfk)) (fun _ _ _ _ _=>(Jg6 (i:=0) (by decide +kernel : (["_law_k"] : List Str).Nodup) rfl (Or.inl rfl))) (fun _ _ _ _ _=>Jgt) (fun _ _ _ _ _=>(Jh6 T.Jbg G_Basin___init__.calm (hr.mono (by decide)) (by rfl) T.Jaj T.Jat.bd .nil Jhm (pa6 (Jg3 Jjc Jgb (Jfz Jmh Jgb (pv 0) (fun _ _=>rfl))) Jfl Jfl Jfl Jfl (Jh6 T.Jbc G_StepGate___init__.calm (hr.mono (by decide)) (by rfl) T.Jai T.Jas.bd .nil Jhm (Jfi (Jg5 (Jfi Jfl Jfk)) Jfk))))))
       case b8 =>
        exact Jfv
      case r7 =>
       refine' Jfm ?s14 ?r14
       case s14 =>
        refine' Jg9 ?c15 ?a15 ?b15
        case c15 =>
         exact (Jg4 Jig (pv 2) Jfl (Jga _))
        case a15 =>
         refine' Jfn ?s16
         case s16 =>
          refine' Jfw ?e18_0
          case e18_0 =>
           exact (Jg3 Jhu (Jg3 Jhu (Jgp Jh1 (pv 1) Jgz (Jh0 (pv 3))) (Jg5 (Jfi (Jfz Jfs (Jg5 (pa5 Jhn Jgb Jfl (Jhg (Jfi Jgb (Jfi Jfl (Jfi Jfl Jfk)))) (Jh6 T.Jbp G_Town___init__.calm (hr.mono (by decide)) (by rfl) T.Jak T.Jau.bd .nil Jhm (Jfi Jgb (Jfi Jgb (Jfi Jfl Jfk)))))) (Jfq T.Jb G__law_take hr (by decide) (Jfi (pv 0) (Jfi Jfl Jfk))) (fun _ _=>rfl)) Jfk))) (Jgp Jh1 (pv 1) (Jh0 (pv 3)) Jgz))
        case b15 =>
         exact Jfv
       case r14 =>
        refine' Jfm ?s21 ?r21
        case s21 =>
         refine' Jg9 ?c22 ?a22 ?b22
         case c22 =>
          exact (Jg4 Jig (pv 2) Jfl (Jga _))
         case a22 =>
          refine' Jfn ?s23
          case s23 =>
           refine' Jfw ?e25_0
           case e25_0 =>
            exact (Jg3 Jhu (Jg3 Jhu (Jgp Jh1 (pv 1) Jgz (Jh0 (pv 3))) (Jg5 (Jfi (Jh6 T.Jbg G_Basin___init__.calm (hr.mono (by decide)) (by rfl) T.Jaj T.Jat.bd .nil Jhm (pa6 (Jgl (Jfz Jfs (pv 1) (Jfq T.Jb G__law_take hr (by decide) (Jfi (pv 0) (Jfi (Jft Jgd (by rfl) T.Ja2 Jhi (Jfi (pv 1) Jfk)) Jfk))) (fun _ _=>rfl)) (by rfl)) Jfl Jfl Jfl Jfl (Jgl (pv 4) (by rfl)))) Jfk))) (Jgp Jh1 (pv 1) (Jh0 (pv 3)) Jgz))
         case b22 =>
          exact Jfv
        case r21 =>
         refine' Jfn ?s28
         case s28 =>
          refine' Jfw ?e30_0
          case e30_0 =>
           refine' Jfz ?e31_0 ?e31_1 ?e31_2 ?e31_3
           case e31_0 =>
            exact Jfs
           case e31_1 =>
            refine' Jg5 ?e32_0
            case e32_0 =>
             refine' pa8 ?e33_0 ?e33_1 ?e33_2 ?e33_3 ?e33_4 ?e33_5 ?e33_6 ?e33_7
             case e33_0 =>
              exact (Jg5 Jfk)
             case e33_1 =>
              exact (Jhg Jfk)
             case e33_2 =>
              exact Jhn
             case e33_3 =>
              exact Jfl
             case e33_4 =>
              exact Jgb
             case e33_5 =>
              exact Jjr
             case e33_6 =>
              exact (pv 4)
             case e33_7 =>
              exact Jgv
           case e31_2 =>
            exact (Jfq T.Jb G__law_take hr (by decide) (Jfi (pv 0) (Jfi Jfl Jfk)))
           case e31_3 =>
            exact (fun _ _=>rfl)
  refine ⟨_,rfl,p,6,rfl,st,by decide,by decide,fun wy H1 w0 w1 b1=>?_⟩
  refine ⟨_,rfl,_,rfl,l,_,rfl,.inl (SqL.of (b1.1 _ _ nlp hl)),_,_,rfl,rfl,p,_,rfl,b1.2,by omega,Jj4 (by simp; omega),fun at_ H2 a0 a1 b2=>?_⟩
  refine ⟨(show 1 ≤ sizeLine by decide),fun lm hlm=>?_⟩
  have b12:=b1.trans b2
  have bm:=b12.same (Same.upd (o:=.lst [.int 0]) hlm)
  have glm:=Jfj (H:=H2) (a:=lm) (o:=.lst [.int 0])
  generalize upd H2 lm (.lst [.int 0]) = H3 at *
  intro g dg hg hdg _
  refine Jmi T hg hdg glm ⟨by decide,by decide⟩ fun H4 s4 ig=>⟨rfl,?_⟩
  intro o1 dx1 ho1 hdx1 _
  refine Jjp (B:=⟨ZZ,0,1,0,0,.ref g⟩) ho1 hdx1 zz_nm.1 zz_nm.2 (by decide : (0 : Int) ≤ 0 ∧ (0 : Int) ≤ 1 ∧ (1 : Int) ≤ 12) (by decide : (0 : Int) ≤ 0 ∧ (0 : Int) ≤ 1) (by decide : (0 : Int) ≤ 0 ∧ (0 : Int) ≤ 6) (Jmf T ig) fun H5 s5 ba1=>⟨rfl,?_⟩
  have b5:=bm.same (s4.trans s5)
  obtain ⟨dgx,fgx,hgx⟩:=ig
  have ig5:=s5 _ _ hgx
  have fo1 : H o1 = none:=(bm.same s4).free st ho1
  have nlp5:=b5.1 _ _ nlp hl
  have bl5 : BasL a H5 R.os R.Bs:=bl.imp fun _ _ q=>q.keep (But.ins st b5)
  obtain ⟨n,rfl⟩:=Int.eq_ofNat_of_zero_le a0
  have hn : n ≤ R.os.length:=by
   rw [List.length_map] at a1
   omega
  have ec1 : Jij (R.os.map V.ref) none (some (n : Int)) = (R.os.take n).map V.ref:=by rw [Jmd _ n (by rw [List.length_map]; exact hn),List.map_take]
  have ec2 : Jij (R.os.map V.ref) (some (n : Int)) none = (R.os.drop n).map V.ref:=by rw [Jkv _ n (by rw [List.length_map]; exact hn),List.map_drop]
  have szc : ∀ y : V,((R.os.take n).map V.ref).length + [y].length ≤ sizeLine:=fun y=>Jg2 _ (by simp; omega)
  have szd : ∀ y : V,((R.os.take n).map V.ref ++ [y]).length + ((R.os.drop n).map V.ref).length ≤ sizeLine:=fun y=>Jg2 _ (by simp; omega)
  refine ⟨_,rfl,rfl,_,rfl,Jk2 (fun _=>?_) (fun _=>?_)⟩
  ·refine ⟨_,rfl,by decide,by decide,fun D hD=>?_⟩
   refine Jja (D:=D) (fun i σ H'=>(∃ o,σ = [o]) ∧ (∃ vs : List V,H' D = some (.lst vs) ∧ vs.length = i) ∧ Same H5 H') ⟨⟨_,rfl⟩,⟨[],Jfj,rfl⟩,Same.upd hD⟩ ?_ ?_
   ·rintro i σ H' hi ⟨⟨o,rfl⟩,⟨vs,hDs,hv⟩,sm⟩
    obtain ⟨c,hc,hat⟩:=Jm9 (g:=AQ) (r:=0 + (i : Int)) (by omega) (by
     have : AQ.length = 17:=by decide +kernel
     have h17 : i < 17:=hi
     omega)
    have nmx:=ax_nm hc
    refine Jhw ⟨_,rfl,AQ,_,c,rfl,rfl,Jg2 _ (by decide +kernel),hat,_,_,rfl,rfl,Jg2 _ (by show ("x" : Str).length + 1 ≤ 2000; decide +kernel),?_⟩
    refine ⟨(show 1 ≤ sizeLine by decide),fun lm2 hlm2=>?_⟩
    have t1:=Same.upd (o:=.lst [.int 0]) hlm2
    have glm2:=Jfj (H:=H') (a:=lm2) (o:=.lst [.int 0])
    generalize upd H' lm2 (.lst [.int 0]) = K1 at *
    intro g2 dg2 hg2 hdg2 _
    refine Jmi T hg2 hdg2 glm2 ⟨by decide,by decide⟩ fun K2 t2 ig2=>⟨rfl,?_⟩
    intro o2 dx2 ho2 hdx2 _
    refine Jjp (B:=⟨AX c,0,1,0,0,.ref g2⟩) ho2 hdx2 nmx.1 nmx.2 (by decide : (0 : Int) ≤ 0 ∧ (0 : Int) ≤ 1 ∧ (1 : Int) ≤ 12) (by decide : (0 : Int) ≤ 0 ∧ (0 : Int) ≤ 1) (by decide : (0 : Int) ≤ 0 ∧ (0 : Int) ≤ 6) (Jmf T ig2) fun K3 t3 _=>⟨rfl,?_⟩
    have t13:=(t1.trans t2).trans t3
    refine ⟨vs,t13 _ _ hDs,Jh7 (by have : i < 17:=hi; omega),⟨_,rfl⟩,⟨vs ++ [.ref o2],Jfj,by rw [List.length_append,hv]; rfl⟩,fun b v z=>?_⟩
    rw [Jfp (Jfo z hD)]
    exact t13 _ _ (sm _ _ z)
   ·rintro σ H6 ⟨_,⟨vs,hDs,hv⟩,s6⟩
    have h17 : vs.length = 17:=hv
    exact k _ _ (b5.same s6) (.len (.inl hDs) (by omega)) ⟨.inr ⟨_,rfl⟩,_,_,.of (.lst hDs),rfl⟩ (fun b e=>by cases e; exact b5.free st hD)
  refine ⟨_,rfl,rfl,_,rfl,Jk2 (fun _=>?_) (fun _=>?_)⟩
  ·refine ⟨_,rfl,_,rfl,_,rfl,l,_,rfl,SqL.of nlp5,fun q1 hq1=>?_⟩
   rw [ec1]
   have t1:=Same.upd (o:=.lst ((R.os.take n).map V.ref)) hq1
   have g1:=Jfj (H:=H5) (a:=q1) (o:=.lst ((R.os.take n).map V.ref))
   generalize upd H5 q1 (.lst ((R.os.take n).map V.ref)) = K1 at *
   refine ⟨(show 3 ≤ sizeLine by decide),fun tp htp=>?_⟩
   have t2:=Same.upd (o:=.tup [.str "zz",.int 0,.int 1]) htp
   have g2:=Jfj (H:=K1) (a:=tp) (o:=.tup [.str "zz",.int 0,.int 1])
   generalize upd K1 tp (.tup [.str "zz",.int 0,.int 1]) = K2 at *
   intro o2 dx2 ho2 hdx2 _
   refine Jjq (B:=⟨ZZ,ZZ,1⟩) ho2 hdx2 zz_nm.1 zz_nm.2 zz_nm.1 zz_nm.2 (by decide : (1 : Int) ≤ 1 ∧ (1 : Int) ≤ 6) fun K3 t3 ta=>⟨rfl,?_⟩
   refine ⟨(show 5 ≤ sizeLine by decide),fun L hL=>?_⟩
   have t4:=Same.upd (o:=.lst [.non,.str "zz",.int 3,.ref tp,.ref o2]) hL
   have g4:=Jfj (H:=K3) (a:=L) (o:=.lst [.non,.str "zz",.int 3,.ref tp,.ref o2])
   generalize upd K3 L (.lst [.non,.str "zz",.int 3,.ref tp,.ref o2]) = K4 at *
   have t14:=((t1.trans t2).trans t3).trans t4
   have b4:=b5.same t14
   refine ⟨_,rfl,p,5,rfl,b4.2,by decide,by decide,fun r K5 r0 r1 d5=>?_⟩
   obtain ⟨y,my,ay⟩:=Jik (xs:=[.non,.str "zz",.int 3,.ref tp,.ref o2]) r0 r1
   have kp:=fun {c : Addr} {o : HO} (h : ∀ x y z : Int,o ≠ .lst [.int x,.int y,.int z]) (e : K4 c = some o)=>d5.1 _ _ (Jg1 b4.2 e h) e
   refine ⟨L,_,_,y,rfl,rfl,SqL.of (kp (fun _ _ _ z=>by cases z) g4),ay,(show 1 ≤ sizeLine by decide),fun q2 hq2=>?_⟩
   have hy : IsK K K5 a.Jff y false:=by
    simp only [List.mem_cons,List.not_mem_nil,or_false] at my
    rcases my with rfl | rfl | rfl | rfl | rfl
    ·exact ⟨_,.of .non,T.Jc2⟩
    ·exact ⟨_,.of (.str _),T.Jc4⟩
    ·exact ⟨_,.of (.int _),T.Jc3⟩
    ·exact ⟨_,.of (.tup (kp (fun _ _ _ z=>by cases z) (t4 _ _ (t3 _ _ g2)))),T.Jc5⟩
    ·obtain ⟨dt,ht⟩:=ta
     exact ⟨_,.of (T.Jbo.ty T.Jbn (kp (fun _ _ _ z=>by cases z) (t4 _ _ ht))),T.Jcc⟩
   have t6:=Same.upd (o:=.lst [y]) hq2
   have g6:=Jfj (H:=K5) (a:=q2) (o:=.lst [y])
   generalize upd K5 q2 (.lst [y]) = K6 at *
   have g16:=t6 _ _ (kp Jgx (t4 _ _ (t3 _ _ (t2 _ _ g1))))
   refine ⟨q1,q2,_,_,rfl,rfl,g16,g6,szc y,fun q3 hq3=>?_⟩
   have t7:=Same.upd (o:=.lst ((R.os.take n).map V.ref ++ [y])) hq3
   have g7:=Jfj (H:=K6) (a:=q3) (o:=.lst ((R.os.take n).map V.ref ++ [y]))
   generalize upd K6 q3 (.lst ((R.os.take n).map V.ref ++ [y])) = K7 at *
   have b7:=(b4.trans d5).same (t6.trans t7)
   refine ⟨_,rfl,_,rfl,_,rfl,l,_,rfl,SqL.of (b7.1 _ _ nlp hl),fun q4 hq4=>?_⟩
   rw [ec2]
   have t8:=Same.upd (o:=.lst ((R.os.drop n).map V.ref)) hq4
   have g8:=Jfj (H:=K7) (a:=q4) (o:=.lst ((R.os.drop n).map V.ref))
   generalize upd K7 q4 (.lst ((R.os.drop n).map V.ref)) = K8 at *
   refine ⟨q3,q4,_,_,rfl,rfl,t8 _ _ g7,g8,szd y,fun q5 hq5=>?_⟩
   have t9:=Same.upd (o:=.lst ((R.os.take n).map V.ref ++ [y] ++ (R.os.drop n).map V.ref)) hq5
   have b9:=b7.same (t8.trans t9)
   refine k _ _ b9 (Jr6 T Jfj (bl.imp fun _ _ q=>q.keep (But.ins st b9)) (hy.same (((t6.trans t7).trans t8).trans t9))) ⟨.inr ⟨_,rfl⟩,_,_,.of (.lst Jfj),rfl⟩ (fun b e=>by cases e; exact (b7.same t8).free st hq5)
  refine ⟨_,rfl,rfl,_,rfl,Jk2 (fun _=>?_) (fun _=>?_)⟩
  ·refine ⟨_,rfl,_,rfl,_,rfl,l,_,rfl,SqL.of nlp5,fun q1 hq1=>?_⟩
   rw [ec1]
   have t1:=Same.upd (o:=.lst ((R.os.take n).map V.ref)) hq1
   have g1:=Jfj (H:=H5) (a:=q1) (o:=.lst ((R.os.take n).map V.ref))
   generalize upd H5 q1 (.lst ((R.os.take n).map V.ref)) = K1 at *
   have b1':=b5.same t1
   refine ⟨_,rfl,_,rfl,_,rfl,l,_,rfl,.inl (SqL.of (b1'.1 _ _ nlp hl)),p,_,rfl,b1'.2,by simp; omega,Jj4 (by simp; omega),fun r K5 r0 r1 d5=>?_⟩
   have kp:=fun {c : Addr} {o : HO} (h : ∀ x y z : Int,o ≠ .lst [.int x,.int y,.int z]) (e : K1 c = some o)=>d5.1 _ _ (Jg1 b1'.2 e h) e
   have b15:=b1'.trans d5
   obtain ⟨n8,rfl⟩:=Int.eq_ofNat_of_zero_le r0
   have h8 : n8 < (R.os.map V.ref).length:=by omega
   have bl8 : BasL a K5 R.os R.Bs:=bl.imp fun _ _ q=>q.keep (But.ins st b15)
   obtain ⟨o8', B8,e8,_,hB8,dx8,hb8⟩:=RowL.get bl8 (List.getElem?_eq_getElem h8)
   have mB8:=List.mem_of_getElem? hB8
   have nB8:=ok.nm B8 mB8
   refine ⟨l,_,_,_,rfl,rfl,SqL.of (b15.1 _ _ nlp hl),Jhb (by rw [List.getElem?_eq_getElem h8,e8]),o8', _,dx8,_,_,rfl,hb8,T.Jbe,T.Jbh,rfl,?_⟩
   obtain ⟨dx1', hb1⟩:=ba1
   have hb1':=kp (fun _ _ _ z=>by cases z) (t1 _ _ hb1)
   refine ⟨_,rfl,o1,_,dx1', _,_,rfl,hb1', T.Jbe,T.Jbm,rfl,?_⟩
   have igK : IsK K K5 a.Jfd (.ref g) true:=by
    exact Jmf T ⟨_,_,kp (fun _ _ _ z=>by cases z) (t1 _ _ ig5)⟩
   intro o2 dx2 ho2 hdx2 _
   refine Jjp (B:=⟨B8.z,0,3,1,1,.ref g⟩) ho2 hdx2 nB8.1 nB8.2 (by decide : (0 : Int) ≤ 0 ∧ (0 : Int) ≤ 3 ∧ (3 : Int) ≤ 12) (by decide : (0 : Int) ≤ 1 ∧ (1 : Int) ≤ 3) (by decide : (0 : Int) ≤ 1 ∧ (1 : Int) ≤ 6) igK fun K5b s5b ba=>⟨rfl,?_⟩
   refine ⟨(show 1 ≤ sizeLine by decide),fun q2 hq2=>?_⟩
   have t6:=Same.upd (o:=.lst [.ref o2]) hq2
   have g6:=Jfj (H:=K5b) (a:=q2) (o:=.lst [.ref o2])
   generalize upd K5b q2 (.lst [.ref o2]) = K6 at *
   have g16:=t6 _ _ (s5b _ _ (kp Jgx g1))
   refine ⟨q1,q2,_,_,rfl,rfl,g16,g6,szc _,fun q3 hq3=>?_⟩
   have t7:=Same.upd (o:=.lst ((R.os.take n).map V.ref ++ [.ref o2])) hq3
   have g7:=Jfj (H:=K6) (a:=q3) (o:=.lst ((R.os.take n).map V.ref ++ [.ref o2]))
   generalize upd K6 q3 (.lst ((R.os.take n).map V.ref ++ [.ref o2])) = K7 at *
   have b7:=b15.same ((s5b.trans t6).trans t7)
   refine ⟨_,rfl,_,rfl,_,rfl,l,_,rfl,SqL.of (b7.1 _ _ nlp hl),fun q4 hq4=>?_⟩
   rw [ec2]
   have t8:=Same.upd (o:=.lst ((R.os.drop n).map V.ref)) hq4
   have g8:=Jfj (H:=K7) (a:=q4) (o:=.lst ((R.os.drop n).map V.ref))
   generalize upd K7 q4 (.lst ((R.os.drop n).map V.ref)) = K8 at *
   refine ⟨q3,q4,_,_,rfl,rfl,t8 _ _ g7,g8,szd _,fun q5 hq5=>?_⟩
   have t9:=Same.upd (o:=.lst ((R.os.take n).map V.ref ++ [.ref o2] ++ (R.os.drop n).map V.ref)) hq5
   have b9:=b7.same (t8.trans t9)
   refine k _ _ b9 (Jr5 Jfj (bl.imp fun _ _ q=>q.keep (But.ins st b9)) (ba.same (((t6.trans t7).trans t8).trans t9)) (show B8.z ∈ R.Bs.map (·.z) from List.mem_map_of_mem (f:=fun B : Bsn=>B.z) mB8)) ⟨.inr ⟨_,rfl⟩,_,_,.of (.lst Jfj),rfl⟩ (fun b e=>by cases e; exact (b7.same t8).free st hq5)
  ·refine ⟨Jg2 _ (by show 0 ≤ 2000; decide),fun l0 hl0=>?_⟩
   have t1:=Same.upd (o:=.lst []) hl0
   have g1:=Jfj (H:=H5) (a:=l0) (o:=.lst [])
   generalize upd H5 l0 (.lst []) = K1 at *
   refine ⟨(show 0 ≤ sizeLine by decide),fun tp htp=>?_⟩
   have t2:=Same.upd (o:=.tup []) htp
   have g2:=Jfj (H:=K1) (a:=tp) (o:=.tup [])
   generalize upd K1 tp (.tup []) = K2 at *
   refine fun d hd=>?_
   have t3:=Same.upd (o:=.dK []) hd
   have g3:=Jfj (H:=K2) (a:=d) (o:=.dK [])
   generalize upd K2 d (.dK []) = K3 at *
   refine ⟨_,rfl,(show 8 ≤ sizeLine by decide),fun L hL=>?_⟩
   have t4:=Same.upd (o:=.lst [.ref l0,.ref tp,.non,.int 5,.str "zz",.ref d,.ref o1,.bl true]) hL
   have g4:=Jfj (H:=K3) (a:=L) (o:=.lst [.ref l0,.ref tp,.non,.int 5,.str "zz",.ref d,.ref o1,.bl true])
   generalize upd K3 L (.lst [.ref l0,.ref tp,.non,.int 5,.str "zz",.ref d,.ref o1,.bl true]) = K4 at *
   have t12:=t1.trans t2
   have t14:=(t12.trans t3).trans t4
   have b4:=b5.same t14
   refine ⟨_,rfl,p,8,rfl,b4.2,by decide,by decide,fun r K5 r0 r1 d5=>?_⟩
   obtain ⟨y,my,ay⟩:=Jik (xs:=[.ref l0,.ref tp,.non,.int 5,.str "zz",.ref d,.ref o1,.bl true]) r0 r1
   have kp:=fun {c : Addr} {o : HO} (h : ∀ x y z : Int,o ≠ .lst [.int x,.int y,.int z]) (e : K4 c = some o)=>d5.1 _ _ (Jg1 b4.2 e h) e
   refine ⟨L,_,_,y,rfl,rfl,SqL.of (kp (fun _ _ _ z=>by cases z) g4),ay,?_⟩
   have bb:=b4.trans d5
   have nf : ∀ {x : V},Jhf x = true → ∀ b,x = .ref b → H b = none:=fun f b e=>by rw [e] at f; cases f
   have k1:=kp (fun _ _ _ z=>by cases z) (t4 _ _ (t3 _ _ (t2 _ _ g1)))
   have k2:=kp (fun _ _ _ z=>by cases z) (t4 _ _ (t3 _ _ g2))
   have k3:=kp (fun _ _ _ z=>by cases z) (t4 _ _ g3)
   simp only [List.mem_cons,List.not_mem_nil,or_false] at my
   rcases my with rfl | rfl | rfl | rfl | rfl | rfl | rfl | rfl
   ·exact k _ _ bb (.len (.inl k1) (by simp)) ⟨.inr ⟨_,rfl⟩,_,_,.of (.lst k1),rfl⟩ (fun b e=>by cases e; exact b5.free st hl0)
   ·exact k _ _ bb (.len (.inr k2) (by simp)) ⟨.inr ⟨_,rfl⟩,_,_,.of (.tup k2),rfl⟩ (fun b e=>by cases e; exact (b5.same t1).free st htp)
   ·exact k _ _ bb (.non (.of .non) rfl) ⟨.inl rfl,_,_,.of .non,rfl⟩ (nf rfl)
   ·exact k _ _ bb (.non (.of (.int _)) rfl) ⟨.inl rfl,_,_,.of (.int _),rfl⟩ (nf rfl)
   ·exact k _ _ bb (.non (.of (.str _)) rfl) ⟨.inl rfl,_,_,.of (.str _),rfl⟩ (nf rfl)
   ·exact k _ _ bb (.non (.of (.dK k3)) rfl) ⟨.inr ⟨_,rfl⟩,_,_,.of (.dK k3),rfl⟩ (fun b e=>by cases e; exact (b5.same t12).free st hd)
   ·obtain ⟨dx1', hb1⟩:=ba1
    have ty:=TyX.of (T.Jbf.ty T.Jbe (kp (fun _ _ _ z=>by cases z) (t14 _ _ hb1)))
    exact k _ _ bb (.non ty T.Jce) ⟨.inr ⟨_,rfl⟩,_,_,ty,T.Jcf⟩ (fun b e=>by cases e; exact fo1)
   ·exact k _ _ bb (.non (.of (.bl _)) rfl) ⟨.inl rfl,_,_,.of (.bl _),rfl⟩ (nf rfl)
end
section
variable {P : Program} {w : World} {K : W.Frag} {mg : Str → Option Value} {base : Heap} {a : Ad}
theorem twn_odd (T : Tx K mg a) {H : Hp} {q : Addr} {os : List Addr} {Bs : List Twn} {n : Nat} {y : V} {zs : List Str} (hq : H q = some (.lst ((os.take n).map V.ref ++ [y] ++ (os.drop n).map V.ref))) (bl : TwnL a H os Bs) (hy : IsK K H a.Jfg y false) : TwnIs K a H zs (.ref q) false:=by
 by_cases hl : ((os.take n).map V.ref ++ [y] ++ (os.drop n).map V.ref).length ≤ 3
 ·have ks:=((Jis (fun _ _ h=>twn_isK T h) (bl.take n)).app (IsKs.one hy)).app (Jis (fun _ _ h=>twn_isK T h) (bl.drop n))
  exact .odd (.inl hq) hl ks.1 ks.2 (Jo5 _ _)
 ·exact .len (.inl hq) (by omega)
theorem twn_row {H : Hp} {q : Addr} {os : List Addr} {Bs : List Twn} {zs : List Str} (hq : H q = some (.lst (os.map V.ref))) (bl : TwnL a H os Bs) (h : ¬ (Bs.map (·.z)).Nodup ∨ ∃ t ∈ Bs,t.b ∉ zs) : TwnIs K a H zs (.ref q) false:=by
 by_cases hl : Bs.length ≤ 3
 ·have:=TwnIs.row (K:=K) (zs:=zs) (.inl hq) hl bl
  rcases h with h | ⟨t,ht,hz⟩
  ·rwa [Jqy h,Bool.false_and] at this
  ·rwa [show (Bs.all fun t=>decide (t.b ∈ zs)) = false from by
    rw [List.all_eq_false]
    exact ⟨t,ht,by simpa using hz⟩,Bool.and_false] at this
 ·exact .len (.inl hq) (by rw [List.length_map,bl.len]; omega)
theorem twn_dup {H : Hp} {q o : Addr} {os : List Addr} {Bs : List Twn} {n : Nat} {B : Twn} {zs : List Str} (hq : H q = some (.lst ((os.take n).map V.ref ++ [.ref o] ++ (os.drop n).map V.ref))) (bl : TwnL a H os Bs) (hb : TwnAt a H o B) (hz : B.z ∈ Bs.map (·.z)) : TwnIs K a H zs (.ref q) false:=by
 have row : TwnL a H (os.take n ++ [o] ++ os.drop n) (Bs.take n ++ [B] ++ Bs.drop n):=((bl.take n).app (show TwnL a H [o] [B] from ⟨hb,True.intro⟩)).app (bl.drop n)
 refine twn_row (by rw [hq]; simp) row (.inl fun nd=>?_)
 rw [List.map_append,List.map_append,List.append_assoc,List.nodup_append] at nd
 obtain ⟨n1,n2,n3⟩:=nd
 rw [← List.take_append_drop n Bs,List.map_append,List.mem_append] at hz
 rcases hz with hz | hz
 ·exact n3 _ hz _ (by simp) rfl
 ·rw [List.map_singleton,List.singleton_append,List.nodup_cons] at n2
  exact n2.1 hz
theorem Jr8 (xs : List V) (k : Nat) : Jij xs none (some (k : Int)) = xs.take (min k xs.length):=by
 unfold Jij
 rw [HT.sIx_none,HT.sIx_nat]
 rfl
def Jrz (K : W.Frag) (a : Ad) : Sp:=fun vs H Q _=>∃ (p l m : Addr) (R : Rgd),vs = [.ref p,.ref l,.ref m] ∧ Strm H p ∧ H l = some (.lst (R.os.map V.ref)) ∧ BasL a H R.os R.Bs ∧ H m = some (.lst (R.ts.map V.ref)) ∧ TwnL a H R.ts R.Ts ∧ Jmu R ∧
 ∀ (x : V) (H' : Hp),But p H H' → TwnIs K a H' (R.Bs.map (·.z)) x false → Thg K H' x → (∀ b,x = .ref b → H b = none ∨ ∃ C dx fs,H b = some (.ins C dx fs)) → Q x H'
def TT : Str := "t"
def AD : Str := "abcd"
def TX (c : Nat) : Str:=("t" : Str) ++ (⟨#[c]⟩ : Str)
theorem tt_nm : Jgk TT = true ∧ Wd 50 TT:=⟨by decide +kernel,Jka (by decide +kernel)⟩
theorem tx_nm {c : Nat} (h : c ∈ AD.cps.toList) : Jgk (TX c) = true ∧ Wd 50 (TX c):=by
 have h1 : AD.cps.toList.all (fun c=>Jgk (TX c) && (decide ((TX c).length ≤ 50) && (TX c).cps.toList.all fun c=>decide (c < 128))) = true:=by decide +kernel
 have:=List.all_eq_true.mp h1 c h
 rw [Bool.and_eq_true] at this
 exact ⟨this.1,Jka this.2⟩
theorem sc_law_no_towns : Jfx ["_law_stream_here","_law_basins","_law_towns","_law_way","_law_at","_law_name"] ["_law_stream_here","_law_basins","_law_towns"] (Jfr (top 46)):=⟨rfl,rfl,rfl,by decide +kernel,rfl,by decide +kernel,by decide +kernel⟩
theorem Jkn (T : Tx K mg a) : FnOk P w K mg base CX0 6 a.Jek a.Jel ["_law_stream_here","_law_basins","_law_towns"] (Jrz K a):=by
 have G__law_take:=Jh2 (P:=P) (w:=w) (base:=base) T
 have G__law_strange:=Jip (P:=P) (w:=w) (base:=base) T
 have G_Town___init__:=Jic (P:=P) (w:=w) (base:=base) T
 refine T.Jh.fn.ok sc_law_no_towns (fun vs H Q E h=>?_) (fun cdv A outer s H vs Q E hr h=>?_)
 ·obtain ⟨p,l,m,R,rfl,_⟩:=h
  rfl
 ·obtain ⟨p,l,m,R,rfl,st,hl,bl,hm,tl,ok,k⟩:=h
  have hu64:=Jjo hr
  refine ⟨?t,?B,?C⟩
  case B =>
   refine' Jfm ?s1 ?r1
   case s1 =>
    exact (Jfy (i:=3) sc_law_no_towns.nd rfl (Or.inl rfl) (Jfq T.Jb G__law_take hr (by decide) (Jfi (pv 0) (Jfi Jfl Jfk))))
   case r1 =>
    refine' Jfm ?s3 ?r3
    case s3 =>
     exact (Jfy (i:=4) sc_law_no_towns.nd rfl (Or.inl rfl) (Jfq T.Jb G__law_take hr (by decide) (Jfi (pv 0) (Jfi (Jg3 Jgw (Jft Jgd (by rfl) T.Ja2 Jhi (Jfi (pv 2) Jfk)) Jfl) Jfk))))
    case r3 =>
     refine' Jfm ?s5 ?r5
     case s5 =>
      exact (Jfy (i:=5) sc_law_no_towns.nd rfl (Or.inr rfl) (Jgl (Jfz Jfs (pv 1) (Jfq T.Jb G__law_take hr (by decide) (Jfi (pv 0) (Jfi (Jft Jgd (by rfl) T.Ja2 Jhi (Jfi (pv 1) Jfk)) Jfk))) (fun _ _=>rfl)) (by rfl)))
     case r5 =>
      refine' Jfm ?s7 ?r7
      case s7 =>
       refine' Jg9 ?c8 ?a8 ?b8
       case c8 =>
        exact (Jg4 Jig (pv 3) Jfl (Jga _))
       case a8 =>
        refine' Jfn ?s9
        case s9 =>
         exact (Jfw (Jgs (N:=(["_law_k","_law_name"] : List Str)) (ini:=[none,some 5]) rfl (Jhr (by rfl) T.Ja6 (Jfi Jfl Jfk)) (fun _ _ _ _ _=>(Jg6 (i:=0) (by decide +kernel : (["_law_k","_law_name"] : List Str).Nodup) rfl (Or.inl rfl))) (fun _ _ _ _ _=>Jgt) (fun _ _ _ _ _=>(Jh6 T.Jbp G_Town___init__.calm (hr.mono (by decide)) (by rfl) T.Jak T.Jau.bd .nil Jhm (Jfi (Jg3 Jjc Jgb (Jfz Jmh Jgb (pv 0) (fun _ _=>rfl))) (Jfi (pv 1) (Jfi Jfl Jfk)))))))
       case b8 =>
        exact Jfv
      case r7 =>
       refine' Jfm ?s13 ?r13
       case s13 =>
        refine' Jg9 ?c14 ?a14 ?b14
        case c14 =>
         exact (Jg4 Jig (pv 3) Jfl (Jga _))
        case a14 =>
         refine' Jfn ?s15
         case s15 =>
          refine' Jfw ?e17_0
          case e17_0 =>
           exact (Jg3 Jhu (Jg3 Jhu (Jgp Jh1 (pv 2) Jgz (Jh0 (pv 4))) (Jg5 (Jfi (Jfz Jfs (Jg5 (pa5 Jhn Jgb Jfl (Jhg (Jfi Jgb (Jfi (pv 5) (Jfi Jfl Jfk)))) (Jfz Jfs (pv 1) Jfl (fun _ _=>rfl)))) (Jfq T.Jb G__law_take hr (by decide) (Jfi (pv 0) (Jfi Jfl Jfk))) (fun _ _=>rfl)) Jfk))) (Jgp Jh1 (pv 2) (Jh0 (pv 4)) Jgz))
        case b14 =>
         exact Jfv
       case r13 =>
        refine' Jfm ?s20 ?r20
        case s20 =>
         refine' Jg9 ?c21 ?a21 ?b21
         case c21 =>
          exact (Jqi (Jg4 Jig (pv 3) Jfl (Jga _)) (Jok (Jg4 (Jq8 hu64) (pv 2) (Jg5 Jfk) (Jga _)))).pt
         case a21 =>
          refine' Jfn ?s22
          case s22 =>
           exact (Jfw (Jg3 Jhu (Jg3 Jhu (Jgp Jh1 (pv 2) Jgz (Jh0 (pv 4))) (Jg5 (Jfi (Jh6 T.Jbp G_Town___init__.calm (hr.mono (by decide)) (by rfl) T.Jak T.Jau.bd .nil Jhm (Jfi (Jgl (Jfz Jfs (pv 2) (Jfq T.Jb G__law_take hr (by decide) (Jfi (pv 0) (Jfi (Jft Jgd (by rfl) T.Ja2 Jhi (Jfi (pv 2) Jfk)) Jfk))) (fun _ _=>rfl)) (by rfl)) (Jfi (pv 5) (Jfi Jfl Jfk)))) Jfk))) (Jgp Jh1 (pv 2) (Jh0 (pv 4)) Jgz)))
         case b21 =>
          exact Jfv
        case r20 =>
         refine' Jfm ?s26 ?r26
         case s26 =>
          refine' Jg9 ?c27 ?a27 ?b27
          case c27 =>
           exact (Jg4 Jig (pv 3) Jfl (Jga _))
          case a27 =>
           refine' Jfn ?s28
           case s28 =>
            exact (Jfw (Jg3 Jhu (Jgp Jh1 (Jgp Jh1 (pv 2) Jgz (Jh0 (pv 4))) Jgz (Jh0 Jfl)) (Jg5 (Jfi (Jh6 T.Jbp G_Town___init__.calm (hr.mono (by decide)) (by rfl) T.Jak T.Jau.bd .nil Jhm (Jfi Jgb (Jfi (Jfq T.Jg G__law_strange hr (by decide) (Jfi (pv 1) Jfk)) (Jfi Jfl Jfk)))) Jfk))))
          case b27 =>
           exact Jfv
         case r26 =>
          refine' Jfn ?s32
          case s32 =>
           refine' Jfw ?e34_0
           case e34_0 =>
            refine' Jfz ?e35_0 ?e35_1 ?e35_2 ?e35_3
            case e35_0 =>
             exact Jfs
            case e35_1 =>
             refine' Jg5 ?e36_0
             case e36_0 =>
              refine' pa6 ?e37_0 ?e37_1 ?e37_2 ?e37_3 ?e37_4 ?e37_5
              case e37_0 =>
               exact Jhn
              case e37_1 =>
               exact Jfl
              case e37_2 =>
               exact Jgb
              case e37_3 =>
               exact Jjr
              case e37_4 =>
               exact (Jfz Jfs (pv 1) Jfl (fun _ _=>rfl))
              case e37_5 =>
               exact Jgv
            case e35_2 =>
             exact (Jfq T.Jb G__law_take hr (by decide) (Jfi (pv 0) (Jfi Jfl Jfk)))
            case e35_3 =>
             exact (fun _ _=>rfl)
  have bln:=bl.len
  have tln:=tl.len
  have bn:=ok.n
  have tn3:=ok.tn
  have nlp : l ≠ p:=Jg1 st hl Jgx
  have nmp : m ≠ p:=Jg1 st hm Jgx
  refine ⟨_,rfl,p,6,rfl,st,by decide,by decide,fun wy H1 w0 w1 b1=>?_⟩
  refine ⟨_,rfl,_,rfl,m,_,rfl,.inl (SqL.of (b1.1 _ _ nmp hm)),_,_,rfl,rfl,p,_,rfl,b1.2,by omega,Jj4 (by simp; omega),fun at_ H2 a0 a1 b2=>?_⟩
  have b12:=b1.trans b2
  refine ⟨_,rfl,_,rfl,_,rfl,l,_,rfl,.inl (SqL.of (b12.1 _ _ nlp hl)),p,_,rfl,b12.2,by simp; omega,Jj4 (by simp; omega),fun r H3 r0 r1 b3=>?_⟩
  have b5:=b12.trans b3
  obtain ⟨n8,rfl⟩:=Int.eq_ofNat_of_zero_le r0
  have h8 : n8 < (R.os.map V.ref).length:=by omega
  have bl3 : BasL a H3 R.os R.Bs:=bl.imp fun _ _ q=>q.keep (But.ins st b5)
  have tl3 : TwnL a H3 R.ts R.Ts:=tl.imp fun _ _ q=>q.keep (But.ins st b5)
  obtain ⟨o8', B8,e8,_,hB8,dx8,hb8⟩:=RowL.get bl3 (List.getElem?_eq_getElem h8)
  have mB8:=List.mem_of_getElem? hB8
  have nB8:=ok.nm B8 mB8
  have hl3:=b5.1 _ _ nlp hl
  have hm3:=b5.1 _ _ nmp hm
  refine ⟨l,_,_,_,rfl,rfl,SqL.of hl3,Jhb (by rw [List.getElem?_eq_getElem h8,e8]),o8', _,dx8,_,_,rfl,hb8,T.Jbe,T.Jbh,rfl,?_⟩
  obtain ⟨n,rfl⟩:=Int.eq_ofNat_of_zero_le a0
  have hn : n ≤ R.ts.length:=by
   rw [List.length_map] at a1
   omega
  have ec1 : Jij (R.ts.map V.ref) none (some (n : Int)) = (R.ts.take n).map V.ref:=by rw [Jmd _ n (by rw [List.length_map]; exact hn),List.map_take]
  have ec2 : Jij (R.ts.map V.ref) (some (n : Int)) none = (R.ts.drop n).map V.ref:=by rw [Jkv _ n (by rw [List.length_map]; exact hn),List.map_drop]
  have szc : ∀ y : V,((R.ts.take n).map V.ref).length + [y].length ≤ sizeLine:=fun y=>Jg2 _ (by simp; omega)
  have szd : ∀ y : V,((R.ts.take n).map V.ref ++ [y]).length + ((R.ts.drop n).map V.ref).length ≤ sizeLine:=fun y=>Jg2 _ (by simp; omega)
  obtain ⟨ob,oB,eos⟩ : ∃ ob oB,R.os = ob :: oB:=by
   cases e : R.os with
   | nil=>rw [e] at bln; simp at bln; omega
   | cons x r=>exact ⟨x,r,rfl⟩
  obtain ⟨B0,db,hb0⟩ : ∃ (B0 : Bsn) (db : Addr),H3 ob = some (.ins a.Jff db (basF (.str B0.z) (.int B0.lo) (.int B0.hi) (.int B0.st) (.int B0.rn) B0.g)):=by
   obtain ⟨o,B,e,_,_,dx,hb⟩:=RowL.get bl3 (i:=0) (v:=.ref ob) (by rw [eos]; rfl)
   cases e
   exact ⟨B,dx,hb⟩
  have at0 : atI (R.os.map V.ref) 0 = some (.ref ob):=by rw [eos]; exact (show atI _ ((0 : Nat) : Int) = some (V.ref ob) from Jhb rfl)
  refine ⟨_,rfl,rfl,_,rfl,Jk2 (fun _=>?_) (fun _=>?_)⟩
  ·refine ⟨_,rfl,by decide,by decide,fun D hD=>?_⟩
   refine Jja (D:=D) (fun i σ H'=>(∃ o,σ = [o,some (.str B8.z)]) ∧ (∃ vs : List V,H' D = some (.lst vs) ∧ vs.length = i) ∧ Same H3 H') ⟨⟨_,rfl⟩,⟨[],Jfj,rfl⟩,Same.upd hD⟩ ?_ ?_
   ·rintro i σ H' hi ⟨⟨o,rfl⟩,⟨vs,hDs,hv⟩,sm⟩
    obtain ⟨c,hc,hat⟩:=Jm9 (g:=AD) (r:=0 + (i : Int)) (by omega) (by
     have : AD.length = 4:=by decide +kernel
     have h17 : i < 4:=hi
     omega)
    have nmx:=tx_nm hc
    refine Jhw ⟨_,rfl,AD,_,c,rfl,rfl,Jg2 _ (by decide +kernel),hat,_,_,rfl,rfl,Jg2 _ (by show ("t" : Str).length + 1 ≤ 2000; decide +kernel),_,rfl,?_⟩
    intro o2 dx2 ho2 hdx2 _
    refine Jjq (B:=⟨TX c,B8.z,1⟩) ho2 hdx2 nmx.1 nmx.2 nB8.1 nB8.2 (by decide : (1 : Int) ≤ 1 ∧ (1 : Int) ≤ 6) fun K3 t3 _=>⟨rfl,?_⟩
    refine ⟨vs,t3 _ _ hDs,Jh7 (by have : i < 4:=hi; omega),⟨_,rfl⟩,⟨vs ++ [.ref o2],Jfj,by rw [List.length_append,hv]; rfl⟩,fun b v z=>?_⟩
    rw [Jfp (Jfo z hD)]
    exact t3 _ _ (sm _ _ z)
   ·rintro σ H6 ⟨_,⟨vs,hDs,hv⟩,s6⟩
    have h4 : vs.length = 4:=hv
    exact k _ _ (b5.same s6) (.len (.inl hDs) (by omega)) ⟨.inr ⟨_,rfl⟩,_,_,.of (.lst hDs),rfl⟩ (fun b e=>by cases e; exact .inl (b5.free st hD))
  refine ⟨_,rfl,rfl,_,rfl,Jk2 (fun _=>?_) (fun _=>?_)⟩
  ·refine ⟨_,rfl,_,rfl,_,rfl,m,_,rfl,SqL.of hm3,fun q1 hq1=>?_⟩
   rw [ec1]
   have t1:=Same.upd (o:=.lst ((R.ts.take n).map V.ref)) hq1
   have g1:=Jfj (H:=H3) (a:=q1) (o:=.lst ((R.ts.take n).map V.ref))
   generalize upd H3 q1 (.lst ((R.ts.take n).map V.ref)) = K1 at *
   refine ⟨_,rfl,(show 3 ≤ sizeLine by decide),fun tp htp=>?_⟩
   have t2:=Same.upd (o:=.tup [.str "t",.str B8.z,.int 1]) htp
   have g2:=Jfj (H:=K1) (a:=tp) (o:=.tup [.str "t",.str B8.z,.int 1])
   generalize upd K1 tp (.tup [.str "t",.str B8.z,.int 1]) = K2 at *
   have t12:=t1.trans t2
   refine ⟨_,rfl,l,_,0,_,rfl,rfl,SqL.of (t12 _ _ hl3),at0,(show 5 ≤ sizeLine by decide),fun L hL=>?_⟩
   have t4:=Same.upd (o:=.lst [.non,.str "t",.int 3,.ref tp,.ref ob]) hL
   have g4:=Jfj (H:=K2) (a:=L) (o:=.lst [.non,.str "t",.int 3,.ref tp,.ref ob])
   generalize upd K2 L (.lst [.non,.str "t",.int 3,.ref tp,.ref ob]) = K4 at *
   have t14:=t12.trans t4
   have b4:=b5.same t14
   refine ⟨_,rfl,p,5,rfl,b4.2,by decide,by decide,fun r K5 r0 r1 d5=>?_⟩
   obtain ⟨y,my,ay⟩:=Jik (xs:=[.non,.str "t",.int 3,.ref tp,.ref ob]) r0 r1
   have kp:=fun {c : Addr} {o : HO} (h : ∀ x y z : Int,o ≠ .lst [.int x,.int y,.int z]) (e : K4 c = some o)=>d5.1 _ _ (Jg1 b4.2 e h) e
   refine ⟨L,_,_,y,rfl,rfl,SqL.of (kp (fun _ _ _ z=>by cases z) g4),ay,(show 1 ≤ sizeLine by decide),fun q2 hq2=>?_⟩
   have hy : IsK K K5 a.Jfg y false:=by
    simp only [List.mem_cons,List.not_mem_nil,or_false] at my
    rcases my with rfl | rfl | rfl | rfl | rfl
    ·exact ⟨_,.of .non,T.Jc6⟩
    ·exact ⟨_,.of (.str _),T.Jc8⟩
    ·exact ⟨_,.of (.int _),T.Jc7⟩
    ·exact ⟨_,.of (.tup (kp (fun _ _ _ z=>by cases z) (t4 _ _ g2))),T.Jc9⟩
    ·exact ⟨_,.of (T.Jbf.ty T.Jbe (kp (fun _ _ _ z=>by cases z) (t14 _ _ hb0))),T.Jcb⟩
   have t6:=Same.upd (o:=.lst [y]) hq2
   have g6:=Jfj (H:=K5) (a:=q2) (o:=.lst [y])
   generalize upd K5 q2 (.lst [y]) = K6 at *
   have g16:=t6 _ _ (kp Jgx (t4 _ _ (t2 _ _ g1)))
   refine ⟨q1,q2,_,_,rfl,rfl,g16,g6,szc y,fun q3 hq3=>?_⟩
   have t7:=Same.upd (o:=.lst ((R.ts.take n).map V.ref ++ [y])) hq3
   have g7:=Jfj (H:=K6) (a:=q3) (o:=.lst ((R.ts.take n).map V.ref ++ [y]))
   generalize upd K6 q3 (.lst ((R.ts.take n).map V.ref ++ [y])) = K7 at *
   have b7:=(b4.trans d5).same (t6.trans t7)
   refine ⟨_,rfl,_,rfl,_,rfl,m,_,rfl,SqL.of (b7.1 _ _ nmp hm),fun q4 hq4=>?_⟩
   rw [ec2]
   have t8:=Same.upd (o:=.lst ((R.ts.drop n).map V.ref)) hq4
   have g8:=Jfj (H:=K7) (a:=q4) (o:=.lst ((R.ts.drop n).map V.ref))
   generalize upd K7 q4 (.lst ((R.ts.drop n).map V.ref)) = K8 at *
   refine ⟨q3,q4,_,_,rfl,rfl,t8 _ _ g7,g8,szd y,fun q5 hq5=>?_⟩
   have t9:=Same.upd (o:=.lst ((R.ts.take n).map V.ref ++ [y] ++ (R.ts.drop n).map V.ref)) hq5
   have b9:=b7.same (t8.trans t9)
   refine k _ _ b9 (twn_odd T Jfj (tl.imp fun _ _ q=>q.keep (But.ins st b9)) (hy.same (((t6.trans t7).trans t8).trans t9))) ⟨.inr ⟨_,rfl⟩,_,_,.of (.lst Jfj),rfl⟩ (fun b e=>by cases e; exact .inl ((b7.same t8).free st hq5))
  unfold tNext
  dsimp only
  refine Jmr (fun σ K1=>σ = [some (.ref p),some (.ref l),some (.ref m),some (.int wy),some (.int n),some (.str B8.z)] ∧ Same H3 K1) (fun R0 hR=>?_) ?_
  ·refine ⟨_,rfl,rfl,_,rfl,Jk2 (fun _=>?_) (fun _=>?_)⟩
   ·refine ⟨_,rfl,Jg2 _ (by show 0 ≤ 2000; decide),fun L0 hL0=>?_⟩
    have t0:=Same.upd (o:=.lst []) hL0
    have g0:=Jfj (H:=H3) (a:=L0) (o:=.lst [])
    generalize upd H3 L0 (.lst []) = K0 at *
    have b0:=b5.same t0
    refine ⟨m,L0,_,rfl,rfl,SqL.of (t0 _ _ hm3),SqL.of g0,_,rfl,Jk2 (fun hne=>?_) (fun _=>?_)⟩
    ·have tpos : 1 ≤ R.ts.length:=by
      cases e : R.ts with
      | nil=>rw [e] at hne; simp at hne
      | cons x r=>simp
     refine ⟨_,rfl,_,rfl,_,rfl,m,_,rfl,SqL.of (t0 _ _ hm3),fun q1 hq1=>?_⟩
     rw [ec1]
     have t1:=Same.upd (o:=.lst ((R.ts.take n).map V.ref)) hq1
     have g1:=Jfj (H:=K0) (a:=q1) (o:=.lst ((R.ts.take n).map V.ref))
     generalize upd K0 q1 (.lst ((R.ts.take n).map V.ref)) = K1 at *
     have b1':=b0.same t1
     refine ⟨_,rfl,_,rfl,_,rfl,m,_,rfl,.inl (SqL.of (b1'.1 _ _ nmp hm)),p,_,rfl,b1'.2,by simp; omega,Jj4 (by simp; omega),fun r K5 r0 r1 d5=>?_⟩
     have kp:=fun {c : Addr} {o : HO} (h : ∀ x y z : Int,o ≠ .lst [.int x,.int y,.int z]) (e : K1 c = some o)=>d5.1 _ _ (Jg1 b1'.2 e h) e
     have b15:=b1'.trans d5
     obtain ⟨n9,rfl⟩:=Int.eq_ofNat_of_zero_le r0
     have h9 : n9 < (R.ts.map V.ref).length:=by omega
     have tl9 : TwnL a K5 R.ts R.Ts:=tl.imp fun _ _ q=>q.keep (But.ins st b15)
     obtain ⟨o9,T9,e9,_,hT9,dx9,hb9⟩:=RowL.get tl9 (List.getElem?_eq_getElem h9)
     have mT9:=List.mem_of_getElem? hT9
     have nT9:=ok.tm T9 mT9
     refine ⟨m,_,_,_,rfl,rfl,SqL.of (b15.1 _ _ nmp hm),Jhb (by rw [List.getElem?_eq_getElem h9,e9]),o9,_,dx9,_,_,rfl,hb9,T.Jbn,T.Jbq,rfl,_,rfl,?_⟩
     intro o2 dx2 ho2 hdx2 _
     refine Jjq (B:=⟨T9.z,B8.z,2⟩) ho2 hdx2 nT9.1 nT9.2 nB8.1 nB8.2 (by decide : (1 : Int) ≤ 2 ∧ (2 : Int) ≤ 6) fun K5b s5b ta=>⟨rfl,?_⟩
     refine ⟨(show 1 ≤ sizeLine by decide),fun q2 hq2=>?_⟩
     have t6:=Same.upd (o:=.lst [.ref o2]) hq2
     have g6:=Jfj (H:=K5b) (a:=q2) (o:=.lst [.ref o2])
     generalize upd K5b q2 (.lst [.ref o2]) = K6 at *
     have g16:=t6 _ _ (s5b _ _ (kp Jgx g1))
     refine ⟨q1,q2,_,_,rfl,rfl,g16,g6,szc _,fun q3 hq3=>?_⟩
     have t7:=Same.upd (o:=.lst ((R.ts.take n).map V.ref ++ [.ref o2])) hq3
     have g7:=Jfj (H:=K6) (a:=q3) (o:=.lst ((R.ts.take n).map V.ref ++ [.ref o2]))
     generalize upd K6 q3 (.lst ((R.ts.take n).map V.ref ++ [.ref o2])) = K7 at *
     have b7:=b15.same ((s5b.trans t6).trans t7)
     refine ⟨_,rfl,_,rfl,_,rfl,m,_,rfl,SqL.of (b7.1 _ _ nmp hm),fun q4 hq4=>?_⟩
     rw [ec2]
     have t8:=Same.upd (o:=.lst ((R.ts.drop n).map V.ref)) hq4
     have g8:=Jfj (H:=K7) (a:=q4) (o:=.lst ((R.ts.drop n).map V.ref))
     generalize upd K7 q4 (.lst ((R.ts.drop n).map V.ref)) = K8 at *
     refine ⟨q3,q4,_,_,rfl,rfl,t8 _ _ g7,g8,szd _,fun q5 hq5=>?_⟩
     have t9:=Same.upd (o:=.lst ((R.ts.take n).map V.ref ++ [.ref o2] ++ (R.ts.drop n).map V.ref)) hq5
     have b9:=b7.same (t8.trans t9)
     exact k _ _ b9 (twn_dup Jfj (tl.imp fun _ _ q=>q.keep (But.ins st b9)) (ta.same (((t6.trans t7).trans t8).trans t9)) (show T9.z ∈ R.Ts.map (·.z) from List.mem_map_of_mem (f:=fun B : Twn=>B.z) mT9)) ⟨.inr ⟨_,rfl⟩,_,_,.of (.lst Jfj),rfl⟩ (fun b e=>by cases e; exact .inl ((b7.same t8).free st hq5))
    ·exact hR _ _ ⟨rfl,t0⟩
   ·exact hR _ _ ⟨rfl,Same.refl H3⟩
  rintro σ K0 ⟨rfl,t0⟩
  have b0:=b5.same t0
  refine ⟨_,rfl,rfl,_,rfl,Jk2 (fun _=>?_) (fun _=>?_)⟩
  ·refine ⟨_,rfl,_,rfl,_,rfl,m,_,rfl,SqL.of (t0 _ _ hm3),fun q1 hq1=>?_⟩
   rw [ec1]
   have t1:=Same.upd (o:=.lst ((R.ts.take n).map V.ref)) hq1
   have g1:=Jfj (H:=K0) (a:=q1) (o:=.lst ((R.ts.take n).map V.ref))
   generalize upd K0 q1 (.lst ((R.ts.take n).map V.ref)) = K1 at *
   have ec3 : ∃ j,j ≤ 2 ∧ Jij ((R.ts.take n).map V.ref) none (some (2 : Int)) = ((R.ts.take n).take j).map V.ref:=⟨min 2 ((R.ts.take n).map V.ref).length,by omega,by rw [show (2 : Int) = ((2 : Nat) : Int) from rfl,Jr8]; exact List.map_take.symm⟩
   obtain ⟨j,hj,ej⟩:=ec3
   refine ⟨_,rfl,q1,_,rfl,SqL.of g1,fun q2 hq2=>?_⟩
   rw [ej]
   have t2:=Same.upd (o:=.lst (((R.ts.take n).take j).map V.ref)) hq2
   have g2:=Jfj (H:=K1) (a:=q2) (o:=.lst (((R.ts.take n).take j).map V.ref))
   generalize upd K1 q2 (.lst (((R.ts.take n).take j).map V.ref)) = K2 at *
   have t02:=(t0.trans t1).trans t2
   refine ⟨_,rfl,l,R.os,R.Bs,rfl,t02 _ _ hl3,bl3.same t02,bn.2,fun z K3 t3 nz zn zw=>?_⟩
   intro o2 dx2 ho2 hdx2 _
   refine Jjq (B:=⟨TT,z,1⟩) ho2 hdx2 tt_nm.1 tt_nm.2 zn zw (by decide : (1 : Int) ≤ 1 ∧ (1 : Int) ≤ 6) fun K4 t4 ta=>⟨rfl,?_⟩
   refine ⟨(show 1 ≤ sizeLine by decide),fun q3 hq3=>?_⟩
   have t5:=Same.upd (o:=.lst [.ref o2]) hq3
   have g5:=Jfj (H:=K4) (a:=q3) (o:=.lst [.ref o2])
   generalize upd K4 q3 (.lst [.ref o2]) = K5 at *
   have g25:=t5 _ _ (t4 _ _ (t3 _ _ g2))
   refine ⟨q2,q3,_,_,rfl,rfl,g25,g5,Jg2 _ (by simp; omega),fun q4 hq4=>?_⟩
   have t6:=Same.upd (o:=.lst (((R.ts.take n).take j).map V.ref ++ [.ref o2])) hq4
   have b9:=b5.same ((((t02.trans t3).trans t4).trans t5).trans t6)
   have tl9 : TwnL a _ R.ts R.Ts:=tl.imp fun _ _ q=>q.keep (But.ins st b9)
   exact k _ _ b9 (twn_row (os:=(R.ts.take n).take j ++ [o2]) (by rw [Jfj]; simp) (((tl9.take n).take j).app (show TwnL a _ [o2] [⟨TT,z,1⟩] from ⟨ta.same (t5.trans t6),True.intro⟩)) (.inr ⟨⟨TT,z,1⟩,by simp,nz⟩)) ⟨.inr ⟨_,rfl⟩,_,_,.of (.lst Jfj),rfl⟩ (fun b e=>by cases e; exact .inl ((b5.same (((t02.trans t3).trans t4).trans t5)).free st hq4))
  ·refine fun d hd=>?_
   have t3:=Same.upd (o:=.dK []) hd
   have g3:=Jfj (H:=K0) (a:=d) (o:=.dK [])
   generalize upd K0 d (.dK []) = K3 at *
   have t03:=t0.trans t3
   refine ⟨_,rfl,l,_,0,_,rfl,rfl,SqL.of (t03 _ _ hl3),at0,(show 6 ≤ sizeLine by decide),fun L hL=>?_⟩
   have t4:=Same.upd (o:=.lst [.non,.int 5,.str "t",.ref d,.ref ob,.bl true]) hL
   have g4:=Jfj (H:=K3) (a:=L) (o:=.lst [.non,.int 5,.str "t",.ref d,.ref ob,.bl true])
   generalize upd K3 L (.lst [.non,.int 5,.str "t",.ref d,.ref ob,.bl true]) = K4 at *
   have t04:=t03.trans t4
   have b4:=b5.same t04
   refine ⟨_,rfl,p,6,rfl,b4.2,by decide,by decide,fun r K5 r0 r1 d5=>?_⟩
   obtain ⟨y,my,ay⟩:=Jik (xs:=[.non,.int 5,.str "t",.ref d,.ref ob,.bl true]) r0 r1
   have kp:=fun {c : Addr} {o : HO} (h : ∀ x y z : Int,o ≠ .lst [.int x,.int y,.int z]) (e : K4 c = some o)=>d5.1 _ _ (Jg1 b4.2 e h) e
   refine ⟨L,_,_,y,rfl,rfl,SqL.of (kp (fun _ _ _ z=>by cases z) g4),ay,?_⟩
   have bb:=b4.trans d5
   have nf : ∀ {x : V},Jhf x = true → ∀ b,x = .ref b → H b = none ∨ ∃ C dx fs,H b = some (.ins C dx fs):=fun f b e=>by rw [e] at f; cases f
   have k3:=kp (fun _ _ _ z=>by cases z) (t4 _ _ g3)
   simp only [List.mem_cons,List.not_mem_nil,or_false] at my
   rcases my with rfl | rfl | rfl | rfl | rfl | rfl
   ·exact k _ _ bb (.non (.of .non) rfl) ⟨.inl rfl,_,_,.of .non,rfl⟩ (nf rfl)
   ·exact k _ _ bb (.non (.of (.int _)) rfl) ⟨.inl rfl,_,_,.of (.int _),rfl⟩ (nf rfl)
   ·exact k _ _ bb (.non (.of (.str _)) rfl) ⟨.inl rfl,_,_,.of (.str _),rfl⟩ (nf rfl)
   ·exact k _ _ bb (.non (.of (.dK k3)) rfl) ⟨.inr ⟨_,rfl⟩,_,_,.of (.dK k3),rfl⟩ (fun b e=>by cases e; exact .inl (b0.free st hd))
   ·have ty:=TyX.of (T.Jbf.ty T.Jbe (kp (fun _ _ _ z=>by cases z) (t04 _ _ hb0)))
    obtain ⟨o,B,e,_,_,dx,hbb⟩:=RowL.get bl (i:=0) (v:=.ref ob) (by rw [eos]; rfl)
    cases e
    exact k _ _ bb (.non ty T.Jce) ⟨.inr ⟨_,rfl⟩,_,_,ty,T.Jcf⟩ (fun b e=>by cases e; exact .inr ⟨_,_,_,hbb⟩)
   ·exact k _ _ bb (.non (.of (.bl _)) rfl) ⟨.inl rfl,_,_,.of (.bl _),rfl⟩ (nf rfl)
end
def LL (H H' : Hp) : Prop:=∀ b o,H b = some o → H' b = some o ∨ ((∃ xs,o = .lst xs) ∧ ∃ ys,H' b = some (.lst ys))
theorem LL.same {H H' : Hp} (s : Same H H') : LL H H':=fun b o e=>.inl (s b o e)
theorem LL.but {p : Addr} {H H' : Hp} (st : Strm H p) (b : But p H H') : LL H H':=fun c o e=>by
 by_cases z : c = p
 ·subst z
  obtain ⟨x,y,w', q⟩:=st
  obtain ⟨x', y', w'', q'⟩:=b.2
  rw [q] at e
  exact .inr ⟨⟨_,(Option.some.inj e).symm⟩,_,q'⟩
 ·exact .inl (b.1 c o z e)
theorem LL.upd {H : Hp} {l : Addr} {xs ys : List V} (h : H l = some (.lst xs)) : LL H (upd H l (.lst ys)):=fun c o e=>by
 by_cases z : c = l
 ·subst z
  rw [h] at e
  exact .inr ⟨⟨_,(Option.some.inj e).symm⟩,ys,Jfj⟩
 ·exact .inl (by rw [Jfp z]; exact e)
theorem LL.trans {H1 H2 H3 : Hp} (a : LL H1 H2) (b : LL H2 H3) : LL H1 H3:=fun c o e=>by
 rcases a c o e with h | ⟨⟨xs,rfl⟩,ys,h⟩
 ·exact b c o h
 ·rcases b c _ h with h' | ⟨_,zs,h'⟩
  ·exact .inr ⟨⟨xs,rfl⟩,ys,h'⟩
  ·exact .inr ⟨⟨xs,rfl⟩,zs,h'⟩
theorem LL.get {H H' : Hp} (s : LL H H') {b : Addr} {o : HO} (n : ∀ xs,o ≠ .lst xs) (e : H b = some o) : H' b = some o:=by
 rcases s b o e with h | ⟨⟨xs,w'⟩,_⟩
 ·exact h
 ·exact absurd w' (n xs)
theorem Jng {K : W.Frag} {H H' : Hp} {x : V} {t : Value} (s : LL H H') (h : TyX K H x t) : TyX K H' x t:=by
 cases h with
 | exc q qd c=>exact .exc (s.get (by intro _ z; cases z) q) (s.get (by intro _ z; cases z) qd) c
 | of ty =>
  refine .of ?_
  cases ty with
  | non=>exact .non
  | bl b=>exact .bl b
  | int i=>exact .int i
  | str z=>exact .str z
  | flt z=>exact .flt z
  | lst e =>
   rcases s _ _ e with h | ⟨_,ys,h⟩
   ·exact .lst h
   ·exact .lst h
  | frz e=>exact .frz (s.get (by intro _ z; cases z) e)
  | tup e=>exact .tup (s.get (by intro _ z; cases z) e)
  | dK e=>exact .dK (s.get (by intro _ z; cases z) e)
  | dT e=>exact .dT (s.get (by intro _ z; cases z) e)
  | ins e a b c d f=>exact .ins (s.get (by intro _ z; cases z) e) a b c d f
theorem Jj8 {K : W.Frag} {H H' : Hp} {x : V} (s : LL H H') (h : Tm K H x) : Tm K H' x:=by
 rcases h with h | ⟨t,ty,e⟩
 ·exact .inl h
 ·exact .inr ⟨t,Jng s ty,e⟩
theorem IsK.ll {K : W.Frag} {H H' : Hp} {C : Addr} {x : V} {b : Bool} (s : LL H H') (h : IsK K H C x b) : IsK K H' C x b:=let ⟨t,h1,h2⟩:=h; ⟨t,Jng s h1,h2⟩
theorem Thg.ll {K : W.Frag} {H H' : Hp} {x : V} (s : LL H H') (h : Thg K H x) : Thg K H' x:=let ⟨n,t,b,h1,h2⟩:=h; ⟨n,t,b,Jng s h1,h2⟩
theorem LL.ins {H H' : Hp} (s : LL H H') : ∀ c C dx fs,H c = some (.ins C dx fs) → H' c = some (.ins C dx fs):=fun _ _ _ _ e=>s.get (by intro _ z; cases z) e
theorem SqA.kp {H H' : Hp} {q : Addr} {vs : List V} (f : ∀ o,H q = some o → H' q = some o) (h : SqA H q vs) : SqA H' q vs:=h.imp (f _) (f _)
theorem BasIs.ll {K : W.Frag} {a : Ad} {H H' : Hp} {x : V} {b : Bool} (s : LL H H') (f : ∀ q,x = .ref q → ∀ o,H q = some o → H' q = some o) (h : BasIs K a H x b) : BasIs K a H' x b:=by
 cases h with
 | non t e=>exact .non (Jng s t) e
 | len q n=>exact .len (q.kp (f _ rfl)) n
 | odd q n l g e=>exact .odd (q.kp (f _ rfl)) n l (fun i v b h1 h2=>(g i v b h1 h2).ll s) e
 | row q n l=>exact .row (q.kp (f _ rfl)) n (l.imp fun _ _ z=>z.keep (LL.ins s))
theorem TwnIs.ll {K : W.Frag} {a : Ad} {H H' : Hp} {zs : List Str} {x : V} {b : Bool} (s : LL H H') (f : ∀ q,x = .ref q → ∀ o,H q = some o → H' q = some o) (h : TwnIs K a H zs x b) : TwnIs K a H' zs x b:=by
 cases h with
 | non t e=>exact .non (Jng s t) e
 | len q n=>exact .len (q.kp (f _ rfl)) n
 | odd q n l g e=>exact .odd (q.kp (f _ rfl)) n l (fun i v b h1 h2=>(g i v b h1 h2).ll s) e
 | row q n l=>exact .row (q.kp (f _ rfl)) n (l.imp fun _ _ z=>z.keep (LL.ins s))
def PtX (K : W.Frag) (H : Hp) (p q d : Addr) (k : Prop) (x good : V) (Bad : Prop) : Prop:=(k → Bad ∧ Thg K H x ∧ ∀ b,x = .ref b → b ≠ p ∧ b ≠ q ∧ b ≠ d) ∧ (¬ k → x = good)
structure Pts (K : W.Frag) (a : Ad) (H : Hp) (p q d l m : Addr) (R : Rgd) (bad : List Int) (c g b t : V) : Prop where
 c : PtX K H p q d (0 ∈ bad) c (.int R.c) (Tm K H c ∧ Jhj c 0 12 = false)
 g : PtX K H p q d (1 ∈ bad) g (.int R.g) (Tm K H g ∧ Jhj g 0 R.c = false)
 b : PtX K H p q d (2 ∈ bad) b (.ref l) (BasIs K a H b false)
 t : PtX K H p q d (3 ∈ bad) t (.ref m) (TwnIs K a H (R.Bs.map (·.z)) t false)
theorem PtX.ll {K : W.Frag} {H H' : Hp} {p q d : Addr} {k k' : Prop} {x good : V} {Bad Bad' : Prop} (s : LL H H') (hk : k' → k) (hk2 : k → k') (hb : (∀ b,x = .ref b → b ≠ p ∧ b ≠ q ∧ b ≠ d) → Bad → Bad') (h : PtX K H p q d k x good Bad) : PtX K H' p q d k' x good Bad' :=
 ⟨fun z=>let ⟨h1,h2,h3⟩:=h.1 (hk z); ⟨hb h3 h1,h2.ll s,h3⟩,fun z=>h.2 fun y=>z (hk2 y)⟩
theorem Pts.ll {K : W.Frag} {a : Ad} {H H' : Hp} {p q d l m : Addr} {R : Rgd} {bad bad' : List Int} {c g b t : V} (s : LL H H') (f : ∀ b o,b ≠ p → b ≠ q → b ≠ d → H b = some o → H' b = some o) (hm : ∀ i,i ∈ bad' ↔ i ∈ bad) (h : Pts K a H p q d l m R bad c g b t) : Pts K a H' p q d l m R bad' c g b t :=
 ⟨h.c.ll s (hm 0).1 (hm 0).2 fun _ z=>⟨Jj8 s z.1,z.2⟩,h.g.ll s (hm 1).1 (hm 1).2 fun _ z=>⟨Jj8 s z.1,z.2⟩,
  h.b.ll s (hm 2).1 (hm 2).2 fun n z=>z.ll s fun b e o w=>f b o (n b e).1 (n b e).2.1 (n b e).2.2 w,h.t.ll s (hm 3).1 (hm 3).2 fun n z=>z.ll s fun b e o w=>f b o (n b e).1 (n b e).2.1 (n b e).2.2 w⟩
def Jqp (K : W.Frag) (a : Ad) : Sp:=fun vs H Q _=>∃ (p q d gq l m : Addr) (R : Rgd) (bad : List Int) (c g b t : V),vs = [.ref p,.ref q,.ref gq] ∧ Strm H p ∧ H q = some (.lst [c,g,b,t]) ∧ (d ≠ p ∧ ∃ ds,H d = some (.lst ds)) ∧ gq ≠ q ∧ l ≠ q ∧ m ≠ q ∧ GdAt a H gq l m R ∧ Jmu R ∧ Pts K a H p q d l m R bad c g b t ∧
 ∀ (pl : Int) (c' g' b' t' : V) (H' : Hp),0 ≤ pl → pl < 4 → LL H H' → (∀ b o,b ≠ p → b ≠ q → H b = some o → H' b = some o) → Strm H' p → H' q = some (.lst [c', g', b', t']) → Pts K a H' p q d l m R (bad ++ [pl]) c' g' b' t' → Q (.int pl) H'
section
variable {P : Program} {w : World} {K : W.Frag} {mg : Str → Option Value} {base : Heap} {a : Ad}
theorem sc_law_spoilt : Jfx ["_law_stream_here","_law_parts","_law_good","_law_place"] ["_law_stream_here","_law_parts","_law_good"] (Jfr (top 47)):=⟨rfl,rfl,rfl,by decide +kernel,rfl,by decide +kernel,by decide +kernel⟩
theorem Jle (T : Tx K mg a) : FnOk P w K mg base CX0 7 a.Jem a.Jen ["_law_stream_here","_law_parts","_law_good"] (Jqp K a):=by
 have G__law_take:=Jh2 (P:=P) (w:=w) (base:=base) T
 have G__law_no_number:=Jk7 (P:=P) (w:=w) (base:=base) T
 have G__law_no_basins:=Jk6 (P:=P) (w:=w) (base:=base) T
 have G__law_no_towns:=Jkn (P:=P) (w:=w) (base:=base) T
 refine T.Ji.fn.ok sc_law_spoilt (fun vs H Q E h=>?_) (fun cdv A outer s H vs Q E hr h=>?_)
 ·obtain ⟨p,q,d,gq,l,m,R,bad,c,g,b,t,rfl,_⟩:=h
  rfl
 ·obtain ⟨p,q,d,gq,l,m,R,bad,c,g,b,t,rfl,st,hq,⟨ndp,ds,hd⟩,ngq,nlq,nmq,gd,ok,pts,k⟩:=h
  refine ⟨?t,?B,?C⟩
  case B =>
   refine' Jfm ?s1 ?r1
   case s1 =>
    exact (Jfy (i:=3) sc_law_spoilt.nd rfl (Or.inl rfl) (Jfq T.Jb G__law_take hr (by decide) (Jfi (pv 0) (Jfi Jfl Jfk))))
   case r1 =>
    refine' Jfm ?s3 ?r3
    case s3 =>
     refine' Jg9 ?c4 ?a4 ?b4
     case c4 =>
      exact (Jg4 op_lt (pv 3) Jfl (Jga _))
     case a4 =>
      refine' Jfn ?s5
      case s5 =>
       exact (Jl5 (Jfq T.Je G__law_no_number hr (by decide) (Jfi (pv 0) (Jfi (Jfz Jfs (Jg5 (Jfi Jfl (Jfi (Jfz Jfs (pv 2) Jfl (fun _ _=>rfl)) Jfk))) (pv 3) (fun _ _=>rfl)) Jfk))) (Jl3 (pv 1) (pv 3) Jiu))
     case b4 =>
      refine' Jfn ?s8
      case s8 =>
       refine' Jg9 ?c9 ?a9 ?b9
       case c9 =>
        exact (Jg4 Jig (pv 3) Jfl (Jga _))
       case a9 =>
        refine' Jfn ?s10
        case s10 =>
         exact (Jl5 (Jfq T.Jf G__law_no_basins hr (by decide) (Jfi (pv 0) (Jfi (Jfz Jfs (pv 2) Jfl (fun _ _=>rfl)) Jfk))) (Jl3 (pv 1) Jfl Jiu))
       case b9 =>
        refine' Jfn ?s13
        case s13 =>
         exact (Jl5 (Jfq T.Jh G__law_no_towns hr (by decide) (Jfi (pv 0) (Jfi (Jfz Jfs (pv 2) Jfl (fun _ _=>rfl)) (Jfi (Jfz Jfs (pv 2) Jfl (fun _ _=>rfl)) Jfk)))) (Jl3 (pv 1) Jfl Jiu))
    case r3 =>
     refine' Jfn ?s16
     case s16 =>
      exact (Jfw (pv 3))
  have nqp : q ≠ p:=Jg1 st hq (fun _ _ _ z=>by cases z)
  refine ⟨_,rfl,p,4,rfl,st,by decide,by decide,fun pl H1 p0 p1 b1=>?_⟩
  have hq1:=b1.1 _ _ nqp hq
  have gd1:=gd.but st b1
  have fin : ∀ {H2 H3 : Hp} {xs : List V},Same H1 H2 → But p H2 H3 → ∃ hq3 : H3 q = some (.lst [c,g,b,t]),LL H (upd H3 q (.lst xs)) ∧ (∀ b o,b ≠ p → b ≠ q → H b = some o → upd H3 q (.lst xs) b = some o) ∧ Strm (upd H3 q (.lst xs)) p ∧ LL H3 (upd H3 q (.lst xs)):=fun {H2 H3 xs} s2 b3=>by
   have hq3:=b3.1 _ _ nqp (s2 _ _ hq1)
   refine ⟨hq3,(((LL.but st b1).trans (LL.same s2)).trans (LL.but (b1.2.same s2) b3)).trans (LL.upd hq3),fun b o n1 n2 e=>?_,?_,LL.upd hq3⟩
   ·rw [Jfp n2]
    exact b3.1 _ _ n1 (s2 _ _ (b1.1 _ _ n1 e))
   ·obtain ⟨u,v,w', e⟩:=b3.2
    exact ⟨u,v,w', by rw [Jfp nqp.symm]; exact e⟩
  have fresh : ∀ {H2 : Hp} {x : V},Same H1 H2 → (∀ b,x = .ref b → H2 b = none ∨ ∃ C dx fs,H2 b = some (.ins C dx fs)) → ∀ b,x = .ref b → b ≠ p ∧ b ≠ q ∧ b ≠ d:=fun {H2 x} s2 fr b e=>by
   have hq2:=s2 _ _ hq1
   have hd2:=s2 _ _ (b1.1 _ _ ndp hd)
   obtain ⟨u,v,w', ep⟩:=b1.2.same s2
   rcases fr b e with h | ⟨C,dx,fs,h⟩
   ·exact ⟨fun z=>(by rw [z,ep] at h; cases h),fun z=>(by rw [z,hq2] at h; cases h),fun z=>(by rw [z,hd2] at h; cases h)⟩
   ·exact ⟨fun z=>(by rw [z,ep] at h; cases h),fun z=>(by rw [z,hq2] at h; cases h),fun z=>(by rw [z,hd2] at h; cases h)⟩
  have four : pl = 0 ∨ pl = 1 ∨ pl = 2 ∨ pl = 3:=by omega
  rcases four with rfl | rfl | rfl | rfl
  ·refine ⟨_,rfl,_,_,rfl,rfl,_,rfl,ifT (by decide) ?_⟩
   refine ⟨_,rfl,_,rfl,gq,_,0,_,rfl,rfl,SqL.of gd1.q,rfl,(show 2 ≤ sizeLine by decide),fun L hL=>?_⟩
   have s2:=Same.upd (o:=.lst [.int 12,.int R.c]) hL
   have gL:=Jfj (H:=H1) (a:=L) (o:=.lst [.int 12,.int R.c])
   generalize upd H1 L (.lst [.int 12,.int R.c]) = H2 at *
   refine ⟨_,rfl,L,_,0,_,rfl,rfl,SqL.of gL,rfl,p,12,rfl,b1.2.same s2,by decide,fun x H3 b3 tm wb th fr=>?_⟩
   obtain ⟨hq3,ll,ff,st', l3⟩:=fin (xs:=[x,g,b,t]) s2 b3
   refine ⟨_,rfl,_,rfl,q,_,_,_,rfl,rfl,hq3,rfl,_,rfl,?_⟩
   have nb:=fresh s2 fun b e=>.inl (fr b e)
   exact k 0 x g b t _ (by decide) (by decide) ll ff st' Jfj ⟨⟨fun _=>⟨⟨Jj8 l3 tm,wb⟩,th.ll l3,nb⟩,fun z=>absurd (by simp) z⟩,pts.g.ll ll (by simp) (by intro z; simp [z]) fun _ z=>⟨Jj8 ll z.1,z.2⟩,pts.b.ll ll (by simp) (by intro z; simp [z]) fun n z=>z.ll ll fun b e o w=>ff b o (n b e).1 (n b e).2.1 w,pts.t.ll ll (by simp) (by intro z; simp [z]) fun n z=>z.ll ll fun b e o w=>ff b o (n b e).1 (n b e).2.1 w⟩
  ·refine ⟨_,rfl,_,_,rfl,rfl,_,rfl,ifT (by decide) ?_⟩
   refine ⟨_,rfl,_,rfl,gq,_,0,_,rfl,rfl,SqL.of gd1.q,rfl,(show 2 ≤ sizeLine by decide),fun L hL=>?_⟩
   have s2:=Same.upd (o:=.lst [.int 12,.int R.c]) hL
   have gL:=Jfj (H:=H1) (a:=L) (o:=.lst [.int 12,.int R.c])
   generalize upd H1 L (.lst [.int 12,.int R.c]) = H2 at *
   refine ⟨_,rfl,L,_,1,_,rfl,rfl,SqL.of gL,rfl,p,R.c,rfl,b1.2.same s2,ok.c.2,fun x H3 b3 tm wb th fr=>?_⟩
   obtain ⟨hq3,ll,ff,st', l3⟩:=fin (xs:=[c,x,b,t]) s2 b3
   refine ⟨_,rfl,_,rfl,q,_,_,_,rfl,rfl,hq3,rfl,_,rfl,?_⟩
   have nb:=fresh s2 fun b e=>.inl (fr b e)
   exact k 1 c x b t _ (by decide) (by decide) ll ff st' Jfj ⟨pts.c.ll ll (by simp) (by intro z; simp [z]) fun _ z=>⟨Jj8 ll z.1,z.2⟩,⟨fun _=>⟨⟨Jj8 l3 tm,wb⟩,th.ll l3,nb⟩,fun z=>absurd (by simp) z⟩,pts.b.ll ll (by simp) (by intro z; simp [z]) fun n z=>z.ll ll fun b e o w=>ff b o (n b e).1 (n b e).2.1 w,pts.t.ll ll (by simp) (by intro z; simp [z]) fun n z=>z.ll ll fun b e o w=>ff b o (n b e).1 (n b e).2.1 w⟩
  ·refine ⟨_,rfl,_,_,rfl,rfl,_,rfl,ifF (by decide) ?_⟩
   refine ⟨_,rfl,rfl,_,rfl,ifT (by decide) ?_⟩
   refine ⟨_,rfl,_,rfl,gq,_,2,_,rfl,rfl,SqL.of gd1.q,rfl,p,l,R,rfl,b1.2,gd1.l,gd1.B,ok,fun x H3 b3 bi th fr=>?_⟩
   obtain ⟨hq3,ll,ff,st', l3⟩:=fin (xs:=[c,g,x,t]) (Same.refl H1) b3
   refine ⟨_,rfl,q,_,_,_,rfl,rfl,hq3,rfl,_,rfl,?_⟩
   have nb:=fresh (Same.refl H1) fun b e=>.inl (fr b e)
   exact k 2 c g x t _ (by decide) (by decide) ll ff st' Jfj ⟨pts.c.ll ll (by simp) (by intro z; simp [z]) fun _ z=>⟨Jj8 ll z.1,z.2⟩,pts.g.ll ll (by simp) (by intro z; simp [z]) fun _ z=>⟨Jj8 ll z.1,z.2⟩,⟨fun _=>⟨bi.ll l3 fun b e o w=>by rw [Jfp (nb b e).2.1]; exact w,th.ll l3,nb⟩,fun z=>absurd (by simp) z⟩,pts.t.ll ll (by simp) (by intro z; simp [z]) fun n z=>z.ll ll fun b e o w=>ff b o (n b e).1 (n b e).2.1 w⟩
  ·refine ⟨_,rfl,_,_,rfl,rfl,_,rfl,ifF (by decide) ?_⟩
   refine ⟨_,rfl,rfl,_,rfl,ifF (by decide) ?_⟩
   refine ⟨_,rfl,_,rfl,gq,_,2,_,rfl,rfl,SqL.of gd1.q,rfl,_,rfl,gq,_,3,_,rfl,rfl,SqL.of gd1.q,rfl,p,l,m,R,rfl,b1.2,gd1.l,gd1.B,gd1.m,gd1.T,ok,fun x H3 b3 bi th fr=>?_⟩
   obtain ⟨hq3,ll,ff,st', l3⟩:=fin (xs:=[c,g,b,x]) (Same.refl H1) b3
   refine ⟨_,rfl,q,_,_,_,rfl,rfl,hq3,rfl,_,rfl,?_⟩
   have nb:=fresh (Same.refl H1) fr
   exact k 3 c g b x _ (by decide) (by decide) ll ff st' Jfj ⟨pts.c.ll ll (by simp) (by intro z; simp [z]) fun _ z=>⟨Jj8 ll z.1,z.2⟩,pts.g.ll ll (by simp) (by intro z; simp [z]) fun _ z=>⟨Jj8 ll z.1,z.2⟩,pts.b.ll ll (by simp) (by intro z; simp [z]) fun n z=>z.ll ll fun b e o w=>ff b o (n b e).1 (n b e).2.1 w,⟨fun _=>⟨bi.ll l3 fun b e o w=>by rw [Jfp (nb b e).2.1]; exact w,th.ll l3,nb⟩,fun z=>absurd (by simp) z⟩⟩
end
theorem Ji6 {K : W.Frag} {H : Hp} : ∀ ns : List Int,DatVs K H (ns.map V.int) (ns.map PyData.int)
 | []=>.nil
 | _ :: r=>.cons (.int _) (Ji6 r)
theorem Jif (ns : List Int) : SeqAt.shaped (.list (ns.map PyData.int)) = true:=by
 have e1 : ∀ l : List Int,PyData.canLayAll0 (l.map PyData.int) = true:=by
  intro l
  induction l with
  | nil=>rfl
  | cons c r ih=>simp only [List.map_cons,PyData.canLayAll0,PyData.canLay0,ih,Bool.and_self]
 have e2 : ∀ l : List Int,PyData.depthAll (l.map PyData.int) = 0:=by
  intro l
  induction l with
  | nil=>rfl
  | cons c r ih=>simp [PyData.depthAll,PyData.depth,ih]
 simp [SeqAt.shaped,PyData.canLay0,PyData.depth,e1 ns,e2]
theorem Jpy (ns : List Int) : PyData.eqv (.list (ns.map PyData.int)) (.list []) = ns.isEmpty:=by
 cases ns <;> rfl
def wrd4 (m : Int) : Str:=if m < 2 then "cloud" else "river"
def spDue (K : W.Frag) : Sp:=fun vs H Q _=>∃ (b : Addr) (ns : List Int),vs = [.ref b] ∧ H b = some (.lst (ns.map V.int)) ∧ ns ≠ [] ∧ (∀ n ∈ ns,0 ≤ n ∧ n < 4) ∧ ∀ (m : Int) (H' : Hp),Same H H' → m ∈ ns → (∀ n ∈ ns,m ≤ n) → Q (.str (wrd4 m)) H'
def spTold (K : W.Frag) (a : Ad) : Sp:=fun vs H Q _=>∃ (e dx : Addr) (k : Bool) (z : Str) (x : V) (fs : List (Str × V)) (fr : Bool),vs = [.ref e,.str z,x] ∧ H e = some (XO e (if k then a.Jfc else a.Jfb) (some dx) fr) ∧ H dx = some (XD dx fs) ∧
 ∀ t H', Same H H' → H' t = some (.tup [.str z,x]) → Q (.ref t) H'
def Jrv (K : W.Frag) (a : Ad) : Sp:=fun vs H Q _=>∃ (l : Addr) (c g b t : V) (R : Rgd),vs = [.ref l] ∧ H l = some (.lst [c,g,b,t]) ∧ Jmu R ∧
 ((c = .int R.c ∧ g = .int R.g ∧ BsGd a H b R ∧ TsGd a H t R ∧ ∀ y o H', Same H H' → H' y = some (.tup [.str "made",.ref o]) → RivAt a H' o R → Q (.ref y) H') ∨
  (∃ k x,RvBad K a H R c g b t k x ∧ ∀ y H', Same H H' → H' y = some (.tup [.str (if k then "river" else "cloud"),x]) → Q (.ref y) H'))
section
variable {P : Program} {w : World} {K : W.Frag} {mg : Str → Option Value} {base : Heap} {a : Ad}
theorem Jnz : Jfx ["_law_bad"] ["_law_bad"] (Jfr (top 48)):=⟨rfl,rfl,rfl,by decide +kernel,rfl,by decide +kernel,by decide +kernel⟩
theorem Jnr (T : Tx K mg a) : FnOk P w K mg base CX0 1 a.Jeo a.Jep ["_law_bad"] (spDue K):=by
 refine T.Jj.fn.ok Jnz (fun vs H Q E h=>?_) (fun cdv A outer s H vs Q E hr h=>?_)
 ·obtain ⟨b,ns,rfl,_⟩:=h
  rfl
 ·obtain ⟨b,ns,rfl,hb,ne,bd,k⟩:=h
  have hu64:=Jjo hr
  refine ⟨?t,?B,?C⟩
  case B =>
   refine' Jfm ?s1 ?r1
   case s1 =>
    refine' Jg9 ?c2 ?a2 ?b2
    case c2 =>
     exact (Jg4 (Jq7 hu64) (pv 0) (Jg5 Jfk) (Jga _))
    case a2 =>
     refine' Jfn ?s3
     case s3 =>
      exact (Jfw Jhn)
    case b2 =>
     exact Jfv
   case r1 =>
    refine' Jfn ?s7
    case s7 =>
     refine' Jfw ?e9_0
     case e9_0 =>
      refine' Jfz ?e10_0 ?e10_1 ?e10_2 ?e10_3
      case e10_0 =>
       exact Jfs
      case e10_1 =>
       refine' Jg5 ?e11_0
       case e11_0 =>
        refine' pa4 ?e12_0 ?e12_1 ?e12_2 ?e12_3
        case e12_0 =>
         exact Jgb
        case e12_1 =>
         exact Jgb
        case e12_2 =>
         exact Jgb
        case e12_3 =>
         exact Jgb
      case e10_2 =>
       exact (Jft (Jlu rfl) (by rfl) T.Ja5 Jnk (Jfi (pv 0) Jfk))
      case e10_3 =>
       exact (fun _ _=>rfl)
  refine ⟨_,rfl,Jg2 _ (by show 0 ≤ 2000; decide),fun L hL=>?_⟩
  have s1:=Same.upd (o:=.lst []) hL
  refine ⟨_,_,.lst (SqL.of (s1 _ _ hb)) (Ji6 ns),.lst (SqL.of Jfj) .nil,Jif ns,rfl,_,rfl,?_⟩
  rw [if_neg Bool.false_ne_true,Jpy,show ns.isEmpty = false by cases ns with | nil=>exact absurd rfl ne | cons _ _=>rfl]
  refine Jgi ⟨(show 4 ≤ sizeLine by decide),fun L2 hL2=>?_⟩
  have s2:=s1.trans (Same.upd (o:=.lst [.str "cloud",.str "cloud",.str "river",.str "river"]) hL2)
  refine ⟨_,rfl,b,ns,rfl,SqL.of (s2 _ _ hb),ne,fun m hm hle=>?_⟩
  obtain ⟨m0,m4⟩:=bd m hm
  have k':=k m _ s2 hm hle
  have four : m = 0 ∨ m = 1 ∨ m = 2 ∨ m = 3:=by omega
  rcases four with rfl | rfl | rfl | rfl
  ·exact ⟨L2,_,0,_,rfl,rfl,SqL.of Jfj,rfl,k'⟩
  ·exact ⟨L2,_,1,_,rfl,rfl,SqL.of Jfj,rfl,k'⟩
  ·exact ⟨L2,_,2,_,rfl,rfl,SqL.of Jfj,rfl,k'⟩
  ·exact ⟨L2,_,3,_,rfl,rfl,SqL.of Jfj,rfl,k'⟩
theorem sc_law_told : Jfx ["_law_e","_law_word","_law_thing","_law_kinds"] ["_law_e","_law_word","_law_thing"] (Jfr (top 49)):=⟨rfl,rfl,rfl,by decide +kernel,rfl,by decide +kernel,by decide +kernel⟩
theorem Jn4 (T : Tx K mg a) : Jpm P w K mg base 1 a.Jeq a.Jer ["_law_e","_law_word","_law_thing"] (spTold K a):=by
 refine T.Jk.fn.okC sc_law_told (fun vs H Q E h=>?_) (fun er cdv A outer s H vs Q E hr h=>?_)
 ·obtain ⟨e,dx,k,z,x,fs,fr,rfl,_⟩:=h
  rfl
 ·obtain ⟨e,dx,c,z,x,fs,fr,rfl,h1,h2,k⟩:=h
  refine ⟨?t,?B,?C⟩
  case B =>
   refine' Jfm ?s1 ?r1
   case s1 =>
    exact (Jfy (i:=3) sc_law_told.nd rfl (Or.inl rfl) (Jg5 (pa4 (Jft Jgc (by rfl) T.Ja1 Jfu (Jfi (pv 0) (Jfi (Jgh (by rfl) T.Jaf (v:=.ref _) rfl) Jfk))) (Jft Jgc (by rfl) T.Ja1 Jfu (Jfi (pv 0) (Jfi (Jgh (by rfl) T.Jag (v:=.ref _) rfl) Jfk))) (Jft Jgc (by rfl) T.Ja1 Jfu (Jfi (pv 0) (Jfi (Jgh (by rfl) T.Jad (v:=.ref _) rfl) Jfk))) (Jft Jgc (by rfl) T.Ja1 Jfu (Jfi (pv 0) (Jfi (Jgh (by rfl) T.Jab (v:=.ref _) rfl) Jfk))))))
   case r1 =>
    refine' Jfm ?s3 ?r3
    case s3 =>
     refine' Jg9 ?c4 ?a4 ?b4
     case c4 =>
      exact (Jih (Jg4 Jog (Jm3 F.plainAttrs_list F.slot_list_count F.type_list_count Jq6 (pv 3) (Jfi Jgv Jfk)) Jfl (Jga _)) (Jih (Jge (Jft Jgc (by rfl) T.Ja1 Jfu (Jfi (pv 0) (Jfi (Jgh (by rfl) T.Jae (v:=.ref _) rfl) Jfk)))) (Ji3 (Jgg (Jge (Jft Jgc (by rfl) T.Ja1 Jfu (Jfi (pv 0) (Jfi (Jgh (by rfl) T.Jaa (v:=.ref _) rfl) Jfk)))))))).pt
     case a4 =>
      refine' Jfn ?s5
      case s5 =>
       exact (Jfw (Jhg (Jfi Jgb (Jfi Jhn Jfk))))
     case b4 =>
      exact Jfv
    case r3 =>
     refine' Jfn ?s9
     case s9 =>
      exact (Jfw (Jhg (Jfi (pv 1) (Jfi (pv 2) Jfk))))
  cases c with
  | false =>
   have ty : ∀ {H'},Same H H' → TyX K H' (.ref e) (.ref a.Jfb):=fun s=>.exc (s _ _ h1) (s _ _ h2) T.Jb4
   refine ⟨_,rfl,_,_,_,_,_,rfl,rfl,ty (Same.refl H),T.Jcj,_,rfl,_,_,_,_,_,rfl,rfl,ty (Same.refl H),T.Jck,_,rfl,_,_,_,_,_,rfl,rfl,ty (Same.refl H),T.Jcl,_,rfl,_,_,_,_,_,rfl,rfl,ty (Same.refl H),T.Jcm,(show 4 ≤ sizeLine by decide),fun l hl=>?_⟩
   have s1:=Same.upd (o:=.lst [.bl true,.bl false,.bl false,.bl false]) hl
   refine ⟨_,rfl,.inl ⟨rfl,_,SqL.of Jfj⟩,l,[true,false,false,false],true,rfl,rfl,Jfj,rfl,_,rfl,ifF (by decide) ?_⟩
   refine ⟨_,rfl,_,_,_,_,_,rfl,rfl,ty s1,T.Jcn,_,rfl,Jgi ⟨_,rfl,_,_,_,_,_,rfl,rfl,ty s1,T.Jct,_,rfl,Jgi ?_⟩⟩
   exact ⟨_,rfl,_,rfl,(show 2 ≤ sizeLine by decide),fun t ht=>k t _ (s1.trans (Same.upd ht)) Jfj⟩
  | true =>
   have ty : ∀ {H'},Same H H' → TyX K H' (.ref e) (.ref a.Jfc):=fun s=>.exc (s _ _ h1) (s _ _ h2) T.Jb7
   refine ⟨_,rfl,_,_,_,_,_,rfl,rfl,ty (Same.refl H),T.Jco,_,rfl,_,_,_,_,_,rfl,rfl,ty (Same.refl H),T.Jcp,_,rfl,_,_,_,_,_,rfl,rfl,ty (Same.refl H),T.Jcq,_,rfl,_,_,_,_,_,rfl,rfl,ty (Same.refl H),T.Jcr,(show 4 ≤ sizeLine by decide),fun l hl=>?_⟩
   have s1:=Same.upd (o:=.lst [.bl false,.bl true,.bl false,.bl false]) hl
   refine ⟨_,rfl,.inl ⟨rfl,_,SqL.of Jfj⟩,l,[false,true,false,false],true,rfl,rfl,Jfj,rfl,_,rfl,ifF (by decide) ?_⟩
   refine ⟨_,rfl,_,_,_,_,_,rfl,rfl,ty s1,T.Jcs,_,rfl,Jgi ⟨_,rfl,_,_,_,_,_,rfl,rfl,ty s1,T.Jcu,_,rfl,Jgi ?_⟩⟩
   exact ⟨_,rfl,_,rfl,(show 2 ≤ sizeLine by decide),fun t ht=>k t _ (s1.trans (Same.upd ht)) Jfj⟩
theorem sc_law_made : Jfx ["_law_parts","_law_found","_law_e"] ["_law_parts"] (Jfr (top 50)):=⟨rfl,rfl,rfl,by decide +kernel,rfl,by decide +kernel,by decide +kernel⟩
theorem Jn3 (T : Tx K mg a) : FnOk P w K mg base CX0 6 a.Jes a.Jet ["_law_parts"] (Jrv K a):=by
 have C__law_told:=Jn4 (P:=P) (w:=w) (base:=base) T
 have G_River___init__:=Jj6 (P:=P) (w:=w) (base:=base) T
 refine T.Jl.fn.ok sc_law_made (fun vs H Q E h=>?_) (fun cdv A outer s H vs Q E hr h=>?_)
 ·obtain ⟨l,c,g,b,t,R,rfl,_⟩:=h
  rfl
 ·obtain ⟨l,c,g,b,t,R,rfl,hL,ok,h⟩:=h
  refine ⟨?t,?B,?C⟩
  case B =>
   refine' Jfm ?s1 ?r1
   case s1 =>
    exact (Jfy (i:=1) sc_law_made.nd rfl (Or.inl rfl) Jhn)
   case r1 =>
    refine' Jfm ?s3 ?r3
    case s3 =>
     exact (ps_try ⟨rfl,rfl⟩ (fun _ _ hw=>(Jfn (Jfy (i:=1) sc_law_made.nd rfl (Or.inl rfl) (Jhg (Jfi Jgb (Jfi (Jqb T.Jbu G_River___init__ hw hr (by decide) T.Jav.bd T.Jal (pa4 (Jfz Jfs (pv 0) Jfl (fun _ _=>rfl)) (Jfz Jfs (pv 0) Jfl (fun _ _=>rfl)) (Jfz Jfs (pv 0) Jfl (fun _ _=>rfl)) (Jfz Jfs (pv 0) Jfl (fun _ _=>rfl)))) Jfk)))))) (by exact ph_as T.Jb5 T.Jaf sc_law_made.nd (i:=2) rfl rfl (fun _=>(Jfn (Jfy (i:=1) sc_law_made.nd rfl (Or.inl rfl) (Jn7 T.Jk C__law_told hr (by decide) (Jfi (pv 2) (Jfi Jgb (Jfi (Joh (pv 2) (by rfl)) Jfk))))))) (by exact ph_as T.Jb8 T.Jag sc_law_made.nd (i:=2) rfl rfl (fun _=>(Jfn (Jfy (i:=1) sc_law_made.nd rfl (Or.inl rfl) (Jn7 T.Jk C__law_told hr (by decide) (Jfi (pv 2) (Jfi Jgb (Jfi (Joh (pv 2) (by rfl)) Jfk))))))) ph_nil)))
    case r3 =>
     refine' Jfn ?s5
     case s5 =>
      exact (Jfw (pv 1))
  refine fun pins=>?_
  have sq:=SqL.of (K:=K) hL
  refine ⟨_,rfl,l,_,0,_,rfl,rfl,sq,rfl,_,rfl,l,_,1,_,rfl,rfl,sq,rfl,_,rfl,l,_,2,_,rfl,rfl,sq,rfl,_,rfl,l,_,3,_,rfl,rfl,sq,rfl,fun o dx ho hdx ne=>?_⟩
  have sn : Same H (upd (upd H dx (.own o)) o (.ins a.Jfh dx [])):=Jkx ho hdx
  refine ⟨o,dx,c,g,b,t,R,rfl,Jfj,ok,?_⟩
  rcases h with ⟨rfl,rfl,bg,tg,k⟩ | ⟨kk,x,bad,k⟩
  ·refine .inl ⟨rfl,rfl,bg.same sn,tg.same sn,fun H1 b' t' s1 hb ht nb nt=>⟨rfl,(show 2 ≤ sizeLine by decide),fun y hy=>⟨_,rfl,?_⟩⟩⟩
   have s0 : Same H (upd H1 o (.ins a.Jfh dx (Jnw (.int R.c) (.int R.g) (.ref b') (.ref t')))):=fun c v e=>by rw [Jfp (Jfo e ho)]; exact s1 _ _ (sn _ _ e)
   have s2:=Same.upd (o:=.tup [.str "made",.ref o]) hy
   obtain ⟨_,_,_,bl⟩:=bg
   obtain ⟨_,_,_,tl⟩:=tg
   exact k y o _ (s0.trans s2) Jfj ⟨dx,b', t', s2 _ _ Jfj,s2 _ _ (by rw [Jfp nb]; exact hb),s2 _ _ (by rw [Jfp nt]; exact ht),bl.same (s0.trans s2),tl.same (s0.trans s2)⟩
  ·refine .inr ⟨kk,x,bad.same sn,?_⟩
   cases kk with
   | false =>
    rintro c eo H1 ⟨e,dx', rfl,rfl,s', q1,q2⟩
    exact ⟨e,_,true,rfl,rfl,T.Jcv,Jha ⟨_,rfl,_,rfl,e,_,_,_,dx', _,_,_,rfl,q1,q2,T.Jb4,T.Jb6,rfl,e,dx', false,"cloud",x,_,_,rfl,q1,q2,fun t H2 s2 ht=>⟨_,rfl,k t H2 ((sn.trans s').trans s2) ht⟩⟩⟩
   | true =>
    rintro c eo H1 ⟨e,dx', rfl,rfl,s', q1,q2⟩
    exact ⟨e,_,false,rfl,rfl,T.Jcw,Jgi ⟨e,_,true,rfl,rfl,T.Jcx,Jha ⟨_,rfl,_,rfl,e,_,_,_,dx', _,_,_,rfl,q1,q2,T.Jb7,T.Jb9,rfl,e,dx', true,"river",x,_,_,rfl,q1,q2,fun t H2 s2 ht=>⟨_,rfl,k t H2 ((sn.trans s').trans s2) ht⟩⟩⟩⟩
end
theorem Jpx (ns : List Int) : PyData.eqv (.list (ns.map PyData.int)) (.list (ns.map PyData.int)) = true:=by
 have h : ∀ l : List Int,PyData.eqvAll (l.map PyData.int) (l.map PyData.int) = true:=by
  intro l
  induction l with
  | nil=>rfl
  | cons c r ih=>simp [PyData.eqvAll,PyData.eqv,ih]
 simp [PyData.eqv,h]
theorem Jki (ns : List Int) (c : Int) : SeqAt.shaped (.tuple [.tuple (ns.map PyData.int),.int c]) = true:=by
 have e1 : ∀ l : List Int,PyData.canLayAll0 (l.map PyData.int) = true:=by
  intro l
  induction l with
  | nil=>rfl
  | cons c r ih=>simp only [List.map_cons,PyData.canLayAll0,PyData.canLay0,ih,Bool.and_self]
 have e2 : ∀ l : List Int,PyData.depthAll (l.map PyData.int) = 0:=by
  intro l
  induction l with
  | nil=>rfl
  | cons c r ih=>simp [PyData.depthAll,PyData.depth,ih]
 simp [SeqAt.shaped,PyData.canLay0,PyData.canLayAll0,PyData.depth,PyData.depthAll,e1 ns,e2]
theorem Jpz (ns : List Int) (c : Int) : PyData.eqv (.tuple [.tuple (ns.map PyData.int),.int c]) (.tuple [.tuple (ns.map PyData.int),.int c]) = true:=by
 have h : ∀ l : List Int,PyData.eqvAll (l.map PyData.int) (l.map PyData.int) = true:=by
  intro l
  induction l with
  | nil=>rfl
  | cons c r ih=>simp [PyData.eqvAll,PyData.eqv,ih]
 simp [PyData.eqv,PyData.eqvAll,h]
def Js1 (K : W.Frag) (a : Ad) : Sp:=fun vs H Q _=>∃ (o gq l m : Addr) (R : Rgd),vs = [.ref o,.ref gq] ∧ RivAt a H o R ∧ GdAt a H gq l m R ∧ Jmu R ∧ ∀ H', Same H H' → Q (.bl true) H'
section
variable {P : Program} {w : World} {K : W.Frag} {mg : Str → Option Value} {base : Heap} {a : Ad}
theorem sc_law_right : Jfx ["_law_river_here","_law_good","_law_place","_law_basin","_law_found","_law_thing"] ["_law_river_here","_law_good"] (Jfr (top 51)):=⟨rfl,rfl,rfl,by decide +kernel,rfl,by decide +kernel,by decide +kernel⟩
theorem Jmo (T : Tx K mg a) : FnOk P w K mg base CX0 2 a.Jeu a.Jev ["_law_river_here","_law_good"] (Js1 K a):=by
 have G__law_strange:=Jip (P:=P) (w:=w) (base:=base) T
 have G_River_place_of:=Jn5 (P:=P) (w:=w) (base:=base) T
 have G_River_beginning:=Jmm (P:=P) (w:=w) (base:=base) T
 refine T.Jm.fn.ok sc_law_right (fun vs H Q E h=>?_) (fun cdv A outer s H vs Q E hr h=>?_)
 ·obtain ⟨o,gq,l,m,R,rfl,_⟩:=h
  rfl
 ·obtain ⟨o,gq,l,m,R,rfl,rv,gd,ok,k⟩:=h
  have hu64:=Jjo hr
  refine ⟨?t,?B,?C⟩
  case B =>
   refine' Jfm ?s1 ?r1
   case s1 =>
    refine' Jg9 ?c2 ?a2 ?b2
    case c2 =>
     exact (Jih (Jg4 (op_neD hu64) (Jg5 (Jfi (Jgl (pv 0) (by rfl)) (Jfi (Jgl (pv 0) (by rfl)) Jfk))) (Jgp Jh1 (pv 1) Jgz (Jh0 Jfl)) (Jga _)) (Jih (Jge (Jft Jgc (by rfl) T.Ja1 Jfu (Jfi (Jgl (pv 0) (by rfl)) (Jfi (Jgo (v:=.ty "bool") (by rfl) T.Jy Jiy rfl) Jfk)))) (Ji3 (Jge (Jft Jgc (by rfl) T.Ja1 Jfu (Jfi (Jgl (pv 0) (by rfl)) (Jfi (Jgo (v:=.ty "bool") (by rfl) T.Jy Jiy rfl) Jfk))))))).pt
    case a2 =>
     refine' Jfn ?s3
     case s3 =>
      exact (Jfw Jgv)
    case b2 =>
     exact Jfv
   case r1 =>
    refine' Jfm ?s7 ?r7
    case s7 =>
     refine' Jg9 ?c8 ?a8 ?b8
     case c8 =>
      exact (Jih (Jgg (Jge (Jft Jgc (by rfl) T.Ja1 Jfu (Jfi (Jgl (pv 0) (by rfl)) (Jfi (Jgo (v:=.ty "tuple") (by rfl) T.Ja9 Jgu rfl) Jfk))))) (Ji3 (Jgg (Jge (Jft Jgc (by rfl) T.Ja1 Jfu (Jfi (Jgl (pv 0) (by rfl)) (Jfi (Jgo (v:=.ty "tuple") (by rfl) T.Ja9 Jgu rfl) Jfk))))))).pt
     case a8 =>
      refine' Jfn ?s9
      case s9 =>
       exact (Jfw Jgv)
     case b8 =>
      exact Jfv
    case r7 =>
     refine' Jfm ?s13 ?r13
     case s13 =>
      refine' Jg9 ?c14 ?a14 ?b14
      case c14 =>
       exact (Jih (Jg4 (Jnt hu64) (Jgj Jhe (by rfl) T.Ja3 Jhx (Jfi (Jgl (pv 0) (by rfl)) Jfk)) (Jfz Jfs (pv 1) Jfl (fun _ _=>rfl)) (Jga _)) (Ji3 (Jg4 (Jnt hu64) (Jgj Jhe (by rfl) T.Ja3 Jhx (Jfi (Jgl (pv 0) (by rfl)) Jfk)) (Jfz Jfs (pv 1) Jfl (fun _ _=>rfl)) (Jga _)))).pt
      case a14 =>
       refine' Jfn ?s15
       case s15 =>
        exact (Jfw Jgv)
      case b14 =>
       exact Jfv
     case r13 =>
      refine' Jfm ?s19 ?r19
      case s19 =>
       refine' Jie ?f20_0 ?f20_1 ?f20_2 ?f20_3 ?f20_4
       case f20_0 =>
        exact PassesOwn.never
       case f20_1 =>
        exact rfl
       case f20_2 =>
        exact (Jrn (by rfl) T.Jz (Jfi (Jfz Jfs (pv 1) Jfl (fun _ _=>rfl)) Jfk))
       case f20_3 =>
        exact (Jqd rfl (Jjs (Jg6 (i:=2) sc_law_right.nd rfl (Or.inl rfl)) (Jjs (Jg6 (i:=3) sc_law_right.nd rfl (Or.inl rfl)) Joj)))
       case f20_4 =>
        refine' Jfm ?s21 ?r21
        case s21 =>
         exact (Jfy (i:=4) sc_law_right.nd rfl (Or.inl rfl) (Joi (pv 0) T.Jbt T.Jbv G_River_place_of (hr.mono (by decide)) T.Jaw.bd .nil Jhm (Jfi (Jgl (pv 3) (by rfl)) Jfk)))
        case r21 =>
         refine' Jfn ?s23
         case s23 =>
          refine' Jg9 ?c24 ?a24 ?b24
          case c24 =>
           exact (Jih (Jg4 Jog (pv 4) (pv 2) (Jga _)) (Ji3 (Jge (Jft Jgc (by rfl) T.Ja1 Jfu (Jfi (pv 4) (Jfi (Jgo (v:=.ty "bool") (by rfl) T.Jy Jiy rfl) Jfk)))))).pt
          case a24 =>
           refine' Jfn ?s25
           case s25 =>
            exact (Jfw Jgv)
          case b24 =>
           exact Jfv
      case r19 =>
       refine' Jfm ?s29 ?r29
       case s29 =>
        refine' Jie ?f30_0 ?f30_1 ?f30_2 ?f30_3 ?f30_4
        case f30_0 =>
         exact PassesOwn.never
        case f30_1 =>
         exact rfl
        case f30_2 =>
         exact (Ji0 (Jg5 (pa10 Jhn Jfl Jgv Jgb (Jfq T.Jg G__law_strange hr (by decide) (Jfi (Jfz Jfs (pv 1) Jfl (fun _ _=>rfl)) Jfk)) (Jfz Jfs (Jfz Jfs (pv 1) Jfl (fun _ _=>rfl)) Jfl (fun _ _=>rfl)) (Jg5 (Jfi (Jgl (Jfz Jfs (Jfz Jfs (pv 1) Jfl (fun _ _=>rfl)) Jfl (fun _ _=>rfl)) (by rfl)) Jfk)) (Jhg Jfk) Jjr Jgb)))
        case f30_3 =>
         exact (Jg6 (i:=5) sc_law_right.nd rfl (Or.inl rfl))
        case f30_4 =>
         refine' Jfn ?s31
         case s31 =>
          refine' Jg9 ?c32 ?a32 ?b32
          case c32 =>
           exact (Jg4 Jrl (Joi (pv 0) T.Jbt T.Jbv G_River_place_of (hr.mono (by decide)) T.Jaw.bd .nil Jhm (Jfi (pv 5) Jfk)) Jhn (Jga _))
          case a32 =>
           refine' Jfn ?s33
           case s33 =>
            exact (Jfw Jgv)
          case b32 =>
           exact Jfv
       case r29 =>
        refine' Jfm ?s37 ?r37
        case s37 =>
         exact (Jfy (i:=4) sc_law_right.nd rfl (Or.inl rfl) (Jqc (pv 0) T.Jbt T.Jbw G_River_beginning (hr.mono (by decide)) T.Jax.bd .nil Jhm))
        case r37 =>
         refine' Jfn ?s39
         case s39 =>
          exact (Jfw (Jnu (Jft Jgc (by rfl) T.Ja1 Jfu (Jfi (Jfz Jkz (pv 4) Jfl (fun _ _=>rfl)) (Jfi (Jgo (v:=.ty "tuple") (by rfl) T.Ja9 Jgu rfl) Jfk))) (Jnv (Jkq (Jq7 hu64) (pv 4) (Jhg (Jfi (Jgj Jgq (by rfl) T.Ja9 Jgu (Jfi (Jgs (N:=(["_law_basin"] : List Str)) (ini:=[none]) rfl (Ji0 (Jfz Jfs (pv 1) Jfl (fun _ _=>rfl))) (fun _ _ _ _ _=>(Jg6 (i:=0) (by decide +kernel : (["_law_basin"] : List Str).Nodup) rfl (Or.inl rfl))) (fun _ _ _ _ _=>Jgt) (fun _ _ _ _ _=>(Jhp (K:=K) rfl (pv 0) (by rfl)))) Jfk)) (Jfi (Jfz Jfs (pv 1) Jfl (fun _ _=>rfl)) Jfk))) (Jga _)))))
  obtain ⟨dx,b,t,ho,hb,ht,bl,tl⟩:=id rv
  refine ⟨_,rfl,o,_,dx,_,_,rfl,ho,T.Jbt,T.Jbx,rfl,_,rfl,o,_,dx,_,_,rfl,ho,T.Jbt,T.Jby,rfl,(show 2 ≤ sizeLine by decide),fun L hL=>?_⟩
  have s1:=Same.upd (o:=.lst [.int R.c,.int R.g]) hL
  have g1:=Jfj (H:=H) (a:=L) (o:=.lst [.int R.c,.int R.g])
  generalize upd H L (.lst [.int R.c,.int R.g]) = H1 at *
  refine ⟨_,rfl,_,rfl,gq,_,rfl,SqL.of (s1 _ _ gd.q),fun L2 hL2=>?_⟩
  have s2:=Same.upd (o:=.lst [.int R.c,.int R.g]) hL2
  have g2:=Jfj (H:=H1) (a:=L2) (o:=.lst [.int R.c,.int R.g])
  change rEqD _ _ _ _ (upd H1 L2 (.lst [.int R.c,.int R.g])) _
  generalize upd H1 L2 (.lst [.int R.c,.int R.g]) = H2 at *
  refine ⟨_,_,.lst (SqL.of (s2 _ _ g1)) (Ji6 [R.c,R.g]),.lst (SqL.of g2) (Ji6 [R.c,R.g]),Jif [R.c,R.g],Jif [R.c,R.g],_,rfl,?_⟩
  rw [if_pos rfl,Jpx]
  refine Jgi ?_
  have s12:=s1.trans s2
  refine ⟨_,rfl,o,_,dx,_,_,rfl,s12 _ _ ho,T.Jbt,T.Jbx,rfl,_,_,_,_,_,rfl,rfl,.of (.int _),(by rfl : W.kitOne K (.type "int") (.type "bool") = some false),_,rfl,Jgi ?_⟩
  refine ⟨_,rfl,o,_,dx,_,_,rfl,s12 _ _ ho,T.Jbt,T.Jby,rfl,_,_,_,_,_,rfl,rfl,.of (.int _),(by rfl : W.kitOne K (.type "int") (.type "bool") = some false),_,rfl,Jgi ?_⟩
  refine ⟨_,rfl,o,_,dx,_,_,rfl,s12 _ _ ho,T.Jbt,T.Jbz,rfl,_,_,_,_,_,rfl,rfl,.of (.tup (s12 _ _ hb)),(by rfl : W.kitOne K (.type "tuple") (.type "tuple") = some true),_,rfl,Jgi ?_⟩
  refine ⟨_,rfl,o,_,dx,_,_,rfl,s12 _ _ ho,T.Jbt,T.Jc0,rfl,_,_,_,_,_,rfl,rfl,.of (.tup (s12 _ _ ht)),(by rfl : W.kitOne K (.type "tuple") (.type "tuple") = some true),_,rfl,Jgi ?_⟩
  have selfs : ∀ {os : List Addr} (i : Nat) x y b,(os.map V.ref)[i]? = some x → (os.map V.ref)[i]? = some y → (List.replicate (os.map V.ref).length true)[i]? = some b → SameOr x y b:=fun {os}=>Jpb fun v hv=>by
   obtain ⟨q,_,rfl⟩:=List.mem_map.mp hv
   exact .inr ⟨_,rfl⟩
  refine ⟨_,rfl,o,_,dx,_,_,rfl,s12 _ _ ho,T.Jbt,T.Jbz,rfl,b,_,rfl,.inr (SqT.of (s12 _ _ hb)),fun L3 hL3=>?_⟩
  have s3:=s12.trans (Same.upd (o:=.lst (R.os.map V.ref)) hL3)
  have g3:=Jfj (H:=H2) (a:=L3) (o:=.lst (R.os.map V.ref))
  generalize upd H2 L3 (.lst (R.os.map V.ref)) = H3 at *
  refine ⟨_,rfl,gq,_,2,_,rfl,rfl,SqL.of (s3 _ _ gd.q),rfl,L3,l,_,_,List.replicate (R.os.map V.ref).length true,rfl,rfl,SqL.of g3,SqL.of (s3 _ _ gd.l),rfl,by simp,selfs,_,rfl,?_⟩
  rw [Jkr]
  refine Jgi ⟨_,rfl,o,_,dx,_,_,rfl,s3 _ _ ho,T.Jbt,T.Jc0,rfl,t,_,rfl,.inr (SqT.of (s3 _ _ ht)),fun L4 hL4=>?_⟩
  have s4:=s3.trans (Same.upd (o:=.lst (R.ts.map V.ref)) hL4)
  have g4:=Jfj (H:=H3) (a:=L4) (o:=.lst (R.ts.map V.ref))
  generalize upd H3 L4 (.lst (R.ts.map V.ref)) = H4 at *
  refine ⟨_,rfl,gq,_,3,_,rfl,rfl,SqL.of (s4 _ _ gd.q),rfl,L4,m,_,_,List.replicate (R.ts.map V.ref).length true,rfl,rfl,SqL.of g4,SqL.of (s4 _ _ gd.m),rfl,by simp,selfs,_,rfl,?_⟩
  rw [Jkr]
  refine Jgi ?_
  refine ⟨_,rfl,gq,_,2,_,rfl,rfl,SqL.of (s4 _ _ gd.q),rfl,l,rfl,⟨_,SqL.of (s4 _ _ gd.l)⟩,?_⟩
  have bln:=bl.len
  have bn:=ok.n
  have nth : ∀ {i : Nat} {B : Bsn},R.Bs[i]? = some B → Jp9 (R.Bs.map (·.z)) (.str B.z) = .int i:=fun {i B} hB=>by
   refine Jqh (by rw [List.getElem?_map,hB]; rfl) fun j hj e=>?_
   have hi : i < (R.Bs.map (·.z)).length:=by rw [List.length_map]; exact (List.getElem?_eq_some_iff.mp hB).1
   have hjl : j < (R.Bs.map (·.z)).length:=by omega
   rw [List.getElem?_eq_getElem hjl] at e
   have e2 : (R.Bs.map (·.z))[i] = B.z:=by
    have:=List.getElem?_eq_getElem hi
    rw [List.getElem?_map,hB] at this
    exact (Option.some.inj this).symm
   have:=List.pairwise_iff_getElem.mp ok.nd j i hjl hi hj
   exact this (by rw [Option.some.inj e,e2])
  refine Jr9 (xs:=R.os.map V.ref) (fun i σ H'=>(∃ o2 o3 o4 o5,σ = [some (.ref o),some (.ref gq),o2,o3,o4,o5]) ∧ Same H4 H') ⟨⟨_,_,_,_,rfl⟩,Same.refl _⟩ (fun i σ H' _ ⟨_,sm⟩=>SqL.of (sm _ _ (s4 _ _ gd.l))) ?_ ?_
  ·rintro i x σ H' Ta hx ⟨⟨o2,o3,o4,o5,rfl⟩,sm⟩ hT
   have sT:=Same.upd (o:=.tup [.int i,x]) hT
   have s5:=(s4.trans sm).trans sT
   obtain ⟨ob,B,rfl,_,hB,dxb,hob⟩:=(bl.same s5).get hx
   refine ⟨Ta,_,rfl,SqT.of Jfj,rfl,_,_,rfl,_,_,rfl,rfl,?_⟩
   refine ⟨_,rfl,o,dx,_,rfl,s5 _ _ ho,rfl,_,rfl,ob,_,dxb,_,_,rfl,hob,T.Jbe,T.Jbh,rfl,o,R,_,rfl,rv.same s5,.flat rfl,fun H6 s6=>?_⟩
   rw [nth hB]
   refine ⟨_,rfl,_,rfl,rfl,_,rfl,?_⟩
   rw [decide_eq_true rfl]
   refine Jgi ⟨_,rfl,_,_,_,_,_,rfl,rfl,.of (.int _),(by rfl : W.kitOne K (.type "int") (.type "bool") = some false),_,rfl,Jgi ?_⟩
   exact ⟨⟨_,_,_,_,rfl⟩,(sm.trans sT).trans s6⟩
  rintro σ H5 ⟨⟨o2,o3,o4,o5,rfl⟩,sm5⟩
  have s5:=s4.trans sm5
  obtain ⟨ob,oB,eos⟩ : ∃ ob oB,R.os = ob :: oB:=by
   cases e : R.os with
   | nil=>rw [e] at bln; simp at bln; omega
   | cons x r=>exact ⟨x,r,rfl⟩
  obtain ⟨B0,db,mB0,hb0⟩ : ∃ (B0 : Bsn) (db : Addr),B0 ∈ R.Bs ∧ H ob = some (.ins a.Jff db (basF (.str B0.z) (.int B0.lo) (.int B0.hi) (.int B0.st) (.int B0.rn) B0.g)):=by
   obtain ⟨o,B,e,_,hB,dx,hb⟩:=RowL.get bl (i:=0) (v:=.ref ob) (by rw [eos]; rfl)
   cases e
   exact ⟨B,dx,List.mem_of_getElem? hB,hb⟩
  have at0 : atI (R.os.map V.ref) 0 = some (.ref ob):=by rw [eos]; exact (show atI _ ((0 : Nat) : Int) = some (V.ref ob) from Jhb rfl)
  refine ⟨_,rfl,gq,_,2,_,rfl,rfl,SqL.of (s5 _ _ gd.q),rfl,l,R.os,R.Bs,rfl,s5 _ _ gd.l,bl.same s5,bn.2,fun z H6 t6 nz zn zw=>?_⟩
  have s6:=s5.trans t6
  refine ⟨_,rfl,gq,_,2,_,rfl,rfl,SqL.of (s6 _ _ gd.q),rfl,l,_,0,_,rfl,rfl,SqL.of (s6 _ _ gd.l),at0,?_⟩
  refine ⟨_,rfl,gq,_,2,_,rfl,rfl,SqL.of (s6 _ _ gd.q),rfl,l,_,0,_,rfl,rfl,SqL.of (s6 _ _ gd.l),at0,ob,_,db,_,_,rfl,s6 _ _ hb0,T.Jbe,T.Jbh,rfl,(show 1 ≤ sizeLine by decide),fun L6 hL6=>?_⟩
  have t7:=Same.upd (o:=.lst [.str B0.z]) hL6
  have g7:=Jfj (H:=H6) (a:=L6) (o:=.lst [.str B0.z])
  generalize upd H6 L6 (.lst [.str B0.z]) = H7 at *
  refine ⟨(show 0 ≤ sizeLine by decide),fun tp htp=>?_⟩
  have t8:=Same.upd (o:=.tup []) htp
  have g8:=Jfj (H:=H7) (a:=tp) (o:=.tup [])
  generalize upd H7 tp (.tup []) = H8 at *
  refine fun d hd=>?_
  have t9:=Same.upd (o:=.dK []) hd
  have g9:=Jfj (H:=H8) (a:=d) (o:=.dK [])
  generalize upd H8 d (.dK []) = H9 at *
  refine ⟨(show 10 ≤ sizeLine by decide),fun L hL=>?_⟩
  have xs10:=Jfj (H:=H9) (a:=L) (o:=.lst [.non,.int 0,.bl true,.str "",.str z,.ref ob,.ref L6,.ref tp,.ref d,.str "A"])
  have t10:=Same.upd (o:=.lst [.non,.int 0,.bl true,.str "",.str z,.ref ob,.ref L6,.ref tp,.ref d,.str "A"]) hL
  generalize upd H9 L (.lst [.non,.int 0,.bl true,.str "",.str z,.ref ob,.ref L6,.ref tp,.ref d,.str "A"]) = Ha at *
  have sa:=(((s6.trans t7).trans t8).trans t9).trans t10
  have noN : ∀ {y : Str},Jgk y = false → Jp9 (R.Bs.map (·.z)) (.str y) = .non:=fun {y} hy=>by
   show (if y ∈ R.Bs.map (·.z) then V.int ((R.Bs.map (·.z)).idxOf y : Nat) else .non) = _
   rw [if_neg fun hm=>?_]
   obtain ⟨B,hB,e⟩:=List.mem_map.mp hm
   have:=(ok.nm B hB).1
   rw [e,hy] at this
   cases this
  have all : ∀ x ∈ [V.non,.int 0,.bl true,.str "",.str z,.ref ob,.ref L6,.ref tp,.ref d,.str "A"],Oth K Ha x ∧ Jp9 (R.Bs.map (·.z)) x = .non:=by
   intro x hx
   simp only [List.mem_cons,List.not_mem_nil,or_false] at hx
   rcases hx with rfl | rfl | rfl | rfl | rfl | rfl | rfl | rfl | rfl | rfl
   ·exact ⟨.flat rfl,rfl⟩
   ·exact ⟨.flat rfl,rfl⟩
   ·exact ⟨.flat rfl,rfl⟩
   ·exact ⟨.flat rfl,noN (by decide +kernel)⟩
   ·refine ⟨.flat rfl,?_⟩
    show (if z ∈ R.Bs.map (·.z) then V.int ((R.Bs.map (·.z)).idxOf z : Nat) else .non) = _
    rw [if_neg nz]
   ·exact ⟨.ins (sa _ _ hb0) ⟨T.Jcg,T.Jch,T.Jci⟩,rfl⟩
   ·exact ⟨.lst (t10 _ _ (t9 _ _ (t8 _ _ g7))),rfl⟩
   ·exact ⟨.tup (t10 _ _ (t9 _ _ g8)),rfl⟩
   ·exact ⟨.dct (t10 _ _ g9),rfl⟩
   ·exact ⟨.flat rfl,noN (by decide +kernel)⟩
  refine ⟨L,rfl,⟨_,SqL.of xs10⟩,?_⟩
  refine Jjn (xs:=[.non,.int 0,.bl true,.str "",.str z,.ref ob,.ref L6,.ref tp,.ref d,.str "A"]) (fun i σ H'=>(∃ o2 o3 o4 o5,σ = [some (.ref o),some (.ref gq),o2,o3,o4,o5]) ∧ Same Ha H') ⟨⟨_,_,_,_,rfl⟩,Same.refl _⟩ (fun i σ H' _ ⟨_,sm⟩=>SqL.of (sm _ _ xs10)) ?_ ?_
  ·rintro i x σ H' hx ⟨⟨o2,o3,o4,o5,rfl⟩,sm⟩
   obtain ⟨ot,ep⟩:=all x (List.mem_of_getElem? hx)
   have sb:=sa.trans sm
   refine ⟨_,rfl,o,dx,_,rfl,sb _ _ ho,rfl,_,rfl,o,R,_,rfl,rv.same sb,ot.same sm,fun H6 s6'=>?_⟩
   rw [ep]
   refine ⟨rfl,_,rfl,?_⟩
   rw [decide_eq_true rfl]
   exact Jgi ⟨⟨_,_,_,_,rfl⟩,sm.trans s6'⟩
  rintro σ Hb ⟨⟨o2,o3,o4,o5,rfl⟩,smb⟩
  have sb:=sa.trans smb
  refine ⟨_,rfl,o,dx,_,rfl,sb _ _ ho,rfl,o,R,rfl,rv.same sb,ok,fun y u Hc sc hy hu=>?_⟩
  have sd:=sb.trans sc
  refine ⟨_,rfl,y,_,0,_,rfl,rfl,SqT.of hy,rfl,_,_,_,_,_,rfl,rfl,.of (.tup hu),(by rfl : W.kitOne K (.type "tuple") (.type "tuple") = some true),_,rfl,Jha ?_⟩
  refine ⟨_,rfl,_,rfl,gq,_,2,_,rfl,rfl,SqL.of (sd _ _ gd.q),rfl,l,rfl,⟨_,SqL.of (sd _ _ gd.l)⟩,fun D hD=>?_⟩
  refine Jht ((R.Bs.map (·.st)).map V.int) hD (by simp; omega) (by simp; omega) (sd _ _ gd.l) ?_ ?_
  ·intro j x y K2 Q' hx hy sm k'
   obtain ⟨o,B,rfl,_,hB,dx,hb⟩:=(bl.same (sd.trans sm)).get hx
   rw [List.getElem?_map,List.getElem?_map,hB] at hy
   cases hy
   exact ⟨_,rfl,o,_,dx,_,_,rfl,hb,T.Jbe,T.Jbk,rfl,k' _ (Same.refl _)⟩
  ·intro He te hDe
   refine ⟨D,_,rfl,.inl ⟨SqL.of hDe,fun u2 hu2=>?_⟩⟩
   have tf:=te.trans (Same.upd (o:=.tup ((R.Bs.map (·.st)).map V.int)) hu2)
   have gf:=Jfj (H:=He) (a:=u2) (o:=.tup ((R.Bs.map (·.st)).map V.int))
   generalize upd He u2 (.tup ((R.Bs.map (·.st)).map V.int)) = Hf at *
   refine ⟨_,rfl,gq,_,0,_,rfl,rfl,SqL.of (tf _ _ (sd _ _ gd.q)),rfl,(show 2 ≤ sizeLine by decide),fun y2 hy2=>?_⟩
   have tg:=tf.trans (Same.upd (o:=.tup [.ref u2,.int R.c]) hy2)
   have tg2:=Same.upd (o:=.tup [.ref u2,.int R.c]) hy2
   refine ⟨_,_,.tup (SqT.of (tg _ _ hy)) (.cons (.tup (SqT.of (tg _ _ hu)) (Ji6 _)) (.cons (.int _) .nil)),.tup (SqT.of Jfj) (.cons (.tup (SqT.of (tg2 _ _ gf)) (Ji6 _)) (.cons (.int _) .nil)),Jki _ _,Jki _ _,?_⟩
   rw [if_neg Bool.false_ne_true,Jpz]
   exact k _ (sd.trans tg)
end
def spLaw (K : W.Frag) : Sp:=fun vs H Q _=>∃ (a : Addr) (ns : List Int),vs = [.ref a] ∧ SqL K H a (ns.map V.int) ∧ ns.length ≤ 63 ∧ ∀ H', Q (.bl true) H'
section
variable {P : Program} {w : World} {K : W.Frag} {mg : Str → Option Value} {base : Heap} {a : Ad}
theorem sc_law : Jfx ["_law_script","_law_k","_law_stream_here","_law_good","_law_handed","_law_rows","_law_river_here","_law_parts","_law_bad","_law_turn","_law_found","_law_due_here"] ["_law_script"] (Jfr (top 52)):=⟨rfl,rfl,rfl,by decide +kernel,rfl,by decide +kernel,by decide +kernel⟩
theorem ok_law (T : Tx K mg a) : FnOk P w K mg base CX0 8 a.a_law a.d_law ["_law_script"] (spLaw K):=by
 have G__law_cell:=Jn2 (P:=P) (w:=w) (base:=base) T
 have G__law_stream:=Jlf (P:=P) (w:=w) (base:=base) T
 have G__law_take:=Jh2 (P:=P) (w:=w) (base:=base) T
 have G__law_river:=Jmp (P:=P) (w:=w) (base:=base) T
 have G_River___init__:=Jj6 (P:=P) (w:=w) (base:=base) T
 have G__law_spoilt:=Jle (P:=P) (w:=w) (base:=base) T
 have G__law_made:=Jn3 (P:=P) (w:=w) (base:=base) T
 have G__law_due:=Jnr (P:=P) (w:=w) (base:=base) T
 have G__law_right:=Jmo (P:=P) (w:=w) (base:=base) T
 refine T.f_law.fn.ok sc_law (fun vs H Q E h=>?_) (fun cdv A outer s H vs Q E hr h=>?_)
 ·obtain ⟨x,ns,rfl,_⟩:=h
  rfl
 ·obtain ⟨x,ns,rfl,hS,hlen,k⟩:=h
  have hu64:=Jjo hr
  refine ⟨?t,?B,?C⟩
  case B =>
   refine' Jfm ?s1 ?r1
   case s1 =>
    refine' Jie ?f2_0 ?f2_1 ?f2_2 ?f2_3 ?f2_4
    case f2_0 =>
     exact PassesOwn.never
    case f2_1 =>
     exact rfl
    case f2_2 =>
     exact (Jhr (by rfl) T.Ja6 (Jfi (Jft (Jlt rfl) (by rfl) T.Ja4 Jpp (Jfi Jfl (Jfi (Jft (Joz rfl) (by rfl) T.Ja5 Jnk (Jfi Jfl (Jfi (Jft Jgd (by rfl) T.Ja2 Jhi (Jfi (pv 0) Jfk)) Jfk))) Jfk))) Jfk))
    case f2_3 =>
     exact (Jg6 (i:=1) sc_law.nd rfl (Or.inl rfl))
    case f2_4 =>
     refine' Jfm ?s3 ?r3
     case s3 =>
      exact (Jfy (i:=2) sc_law.nd rfl (Or.inl rfl) (Jfq T.Ja G__law_stream hr (by decide) (Jfi (Jfq T.J9 G__law_cell hr (by decide) (Jfi (pv 0) (Jfi (pv 1) Jfk))) Jfk)))
     case r3 =>
      refine' Jfm ?s5 ?r5
      case s5 =>
       exact (Jfy (i:=3) sc_law.nd rfl (Or.inl rfl) (Jfq T.Jd G__law_river hr (by decide) (Jfi (pv 2) Jfk)))
      case r5 =>
       refine' Jfm ?s7 ?r7
       case s7 =>
        exact (Jfy (i:=4) sc_law.nd rfl (Or.inl rfl) (Jg5 (Jfi (Jgj Jhe (by rfl) T.Ja3 Jhx (Jfi (Jfz Jfs (pv 3) Jfl (fun _ _=>rfl)) Jfk)) (Jfi (Jgj Jhe (by rfl) T.Ja3 Jhx (Jfi (Jfz Jfs (pv 3) Jfl (fun _ _=>rfl)) Jfk)) Jfk))))
       case r7 =>
        refine' Jfm ?s9 ?r9
        case s9 =>
         exact (Jfy (i:=5) sc_law.nd rfl (Or.inl rfl) (Jfz Jfs (Jg5 (Jfi (pv 4) (Jfi (Jg5 (Jfi (Jgj Jgq (by rfl) T.Ja9 Jgu (Jfi (Jfz Jfs (pv 3) Jfl (fun _ _=>rfl)) Jfk)) (Jfi (Jgj Jgq (by rfl) T.Ja9 Jgu (Jfi (Jfz Jfs (pv 3) Jfl (fun _ _=>rfl)) Jfk)) Jfk))) Jfk))) (Jfq T.Jb G__law_take hr (by decide) (Jfi (pv 2) (Jfi Jfl Jfk))) (fun _ _=>rfl)))
        case r9 =>
         refine' Jfm ?s11 ?r11
         case s11 =>
          exact (Jfy (i:=6) sc_law.nd rfl (Or.inl rfl) (Jh6 T.Jbu G_River___init__.calm (hr.mono (by decide)) (by rfl) T.Jal T.Jav.bd .nil Jhm (pa4 (Jfz Jfs (pv 3) Jfl (fun _ _=>rfl)) (Jfz Jfs (pv 3) Jfl (fun _ _=>rfl)) (Jfz Jfs (pv 5) Jfl (fun _ _=>rfl)) (Jfz Jfs (pv 5) Jfl (fun _ _=>rfl)))))
         case r11 =>
          refine' Jfm ?s13 ?r13
          case s13 =>
           exact (Jhl (Jqa F.plainAttrs_list F.slot_list_clear F.type_list_clear Jn1 (Jfz Jfs (pv 4) Jfl (fun _ _=>rfl))))
          case r13 =>
           refine' Jfm ?s15 ?r15
           case s15 =>
            exact (Jhl (Jqa F.plainAttrs_list F.slot_list_clear F.type_list_clear Jn1 (Jfz Jfs (pv 4) Jfl (fun _ _=>rfl))))
           case r15 =>
            refine' Jfm ?s17 ?r17
            case s17 =>
             exact (Jfy (i:=7) sc_law.nd rfl (Or.inl rfl) (Jgj Jhe (by rfl) T.Ja3 Jhx (Jfi (pv 3) Jfk)))
            case r17 =>
             refine' Jfm ?s19 ?r19
             case s19 =>
              exact (Jfy (i:=8) sc_law.nd rfl (Or.inl rfl) (Jg5 Jfk))
             case r19 =>
              refine' Jfm ?s21 ?r21
              case s21 =>
               refine' Jie ?f22_0 ?f22_1 ?f22_2 ?f22_3 ?f22_4
               case f22_0 =>
                exact PassesOwn.never
               case f22_1 =>
                exact rfl
               case f22_2 =>
                exact (Jhr (by rfl) T.Ja6 (Jfi (Jfq T.Jb G__law_take hr (by decide) (Jfi (pv 2) (Jfi Jfl Jfk))) Jfk))
               case f22_3 =>
                exact (Jg6 (i:=9) sc_law.nd rfl (Or.inl rfl))
               case f22_4 =>
                refine' Jfn ?s23
                case s23 =>
                 exact (Jhl (Jm3 F.plainAttrs_list F.slot_list_append F.type_list_append Ji7 (pv 8) (Jfi (Jfq T.Ji G__law_spoilt hr (by decide) (Jfi (pv 2) (Jfi (pv 7) (Jfi (pv 3) Jfk)))) Jfk)))
              case r21 =>
               refine' Jfm ?s25 ?r25
               case s25 =>
                exact (Jfy (i:=10) sc_law.nd rfl (Or.inl rfl) (Jfq T.Jl G__law_made hr (by decide) (Jfi (pv 7) Jfk)))
               case r25 =>
                refine' Jfm ?s27 ?r27
                case s27 =>
                 refine' Jg9 ?c28 ?a28 ?b28
                 case c28 =>
                  exact (Jg4 op_isN (pv 10) Jhn (Jga _))
                 case a28 =>
                  refine' Jfn ?s29
                  case s29 =>
                   exact (Jfw Jgv)
                 case b28 =>
                  exact Jfv
                case r27 =>
                 refine' Jfm ?s33 ?r33
                 case s33 =>
                  refine' Jg9 ?c34 ?a34 ?b34
                  case c34 =>
                   exact (Jg4 (Jq8 hu64) (pv 8) (Jg5 Jfk) (Jga _))
                  case a34 =>
                   refine' Jfm ?s35 ?r35
                   case s35 =>
                    exact (Jfy (i:=11) sc_law.nd rfl (Or.inl rfl) (Jhg (Jfi (Jfq T.Jj G__law_due hr (by decide) (Jfi (pv 8) Jfk)) (Jfi (Jfz Jfs (pv 7) (Jft (Jlu rfl) (by rfl) T.Ja5 Jnk (Jfi (pv 8) Jfk)) (fun _ _=>rfl)) Jfk))))
                   case r35 =>
                    refine' Jfn ?s37
                    case s37 =>
                     refine' Jg9 ?c38 ?a38 ?b38
                     case c38 =>
                      exact (Jih (Jg4 (op_neT hu64) (pv 10) (pv 11) (Jga _)) (Ji3 (Jg4 Jog (Jft Jgc (by rfl) T.Ja1 Jfu (Jfi (Jfz Jkz (pv 10) Jfl (fun _ _=>rfl)) (Jfi (Jgo (v:=.ty "bool") (by rfl) T.Jy Jiy rfl) Jfk))) (Jft Jgc (by rfl) T.Ja1 Jfu (Jfi (Jfz Jkz (pv 11) Jfl (fun _ _=>rfl)) (Jfi (Jgo (v:=.ty "bool") (by rfl) T.Jy Jiy rfl) Jfk))) (Jga _)))).pt
                     case a38 =>
                      refine' Jfn ?s39
                      case s39 =>
                       exact (Jfw Jgv)
                     case b38 =>
                      exact Jfv
                  case b34 =>
                   refine' Jfn ?s43
                   case s43 =>
                    refine' Jg9 ?c44 ?a44 ?b44
                    case c44 =>
                     exact (Jih (Jg4 Jog (Jfz Jkz (pv 10) Jfl (fun _ _=>rfl)) Jgb (Jga _)) (Ji3 (Jgg (Jge (Jfq T.Jm G__law_right hr (by decide) (Jfi (Jfz Jkz (pv 10) Jfl (fun _ _=>rfl)) (Jfi (pv 3) Jfk))))))).pt
                    case a44 =>
                     refine' Jfn ?s45
                     case s45 =>
                      exact (Jfw Jgv)
                    case b44 =>
                     exact Jfv
                 case r33 =>
                  refine' Jfn ?s49
                  case s49 =>
                   refine' Jg9 ?c50 ?a50 ?b50
                   case c50 =>
                    exact (Jgg (Jge (Jfq T.Jm G__law_right hr (by decide) (Jfi (pv 6) (Jfi (pv 3) Jfk)))))
                   case a50 =>
                    refine' Jfn ?s51
                    case s51 =>
                     exact (Jfw Jgv)
                   case b50 =>
                    exact Jfv
   case r1 =>
    refine' Jfn ?s55
    case s55 =>
     exact (Jfw Jgv)
  refine ⟨_,rfl,x,_,rfl,.inl hS,_,_,rfl,_,_,rfl,_,rfl,?_,?_,?_⟩
  ·split <;> split <;> omega
  ·split <;> split <;> omega
  refine Jk1 (fun i σ H'=>(∃ o1 o2 o3 o4 o5 o6 o7 o8 o9 o10 o11,σ = [some (.ref x),o1,o2,o3,o4,o5,o6,o7,o8,o9,o10,o11]) ∧ Same H H') ⟨⟨_,_,_,_,_,_,_,_,_,_,_,rfl⟩,Same.refl H⟩ ?_ ?_
  ·rintro i σ H0 hi ⟨⟨o1,o2,o3,o4,o5,o6,o7,o8,o9,o10,o11,rfl⟩,s0⟩
   refine ⟨_,rfl,_,rfl,x,ns,i,by simp,s0.seq hS,fun n=>⟨n,rfl,fun p H1 hp s1 st=>?_⟩⟩
   refine ⟨_,rfl,p,rfl,st,fun gq l m R H2 b2 hgq hl hm nlm gd ok=>?_⟩
   refine ⟨_,rfl,gq,_,2,_,rfl,rfl,SqL.of gd.q,rfl,l,_,rfl,.inl (SqL.of gd.l),fun l' hl'=>?_⟩
   have t1:=Same.upd (o:=.lst (R.os.map V.ref)) hl'
   have g1:=Jfj (H:=H2) (a:=l') (o:=.lst (R.os.map V.ref))
   generalize upd H2 l' (.lst (R.os.map V.ref)) = H3 at *
   refine ⟨_,rfl,gq,_,3,_,rfl,rfl,SqL.of (t1 _ _ gd.q),rfl,m,_,rfl,.inl (SqL.of (t1 _ _ gd.m)),fun m' hm'=>?_⟩
   have t2:=Same.upd (o:=.lst (R.ts.map V.ref)) hm'
   have g2:=Jfj (H:=H3) (a:=m') (o:=.lst (R.ts.map V.ref))
   generalize upd H3 m' (.lst (R.ts.map V.ref)) = H4 at *
   refine ⟨(show 2 ≤ sizeLine by decide),fun hd hhd=>?_⟩
   have t3:=Same.upd (o:=.lst [.ref l', .ref m']) hhd
   have g3:=Jfj (H:=H4) (a:=hd) (o:=.lst [.ref l', .ref m'])
   generalize upd H4 hd (.lst [.ref l', .ref m']) = H5 at *
   have t13:=(t1.trans t2).trans t3
   have gd5:=gd.same t13
   refine ⟨_,rfl,_,rfl,gq,_,2,_,rfl,rfl,SqL.of gd5.q,rfl,l,_,rfl,.inl ⟨SqL.of gd5.l,fun u1 hu1=>?_⟩⟩
   have t4:=Same.upd (o:=.tup (R.os.map V.ref)) hu1
   have g4:=Jfj (H:=H5) (a:=u1) (o:=.tup (R.os.map V.ref))
   generalize upd H5 u1 (.tup (R.os.map V.ref)) = H6 at *
   refine ⟨_,rfl,gq,_,3,_,rfl,rfl,SqL.of (t4 _ _ gd5.q),rfl,m,_,rfl,.inl ⟨SqL.of (t4 _ _ gd5.m),fun u2 hu2=>?_⟩⟩
   have t5:=Same.upd (o:=.tup (R.ts.map V.ref)) hu2
   have g5:=Jfj (H:=H6) (a:=u2) (o:=.tup (R.ts.map V.ref))
   generalize upd H6 u2 (.tup (R.ts.map V.ref)) = H7 at *
   refine ⟨(show 2 ≤ sizeLine by decide),fun L1 hL1=>?_⟩
   have t6:=Same.upd (o:=.lst [.ref u1,.ref u2]) hL1
   have g6:=Jfj (H:=H7) (a:=L1) (o:=.lst [.ref u1,.ref u2])
   generalize upd H7 L1 (.lst [.ref u1,.ref u2]) = H8 at *
   refine ⟨(show 2 ≤ sizeLine by decide),fun L2 hL2=>?_⟩
   have t7:=Same.upd (o:=.lst [.ref hd,.ref L1]) hL2
   have g7:=Jfj (H:=H8) (a:=L2) (o:=.lst [.ref hd,.ref L1])
   generalize upd H8 L2 (.lst [.ref hd,.ref L1]) = H9 at *
   have t47:=((t4.trans t5).trans t6).trans t7
   have t17:=t13.trans t47
   have b9:=b2.same t17
   refine ⟨_,rfl,p,2,rfl,b9.2,by decide,by decide,fun r Ha r0 r1 ba=>?_⟩
   have kp:=fun {c : Addr} {o : HO} (h : ∀ x y z : Int,o ≠ .lst [.int x,.int y,.int z]) (e : H9 c = some o)=>ba.1 _ _ (Jg1 b9.2 e h) e
   obtain ⟨rv,mr,ar⟩:=Jik (xs:=[.ref hd,.ref L1]) r0 r1
   refine ⟨L2,_,_,rv,rfl,rfl,SqL.of (kp (fun _ _ _ z=>by cases z) g7),ar,?_⟩
   have gda:=(gd.same t17).but b9.2 ba
   have hda:=kp (fun _ _ _ z=>by cases z) (t47 _ _ g3)
   have hl'a:=kp Jgx (t47 _ _ (t3 _ _ (t2 _ _ g1)))
   have hm'a:=kp Jgx (t47 _ _ (t3 _ _ g2))
   obtain ⟨rq,x1,x2,rfl,hrq,bg,tg⟩ : ∃ rq x1 x2,rv = .ref rq ∧ Ha rq = some (.lst [x1,x2]) ∧ BsGd a Ha x1 R ∧ TsGd a Ha x2 R:=by
    simp only [List.mem_cons,List.not_mem_nil,or_false] at mr
    rcases mr with rfl | rfl
    ·exact ⟨hd,_,_,rfl,hda,⟨l', rfl,.inl hl'a,gda.B⟩,⟨m', rfl,.inl hm'a,gda.T⟩⟩
    ·exact ⟨L1,_,_,rfl,kp (fun _ _ _ z=>by cases z) (t7 _ _ g6),⟨u1,rfl,.inr (kp (fun _ _ _ z=>by cases z) (t7 _ _ (t6 _ _ (t5 _ _ g4)))),gda.B⟩,⟨u2,rfl,.inr (kp (fun _ _ _ z=>by cases z) (t7 _ _ (t6 _ _ g5))),gda.T⟩⟩
   refine ⟨_,rfl,gq,_,0,_,rfl,rfl,SqL.of gda.q,rfl,_,rfl,gq,_,1,_,rfl,rfl,SqL.of gda.q,rfl,_,rfl,rq,_,0,_,rfl,rfl,SqL.of hrq,rfl,_,rfl,rq,_,1,_,rfl,rfl,SqL.of hrq,rfl,fun o dx ho hdx ne=>?_⟩
   have sn : Same Ha (upd (upd Ha dx (.own o)) o (.ins a.Jfh dx [])):=Jkx ho hdx
   refine ⟨o,dx,_,_,_,_,R,rfl,Jfj,ok,.inl ⟨rfl,rfl,bg.same sn,tg.same sn,fun Hb b' t' sb hb ht nb nt=>⟨rfl,?_⟩⟩⟩
   have sab : Same Ha (upd Hb o (.ins a.Jfh dx (Jnw (.int R.c) (.int R.g) (.ref b') (.ref t')))):=fun c v e=>by rw [Jfp (Jfo e ho)]; exact sb _ _ (sn _ _ e)
   have rv0 : RivAt a (upd Hb o (.ins a.Jfh dx (Jnw (.int R.c) (.int R.g) (.ref b') (.ref t')))) o R:=⟨dx,b', t', Jfj,by rw [Jfp nb]; exact hb,by rw [Jfp nt]; exact ht,gda.B.same sab,gda.T.same sab⟩
   generalize upd Hb o (.ins a.Jfh dx (Jnw (.int R.c) (.int R.g) (.ref b') (.ref t'))) = Hc at *
   have bc:=(b9.trans ba).same sab
   have gdc:=gda.same sab
   refine ⟨_,rfl,hd,_,0,_,rfl,rfl,SqL.of (sab _ _ hda),rfl,.inl ⟨rfl,_,SqL.of (sab _ _ hl'a)⟩,?_⟩
   have nll : l ≠ l':=Jfo gd.l hl'
   have nml : m ≠ l':=Jfo gd.m hl'
   have nql : gq ≠ l':=Jfo gd.q hl'
   have nlm' : l ≠ m':=Jfo (t1 _ _ gd.l) hm'
   have nmm : m ≠ m':=Jfo (t1 _ _ gd.m) hm'
   have nqm : gq ≠ m':=Jfo (t1 _ _ gd.q) hm'
   have nlm2 : l' ≠ m':=Jfo g1 hm'
   have nhl : hd ≠ l':=(Jfo (t2 _ _ g1) hhd).symm
   have nhm : hd ≠ m':=(Jfo g2 hhd).symm
   have nlp : l' ≠ p:=Jg1 bc.2 (sab _ _ hl'a) Jgx
   have nmp' : m' ≠ p:=Jg1 bc.2 (sab _ _ hm'a) Jgx
   have hlc:=sab _ _ hl'a
   have hmc:=sab _ _ hm'a
   refine ⟨l', _,rfl,rfl,hlc,?_⟩
   have hmd : upd Hc l' (.lst []) m' = some (.lst (R.ts.map V.ref)):=by rw [Jfp nlm2.symm]; exact hmc
   refine ⟨_,rfl,hd,[.ref l', .ref m'],1,.ref m', rfl,rfl,SqL.of (by rw [Jfp nhl]; exact sab _ _ hda),rfl,.inl ⟨rfl,_,SqL.of hmd⟩,m', _,rfl,rfl,hmd,?_⟩
   have lld : LL Hc (upd (upd Hc l' (.lst [])) m' (.lst [])):=(LL.upd hlc).trans (LL.upd hmd)
   have ffd : ∀ c v,c ≠ l' → c ≠ m' → Hc c = some v → upd (upd Hc l' (.lst [])) m' (.lst []) c = some v:=fun c v n1 n2 e=>by rw [Jfp n2,Jfp n1]; exact e
   generalize upd (upd Hc l' (.lst [])) m' (.lst []) = Hd at *
   have rvd : RivAt a Hd o R:=by
    obtain ⟨dx,b,t,h1,h2,h3,h4,h5⟩:=rv0
    exact ⟨dx,b,t,lld.ins _ _ _ _ h1,lld.get (by intro _ z; cases z) h2,lld.get (by intro _ z; cases z) h3,h4.imp fun _ _ z=>z.keep lld.ins,h5.imp fun _ _ z=>z.keep lld.ins⟩
   have gdd : GdAt a Hd gq l m R:=⟨ffd _ _ nql nqm gdc.q,ffd _ _ nll nlm' gdc.l,ffd _ _ nml nmm gdc.m,gdc.B.imp fun _ _ z=>z.keep lld.ins,gdc.T.imp fun _ _ z=>z.keep lld.ins⟩
   have std : Strm Hd p:=by
    obtain ⟨u,v,w', e⟩:=bc.2
    exact ⟨u,v,w', ffd _ _ nlp.symm nmp'.symm e⟩
   have frd : ∀ c v,H0 c = some v → Hd c = some v:=fun c v e=>by
    have ncp:=Jfo e hp
    have e2:=b2.1 _ _ ncp (s1 _ _ e)
    exact ffd _ _ (Jfo e2 hl') (Jfo (t1 _ _ e2) hm') (bc.1 _ _ ncp (s1 _ _ e))
   refine ⟨_,rfl,gq,_,rfl,.inl (SqL.of gdd.q),fun q hq=>?_⟩
   have te:=Same.upd (o:=.lst [.int R.c,.int R.g,.ref l,.ref m]) hq
   have ge:=Jfj (H:=Hd) (a:=q) (o:=.lst [.int R.c,.int R.g,.ref l,.ref m])
   generalize upd Hd q (.lst [.int R.c,.int R.g,.ref l,.ref m]) = He at *
   refine ⟨Jg2 _ (by show 0 ≤ 2000; decide),fun bd hbd=>?_⟩
   have tf:=Same.upd (o:=.lst []) hbd
   have gf:=Jfj (H:=He) (a:=bd) (o:=.lst [])
   generalize upd He bd (.lst []) = Hf at *
   have tef:=te.trans tf
   have stf:=std.same tef
   refine ⟨_,rfl,p,3,rfl,stf,by decide,by decide,fun tr Hg x0 x1 bgg=>⟨_,rfl,by omega,by omega,?_⟩⟩
   have gdf:=gdd.same tef
   have nqp : q ≠ p:=Jg1 stf (tf _ _ ge) (fun _ _ _ z=>by cases z)
   have nbp : bd ≠ p:=Jg1 stf gf (fun _ _ _ z=>by cases z)
   have nqb : q ≠ bd:=Jfo ge hbd
   have ngq : gq ≠ q:=Jfo gdd.q hq
   have nlq : l ≠ q:=Jfo gdd.l hq
   have nmq : m ≠ q:=Jfo gdd.m hq
   have ngb : gq ≠ bd:=Jfo (te _ _ gdd.q) hbd
   have nlb : l ≠ bd:=Jfo (te _ _ gdd.l) hbd
   have nmb : m ≠ bd:=Jfo (te _ _ gdd.m) hbd
   refine Jk1 (fun i' σ H'=>(∃ o9 o10 o11,σ = [some (.ref x),some (.int (0 + (i : Int))),some (.ref p),some (.ref gq),some (.ref hd),some (.ref rq),some (.ref o),some (.ref q),some (.ref bd),o9,o10,o11]) ∧ (∃ (bad : List Int) (c g b t : V),H' q = some (.lst [c,g,b,t]) ∧ H' bd = some (.lst (bad.map V.int)) ∧ (∀ n ∈ bad,0 ≤ n ∧ n < 4) ∧ bad.length ≤ i' ∧ Pts K a H' p q bd l m R bad c g b t) ∧ Strm H' p ∧ GdAt a H' gq l m R ∧ RivAt a H' o R ∧ ∀ c v,H0 c = some v → H' c = some v) ?_ ?_ ?_
   ·refine ⟨⟨_,_,_,rfl⟩,⟨[],_,_,_,_,bgg.1 _ _ nqp (tf _ _ ge),bgg.1 _ _ nbp gf,fun n hn=>by simp at hn,Nat.le_refl _,⟨⟨fun z=>by simp at z,fun _=>rfl⟩,⟨fun z=>by simp at z,fun _=>rfl⟩,⟨fun z=>by simp at z,fun _=>rfl⟩,⟨fun z=>by simp at z,fun _=>rfl⟩⟩⟩,bgg.2,gdf.but stf bgg,?_,fun c v e=>bgg.1 _ _ (Jfo e hp) (tef _ _ (frd _ _ e))⟩
    obtain ⟨dx,b,t,h1,h2,h3,h4,h5⟩:=rvd.same tef
    exact ⟨dx,b,t,But.ins stf bgg _ _ _ _ h1,bgg.1 _ _ (Jg1 stf h2 (fun _ _ _ z=>by cases z)) h2,bgg.1 _ _ (Jg1 stf h3 (fun _ _ _ z=>by cases z)) h3,h4.imp fun _ _ z=>z.keep (But.ins stf bgg),h5.imp fun _ _ z=>z.keep (But.ins stf bgg)⟩
   ·rintro i' σ H' hi' ⟨⟨o9,o10,o11,rfl⟩,⟨bad,c,g,b,t,hq', hbd', bdl,bln,pts⟩,st', gd', rv', fr'⟩
    have hi3 : i' < 3:=by omega
    refine ⟨_,rfl,.inl ⟨rfl,_,SqL.of hbd'⟩,_,rfl,_,rfl,_,rfl,p,q,bd,gq,l,m,R,bad,c,g,b,t,rfl,st', hq', ⟨nbp,_,hbd'⟩,ngq,nlq,nmq,gd', ok,pts,fun pl c' g' b' t' H2' p0 p4 ll ff st2 hq2 pts2=>?_⟩
    have hbd2:=ff _ _ nbp nqb.symm hbd'
    have lle:=LL.upd (ys:=bad.map V.int ++ [.int pl]) hbd2
    refine ⟨bd,_,_,rfl,rfl,hbd2,Jh7 (by rw [List.length_map]; omega),⟨_,_,_,rfl⟩,⟨bad ++ [pl],c', g', b', t', by rw [Jfp nqb]; exact hq2,by rw [Jfj,List.map_append]; rfl,fun n hn=>?_,by rw [List.length_append]; show _ + 1 ≤ _; omega,pts2.ll lle (fun b v n1 n2 n3 e=>by rw [Jfp n3]; exact e) fun i=>Iff.rfl⟩,?_,?_,?_,fun c v e=>?_⟩
    ·rcases List.mem_append.mp hn with h | h
     ·exact bdl n h
     ·rw [List.mem_singleton.mp h]; exact ⟨p0,p4⟩
    ·obtain ⟨u,v,w', e⟩:=st2
     exact ⟨u,v,w', by rw [Jfp nbp.symm]; exact e⟩
    ·have ngp : gq ≠ p:=Jg1 st' gd'.q (fun _ _ _ z=>by cases z)
     have nlp2 : l ≠ p:=Jg1 st' gd'.l Jgx
     have nmp2 : m ≠ p:=Jg1 st' gd'.m Jgx
     exact ⟨by rw [Jfp ngb]; exact ff _ _ ngp ngq gd'.q,by rw [Jfp nlb]; exact ff _ _ nlp2 nlq gd'.l,by rw [Jfp nmb]; exact ff _ _ nmp2 nmq gd'.m,gd'.B.imp fun _ _ z=>z.keep (ll.trans lle).ins,gd'.T.imp fun _ _ z=>z.keep (ll.trans lle).ins⟩
    ·obtain ⟨dx,b,t,h1,h2,h3,h4,h5⟩:=rv'
     have l2:=ll.trans lle
     exact ⟨dx,b,t,l2.ins _ _ _ _ h1,l2.get (by intro _ z; cases z) h2,l2.get (by intro _ z; cases z) h3,h4.imp fun _ _ z=>z.keep l2.ins,h5.imp fun _ _ z=>z.keep l2.ins⟩
    ·have e1:=frd _ _ e
     rw [Jfp (Jfo (te _ _ e1) hbd)]
     exact ff _ _ (Jfo e hp) (Jfo e1 hq) (fr' _ _ e)
   rintro σ Hh ⟨⟨o9,o10,o11,rfl⟩,⟨bad,c,g,b,t,hqh,hbh,bdl,bln,pts⟩,sth,gdh,rvh,frh⟩
   refine ⟨_,rfl,q,c,g,b,t,R,rfl,hqh,ok,?_⟩
   by_cases hbe : bad = []
   ·subst hbe
    have ec:=pts.c.2 (by simp)
    have eg:=pts.g.2 (by simp)
    have eb:=pts.b.2 (by simp)
    have et:=pts.t.2 (by simp)
    subst ec eg eb et
    refine .inl ⟨rfl,rfl,⟨l,rfl,.inl gdh.l,gdh.B⟩,⟨m,rfl,.inl gdh.m,gdh.T⟩,fun y o2 Hi si hy rvi=>?_⟩
    refine ⟨_,rfl,rfl,_,rfl,iteN (fun z=>by cases z) ?_⟩
    refine ⟨_,rfl,Jg2 _ (by show 0 ≤ 2000; decide),fun L hL=>?_⟩
    have tj:=Same.upd (o:=.lst []) hL
    have gj:=Jfj (H:=Hi) (a:=L) (o:=.lst [])
    generalize upd Hi L (.lst []) = Hj at *
    have sij:=si.trans tj
    refine ⟨bd,L,[],rfl,rfl,SqL.of (sij _ _ hbh),SqL.of gj,_,rfl,ifF rfl ?_⟩
    refine ⟨_,rfl,y,_,0,_,rfl,rfl,SqT.of (tj _ _ hy),rfl,rfl,_,rfl,ifF (by simp) ?_⟩
    refine ⟨_,rfl,y,_,1,_,rfl,rfl,SqT.of (tj _ _ hy),rfl,_,rfl,o2,gq,l,m,R,rfl,rvi.same tj,gdh.same sij,ok,fun Hk sk=>⟨_,rfl,Jgi ?_⟩⟩
    have sik:=sij.trans sk
    refine ⟨_,rfl,_,rfl,o,gq,l,m,R,rfl,rvh.same sik,gdh.same sik,ok,fun Hl sl=>⟨_,rfl,Jgi ⟨⟨_,_,_,_,_,_,_,_,_,_,_,rfl⟩,fun c v e=>sl _ _ (sik _ _ (frh _ _ (s0 _ _ e)))⟩⟩⟩
   ·obtain ⟨j,kk,xx,hj,hmin,bad', hw,hat,th⟩ : ∃ (j : Int) (kk : Bool) (xx : V),j ∈ bad ∧ (∀ n ∈ bad,j ≤ n) ∧ RvBad K a Hh R c g b t kk xx ∧ wrd4 j = (if kk then ("river" : Str) else "cloud") ∧ atI [c,g,b,t] j = some xx ∧ Thg K Hh xx:=by
     by_cases h0 : (0 : Int) ∈ bad
     ·obtain ⟨⟨tm,wb⟩,th,_⟩:=pts.c.1 h0
      exact ⟨0,false,c,h0,fun n hn=>(bdl n hn).1,.cloud tm wb,rfl,rfl,th⟩
     have ec:=pts.c.2 h0
     subst ec
     by_cases h1 : (1 : Int) ∈ bad
     ·obtain ⟨⟨tm,wb⟩,th,_⟩:=pts.g.1 h1
      refine ⟨1,false,g,h1,fun n hn=>?_,.gain tm wb,rfl,rfl,th⟩
      have:=bdl n hn
      have : n ≠ 0:=fun z=>h0 (z ▸ hn)
      omega
     have eg:=pts.g.2 h1
     subst eg
     by_cases h2 : (2 : Int) ∈ bad
     ·obtain ⟨bi,th,_⟩:=pts.b.1 h2
      refine ⟨2,true,b,h2,fun n hn=>?_,.basins bi,rfl,rfl,th⟩
      have:=bdl n hn
      have : n ≠ 0:=fun z=>h0 (z ▸ hn)
      have : n ≠ 1:=fun z=>h1 (z ▸ hn)
      omega
     have eb:=pts.b.2 h2
     subst eb
     have h3 : (3 : Int) ∈ bad:=by
      cases e : bad with
      | nil=>exact absurd e hbe
      | cons n r =>
       have hn : n ∈ bad:=by rw [e]; exact List.mem_cons_self
       have:=bdl n hn
       have : n ≠ 0:=fun z=>h0 (z ▸ hn)
       have : n ≠ 1:=fun z=>h1 (z ▸ hn)
       have : n ≠ 2:=fun z=>h2 (z ▸ hn)
       have : n = 3:=by omega
       rw [← this,← e]
       exact hn
     obtain ⟨ti,th,_⟩:=pts.t.1 h3
     refine ⟨3,true,t,h3,fun n hn=>?_,.towns ⟨l,rfl,.inl gdh.l,gdh.B⟩ ti,rfl,rfl,th⟩
     have:=bdl n hn
     have : n ≠ 0:=fun z=>h0 (z ▸ hn)
     have : n ≠ 1:=fun z=>h1 (z ▸ hn)
     have : n ≠ 2:=fun z=>h2 (z ▸ hn)
     omega
    refine .inr ⟨kk,xx,bad', fun y Hi si hy=>?_⟩
    rw [← hw] at hy
    refine ⟨_,rfl,rfl,_,rfl,iteN (fun z=>by cases z) ?_⟩
    refine ⟨_,rfl,Jg2 _ (by show 0 ≤ 2000; decide),fun L hL=>?_⟩
    have tj:=Same.upd (o:=.lst []) hL
    have gj:=Jfj (H:=Hi) (a:=L) (o:=.lst [])
    generalize upd Hi L (.lst []) = Hj at *
    have sij:=si.trans tj
    have nem : (!(bad.map V.int).isEmpty) = true:=by
     cases bad with
     | nil=>exact absurd rfl hbe
     | cons _ _=>rfl
    refine ⟨bd,L,_,rfl,rfl,SqL.of (sij _ _ hbh),SqL.of gj,_,rfl,ifT nem ?_⟩
    refine ⟨_,rfl,bd,bad,rfl,sij _ _ hbh,hbe,bdl,fun mm Hk sk hm1 hm2=>?_⟩
    obtain rfl : mm = j:=Int.le_antisymm (hm2 j hj) (hmin mm hm1)
    have sik:=sij.trans sk
    refine ⟨_,rfl,_,rfl,bd,bad,rfl,SqL.of (sik _ _ hbh),hbe,fun m2 h1 h2=>?_⟩
    obtain rfl : m2 = mm:=Int.le_antisymm (h2 mm hj) (hmin m2 h1)
    refine ⟨q,_,_,xx,rfl,rfl,SqL.of (sik _ _ hqh),hat,(show 2 ≤ sizeLine by decide),fun y2 hy2=>?_⟩
    have tl:=Same.upd (o:=.tup [.str (wrd4 m2),xx]) hy2
    have gl:=Jfj (H:=Hk) (a:=y2) (o:=.tup [.str (wrd4 m2),xx])
    generalize upd Hk y2 (.tup [.str (wrd4 m2),xx]) = Hl at *
    have sil:=sik.trans tl
    have hyl:=tl _ _ (sk _ _ (tj _ _ hy))
    refine ⟨_,rfl,_,rfl,y,y2,_,_,[true,true],rfl,rfl,SqT.of hyl,SqT.of gl,rfl,rfl,fun i u v b e1 e2 e3=>?_,_,rfl,ifF rfl ?_⟩
    ·match i with
     | 0=>cases e1; cases e2; cases e3; exact .self (.inl rfl)
     | 1=>cases e1; cases e2; cases e3; exact .self th.1
     | i + 2=>simp at e1
    obtain ⟨_,ty,bb,tx,eb⟩:=th.same sil
    refine ⟨_,rfl,y,_,1,_,rfl,rfl,SqT.of hyl,rfl,_,_,_,ty,bb,rfl,rfl,tx,eb,_,rfl,y2,_,1,_,rfl,rfl,SqT.of gl,rfl,_,_,_,ty,bb,rfl,rfl,tx,eb,rfl,_,rfl,?_⟩
    rw [decide_eq_true rfl]
    refine Jgi ?_
    refine ⟨_,rfl,_,rfl,o,gq,l,m,R,rfl,rvh.same sil,gdh.same sil,ok,fun Hm sm=>⟨_,rfl,Jgi ⟨⟨_,_,_,_,_,_,_,_,_,_,_,rfl⟩,fun c v e=>sm _ _ (sil _ _ (frh _ _ (s0 _ _ e)))⟩⟩⟩
  ·rintro σ H' ⟨⟨o1,o2,o3,o4,o5,o6,o7,o8,o9,o10,o11,rfl⟩,s0⟩
   exact k _
end
theorem tx_mk {K : W.Frag} {mg : Str → Option Value} {f1 f2 f3 f4 f5 f6 f7 f8 f9 f10 f11 f14 f18 f19 f20 f21 f22 f23 f24 f25 f26 f27 f28 f29 f30 f31 f32 f33 f34 f35 f36 f37 f38 f39 f40 f41 C0 C1 C2 C3 C4 C5 C6 C7 C8 C9 C10 C11 : Addr} {d1 d2 d3 d4 d5 d6 d7 d8 d9 d10 d11 d14 d18 d19 d20 d21 d22 d23 d24 d25 d26 d27 d28 d29 d30 d31 d32 d33 d34 d35 d36 d37 d38 d39 d40 d41 : FuncData} {t0 t1 t2 t3 t4 t5 t6 t7 t8 t9 : Tok}
(p0 : FT K mg "is_whole" (top 12) ["thing","low","high"] f7 d7)
(p1 : FT K mg "is_made_of" (top 13) ["text","signs"] f8 d8)
(p2 : FT K mg "is_name" (top 14) ["thing"] f9 d9)
(p3 : FT K mg "are_marks" (top 18) ["thing","lowest"] f10 d10)
(p4 : FT K mg "kept_marks" (top 19) ["marks","lowest"] f11 d11)
(p5 : FT K mg "refuse_no_level" (top 30) ["thing","low","high"] f18 d18)
(p6 : FT K mg "are_unlike" (top 33) ["names"] f21 d21)
(p7 : FT K mg "are_basins" (top 34) ["thing"] f22 d22)
(p8 : FT K mg "are_towns" (top 35) ["thing","basins"] f23 d23)
(p9 : FT K mg "_law_cell" (top 38) ["_law_script","_law_k"] f27 d27)
(p10 : FT K mg "_law_stream" (top 39) ["_law_cell_here"] f28 d28)
(p11 : FT K mg "_law_take" (top 40) ["_law_stream_here","_law_many"] f29 d29)
(p12 : FT K mg "_law_names" (top 41) ["_law_stream_here","_law_many"] f30 d30)
(p13 : FT K mg "_law_river" (top 42) ["_law_stream_here"] f31 d31)
(p14 : FT K mg "_law_no_number" (top 43) ["_law_stream_here","_law_high"] f32 d32)
(p15 : FT K mg "_law_no_basins" (top 44) ["_law_stream_here","_law_basins"] f33 d33)
(p16 : FT K mg "_law_strange" (top 45) ["_law_basins"] f34 d34)
(p17 : FT K mg "_law_no_towns" (top 46) ["_law_stream_here","_law_basins","_law_towns"] f35 d35)
(p18 : FT K mg "_law_spoilt" (top 47) ["_law_stream_here","_law_parts","_law_good"] f36 d36)
(p19 : FT K mg "_law_due" (top 48) ["_law_bad"] f37 d37)
(p20 : FT K mg "_law_told" (top 49) ["_law_e","_law_word","_law_thing"] f38 d38)
(p21 : FT K mg "_law_made" (top 50) ["_law_parts"] f39 d39)
(p22 : FT K mg "_law_right" (top 51) ["_law_river_here","_law_good"] f40 d40)
(p23 : FT K mg "law" (top 52) ["_law_script"] f41 d41)
(p24 : mg "LETTERS" = some (.str "abcdefghijklmnopqrstuvwxyz" t0))
(p25 : mg "MOST_LETTERS" = some (.int 8 t1))
(p26 : mg "MOST_SETTINGS" = some (.int 4 t2))
(p27 : mg "HIGHEST_MARK" = some (.int 12 t3))
(p28 : mg "HIGHEST" = some (.int 12 t4))
(p29 : mg "MOST_RAIN" = some (.int 6 t5))
(p30 : mg "MOST_WANT" = some (.int 6 t6))
(p31 : mg "MOST_CLOUD" = some (.int 12 t7))
(p32 : mg "MOST_BASINS" = some (.int 16 t8))
(p33 : mg "MOST_TOWNS" = some (.int 3 t9))
(p34 : mg "all" = none)
(p35 : mg "bool" = none)
(p36 : mg "enumerate" = none)
(p37 : mg "int" = none)
(p38 : mg "isinstance" = none)
(p39 : mg "len" = none)
(p40 : mg "list" = none)
(p41 : mg "max" = none)
(p42 : mg "min" = none)
(p43 : mg "range" = none)
(p44 : mg "set" = none)
(p45 : mg "str" = none)
(p46 : mg "tuple" = none)
(p47 : mg "WeirError" = some (.ref C0))
(p48 : mg "NoName" = some (.ref C1))
(p49 : mg "NoGate" = some (.ref C2))
(p50 : mg "NoBasin" = some (.ref C3))
(p51 : mg "NoTown" = some (.ref C4))
(p52 : mg "NoCloud" = some (.ref C5))
(p53 : mg "NoRiver" = some (.ref C6))
(p54 : mg "Gate" = some (.ref C7))
(p55 : mg "StepGate" = some (.ref C8))
(p56 : mg "Basin" = some (.ref C9))
(p57 : mg "Town" = some (.ref C10))
(p58 : mg "River" = some (.ref C11))
(p59 : W.findIn K (.ref C1) "__init__" = some (some (.ref f1)))
(p60 : FM K "__init__" "NoName.__init__" (Jg0 (top 3) 0) ["self","thing"] f1 d1)
(p61 : W.findIn K (.ref C2) "__init__" = some (some (.ref f2)))
(p62 : FM K "__init__" "NoGate.__init__" (Jg0 (top 4) 0) ["self","thing"] f2 d2)
(p63 : W.findIn K (.ref C3) "__init__" = some (some (.ref f3)))
(p64 : FM K "__init__" "NoBasin.__init__" (Jg0 (top 5) 0) ["self","thing"] f3 d3)
(p65 : W.findIn K (.ref C4) "__init__" = some (some (.ref f4)))
(p66 : FM K "__init__" "NoTown.__init__" (Jg0 (top 6) 0) ["self","thing"] f4 d4)
(p67 : W.findIn K (.ref C5) "__init__" = some (some (.ref f5)))
(p68 : FM K "__init__" "NoCloud.__init__" (Jg0 (top 7) 0) ["self","thing"] f5 d5)
(p69 : W.findIn K (.ref C6) "__init__" = some (some (.ref f6)))
(p70 : FM K "__init__" "NoRiver.__init__" (Jg0 (top 8) 0) ["self","thing"] f6 d6)
(p71 : W.findIn K (.ref C8) "__init__" = some (some (.ref f14)))
(p72 : FM K "__init__" "StepGate.__init__" (Jg0 (top 22) 0) ["self","marks"] f14 d14)
(p73 : W.findIn K (.ref C9) "__init__" = some (some (.ref f19)))
(p74 : FM K "__init__" "Basin.__init__" (Jg0 (top 31) 0) ["self","name","low","high","start","rain","gate"] f19 d19)
(p75 : W.findIn K (.ref C10) "__init__" = some (some (.ref f20)))
(p76 : FM K "__init__" "Town.__init__" (Jg0 (top 32) 0) ["self","name","basin","want"] f20 d20)
(p77 : W.findIn K (.ref C11) "__init__" = some (some (.ref f24)))
(p78 : FM K "__init__" "River.__init__" (Jg0 (top 36) 0) ["self","cloud","gain","basins","towns"] f24 d24)
(p79 : W.findIn K (.ref C11) "place_of" = some (some (.ref f25)))
(p80 : FM K "place_of" "River.place_of" (Jg0 (top 36) 1) ["self","name"] f25 d25)
(p81 : W.findIn K (.ref C11) "beginning" = some (some (.ref f26)))
(p82 : FM K "beginning" "River.beginning" (Jg0 (top 36) 2) ["self"] f26 d26)
(p83 : XCls K C1 C0 f1)
(p84 : XCls K C2 C0 f2)
(p85 : W.findIn K (.ref C2) "thing" = some none)
(p86 : XCls K C3 C0 f3)
(p87 : W.findIn K (.ref C3) "thing" = some none)
(p88 : XCls K C4 C0 f4)
(p89 : XCls K C5 C0 f5)
(p90 : W.findIn K (.ref C5) "thing" = some none)
(p91 : XCls K C6 C0 f6)
(p92 : W.findIn K (.ref C6) "thing" = some none)
(p93 : Cls K C8)
(p94 : YCls K C8)
(p95 : Mk K C8 f14)
(p96 : W.findIn K (.ref C8) "marks" = some none)
(p97 : Cls K C9)
(p98 : YCls K C9)
(p99 : Mk K C9 f19)
(p100 : W.findIn K (.ref C9) "name" = some none)
(p101 : W.findIn K (.ref C9) "low" = some none)
(p102 : W.findIn K (.ref C9) "high" = some none)
(p103 : W.findIn K (.ref C9) "start" = some none)
(p104 : W.findIn K (.ref C9) "rain" = some none)
(p105 : W.findIn K (.ref C9) "gate" = some none)
(p106 : Cls K C10)
(p107 : YCls K C10)
(p108 : Mk K C10 f20)
(p109 : W.findIn K (.ref C10) "name" = some none)
(p110 : W.findIn K (.ref C10) "basin" = some none)
(p111 : W.findIn K (.ref C10) "want" = some none)
(p112 : Cls K C11)
(p113 : Mk K C11 f24)
(p114 : Jnj K C11 "place_of" f25)
(p115 : Jnj K C11 "beginning" f26)
(p116 : W.findIn K (.ref C11) "cloud" = some none)
(p117 : W.findIn K (.ref C11) "gain" = some none)
(p118 : W.findIn K (.ref C11) "basins" = some none)
(p119 : W.findIn K (.ref C11) "towns" = some none)
(p120 : W.kitOne K (.ref C8) (.ref C7) = some true)
(p121 : W.kitOne K (.type "NoneType") (.ref C9) = some false)
(p122 : W.kitOne K (.type "int") (.ref C9) = some false)
(p123 : W.kitOne K (.type "str") (.ref C9) = some false)
(p124 : W.kitOne K (.type "tuple") (.ref C9) = some false)
(p125 : W.kitOne K (.type "NoneType") (.ref C10) = some false)
(p126 : W.kitOne K (.type "int") (.ref C10) = some false)
(p127 : W.kitOne K (.type "str") (.ref C10) = some false)
(p128 : W.kitOne K (.type "tuple") (.ref C10) = some false)
(p129 : W.kitOne K (.ref C9) (.ref C9) = some true)
(p130 : W.kitOne K (.ref C9) (.ref C10) = some false)
(p131 : W.kitOne K (.ref C10) (.ref C9) = some false)
(p132 : W.kitOne K (.ref C10) (.ref C10) = some true)
(p133 : W.kitAny K (.ref C9) [.type "list",.type "tuple"] = some false)
(p134 : W.kitOne K (.ref C9) (.type "bool") = some false)
(p135 : W.findIn K (.ref C9) "__eq__" = some (some (.builtin "object.__eq__")))
(p136 : W.mroIn K C9 (.type "str") = some false)
(p137 : W.mroIn K C9 (.type "object") = some true)
(p138 : W.kitOne K (.ref C5) (.ref C5) = some true)
(p139 : W.kitOne K (.ref C5) (.ref C6) = some false)
(p140 : W.kitOne K (.ref C5) (.ref C3) = some false)
(p141 : W.kitOne K (.ref C5) (.ref C1) = some false)
(p142 : W.kitOne K (.ref C5) (.ref C4) = some false)
(p143 : W.kitOne K (.ref C6) (.ref C5) = some false)
(p144 : W.kitOne K (.ref C6) (.ref C6) = some true)
(p145 : W.kitOne K (.ref C6) (.ref C3) = some false)
(p146 : W.kitOne K (.ref C6) (.ref C1) = some false)
(p147 : W.kitOne K (.ref C6) (.ref C4) = some false)
(p148 : W.kitOne K (.ref C5) (.ref C0) = some true)
(p149 : W.kitOne K (.ref C6) (.ref C0) = some true)
(p150 : W.mroIn K C5 (.ref C5) = some true)
(p151 : W.mroIn K C6 (.ref C5) = some false)
(p152 : W.mroIn K C6 (.ref C6) = some true) :
  ∃ a : Ad,a.d_law = d41 ∧ Tx K mg a:=⟨⟨f1,d1,f2,d2,f3,d3,f4,d4,f5,d5,f6,d6,f7,d7,f8,d8,f9,d9,f10,d10,f11,d11,f14,d14,f18,d18,f19,d19,f20,d20,f21,d21,f22,d22,f23,d23,f24,d24,f25,d25,f26,d26,f27,d27,f28,d28,f29,d29,f30,d30,f31,d31,f32,d32,f33,d33,f34,d34,f35,d35,f36,d36,f37,d37,f38,d38,f39,d39,f40,d40,f41,d41,t0,t1,t2,t3,t4,t5,t6,t7,t8,t9,C0,C1,C2,C3,C4,C5,C6,C7,C8,C9,C10,C11⟩,rfl,⟨p0,p1,p2,p3,p4,p5,p6,p7,p8,p9,p10,p11,p12,p13,p14,p15,p16,p17,p18,p19,p20,p21,p22,p23,p24,p25,p26,p27,p28,p29,p30,p31,p32,p33,p34,p35,p36,p37,p38,p39,p40,p41,p42,p43,p44,p45,p46,p47,p48,p49,p50,p51,p52,p53,p54,p55,p56,p57,p58,p60,p62,p64,p66,p68,p70,p72,p74,p76,p78,p80,p82,p83,p84,p85,p86,p87,p88,p89,p89.e,p90,p91,p91.e,p92,p93,p94,p95,p96,p97,p98,p99,p100,p101,p102,p103,p104,p105,p106,p107,p108,p109,p110,p111,p112,p113,p114,p115,p116,p117,p118,p119,p120,p121,p122,p123,p124,p125,p126,p127,p128,p129,p130,p131,p132,p133,p134,p135,p136,p137,p138,p139,p140,p141,p142,p143,p144,p145,p146,p147,p148,p149,p150,p151,p152⟩⟩
theorem tx_fin {K : W.Frag} {mg : Str → Option Value} {d : FuncData} (h : ∃ a : Ad,a.d_law = d ∧ Tx K mg a) (b : ∀ (s : Shared) (v : Value),BindsTo s d ⟨[v],[]⟩ [("_law_script",v)]) : ∃ a : Ad,(∀ (s : Shared) (v : Value),BindsTo s a.d_law ⟨[v],[]⟩ [("_law_script",v)]) ∧ Tx K mg a:=by
 obtain ⟨a,e,T⟩:=h
 exact ⟨a,by rw [e]; exact b,T⟩
end K05
namespace PySem.W.Fast
def tw17712925982043374755:=()
def tw701684350931648862:=()
def tw7836561122538281119:=()
def tw18402873216722140983:=()
def tw3479047774207282101:=()
def tw7004549447960093347:=()
def tw12575183308374467573:=()
def tw9071047925758252521:=()
def tw11774364392405843729:=()
def tw16883495460934036687:=()
def tw13975370358641418909:=()
def tw13237520673384458627:=()
def tw7743276789103981587:=()
def tw15661508547953294775:=()
def tw6991805153826705261:=()
def tw17081565926861165891:=()
def tw6455768249223157509:=()
def tw9759058996701925125:=()
def tw9910822912525892014:=()
def tw3952671103004482958:=()
def tw3434431702248262506:=()
def tw15120291176797293623:=()
def tw1686157110931399454:=()
def tw16827685292897316421:=()
def tw7253418459101067955:=()
def tw14482324894146109409:=()
def tw6974909004373681495:=()
def tw5521442536679633113:=()
def tw13243518546541374554:=()
def tw10678916352627725852:=()
def tw7096046034272795645:=()
def tw6852847532642365697:=()
def tw4462057974467683535:=()
def tw13533753035475578993:=()
def tw7177591899225219107:=()
def tw3308740817293349787:=()
def tw3605162097706106481:=()
def tw19821943068718514:=()
def tw5369240902011643541:=()
def tw3985358191244511362:=()
def tw11840933030551213147:=()
def tw15430030250173898414:=()
def tw6040820755252672896:=()
def tw8102179152074939251:=()
def tw836563210042432711:=()
def tw10467283405518021255:=()
def tw5771384169735738601:=()
def tw12103838168611364051:=()
def tw12257786214354594630:=()
def tw6795917732619460723:=()
def tw1988511099899434207:=()
def tw16365092777858030477:=()
def tw10897038963209043196:=()
def tw17390640516965732065:=()
def tw12632950696764179693:=()
def tw17574714101893292415:=()
def tw13077766860261900438:=()
def tw3193928149574605399:=()
def tw7077899573177045800:=()
def tw13268539861605568385:=()
def tw16450219975577883287:=()
def tw10700566595078799568:=()
def tw15723082566094108045:=()
def tw11556775025495109570:=()
def tw5410651638959215177:=()
def tw16777701599465439817:=()
def tw16440922387088749840:=()
def tw15073846599346328959:=()
def tw14582837680879547205:=()
def tw16247480998268820191:=()
def tw8805591853625359484:=()
def tw1359582864040642659:=()
def tw532596770216049155:=()
def tw9180604217443182400:=()
def tw8977473298493692529:=()
def tw7820114833098064450:=()
def tw3598712389327965178:=()
def tw4926316037280327910:=()
def tw6586453441826429774:=()
def tw9044827409459306737:=()
def tw8671914941442600298:=()
def tw7320655965461389552:=()
def tw11087027401769955798:=()
def tw15220517713835445569:=()
def tw9999949089919327250:=()
def tw8009300626066710102:=()
def tw6596041790241387846:=()
def tw5609359806585464692:=()
def tw8360694056758705014:=()
def tw9617314733250987666:=()
def tw6286959488287017445:=()
def tw5060404564332969320:=()
def tw704394945566088590:=()
def tw1556722375644238446:=()
def tw7657728336802772083:=()
def tw4240610254183693712:=()
def tw3251251132617271849:=()
def tw6109473111983352239:=()
def tw5323045473584682113:=()
def tw14211565318251176567:=()
def tw15688437385723703144:=()
def tw6503203142872185899:=()
def tw7498149447624651278:=()
def tw18193333050790922784:=()
def tw2576466842626519994:=()
def tw12702969245732413508:=()
def tw3299414324528328692:=()
def tw4198631482289755775:=()
def tw8644477225734891538:=()
def tw6235679067424877035:=()
def tw5620332147148048497:=()
def tw446333494102857568:=()
def tw1910578387283897274:=()
def tw13244768233683810335:=()
def tw4456574701987145486:=()
def tw13260389180752642490:=()
def tw8901496518295895578:=()
def tw599207837279175057:=()
def tw1377564053122585734:=()
def tw6192074679039475067:=()
def tw7183051874241497148:=()
def tw7151324144298518816:=()
def tw8330868207165985270:=()
def tw10583108069738406375:=()
def tw7533392772349434604:=()
def tw14726482412593372064:=()
def tw5455973001085988730:=()
def tw8907426727091996010:=()
def tw7189946806089042854:=()
def tw12785095093678126772:=()
def tw6108434045434549447:=()
def tw15421633847254611620:=()
def tw8295157232367577320:=()
def tw11032578569387656542:=()
def tw16522545134441367653:=()
def tw13633239311097181068:=()
def tw10441269345015999610:=()
def tw15962679806832040206:=()
def tw13420635094080946159:=()
def tw9366839844130529035:=()
def tw8085394237768183183:=()
def tw1618770980219779682:=()
def tw6823636490261063707:=()
def tw14067629305070636928:=()
def tw8128524501345825542:=()
def tw11938138633577154313:=()
def tw15993854135750566796:=()
def tw2926239778798299808:=()
def tw14982626433865322032:=()
def tw7334551840431723220:=()
def tw16276314649379490363:=()
def tw1182266426353346286:=()
def tw16710083976967704110:=()
def tw5038700347308426590:=()
def tw17580172749823464451:=()
def tw11912557812095653365:=()
def tw11623228418061912062:=()
def tw11317447796791970107:=()
def tw9419606068394746622:=()
def tw10628441093171229158:=()
def tw13512387278580597597:=()
def tw1155544302505388325:=()
def tw8155747751508152339:=()
def tw694602154046237948:=()
def tw8634603502215066871:=()
def tw14180725084071216046:=()
def tw8618449181063976970:=()
def tw2817849370369472604:=()
def tw17827214396569401368:=()
def tw13839962955842100027:=()
def tw17896082185039832686:=()
def tw11209059503165212440:=()
def tw4118118876891632092:=()
def tw13985070222948558679:=()
def tw13743031908728713015:=()
def tw14545005363754119537:=()
def tw7923766018227793538:=()
def tw3079881133338716794:=()
def tw3889069161600039709:=()
def tw1731118298867604770:=()
def tw15548327144288853033:=()
def tw5296435292073950728:=()
def tw6251232235305195207:=()
def tw3523660838962957356:=()
def tw8692041144507514987:=()
def tw312949416446888111:=()
def tw8583182145137809514:=()
def tw2329737070508929351:=()
def tw14247643499772530373:=()
def tw2385997652894844263:=()
def tw4684313603532726713:=()
def tw6707523088030920866:=()
def tw10708582771197874763:=()
def tw555933011766828087:=()
def tw2254718668686216065:=()
def tw18410311782063386992:=()
def tw11237073550325132992:=()
def tw4188547017499095486:=()
def tw4639464312072180651:=()
def tw9427692981091690099:=()
def tw15115159593318758565:=()
def tw12118071198718975181:=()
def tw10414497973696779845:=()
def tw14489693629953262253:=()
def tw11128303333910059761:=()
def tw15274527445762897984:=()
def tw164073536269967616:=()
def tw12880507695144103785:=()
def tw9563311189565115484:=()
def tw4446332096915843419:=()
def tw11289441568091200320:=()
def tw17576358383503425743:=()
def tw659539371326287673:=()
def tw7498572722813512206:=()
def tw18299212007270908592:=()
def tw14581136500511443448:=()
def tw2958556491291174003:=()
def tw2737061049618084848:=()
def tw18073781093315295373:=()
def tw10012379313845091515:=()
def tw5106161699249006928:=()
def tw14904556980506859383:=()
def tw13282353921832127457:=()
def tw16242821147269787546:=()
def tw12395424649919716360:=()
def tw2492240745013217542:=()
def tw2493441491716738358:=()
def tw3286492093275364472:=()
def tw14618290198879127580:=()
def tw17290327811019239727:=()
def tw1384292121380849901:=()
def tw8938110035863194051:=()
def tw15601862455570367885:=()
def tw2725847410670465334:=()
def tw11600847738077673988:=()
def tw12877629829401701891:=()
def tw13462229887630990006:=()
def tw14449225568667133836:=()
def tw13363609615654714625:=()
def tw7697445498775064851:=()
def tw13873183239226174859:=()
def tw12538954368507182700:=()
def tw10520883526043526288:=()
def tw13638178476856903001:=()
def tw14768491910035542327:=()
def tw9069723809249259648:=()
def tw10817605299651423838:=()
def tw5576389679463025655:=()
def tw5801368749823914240:=()
def tw9613894185305580247:=()
def tw4715389526315245577:=()
def tw17395477214110433252:=()
def tw12200950066029628434:=()
def tw14761582121108699115:=()
def tw5657824824342647654:=()
def tw6785844178738538519:=()
def tw5531670899667454963:=()
def tw6318977277816000723:=()
def tw15239488439706403691:=()
def tw16933733831369132880:=()
def tw11112675061618989818:=()
def tw14067466101883270140:=()
def tw5086806727031309434:=()
def tw15155736031602659605:=()
def tw13267884478918151843:=()
def tw1022907585059571468:=()
def tw8498890827337216948:=()
def tw15859322262915911252:=()
def tw5452187725060596725:=()
def tw10980178283700762237:=()
def tw17539421622466745733:=()
def tw8214285633088378147:=()
def tw3159258307661428117:=()
def tw11171205717938858095:=()
def tw16924109960722404529:=()
def tw14335391148377663383:=()
def tw10204661223884099998:=()
def tw10096125761025767068:=()
def tw2597478418071516486:=()
def tw5744991532987836826:=()
def tw3541696936793339686:=()
def tw13527382793412502366:=()
def tw13379197167463392047:=()
def tw15600857973385284581:=()
def tw5549976726663013965:=()
def tw7550439187498805070:=()
def tw12551255332249228471:=()
def tw15315128291133388581:=()
def tw9030333050559602734:=()
def tw4825872709201115829:=()
def tw8088746397311222527:=()
def tw7893018095845968742:=()
def tw12655848561070618860:=()
def tw7051860211674727124:=()
def tw11299707515679320824:=()
def tw3846296978867879952:=()
def tw17083732860502145083:=()
def tw14808390122014249334:=()
def tw16800449364290230208:=()
def tw12758027738675472078:=()
def tw10184983299634548175:=()
def tw1365860539425556196:=()
def tw4976977850586600334:=()
def tw6034551555329304488:=()
def tw11132012252190345779:=()
def tw16019180646130047665:=()
def tw12724709453304715584:=()
def tw16824600279674567736:=()
def tw13353181101023033576:=()
def tw15536856747371773738:=()
def tw10637650107401967073:=()
def tw5249415058654463059:=()
def tw17829211309003843943:=()
def tw14308785689752616930:=()
def tw2176945480196572165:=()
def tw5214884443558399686:=()
def tw5702870170758162215:=()
def tw17183821321066465701:=()
def tw15831687843224521277:=()
def tw14354300511465175660:=()
def tw2612849273858462331:=()
def tw17548142742332549276:=()
def tw18139030853571559833:=()
def tw16047406088883232410:=()
def tw11016285913165671738:=()
def tw3371459403462186673:=()
def tw12229735240820746544:=()
def tw15567550253595901269:=()
def tw16807362261429190038:=()
def tw13165426480817373550:=()
def tw14313384884195360011:=()
def tw10487222393887396255:=()
def tw3965839390405529143:=()
def tw6321815262449221693:=()
def tw7711197132146192809:=()
def tw11345288689332679214:=()
def tw8443005908677921402:=()
def tw4701415580263721493:=()
def tw12204389445632364765:=()
def tw8980818394476106342:=()
def tw11537600660448147034:=()
def tw387640906312860770:=()
def tw4707891198932867315:=()
def tw4416616753301817423:=()
def tw15395832322815489571:=()
def tw17021705616598880038:=()
def tw5107714541990439424:=()
def tw2224608902809813494:=()
def tw6774049588785434674:=()
def tw14936607836925058750:=()
def tw1839468909774203363:=()
def tw11443845398382688425:=()
def tw4377475571128279919:=()
def tw4175647781559476807:=()
def tw803487526752894997:=()
def tw3246368078048005012:=()
def tw12681179266314697046:=()
def tw11698826817677405107:=()
def tw9895291873852598667:=()
def tw3933604669960340434:=()
def tw16556161281501663157:=()
def tw8317606462948348242:=()
def tw6615419689594056931:=()
def tw16205144800134126208:=()
def tw12628062437204658667:=()
def tw2727369961237292356:=()
def tw11443770413648645014:=()
def tw6588340173346791921:=()
def tw2451459256019522435:=()
def tw341770608291707111:=()
def tw11390719590172917385:=()
def tw13347408996620740184:=()
def tw15383333120286977678:=()
def tw6956003494028697182:=()
def tw11724908848473748819:=()
def tw18178220828102936920:=()
def tw17012666133690864763:=()
def tw3694259210583691009:=()
def tw15231757814447808181:=()
def tw4306136375308633729:=()
def tw8064930637592840849:=()
def tw3014382806944271298:=()
def tw13103557949954479168:=()
def tw6497800331431670408:=()
def tw9617402981731028300:=()
def tw9128473966265930845:=()
def tw11352400779412614246:=()
def tw7457947288348541207:=()
def tw15597916884893695048:=()
def tw18331538651104620340:=()
def tw13375957943217104227:=()
def tw7091190074756856920:=()
def tw13673122337260357641:=()
def tw10031495129177126053:=()
def tw3406632630598864714:=()
def tw17308520708496235432:=()
def tw16139097864641748519:=()
def tw4888795301138600903:=()
def tw6412160069969898750:=()
def tw9444708427609137455:=()
def tw10378552656447906303:=()
def tw12554573524515725887:=()
def tw12765440059349373887:=()
def tw10667256173151087132:=()
def tw11785731003373009699:=()
def tw6164617377982617439:=()
def tw13671177588898026015:=()
def tw13440760088840598343:=()
def tw1788515472799472280:=()
def tw3845311779736876456:=()
def tw957722155921491982:=()
def tw6154905500081718841:=()
def tw3919371699927266660:=()
def tw9863429428632906066:=()
def tw17879053615600368207:=()
def tw5882990785511493311:=()
def tw14754074631492370899:=()
def tw3203372172263044782:=()
def tw10937172923686946172:=()
def tw3688645440063535471:=()
def tw1709556580204431868:=()
end PySem.W.Fast
open PySem PySem.W PyProof.Rows
set_option maxRecDepth 100000 in
set_option maxHeartbeats 0 in
theorem PySem.Challenge.cw_weirwatch_k05_rivers_made_holds : PySem.Challenge.rw_weirwatch_k05_rivers_made.Holds := by
 w_on; o_law; k_head; (case hw=>w_witness2)
 k_fill
 refine L2.walk_ofK (l:=PySem.Challenge.rw_weirwatch_k05_rivers_made) (n:=63) (k:=8) (x := "_law_script") (CX:=L2.CX0) (sp:=K05.spLaw) rfl (by decide) rfl ⟨rfl,by decide,by decide⟩ (fun w h Y=>PySem.W.kIn_of Y) ?F ?S ?C
 case F =>
  intro w mg fa h KX G hmg
  have T : ∃ a : K05.Ad,(∀ (s : Shared) (v : Value),BindsTo s a.d_law ⟨[v],[]⟩ [("_law_script",v)]) ∧ K05.Tx (L2.KOf KX) mg a:=by
   dsimp only [L2.KOf]
   refine' K05.tx_fin ?tx ?bb
   case tx =>
    refine' K05.tx_mk (L2.ft_mk KX G ?h0 ?h1 ?h2 ?h3 fun _ _ _ _ _ _ u h=>match u,h with | [_,_,_],_=>rfl) (L2.ft_mk KX G ?h4 ?h5 ?h6 ?h7 fun _ _ _ _ _ _ u h=>match u,h with | [_,_],_=>rfl) (L2.ft_mk KX G ?h8 ?h9 ?h10 ?h11 fun _ _ _ _ _ _ u h=>match u,h with | [_],_=>rfl) (L2.ft_mk KX G ?h12 ?h13 ?h14 ?h15 fun _ _ _ _ _ _ u h=>match u,h with | [_,_],_=>rfl) (L2.ft_mk KX G ?h16 ?h17 ?h18 ?h19 fun _ _ _ _ _ _ u h=>match u,h with | [_,_],_=>rfl) (L2.ft_mk KX G ?h20 ?h21 ?h22 ?h23 fun _ _ _ _ _ _ u h=>match u,h with | [_,_,_],_=>rfl) (L2.ft_mk KX G ?h24 ?h25 ?h26 ?h27 fun _ _ _ _ _ _ u h=>match u,h with | [_],_=>rfl) (L2.ft_mk KX G ?h28 ?h29 ?h30 ?h31 fun _ _ _ _ _ _ u h=>match u,h with | [_],_=>rfl) (L2.ft_mk KX G ?h32 ?h33 ?h34 ?h35 fun _ _ _ _ _ _ u h=>match u,h with | [_,_],_=>rfl) (L2.ft_mk KX G ?h36 ?h37 ?h38 ?h39 fun _ _ _ _ _ _ u h=>match u,h with | [_,_],_=>rfl) (L2.ft_mk KX G ?h40 ?h41 ?h42 ?h43 fun _ _ _ _ _ _ u h=>match u,h with | [_],_=>rfl) (L2.ft_mk KX G ?h44 ?h45 ?h46 ?h47 fun _ _ _ _ _ _ u h=>match u,h with | [_,_],_=>rfl) (L2.ft_mk KX G ?h48 ?h49 ?h50 ?h51 fun _ _ _ _ _ _ u h=>match u,h with | [_,_],_=>rfl) (L2.ft_mk KX G ?h52 ?h53 ?h54 ?h55 fun _ _ _ _ _ _ u h=>match u,h with | [_],_=>rfl) (L2.ft_mk KX G ?h56 ?h57 ?h58 ?h59 fun _ _ _ _ _ _ u h=>match u,h with | [_,_],_=>rfl) (L2.ft_mk KX G ?h60 ?h61 ?h62 ?h63 fun _ _ _ _ _ _ u h=>match u,h with | [_,_],_=>rfl) (L2.ft_mk KX G ?h64 ?h65 ?h66 ?h67 fun _ _ _ _ _ _ u h=>match u,h with | [_],_=>rfl) (L2.ft_mk KX G ?h68 ?h69 ?h70 ?h71 fun _ _ _ _ _ _ u h=>match u,h with | [_,_,_],_=>rfl) (L2.ft_mk KX G ?h72 ?h73 ?h74 ?h75 fun _ _ _ _ _ _ u h=>match u,h with | [_,_,_],_=>rfl) (L2.ft_mk KX G ?h76 ?h77 ?h78 ?h79 fun _ _ _ _ _ _ u h=>match u,h with | [_],_=>rfl) (L2.ft_mk KX G ?h80 ?h81 ?h82 ?h83 fun _ _ _ _ _ _ u h=>match u,h with | [_,_,_],_=>rfl) (L2.ft_mk KX G ?h84 ?h85 ?h86 ?h87 fun _ _ _ _ _ _ u h=>match u,h with | [_],_=>rfl) (L2.ft_mk KX G ?h88 ?h89 ?h90 ?h91 fun _ _ _ _ _ _ u h=>match u,h with | [_,_],_=>rfl) (L2.ft_mk KX G ?h92 ?h93 ?h94 ?h95 fun _ _ _ _ _ _ u h=>match u,h with | [_],_=>rfl) (PySem.W.mg_of KX G ?h96) (PySem.W.mg_of KX G ?h97) (PySem.W.mg_of KX G ?h98) (PySem.W.mg_of KX G ?h99) (PySem.W.mg_of KX G ?h100) (PySem.W.mg_of KX G ?h101) (PySem.W.mg_of KX G ?h102) (PySem.W.mg_of KX G ?h103) (PySem.W.mg_of KX G ?h104) (PySem.W.mg_of KX G ?h105) (PySem.W.mg_none_of KX G ?h106) (PySem.W.mg_none_of KX G ?h107) (PySem.W.mg_none_of KX G ?h108) (PySem.W.mg_none_of KX G ?h109) (PySem.W.mg_none_of KX G ?h110) (PySem.W.mg_none_of KX G ?h111) (PySem.W.mg_none_of KX G ?h112) (PySem.W.mg_none_of KX G ?h113) (PySem.W.mg_none_of KX G ?h114) (PySem.W.mg_none_of KX G ?h115) (PySem.W.mg_none_of KX G ?h116) (PySem.W.mg_none_of KX G ?h117) (PySem.W.mg_none_of KX G ?h118) (PySem.W.mg_of KX G ?h119) (PySem.W.mg_of KX G ?h120) (PySem.W.mg_of KX G ?h121) (PySem.W.mg_of KX G ?h122) (PySem.W.mg_of KX G ?h123) (PySem.W.mg_of KX G ?h124) (PySem.W.mg_of KX G ?h125) (PySem.W.mg_of KX G ?h126) (PySem.W.mg_of KX G ?h127) (PySem.W.mg_of KX G ?h128) (PySem.W.mg_of KX G ?h129) (PySem.W.mg_of KX G ?h130) ?h131 (L2.fm_mk ?h132 ?h133 ?h134 fun _ _ _ _ _ _ u h=>match u,h with | [_,_],_=>rfl) ?h135 (L2.fm_mk ?h136 ?h137 ?h138 fun _ _ _ _ _ _ u h=>match u,h with | [_,_],_=>rfl) ?h139 (L2.fm_mk ?h140 ?h141 ?h142 fun _ _ _ _ _ _ u h=>match u,h with | [_,_],_=>rfl) ?h143 (L2.fm_mk ?h144 ?h145 ?h146 fun _ _ _ _ _ _ u h=>match u,h with | [_,_],_=>rfl) ?h147 (L2.fm_mk ?h148 ?h149 ?h150 fun _ _ _ _ _ _ u h=>match u,h with | [_,_],_=>rfl) ?h151 (L2.fm_mk ?h152 ?h153 ?h154 fun _ _ _ _ _ _ u h=>match u,h with | [_,_],_=>rfl) ?h155 (L2.fm_mk ?h156 ?h157 ?h158 fun _ _ _ _ _ _ u h=>match u,h with | [_,_],_=>rfl) ?h159 (L2.fm_mk ?h160 ?h161 ?h162 fun _ _ _ _ _ _ u h=>match u,h with | [_,_,_,_,_,_,_],_=>rfl) ?h163 (L2.fm_mk ?h164 ?h165 ?h166 fun _ _ _ _ _ _ u h=>match u,h with | [_,_,_,_],_=>rfl) ?h167 (L2.fm_mk ?h168 ?h169 ?h170 fun _ _ _ _ _ _ u h=>match u,h with | [_,_,_,_,_],_=>rfl) ?h171 (L2.fm_mk ?h172 ?h173 ?h174 fun _ _ _ _ _ _ u h=>match u,h with | [_,_],_=>rfl) ?h175 (L2.fm_mk ?h176 ?h177 ?h178 fun _ _ _ _ _ _ u h=>match u,h with | [_],_=>rfl) (L2.xc_mk ?h179 ?h180 ?h181) (L2.xc_mk ?h182 ?h183 ?h184) ?h185 (L2.xc_mk ?h186 ?h187 ?h188) ?h189 (L2.xc_mk ?h190 ?h191 ?h192) (L2.xc_mk ?h193 ?h194 ?h195) ?h196 (L2.xc_mk ?h197 ?h198 ?h199) ?h200 ⟨?h201,?h202,?h203,?h204⟩ ⟨?h205,?h206,?h207,?h208⟩ ⟨?h209,?h210,?h211,?h212⟩ ?h213 ⟨?h214,?h215,?h216,?h217⟩ ⟨?h218,?h219,?h220,?h221⟩ ⟨?h222,?h223,?h224,?h225⟩ ?h226 ?h227 ?h228 ?h229 ?h230 ?h231 ⟨?h232,?h233,?h234,?h235⟩ ⟨?h236,?h237,?h238,?h239⟩ ⟨?h240,?h241,?h242,?h243⟩ ?h244 ?h245 ?h246 ⟨?h247,?h248,?h249,?h250⟩ ⟨?h251,?h252,?h253,?h254⟩ ⟨?h255,?h256,?h257⟩ ⟨?h258,?h259,?h260⟩ ?h261 ?h262 ?h263 ?h264 ?h265 ?h266 ?h267 ?h268 ?h269 ?h270 ?h271 ?h272 ?h273 ?h274 ?h275 ?h276 ?h277 ?h278 ?h279 ?h280 ?h281 ?h282 ?h283 ?h284 ?h285 ?h286 ?h287 ?h288 ?h289 ?h290 ?h291 ?h292 ?h293 ?h294 ?h295 ?h296 ?h297
    case h0=>k_is
    case h1=>k_is
    case h2=>k_is
    case h3=>k_is
    case h4=>k_is
    case h5=>k_is
    case h6=>k_is
    case h7=>k_is
    case h8=>k_is
    case h9=>k_is
    case h10=>k_is
    case h11=>k_is
    case h12=>k_is
    case h13=>k_is
    case h14=>k_is
    case h15=>k_is
    case h16=>k_is
    case h17=>k_is
    case h18=>k_is
    case h19=>k_is
    case h20=>k_is
    case h21=>k_is
    case h22=>k_is
    case h23=>k_is
    case h24=>k_is
    case h25=>k_is
    case h26=>k_is
    case h27=>k_is
    case h28=>k_is
    case h29=>k_is
    case h30=>k_is
    case h31=>k_is
    case h32=>k_is
    case h33=>k_is
    case h34=>k_is
    case h35=>k_is
    case h36=>k_is
    case h37=>k_is
    case h38=>k_is
    case h39=>k_is
    case h40=>k_is
    case h41=>k_is
    case h42=>k_is
    case h43=>k_is
    case h44=>k_is
    case h45=>k_is
    case h46=>k_is
    case h47=>k_is
    case h48=>k_is
    case h49=>k_is
    case h50=>k_is
    case h51=>k_is
    case h52=>k_is
    case h53=>k_is
    case h54=>k_is
    case h55=>k_is
    case h56=>k_is
    case h57=>k_is
    case h58=>k_is
    case h59=>k_is
    case h60=>k_is
    case h61=>k_is
    case h62=>k_is
    case h63=>k_is
    case h64=>k_is
    case h65=>k_is
    case h66=>k_is
    case h67=>k_is
    case h68=>k_is
    case h69=>k_is
    case h70=>k_is
    case h71=>k_is
    case h72=>k_is
    case h73=>k_is
    case h74=>k_is
    case h75=>k_is
    case h76=>k_is
    case h77=>k_is
    case h78=>k_is
    case h79=>k_is
    case h80=>k_is
    case h81=>k_is
    case h82=>k_is
    case h83=>k_is
    case h84=>k_is
    case h85=>k_is
    case h86=>k_is
    case h87=>k_is
    case h88=>k_is
    case h89=>k_is
    case h90=>k_is
    case h91=>k_is
    case h92=>k_is
    case h93=>k_is
    case h94=>k_is
    case h95=>k_is
    case h96=>k_is
    case h97=>k_is
    case h98=>k_is
    case h99=>k_is
    case h100=>k_is
    case h101=>k_is
    case h102=>k_is
    case h103=>k_is
    case h104=>k_is
    case h105=>k_is
    case h106=>k_is
    case h107=>k_is
    case h108=>k_is
    case h109=>k_is
    case h110=>k_is
    case h111=>k_is
    case h112=>k_is
    case h113=>k_is
    case h114=>k_is
    case h115=>k_is
    case h116=>k_is
    case h117=>k_is
    case h118=>k_is
    case h119=>k_is
    case h120=>k_is
    case h121=>k_is
    case h122=>k_is
    case h123=>k_is
    case h124=>k_is
    case h125=>k_is
    case h126=>k_is
    case h127=>k_is
    case h128=>k_is
    case h129=>k_is
    case h130=>k_is
    case h131=>k_is
    case h132=>k_is
    case h133=>k_is
    case h134=>k_is
    case h135=>k_is
    case h136=>k_is
    case h137=>k_is
    case h138=>k_is
    case h139=>k_is
    case h140=>k_is
    case h141=>k_is
    case h142=>k_is
    case h143=>k_is
    case h144=>k_is
    case h145=>k_is
    case h146=>k_is
    case h147=>k_is
    case h148=>k_is
    case h149=>k_is
    case h150=>k_is
    case h151=>k_is
    case h152=>k_is
    case h153=>k_is
    case h154=>k_is
    case h155=>k_is
    case h156=>k_is
    case h157=>k_is
    case h158=>k_is
    case h159=>k_is
    case h160=>k_is
    case h161=>k_is
    case h162=>k_is
    case h163=>k_is
    case h164=>k_is
    case h165=>k_is
    case h166=>k_is
    case h167=>k_is
    case h168=>k_is
    case h169=>k_is
    case h170=>k_is
    case h171=>k_is
    case h172=>k_is
    case h173=>k_is
    case h174=>k_is
    case h175=>k_is
    case h176=>k_is
    case h177=>k_is
    case h178=>k_is
    case h179=>k_is
    case h180=>kernel_rfl
    case h181=>kernel_rfl
    case h182=>k_is
    case h183=>kernel_rfl
    case h184=>kernel_rfl
    case h185=>k_is
    case h186=>k_is
    case h187=>kernel_rfl
    case h188=>kernel_rfl
    case h189=>k_is
    case h190=>k_is
    case h191=>kernel_rfl
    case h192=>kernel_rfl
    case h193=>k_is
    case h194=>kernel_rfl
    case h195=>kernel_rfl
    case h196=>k_is
    case h197=>k_is
    case h198=>kernel_rfl
    case h199=>kernel_rfl
    case h200=>k_is
    case h201=>k_is
    case h202=>k_is
    case h203=>k_is
    case h204=>k_is
    case h205=>k_is
    case h206=>k_is
    case h207=>k_is
    case h208=>k_is
    case h209=>k_is
    case h210=>k_is
    case h211=>k_is
    case h212=>k_is
    case h213=>k_is
    case h214=>k_is
    case h215=>k_is
    case h216=>k_is
    case h217=>k_is
    case h218=>k_is
    case h219=>k_is
    case h220=>k_is
    case h221=>k_is
    case h222=>k_is
    case h223=>k_is
    case h224=>k_is
    case h225=>k_is
    case h226=>k_is
    case h227=>k_is
    case h228=>k_is
    case h229=>k_is
    case h230=>k_is
    case h231=>k_is
    case h232=>k_is
    case h233=>k_is
    case h234=>k_is
    case h235=>k_is
    case h236=>k_is
    case h237=>k_is
    case h238=>k_is
    case h239=>k_is
    case h240=>k_is
    case h241=>k_is
    case h242=>k_is
    case h243=>k_is
    case h244=>k_is
    case h245=>k_is
    case h246=>k_is
    case h247=>k_is
    case h248=>k_is
    case h249=>k_is
    case h250=>k_is
    case h251=>k_is
    case h252=>k_is
    case h253=>k_is
    case h254=>k_is
    case h255=>k_is
    case h256=>k_is
    case h257=>k_is
    case h258=>k_is
    case h259=>k_is
    case h260=>k_is
    case h261=>k_is
    case h262=>k_is
    case h263=>k_is
    case h264=>k_is
    case h265=>kernel_rfl
    case h266=>kernel_rfl
    case h267=>kernel_rfl
    case h268=>kernel_rfl
    case h269=>kernel_rfl
    case h270=>kernel_rfl
    case h271=>kernel_rfl
    case h272=>kernel_rfl
    case h273=>kernel_rfl
    case h274=>kernel_rfl
    case h275=>kernel_rfl
    case h276=>kernel_rfl
    case h277=>kernel_rfl
    case h278=>kernel_rfl
    case h279=>kernel_rfl
    case h280=>kernel_rfl
    case h281=>kernel_rfl
    case h282=>kernel_rfl
    case h283=>kernel_rfl
    case h284=>kernel_rfl
    case h285=>kernel_rfl
    case h286=>kernel_rfl
    case h287=>kernel_rfl
    case h288=>kernel_rfl
    case h289=>kernel_rfl
    case h290=>kernel_rfl
    case h291=>kernel_rfl
    case h292=>kernel_rfl
    case h293=>kernel_rfl
    case h294=>kernel_rfl
    case h295=>kernel_rfl
    case h296=>kernel_rfl
    case h297=>kernel_rfl
   case bb=>exact fun s v=>.of_eq rfl
  obtain ⟨a,b,T⟩:=T
  have e:=hmg.symm.trans T.f_law.mgx
  cases e
  exact ⟨a.d_law,b,fun base kb nb=>K05.ok_law T⟩
 case S=>exact fun K H a ns hl hO hS=>⟨a,ns,rfl,hS,hl,fun _=>rfl⟩
 case C=>exact fun _ _ _ _ z=>z
#print axioms PySem.Challenge.cw_weirwatch_k05_rivers_made_holds
