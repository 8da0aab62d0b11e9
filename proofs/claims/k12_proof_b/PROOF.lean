import PyProof.Rows.All
import Wide.All
import OpenK.AllK
import Wide.FinOn
import Lean
import PyProof.EqAt
import PyProof.EqKinds
import PyProof.TupleCall
import PySem.Challenge.RW_weirwatch_k12_whole_one_turn
set_option bootstrap.genMatcherCode false
set_option hygiene false
set_option Elab.async false
set_option linter.all false
set_option maxRecDepth 100000
section
local macro_rules|`(%[|0])=>`(⟨rfl,rfl,rfl,by decide +kernel,rfl,by decide +kernel,by decide +kernel⟩)
local macro_rules|`(%[$a|1])=>`($a (P:=P) (w:=w) (base:=base) T)
namespace L2
open PySem PySem.Spec PyProof.Rows
noncomputable abbrev Key:=Sum Int Str
noncomputable def Jwu : Key → Value → Bool
 | .inl k,v=>Value.isInt k v
 | .inr x,v=>Value.isStrOf x v
noncomputable def keyH (w : World) : Key → Int
 | .inl k=>hashInt k
 | .inr x=>hashStr w x
theorem Jle : ∀ {k : Key} {v : Value},Jwu k v = true → (∃ i t,k = Sum.inl i ∧ v = Value.int i t) ∨ (∃ x t,k = Sum.inr x ∧ v = Value.str x t)
 | .inl i,v,h=>by
  obtain ⟨t,e⟩:=Value.isInt_shape (k:=i) (v:=v) h;exact .inl ⟨i,t,rfl,e⟩
 | .inr x,v,h=>by
  obtain ⟨t,e⟩:=Value.isStrOf_shape (x:=x) (v:=v) h;exact .inr ⟨x,t,rfl,e⟩
theorem Jxn (x : Str) (t : Tok) : Jwu (.inr x) (.str x t) = true:=by simp [Jwu,Value.isStrOf]
theorem key_ll (a b : Int) : decide ((Sum.inl a : Key) = Sum.inl b) = (a == b):=by
 by_cases e : a = b
 ·subst e; simp
 ·have h : ¬ (Sum.inl a : Key) = Sum.inl b:=fun q=>e (Sum.inl.inj q);rw [decide_eq_false h];exact (beq_eq_false_iff_ne.mpr e).symm
theorem key_rr (a b : Str) : decide ((Sum.inr a : Key) = Sum.inr b) = decide (a = b):=by
 by_cases e : a = b
 ·subst e; simp
 ·have h : ¬ (Sum.inr a : Key) = Sum.inr b:=fun q=>e (Sum.inr.inj q);rw [decide_eq_false h,decide_eq_false e]
theorem key_lr (a : Int) (b : Str) : decide ((Sum.inl a : Key) = Sum.inr b) = false:=decide_eq_false (fun q=>nomatch q)
theorem key_rl (a : Str) (b : Int) : decide ((Sum.inr a : Key) = Sum.inl b) = false:=decide_eq_false (fun q=>nomatch q)
noncomputable def Jlp (prog : Program) (w : World) : PySem.KeyKind prog w Key where
 is:=Jwu
 hash:=keyH w
 inj:=fun v a b ha hb=>by
  rcases Jle ha with ⟨i,t,rfl,rfl⟩ | ⟨x,t,rfl,rfl⟩
  ·rcases Jle hb with ⟨j,u,rfl,e⟩ | ⟨y,u,rfl,e⟩
   ·injection e with e1 _; rw [e1]
   ·exact nomatch e
  ·rcases Jle hb with ⟨j,u,rfl,e⟩ | ⟨y,u,rfl,e⟩
   ·exact nomatch e
   ·injection e with e1 _; rw [e1]
 byValue:=fun k v h=>by
  rcases Jle h with ⟨i,t,rfl,rfl⟩ | ⟨x,t,rfl,rfl⟩ <;> rfl
 pyHash:=fun hv h=>by
  rcases Jle hv with ⟨i,t,rfl,rfl⟩ | ⟨x,t,rfl,rfl⟩
  ·exact wpAny_pyHash_int h
  ·exact wpAny_pyHash_str h
 eqBool:=fun hu hv h=>by
  rcases Jle hu with ⟨i,t,rfl,rfl⟩ | ⟨x,t,rfl,rfl⟩
  ·rcases Jle hv with ⟨j,u,rfl,rfl⟩ | ⟨y,u,rfl,rfl⟩
   ·rw [key_ll] at h; exact wpAny_eqBool_int h
   ·rw [key_lr] at h; exact SeqAt.EqAt.int_str i t y u _ _ _ _ h
  ·rcases Jle hv with ⟨j,u,rfl,rfl⟩ | ⟨y,u,rfl,rfl⟩
   ·rw [key_rl] at h; exact SeqAt.EqAt.str_int x t j u _ _ _ _ h
   ·rw [key_rr] at h; exact wpAny_eqBool_str h
 «strs»:=fun k x t v h=>by
  rcases Jle h with ⟨i,u,rfl,e⟩ | ⟨y,u,rfl,e⟩
  ·exact nomatch e
  ·injection e with e1 _;subst e1;cases v <;> rfl
theorem Jra (prog : Program) (w : World) (x : Str) (t : Tok) : (Jlp prog w).is (.inr x) (.str x t) = true:=Jxn x t
end L2
namespace L2
open PySem PySem.Spec PyProof.Rows
inductive V where
 | non | bl (b : Bool) | int (i : Int) | str (x : Str) | byt (b : Array UInt8) | flt (b : UInt64) | ref (a : Addr) | ty (n : String)
 deriving DecidableEq
noncomputable def RelV : V → Value → Prop
 | .non,u=>u = Value.none
 | .bl b,u=>u = Value.bool b
 | .int i,u=>∃ t,u = Value.int i t
 | .str x,u=>∃ t,u = Value.str x t
 | .byt b,u=>∃ t,u = Value.bytes b t
 | .flt b,u=>∃ t,u = Value.float b t
 | .ref a,u=>u = Value.ref a
 | .ty n,u=>u = Value.type n
noncomputable abbrev Vals : List V → List Value → Prop:=Paired RelV
theorem Vals.length {xs : List V} {us : List Value} (r : Vals xs us) : xs.length = us.length:=Paired.length r
theorem Vals.get : ∀ {xs : List V} {us : List Value} {i : Nat} {x : V},Vals xs us → xs[i]? = some x → ∃ u,us[i]? = some u ∧ RelV x u
 | _,_,_,_,.nil,e=>by simp at e
 | _,_,0,_,.cons r _,e=>by simp at e; subst e; exact ⟨_,rfl,r⟩
 | _,_,i + 1,x,.cons _ t,e=>by
  obtain ⟨u,h1,h2⟩:=Vals.get (i:=i) (x:=x) t (by simpa using e);exact ⟨u,by simpa using h1,h2⟩
theorem Vals.set {x : V} {u : Value} (r : RelV x u) : ∀ {xs : List V} {us : List Value} (i : Nat),Vals xs us → Vals (xs.set i x) (us.set i u)
 | _,_,_,.nil=>.nil
 | _,_,0,.cons _ t=>.cons r t
 | _,_,i + 1,.cons q t=>.cons q (Vals.set r i t)
theorem Vals.append : ∀ {xs ys : List V} {us ws : List Value},Vals xs us → Vals ys ws → Vals (xs ++ ys) (us ++ ws)
 | _,_,_,_,.nil,s=>s
 | _,_,_,_,.cons r t,s=>.cons r (Vals.append t s)
theorem Vals.take : ∀ {xs : List V} {us : List Value} (n : Nat),Vals xs us → Vals (xs.take n) (us.take n)
 | _,_,0,_=>.nil
 | _,_,_ + 1,.nil=>.nil
 | _,_,n + 1,.cons r t=>.cons r (Vals.take n t)
theorem Vals.drop : ∀ {xs : List V} {us : List Value} (n : Nat),Vals xs us → Vals (xs.drop n) (us.drop n)
 | _,_,0,r=>r
 | _,_,_ + 1,.nil=>.nil
 | _,_,n + 1,.cons _ t=>Vals.drop n t
noncomputable def RelO : Option V → Option Value → Prop
 | some v,some u=>RelV v u
 | none,none=>True
 | _,_=>False
noncomputable def KV {κ : Type} : List (κ × V) → List (κ × Value) → Prop:=Paired fun (p : κ × V) (q : κ × Value)=>p.1 = q.1 ∧ RelV p.2 q.2
noncomputable def kV : Key → V
 | .inl i=>.int i
 | .inr x=>.str x
inductive HO where
 | lst (xs : List V)
 | tup (xs : List V)
 | dK (kvs : List (Key × V)) | dT (kvs : List (List Key × V))
 | set (S : Int → Bool) (n : Nat)
 | ins (C dx : Addr) (fs : List (Str × V))
 | own (x : Addr)
 | xd (fs : List (Str × V))
 | met (f x : Addr)
 | rng (lo hi : Int)
 | frz (o : Obj) (u : HO)
 | tbl (ps : Array Value)
 | ext (φ : Heap → Prop)
noncomputable abbrev Hp:=Addr → Option HO
noncomputable def upd (H : Hp) (a : Addr) (o : HO) : Hp:=fun b=>if b = a then some o else H b
theorem Jk0 {H : Hp} {a : Addr} {o : HO} : upd H a o a = some o:=by unfold upd; rw [if_pos rfl]
theorem Jk7 {H : Hp} {a b : Addr} {o : HO} (h : b ≠ a) : upd H a o b = H b:=by unfold upd; rw [if_neg h]
theorem Jm1 {H : Hp} {a : Addr} {o u : HO} : upd (upd H a o) a u = upd H a u:=by
 funext b; unfold upd; split <;> rfl
theorem ne_of {H : Hp} {a b : Addr} {o u : HO} (h : H a = some o) (h' : H b = some u) (d : o ≠ u) : a ≠ b:=by
 intro e; subst e; rw [h] at h'; exact d (Option.some.inj h')
theorem Jk8 {H : Hp} {a b : Addr} {o : HO} (h : H a = some o) (h' : H b = none) : a ≠ b:=by
 intro e; subst e; rw [h] at h'; cases h'
section
variable (P : Program) (w : World)
noncomputable def ObjOk (H : Hp) (h : Heap) (a : Addr) : HO → Prop
 | .lst xs=>xs.length ≤ sizeLine ∧ ∃ (its : List Value) (n : Nat),Vals xs its ∧ h.get? a = some { cls:=.type "list",data:=.seq its.toArray n }
 | .tup xs=>xs.length ≤ sizeLine ∧ ∃ its : List Value,Vals xs its ∧ IsTup h a its.toArray
 | .dK kvs=>kvs.length ≤ sizeLine ∧ (a == sysModules) = false ∧ ∃ vs,KV kvs vs ∧ h.DictOf (Jlp P w) a vs
 | .dT kvs=>kvs.length ≤ sizeLine ∧ (a == sysModules) = false ∧ ∃ xs : List (List Key × Addr × Value),
   Paired (fun (p : List Key × V) (q : List Key × Addr × Value)=>p.1 = q.1 ∧ H q.2.1 = some (.tup (p.1.map kV)) ∧ RelV p.2 q.2.2) kvs xs ∧
   ∃ o es ep,h.get? a = some o ∧ o.ExactDict ∧ o.data = .dict es ep ∧ es.toList = xs.map (entryOfKey (tupleKind (Jlp P w))) ∧ (xs.map (·.1)).Nodup
 | .set S n=>h.SetOf (intKind P w) a S n
 | .ins C dx fs=>H dx = some (.own a) ∧ fs.length ≤ 1000 ∧ dx ≠ a ∧ h.get? a = some (PySem.W.instObj C dx) ∧
   ∃ mA,h.Ns1 dx mA ∧ (∀ f,RelO (fs.lookup f) (mA f)) ∧ PySem.Within mA (fs.map (·.1))
 | .own _=>∃ o,h.get? a = some o
 | .xd fs=>∃ mA,h.Ns1 a mA ∧ ∀ f,RelO (fs.lookup f) (mA f)
 | .rng lo hi=>∃ t u v,h.get? a = some { cls:=.type "range",data:=.fields #[.int lo t,.int hi u,.int 1 v] }
 | .frz o u=>h.get? a = some o ∧ ObjOk H h a u
 | .tbl ps=>h.get? a = some { cls:=.none,data:=.fields ps }
 | .met f x=>h.get? a = some (PySem.W.methodObj (.ref f) (.ref x))
 | .ext φ=>φ h ∧ (∃ o,h.get? a = some o) ∧ ∀ h1 h2 : Heap,φ h1 → (∀ o,h1.get? a = some o → h2.get? a = some o) → φ h2
noncomputable def HOk (H : Hp) (h : Heap) : Prop:=∀ a o,H a = some o → ObjOk P w H h a o
end
section
variable {P : Program} {w : World} {H H' : Hp} {h h' : Heap} {a : Addr} {o : HO}
theorem ObjOk.lt (x : ObjOk P w H h a o) : a < h.objs.size:=by
 cases o with
 | lst xs=>obtain ⟨_,_,_,_,e⟩:=x; exact Heap.lt_size e
 | tup xs=>obtain ⟨_,_,_,p⟩:=x; exact p.lt
 | dK kvs=>obtain ⟨_,_,_,_,o,_,_,e,_⟩:=x; exact Heap.lt_size e
 | dT kvs=>obtain ⟨_,_,_,_,o,_,_,e,_⟩:=x; exact Heap.lt_size e
 | set S n=>obtain ⟨o,_,_,_,e,_⟩:=x; exact Heap.lt_size e
 | ins C dx fs=>obtain ⟨_,_,_,e,_⟩:=x; exact Heap.lt_size e
 | own y=>obtain ⟨_,e⟩:=x; exact Heap.lt_size e
 | xd fs=>obtain ⟨_,⟨_,_,_,e,_⟩,_⟩:=x; exact Heap.lt_size e
 | rng lo hi=>obtain ⟨_,_,_,e⟩:=x; exact Heap.lt_size e
 | frz ob u=>obtain ⟨e,_⟩:=x; exact Heap.lt_size e
 | tbl ps=>exact Heap.lt_size (show h.get? a = some _ from x)
 | met f y=>exact Heap.lt_size (show h.get? a = some _ from x)
 | ext φ=>obtain ⟨_,⟨_,e⟩,_⟩:=x; exact Heap.lt_size e
theorem Paired.mapP {α β : Type} {F G : α → β → Prop} : ∀ {l₁ : List α} {l₂ : List β},Paired F l₁ l₂ → (∀ a b,F a b → G a b) → Paired G l₁ l₂
 | _,_,.nil,_=>.nil
 | _,_,.cons r t,f=>.cons (f _ _ r) (Paired.mapP t f)
theorem ObjOk.stay (x : ObjOk P w H h a o) (k : ∀ b u,(b = a ∨ H b = some (.own a)) → h.get? b = some u → h'.get? b = some u)
  (ho : ∀ b,H b = some (.own a) → H' b = some (.own a)) (ht : ∀ b xs,H b = some (.tup xs) → H' b = some (.tup xs)) : ObjOk P w H' h' a o:=by
 induction o with
 | lst xs=>obtain ⟨z,its,n,r,e⟩:=x; exact ⟨z,its,n,r,k _ _ (.inl rfl) e⟩
 | tup xs=>obtain ⟨z,its,r,ob,e,c⟩:=x; exact ⟨z,its,r,ob,k _ _ (.inl rfl) e,c⟩
 | dK kvs=>obtain ⟨z,y,vs,r,ob,es,ep,e,c⟩:=x; exact ⟨z,y,vs,r,ob,es,ep,k _ _ (.inl rfl) e,c⟩
 | dT kvs =>
  obtain ⟨z,y,xs,r,ob,es,ep,e,c⟩:=x;exact ⟨z,y,xs,Paired.mapP r fun p q z=>⟨z.1,ht _ _ z.2.1,z.2.2⟩,ob,es,ep,k _ _ (.inl rfl) e,c⟩
 | set S n=>obtain ⟨ob,es,ep,t,e,c⟩:=x; exact ⟨ob,es,ep,t,k _ _ (.inl rfl) e,c⟩
 | ins C dx fs =>
  obtain ⟨d,z,ne,e,mA,⟨od,es,ep,e2,c⟩,r⟩:=x;exact ⟨ho _ d,z,ne,k _ _ (.inl rfl) e,mA,⟨od,es,ep,k _ _ (.inr d) e2,c⟩,r⟩
 | own y=>obtain ⟨ob,e⟩:=x; exact ⟨ob,k _ _ (.inl rfl) e⟩
 | xd fs=>obtain ⟨mA,⟨od,es,ep,e,c⟩,r⟩:=x; exact ⟨mA,⟨od,es,ep,k _ _ (.inl rfl) e,c⟩,r⟩
 | rng lo hi=>obtain ⟨t,u,v,e⟩:=x; exact ⟨t,u,v,k _ _ (.inl rfl) e⟩
 | frz ob u ih=>obtain ⟨e,q⟩:=x; exact ⟨k _ _ (.inl rfl) e,ih q⟩
 | tbl ps =>
  have e : h.get? a = some { cls:=.none,data:=.fields ps }:=x;show h'.get? a = some { cls:=.none,data:=.fields ps };exact k a _ (.inl rfl) e
 | met f y =>
  have e : h.get? a = some (PySem.W.methodObj (.ref f) (.ref y)):=x;show h'.get? a = some (PySem.W.methodObj (.ref f) (.ref y));exact k a _ (.inl rfl) e
 | ext φ=>obtain ⟨p,⟨o,e⟩,st⟩:=x; exact ⟨st _ _ p fun o q=>k _ _ (.inl rfl) q,⟨o,k _ _ (.inl rfl) e⟩,st⟩
theorem HOk.lt (x : HOk P w H h) (e : H a = some o) : a < h.objs.size:=(x a o e).lt
theorem HOk.fresh (x : HOk P w H h) (e : h.objs.size ≤ a) : H a = none:=by
 cases q : H a with
 | none=>rfl
 | some u=>exact absurd (Nat.lt_of_lt_of_le (x.lt q) e) (Nat.lt_irrefl _)
theorem HOk.kept (x : HOk P w H h) (k : ∀ b u,h.get? b = some u → h'.get? b = some u) : HOk P w H h':=fun a o e =>
 (x a o e).stay (fun b u _ q=>k b u q) (fun _ q=>q) fun _ _ q=>q
theorem HOk.laid (x : HOk P w H h) (k : ∀ b u,h.get? b = some u → h'.get? b = some u) (hp : h.objs.size ≤ a) (new : ObjOk P w (upd H a o) h' a o) : HOk P w (upd H a o) h':=fun b u e=>by
 have hn:=x.fresh hp;by_cases hb : b = a
 ·subst hb; rw [Jk0] at e; cases e; exact new
 ·rw [Jk7 hb] at e;exact (x b u e).stay (fun c v _ q=>k c v q) (fun c q=>by rw [Jk7 (Jk8 q hn)]; exact q) fun c xs q=>by rw [Jk7 (Jk8 q hn)]; exact q
end
noncomputable def Rd (H : Hp) (a : Addr) (u : HO) : Prop:=H a = some u ∨ ∃ o,H a = some (.frz o u)
theorem Rd.ok {P : Program} {w : World} {H : Hp} {h : Heap} {a : Addr} {u : HO} (r : Rd H a u) (x : HOk P w H h) : ObjOk P w H h a u:=by
 rcases r with r | ⟨o,r⟩
 ·exact x a u r
 ·obtain ⟨_,q⟩:=x a _ r;exact q
noncomputable def Mut : Option HO → Prop
 | some (.lst _)=>True
 | some (.dK _)=>True
 | some (.dT _)=>True
 | some (.set _ _)=>True
 | some (.ins _ _ _)=>True
 | some (.ext _)=>True
 | _=>False
section
variable {P : Program} {w : World} {H : Hp} {h h' : Heap} {x e : Addr} {o' : HO}
theorem HOk.write (ok : HOk P w H h) (mu : Mut (H x)) (he : e = x ∨ H e = some (.own x)) (k : ∀ b u,b ≠ e → h.get? b = some u → h'.get? b = some u) (heo : ∃ u,h'.get? e = some u)
  (new : ObjOk P w (upd H x o') h' x o') : HOk P w (upd H x o') h':=fun b u q=>by
 have nown : ∀ c y,H c = some (.own y) → c ≠ x:=fun c y r z=>by subst z; rw [r] at mu; exact mu
 have ntup : ∀ c xs,H c = some (.tup xs) → c ≠ x:=fun c xs r z=>by subst z; rw [r] at mu; exact mu
 by_cases hb : b = x
 ·subst hb; rw [Jk0] at q; cases q; exact new
 ·rw [Jk7 hb] at q;by_cases hbe : b = e
  ·have q' : H b = some (.own x):=by
    rcases he with z | z
    ·exact absurd (hbe.trans z) hb
    ·rw [hbe]; exact z
   rw [q] at q'; cases q';obtain ⟨v,hv⟩:=heo;exact ⟨v,by rw [hbe]; exact hv⟩
  ·refine (ok b u q).stay (fun c v hc r=>k c v ?_ r) (fun c r=>by rw [Jk7 (nown c b r)]; exact r) fun c xs r=>by rw [Jk7 (ntup c xs r)]; exact r
   rcases hc with rfl | hc
   ·exact hbe
   ·rintro rfl;rcases he with z | z
    ·exact nown c b hc z
    ·rw [hc] at z; cases z; exact hb rfl
end
structure Un (fs ex : List Addr) (H H' : Hp) (h h' : Heap) : Prop where
 keep : ∀ b o,h.get? b = some o → H b = none → b ∉ fs → b ∉ ex → h'.get? b = some o
 slot : ∀ b o,h.get? b = some o → H b = none → b ∈ fs → b ∉ ex → ∃ sl,h'.get? b = some { o with slots:=sl }
 free : ∀ b o,h.get? b = some o → H b = none → b ∉ ex → H' b = none
 there : ∀ b o,h.get? b = some o → b ∉ ex → ∃ o', h'.get? b = some o'
 tups : ∀ b xs,H b = some (.tup xs) → H' b = some (.tup xs)
 frzs : ∀ b o u,H b = some (.frz o u) → H' b = some (.frz o u)
 tbls : ∀ b ps,H b = some (.tbl ps) → ∃ more,H' b = some (.tbl (ps ++ more))
section
variable {fs fs' ex ex' : List Addr} {H H1 H2 : Hp} {h h1 h2 h' : Heap} {a x e : Addr} {o : HO}
theorem Un.any (u : Un fs ex H H1 h h1) {b : Addr} {ob : Obj} (q : h.get? b = some ob) (n : H b = none) (hx : b ∉ ex) : ∃ sl,h1.get? b = some { ob with slots:=sl }:=by
 by_cases hb : b ∈ fs
 ·exact u.slot b ob q n hb hx
 ·exact ⟨ob.slots,u.keep b ob q n hb hx⟩
theorem Un.trans (a : Un fs ex H H1 h h1) (b : Un fs ex H1 H2 h1 h2) : Un fs ex H H2 h h2 where
 keep:=fun c ob q n hc hx=>b.keep c ob (a.keep c ob q n hc hx) (a.free c ob q n hx) hc hx
 slot:=fun c ob q n hc hx=>by
  obtain ⟨sl,e1⟩:=a.slot c ob q n hc hx;obtain ⟨sl', e2⟩:=b.slot c _ e1 (a.free c ob q n hx) hc hx;exact ⟨sl', e2⟩
 free:=fun c ob q n hx=>by
  obtain ⟨o', e1⟩:=a.there c ob q hx;exact b.free c o' e1 (a.free c ob q n hx) hx
 there:=fun c ob q hx=>by
  obtain ⟨o', e1⟩:=a.there c ob q hx;exact b.there c o' e1 hx
 tups:=fun c xs q=>b.tups c xs (a.tups c xs q)
 frzs:=fun c ob xs q=>b.frzs c ob xs (a.frzs c ob xs q)
 tbls:=fun c ps q=>by
  obtain ⟨m1,e1⟩:=a.tbls c ps q;obtain ⟨m2,e2⟩:=b.tbls c _ e1;exact ⟨m1 ++ m2,by rw [e2,Array.append_assoc]⟩
theorem Un.kept (k : ∀ b u,h.get? b = some u → h'.get? b = some u) : Un fs ex H H h h' :=
 ⟨fun b ob q _ _ _=>k b ob q,fun b ob q _ _ _=>⟨ob.slots,k b ob q⟩,fun _ _ _ n _=>n,fun b ob q _=>⟨ob,k b ob q⟩,fun _ _ q=>q,fun _ _ _ q=>q,fun _ ps q=>⟨#[],by rw [q]; simp⟩⟩
theorem Un.refl : Un fs ex H H h h:=Un.kept fun _ _ q=>q
theorem Un.laid (k : ∀ b u,h.get? b = some u → h'.get? b = some u) (hp : h.objs.size ≤ a) (hn : H a = none) : Un fs ex H (upd H a o) h h' where
 keep:=fun b u q _ _ _=>k b u q
 slot:=fun b u q _ _ _=>⟨u.slots,k b u q⟩
 free:=fun b u q n _=>by rw [Jk7 (Nat.ne_of_lt (Nat.lt_of_lt_of_le (Heap.lt_size q) hp))]; exact n
 there:=fun b u q _=>⟨u,k b u q⟩
 tups:=fun b xs q=>by rw [Jk7 (Jk8 q hn)]; exact q
 frzs:=fun b u xs q=>by rw [Jk7 (Jk8 q hn)]; exact q
 tbls:=fun b ps q=>⟨#[],by rw [Jk7 (Jk8 q hn),q]; simp⟩
theorem Un.write (mu : Mut (H x)) (he : e = x ∨ H e = some (.own x)) (k : ∀ b u,b ≠ e → h.get? b = some u → h'.get? b = some u) (heo : ∃ u,h'.get? e = some u) : Un fs ex H (upd H x o) h h':=by
 have hx : ∀ b,H b = none → b ≠ x:=fun b n z=>by subst z; rw [n] at mu; exact mu
 have hb : ∀ b,H b = none → b ≠ e:=fun b n z=>by
  subst z;rcases he with r | r
  ·exact hx b n r
  ·rw [n] at r; cases r
 have hm : ∀ b u,H b = some u → ¬ Mut (some u) → b ≠ x:=fun b u q nm z=>by subst z; rw [q] at mu; exact nm mu
 refine ⟨fun b u q n _ _=>k b u (hb b n) q,fun b u q n _ _=>⟨u.slots,k b u (hb b n) q⟩,fun b u q n _=>by rw [Jk7 (hx b n)]; exact n,fun b u q _=>?_,
  fun b xs q=>by rw [Jk7 (hm b _ q fun z=>z)]; exact q,fun b u xs q=>by rw [Jk7 (hm b _ q fun z=>z)]; exact q,fun b ps q=>⟨#[],by rw [Jk7 (hm b _ q fun z=>z),q]; simp⟩⟩
 by_cases hbe : b = e
 ·subst hbe; exact heo
 ·exact ⟨u,k b u hbe q⟩
end
noncomputable def trk (h : Heap) (H : Hp) : List Addr:=(List.range h.objs.size).filter fun a=>(H a).isSome
noncomputable def Jtw (h : Heap) (H : Hp) : Heap:=PySem.W.hideAll h (trk h H)
theorem Jxk (h : Heap) (H : Hp) : (Jtw h H).objs.size = h.objs.size:=PySem.W.hideAll_size _ _
theorem Jyr {h : Heap} {H : Hp} {b : Addr} {o : Obj} (e : h.get? b = some o) (n : H b = none) : (Jtw h H).get? b = some o :=
 PySem.W.hideAll_get _ e fun hm=>by
  have q : (H b).isSome = true:=(List.mem_filter.mp hm).2;rw [n] at q; simp at q
theorem Yt {h : Heap} {H : Hp} {b : Addr} {o : Obj} (e : (Jtw h H).get? b = some o) : h.get? b = some o ∧ H b = none:=by
 have e' : h.get? b = some o:=PySem.W.of_hideAll (trk h H) e;refine ⟨e', ?_⟩;cases q : H b with
 | none=>rfl
 | some x =>
  have hm : b ∈ trk h H:=List.mem_filter.mpr ⟨List.mem_range.mpr (Heap.lt_size e'),by simp [q]⟩;have z : (Jtw h H).get? b = none:=PySem.W.hideAll_none (trk h H) hm;rw [z] at e; cases e
end L2
namespace L2
open PySem PySem.Spec PyProof.Rows
structure Mod (K : PySem.W.Frag) (mg : Str → Option Value) (base : Heap) : Prop where
 kin : K.In base
 glob : base.Ns mainGlobals mg
 blt : ∃ mb,base.Ns builtinsNs mb ∧ ∀ x : Str,x ≠ "__name__" → mb x = bootBuiltins x
 nolimit : base.NoLimit
structure Cx where
 prog : Program
 w : World
 K : PySem.W.Frag
 mg : Str → Option Value
 base : Heap
 A : Around
 N : List Str
 s₀ : Shared
 H₀ : Hp
 env : Env
 outer : List Env
 stack : List Env
 ex : List Addr
 fn : Str → Bool
 calm : Bool
 pn : List (Addr × Obj)
 xe : Value → Shared → Prop
noncomputable def frs (l : List Env) : List Addr:=l.filterMap (·.frame)
noncomputable abbrev Cx.fs (X : Cx) : List Addr:=frs X.outer
noncomputable def Vis (sc : Scope) (x : Str) : Prop:=sc.names.lookup x = some .local ∨ sc.names.lookup x = some .cell ∨ sc.names.lookup x = some .free
noncomputable def Loc (sc : Scope) (x : Str) : Prop:=sc.names.lookup x = some .local ∨ sc.names.lookup x = some .cell
noncomputable def Look (env : Env) (h : Heap) (m : Str → Option Value) (x : Str) (u : Value) : Prop :=
 (env.kindOf x = some .local ∧ m x = some u) ∨ ((env.kindOf x = some .cell ∨ env.kindOf x = some .free) ∧ ∃ c,env.cells.lookup x = some c ∧ h.IsCell c (some u))
structure Cx.Ok (X : Cx) : Prop where
 mod : Mod X.K X.mg X.base
 kind : X.env.scope.kind = .function
 glob : X.env.globals = mainGlobals
 blt : X.env.builtins = builtinsNs
 above : X.s₀.heap.objs.size ≤ X.env.locals
 inj : ∀ x y c,X.env.cells.lookup x = some c → X.env.cells.lookup y = some c → x = y
 has : ∀ x,(X.env.kindOf x = some .cell ∨ X.env.kindOf x = some .free) → ∃ c,X.env.cells.lookup x = some c
 cab : ∀ x c,X.fn x = true → X.env.cells.lookup x = some c → X.s₀.heap.objs.size ≤ c
 hd : X.calm = true → X.A.handled = none
 frames : X.A.frames = some X.stack
 stk : X.stack = X.outer ∨ (X.stack = X.env :: X.outer ∧ X.env.frame = some X.env.locals)
 exf : ∀ b ∈ X.ex,b ≠ X.env.locals ∧ ∀ x c,X.env.cells.lookup x = some c → c ≠ b
 bs : ∀ b o,X.base.get? b = some o → X.s₀.heap.get? b = some o ∧ X.H₀ b = none
 bsz : X.base.objs.size ≤ X.s₀.heap.objs.size
 noex : ∀ b o,X.base.get? b = some o → b ∉ X.ex
 exfs : ∀ b ∈ X.ex,b ∉ X.fs
 funs : X.s₀.heap.FunFrames X.base X.outer
 frf : ∀ b ∈ X.fs,X.H₀ b = none
structure Inv (X : Cx) (pins : List (Addr × Obj)) (σ : List (Option V)) (H : Hp) (s : Shared) : Prop where
 ok : X.Ok
 os : s.os = X.s₀.os
 bare : AllBare s.gens
 base : Un X.fs X.ex X.H₀ H X.s₀.heap s.heap
 loc : ∃ m,s.heap.Ns X.env.locals m ∧ ∀ (i : Nat) (x : Str) (v : V),X.N[i]? = some x → σ[i]? = some (some v) → Vis X.env.scope x → ∃ u,RelV v u ∧ Look X.env s.heap m x u
 cell : ∀ x c,X.env.cells.lookup x = some c → ∃ v,s.heap.IsCell c v
 free : H X.env.locals = none
 freeC : ∀ x c,X.env.cells.lookup x = some c → H c = none
 pin : ∀ p ∈ X.pn ++ pins,s.heap.get? p.1 = some p.2 ∧ H p.1 = none ∧ p.1 ≠ X.env.locals ∧ p.1 ∉ X.fs ∧ ∀ v,p.2.data ≠ .cell v
 hok : HOk X.prog X.w H s.heap
 len : σ.length = X.N.length
section
variable {X : Cx} {pins : List (Addr × Obj)} {σ : List (Option V)} {H H' : Hp} {s : Shared} {h' : Heap}
theorem Cx.Ok.nofr (ok : X.Ok) {b : Addr} {o : Obj} (e : X.base.get? b = some o) : b ∉ X.fs:=fun hb=>by
 have:=(ok.funs.mem hb).1;rw [e] at this; cases this
theorem Inv.bs (I : Inv X pins σ H s) : ∀ b o,X.base.get? b = some o → s.heap.get? b = some o ∧ H b = none:=fun b o e =>
 ⟨I.base.keep b o (I.ok.bs b o e).1 (I.ok.bs b o e).2 (I.ok.nofr e) (I.ok.noex b o e),I.base.free b o (I.ok.bs b o e).1 (I.ok.bs b o e).2 (I.ok.noex b o e)⟩
theorem Inv.bk (I : Inv X pins σ H s) : ∀ b o,X.base.get? b = some o → s.heap.get? b = some o:=fun b o e=>(I.bs b o e).1
theorem Inv.mod (I : Inv X pins σ H s) : Mod X.K X.mg X.base:=I.ok.mod
theorem Inv.kIn (I : Inv X pins σ H s) : X.K.In s.heap:=I.ok.mod.kin.keeps I.bk
theorem Inv.lt (I : Inv X pins σ H s) : X.env.locals < s.heap.objs.size:=by obtain ⟨_,hn,_⟩:=I.loc; exact hn.lt
theorem Inv.sz (I : Inv X pins σ H s) : X.s₀.heap.objs.size ≤ s.heap.objs.size:=Nat.le_trans I.ok.above (Nat.le_of_lt I.lt)
theorem Inv.nofs (I : Inv X pins σ H s) {a : Addr} (h : s.heap.objs.size ≤ a) : a ∉ X.fs:=fun hb=>by
 obtain ⟨_,o,ho,_⟩:=I.ok.funs.mem hb;exact absurd (Nat.lt_of_lt_of_le (Heap.lt_size ho) (Nat.le_trans I.sz h)) (Nat.lt_irrefl _)
theorem Inv.cne (I : Inv X pins σ H s) : ∀ x c,X.env.cells.lookup x = some c → c ≠ X.env.locals:=fun x c e z=>by
 obtain ⟨v,o,ho,hd⟩:=I.cell x c e;obtain ⟨m,⟨o', es,ep,ho', hd', _⟩,_⟩:=I.loc;rw [z,ho'] at ho; cases ho; rw [hd'] at hd; cases hd
theorem Inv.funs (I : Inv X pins σ H s) : s.heap.FunFrames X.base X.outer:=by
 have all : ∀ (l : List Env),(∀ b ∈ frs l,b ∈ X.fs) → X.s₀.heap.FunFrames X.base l → s.heap.FunFrames X.base l:=by
  intro l
  induction l with
  | nil=>intro _ _; trivial
  | cons env r ih =>
   intro hs hl;obtain ⟨hk,⟨L,o,hf,hn,ho,hd⟩,hr⟩:=hl;have hL : L ∈ X.fs:=hs L (by unfold frs; rw [List.filterMap_cons,hf]; exact List.mem_cons_self);obtain ⟨sl,e⟩:=I.base.slot L o ho (I.ok.frf L hL) hL fun z=>I.ok.exfs L z hL;exact ⟨hk,⟨L,_,hf,hn,e,hd⟩,ih (fun b hb=>hs b (by unfold frs; rw [List.filterMap_cons,hf]; exact List.mem_cons_of_mem _ hb)) hr⟩
 exact all X.outer (fun _ hb=>hb) I.ok.funs
theorem Inv.stack (I : Inv X pins σ H s) : s.heap.FunFrames X.base X.stack:=by
 rcases I.ok.stk with e | ⟨e,hf⟩
 ·rw [e]; exact I.funs
 ·rw [e];obtain ⟨m,hn,_⟩:=I.loc;refine .cons (by rw [I.ok.kind]; decide) hf hn ?_ I.funs;exact Heap.get?_none_of_le (Nat.le_trans I.ok.bsz I.ok.above)
theorem Inv.stkSub (I : Inv X pins σ H s) : ∀ b ∈ frs X.stack,b ∈ X.env.locals :: X.fs:=fun b hb=>by
 rcases I.ok.stk with e | ⟨e,hf⟩
 ·rw [e] at hb; exact List.mem_cons_of_mem _ hb
 ·rw [e] at hb;unfold frs at hb;rw [List.filterMap_cons,hf] at hb;exact hb
theorem Inv.stkFree (I : Inv X pins σ H s) : ∀ b ∈ frs X.stack,H b = none:=fun b hb=>by
 rcases List.mem_cons.mp (I.stkSub b hb) with e | hb
 ·rw [e]; exact I.free
 ·obtain ⟨_,o,ho,_⟩:=I.ok.funs.mem hb;exact I.base.free b o ho (I.ok.frf b hb) fun z=>I.ok.exfs b z hb
theorem Inv.step {g' : Array GenState} {t' : Nat} {d' : Drawn} {ch : List Addr} (I : Inv X pins σ H s)
  (hch : ∀ b ∈ ch,(b ∈ X.ex ∨ X.s₀.heap.objs.size ≤ b) ∧ b ≠ X.env.locals ∧ (∀ x c,X.env.cells.lookup x = some c → c ≠ b) ∧ ∀ p ∈ X.pn ++ pins,p.1 ≠ b)
  (keep : ∀ b o,b ≠ X.env.locals → b ∉ X.fs → b ∉ ch → s.heap.get? b = some o → H b = none → h'.get? b = some o)
  (slot : ∀ b o,b ≠ X.env.locals → b ∈ X.fs → b ∉ ch → s.heap.get? b = some o → H b = none → ∃ sl,h'.get? b = some { o with slots:=sl }) (free : ∀ b o,b ∉ ch → s.heap.get? b = some o → H b = none → H' b = none)
  (there : ∀ b o,b ∉ ch → s.heap.get? b = some o → ∃ o', h'.get? b = some o')
  (tups : ∀ b xs,H b = some (.tup xs) → H' b = some (.tup xs)) (frzs : ∀ b o u,H b = some (.frz o u) → H' b = some (.frz o u)) (tbls : ∀ b ps,H b = some (.tbl ps) → ∃ more,H' b = some (.tbl (ps ++ more)))
  (ns : ∀ m,s.heap.Ns X.env.locals m → h'.Ns X.env.locals m) (hok : HOk X.prog X.w H' h') (hg : AllBare g') :
  Inv X pins σ H' { s with heap:=h', gens:=g', drawn:=d', toks:=t' }:=by
 have neL : ∀ b o,X.s₀.heap.get? b = some o → b ≠ X.env.locals:=fun b o e=>Nat.ne_of_lt (Nat.lt_of_lt_of_le (Heap.lt_size e) I.ok.above);have neC : ∀ b o,X.s₀.heap.get? b = some o → b ∉ X.ex → b ∉ ch:=fun b o e hx hb=>by
  rcases (hch b hb).1 with z | z
  ·exact hx z
  ·exact absurd (Nat.lt_of_lt_of_le (Heap.lt_size e) z) (Nat.lt_irrefl _)
 have cellK : ∀ x c,X.env.cells.lookup x = some c → ∀ v,s.heap.IsCell c v → h'.IsCell c v:=fun x c e v ⟨o,ho,hd⟩=>by
  have nch : c ∉ ch:=fun z=>(hch c z).2.2.1 x c e rfl;by_cases hc : c ∈ X.fs
  ·obtain ⟨sl,q⟩:=slot c o (I.cne x c e) hc nch ho (I.freeC x c e);exact ⟨_,q,hd⟩
  ·exact ⟨o,keep c o (I.cne x c e) hc nch ho (I.freeC x c e),hd⟩
 refine ⟨I.ok,I.os,hg,⟨fun b o e n hb hx=>?_,fun b o e n hb hx=>?_,fun b o e n hx=>?_,fun b o e hx=>?_,fun b xs e=>tups b xs (I.base.tups b xs e),fun b o xs e=>frzs b o xs (I.base.frzs b o xs e),fun b ps e=>?_⟩,?_,fun x c e=>?_,?_,fun x c e=>?_,fun p hp=>?_,hok,I.len⟩
 ·exact keep b o (neL b o e) hb (neC b o e hx) (I.base.keep b o e n hb hx) (I.base.free b o e n hx)
 ·obtain ⟨sl,e1⟩:=I.base.slot b o e n hb hx;obtain ⟨sl', e2⟩:=slot b _ (neL b o e) hb (neC b o e hx) e1 (I.base.free b o e n hx);exact ⟨sl', e2⟩
 ·obtain ⟨o', e1⟩:=I.base.there b o e hx;exact free b o' (neC b o e hx) e1 (I.base.free b o e n hx)
 ·obtain ⟨o', e1⟩:=I.base.there b o e hx;exact there b o' (neC b o e hx) e1
 ·obtain ⟨m1,e1⟩:=I.base.tbls b ps e;obtain ⟨m2,e2⟩:=tbls b _ e1;exact ⟨m1 ++ m2,by rw [e2,Array.append_assoc]⟩
 ·obtain ⟨m,hn,hl⟩:=I.loc;refine ⟨m,ns m hn,fun i x v e1 e2 e3=>?_⟩;obtain ⟨u,r,l⟩:=hl i x v e1 e2 e3;refine ⟨u,r,?_⟩;rcases l with l | ⟨k,c,e,z⟩
  ·exact .inl l
  ·exact .inr ⟨k,c,e,cellK x c e _ z⟩
 ·obtain ⟨v,z⟩:=I.cell x c e;exact ⟨v,cellK x c e v z⟩
 ·obtain ⟨m,⟨o,_,_,ho,_⟩,_⟩:=I.loc;exact free _ o (fun z=>(hch _ z).2.1 rfl) ho I.free
 ·obtain ⟨v,o,ho,hd⟩:=I.cell x c e;exact free c o (fun z=>(hch c z).2.2.1 x c e rfl) ho (I.freeC x c e)
 ·obtain ⟨e,n,ne,nf,d⟩:=I.pin p hp;have nch : p.1 ∉ ch:=fun z=>(hch p.1 z).2.2.2 p hp rfl;exact ⟨keep p.1 p.2 ne nf nch e n,free p.1 p.2 nch e n,ne,nf,d⟩
theorem Inv.un {t' : Nat} (I : Inv X pins σ H s) (u : Un X.fs [] H H' s.heap h') (hok : HOk X.prog X.w H' h') : Inv X pins σ H' { s with heap:=h', toks:=t' }:=by
 obtain ⟨m,⟨o,es,ep,ho,r⟩,_⟩:=id I.loc;obtain ⟨sl,hL⟩:=u.any ho I.free (by simp);exact I.step (g':=s.gens) (d':=s.drawn) (ch:=[]) (fun _ z=>nomatch z) (fun b o _ hb _ e n=>u.keep b o e n hb (by simp)) (fun b o _ hb _ e n=>u.slot b o e n hb (by simp)) (fun b o _ e n=>u.free b o e n (by simp)) (fun b o _ e=>u.there b o e (by simp)) u.tups u.frzs u.tbls (fun m' hm=>by
  obtain ⟨o', es', ep', ho', r'⟩:=hm;rw [ho] at ho'; cases ho';exact ⟨_,es', ep', hL,r'⟩) hok I.bare
theorem Inv.call {g' : Array GenState} {t' : Nat} {d' : Drawn} {ch : List Addr} (I : Inv X pins σ H s) (u : Un (frs X.stack) ch H H' s.heap h') (hok : HOk X.prog X.w H' h') (hg : AllBare g')
  (hch : ∀ b ∈ ch,(b ∈ X.ex ∨ X.s₀.heap.objs.size ≤ b) ∧ b ≠ X.env.locals ∧ (∀ x c,X.env.cells.lookup x = some c → c ≠ b) ∧ ∀ p ∈ X.pn ++ pins,p.1 ≠ b) :
  Inv X pins σ H' { s with heap:=h', gens:=g', drawn:=d', toks:=t' }:=by
 obtain ⟨m,⟨o,es,ep,ho,r⟩,_⟩:=id I.loc;obtain ⟨sl,hL⟩:=u.any ho I.free fun z=>(hch _ z).2.1 rfl;exact I.step (ch:=ch) hch (fun b o hL hb hc e n=>u.keep b o e n (fun z=>(List.mem_cons.mp (I.stkSub b z)).elim hL hb) hc) (fun b o _ _ hc e n=>u.any e n hc) (fun b o hc e n=>u.free b o e n hc) (fun b o hc e=>u.there b o e hc) u.tups u.frzs u.tbls (fun m' hm=>by
  obtain ⟨o', es', ep', ho', r'⟩:=hm;rw [ho] at ho'; cases ho';exact ⟨_,es', ep', hL,r'⟩) hok hg
theorem Inv.turned {t' : Nat} {it : Addr} (I : Inv X pins σ H s) (k : ∀ b o,b ≠ it → s.heap.get? b = some o → h'.get? b = some o) (hn : H it = none) (hL : it ≠ X.env.locals)
  (h1 : it ∈ X.ex ∨ X.s₀.heap.objs.size ≤ it) (h2 : ∀ x c,X.env.cells.lookup x = some c → c ≠ it) (h3 : ∀ p ∈ X.pn ++ pins,p.1 ≠ it) : Inv X pins σ H { s with heap:=h', toks:=t' }:=by
 have nit : ∀ b u,H b = some u → b ≠ it:=fun b u e z=>by rw [z,hn] at e; cases e
 refine I.step (g':=s.gens) (d':=s.drawn) (ch:=[it]) (fun b hb=>?_) (fun b o _ _ hc e _=>k b o (fun z=>hc (by simp [z])) e) (fun b o _ _ hc e _=>⟨o.slots,k b o (fun z=>hc (by simp [z])) e⟩) (fun _ _ _ _ n=>n)
  (fun b o hc e=>⟨o,k b o (fun z=>hc (by simp [z])) e⟩) (fun _ _ e=>e) (fun _ _ _ e=>e) (fun b ps e=>⟨#[],by rw [e]; simp⟩) (fun m hm=>?_) (fun b u e=>?_) I.bare
 ·have e : b = it:=by simpa using hb
  subst e;exact ⟨h1,hL,h2,h3⟩
 ·obtain ⟨o,es,ep,ho,r⟩:=hm;exact ⟨o,es,ep,k _ o (Ne.symm hL) ho,r⟩
 ·refine (I.hok b u e).stay (fun c v hc q=>k c v ?_ q) (fun _ q=>q) fun _ _ q=>q;rcases hc with z | z
  ·rw [z]; exact nit b u e
  ·exact nit c _ z
theorem Inv.tok (I : Inv X pins σ H s) (t : Nat) : Inv X pins σ H { s with toks:=t }:=I.un (h':=s.heap) (t':=t) Un.refl I.hok
theorem Inv.kept {t' : Nat} (I : Inv X pins σ H s) (k : ∀ b u,s.heap.get? b = some u → h'.get? b = some u) : Inv X pins σ H { s with heap:=h', toks:=t' }:=I.un (Un.kept k) (I.hok.kept k)
theorem Inv.laid {a : Addr} {o : HO} {t' : Nat} (I : Inv X pins σ H s) (k : ∀ b u,s.heap.get? b = some u → h'.get? b = some u) (hp : s.heap.objs.size ≤ a) (new : ObjOk X.prog X.w (upd H a o) h' a o) :
  Inv X pins σ (upd H a o) { s with heap:=h', toks:=t' }:=I.un (Un.laid k hp (I.hok.fresh hp)) (I.hok.laid k hp new)
theorem Inv.write {x e : Addr} {o : HO} {t' : Nat} (I : Inv X pins σ H s) (mu : Mut (H x)) (he : e = x ∨ H e = some (.own x)) (k : ∀ b u,b ≠ e → s.heap.get? b = some u → h'.get? b = some u) (heo : ∃ u,h'.get? e = some u)
  (new : ObjOk X.prog X.w (upd H x o) h' x o) : Inv X pins σ (upd H x o) { s with heap:=h', toks:=t' }:=I.un (Un.write mu he k heo) (I.hok.write mu he k heo new)
theorem Inv.pins_of {pins' : List (Addr × Obj)} (I : Inv X pins σ H s) (h : ∀ p ∈ pins', s.heap.get? p.1 = some p.2 ∧ H p.1 = none ∧ p.1 ≠ X.env.locals ∧ p.1 ∉ X.fs ∧ ∀ v,p.2.data ≠ .cell v) : Inv X pins' σ H s :=
 ⟨I.ok,I.os,I.bare,I.base,I.loc,I.cell,I.free,I.freeC,fun p hp=>(List.mem_append.mp hp).elim (fun z=>I.pin p (List.mem_append_left _ z)) (h p),I.hok,I.len⟩
theorem Jv2 {N : List Str} (hN : N.Nodup) {i j : Nat} {x : Str} (a : N[i]? = some x) (b : N[j]? = some x) : i = j:=by
 obtain ⟨h1,e1⟩:=List.getElem?_eq_some_iff.mp a;obtain ⟨h2,e2⟩:=List.getElem?_eq_some_iff.mp b;exact (List.getElem_inj hN).mp (e1.trans e2.symm)
theorem Jtm {M : Model} {A : Around} {E : Value → Shared → Prop} {i : Nat} {x : Str} {v : V} {u : Value} {Q : Unit → Shared → Prop} (I : Inv X pins σ H s) (hN : X.N.Nodup) (hi : X.N[i]? = some x) (hx : Loc X.env.scope x) (r : RelV v u)
  (h : ∀ s', Inv X pins (σ.set i (some v)) H s' → (∃ a,Heap.SameBut a s.heap s'.heap ∧ (a = X.env.locals ∨ X.env.cells.lookup x = some a)) → Q () s') (hf : X.fn x = true ∨ X.env.scope.names.lookup x = some .local:=by first | exact .inl rfl | exact .inr rfl | assumption) : wpAny M A (storeName X.env x u) Q E s:=by
 obtain ⟨m,hn,hl⟩:=id I.loc;have hcls : (X.env.scope.kind == .class || (X.env.scope.kind == .module && X.env.locals != X.env.globals)) = false:=by rw [I.ok.kind]; rfl
 have hiσ : i < σ.length:=by rw [I.len]; exact (List.getElem?_eq_some_iff.mp hi).1
 have cne:=I.cne;have tracked : ∀ {a : Addr} {h' : Heap},(∃ o,s.heap.get? a = some o ∧ H a = none) → Heap.SameBut a s.heap h' → HOk X.prog X.w H h':=fun {a h'} ha hs b ob e=>by
  obtain ⟨_,_,hfree⟩:=ha;refine (I.hok b ob e).stay (fun c w' hc q=>(hs.2 c ?_).trans q) (fun _ q=>q) fun _ _ q=>q;rintro rfl;rcases hc with rfl | hc
  ·rw [hfree] at e; cases e
  ·rw [hfree] at hc; cases hc
 rcases hx with hk | hk
 ·refine wpAny_storeName_local hk hn (fun h' hn' hs=>?_) hcls;obtain ⟨oL,_,_,hoL,_⟩:=id hn;refine h _ ⟨I.ok,I.os,I.bare,⟨fun b o e n hb hx=>?_,fun b o e n hb hx=>?_,I.base.free,fun b o e hx=>?_,I.base.tups,I.base.frzs,I.base.tbls⟩,⟨_,hn', fun j y v' e1 e2 e3=>?_⟩,fun y c e=>?_,I.free,I.freeC,fun p hp=>?_,tracked ⟨oL,hoL,I.free⟩ hs,by simpa using I.len⟩ ⟨_,hs,.inl rfl⟩
  ·exact (hs.2 b (Nat.ne_of_lt (Nat.lt_of_lt_of_le (Heap.lt_size e) I.ok.above))).trans (I.base.keep b o e n hb hx)
  ·obtain ⟨sl,e1⟩:=I.base.slot b o e n hb hx;exact ⟨sl,(hs.2 b (Nat.ne_of_lt (Nat.lt_of_lt_of_le (Heap.lt_size e) I.ok.above))).trans e1⟩
  ·obtain ⟨o', e1⟩:=I.base.there b o e hx;exact ⟨o', (hs.2 b (Nat.ne_of_lt (Nat.lt_of_lt_of_le (Heap.lt_size e) I.ok.above))).trans e1⟩
  ·by_cases hj : j = i
   ·subst hj;rw [hi] at e1; cases e1;rw [List.getElem?_set_self hiσ] at e2;cases e2;exact ⟨u,r,.inl ⟨hk,by simp⟩⟩
   ·rw [List.getElem?_set_ne (Ne.symm hj)] at e2;obtain ⟨u', r', q⟩:=hl j y v' e1 e2 e3;refine ⟨u', r', ?_⟩;rcases q with ⟨k,e⟩ | ⟨k,c,e,z⟩
    ·refine .inl ⟨k,?_⟩;have : y ≠ x:=fun e=>hj (Jv2 hN e1 (e ▸ hi));simp [this,e]
    ·exact .inr ⟨k,c,e,z.sameBut hs (cne y c e)⟩
  ·obtain ⟨w', z⟩:=I.cell y c e;exact ⟨w', z.sameBut hs (cne y c e)⟩
  ·obtain ⟨e,n,ne,nf,d⟩:=I.pin p hp;exact ⟨(hs.2 p.1 ne).trans e,n,ne,nf,d⟩
 ·have hfn : X.fn x = true:=by
   rcases hf with z | z
   ·exact z
   ·rw [z] at hk; cases hk
  obtain ⟨c,hc⟩:=I.ok.has x (.inl hk);obtain ⟨w', z⟩:=I.cell x c hc;refine wpAny_storeName_cell I.ok.kind hk hc z (fun h' hc' hs=>?_);obtain ⟨oc,hoc,hocd⟩:=id z;refine h { s with heap:=h' } ⟨I.ok,I.os,I.bare,⟨fun b o e n hb hx=>?_,fun b o e n hb hx=>?_,I.base.free,fun b o e hx=>?_,I.base.tups,I.base.frzs,I.base.tbls⟩,⟨m,hn.sameBut hs (Ne.symm (cne x c hc)),fun j y v' e1 e2 e3=>?_⟩,fun y c' e=>?_,I.free,I.freeC,fun p hp=>?_,tracked ⟨oc,hoc,I.freeC x c hc⟩ hs,by simpa using I.len⟩ ⟨c,hs,.inr hc⟩
  ·exact (hs.2 b (Nat.ne_of_lt (Nat.lt_of_lt_of_le (Heap.lt_size e) (I.ok.cab x c hfn hc)))).trans (I.base.keep b o e n hb hx)
  ·obtain ⟨sl,e1⟩:=I.base.slot b o e n hb hx;exact ⟨sl,(hs.2 b (Nat.ne_of_lt (Nat.lt_of_lt_of_le (Heap.lt_size e) (I.ok.cab x c hfn hc)))).trans e1⟩
  ·obtain ⟨o', e1⟩:=I.base.there b o e hx;exact ⟨o', (hs.2 b (Nat.ne_of_lt (Nat.lt_of_lt_of_le (Heap.lt_size e) (I.ok.cab x c hfn hc)))).trans e1⟩
  ·by_cases hj : j = i
   ·subst hj;rw [hi] at e1; cases e1;rw [List.getElem?_set_self hiσ] at e2;cases e2;exact ⟨u,r,.inr ⟨.inl hk,c,hc,hc'⟩⟩
   ·rw [List.getElem?_set_ne (Ne.symm hj)] at e2;obtain ⟨u', r', q⟩:=hl j y v' e1 e2 e3;refine ⟨u', r', ?_⟩;rcases q with q | ⟨k,c', e,z'⟩
    ·exact .inl q
    ·refine .inr ⟨k,c', e,z'.sameBut hs ?_⟩;rintro rfl;exact hj (Jv2 hN e1 (I.ok.inj _ _ _ e hc ▸ hi))
  ·by_cases hcc : c' = c
   ·subst hcc; exact ⟨_,hc'⟩
   ·obtain ⟨w2,z2⟩:=I.cell y c' e;exact ⟨w2,z2.sameBut hs hcc⟩
  ·obtain ⟨e,n,ne,nf,d⟩:=I.pin p hp;refine ⟨(hs.2 p.1 ?_).trans e,n,ne,nf,d⟩;intro q;rw [q,hoc] at e;have q' : oc = p.2:=Option.some.inj e;exact d w' (by rw [← q']; exact hocd)
theorem Jvh {M : Model} {A : Around} {E : Value → Shared → Prop} {i : Nat} {x : Str} {v : V} {u : Value} {Q : Unit → Shared → Prop} (I : Inv X pins σ H s) (hN : X.N.Nodup) (hi : X.N[i]? = some x) (hx : Loc X.env.scope x) (r : RelV v u)
  (h : ∀ s', Inv X pins (σ.set i (some v)) H s' → Q () s') (hf : X.fn x = true ∨ X.env.scope.names.lookup x = some .local:=by first | exact .inl rfl | exact .inr rfl | assumption) : wpAny M A (storeName X.env x u) Q E s :=
 Jtm I hN hi hx r (fun s' I' _=>h s' I') hf
theorem Inv.call' {s' : Shared} {ch : List Addr} (I : Inv X pins σ H s) (ho : s'.os = s.os) (u : Un (frs X.stack) ch H H' s.heap s'.heap) (hok : HOk X.prog X.w H' s'.heap) (hg : AllBare s'.gens)
  (hch : ∀ b ∈ ch,(b ∈ X.ex ∨ X.s₀.heap.objs.size ≤ b) ∧ b ≠ X.env.locals ∧ (∀ x c,X.env.cells.lookup x = some c → c ≠ b) ∧ ∀ p ∈ X.pn ++ pins,p.1 ≠ b) : Inv X pins σ H' s':=by
 obtain ⟨h', g', d', t', o'⟩:=s';have e : o' = s.os:=ho;subst e;exact I.call (g':=g') (t':=t') (d':=d') u hok hg hch
end
noncomputable abbrev XK:=Value → Option Addr → Hp → Prop
noncomputable abbrev St:=List (Option V)
noncomputable abbrev VK:=V → Hp → Prop
noncomputable abbrev TE:=St → Hp → VK → Prop
noncomputable abbrev TT:=St → Hp → (Bool → Hp → Prop) → Prop
noncomputable abbrev TA:=St → Hp → (List V → Hp → Prop) → Prop
structure Jqc where
 nx : St → Hp → Prop
 rt : VK
 bk : St → Hp → Prop:=fun _ _=>False
 ct : St → Hp → Prop:=fun _ _=>False
noncomputable abbrev TS:=Jqc → St → Hp → Prop
noncomputable def EP (X : Cx) (pins : List (Addr × Obj)) (σ : St) (Q : VK) (u : Value) (s' : Shared) : Prop:=∃ v H', Inv X pins σ H' s' ∧ RelV v u ∧ Q v H'
noncomputable def TP (X : Cx) (pins : List (Addr × Obj)) (σ : St) (Q : Bool → Hp → Prop) (b : Bool) (s' : Shared) : Prop:=∃ H', Inv X pins σ H' s' ∧ Q b H'
noncomputable def AP (X : Cx) (pins : List (Addr × Obj)) (σ : St) (Q : List V → Hp → Prop) (us : List Value) (s' : Shared) : Prop:=∃ vs H', Inv X pins σ H' s' ∧ Vals vs us ∧ Q vs H'
noncomputable def SP (X : Cx) (pins : List (Addr × Obj)) (D : Jqc) (f : Flow) (s' : Shared) : Prop :=
 match f with
 | .next=>∃ σ' H', Inv X pins σ' H' s' ∧ D.nx σ' H'
 | .brk=>∃ σ' H', Inv X pins σ' H' s' ∧ D.bk σ' H'
 | .cont=>∃ σ' H', Inv X pins σ' H' s' ∧ D.ct σ' H'
 | .ret u=>∃ v σ' H', Inv X pins σ' H' s' ∧ RelV v u ∧ D.rt v H'
noncomputable def PE (X : Cx) (e : Expr) (t : TE) : Prop :=
 ∀ (pins : List (Addr × Obj)) (s : Shared) (σ : St) (H : Hp) (Q : VK),Inv X pins σ H s → t σ H Q → wpAny (model X.prog X.w) X.A (eval e X.env) (EP X pins σ Q) X.xe s
noncomputable def PT (X : Cx) (e : Expr) (t : TT) : Prop :=
 ∀ (pins : List (Addr × Obj)) (s : Shared) (σ : St) (H : Hp) (Q : Bool → Hp → Prop),Inv X pins σ H s → t σ H Q → wpAny (model X.prog X.w) X.A (isTrue e X.env (eval e X.env)) (TP X pins σ Q) X.xe s
noncomputable def PW (X : Cx) (e : Expr) (t : TT) : Prop :=
 ∀ (whole : Sem Value) (pins : List (Addr × Obj)) (s : Shared) (σ : St) (H : Hp) (Q : Bool → Hp → Prop),Inv X pins σ H s → t σ H Q → wpAny (model X.prog X.w) X.A (isTrue e X.env whole) (TP X pins σ Q) X.xe s
theorem PW.pt {X : Cx} {e : Expr} {t : TT} (h : PW X e t) : PT X e t:=h _
noncomputable def PA (X : Cx) (es : List Expr) (t : TA) : Prop :=
 ∀ (pos : Pos) (pins : List (Addr × Obj)) (s : Shared) (σ : St) (H : Hp) (Q : List V → Hp → Prop),Inv X pins σ H s → t σ H Q → wpAny (model X.prog X.w) X.A (spliced (backTo pos (starEach es X.env))) (AP X pins σ Q) X.xe s
noncomputable def PS (X : Cx) (st : Stmt) (t : TS) : Prop :=
 ∀ (pins : List (Addr × Obj)) (s : Shared) (σ : St) (H : Hp) (D : Jqc),Inv X pins σ H s → t D σ H → wpAny (model X.prog X.w) X.A (exec st X.env) (SP X pins D) X.xe s
noncomputable def PSs (X : Cx) (st : List Stmt) (t : TS) : Prop :=
 ∀ (pins : List (Addr × Obj)) (s : Shared) (σ : St) (H : Hp) (D : Jqc),Inv X pins σ H s → t D σ H → wpAny (model X.prog X.w) X.A (execs st X.env) (SP X pins D) X.xe s
theorem thn {α : Type} {t : Sem α} {Q Q' : α → Shared → Prop} {M : Model} {A : Around} {E : Value → Shared → Prop} {s : Shared} (h : wpAny M A t Q E s) (hQ : ∀ a s,Q a s → Q' a s) : wpAny M A t Q' E s:=wpAny_mono h hQ fun _ _ x=>x
end L2
namespace L2
open PySem PySem.Spec PyProof.Rows
section
variable {X : Cx}
noncomputable def tVar (i : Nat) : TE:=fun σ H Q=>∃ v,σ[i]? = some (some v) ∧ Q v H
noncomputable def tC (v : V) : TE:=fun _ H Q=>Q v H
theorem pe_var {i : Nat} {x : Str} {pos : Pos} (hN : X.N[i]? = some x) (hv : Vis X.env.scope x) (hd : (x == ("__debug__" : Str)) = false:=by decide) (hcd : (x == ("__classdict__" : Str)) = false:=by decide) : PE X (.Name x pos) (tVar i):=by
 intro pins s σ H Q I h;obtain ⟨v,e,h⟩:=h;obtain ⟨m,hn,hl⟩:=I.loc;obtain ⟨u,r,l⟩:=hl i x v hN e hv;have fin : EP X pins σ Q u s:=⟨v,H,I,r,h⟩;rcases l with ⟨hk,hm⟩ | ⟨hk,c,hc,hcell⟩
 ·exact wpAny_Name (wpAny_loadName_local I.ok.kind hk hn hm fin) hd
 ·rcases hk with hk | hk
  ·exact wpAny_Name (wpAny_loadName_cell I.ok.kind hk hc hcell fin) hd
  ·exact wpAny_Name (wpAny_loadName_free I.ok.kind hk hc hcell fin hcd) hd
theorem Jk4 {i j pos} : PE X (.Constant (.int i) j pos) (tC (.int i)):=fun _ _ _ H _ I h=>wpAny_Constant_int ⟨.int i,H,I.tok _,⟨_,rfl⟩,h⟩
theorem Jlx {b j pos} : PE X (.Constant (.bool b) j pos) (tC (.bl b)):=fun _ _ _ H _ I h=>Constant_bool ⟨.bl b,H,I,rfl,h⟩
theorem Jnz {j pos} : PE X (.Constant .none j pos) (tC .non):=fun _ _ _ H _ I h=>Constant_none ⟨.non,H,I,rfl,h⟩
theorem Jn4 {x j pos} : PE X (.Constant (.str x) j pos) (tC (.str x)):=fun _ _ _ H _ I h=>Calls.Constant_str ⟨.str x,H,I.tok _,⟨_,rfl⟩,h⟩
noncomputable def Gl (X : Cx) (x : Str) : Prop:=X.env.kindOf x = some .globalImplicit
theorem Jpu {E : Value → Shared → Prop} {pins : List (Addr × Obj)} {s : Shared} {σ : St} {H : Hp} {x : Str} {u : Value} {pos : Pos} {Q : Value → Shared → Prop} (I : Inv X pins σ H s) (hg : Gl X x) (hm : X.mg x = some u) (h : Q u s)
  (hd : (x == ("__debug__" : Str)) = false:=by decide) : wpAny (model X.prog X.w) X.A (eval (.Name x pos) X.env) Q E s :=
 Calls.Name_function_global I.ok.kind hg (Calls.loadGlobal_global (by rw [I.ok.glob]; exact I.mod.glob.keeps I.bk) hm h) hd
theorem Jnd {E : Value → Shared → Prop} {pins : List (Addr × Obj)} {s : Shared} {σ : St} {H : Hp} {x : Str} {u : Value} {pos : Pos} {Q : Value → Shared → Prop} (I : Inv X pins σ H s) (hg : Gl X x) (hm : X.mg x = none) (hv : bootBuiltins x = some u) (h : Q u s)
  (hn : x ≠ "__name__" := by decide) (hd : (x == ("__debug__" : Str)) = false:=by decide) : wpAny (model X.prog X.w) X.A (eval (.Name x pos) X.env) Q E s:=by
 obtain ⟨mb,h1,h2⟩:=I.mod.blt;exact Calls.Name_function_global I.ok.kind hg (Calls.loadGlobal_builtin (by rw [I.ok.glob]; exact I.mod.glob.keeps I.bk) hm (by rw [I.ok.blt]; exact h1.keeps I.bk) ((h2 x hn).trans hv) h) hd
theorem Jlb {x : Str} {v : V} {u : Value} {pos : Pos} (hg : Gl X x) (hm : X.mg x = some u) (r : RelV v u) (hd : (x == ("__debug__" : Str)) = false:=by decide) : PE X (.Name x pos) (tC v) :=
 fun _ _ _ H _ I h=>Jpu I hg hm ⟨v,H,I,r,h⟩ hd
theorem Jlq {x : Str} {v : V} {u : Value} {pos : Pos} (hg : Gl X x) (hm : X.mg x = none) (hv : bootBuiltins x = some u) (r : RelV v u) (hn : x ≠ "__name__" := by decide) (hd : (x == ("__debug__" : Str)) = false:=by decide) : PE X (.Name x pos) (tC v) :=
 fun _ _ _ H _ I h=>Jnd I hg hm hv ⟨v,H,I,r,h⟩ hn hd
variable {a b : Expr} {ta tb : TE} {pos : Pos}
noncomputable def tB (t : TE) : TT:=fun σ H Q=>t σ H fun x H1=>∃ c,x = .bl c ∧ Q c H1
theorem Jkq {e : Expr} {t : TE} (h : PE X e t) (he : ∀ whole,isTrue e X.env whole = (do let v ← whole; standAt e.pos; holding [v] (truthy v)):=by intro _; rfl) : PT X e (tB t):=by
 intro pins s σ H Q I hw;refine isTrue_plain (thn (h pins s σ H _ I hw) fun v s1 ⟨x,H1,I1,r1,q1⟩=>?_) (he _);obtain ⟨d,rfl,q⟩:=q1;cases r1;exact wpAny_truthy_bool ⟨H1,I1,q⟩
variable {tA tB' : TT} {rest : List Expr}
noncomputable def tAnd (t u : TT) : TT:=fun σ H Q=>t σ H fun c H1=>if c = true then u σ H1 Q else Q false H1
noncomputable def tOr (t u : TT) : TT:=fun σ H Q=>t σ H fun c H1=>if c = true then Q true H1 else u σ H1 Q
noncomputable def tNot (t : TT) : TT:=fun σ H Q=>t σ H fun c H1=>Q (!c) H1
theorem Ya1 (ha : PT X a tA) : PW X (.BoolOp .And [a] pos) tA:=by
 intro wh pins s σ H Q I h;refine isTrue_and (thn (ha pins s σ H Q I h) fun c s1 e=>?_);cases c with
 | true=>exact isTrue_and_nil e
 | false=>exact e
theorem Jo0 (ha : PT X a tA) : PW X (.BoolOp .Or [a] pos) tA:=by
 intro wh pins s σ H Q I h;refine isTrue_or (thn (ha pins s σ H Q I h) fun c s1 e=>?_);cases c with
 | false=>exact isTrue_or_nil e
 | true=>exact e
theorem pw_and (ha : PT X a tA) (hb : PW X (.BoolOp .And (b :: rest) pos) tB') : PW X (.BoolOp .And (a :: b :: rest) pos) (tAnd tA tB'):=by
 intro wh pins s σ H Q I h;refine isTrue_and (thn (ha pins s σ H _ I h) fun c s1 ⟨H1,I1,q1⟩=>?_);cases c with
 | true=>exact hb wh pins s1 σ H1 Q I1 q1
 | false=>exact ⟨H1,I1,q1⟩
theorem Jq4 (ha : PT X a tA) (hb : PW X (.BoolOp .Or (b :: rest) pos) tB') : PW X (.BoolOp .Or (a :: b :: rest) pos) (tOr tA tB'):=by
 intro wh pins s σ H Q I h;refine isTrue_or (thn (ha pins s σ H _ I h) fun c s1 ⟨H1,I1,q1⟩=>?_);cases c with
 | true=>exact ⟨H1,I1,q1⟩
 | false=>exact hb wh pins s1 σ H1 Q I1 q1
theorem Jkp (ha : PT X a tA) : PT X (.UnaryOp .Not a pos) (tNot tA):=by
 intro pins s σ H Q I h;exact isTrue_not (ha pins s σ H (fun c H1=>Q (!c) H1) I h)
noncomputable def tAndV (ta tb : TE) : TE:=fun σ H Q=>ta σ H fun x H1=>∃ c,x = .bl c ∧ if c = true then tb σ H1 Q else Q (.bl false) H1
theorem Jua {op} {t : TE} (h : PE X a t) : PE X (.BoolOp op [a] pos) t:=fun pins s σ H Q I hw=>BoolOp_one (h pins s σ H Q I hw)
theorem Ju9 (ha : PE X a ta) (hb : PE X (.BoolOp .And (b :: rest) pos) tb) : PE X (.BoolOp .And (a :: b :: rest) pos) (tAndV ta tb):=by
 intro pins s σ H Q I h;refine BoolOp_and (thn (ha pins s σ H _ I h) fun v s1 ⟨x,H1,I1,r1,q1⟩=>?_);obtain ⟨c,rfl,q1⟩:=q1;cases r1;refine wpAny_truthy_bool ?_;cases c with
 | true=>exact hb pins s1 σ H1 Q I1 q1
 | false=>exact ⟨.bl false,H1,I1,rfl,q1⟩
noncomputable def tIf (t : TT) (ta tb : TE) : TE:=fun σ H Q=>t σ H fun c H1=>if c = true then ta σ H1 Q else tb σ H1 Q
theorem Jz2 {c : Expr} (hc : PT X c tA) (ha : PE X a ta) (hb : PE X b tb) : PE X (.IfExp c a b pos) (tIf tA ta tb):=by
 intro pins s σ H Q I h;refine wpAny_IfExp (thn (hc pins s σ H _ I h) fun d s1 ⟨H1,I1,q1⟩=>?_);cases d with
 | true=>exact ha pins s1 σ H1 Q I1 q1
 | false=>exact hb pins s1 σ H1 Q I1 q1
end
end L2
namespace L2
open PySem PySem.Spec PyProof.Rows
noncomputable def SqL (K : PySem.W.Frag) (H : Hp) (a : Addr) (xs : List V) : Prop :=
 Rd H a (.lst xs) ∨
  ∃ (o : Obj) (its : Array Value) (n : Nat),K.lookup a = some o ∧ o.cls = .type "list" ∧ o.dict = none ∧ o.data = .seq its n ∧ its.size ≤ sizeLine ∧ Vals xs its.toList
noncomputable def SqT (K : PySem.W.Frag) (H : Hp) (a : Addr) (xs : List V) : Prop :=
 Rd H a (.tup xs) ∨
  ∃ (o : Obj) (its : Array Value) (n : Nat),K.lookup a = some o ∧ o.cls = .type "tuple" ∧ o.data = .seq its n ∧ its.size ≤ sizeLine ∧ Vals xs its.toList
noncomputable def absV : Value → Option V
 | .none=>some .non
 | .bool b=>some (.bl b)
 | .int i _=>some (.int i)
 | .str x _=>some (.str x)
 | .bytes b _=>some (.byt b)
 | .float b _=>some (.flt b)
 | .ref a=>some (.ref a)
 | .type n=>some (.ty n)
 | _=>none
theorem RelV.abs {x : V} {u : Value} (r : RelV x u) : absV u = some x:=by
 cases x with
 | non=>cases r; rfl
 | bl _=>cases r; rfl
 | int _=>obtain ⟨t,rfl⟩:=r; rfl
 | str _=>obtain ⟨t,rfl⟩:=r; rfl
 | byt _=>obtain ⟨t,rfl⟩:=r; rfl
 | flt _=>obtain ⟨t,rfl⟩:=r; rfl
 | ref _=>cases r; rfl
 | ty _=>cases r; rfl
theorem RelV.inj {x y : V} {u : Value} (r : RelV x u) (q : RelV y u) : x = y:=Option.some.inj (r.abs.symm.trans q.abs)
theorem Vals.inj : ∀ {xs ys : List V} {us : List Value},Vals xs us → Vals ys us → xs = ys
 | _,_,_,.nil,.nil=>rfl
 | _,_,_,.cons r t,.cons r' t'=>by rw [r.inj r', Vals.inj t t']
section
variable {X : Cx} {pins : List (Addr × Obj)} {σ : St} {H : Hp} {s : Shared} {a : Addr} {xs ys : List V}
theorem SqL.of {K : PySem.W.Frag} (h : H a = some (.lst xs)) : SqL K H a xs:=.inl (.inl h)
theorem SqT.of {K : PySem.W.Frag} (h : H a = some (.tup xs)) : SqT K H a xs:=.inl (.inl h)
theorem Inv.list (I : Inv X pins σ H s) (h : SqL X.K H a xs) : ∃ its : List Value,Vals xs its ∧ PlainL s.heap a its.toArray ∧ xs.length ≤ sizeLine:=by
 rcases h with h | ⟨o,its,n,hk,hc,hd,hs,hz,r⟩
 ·obtain ⟨z,its,n,r,e⟩:=h.ok I.hok;exact ⟨its,r,⟨_,n,e,rfl,rfl,rfl⟩,z⟩
 ·refine ⟨its.toList,r,⟨o,n,I.kIn a o hk,hc,hd,by simpa using hs⟩,?_⟩;have e:=r.length;simp only [Array.length_toList] at e;omega
theorem Inv.tuple (I : Inv X pins σ H s) (h : SqT X.K H a xs) : ∃ its : List Value,Vals xs its ∧ IsTup s.heap a its.toArray ∧ xs.length ≤ sizeLine:=by
 rcases h with h | ⟨o,its,n,hk,hc,hs,hz,r⟩
 ·obtain ⟨z,its,r,p⟩:=h.ok I.hok;exact ⟨its,r,p,z⟩
 ·refine ⟨its.toList,r,⟨o,I.kIn a o hk,hc,n,by simpa using hs⟩,?_⟩;have e:=r.length;simp only [Array.length_toList] at e;omega
theorem Inv.list_inj (I : Inv X pins σ H s) (h : SqL X.K H a xs) (h' : SqL X.K H a ys) : xs = ys:=by
 obtain ⟨its,r,⟨o,n,e,_,_,d⟩,_⟩:=I.list h;obtain ⟨its', r', ⟨o', n', e', _,_,d'⟩,_⟩:=I.list h';rw [e] at e'; cases e';rw [d] at d';injection d' with d1 _;have : its = its':=by simpa using congrArg Array.toList d1
 subst this;exact r.inj r'
theorem Inv.tuple_inj (I : Inv X pins σ H s) (h : SqT X.K H a xs) (h' : SqT X.K H a ys) : xs = ys:=by
 obtain ⟨its,r,⟨o,e,_,n,d⟩,_⟩:=I.tuple h;obtain ⟨its', r', ⟨o', e', _,n', d'⟩,_⟩:=I.tuple h';rw [e] at e'; cases e';rw [d] at d';injection d' with d1 _;have : its = its':=by simpa using congrArg Array.toList d1
 subst this;exact r.inj r'
end
noncomputable abbrev Cx.wish (X : Cx) (E : Value → Shared → Prop) : Cx:={ X with xe:=E }
noncomputable abbrev Cx.nox (X : Cx) : Cx:=X.wish fun _ _=>False
theorem Cx.Ok.wish {X : Cx} (ok : X.Ok) (E : Value → Shared → Prop) : (X.wish E).Ok :=
 ⟨ok.mod,ok.kind,ok.glob,ok.blt,ok.above,ok.inj,ok.has,ok.cab,ok.hd,ok.frames,ok.stk,ok.exf,ok.bs,ok.bsz,ok.noex,ok.exfs,ok.funs,ok.frf⟩
theorem Cx.Ok.unwish {X : Cx} {E : Value → Shared → Prop} (ok : (X.wish E).Ok) : X.Ok :=
 ⟨ok.mod,ok.kind,ok.glob,ok.blt,ok.above,ok.inj,ok.has,ok.cab,ok.hd,ok.frames,ok.stk,ok.exf,ok.bs,ok.bsz,ok.noex,ok.exfs,ok.funs,ok.frf⟩
section
variable {X : Cx} {pins : List (Addr × Obj)} {σ : St} {H : Hp} {s : Shared} {E : Value → Shared → Prop}
theorem Inv.wish (I : Inv X pins σ H s) (E : Value → Shared → Prop) : Inv (X.wish E) pins σ H s:=⟨I.ok.wish E,I.os,I.bare,I.base,I.loc,I.cell,I.free,I.freeC,I.pin,I.hok,I.len⟩
theorem Inv.unwish (I : Inv (X.wish E) pins σ H s) : Inv X pins σ H s:=⟨I.ok.unwish,I.os,I.bare,I.base,I.loc,I.cell,I.free,I.freeC,I.pin,I.hok,I.len⟩
theorem SP.unwish {D : Jqc} {f : Flow} {s' : Shared} (h : SP (X.wish E) pins D f s') : SP X pins D f s':=by
 cases f with
 | next=>obtain ⟨σ', H', I,q⟩:=h; exact ⟨σ', H', I.unwish,q⟩
 | brk=>obtain ⟨σ', H', I,q⟩:=h; exact ⟨σ', H', I.unwish,q⟩
 | cont=>obtain ⟨σ', H', I,q⟩:=h; exact ⟨σ', H', I.unwish,q⟩
 | ret u=>obtain ⟨v,σ', H', I,r,q⟩:=h; exact ⟨v,σ', H', I.unwish,r,q⟩
theorem PSs.nox {st : List Stmt} {t : TS} (h : PSs X.nox st t) : PSs X st t:=fun pins s σ H D I hw =>
 wpAny_mono (h pins s σ H D (I.wish _) hw) (fun _ _ q=>q.unwish) fun _ _ z=>False.elim z
end
section
variable {X : Cx} {st : Stmt} {rest : List Stmt} {t u : TS} {e : Expr} {te : TE} {pos : Pos}
noncomputable def tNext : TS:=fun D σ H=>D.nx σ H
noncomputable def tSeq (t u : TS) : TS:=fun D σ H=>t { D with nx:=u D } σ H
theorem Jkg : PSs X [] tNext:=fun _ _ σ H _ I h=>wpAny_execs_nil ⟨σ,H,I,h⟩
theorem Jk2 (h1 : PS X st t) (h2 : PSs X rest u) : PSs X (st :: rest) (tSeq t u):=by
 intro pins s σ H D I h;refine wpAny_execs_cons (thn (h1 pins s σ H { D with nx:=u D } I h) fun f s1 q=>?_);cases f with
 | next =>
  obtain ⟨σ', H', I', q⟩:=q;exact h2 pins s1 σ' H' D I' q
 | ret v=>exact q
 | brk=>exact q
 | cont=>exact q
theorem Jk3 (h1 : PS X st t) : PSs X [st] t:=by
 intro pins s σ H D I h;refine wpAny_execs_cons (thn (h1 pins s σ H D I h) fun f s1 q=>?_);cases f with
 | next=>exact wpAny_execs_nil q
 | ret v=>exact q
 | brk=>exact q
 | cont=>exact q
theorem Inv.quiet {pins : List (Addr × Obj)} {σ : St} {H : Hp} {s : Shared} (I : Inv X pins σ H s) : interactive X.env = false:=by simp [interactive,I.ok.kind]
noncomputable def tDrop (te : TE) : TS:=fun D σ H=>te σ H fun _ H1=>D.nx σ H1
theorem Jml (he : PE X e te) (hs : swapsWith e none pos.line X.env = pure false:=by rfl) : PS X (.Expr e pos) (tDrop te):=by
 intro pins s σ H D I h;exact wpAny_Expr_any (thn (he pins s σ H _ I h) fun v s1 ⟨x,H1,I1,r1,q1⟩=>⟨σ,H1,I1,q1⟩) I.quiet hs
noncomputable def tRet (te : TE) : TS:=fun D σ H=>te σ H D.rt
theorem Jkd (he : PE X e te) : PS X (.Return (some e) pos) (tRet te):=by
 intro pins s σ H D I h;exact wpAny_Return_some (thn (he pins s σ H _ I h) fun v s1 ⟨x,H1,I1,r1,q1⟩=>⟨x,σ,H1,I1,r1,q1⟩)
noncomputable def tIfS (c : TT) (t u : TS) : TS:=fun D σ H=>c σ H fun b H1=>if b = true then t D σ H1 else u D σ H1
theorem Jks {c : Expr} {a b : List Stmt} {tc : TT} (hc : PT X c tc) (ha : PSs X a t) (hb : PSs X b u) : PS X (.If c a b pos) (tIfS tc t u):=by
 intro pins s σ H D I h;refine wpAny_If (thn (hc pins s σ H _ I h) fun d s1 ⟨H1,I1,q1⟩=>?_);cases d with
 | true=>exact ha pins s1 σ H1 D I1 q1
 | false=>exact hb pins s1 σ H1 D I1 q1
end
noncomputable abbrev TG:=V → St → Hp → (St → Hp → Prop) → Prop
noncomputable abbrev TGs:=List V → St → Hp → (St → Hp → Prop) → Prop
noncomputable def PG (X : Cx) (target : Expr) (t : TG) : Prop :=
 ∀ (pins : List (Addr × Obj)) (s : Shared) (σ : St) (H : Hp) (v : V) (u : Value) (Q : St → Hp → Prop),Inv X pins σ H s → RelV v u → t v σ H Q →
  wpAny (model X.prog X.w) X.A (assign target X.env u) (fun _ s'=>∃ σ' H', Inv X pins σ' H' s' ∧ Q σ' H') X.xe s
noncomputable def PGs (X : Cx) (ts : List Expr) (t : TGs) : Prop :=
 ∀ (pins : List (Addr × Obj)) (s : Shared) (σ : St) (H : Hp) (vs : List V) (us : List Value) (Q : St → Hp → Prop),Inv X pins σ H s → Vals vs us → t vs σ H Q →
  wpAny (model X.prog X.w) X.A (assignInOrder ((assignEach ts X.env).map (·.2)) us) (fun _ s'=>∃ σ' H', Inv X pins σ' H' s' ∧ Q σ' H') X.xe s
noncomputable abbrev TSet:=V → V → V → Hp → (Hp → Prop) → Prop
noncomputable def PSet (X : Cx) (t : TSet) : Prop :=
 ∀ (pins : List (Addr × Obj)) (s : Shared) (σ : St) (H : Hp) (o i v : V) (ov iv u : Value) (Q : Hp → Prop),Inv X pins σ H s → RelV o ov → RelV i iv → RelV v u → t o i v H Q →
  wpAny (model X.prog X.w) X.A (setItem ov iv u) (fun _ s'=>∃ H', Inv X pins σ H' s' ∧ Q H') X.xe s
noncomputable abbrev TIp:=V → V → Hp → VK → Prop
noncomputable def PIp (X : Cx) (op : Operator) (t : TIp) : Prop :=
 ∀ (pins : List (Addr × Obj)) (s : Shared) (σ : St) (H : Hp) (x y : V) (v u : Value) (Q : VK),Inv X pins σ H s → RelV x v → RelV y u → t x y H Q →
  wpAny (model X.prog X.w) X.A (inplaceOp op v u) (EP X pins σ Q) X.xe s
section
variable {X : Cx} {pos : Pos}
noncomputable def Jmq (i : Nat) : TG:=fun v σ H Q=>Q (σ.set i (some v)) H
theorem Jkc {i : Nat} {x : Str} (hN : X.N.Nodup) (hi : X.N[i]? = some x) (hx : Loc X.env.scope x) (hf : X.fn x = true ∨ X.env.scope.names.lookup x = some .local:=by first | exact .inl rfl | exact .inr rfl | assumption) : PG X (.Name x pos) (Jmq i):=by
 intro pins s σ H v u Q I r h;exact wpAny_assign_Name (Jvh I hN hi hx r (fun s' I'=>⟨_,H,I', h⟩) hf)
noncomputable def gNil : TGs:=fun vs σ H Q=>vs = [] ∧ Q σ H
noncomputable def Jp6 (t : TG) (u : TGs) : TGs:=fun vs σ H Q=>∃ v r,vs = v :: r ∧ t v σ H fun σ' H'=>u r σ' H' Q
theorem Jls : PGs X [] gNil:=by
 intro pins s σ H vs us Q I r h;obtain ⟨e,h⟩:=h;subst e;cases r;exact assignInOrder_nil ⟨σ,H,I,h⟩
theorem Jkf {e : Expr} {es : List Expr} {t : TG} {u : TGs} (h1 : PG X e t) (h2 : PGs X es u)
  (hs : (assignEach (e :: es) X.env).map (·.2) = assign e X.env :: (assignEach es X.env).map (·.2):=by rfl) : PGs X (e :: es) (Jp6 t u):=by
 intro pins s σ H vs us Q I r h;obtain ⟨v,vr,e1,h⟩:=h;subst e1;cases r with
 | cons r rr =>
  rw [hs];refine assignInOrder_cons (thn (h1 pins s σ H _ _ _ I r h) fun _ s1 ⟨σ1,H1,I1,q1⟩=>?_);exact h2 pins s1 σ1 H1 _ _ Q I1 rr q1
noncomputable def gTup (K : PySem.W.Frag) (n : Nat) (t : TGs) : TG:=fun v σ H Q=>∃ a xs,v = .ref a ∧ SqT K H a xs ∧ xs.length = n ∧ t xs σ H Q
theorem Jom {es : List Expr} {k : Nat} {t : TGs} {n : Nat} (hc : X.calm = true) (h : PGs X es t)
  (hn : (assignEach es X.env).length = n:=by rfl) (hst : (assignEach es X.env).findIdx? (·.1) = none:=by rfl) : PG X (.Tuple es k pos) (gTup X.K n t):=by
 intro pins s σ H v u Q I r hw;obtain ⟨a,xs,e1,hq,hl,hw⟩:=hw;subst e1;cases r;obtain ⟨its,rv,ht,hz⟩:=I.tuple hq;refine assign_Tuple_tuple (I.ok.hd hc) ht (by simp [hn,← hl,rv.length]) hst fun h' hx=>?_;have I1 : Inv X pins σ H { s with heap:=h' }:=I.kept (t':=s.toks) fun b o e=>hx b o (Nat.ne_of_lt (Heap.lt_size e)) e;exact h pins _ σ H xs _ Q I1 (by simpa using rv) hw
noncomputable def gSub (to ti : TE) (t : TSet) : TG:=fun v σ H Q=>to σ H fun o H1=>ti σ H1 fun i H2=>t o i v H2 fun H3=>Q σ H3
theorem Jqy {o i : Expr} {to ti : TE} {t : TSet} (ho : PE X o to) (hi : PE X i ti) (hs : PSet X t)
  (ha : ∀ v,assign (.Subscript o i pos) X.env v = (do
   let ov ← holding [v] (eval o X.env);let iv ← holding [v,ov] (eval i X.env)
   standAt pos
   holding [v,ov,iv] (setItem ov iv v)
   release [v,ov,iv] []):=by intro _; rfl) : PG X (.Subscript o i pos) (gSub to ti t):=by
 intro pins s σ H v u Q I r h;rw [ha];refine wpAny_bind (wpAny_holding (thn (ho pins s σ H _ I h) fun ov s1 ⟨x,H1,I1,r1,q1⟩=>?_));refine wpAny_bind (wpAny_holding (thn (hi pins s1 σ H1 _ I1 q1) fun iv s2 ⟨y,H2,I2,r2,q2⟩=>?_));refine wpAny_bind (wpAny_standAt (wpAny_bind (wpAny_holding (thn (hs pins s2 σ H2 x y v ov iv u _ I2 r1 r2 r q2) fun _ s3 ⟨H3,I3,q3⟩=>?_))));exact wpAny_release ⟨σ,H3,I3,q3⟩
noncomputable def tAsg (te : TE) (g : TG) : TS:=fun D σ H=>te σ H fun x H1=>g x σ H1 D.nx
theorem Jng {tg e : Expr} {te : TE} {g : TG} (he : PE X e te) (hg : PG X tg g) (hs : swapsWithSole [tg] e pos.line X.env = pure false:=by rfl) (hw : swappedStores [tg] e X.env = pure none:=by rfl)
  (h1 : (assignEach [tg] X.env).map (·.2) = [assign tg X.env]:=by rfl) : PS X (.Assign [tg] e pos) (tAsg te g):=by
 intro pins s σ H D I h;refine wpAny_Assign_stores (thn (he pins s σ H _ I h) fun v s1 ⟨x,H1,I1,r1,q1⟩=>?_) hs hw;rw [h1];exact thn (hg pins s1 σ H1 x v _ I1 r1 q1) fun _ s2 q=>q
theorem Jki {i : Nat} {x : Str} {e : Expr} {te : TE} {pos' : Pos} (hN : X.N.Nodup) (hi : X.N[i]? = some x) (hx : Loc X.env.scope x) (he : PE X e te) (hs : swapsWith e (some (.Name x pos')) pos.line X.env = pure false:=by rfl) (hf : X.fn x = true ∨ X.env.scope.names.lookup x = some .local:=by first | exact .inl rfl | exact .inr rfl | assumption) :
  PS X (.Assign [.Name x pos'] e pos) (tAsg te (Jmq i)):=by
 intro pins s σ H D I h;refine wpAny_Assign_Name (thn (he pins s σ H _ I h) fun v s1 ⟨y,H1,I1,r1,q1⟩=>?_) hs;exact Jvh I1 hN hi hx r1 (fun s2 I2=>⟨_,H1,I2,q1⟩) hf
noncomputable def tAugS (to ti te : TE) (tget : V → V → Hp → VK → Prop) (tip : TIp) (tset : TSet) : TS:=fun D σ H=>to σ H fun o H1=>ti σ H1 fun i H2=>tget o i H2 fun x H3=>te σ H3 fun y H4=>tip x y H4 fun z H5=>tset o i z H5 fun H6=>D.nx σ H6
noncomputable def PGet (X : Cx) (t : V → V → Hp → VK → Prop) : Prop :=
 ∀ (pins : List (Addr × Obj)) (s : Shared) (σ : St) (H : Hp) (o i : V) (ov iv : Value) (Q : VK),Inv X pins σ H s → RelV o ov → RelV i iv → t o i H Q →
  wpAny (model X.prog X.w) X.A (getItem ov iv) (EP X pins σ Q) X.xe s
theorem Ya0 {o i e : Expr} {to ti te : TE} {tget : V → V → Hp → VK → Prop} {tip : TIp} {tset : TSet} {op : Operator} {tpos : Pos} (ho : PE X o to) (hi : PE X i ti) (hg : PGet X tget) (he : PE X e te) (hp : PIp X op tip) (hs : PSet X tset)
  (ha : ∀ ov iv new,augStore i ov iv new = (do holding [new,ov,iv] (setItem ov iv new); release [new,ov,iv] []; pure .next):=by intros; rfl) : PS X (.AugAssign (.Subscript o i tpos) op e pos) (tAugS to ti te tget tip tset):=by
 intro pins s σ H D I h;refine wpAny_AugAssign_SubscriptAny (thn (ho pins s σ H _ I h) fun ov s1 ⟨x1,H1,I1,r1,q1⟩=>?_) ha;refine thn (hi pins s1 σ H1 _ I1 q1) fun iv s2 ⟨x2,H2,I2,r2,q2⟩=>?_;refine thn (hg pins s2 σ H2 x1 x2 ov iv _ I2 r1 r2 q2) fun old s3 ⟨x3,H3,I3,r3,q3⟩=>?_;refine thn (he pins s3 σ H3 _ I3 q3) fun v s4 ⟨x4,H4,I4,r4,q4⟩=>?_;refine thn (hp pins s4 σ H4 x3 x4 old v _ I4 r3 r4 q4) fun new s5 ⟨x5,H5,I5,r5,q5⟩=>?_;exact thn (hs pins s5 σ H5 x1 x2 x5 ov iv new _ I5 r1 r2 r5 q5) fun _ s6 ⟨H6,I6,q6⟩=>⟨σ,H6,I6,q6⟩
noncomputable def ipI (f : Int → Int → Int) : TIp:=fun x y H Q=>∃ i j,x = .int i ∧ y = .int j ∧ Q (.int (f i j)) H
theorem ip_sub : PIp X .Sub (ipI fun i j=>i - j):=by
 intro pins s σ H x y v u Q I r1 r2 h;obtain ⟨i,j,e1,e2,q⟩:=h;subst e1; subst e2;obtain ⟨t,rfl⟩:=r1;obtain ⟨t', rfl⟩:=r2;exact isub_int ⟨.int _,H,I.tok _,⟨_,rfl⟩,q⟩
end
section
variable {X : Cx} {pos : Pos}
noncomputable def tWhile (c : TT) (tb : TS) : TS:=fun D σ H=>∃ W : Nat → St → Hp → Prop,(∃ m,W m σ H) ∧ ∀ m σ H,W m σ H →
 c σ H fun b H1=>if b = true then ∃ N : St → Hp → Prop,(∀ σ' H', N σ' H' → ∃ m', m' < m ∧ W m' σ' H') ∧ tb { D with nx:=N,ct:=N,bk:=D.nx } σ H1 else D.nx σ H1
theorem Jz5 {c : Expr} {body : List Stmt} {tc : TT} {tb : TS} (hp : PassesOwn (model X.prog X.w) X.A X.env X.xe) (hc : PT X c tc) (hb : PSs X body tb) : PS X (.While c body [] pos) (tWhile tc tb):=by
 intro pins s σ H D I h;obtain ⟨W,⟨m0,w0⟩,turn⟩:=h;refine wpAny_While (codeAny_whileLoop (fun n s'=>∃ σ' H', Inv X pins σ' H' s' ∧ W n σ' H') ?_ m0 ⟨σ,H,I,w0⟩);rintro n s1 ⟨σ1,H1,I1,w1⟩;refine wpAny_passesOwn hp (thn (hc pins s1 σ1 H1 _ I1 (turn n σ1 H1 w1)) fun b s2 ⟨H2,I2,q2⟩=>?_);cases b with
 | true =>
  obtain ⟨N,hN,q2⟩:=q2;rw [if_pos rfl];refine wpAny_passesOwn hp (thn (hb pins s2 σ1 H2 _ I2 q2) fun f s3 q3=>?_);cases f with
  | next =>
   obtain ⟨σ3,H3,I3,n3⟩:=q3;obtain ⟨m', hm,w3⟩:=hN σ3 H3 n3;exact ⟨m', hm,σ3,H3,I3,w3⟩
  | cont =>
   obtain ⟨σ3,H3,I3,n3⟩:=q3;obtain ⟨m', hm,w3⟩:=hN σ3 H3 n3;exact ⟨m', hm,σ3,H3,I3,w3⟩
  | brk=>exact q3
  | ret v=>exact q3
 | false =>
  rw [if_neg Bool.false_ne_true];exact wpAny_execs_nil ⟨σ1,H2,I2,q2⟩
end
structure It where
 go : Nat → Hp → Prop
 yld : Nat → Hp → V → Hp → Prop
 stop : Nat → Hp → Prop
noncomputable def Jqd (X : Cx) (pins : List (Addr × Obj)) (H : Hp) (b : Addr) : Prop :=
 H b = none ∧ b ≠ X.env.locals ∧ b ∉ X.fs ∧ (b ∈ X.ex ∨ X.s₀.heap.objs.size ≤ b) ∧ (∀ x c,X.env.cells.lookup x = some c → c ≠ b) ∧ ∀ p ∈ X.pn ++ pins,p.1 ≠ b
theorem Inv.fpOk {X : Cx} {pins : List (Addr × Obj)} {σ : St} {H H' : Hp} {s : Shared} {b : Addr} (I : Inv X pins σ H s) (hb : s.heap.objs.size ≤ b) (hn : H' b = none) : Jqd X pins H' b:=by
 refine ⟨hn,Nat.ne_of_gt (Nat.lt_of_lt_of_le I.lt hb),I.nofs hb,.inr (Nat.le_trans I.sz hb),fun x c e z=>?_,fun p hp z=>?_⟩
 ·obtain ⟨v,q⟩:=I.cell x c e;exact absurd (Nat.lt_of_lt_of_le q.lt (by rw [z]; exact hb)) (Nat.lt_irrefl _)
 ·exact absurd (Nat.lt_of_lt_of_le (Heap.lt_size (I.pin p hp).1) (by rw [z]; exact hb)) (Nat.lt_irrefl _)
structure Turn (P : Program) (w : World) (K : PySem.W.Frag) (tg : Expr) (J : It) (fp : List Addr) (it : Addr) (tn : Nat → Heap → Prop) : Prop where
 mem : it ∈ fp
 obj : ∀ i h,tn i h → ∀ b ∈ fp,∃ o,h.get? b = some o ∧ ∀ v,o.data ≠ .cell v
 keep : ∀ i h h', tn i h → (∀ b ∈ fp,∀ o,h.get? b = some o → h'.get? b = some o) → tn i h'
 item : ∀ (X : Cx),X.prog = P → X.w = w → X.K = K → X.calm = true → ∀ (i : Nat) (pins : List (Addr × Obj)) (s : Shared) (σ : St) (H : Hp) (E : Value → Shared → Prop),Inv X pins σ H s → (∀ b ∈ fp,Jqd X pins H b) → tn i s.heap → J.go i H →
  wpAny (model P w) X.A (pyNext (.ref it)) (fun r s1=>∃ u,r = some u ∧
   wpAny (model P w) X.A (letOwnedTupleGo tg (.ref it) u) (fun _ s2=>∃ x H', Inv X pins σ H' s2 ∧ RelV x u ∧ J.yld i H x H' ∧ tn (i + 1) s2.heap ∧ ∀ b ∈ fp,H' b = none) E s1) E s
 done : ∀ (X : Cx),X.prog = P → X.w = w → X.K = K → X.calm = true → ∀ (i : Nat) (pins : List (Addr × Obj)) (s : Shared) (σ : St) (H : Hp) (E : Value → Shared → Prop),Inv X pins σ H s → (∀ b ∈ fp,Jqd X pins H b) → tn i s.heap → J.stop i H →
  wpAny (model P w) X.A (pyNext (.ref it)) (fun r s1=>r = none ∧ Inv X pins σ H s1) E s
 self : ∀ (A : Around) (i : Nat) (s : Shared) (Q : Value → Shared → Prop) (E : Value → Shared → Prop),tn i s.heap → Q (.ref it) s → wpAny (model P w) A (pyIter (.ref it)) Q E s
noncomputable abbrev TI:=St → Hp → (It → Hp → Prop) → Prop
noncomputable def PIE (X : Cx) (pins : List (Addr × Obj)) (σ : St) (tg : Expr) (R : It → Hp → Prop) (itv : Value) (s2 : Shared) : Prop :=
 ∃ (it : Addr) (fp : List Addr) (tn : Nat → Heap → Prop) (J : It) (H' : Hp),itv = .ref it ∧ Inv X pins σ H' s2 ∧ Turn X.prog X.w X.K tg J fp it tn ∧ tn 0 s2.heap ∧ (∀ b ∈ fp,Jqd X pins H' b) ∧ R J H'
noncomputable def PI (X : Cx) (tg iter : Expr) (wi : TI) : Prop :=
 ∀ (pins : List (Addr × Obj)) (s : Shared) (σ : St) (H : Hp) (R : It → Hp → Prop),Inv X pins σ H s → wi σ H R →
  wpAny (model X.prog X.w) X.A (eval iter X.env) (fun v s1=>wpAny (model X.prog X.w) X.A (pyIter v) (PIE X pins σ tg R) X.xe s1) X.xe s
theorem Jwq {M : Model} {A : Around} {E : Value → Shared → Prop} {s : Shared} {tg : Expr} {it : Addr} {u : Value} {o : Obj} {n : String} {vs : Array Value} {Q : Unit → Shared → Prop} (ho : s.heap.get? it = some o) (hc : o.cls = .type n) (hd : o.data = .fields vs)
  (hn : ["enumerate","zip","dict_itemiterator","dict_reverseitemiterator","odict_iterator","itertools.zip_longest","itertools.pairwise"].contains n = false) (hQ : Q () s) : wpAny M A (letOwnedTupleGo tg (.ref it) u) Q E s:=by
 unfold letOwnedTupleGo;cases tg <;> first
  | exact wpAny_pure hQ
  | (cases u <;> first
    | exact wpAny_pure hQ
    | (refine wpAny_bind (wpAny_load ho ?_)
       rw [hc,hd];show wpAny M A (if (["enumerate","zip","dict_itemiterator","dict_reverseitemiterator","odict_iterator","itertools.zip_longest","itertools.pairwise"].contains n && vs[0]? == some (rawInt _)) = true then _ else _) Q E s;rw [if_neg (by intro h; rw [hn,Bool.false_and] at h; cases h)];exact wpAny_pure hQ))
noncomputable def Itl (K : PySem.W.Frag) (a : Addr) : It :=
 ⟨fun i H=>∃ xs x,SqL K H a xs ∧ xs[i]? = some x,fun i H x H'=>H' = H ∧ ∀ xs,SqL K H a xs → xs[i]? = some x,fun i H=>∃ xs,SqL K H a xs ∧ xs.length ≤ i⟩
noncomputable def Itt (K : PySem.W.Frag) (a : Addr) : It :=
 ⟨fun i H=>∃ xs x,SqT K H a xs ∧ xs[i]? = some x,fun i H x H'=>H' = H ∧ ∀ xs,SqT K H a xs → xs[i]? = some x,fun i H=>∃ xs,SqT K H a xs ∧ xs.length ≤ i⟩
noncomputable def Itr (lo : Int) (n : Nat) : It:=⟨fun i _=>i < n,fun i H x H'=>H' = H ∧ x = .int (lo + i),fun i _=>n ≤ i⟩
theorem Jto {P : Program} {w : World} {K : PySem.W.Frag} {tg : Expr} (a it : Addr) : Turn P w K tg (Itl K a) [it] it (fun i h=>h.IsListIter it a i) where
 mem:=by simp
 obj:=fun i h st b hb=>by
  have e : b = it:=by simpa using hb
  subst e;obtain ⟨o,e,c,d⟩:=st;exact ⟨o,e,fun v z=>by rw [d] at z; cases z⟩
 keep:=fun i h h' st k=>st.at fun o e=>k it (by simp) o e
 item:=by
  intro X hP hw hK hc i pins s σ H E I hf st hg;subst hP hw hK;obtain ⟨xs,x,hq,hx⟩:=hg;obtain ⟨its,rv,p,hz⟩:=I.list hq;obtain ⟨u,hu,ru⟩:=rv.get hx;obtain ⟨f0,f1,f2,f3,f4,f5⟩:=hf it (by simp);refine wpAny_pyNext_list_item st p.isList (x:=u) (by simpa using hu) fun h' st' sb=>?_;have I1 : Inv X pins σ H { s with heap:=h' }:=I.turned (t':=s.toks) (fun b o hb e=>(sb.2 b hb).trans e) f0 f1 f3 f4 f5;obtain ⟨o,e,c,d⟩:=id st';exact ⟨u,rfl,Jwq (s:={ s with heap:=h' }) e c d (by decide) ⟨x,H,I1,ru,⟨rfl,fun ys hy=>by rw [I.list_inj hy hq]; exact hx⟩,st', fun b hb=>(hf b hb).1⟩⟩
 done:=by
  intro X hP hw hK hc i pins s σ H E I hf st hg;subst hP hw hK;obtain ⟨xs,hq,hx⟩:=hg;obtain ⟨its,rv,p,hz⟩:=I.list hq;obtain ⟨f0,f1,f2,f3,f4,f5⟩:=hf it (by simp);have hl:=rv.length;exact wpAny_pyNext_list_end (I.ok.hd hc) st p.isList (by simp; omega) fun h' eb=>⟨rfl,I.turned (t':=s.toks) (fun b o hb e=>eb b o hb e) f0 f1 f3 f4 f5⟩
 self:=fun _ _ _ _ _ st h=>wpAny_pyIter_listiter st h
theorem Jsn {P : Program} {w : World} {K : PySem.W.Frag} {tg : Expr} (a it : Addr) : Turn P w K tg (Itt K a) [it] it (fun i h=>h.IsTupleIter it a i) where
 mem:=by simp
 obj:=fun i h st b hb=>by
  have e : b = it:=by simpa using hb
  subst e;obtain ⟨o,e,c,d⟩:=st;exact ⟨o,e,fun v z=>by rw [d] at z; cases z⟩
 keep:=fun i h h' st k=>st.at fun o e=>k it (by simp) o e
 item:=by
  intro X hP hw hK hc i pins s σ H E I hf st hg;subst hP hw hK;obtain ⟨xs,x,hq,hx⟩:=hg;obtain ⟨its,rv,p,hz⟩:=I.tuple hq;obtain ⟨u,hu,ru⟩:=rv.get hx;obtain ⟨f0,f1,f2,f3,f4,f5⟩:=hf it (by simp);refine wpAny_pyNext_tuple_item st (show s.heap.IsTuple a its.toArray from p) (x:=u) (by simpa using hu) fun h' st' sb=>?_;have I1 : Inv X pins σ H { s with heap:=h' }:=I.turned (t':=s.toks) (fun b o hb e=>(sb.2 b hb).trans e) f0 f1 f3 f4 f5;obtain ⟨o,e,c,d⟩:=id st';exact ⟨u,rfl,Jwq (s:={ s with heap:=h' }) e c d (by decide) ⟨x,H,I1,ru,⟨rfl,fun ys hy=>by rw [I.tuple_inj hy hq]; exact hx⟩,st', fun b hb=>(hf b hb).1⟩⟩
 done:=by
  intro X hP hw hK hc i pins s σ H E I hf st hg;subst hP hw hK;obtain ⟨xs,hq,hx⟩:=hg;obtain ⟨its,rv,p,hz⟩:=I.tuple hq;obtain ⟨f0,f1,f2,f3,f4,f5⟩:=hf it (by simp);have hl:=rv.length;exact wpAny_pyNext_tuple_end (I.ok.hd hc) st (show s.heap.IsTuple a its.toArray from p) (by simp; omega) fun h' eb=>⟨rfl,I.turned (t':=s.toks) (fun b o hb e=>eb b o hb e) f0 f1 f3 f4 f5⟩
 self:=fun _ _ _ _ _ st h=>wpAny_pyIter_tupleiter st h
theorem Jwi {P : Program} {w : World} {K : PySem.W.Frag} {tg : Expr} (it : Addr) (lo : Int) (n : Nat) : Turn P w K tg (Itr lo n) [it] it (fun i h=>IsRangeIter h it (lo + (i : Nat) * 1) ((n : Int) - (i : Nat)) 1) where
 mem:=by simp
 obj:=fun i h st b hb=>by
  have e : b = it:=by simpa using hb
  subst e;exact ⟨_,st,fun v z=>by
   have z' : Data.fields _ = Data.cell v:=z;cases z'⟩
 keep:=fun i h h' st k=>k it (by simp) _ st
 item:=by
  intro X hP hw hK hc i pins s σ H E I hf st hg;subst hP hw hK;obtain ⟨f0,f1,f2,f3,f4,f5⟩:=hf it (by simp);have W:=Walks.range (prog:=X.prog) (w:=X.w) (I.ok.hd hc) it lo 1 n;refine W.item i s _ _ hg st fun v h' tk hv st' kk=>?_;obtain ⟨t,rfl⟩:=hv;have I1 : Inv X pins σ H { s with heap:=h', toks:=tk }:=I.turned (fun b o hb e=>kk b o (by simpa using hb) e) f0 f1 f3 f4 f5;refine ⟨_,rfl,Jwq (s:={ s with heap:=h', toks:=tk }) (n := "range_iterator") st' rfl rfl (by decide) ⟨.int (lo + i),H,I1,⟨t,?_⟩,⟨rfl,rfl⟩,st', fun b hb=>(hf b hb).1⟩⟩;rw [Int.mul_one]
 done:=by
  intro X hP hw hK hc i pins s σ H E I hf st hg;subst hP hw hK;obtain ⟨f0,f1,f2,f3,f4,f5⟩:=hf it (by simp);exact wpAny_pyNext_range_end (I.ok.hd hc) st (by have : n ≤ i:=hg; omega) fun h' eb=>⟨rfl,I.turned (t':=s.toks) (fun b o hb e=>eb b o hb e) f0 f1 f3 f4 f5⟩
 self:=fun _ _ _ _ _ st h=>wpAny_pyIter_rangeiter st h
end L2
namespace L2
open PySem PySem.Spec PyProof.Rows
section
variable {X : Cx} {tg : Expr}
noncomputable def iList (K : PySem.W.Frag) (tl : TE) : TI:=fun σ H R=>tl σ H fun x H1=>∃ a,x = .ref a ∧ (∃ xs,SqL K H1 a xs) ∧ R (Itl K a) H1
noncomputable def iTup (K : PySem.W.Frag) (tl : TE) : TI:=fun σ H R=>tl σ H fun x H1=>∃ a,x = .ref a ∧ (∃ xs,SqT K H1 a xs) ∧ R (Itt K a) H1
theorem Jlg {l : Expr} {tl : TE} (hl : PE X l tl) : PI X tg l (iList X.K tl):=by
 intro pins s σ H R I h;refine thn (hl pins s σ H _ I h) fun v s1 ⟨x,H1,I1,r1,q1⟩=>?_;obtain ⟨a,e,⟨xs,hq⟩,q⟩:=q1;subst e;cases r1;obtain ⟨its,rv,p,hz⟩:=I1.list hq;refine wpAny_pyIter_list p.isList ?_;refine ⟨s1.heap.objs.size,[s1.heap.objs.size],_,_,H1,rfl,I1.kept (t':=s1.toks) fun b o e=>Heap.get?_push_of_some _ e,Jto a _,⟨_,Heap.get?_push_size _ rfl,rfl,rfl⟩,fun b hb=>?_,q⟩;have e : b = s1.heap.objs.size:=by simpa using hb
 subst e;exact I1.fpOk (Nat.le_refl _) (I1.hok.fresh (Nat.le_refl _))
theorem Jsg {l : Expr} {tl : TE} (hl : PE X l tl) : PI X tg l (iTup X.K tl):=by
 intro pins s σ H R I h;refine thn (hl pins s σ H _ I h) fun v s1 ⟨x,H1,I1,r1,q1⟩=>?_;obtain ⟨a,e,⟨xs,hq⟩,q⟩:=q1;subst e;cases r1;obtain ⟨its,rv,p,hz⟩:=I1.tuple hq;refine wpAny_pyIter_tuple (show s1.heap.IsTuple a its.toArray from p) ?_;refine ⟨s1.heap.objs.size,[s1.heap.objs.size],_,_,H1,rfl,I1.kept (t':=s1.toks) fun b o e=>Heap.get?_push_of_some _ e,Jsn a _,⟨_,Heap.get?_push_size _ rfl,rfl,rfl⟩,fun b hb=>?_,q⟩;have e : b = s1.heap.objs.size:=by simpa using hb
 subst e;exact I1.fpOk (Nat.le_refl _) (I1.hok.fresh (Nat.le_refl _))
theorem Jvb {pins : List (Addr × Obj)} {σ : St} {H : Hp} {s : Shared} {R : It → Hp → Prop} {E : Value → Shared → Prop} {lo hi : Int} {t u v : Tok} {tk : Nat} (I : Inv X pins σ H s) (h1 : -(2 ^ 62) ≤ lo) (h2 : lo < 2 ^ 62) (h3 : -(2 ^ 62) ≤ hi) (h4 : hi < 2 ^ 62)
  (q : R (Itr lo (hi - lo).toNat) H) : wpAny (model X.prog X.w) X.A (pyIter (.ref s.heap.objs.size)) (PIE X pins σ tg R) E { s with heap:=s.heap.push { cls:=.type "range",data:=.fields #[.int lo t,.int hi u,.int 1 v] },toks:=tk }:=by
 refine wpAny_pyIter_range (IsRange.new ..) (small_one h1 h2 h3 h4) ?_;have I1 : Inv X pins σ H { s with heap:=s.heap.push { cls:=.type "range",data:=.fields #[.int lo t,.int hi u,.int 1 v] },toks:=tk }:=I.kept fun b o e=>Heap.get?_push_of_some _ e;refine ⟨(s.heap.push { cls:=.type "range",data:=.fields #[.int lo t,.int hi u,.int 1 v] }).objs.size,[(s.heap.push { cls:=.type "range",data:=.fields #[.int lo t,.int hi u,.int 1 v] }).objs.size],_,_,H,rfl,
  I1.kept (t':=tk) fun b o e=>Heap.get?_push_of_some _ e,Jwi _ lo (hi - lo).toNat,?_,fun b hb=>?_,q⟩
 ·have e1 : lo + ((0 : Nat) : Int) * 1 = lo:=by simp
  have e2 : (((hi - lo).toNat : Nat) : Int) - ((0 : Nat) : Int) = Builtin.Range.rangeSize lo hi 1:=by rw [rangeSize_one]; split <;> omega
  show IsRangeIter _ _ (lo + ((0 : Nat) : Int) * 1) ((((hi - lo).toNat : Nat) : Int) - ((0 : Nat) : Int)) 1;rw [e1,e2];exact Heap.get?_push_size _ rfl
 ·have e : b = (s.heap.push { cls:=.type "range",data:=.fields #[.int lo t,.int hi u,.int 1 v] }).objs.size:=by simpa using hb
  subst e;exact I1.fpOk (Nat.le_refl _) (I1.hok.fresh (Nat.le_refl _))
noncomputable def iRng1 (ta : TA) : TI:=fun σ H R=>ta σ H fun vs H1=>∃ j : Int,vs = [.int j] ∧ -(2 ^ 62) ≤ j ∧ j < 2 ^ 62 ∧ R (Itr 0 j.toNat) H1
noncomputable def iRng2 (ta : TA) : TI:=fun σ H R=>ta σ H fun vs H1=>∃ i j : Int,vs = [.int i,.int j] ∧ (-(2 ^ 62) ≤ i ∧ i < 2 ^ 62 ∧ -(2 ^ 62) ≤ j ∧ j < 2 ^ 62) ∧ R (Itr i (j - i).toNat) H1
theorem Jnr {a : Expr} {ta : TA} {p pos : Pos} (hg : Gl X "range") (hm : X.mg "range" = none) (ha : PA X [a] ta) (hs : starEach [a] X.env = [(false,eval a X.env)]:=by rfl) : PI X tg (.Call (.Name "range" p) [a] [] pos) (iRng1 ta):=by
 intro pins s σ H R I h;refine Call_ (Jnd I hg hm boot_range (PyProof.Rows.callWith_type1 (thn (ha pos pins s σ H _ I h) fun us s1 ⟨vs,H1,I1,r1,q1⟩=>?_) hs rfl));obtain ⟨j,e,q1,q2,q⟩:=q1;subst e;cases r1 with
 | cons r rr =>
  cases rr;obtain ⟨t,rfl⟩:=r;exact call_range_1 (Jvb I1 (by omega) (by omega) q1 q2 (by simpa using q))
theorem Jxu {a b : Expr} {ta : TA} {p pos : Pos} (hg : Gl X "range") (hm : X.mg "range" = none) (ha : PA X [a,b] ta) (hs : starEach [a,b] X.env = [(false,eval a X.env),(false,eval b X.env)]:=by rfl) (hs2 : starEach [b] X.env = [(false,eval b X.env)]:=by rfl) :
  PI X tg (.Call (.Name "range" p) [a,b] [] pos) (iRng2 ta):=by
 intro pins s σ H R I h;refine Call_ (Jnd I hg hm boot_range (PyProof.Rows.callWith_type1 (thn (ha pos pins s σ H _ I h) fun us s1 ⟨vs,H1,I1,r1,q1⟩=>?_) (by rw [hs,hs2]) (by rw [hs2]; rfl)));obtain ⟨i,j,e,⟨q1,q2,q3,q4⟩,q⟩:=q1;subst e;cases r1 with
 | cons r rr =>
  cases rr with
  | cons r' rr =>
   cases rr;obtain ⟨t,rfl⟩:=r;obtain ⟨t', rfl⟩:=r';exact call_range_2 (Jvb I1 q1 q2 q3 q4 q)
noncomputable def tFor (wi : TI) (g : TG) (tb : TS) : TS:=fun D σ H=>wi σ H fun J H1=>∃ W : Nat → Nat → St → Hp → Prop,(∃ m,W 0 m σ H1) ∧ ∀ i m σ H,W i m σ H →
 (J.stop i H ∧ D.nx σ H) ∨ (J.go i H ∧ ∃ N : St → Hp → Prop,(∀ σ' H', N σ' H' → ∃ m', m' < m ∧ W (i + 1) m' σ' H') ∧ ∀ x H', J.yld i H x H' → g x σ H' fun σ2 H2=>tb { D with nx:=N,ct:=N,bk:=D.nx } σ2 H2)
noncomputable def Jsh (fp : List Addr) (h : Heap) : List (Addr × Obj):=fp.filterMap fun b=>(h.get? b).map fun o=>(b,o)
theorem Jny {fp : List Addr} {h : Heap} {b : Addr} {o : Obj} (hb : b ∈ fp) (e : h.get? b = some o) : (b,o) ∈ Jsh fp h:=List.mem_filterMap.mpr ⟨b,hb,by rw [e]; rfl⟩
theorem Jxp {fp : List Addr} {h : Heap} {p : Addr × Obj} (hp : p ∈ Jsh fp h) : p.1 ∈ fp ∧ h.get? p.1 = some p.2:=by
 obtain ⟨b,hb,e⟩:=List.mem_filterMap.mp hp;cases q : h.get? b with
 | none=>rw [q] at e; cases e
 | some o =>
  rw [q] at e;have e' : (b,o) = p:=Option.some.inj e;subst e';exact ⟨hb,q⟩
theorem Inv.pinned {pins : List (Addr × Obj)} {σ : St} {H : Hp} {s : Shared} {fp : List Addr} (I : Inv X pins σ H s) (hf : ∀ b ∈ fp,Jqd X pins H b) (ho : ∀ b ∈ fp,∃ o,s.heap.get? b = some o ∧ ∀ v,o.data ≠ .cell v) : Inv X (pins ++ Jsh fp s.heap) σ H s :=
 I.pins_of fun p hp=>(List.mem_append.mp hp).elim (fun z=>I.pin p (List.mem_append_right _ z)) fun z=>by
  obtain ⟨hb,e⟩:=Jxp z;obtain ⟨f0,f1,f2,_⟩:=hf p.1 hb;obtain ⟨o,e', d⟩:=ho p.1 hb;rw [e] at e'; cases e';exact ⟨e,f0,f1,f2,d⟩
theorem Inv.unpinned {pins pl : List (Addr × Obj)} {σ : St} {H : Hp} {s : Shared} (I : Inv X (pins ++ pl) σ H s) : Inv X pins σ H s:=I.pins_of fun p hp=>I.pin p (List.mem_append_right _ (List.mem_append_left _ hp))
theorem Jnh {iter : Expr} {body : List Stmt} {wi : TI} {g : TG} {tb : TS} {pos : Pos} (hp : PassesOwn (model X.prog X.w) X.A X.env X.xe) (hc : X.calm = true) (hi : PI X tg iter wi) (hg : PG X tg g) (hb : PSs X body tb)
  (hs : ∀ x,foldedSetIterable iter X.env x = pure x:=by intro _; rfl) : PS X (.For tg iter body [] pos) (tFor wi g tb):=by
 intro pins s σ H D I h;refine wpAny_For (thn (hi pins s σ H _ I h) fun v s1 h1=>thn h1 fun itv s2 h2=>?_) hs;obtain ⟨it,fp,tn,J,H2,e,I2,T,st2,f2,W,⟨m0,w0⟩,turn⟩:=h2;subst e;have stat : ∀ {H' : Hp},(∀ b ∈ fp,H' b = none) → ∀ b ∈ fp,Jqd X pins H' b:=fun hn b hb=>⟨hn b hb,(f2 b hb).2⟩;refine codeAny_forLoop_any (fun n s'=>∃ i σ' H', Inv X pins σ' H' s' ∧ tn i s'.heap ∧ (∀ b ∈ fp,H' b = none) ∧ W i n σ' H') ?_ m0 ⟨0,σ,H2,I2,st2,fun b hb=>(f2 b hb).1,w0⟩;rintro n s3 ⟨i,σ3,H3,I3,st3,fr3,w3⟩;rcases turn i n σ3 H3 w3 with ⟨stop,qn⟩ | ⟨go,N,hN,step⟩
 ·refine wpAny_passesOwn hp (thn (T.done X rfl rfl rfl hc i pins s3 σ3 H3 X.xe I3 (stat fr3) st3 stop) fun r s4 ⟨hr,I4⟩=>?_);subst hr;exact wpAny_execs_nil ⟨σ3,H3,I4,qn⟩
 ·refine wpAny_passesOwn hp (thn (T.item X rfl rfl rfl hc i pins s3 σ3 H3 X.xe I3 (stat fr3) st3 go) fun r s4 ⟨u,hr,h4⟩=>?_);subst hr;refine wpAny_passesOwn hp (thn h4 fun _ s5 ⟨x,H5,I5,r5,y5,st5,fr5⟩=>?_);have I5':=I5.pinned (stat fr5) (T.obj _ _ st5);refine wpAny_passesOwn hp (thn (hg _ s5 σ3 H5 x u _ I5' r5 (step x H5 y5)) fun _ s6 ⟨σ6,H6,I6,q6⟩=>?_);refine wpAny_passesOwn hp (thn (hb _ s6 σ6 H6 _ I6 q6) fun f s7 q7=>?_);have again : ∀ {σ7 : St} {H7 : Hp},Inv X (pins ++ Jsh fp s5.heap) σ7 H7 s7 → N σ7 H7 → ∃ m,m < n ∧ ∃ i σ' H', Inv X pins σ' H' s7 ∧ tn i s7.heap ∧ (∀ b ∈ fp,H' b = none) ∧ W i m σ' H':=fun {σ7 H7} I7 n7=>by
   obtain ⟨m', hm,w7⟩:=hN σ7 H7 n7;refine ⟨m', hm,i + 1,σ7,H7,I7.unpinned,T.keep _ _ _ st5 fun b hb o e=>(I7.pin (b,o) (List.mem_append_right _ (List.mem_append_right _ (Jny hb e)))).1,fun b hb=>?_,w7⟩;obtain ⟨o,e,d⟩:=T.obj _ _ st5 b hb;exact (I7.pin (b,o) (List.mem_append_right _ (List.mem_append_right _ (Jny hb e)))).2.1
  cases f with
  | next=>obtain ⟨σ7,H7,I7,n7⟩:=q7; exact again I7 n7
  | cont=>obtain ⟨σ7,H7,I7,n7⟩:=q7; exact again I7 n7
  | brk=>obtain ⟨σ7,H7,I7,q7⟩:=q7; exact ⟨σ7,H7,I7.unpinned,q7⟩
  | ret v=>obtain ⟨x7,σ7,H7,I7,r7,q7⟩:=q7; exact ⟨x7,σ7,H7,I7.unpinned,r7,q7⟩
end
theorem Jps {K : PySem.W.Frag} {a : Addr} {xs : List V} {g : TG} {tb : TS} {D : Jqc} {σ : St} {H : Hp} (Pv : Nat → St → Hp → Prop) (h0 : Pv 0 σ H) (hl : ∀ i σ H,i ≤ xs.length → Pv i σ H → SqL K H a xs)
  (hs : ∀ i x σ H,xs[i]? = some x → Pv i σ H → g x σ H fun σ2 H2=>tb { D with nx:=Pv (i + 1),ct:=Pv (i + 1),bk:=D.nx } σ2 H2) (hd : ∀ σ H,Pv xs.length σ H → D.nx σ H) :
  ∃ W : Nat → Nat → St → Hp → Prop,(∃ m,W 0 m σ H) ∧ ∀ i m σ H,W i m σ H →
   ((Itl K a).stop i H ∧ D.nx σ H) ∨ ((Itl K a).go i H ∧ ∃ N : St → Hp → Prop,(∀ σ' H', N σ' H' → ∃ m', m' < m ∧ W (i + 1) m' σ' H') ∧ ∀ x H', (Itl K a).yld i H x H' → g x σ H' fun σ2 H2=>tb { D with nx:=N,ct:=N,bk:=D.nx } σ2 H2):=by
 refine ⟨fun i m σ H=>m = xs.length - i ∧ i ≤ xs.length ∧ Pv i σ H,⟨xs.length,by simp,Nat.zero_le _,h0⟩,?_⟩;rintro i m σ H ⟨rfl,hi,p⟩;have q:=hl i σ H hi p;by_cases hlt : i < xs.length
 ·refine .inr ⟨⟨xs,xs[i],q,by simp [hlt]⟩,Pv (i + 1),fun σ' H' p'=>⟨xs.length - (i + 1),by omega,rfl,hlt,p'⟩,fun x H' y=>?_⟩;obtain ⟨e,y⟩:=y;subst e;exact hs i x σ _ (y xs q) p
 ·have e : i = xs.length:=by omega
  subst e;exact .inl ⟨⟨xs,q,Nat.le_refl _⟩,hd σ H p⟩
theorem Yk {K : PySem.W.Frag} {a : Addr} {xs : List V} {g : TG} {tb : TS} {D : Jqc} {σ : St} {H : Hp} (Pv : Nat → St → Hp → Prop) (h0 : Pv 0 σ H) (hl : ∀ i σ H,i ≤ xs.length → Pv i σ H → SqT K H a xs)
  (hs : ∀ i x σ H,xs[i]? = some x → Pv i σ H → g x σ H fun σ2 H2=>tb { D with nx:=Pv (i + 1),ct:=Pv (i + 1),bk:=D.nx } σ2 H2) (hd : ∀ σ H,Pv xs.length σ H → D.nx σ H) :
  ∃ W : Nat → Nat → St → Hp → Prop,(∃ m,W 0 m σ H) ∧ ∀ i m σ H,W i m σ H →
   ((Itt K a).stop i H ∧ D.nx σ H) ∨ ((Itt K a).go i H ∧ ∃ N : St → Hp → Prop,(∀ σ' H', N σ' H' → ∃ m', m' < m ∧ W (i + 1) m' σ' H') ∧ ∀ x H', (Itt K a).yld i H x H' → g x σ H' fun σ2 H2=>tb { D with nx:=N,ct:=N,bk:=D.nx } σ2 H2):=by
 refine ⟨fun i m σ H=>m = xs.length - i ∧ i ≤ xs.length ∧ Pv i σ H,⟨xs.length,by simp,Nat.zero_le _,h0⟩,?_⟩;rintro i m σ H ⟨rfl,hi,p⟩;have q:=hl i σ H hi p;by_cases hlt : i < xs.length
 ·refine .inr ⟨⟨xs,xs[i],q,by simp [hlt]⟩,Pv (i + 1),fun σ' H' p'=>⟨xs.length - (i + 1),by omega,rfl,hlt,p'⟩,fun x H' y=>?_⟩;obtain ⟨e,y⟩:=y;subst e;exact hs i x σ _ (y xs q) p
 ·have e : i = xs.length:=by omega
  subst e;exact .inl ⟨⟨xs,q,Nat.le_refl _⟩,hd σ H p⟩
theorem Jov {lo : Int} {n : Nat} {g : TG} {tb : TS} {D : Jqc} {σ : St} {H : Hp} (Pv : Nat → St → Hp → Prop) (h0 : Pv 0 σ H)
  (hs : ∀ i σ H,i < n → Pv i σ H → g (.int (lo + i)) σ H fun σ2 H2=>tb { D with nx:=Pv (i + 1),ct:=Pv (i + 1),bk:=D.nx } σ2 H2) (hd : ∀ σ H,Pv n σ H → D.nx σ H) :
  ∃ W : Nat → Nat → St → Hp → Prop,(∃ m,W 0 m σ H) ∧ ∀ i m σ H,W i m σ H →
   ((Itr lo n).stop i H ∧ D.nx σ H) ∨ ((Itr lo n).go i H ∧ ∃ N : St → Hp → Prop,(∀ σ' H', N σ' H' → ∃ m', m' < m ∧ W (i + 1) m' σ' H') ∧ ∀ x H', (Itr lo n).yld i H x H' → g x σ H' fun σ2 H2=>tb { D with nx:=N,ct:=N,bk:=D.nx } σ2 H2):=by
 refine ⟨fun i m σ H=>m = n - i ∧ i ≤ n ∧ Pv i σ H,⟨n,by simp,Nat.zero_le _,h0⟩,?_⟩;rintro i m σ H ⟨rfl,hi,p⟩;by_cases hlt : i < n
 ·refine .inr ⟨hlt,Pv (i + 1),fun σ' H' p'=>⟨n - (i + 1),by omega,rfl,hlt,p'⟩,fun x H' y=>?_⟩;obtain ⟨e,y⟩:=y;subst e y;exact hs i σ _ hlt p
 ·have e : i = n:=by omega
  subst e;exact .inl ⟨Nat.le_refl _,hd σ H p⟩
end L2
namespace L2
open PySem PySem.Spec PyProof.Rows
noncomputable abbrev R2:=V → V → Hp → VK → Prop
noncomputable def OpR (X : Cx) (f : Value → Value → Sem Value) (r : R2) : Prop :=
 ∀ (pins : List (Addr × Obj)) (s : Shared) (σ : St) (H : Hp) (x y : V) (v u : Value) (Q : VK),Inv X pins σ H s → RelV x v → RelV y u → r x y H Q →
  wpAny (model X.prog X.w) X.A (f v u) (EP X pins σ Q) X.xe s
noncomputable def UnR (X : Cx) (f : Value → Sem Value) (r : V → Hp → VK → Prop) : Prop :=
 ∀ (pins : List (Addr × Obj)) (s : Shared) (σ : St) (H : Hp) (x : V) (v : Value) (Q : VK),Inv X pins σ H s → RelV x v → r x H Q →
  wpAny (model X.prog X.w) X.A (f v) (EP X pins σ Q) X.xe s
noncomputable def Jmo (X : Cx) (f : Value) (r : List V → Hp → VK → Prop) : Prop :=
 ∀ (pins : List (Addr × Obj)) (s : Shared) (σ : St) (H : Hp) (xs : List V) (us : List Value) (Q : VK),Inv X pins σ H s → Vals xs us → r xs H Q →
  wpAny (model X.prog X.w) X.A (call f us) (EP X pins σ Q) X.xe s
noncomputable def TruR (X : Cx) (r : V → Hp → (Bool → Hp → Prop) → Prop) : Prop :=
 ∀ (pins : List (Addr × Obj)) (s : Shared) (σ : St) (H : Hp) (x : V) (v : Value) (Q : Bool → Hp → Prop),Inv X pins σ H s → RelV x v → r x H Q →
  wpAny (model X.prog X.w) X.A (truthy v) (TP X pins σ Q) X.xe s
noncomputable def tOp (r : R2) (ta tb : TE) : TE:=fun σ H Q=>ta σ H fun x H1=>tb σ H1 fun y H2=>r x y H2 Q
noncomputable def tUn (r : V → Hp → VK → Prop) (ta : TE) : TE:=fun σ H Q=>ta σ H fun x H1=>r x H1 Q
noncomputable def rI (C : Int → Int → Prop) (g : Int → Int → V) : R2:=fun x y H Q=>∃ i j,x = .int i ∧ y = .int j ∧ C i j ∧ Q (g i j) H
noncomputable def rI0 (g : Int → Int → V) : R2:=fun x y H Q=>∃ i j,x = .int i ∧ y = .int j ∧ Q (g i j) H
noncomputable def rU (g : Int → V) : V → Hp → VK → Prop:=fun x H Q=>∃ i,x = .int i ∧ Q (g i) H
section
variable {X : Cx} {a b c : Expr} {ta tb tc : TE} {pos : Pos}
theorem binT (ha : PE X a ta) (hb : PE X b tb) {pins : List (Addr × Obj)} {s : Shared} {σ : St} {H : Hp} {R : V → V → Hp → Prop} (I : Inv X pins σ H s)
  (h : ta σ H fun x H1=>tb σ H1 fun y H2=>R x y H2) {Q : Value → Shared → Prop} {f : Value → Value → Sem Value}
  (hf : ∀ v u s2 x y H2,Inv X pins σ H2 s2 → RelV x v → RelV y u → R x y H2 → wpAny (model X.prog X.w) X.A (f v u) Q X.xe s2) :
  wpAny (model X.prog X.w) X.A (eval a X.env) (fun v s₁=>wpAny (model X.prog X.w) X.A (eval b X.env) (fun u s₂=>wpAny (model X.prog X.w) X.A (f v u) Q X.xe s₂) X.xe s₁) X.xe s:=by
 refine thn (ha pins s σ H _ I h) fun v s1 ⟨x,H1,I1,r1,q1⟩=>?_;refine thn (hb pins s1 σ H1 _ I1 q1) fun u s2 ⟨y,H2,I2,r2,q2⟩=>?_;exact hf v u s2 x y H2 I2 r1 r2 q2
theorem Jkh {op : Operator} {r : R2} (ho : OpR X (binaryOp op) r) (ha : PE X a ta) (hb : PE X b tb) : PE X (.BinOp a op b pos) (tOp r ta tb):=by
 intro pins s σ H Q I h;exact wpAny_BinOp (binT ha hb I h fun v u s2 x y H2 I2 rx ry q=>ho pins s2 σ H2 x y v u Q I2 rx ry q)
theorem pe_un {op : UnaryOp} {r : V → Hp → VK → Prop} (ho : UnR X (unaryOp op) r) (ha : PE X a ta) : PE X (.UnaryOp op a pos) (tUn r ta):=by
 intro pins s σ H Q I h;exact UnaryOp_ (thn (ha pins s σ H _ I h) fun v s1 ⟨x,H1,I1,r1,q1⟩=>ho pins s1 σ H1 x v Q I1 r1 q1)
theorem opI {f : Value → Value → Sem Value} {C : Int → Int → Prop} {g : Int → Int → Int}
  (rule : ∀ (i j : Int) (t u : Tok) (s : Shared) (Q : Value → Shared → Prop) (E : Value → Shared → Prop),C i j → Q (.int (g i j) s.toks) { s with toks:=s.toks + 1 } → wpAny (model X.prog X.w) X.A (f (.int i t) (.int j u)) Q E s) :
  OpR X f (rI C fun i j=>.int (g i j)):=by
 intro pins s σ H x y v u Q I rx ry h;obtain ⟨i,j,rfl,rfl,hc,q⟩:=h;obtain ⟨t,rfl⟩:=rx;obtain ⟨t', rfl⟩:=ry;exact rule i j t t' s _ _ hc ⟨.int (g i j),H,I.tok _,⟨_,rfl⟩,q⟩
theorem opI0 {f : Value → Value → Sem Value} {g : Int → Int → Int}
  (rule : ∀ (i j : Int) (t u : Tok) (s : Shared) (Q : Value → Shared → Prop) (E : Value → Shared → Prop),Q (.int (g i j) s.toks) { s with toks:=s.toks + 1 } → wpAny (model X.prog X.w) X.A (f (.int i t) (.int j u)) Q E s) :
  OpR X f (rI0 fun i j=>.int (g i j)):=by
 intro pins s σ H x y v u Q I rx ry h;obtain ⟨i,j,rfl,rfl,q⟩:=h;obtain ⟨t,rfl⟩:=rx;obtain ⟨t', rfl⟩:=ry;exact rule i j t t' s _ _ ⟨.int (g i j),H,I.tok _,⟨_,rfl⟩,q⟩
theorem opB0 {f : Value → Value → Sem Value} {g : Int → Int → Bool}
  (rule : ∀ (i j : Int) (t u : Tok) (s : Shared) (Q : Value → Shared → Prop) (E : Value → Shared → Prop),Q (.bool (g i j)) s → wpAny (model X.prog X.w) X.A (f (.int i t) (.int j u)) Q E s) :
  OpR X f (rI0 fun i j=>.bl (g i j)):=by
 intro pins s σ H x y v u Q I rx ry h;obtain ⟨i,j,rfl,rfl,q⟩:=h;obtain ⟨t,rfl⟩:=rx;obtain ⟨t', rfl⟩:=ry;exact rule i j t t' s _ _ ⟨.bl (g i j),H,I,rfl,q⟩
noncomputable def CPow (i j : Int) : Prop:=0 ≤ j ∧ j ≤ 1000000 ∧ i.natAbs < 2 ^ 64
noncomputable def CMul (i j : Int) : Prop:=(-(2 ^ 64) < i ∧ i < 2 ^ 64) ∨ (-(2 ^ 64) < j ∧ j < 2 ^ 64)
theorem CMul.ok {i j : Int} (h : CMul i j) : IntMulOk i j:=by
 rcases h with ⟨h1,h2⟩ | ⟨h1,h2⟩
 ·exact .of_left (intBits_le_64 h1 h2)
 ·exact .of_right (intBits_le_64 h1 h2)
theorem Jkv : OpR X (binaryOp .Add) (rI0 fun i j=>.int (i + j)):=opI0 fun _ _ _ _ _ _ _ q=>add_int q
theorem Jla : OpR X (binaryOp .Sub) (rI0 fun i j=>.int (i - j)):=opI0 fun _ _ _ _ _ _ _ q=>sub_int q
theorem Jok : OpR X (binaryOp .Mult) (rI CMul fun i j=>.int (i * j)):=opI fun _ _ _ _ _ _ _ hc q=>mul_int q hc.ok
theorem Joj : OpR X (binaryOp .Mod) (rI (fun _ j=>0 < j) fun i j=>.int (i % j)):=opI fun i j _ _ _ _ _ hc q=>by
 have h1 : (0 : Int) < j:=hc;exact mod_int' (by omega) (by rw [Int.fmod_eq_emod_of_nonneg i (by omega)]; exact q)
theorem op_pow : OpR X (binaryOp .Pow) (rI CPow fun i j=>.int (i ^ j.toNat)):=opI fun _ _ _ _ _ _ _ hc q=>pow_int_small hc.1 hc.2.1 hc.2.2 q
theorem unI {f : Value → Sem Value} {g : Int → Int}
  (rule : ∀ (i : Int) (t : Tok) (s : Shared) (Q : Value → Shared → Prop) (E : Value → Shared → Prop),Q (.int (g i) s.toks) { s with toks:=s.toks + 1 } → wpAny (model X.prog X.w) X.A (f (.int i t)) Q E s) :
  UnR X f (rU fun i=>.int (g i)):=by
 intro pins s σ H x v Q I rx h;obtain ⟨i,rfl,q⟩:=h;obtain ⟨t,rfl⟩:=rx;exact rule i t s _ _ ⟨.int (g i),H,I.tok _,⟨_,rfl⟩,q⟩
theorem Jzx : UnR X (unaryOp .USub) (rU fun i=>.int (-i)):=unI fun _ _ _ _ _ q=>neg_int q
end
noncomputable def scal : V → V → Bool
 | .non,.non=>true | .non,.int _=>true | .int _,.non=>true | .non,.bl _=>true | .bl _,.non=>true | .non,.str _=>true | .str _,.non=>true
 | .int _,.int _=>true | .bl _,.bl _=>true | .str _,.str _=>true | .byt _,.byt _=>true
 | .int _,.str _=>true | .str _,.int _=>true | .bl _,.str _=>true | .str _,.bl _=>true
 | _,_=>false
noncomputable def rEq : R2:=fun x y H Q=>scal x y = true ∧ Q (.bl (decide (x = y))) H
noncomputable def rNe : R2:=fun x y H Q=>scal x y = true ∧ Q (.bl (!decide (x = y))) H
theorem Jwo {i j : Int} : decide (V.int i = V.int j) = (i == j):=by
 rw [Bool.eq_iff_iff];simp
theorem Jyl {i j : Bool} : decide (V.bl i = V.bl j) = (i == j):=by
 rw [Bool.eq_iff_iff];simp
theorem Jwp {i j : Str} : decide (V.str i = V.str j) = (i == j):=by
 rw [Bool.eq_iff_iff];simp
theorem Jwn {i j : Array UInt8} : decide (V.byt i = V.byt j) = (i.toList == j.toList):=by
 rw [Bool.eq_iff_iff];cases i;cases j;simp
section
variable {X : Cx} {a b c : Expr} {ta tb tc : TE} {pos : Pos}
theorem Jku {pins : List (Addr × Obj)} {σ : St} {H : Hp} {s : Shared} {Q : VK} {k k' : Bool} (I : Inv X pins σ H s) (q : Q (.bl k) H) (e : k = k') : EP X pins σ Q (.bool k') s:=by
 subst e;exact ⟨.bl k,H,I,rfl,q⟩
theorem Jnp : OpR X (compareOp .Eq) rEq:=by
 intro pins s σ H x y v u Q I rx ry h;obtain ⟨hs,q⟩:=h;cases x with
 | non =>
  cases rx;cases y with
  | non=>cases ry; exact PySem.EqNone.eq_none_none (Jku I q (by simp))
  | bl j=>cases ry; exact PySem.EqNone.eq_none_bool (Jku I q (by simp))
  | int j=>obtain ⟨t', rfl⟩:=ry; exact PySem.EqNone.eq_none_int (Jku I q (by simp))
  | str j=>obtain ⟨t', rfl⟩:=ry; exact PySem.EqNone.eq_none_str (Jku I q (by simp))
  | _=>exact absurd (show false = true from hs) Bool.false_ne_true
 | bl i =>
  cases rx;cases y with
  | non=>cases ry; exact PySem.EqNone.eq_bool_none (Jku I q (by simp))
  | bl j=>cases ry; exact eq_bool (Jku I q Jyl)
  | str j=>obtain ⟨t', rfl⟩:=ry; exact PySem.EqMixed.eq_bool_str (Jku I q (by simp))
  | _=>exact absurd (show false = true from hs) Bool.false_ne_true
 | int i =>
  obtain ⟨t,rfl⟩:=rx;cases y with
  | non=>cases ry; exact PySem.EqNone.eq_int_none (Jku I q (by simp))
  | int j=>obtain ⟨t', rfl⟩:=ry; exact eq_int (Jku I q Jwo)
  | str j=>obtain ⟨t', rfl⟩:=ry; exact PySem.EqMixed.eq_int_str (Jku I q (by simp))
  | _=>exact absurd (show false = true from hs) Bool.false_ne_true
 | str i =>
  obtain ⟨t,rfl⟩:=rx;cases y with
  | non=>cases ry; exact PySem.EqNone.eq_str_none (Jku I q (by simp))
  | bl j=>cases ry; exact PySem.EqMixed.eq_str_bool (Jku I q (by simp))
  | int j=>obtain ⟨t', rfl⟩:=ry; exact PySem.EqMixed.eq_str_int (Jku I q (by simp))
  | str j=>obtain ⟨t', rfl⟩:=ry; exact eq_str (Jku I q Jwp)
  | _=>exact absurd (show false = true from hs) Bool.false_ne_true
 | byt i =>
  obtain ⟨t,rfl⟩:=rx;cases y with
  | byt j=>obtain ⟨t', rfl⟩:=ry; exact PySem.W.eq_bytes (Jku I q Jwn)
  | _=>exact absurd (show false = true from hs) Bool.false_ne_true
 | _=>cases y <;> exact absurd (show false = true from hs) Bool.false_ne_true
theorem Jz1 : OpR X (compareOp .NotEq) rNe:=by
 intro pins s σ H x y v u Q I rx ry h;obtain ⟨hs,q⟩:=h;cases x with
 | non =>
  cases rx;cases y with
  | non=>cases ry; exact PySem.EqNone.ne_none_none (Jku I q (by simp))
  | bl j=>cases ry; exact PySem.EqNone.ne_none_bool (Jku I q (by simp))
  | int j=>obtain ⟨t', rfl⟩:=ry; exact PySem.EqNone.ne_none_int (Jku I q (by simp))
  | str j=>obtain ⟨t', rfl⟩:=ry; exact PySem.EqNone.ne_none_str (Jku I q (by simp))
  | _=>exact absurd (show false = true from hs) Bool.false_ne_true
 | bl i =>
  cases rx;cases y with
  | non=>cases ry; exact PySem.EqNone.ne_bool_none (Jku I q (by simp))
  | bl j=>cases ry; exact ne_bool (Jku I q (congrArg not Jyl))
  | str j=>obtain ⟨t', rfl⟩:=ry; exact PySem.EqMixed.ne_bool_str (Jku I q (by simp))
  | _=>exact absurd (show false = true from hs) Bool.false_ne_true
 | int i =>
  obtain ⟨t,rfl⟩:=rx;cases y with
  | non=>cases ry; exact PySem.EqNone.ne_int_none (Jku I q (by simp))
  | int j=>obtain ⟨t', rfl⟩:=ry; exact ne_int (Jku I q (congrArg not Jwo))
  | str j=>obtain ⟨t', rfl⟩:=ry; exact PySem.EqMixed.ne_int_str (Jku I q (by simp))
  | _=>exact absurd (show false = true from hs) Bool.false_ne_true
 | str i =>
  obtain ⟨t,rfl⟩:=rx;cases y with
  | non=>cases ry; exact PySem.EqNone.ne_str_none (Jku I q (by simp))
  | bl j=>cases ry; exact PySem.EqMixed.ne_str_bool (Jku I q (by simp))
  | int j=>obtain ⟨t', rfl⟩:=ry; exact PySem.EqMixed.ne_str_int (Jku I q (by simp))
  | str j=>obtain ⟨t', rfl⟩:=ry; exact ne_str (Jku I q (congrArg not Jwp))
  | _=>exact absurd (show false = true from hs) Bool.false_ne_true
 | byt i =>
  obtain ⟨t,rfl⟩:=rx;cases y with
  | byt j=>obtain ⟨t', rfl⟩:=ry; exact PySem.W.ne_bytes (Jku I q (congrArg not Jwn))
  | _=>exact absurd (show false = true from hs) Bool.false_ne_true
 | _=>cases y <;> exact absurd (show false = true from hs) Bool.false_ne_true
theorem Jz0 : OpR X (compareOp .Lt) (rI0 fun i j=>.bl (decide (i < j))):=opB0 fun _ _ _ _ _ _ _ q=>lt_int q
theorem Jo5 : OpR X (compareOp .LtE) (rI0 fun i j=>.bl (decide (i ≤ j))):=opB0 fun _ _ _ _ _ _ _ q=>le_int q
theorem Jsd : OpR X (compareOp .Gt) (rI0 fun i j=>.bl (decide (j < i))):=opB0 fun _ _ _ _ _ _ _ q=>gt_int q
theorem op_ge : OpR X (compareOp .GtE) (rI0 fun i j=>.bl (decide (j ≤ i))):=opB0 fun _ _ _ _ _ _ _ q=>ge_int q
theorem Jxs : OpR X (compareOp .In) (fun x y H Q=>∃ i j,x = .str i ∧ y = .str j ∧ Q (.bl (!(Builtin.Str.occurrences j i 0 j.length 1).isEmpty)) H):=by
 intro pins s σ H x y v u Q I rx ry h;obtain ⟨i,j,rfl,rfl,q⟩:=h;obtain ⟨t,rfl⟩:=rx;obtain ⟨t', rfl⟩:=ry;exact in_str (Jku I q rfl)
theorem Jw5 : OpR X (compareOp .Is) (fun x y H Q=>y = .non ∧ Q (.bl (decide (x = .non))) H):=by
 intro pins s σ H x y v u Q I rx ry h;obtain ⟨rfl,q⟩:=h;cases ry;refine is_none_gen (Jku I q ?_);cases x <;> first
  | (cases rx; rfl)
  | (obtain ⟨t,rfl⟩:=rx; rfl)
theorem Ju8 : OpR X (compareOp .IsNot) (fun x y H Q=>y = .non ∧ Q (.bl (!decide (x = .non))) H):=by
 intro pins s σ H x y v u Q I rx ry h;obtain ⟨rfl,q⟩:=h;cases ry;refine isnot_none_gen (Jku I q ?_);cases x <;> first
  | (cases rx; rfl)
  | (obtain ⟨t,rfl⟩:=rx; rfl)
theorem Jkt (b : Expr) {op : CmpOp} (h : op ≠ .In:=by decide) (h2 : op ≠ .NotIn:=by decide) : behindInMarks op b = false:=by
 have e1 : (op == CmpOp.In) = false:=by cases op <;> first | rfl | exact absurd rfl h
 have e2 : (op == CmpOp.NotIn) = false:=by cases op <;> first | rfl | exact absurd rfl h2
 cases b <;> simp [behindInMarks,e1,e2]
theorem Jlk {op : CmpOp} {r : R2} (ho : OpR X (compareOp op) r) (ha : PE X a ta) (hb : PE X b tb) (hm : behindInMarks op b = false) : PE X (.Compare a [op] [b] pos) (tOp r ta tb):=by
 intro pins s σ H Q I h;exact wpAny_Compare1 (binT ha hb I h fun v u s2 x y H2 I2 rx ry q=>ho pins s2 σ H2 x y v u Q I2 rx ry q) hm
noncomputable def tTest (t : TE) : TT:=fun σ H Q=>t σ H fun x H'=>∃ k,x = .bl k ∧ Q k H'
theorem Jl6 {op : CmpOp} {r : R2} (ho : OpR X (compareOp op) r) (ha : PE X a ta) (hb : PE X b tb) (hm : behindInMarks op b = false) : PT X (.Compare a [op] [b] pos) (tTest (tOp r ta tb)):=by
 intro pins s σ H Q I h;refine wpAny_isTrue_Compare1 (thn (ha pins s σ H _ I h) fun v s1 ⟨x,H1,I1,r1,q1⟩=>thn (hb pins s1 σ H1 _ I1 q1) fun u s2 ⟨y,H2,I2,r2,q2⟩ =>
  thn (ho pins s2 σ H2 x y v u _ I2 r1 r2 q2) fun c s3 ⟨z,H3,I3,r3,k,e,q3⟩=>?_) hm
 subst e;cases r3;exact wpAny_truthy_bool ⟨H3,I3,q3⟩
noncomputable def Jzt (r r' : R2) (ta tb tc : TE) : TE:=fun σ H Q=>ta σ H fun x H1=>tb σ H1 fun y H2=>r x y H2 fun z H3=>∃ k,z = .bl k ∧
 (if k = true then tc σ H3 fun w' H4=>r' y w' H4 Q else Q (.bl false) H3)
theorem Jsf {op op' : CmpOp} {r r' : R2} (ho : OpR X (compareOp op) r) (ho' : OpR X (compareOp op') r') (ha : PE X a ta) (hb : PE X b tb) (hc : PE X c tc)
  (hm : lastMarks [op,op'] [b,c] = false:=by with_unfolding_all rfl) : PE X (.Compare a [op,op'] [b,c] pos) (Jzt r r' ta tb tc):=by
 intro pins s σ H Q I h;refine Compare_chain (thn (ha pins s σ H _ I h) fun v s1 ⟨x,H1,I1,r1,q1⟩=>chain_link (thn (hb pins s1 σ H1 _ I1 q1) fun u s2 ⟨y,H2,I2,r2,q2⟩ =>
  thn (ho pins s2 σ H2 x y v u _ I2 r1 r2 q2) fun d s3 ⟨z,H3,I3,r3,k,e,q3⟩=>?_)) hm
 subst e;cases r3;refine wpAny_truthy_bool ?_;cases k with
 | false=>exact ite_ff ⟨.bl false,H3,I3,rfl,q3⟩
 | true=>exact ite_tt (chain_last (thn (hc pins s3 σ H3 _ I3 q3) fun w' s4 ⟨z', H4,I4,r4,q4⟩=>ho' pins s4 σ H4 y z' u w' Q I4 r2 r4 q4))
theorem Jsk {op op' : CmpOp} {r r' : R2} (ho : OpR X (compareOp op) r) (ho' : OpR X (compareOp op') r') (ha : PE X a ta) (hb : PE X b tb) (hc : PE X c tc)
  (hm : lastMarks [op,op'] [b,c] = false:=by with_unfolding_all rfl) : PT X (.Compare a [op,op'] [b,c] pos) (tTest (Jzt r r' ta tb tc)):=by
 intro pins s σ H Q I h;refine isTrue_chain (thn (ha pins s σ H _ I h) fun v s1 ⟨x,H1,I1,r1,q1⟩=>test_link (thn (hb pins s1 σ H1 _ I1 q1) fun u s2 ⟨y,H2,I2,r2,q2⟩ =>
  thn (ho pins s2 σ H2 x y v u _ I2 r1 r2 q2) fun d s3 ⟨z,H3,I3,r3,k,e,q3⟩=>?_)) hm
 subst e;cases r3;refine wpAny_truthy_bool ?_;cases k with
 | false =>
  obtain ⟨k', e', q'⟩:=q3;cases e';exact ite_ff ⟨H3,I3,q'⟩
 | true =>
  refine ite_tt (test_last (thn (hc pins s3 σ H3 _ I3 q3) fun w' s4 ⟨z', H4,I4,r4,q4⟩=>thn (ho' pins s4 σ H4 y z' u w' _ I4 r2 r4 q4) fun d' s5 ⟨z2,H5,I5,r5,k2,e2,q5⟩=>?_));subst e2;cases r5;exact wpAny_truthy_bool ⟨H5,I5,q5⟩
noncomputable def TruV (K : PySem.W.Frag) (x : V) (H : Hp) (k : Bool) : Prop :=
 match x with
 | .non=>k = false
 | .bl b=>k = b
 | .int i=>k = (i != 0)
 | .str y=>y.length ≤ sizeLine ∧ k = ((y.length : Int) != 0)
 | .byt y=>y.size ≤ sizeLine ∧ k = ((y.size : Int) != 0)
 | .ref p=>(∃ xs,SqL K H p xs ∧ k = !xs.isEmpty) ∨ (∃ xs,SqT K H p xs ∧ k = !xs.isEmpty) ∨ ∃ kvs,H p = some (.dK kvs) ∧ k = !kvs.isEmpty
 | _=>False
theorem Jvt {κ : Type} {kvs : List (κ × V)} {vs : List (κ × Value)} (r : KV kvs vs) : (!vs.isEmpty) = !kvs.isEmpty:=by
 cases r <;> rfl
theorem Js3 {xs : List V} {its : List Value} (r : Vals xs its) : (!its.toArray.isEmpty) = !xs.isEmpty:=by
 cases r <;> simp
theorem Jnx : (sizeLine : Nat) < 2 ^ 63:=by rw [sizeLine_eq]; decide
theorem tru_ok : TruR X (fun x H Q=>∃ k,TruV X.K x H k ∧ Q k H):=by
 intro pins s σ H x v Q I rx h;obtain ⟨k,e,q⟩:=h;have hl:=Jnx;have hs : sizeLine = 16777216:=sizeLine_eq;cases x with
 | non =>
  cases rx;have e' : k = false:=e;subst e';exact truthy_none ⟨H,I,q⟩
 | bl b =>
  cases rx;have e' : k = b:=e;subst e';exact wpAny_truthy_bool ⟨H,I,q⟩
 | int i =>
  obtain ⟨t,rfl⟩:=rx;have e' : k = (i != 0):=e;subst e';exact PySem.P.truthy_int ⟨H,I,q⟩
 | str y =>
  obtain ⟨t,rfl⟩:=rx;obtain ⟨hy,e'⟩ : y.length ≤ sizeLine ∧ k = ((y.length : Int) != 0):=e;subst e';exact PySem.P.truthy_str (by omega) ⟨H,I.tok _,q⟩
 | byt y =>
  obtain ⟨t,rfl⟩:=rx;obtain ⟨hy,e'⟩ : y.size ≤ sizeLine ∧ k = ((y.size : Int) != 0):=e;subst e';exact PySem.W.truthy_bytes (by omega) ⟨H,I.tok _,q⟩
 | ref p =>
  cases rx;have e' : (∃ xs,SqL X.K H p xs ∧ k = !xs.isEmpty) ∨ (∃ xs,SqT X.K H p xs ∧ k = !xs.isEmpty) ∨ ∃ kvs,H p = some (.dK kvs) ∧ k = !kvs.isEmpty:=e;rcases e' with ⟨xs,hx,e'⟩ | ⟨xs,hx,e'⟩ | ⟨kvs,hx,e'⟩
  ·subst e';obtain ⟨its,r,pl,hz⟩:=I.list hx;have hlen:=r.length;exact wpAny_truthy_list pl.isList (by simp only [List.size_toArray]; omega) ⟨H,I.tok _,by rw [Js3 r]; exact q⟩
  ·subst e';obtain ⟨its,r,pl,hz⟩:=I.tuple hx;have hlen:=r.length;exact truthy_tuple pl (by simp only [List.size_toArray]; omega) ⟨H,I.tok _,by rw [Js3 r]; exact q⟩
  ·subst e';obtain ⟨hz,hS,vs,r,m⟩ : kvs.length ≤ sizeLine ∧ (p == sysModules) = false ∧ ∃ vs,KV kvs vs ∧ s.heap.DictOf (Jlp X.prog X.w) p vs:=I.hok p _ hx;have hlen : kvs.length = vs.length:=Paired.length r;exact wpAny_truthy_dict hS m (by omega) ⟨H,I.tok _,by rw [Jvt r]; exact q⟩
 | _=>exact (show False from e).elim
theorem Jz6 (ha : PE X a ta) (he : ∀ whole,isTrue a X.env whole = (do let v ← whole; standAt a.pos; holding [v] (truthy v))) :
  PT X a (fun σ H Q=>ta σ H fun x H'=>∃ k,TruV X.K x H' k ∧ Q k H'):=by
 intro pins s σ H Q I h;exact isTrue_plain (thn (ha pins s σ H _ I h) fun v s1 ⟨x,H1,I1,r1,q1⟩=>tru_ok pins s1 σ H1 x v Q I1 r1 q1) (he _)
theorem Jw3 : OpR X (binaryOp .Add) (fun x y H Q=>∃ i j,x = .str i ∧ y = .str j ∧ i.length + j.length ≤ sizeLine ∧ Q (.str (i ++ j)) H):=by
 intro pins s σ H x y v u Q I rx ry h;obtain ⟨i,j,rfl,rfl,hz,q⟩:=h;obtain ⟨t,rfl⟩:=rx;obtain ⟨t', rfl⟩:=ry;exact add_str (fun t' tk=>⟨.str (i ++ j),H,I.tok _,⟨_,rfl⟩,q⟩) hz
theorem Jnb {x : V} {us : List Value} (r : Vals [x] us) : ∃ u,us = [u] ∧ RelV x u:=by
 cases r with
 | cons r1 r2=>cases r2; exact ⟨_,rfl,r1⟩
theorem Jvn {x y : V} {us : List Value} (r : Vals [x,y] us) : ∃ u w', us = [u,w'] ∧ RelV x u ∧ RelV y w':=by
 cases r with
 | cons r1 r2 =>
  cases r2 with
  | cons r3 r4=>cases r4; exact ⟨_,_,rfl,r1,r3⟩
theorem Jmf (hc : X.calm = true) : Jmo X (.builtin "max") (fun xs H Q=>∃ i j,xs = [.int i,.int j] ∧ Q (.int (if j > i then j else i)) H):=by
 intro pins s σ H xs us Q I r h;obtain ⟨i,j,rfl,q⟩:=h;obtain ⟨u,w', rfl,⟨t,rfl⟩,⟨t', rfl⟩⟩:=Jvn r;refine max_two_ints (I.ok.hd hc) fun h' tk k=>⟨_,H,I.kept k,?_,q⟩;by_cases hj : j > i
 ·rw [if_pos hj,if_pos hj]; exact ⟨_,rfl⟩
 ·rw [if_neg hj,if_neg hj]; exact ⟨_,rfl⟩
theorem Jm0 (hc : X.calm = true) : Jmo X (.builtin "min") (fun xs H Q=>∃ i j,xs = [.int i,.int j] ∧ Q (.int (if j < i then j else i)) H):=by
 intro pins s σ H xs us Q I r h;obtain ⟨i,j,rfl,q⟩:=h;obtain ⟨u,w', rfl,⟨t,rfl⟩,⟨t', rfl⟩⟩:=Jvn r;refine min_two_ints (I.ok.hd hc) fun h' tk k=>⟨_,H,I.kept k,?_,q⟩;by_cases hj : j < i
 ·rw [if_pos hj,if_pos hj]; exact ⟨_,rfl⟩
 ·rw [if_neg hj,if_neg hj]; exact ⟨_,rfl⟩
theorem Jnl : Jmo X (.type "int") (fun xs H Q=>(∃ i,xs = [.int i] ∧ Q (.int i) H) ∨ ∃ k,xs = [.bl k] ∧ Q (.int (if k then 1 else 0)) H):=by
 intro pins s σ H xs us Q I r h;rcases h with ⟨i,rfl,q⟩ | ⟨k,rfl,q⟩
 ·obtain ⟨u,rfl,t,rfl⟩:=Jnb r;exact call_int_int ⟨.int i,H,I,⟨_,rfl⟩,q⟩
 ·obtain ⟨u,rfl,r1⟩:=Jnb r;cases r1;exact call_int_bool ⟨.int (if k then 1 else 0),H,I.tok _,⟨_,rfl⟩,q⟩
end
end L2
namespace L2
open PySem PySem.Spec PyProof.Rows
structure ObjM (h : Heap) (x dx C : Addr) (mA : Str → Option Value) : Prop where
 obj : h.get? x = some (PySem.W.instObj C dx)
 ns : h.Ns1 dx mA
 ne : dx ≠ x
theorem Jti {h : Heap} {dx : Addr} {mA : Str → Option Value} (n : h.Ns1 dx mA) : ∃ od,h.get? dx = some od ∧ ∀ name,PySem.W.lookIn name od = some (mA name):=by
 obtain ⟨o,es,ep,ho,hd,hk,_,hm⟩:=n;refine ⟨o,ho,fun name=>?_⟩;have e:=hm name;unfold nsFind findBy at e;rw [← Array.find?_toList] at e;unfold PySem.W.lookIn;rw [hd];dsimp only;split
 ·rename_i y q
  rw [q] at e;exact congrArg some e
 ·rename_i q
  rw [q] at e;have a : es.toList.any (·.refKey) = false:=by
   rw [List.any_eq_false];intro y hy;obtain ⟨z,t,hkey⟩:=hk y (Array.mem_toList_iff.mp hy);simp [DictEntry.refKey,hkey]
  have a' : ¬ es.toList.any (·.refKey) = true:=by rw [a]; exact Bool.false_ne_true
  rw [if_neg a'];exact congrArg some e
theorem ObjM.look {h : Heap} {x dx C : Addr} {mA : Str → Option Value} (I : ObjM h x dx C mA) : ∃ od,PySem.W.InstAt h x (PySem.W.instObj C dx) C (some od) ∧ ∀ name,PySem.W.lookIn name od = some (mA name) :=
 let ⟨od,ho,hl⟩:=Jti I.ns
 ⟨od,⟨I.obj,rfl,rfl,ho⟩,hl⟩
section
variable {prog : Program} {w : World} {A : Around} {E : Value → Shared → Prop} {s : Shared} {K : PySem.W.Frag} {x dx C f : Addr} {mA : Str → Option Value} {name : Str} {v : Value}
theorem Yl {expr : Bool} {Q : Value → Shared → Prop} (X : K.In s.heap) (I : ObjM s.heap x dx C mA) (hg : PySem.W.plainGet K C name = true) (hh : PySem.W.hasDictIn K C = true)
  (ha : PySem.W.findIn K (.ref C) name = some none) (hv : mA name = some v) (hv' : PySem.W.handedIn v = true) (h : Q v { s with toks:=s.toks + 1 }) :
  wpAny (model prog w) A (getAttr (.ref x) name expr) Q E s:=by
 obtain ⟨od,J,hl⟩:=I.look;exact PySem.W.get_value X J (PySem.W.plainGet_of hg).1 (PySem.W.findObj_own hh ha rfl (by rw [hl,hv])) hv' h
theorem Jyq {pl : Sem Bool} {Q : Value × List Value → Shared → Prop} (X : K.In s.heap) (I : ObjM s.heap x dx C mA) (hg : PySem.W.plainGet K C name = true)
  (hf : PySem.W.findIn K (.ref C) name = some (some (.ref f))) (ht : PySem.W.isFn K (.ref f) = true) (hv : mA name = none) (h : Q (.ref f,[.ref x]) s) :
  wpAny (model prog w) A (getMethod (.ref x) name pl) Q E s:=by
 obtain ⟨od,J,hl⟩:=I.look;exact PySem.W.method_fn X J (PySem.W.plainGet_of hg).1 (PySem.W.plainGet_of hg).2 hf (beq_iff_eq.mp ht) (by show (PySem.W.lookIn name od).map (·.isSome) = some false; rw [hl,hv]; rfl) h
theorem Ya7 {ns : List Str} {Q : Unit → Shared → Prop} (X : K.In s.heap) (I : ObjM s.heap x dx C mA)
  (hs : PySem.W.findIn K (.ref C) "__setattr__" = some (some (.builtin "object.__setattr__"))) (hp : PySem.W.plainOver K C = true) (ht : PySem.W.takerIn K C name = some none) (hh : PySem.W.hasDictIn K C = true)
  (hw : PySem.Within mA ns) (hsz : ns.length ≤ sizeLine)
  (h : ∀ h', ObjM h' x dx C (fun y=>if y = name then some v else mA y) → Heap.SameBut dx s.heap h' → Q () { s with heap:=h', toks:=s.toks + 2 }) :
  wpAny (model prog w) A (setAttr (.ref x) name v) Q E s:=by
 obtain ⟨od,J,hl⟩:=I.look;refine PySem.W.set_plain X J hs (PySem.W.osa_open (s:={ s with toks:=s.toks + 1 }) (r:=none) X J hp ht fun b=>?_);obtain ⟨cd,hc,hd'⟩:=PySem.W.any_some hh;have hx : s.heap.get? x = some ⟨.ref C,some dx,.plain,#[]⟩:=I.obj;refine wpAny_bind (wpAny_pure (wpAny_bind (wpAny_bind (wpAny_loadPart hx (wpAny_bind (PySem.W.Looks.here (s:={ s with toks:=s.toks + 1 }) (PySem.W.looks_clsIn X hc) ?_))))));rw [hd'];refine wpAny_pure (a:=some dx) (wpAny_bind (wpAny_pure (wpAny_bind ?_)));refine wpAny_nsSet1 (s:={ s with toks:=s.toks + 1 }) I.ns fun h' hn2 hs2=>?_;obtain ⟨oD,esD,epD,hoD,hdD,hcD⟩:=hn2.count (PySem.Within.cons name v hw);refine wpAny_bind (wpAny_lookBehind hoD (by rw [hdD]; exact pastItsLine_dict (Nat.le_trans hcD (by rw [List.length_cons]; omega))) ?_);exact wpAny_pure (h _ ⟨(hs2.2 _ (Ne.symm I.ne)).trans I.obj,hn2,I.ne⟩ hs2)
theorem Jyy {R : Result → Shared → Prop} {vs : List Value} {kw : List (Str × Value)} (X : K.In s.heap) (hm : PySem.W.makesIn K C = true)
  (hi : PySem.W.findIn K (.ref C) "__init__" = some (some (.ref f))) (hf : PySem.W.typeIn K (.ref f) = some (.type "function"))
  (h : codeAny (model prog w) (A.under (.builtin "type.__call__" ⟨.ref C :: vs,kw⟩)) (.call (.ref f) ⟨.ref (s.heap.objs.size + 1) :: vs,kw⟩) (PySem.W.InitBack (s.heap.objs.size + 1) R)
   { s with heap:=(s.heap.push PySem.W.emptyDict).push (PySem.W.instObj C s.heap.objs.size) }) :
  codeAny (model prog w) A (.call (.ref C) ⟨vs,kw⟩) R s:=by
 obtain ⟨hh,g,d,t,os⟩:=s;exact PySem.W.make_core (PySem.W.makes_of X hm) (PySem.W.looks_findIn X hi) (fun self=>PySem.W.bind_fn X self hf) (.inl rfl) h
end
noncomputable def Jlj (f : Str) (v : V) : List (Str × V) → List (Str × V)
 | []=>[(f,v)]
 | (g,x) :: r=>if g = f then (g,v) :: r else (g,x) :: Jlj f v r
theorem Jr6 (f g : Str) (v : V) : ∀ fs : List (Str × V),(Jlj f v fs).lookup g = if g = f then some v else fs.lookup g
 | []=>by
  show List.lookup g [(f,v)] = _;by_cases h : g = f
  ·have hb : (g == f) = true:=beq_iff_eq.mpr h;simp only [List.lookup,hb,if_pos h]
  ·have hb : (g == f) = false:=beq_eq_false_iff_ne.mpr h;simp only [List.lookup,hb,if_neg h]
 | (k,x) :: r=>by
  have ih:=Jr6 f g v r;rw [show Jlj f v ((k,x) :: r) = (if k = f then (k,v) :: r else (k,x) :: Jlj f v r) from rfl];by_cases hk : k = f
  ·rw [if_pos hk];by_cases h : g = k
   ·have hb : (g == k) = true:=beq_iff_eq.mpr h;simp only [List.lookup,hb,if_pos (h.trans hk)]
   ·have hb : (g == k) = false:=beq_eq_false_iff_ne.mpr h;simp only [List.lookup,hb,if_neg (fun e : g = f=>h (e.trans hk.symm))]
  ·rw [if_neg hk];by_cases h : g = k
   ·have hb : (g == k) = true:=beq_iff_eq.mpr h;simp only [List.lookup,hb,if_neg (fun e : g = f=>hk (h.symm.trans e))]
   ·have hb : (g == k) = false:=beq_eq_false_iff_ne.mpr h;simp only [List.lookup,hb];exact ih
theorem Jqm (f : Str) (v : V) : ∀ fs : List (Str × V),f ∈ (Jlj f v fs).map (·.1) ∧ ∀ g,g ∈ fs.map (·.1) → g ∈ (Jlj f v fs).map (·.1)
 | []=>⟨by simp [Jlj],fun g h=>by simp at h⟩
 | (k,x) :: r=>by
  obtain ⟨i1,i2⟩:=Jqm f v r;rw [show Jlj f v ((k,x) :: r) = (if k = f then (k,v) :: r else (k,x) :: Jlj f v r) from rfl];by_cases hk : k = f
  ·rw [if_pos hk];subst hk;exact ⟨by simp,fun g h=>by simpa using h⟩
  ·rw [if_neg hk];refine ⟨?_,fun g h=>?_⟩
   ·rw [List.map_cons];exact List.mem_cons_of_mem _ i1
   ·rw [List.map_cons] at h ⊢;rcases List.mem_cons.mp h with e | e
    ·exact List.mem_cons.mpr (.inl e)
    ·exact List.mem_cons_of_mem _ (i2 g e)
theorem Jr5 (f : Str) (v : V) : ∀ fs : List (Str × V),(Jlj f v fs).length ≤ fs.length + 1
 | []=>by simp [Jlj]
 | (k,x) :: r=>by
  have ih:=Jr5 f v r;rw [show Jlj f v ((k,x) :: r) = (if k = f then (k,v) :: r else (k,x) :: Jlj f v r) from rfl];by_cases hk : k = f
  ·rw [if_pos hk,List.length_cons,List.length_cons]; omega
  ·rw [if_neg hk,List.length_cons,List.length_cons]; omega
theorem RelO.some_of {v : V} {o : Option Value} (r : RelO (some v) o) : ∃ u,o = some u ∧ RelV v u:=by
 cases o with
 | none=>exact (show False from r).elim
 | some u=>exact ⟨u,rfl,r⟩
theorem RelO.none_of {o : Option Value} (r : RelO none o) : o = none:=by
 cases o with
 | none=>rfl
 | some u=>exact (show False from r).elim
theorem Jxj {v : V} {u : Value} (r : RelV v u) : PySem.W.handedIn u = true:=by
 cases v with
 | non=>cases (show u = Value.none from r); rfl
 | bl b=>cases (show u = Value.bool b from r); rfl
 | int i=>obtain ⟨t,e⟩:=(show ∃ t,u = Value.int i t from r); cases e; rfl
 | str x=>obtain ⟨t,e⟩:=(show ∃ t,u = Value.str x t from r); cases e; rfl
 | byt b=>obtain ⟨t,e⟩:=(show ∃ t,u = Value.bytes b t from r); cases e; rfl
 | flt b=>obtain ⟨t,e⟩:=(show ∃ t,u = Value.float b t from r); cases e; rfl
 | ref a=>cases (show u = Value.ref a from r); rfl
 | ty n=>cases (show u = Value.type n from r); rfl
section
variable {P : Program} {w : World} {H H' : Hp} {h h' : Heap} {a C dx : Addr} {fs fs' : List (Str × V)}
theorem Jrr (hok : HOk P w H h) (e : H a = some (.ins C dx fs)) : ∃ mA,ObjM h a dx C mA ∧ (∀ f,RelO (fs.lookup f) (mA f)) ∧ PySem.Within mA (fs.map (·.1)) ∧ fs.length ≤ 1000 ∧ H dx = some (.own a):=by
 obtain ⟨d,z,ne,ob,mA,n,r,q⟩:=(show ObjOk P w H h a (.ins C dx fs) from hok a _ e);exact ⟨mA,⟨ob,n,ne⟩,r,q,z,d⟩
end
structure Cls (K : PySem.W.Frag) (C : Addr) : Prop where
 pg : PySem.W.plainGet K C Str.empty = true
 hd : PySem.W.hasDictIn K C = true
 po : PySem.W.plainOver K C = true
 sa : PySem.W.findIn K (.ref C) "__setattr__" = some (some (.builtin "object.__setattr__"))
theorem Cls.get {K : PySem.W.Frag} {C : Addr} (c : Cls K C) (f : Str) : PySem.W.plainGet K C f = true:=c.pg
noncomputable def NoAttr (K : PySem.W.Frag) (C : Addr) (f : Str) : Prop:=PySem.W.findIn K (.ref C) f = some none
theorem NoAttr.taker {K : PySem.W.Frag} {C : Addr} {f : Str} (n : NoAttr K C f) : PySem.W.takerIn K C f = some none:=by
 unfold PySem.W.takerIn;rw [show PySem.W.findIn K (.ref C) f = some none from n];rfl
structure Con (K : PySem.W.Frag) (C : Addr) (f : Str) (v : V) (u : Value) : Prop where
 at_ : PySem.W.findIn K (.ref C) f = some (some u)
 rel : RelV v u
 get : PySem.W.specialIn K u "__get__" = some none
 cp : PySem.W.copiedNames.contains f = false
structure Jlv (K : PySem.W.Frag) (C : Addr) (m : Str) (f : Addr) : Prop where
 at_ : PySem.W.findIn K (.ref C) m = some (some (.ref f))
 fn : PySem.W.isFn K (.ref f) = true
 kp : PySem.W.keepIn K (.ref f) = true
section
variable {X : Cx} {pins : List (Addr × Obj)} {σ : St} {H : Hp} {s : Shared} {a C dx : Addr} {fs : List (Str × V)} {f : Str} {v : V} {A : Around} {E : Value → Shared → Prop}
theorem Jvs {b : Bool} {Q : Value → Shared → Prop} (I : Inv X pins σ H s) (e : H a = some (.ins C dx fs)) (c : Cls X.K C) (n : NoAttr X.K C f) (l : fs.lookup f = some v)
  (h : ∀ u s', Inv X pins σ H s' → RelV v u → Q u s') : wpAny (model X.prog X.w) A (getAttr (.ref a) f b) Q E s:=by
 obtain ⟨mA,O,r,_,_,_⟩:=Jrr I.hok e;obtain ⟨u,hu,ru⟩:=RelO.some_of (v:=v) (o:=mA f) (by rw [← l]; exact r f);exact Yl I.kIn O (c.get f) c.hd n hu (Jxj ru) (h u _ (I.tok _) ru)
theorem Jpc {m : Str} {g : Addr} {pl : Sem Bool} {Q : Value × List Value → Shared → Prop} (I : Inv X pins σ H s) (e : H a = some (.ins C dx fs)) (c : Cls X.K C) (k : Jlv X.K C m g) (l : fs.lookup m = none)
  (h : Q (.ref g,[.ref a]) s) : wpAny (model X.prog X.w) A (getMethod (.ref a) m pl) Q E s:=by
 obtain ⟨mA,O,r,_,_,_⟩:=Jrr I.hok e;have hn : mA m = none:=RelO.none_of (by rw [← l]; exact r m);exact Jyq I.kIn O (c.get m) k.at_ k.fn hn h
theorem Jwd {y : V} {u : Value} {Q : Unit → Shared → Prop} (I : Inv X pins σ H s) (e : H a = some (.ins C dx fs)) (c : Cls X.K C) (n : NoAttr X.K C f) (hl : fs.length < 1000) (ry : RelV y u)
  (h : ∀ s', Inv X pins σ (upd H a (.ins C dx (Jlj f y fs))) s' → Q () s') : wpAny (model X.prog X.w) A (setAttr (.ref a) f u) Q E s:=by
 obtain ⟨mA,O,r,wi,_,ho⟩:=Jrr I.hok e;have hz : (fs.map (·.1)).length ≤ sizeLine:=by rw [List.length_map,sizeLine_eq]; omega
 refine Ya7 I.kIn O c.sa c.po n.taker c.hd wi hz fun h' O' sb=>h _ ?_;have hd : ∃ o,h'.get? dx = some o:=by obtain ⟨o,_,_,e', _⟩:=O'.ns; exact ⟨o,e'⟩
 refine I.write (x:=a) (e:=dx) (by rw [e]; exact True.intro) (.inr ho) (fun b q hb z=>(sb.2 b hb).trans z) hd ?_;refine ⟨by rw [Jk7 O.ne]; exact ho,?_,O.ne,O'.obj,_,O'.ns,fun g=>?_,fun g hg=>?_⟩
 ·have:=Jr5 f y fs; omega
 ·show RelO ((Jlj f y fs).lookup g) (if g = f then some u else mA g);rw [Jr6];by_cases q : g = f
  ·rw [if_pos q,if_pos q]; exact ry
  ·rw [if_neg q,if_neg q]; exact r g
 ·by_cases q : g = f
  ·rw [q]; exact (Jqm f y fs).1
  ·refine (Jqm f y fs).2 g (wi g fun z=>hg ?_);show (if g = f then some u else mA g) = none;rw [if_neg q]; exact z
theorem Inv.made (I : Inv X pins σ H s) : Inv X pins σ (upd (upd H s.heap.objs.size (.own (s.heap.objs.size + 1))) (s.heap.objs.size + 1) (.ins C s.heap.objs.size []))
  { s with heap:=(s.heap.push PySem.W.emptyDict).push (PySem.W.instObj C s.heap.objs.size) }:=by
 have e1 : (s.heap.push PySem.W.emptyDict).get? s.heap.objs.size = some PySem.W.emptyDict:=Heap.get?_push_size s.heap rfl;have e2 : ((s.heap.push PySem.W.emptyDict).push (PySem.W.instObj C s.heap.objs.size)).get? (s.heap.objs.size + 1) = some (PySem.W.instObj C s.heap.objs.size):=by
  have:=Heap.get?_push_size (s.heap.push PySem.W.emptyDict) (o:=PySem.W.instObj C s.heap.objs.size) rfl
  rwa [Heap.size_push] at this
 have e3 : (s.heap.push PySem.W.emptyDict).Ns s.heap.objs.size (fun _=>none):=⟨PySem.W.emptyDict,#[],_,e1,rfl,(fun e he=>absurd he (by simp)),fun _=>rfl⟩;have I1:=I.laid (a:=s.heap.objs.size) (o:=.own (s.heap.objs.size + 1)) (h':=s.heap.push PySem.W.emptyDict) (t':=s.toks) (fun b u q=>Heap.get?_push_of_some _ q) (Nat.le_refl _) ⟨_,e1⟩;refine I1.laid (a:=s.heap.objs.size + 1) (o:=.ins C s.heap.objs.size []) (t':=s.toks) (fun b u q=>Heap.get?_push_of_some _ q) (Nat.le_of_eq (Heap.size_push _ _)) ?_;have ne : s.heap.objs.size ≠ s.heap.objs.size + 1:=Nat.ne_of_lt (Nat.lt_succ_self _);refine ⟨by rw [Jk7 ne,Jk0],Nat.zero_le _,ne,e2,fun _=>none,(Heap.Ns1.of_empty e3).at fun o q=>Heap.get?_push_of_some _ q,fun _=>True.intro,fun y hy=>absurd rfl hy⟩
theorem Yf {prog : Program} {w : World} {env : Env} {e : Expr} {f : Str} {pos : Pos} {s : Shared} {Q : Value → Shared → Prop} (hb : attributeBase e f env (eval e env) = eval e env)
  (h : wpAny (model prog w) A (eval e env) (fun o s₁=>wpAny (model prog w) A (getAttr o f true) Q E s₁) E s) : wpAny (model prog w) A (eval (.Attribute e f pos) env) Q E s :=
 Attribute_any_ h (by rw [arm_eval_Attribute,hb])
end
noncomputable def tFld (K : PySem.W.Frag) (ta : TE) (f : Str) : TE:=fun σ H Q=>ta σ H fun x H1=>∃ a C dx fs v,x = .ref a ∧ H1 a = some (.ins C dx fs) ∧ Cls K C ∧ NoAttr K C f ∧ fs.lookup f = some v ∧ Q v H1
noncomputable def sFld (K : PySem.W.Frag) (ta tv : TE) (f : Str) : TS:=fun D σ H=>tv σ H fun y H1=>ta σ H1 fun x H2=>∃ a C dx fs,x = .ref a ∧ H2 a = some (.ins C dx fs) ∧ Cls K C ∧ NoAttr K C f ∧ fs.length < 1000 ∧
 D.nx σ (upd H2 a (.ins C dx (Jlj f y fs)))
section
variable {X : Cx} {o e value : Expr} {f : Str} {pos pos' tpos : Pos} {ta tv : TE}
theorem Jkn (he : PE X e ta) (hb : attributeBase e f X.env (eval e X.env) = eval e X.env) : PE X (.Attribute e f pos) (tFld X.K ta f):=by
 intro pins s σ H Q I h;refine Yf hb (thn (he pins s σ H _ I h) fun u s1 ⟨x,H1,I1,rx,a,C,dx,fs,v,ex,ea,c,n,l,q⟩=>?_);subst ex;obtain rfl : u = Value.ref a:=rx;exact Jvs I1 ea c n l fun u' s2 I2 ru=>⟨v,H1,I2,ru,q⟩
theorem Jl8 (ha : PE X o ta) (hv : PE X value tv) (hs : swapsWith value (some (.Attribute o f pos')) pos.line X.env = pure false) : PS X (.Assign [.Attribute o f pos'] value pos) (sFld X.K ta tv f):=by
 intro pins s σ H D I h;refine plainObj_wpAny_Assign_Attribute (thn (hv pins s σ H _ I h) fun u s1 ⟨y,H1,I1,ry,q⟩=>thn (ha pins s1 σ H1 _ I1 q) fun ov s2 ⟨x,H2,I2,rx,a,C,dx,fs,ex,ea,c,n,l,q2⟩=>?_) hs;subst ex;obtain rfl : ov = Value.ref a:=rx;exact Jwd I2 ea c n l ry fun s3 I3=>⟨σ,_,I3,q2⟩
end
section
variable {X : Cx} {pins : List (Addr × Obj)} {σ : St} {H : Hp} {s : Shared} {A : Around} {E : Value → Shared → Prop} {Q : Value → Shared → Prop} {c : Value} {b : Bool}
inductive Jqg (K : PySem.W.Frag) (H : Hp) : V → Value → Prop where
 | non : Jqg K H .non (.type "NoneType")
 | bl (x : Bool) : Jqg K H (.bl x) (.type "bool")
 | int (i : Int) : Jqg K H (.int i) (.type "int")
 | str (x : Str) : Jqg K H (.str x) (.type "str")
 | flt (x : UInt64) : Jqg K H (.flt x) (.type "float")
 | lst {a : Addr} {xs : List V} (e : H a = some (.lst xs)) : Jqg K H (.ref a) (.type "list")
 | frz {a : Addr} {o : Obj} {xs : List V} (e : H a = some (.frz o (.lst xs))) : Jqg K H (.ref a) (.type "list")
 | tup {a : Addr} {xs : List V} (e : H a = some (.tup xs)) : Jqg K H (.ref a) (.type "tuple")
 | dK {a : Addr} {kvs : List (Key × V)} (e : H a = some (.dK kvs)) : Jqg K H (.ref a) (.type "dict")
 | dT {a : Addr} {kvs : List (List Key × V)} (e : H a = some (.dT kvs)) : Jqg K H (.ref a) (.type "dict")
 | ins {a C dx : Addr} {fs : List (Str × V)} (e : H a = some (.ins C dx fs)) (cl : Cls K C) (ha : PySem.W.findIn K (.ref C) "__class__" = some (some (.builtin "object.__class__")))
   (hn : PySem.W.specialIn K (.builtin "object.__class__") "__get__" = some (some (.builtin "getset_descriptor.__get__"))) (htk : PySem.W.takesIn K (.builtin "object.__class__") = some true)
   (hm : PySem.W.mroIn K C (.type "object") = some true) : Jqg K H (.ref a) (.ref C)
end
end L2
namespace L2
open PySem PySem.Spec PyProof.Rows
structure Room (k : Nat) (A : Around) : Prop where
 hd : A.handled = none
 dp : A.depth + 3 * k + 5 < recursionLimit
 un : A.units + 16 * k + 200 < cLine
theorem Room.mono {j k : Nat} {A : Around} (r : Room k A) (h : j ≤ k) : Room j A:=⟨r.hd,by have:=r.dp; omega,by have:=r.un; omega⟩
theorem Room.deeper {k : Nat} {A : Around} (r : Room (k + 1) A) (env : Env) : Room k (A.deeper env) :=
 ⟨r.hd,by have:=r.dp; show A.depth + 1 + 3 * k + 5 < _; omega,by have:=r.un; show A.units + 3 + 16 * k + 200 < _; omega⟩
theorem Jvv {A : Around} {C : Addr} {us : List Value} {kw : List (Str × Value)} : (A.under (.builtin "type.__call__" ⟨.ref C :: us,kw⟩)).depth = A.depth + 1:=by
 first | rfl | simp [Around.under,Code.weight,Code.isCreation,Code.isGuard,Code.isCaller,Code.frames,Code.isFrame,guardIds]
theorem Jvw {A : Around} {C : Addr} {us : List Value} {kw : List (Str × Value)} : (A.under (.builtin "type.__call__" ⟨.ref C :: us,kw⟩)).units = A.units + 1:=by
 first | rfl | simp [Around.under,Code.cUnits,Code.frames,Code.isFrame]
theorem Room.make {k : Nat} {A : Around} (r : Room (k + 1) A) (C : Addr) (us : List Value) (kw : List (Str × Value)) : Room k (A.under (.builtin "type.__call__" ⟨.ref C :: us,kw⟩)) :=
 ⟨r.hd,by have:=r.dp; rw [Jvv]; omega,by have:=r.un; rw [Jvw]; omega⟩
theorem Room.depth {k : Nat} {A : Around} (r : Room k A) : A.depth < recursionLimit:=by have:=r.dp; omega
theorem Room.units {k : Nat} {A : Around} (r : Room k A) : A.units + 64 < cLine:=by have:=r.un; omega
noncomputable def Jt9 : TA:=fun _ H Q=>Q [] H
noncomputable def Jlo (ta : TE) (tr : TA) : TA:=fun σ H Q=>ta σ H fun x H1=>tr σ H1 fun xs H2=>Q (x :: xs) H2
section
variable {X : Cx} {e : Expr} {es : List Expr} {te : TE} {t : TA} {pos : Pos}
theorem Jk1 : PA X [] Jt9:=fun _ _ _ _ H Q I h=>Calls.spliced_nil ⟨[],H,I,.nil,h⟩
theorem Jjz (ha : PE X e te) (hr : PA X es t) (hs : starEach (e :: es) X.env = (false,eval e X.env) :: starEach es X.env:=by rfl) : PA X (e :: es) (Jlo te t):=by
 intro pos pins s σ H Q I h;rw [hs];show wpAny _ _ (spliced ((false,eval e X.env) :: backTo pos (starEach es X.env))) _ _ s;refine Calls.spliced_cons (thn (ha pins s σ H _ I h) fun u s1 ⟨x,H1,I1,r1,q1⟩=>?_);exact thn (hr pos pins s1 σ H1 _ I1 q1) fun us s2 ⟨xs,H2,I2,r2,q2⟩=>⟨x :: xs,H2,I2,.cons r1 r2,q2⟩
noncomputable def tTup (t : TA) : TE:=fun σ H Q=>t σ H fun xs H1=>xs.length ≤ sizeLine ∧ ∀ p,H1 p = none → Q (.ref p) (upd H1 p (.tup xs))
noncomputable def tLst (t : TA) : TE:=fun σ H Q=>t σ H fun xs H1=>xs.length ≤ sizeLine ∧ ∀ p,H1 p = none → Q (.ref p) (upd H1 p (.lst xs))
theorem Jly {x1} (h : PA X es t) : PE X (.Tuple es x1 pos) (tTup t):=by
 intro pins s σ H Q I hq;refine wpAny_Tuple_spliced (thn (h pos pins s σ H _ I hq) fun us s1 ⟨xs,H1,I1,r,z,q⟩=>⟨by rw [← r.length]; exact z,?_⟩);have hf : H1 s1.heap.objs.size = none:=I1.hok.fresh (Nat.le_refl _);refine ⟨.ref s1.heap.objs.size,upd H1 s1.heap.objs.size (.tup xs),I1.laid (t':=s1.toks) (fun b u e=>Heap.get?_push_of_some _ e) (Nat.le_refl _) ?_,rfl,q _ hf⟩;exact ⟨z,us,r,⟨_,Heap.get?_push_size _ rfl,rfl,_,rfl⟩⟩
theorem Jnf (h : PA X es t) : PE X (.List es pos) (tLst t):=by
 intro pins s σ H Q I hq;refine wpAny_List_spliced (thn (h pos pins s σ H _ I hq) fun us s1 ⟨xs,H1,I1,r,z,q⟩=>⟨by rw [← r.length]; exact z,?_⟩);have hf : H1 s1.heap.objs.size = none:=I1.hok.fresh (Nat.le_refl _);refine ⟨.ref s1.heap.objs.size,upd H1 s1.heap.objs.size (.lst xs),I1.laid (t':=s1.toks) (fun b u e=>Heap.get?_push_of_some _ e) (Nat.le_refl _) ?_,rfl,q _ hf⟩;exact ⟨z,us,0,r,Heap.get?_push_size _ rfl⟩
end
noncomputable abbrev Sp:=List V → Hp → VK → XK → Prop
noncomputable abbrev CXT:=List Env → Hp → Shared → XK → Value → Shared → Prop
structure Env0 (P : Program) (w : World) (K : PySem.W.Frag) (mg : Str → Option Value) (base : Heap) (A : Around) (outer : List Env) (s : Shared) (H : Hp) : Prop where
 frames : A.frames = some outer
 mod : Mod K mg base
 bs : ∀ b o,base.get? b = some o → s.heap.get? b = some o ∧ H b = none
 bsz : base.objs.size ≤ s.heap.objs.size
 funs : s.heap.FunFrames base outer
 frf : ∀ b ∈ frs outer,H b = none
 hok : HOk P w H s.heap
 bare : AllBare s.gens
noncomputable def CE (outer : List Env) (P : Program) (w : World) (H : Hp) (s : Shared) (Q : VK) (u : Value) (s' : Shared) : Prop :=
 ∃ v H', s'.os = s.os ∧ AllBare s'.gens ∧ Un (frs outer) [] H H' s.heap s'.heap ∧ HOk P w H' s'.heap ∧ RelV v u ∧ Q v H'
noncomputable def CR (CX : CXT) (outer : List Env) (P : Program) (w : World) (H : Hp) (s : Shared) (Q : VK) (E : XK) (r : Result) (s' : Shared) : Prop :=
 match r with
 | .ok (.ret u)=>CE outer P w H s Q u s'
 | .ok _=>False
 | .error e=>CX outer H s E e s'
structure FnOk (P : Program) (w : World) (K : PySem.W.Frag) (mg : Str → Option Value) (base : Heap) (CX : CXT) (k : Nat) (f : Addr) (fd : FuncData) (ps : List Str) (sp : Sp) : Prop where
 len : ∀ vs H Q E,sp vs H Q E → vs.length = ps.length
 run : ∀ (A : Around) (outer : List Env) (s : Shared) (H : Hp) (args : Args) (us : List Value) (vs : List V) (Q : VK) (E : XK),Room k A → Env0 P w K mg base A outer s H → BindsTo s fd args (ps.zip us) → Vals vs us → sp vs H Q E →
  codeAny (model P w) A (.call (.ref f) args) (CR CX outer P w H s Q E) s
theorem Env0.make {P : Program} {w : World} {K : PySem.W.Frag} {mg : Str → Option Value} {base : Heap} {A : Around} {outer : List Env} {s : Shared} {H : Hp} (e : Env0 P w K mg base A outer s H) (C : Addr) (us : List Value) (kw : List (Str × Value)) :
  Env0 P w K mg base (A.under (.builtin "type.__call__" ⟨.ref C :: us,kw⟩)) outer s H:=⟨by first | exact e.frames | (simpa [Around.under,Code.envs,Code.isFrame,pushEnvs] using e.frames),e.mod,e.bs,e.bsz,e.funs,e.frf,e.hok,e.bare⟩
section
variable {X : Cx} {pins : List (Addr × Obj)} {σ : St} {H : Hp} {s s' : Shared}
theorem Inv.env0 (I : Inv X pins σ H s) : Env0 X.prog X.w X.K X.mg X.base X.A X.stack s H :=
 ⟨I.ok.frames,I.ok.mod,I.bs,Nat.le_trans I.ok.bsz I.sz,I.stack,I.stkFree,I.hok,I.bare⟩
theorem Inv.after {Q : VK} {u : Value} (I : Inv X pins σ H s) (h : CE X.stack X.prog X.w H s Q u s') : EP X pins σ Q u s':=by
 obtain ⟨v,H', os,bare,un,hok,r,q⟩:=h;obtain ⟨hh,g,d,t,os'⟩:=s';obtain rfl : os' = s.os:=os;exact ⟨v,H', I.call (h':=hh) (g':=g) (d':=d) (t':=t) (ch:=[]) un hok bare (fun b z=>absurd z (by simp)),r,q⟩
end
noncomputable def tCall (sp : Sp) (dvs : List V) (E : XK) (t : TA) : TE:=fun σ H Q=>t σ H fun vs H1=>sp (vs ++ dvs) H1 Q E
noncomputable def tMeth (C : Addr) (m : Str) (sp : Sp) (dvs : List V) (E : XK) (ta : TE) (t : TA) : TE:=fun σ H Q=>ta σ H fun x H1=>∃ a dx fs,x = .ref a ∧ H1 a = some (.ins C dx fs) ∧ fs.lookup m = none ∧
 t σ H1 fun vs H2=>sp (x :: (vs ++ dvs)) H2 Q E
noncomputable def tMake (C : Addr) (sp : Sp) (dvs : List V) (E : XK) (t : TA) : TE:=fun σ H Q=>t σ H fun vs H1=>∀ x dx,H1 x = none → H1 dx = none → dx ≠ x →
 sp (.ref x :: (vs ++ dvs)) (upd (upd H1 dx (.own x)) x (.ins C dx [])) (fun v H2=>v = .non ∧ Q (.ref x) H2) E
noncomputable def Binds (K : PySem.W.Frag) (fd : FuncData) (ps : List Str) (ds : List Value) : Prop :=
 ∀ (s : Shared) (us : List Value),K.In s.heap → (us ++ ds).length = ps.length → BindsTo s fd ⟨us,[]⟩ (ps.zip (us ++ ds))
theorem Binds.all {K : PySem.W.Frag} {fd : FuncData} {ps : List Str} (h : ∀ us : List Value,us.length = ps.length → bindArgs fd ⟨us,[]⟩ = pure (ps.zip us)) : Binds K fd ps []:=fun s us _ hl=>by
 rw [List.append_nil] at hl ⊢;exact .of_eq (h us hl)
noncomputable def Jqf (CX : CXT) (X : Cx) (E : XK) : Prop:=∀ (pins : List (Addr × Obj)) (σ : St) (H : Hp) (s : Shared) (e : Value) (s' : Shared),Inv X pins σ H s → CX X.stack H s E e s' → X.xe e s'
section
variable {X : Cx} {CX : CXT} {k : Nat} {f C : Addr} {fd : FuncData} {ps : List Str} {sp : Sp} {dvs : List V} {ds : List Value} {E : XK} {x m : Str} {p pos apos : Pos} {e o : Expr} {es : List Expr} {ta : TE} {t : TA}
theorem Juf {pins : List (Addr × Obj)} {σ : St} {H : Hp} {s : Shared} {Q : VK} {us : List Value} {vs : List V} (F : FnOk X.prog X.w X.K X.mg X.base CX k f fd ps sp) (hr : Room k X.A) (hb : Binds X.K fd ps ds) (hd : Vals dvs ds) (hx : Jqf CX X E)
  (I : Inv X pins σ H s) (r : Vals vs us) (h : sp (vs ++ dvs) H Q E) : wpAny (model X.prog X.w) X.A (call (.ref f) us) (EP X pins σ Q) X.xe s:=by
 have r2 : Vals (vs ++ dvs) (us ++ ds):=r.append hd;have hl : (us ++ ds).length = ps.length:=by rw [← r2.length]; exact F.len _ _ _ _ h
 refine wpAny_call (codeAny_mono (F.run X.A X.stack s H ⟨us,[]⟩ (us ++ ds) (vs ++ dvs) Q E hr I.env0 (hb s us I.kIn hl) r2 h) fun r s' hq=>?_);cases r with
 | error e=>exact hx pins σ H s e s' I hq
 | ok fl =>
  cases fl with
  | ret u=>exact I.after hq
  | next=>exact False.elim hq
  | brk=>exact False.elim hq
  | cont=>exact False.elim hq
theorem Yx (F : FnOk X.prog X.w X.K X.mg X.base CX k f fd ps sp) (hr : Room k X.A) (hg : Gl X x) (hm : X.mg x = some (.ref f)) (hk : PySem.W.keepIn X.K (.ref f) = true) (hb : Binds X.K fd ps ds) (hd : Vals dvs ds) (hx : Jqf CX X E)
  (ha : PA X (e :: es) t) (hdb : (x == ("__debug__" : Str)) = false:=by decide) (he : starEach (e :: es) X.env = (false,eval e X.env) :: starEach es X.env:=by rfl) (hpl : (backTo pos (starEach es X.env)).any (·.1) = false:=by rfl) :
  PE X (.Call (.Name x p) (e :: es) [] pos) (tCall sp dvs E t):=by
 intro pins s σ H Q I h;refine wpAny_Call_Name_kw (Jpu I hg hm ?_ hdb);refine PySem.W.callWith_K (h₀:=X.base) I.ok.mod.kin hk (thn (ha pos pins s σ H _ I h) fun us s1 ⟨vs,H1,I1,r,q⟩=>⟨I1.kIn,?_⟩) he hpl;exact Juf F hr hb hd hx I1 r q
theorem Jv9 {pl : Sem Bool} (he : PE X o ta) (c : Cls X.K C) (hm : Jlv X.K C m f) (F : FnOk X.prog X.w X.K X.mg X.base CX k f fd ps sp) (hr : Room k X.A) (hb : Binds X.K fd ps ds) (hd : Vals dvs ds) (hx : Jqf CX X E)
  (ht : eval (.Call (.Attribute o m apos) [] [] pos) X.env = (do
   let ov ← eval o X.env
   standAt apos.atName
   let (f,first) ← holding [ov] (getMethod ov m pl)
   callWith pos f first (backTo pos (starEach [] X.env)) (backToKw pos (keywordEach [] X.env))):=by rfl) :
  PE X (.Call (.Attribute o m apos) [] [] pos) (tMeth C m sp dvs E ta Jt9):=by
 intro pins s σ H Q I h;refine PySem.W.methodCall_KW (pl:=pl) (thn (he pins s σ H _ I h) fun u s1 ⟨x,H1,I1,rx,a,dx,fs,ex,ea,l,q⟩=>?_) ht;subst ex;obtain rfl : u = Value.ref a:=rx;refine Jpc I1 ea c hm l ?_;exact PySem.W.callWith_K0 (first:=[.ref a]) I1.kIn hm.kp (Juf (us:=[.ref a]) (vs:=[.ref a]) F hr hb hd hx I1 (.cons rfl .nil) q)
structure Mk (K : PySem.W.Frag) (C f : Addr) : Prop where
 makes : PySem.W.makesIn K C = true
 init : PySem.W.findIn K (.ref C) "__init__" = some (some (.ref f))
 fn : PySem.W.isFn K (.ref f) = true
 kp : PySem.W.keepIn K (.ref C) = true
theorem Jz8 {pins : List (Addr × Obj)} {σ : St} {H : Hp} {s : Shared} {Q : VK} {us : List Value} {vs : List V} (M : Mk X.K C f) (F : FnOk X.prog X.w X.K X.mg X.base CX k f fd ps sp) (hr : Room (k + 1) X.A) (hb : Binds X.K fd ps ds) (hd : Vals dvs ds)
  (hx : Jqf CX X E) (I : Inv X pins σ H s) (r : Vals vs us)
  (h : ∀ x dx,H x = none → H dx = none → dx ≠ x → sp (.ref x :: (vs ++ dvs)) (upd (upd H dx (.own x)) x (.ins C dx [])) (fun v H2=>v = .non ∧ Q (.ref x) H2) E) :
  wpAny (model X.prog X.w) X.A (call (.ref C) us) (EP X pins σ Q) X.xe s:=by
 have hq:=h (s.heap.objs.size + 1) s.heap.objs.size (I.hok.fresh (Nat.le_succ _)) (I.hok.fresh (Nat.le_refl _)) (Nat.ne_of_lt (Nat.lt_succ_self _));have I2:=Inv.made (C:=C) I;have r2 : Vals (V.ref (s.heap.objs.size + 1) :: (vs ++ dvs)) (Value.ref (s.heap.objs.size + 1) :: (us ++ ds)):=.cons rfl (r.append hd);have hl : (Value.ref (s.heap.objs.size + 1) :: us ++ ds).length = ps.length:=by
  have e:=r2.length;rw [F.len _ _ _ _ hq] at e;exact e.symm
 refine wpAny_call (Jyy (f:=f) I.kIn M.makes M.init (beq_iff_eq.mp M.fn) (codeAny_mono (F.run _ X.stack _ _ ⟨Value.ref (s.heap.objs.size + 1) :: us,[]⟩ (Value.ref (s.heap.objs.size + 1) :: (us ++ ds)) _ _ E (hr.make C us [])
  (I2.env0.make C us []) (hb _ (Value.ref (s.heap.objs.size + 1) :: us) I2.kIn hl) r2 hq) fun r s' hq'=>?_))
 cases r with
 | error e=>exact hx pins σ _ _ e s' I2 hq'
 | ok fl =>
  cases fl with
  | ret u =>
   obtain ⟨v,H', I3,rv,ev,q3⟩:=I2.after hq';subst ev;exact ⟨rv,⟨V.ref (s.heap.objs.size + 1),H', I3,rfl,q3⟩⟩
  | next=>exact False.elim hq'
  | brk=>exact False.elim hq'
  | cont=>exact False.elim hq'
theorem Jn9 (M : Mk X.K C f) (F : FnOk X.prog X.w X.K X.mg X.base CX k f fd ps sp) (hr : Room (k + 1) X.A) (hg : Gl X x) (hm : X.mg x = some (.ref C)) (hb : Binds X.K fd ps ds) (hd : Vals dvs ds) (hx : Jqf CX X E)
  (ha : PA X (e :: es) t) (hdb : (x == ("__debug__" : Str)) = false:=by decide) (he : starEach (e :: es) X.env = (false,eval e X.env) :: starEach es X.env:=by rfl) (hpl : (backTo pos (starEach es X.env)).any (·.1) = false:=by rfl) :
  PE X (.Call (.Name x p) (e :: es) [] pos) (tMake C sp dvs E t):=by
 intro pins s σ H Q I h;refine wpAny_Call_Name_kw (Jpu I hg hm ?_ hdb);refine PySem.W.callWith_K (h₀:=X.base) I.ok.mod.kin M.kp (thn (ha pos pins s σ H _ I h) fun us s1 ⟨vs,H1,I1,r,q⟩=>⟨I1.kIn,?_⟩) he hpl;exact Jz8 M F hr hb hd hx I1 r q
end
section
variable {X : Cx} {CX : CXT} {k : Nat} {f C : Addr} {fd : FuncData} {ps ks : List Str} {sp : Sp} {E : XK} {x m : Str} {p pos apos kpos : Pos} {e o : Expr} {es : List Expr} {kws : List Keyword} {te ta : TE} {t tk : TA} {nm : Option Str}
structure KBinds (K : PySem.W.Frag) (fd : FuncData) (ps ks : List Str) (g : List Value → List Value → List Value) (gV : List V → List V → List V) : Prop where
 to : ∀ (s : Shared) (us ws : List Value),K.In s.heap → (g us ws).length = ps.length → BindsTo s fd ⟨us,ks.zip ws⟩ (ps.zip (g us ws))
 rel : ∀ {vs : List V} {us : List Value} {zs : List V} {ws : List Value},Vals vs us → Vals zs ws → Vals (gV vs zs) (g us ws)
variable {g : List Value → List Value → List Value} {gV : List V → List V → List V}
end
structure Jkb (N P : List Str) (sc : Scope) : Prop where
 kind : sc.kind = .function
 co : sc.isCoroutine = false
 gen : sc.isGenerator = false
 nd : N.Nodup
 pre : N.take P.length = P
 par : ∀ x ∈ P,sc.names.lookup x = some .local ∨ sc.names.lookup x = some .cell
 nofree : ∀ y ∈ sc.names,y.2 ≠ .free
theorem Jtf {kindOf : Str → Option NameKind} {x : Str} : ∀ {binds : List (Str × Value)} {m : Str → Option Value},(∀ v,(x,v) ∉ binds) → bindL kindOf binds m x = m x
 | [],_,_=>rfl
 | (n,v) :: r,m,h=>by
  unfold bindL;rw [Jtf fun w hw=>h w (List.mem_cons_of_mem _ hw)];split
  ·have : x ≠ n:=by rintro rfl; exact h v List.mem_cons_self
   simp [this]
  ·rfl
theorem Jtd {kindOf : Str → Option NameKind} {x : Str} : ∀ {binds : List (Str × Value)} {m : Str → Option Value},(∀ v,(x,v) ∉ binds) → bindC kindOf binds m x = m x
 | [],_,_=>rfl
 | (n,v) :: r,m,h=>by
  unfold bindC;rw [Jtd fun w hw=>h w (List.mem_cons_of_mem _ hw)];split
  ·rfl
  ·have : x ≠ n:=by rintro rfl; exact h v List.mem_cons_self
   simp [this]
theorem Jte {kindOf : Str → Option NameKind} {x : Str} {v : Value} : ∀ {P : List Str} {vs : List Value} {i : Nat} {m : Str → Option Value},P.Nodup → P[i]? = some x → vs[i]? = some v → kindOf x = some .local →
  bindL kindOf (P.zip vs) m x = some v
 | [],_,_,_,_,h,_,_=>by simp at h
 | _ :: _,[],_,_,_,_,h,_=>by simp at h
 | p :: P,w :: vs,0,m,nd,h1,h2,hk=>by
  simp at h1 h2; subst h1; subst h2;show bindL kindOf ((p,w) :: P.zip vs) m p = _;unfold bindL;rw [Jtf fun v hv=>(List.nodup_cons.mp nd).1 (List.of_mem_zip hv).1,if_pos hk];simp
 | p :: P,w :: vs,i + 1,m,nd,h1,h2,hk=>by
  show bindL kindOf ((p,w) :: P.zip vs) m x = _;unfold bindL;exact Jte (i:=i) (List.nodup_cons.mp nd).2 (by simpa using h1) (by simpa using h2) hk
theorem Jtc {kindOf : Str → Option NameKind} {x : Str} {v : Value} : ∀ {P : List Str} {vs : List Value} {i : Nat} {m : Str → Option Value},P.Nodup → P[i]? = some x → vs[i]? = some v → kindOf x ≠ some .local →
  bindC kindOf (P.zip vs) m x = some v
 | [],_,_,_,_,h,_,_=>by simp at h
 | _ :: _,[],_,_,_,_,h,_=>by simp at h
 | p :: P,w :: vs,0,m,nd,h1,h2,hk=>by
  simp at h1 h2; subst h1; subst h2;show bindC kindOf ((p,w) :: P.zip vs) m p = _;unfold bindC;rw [Jtd fun v hv=>(List.nodup_cons.mp nd).1 (List.of_mem_zip hv).1,if_neg hk];simp
 | p :: P,w :: vs,i + 1,m,nd,h1,h2,hk=>by
  show bindC kindOf ((p,w) :: P.zip vs) m x = _;unfold bindC;exact Jtc (i:=i) (List.nodup_cons.mp nd).2 (by simpa using h1) (by simpa using h2) hk
noncomputable def start (N : List Str) (vs : List V) : St:=vs.map some ++ List.replicate (N.length - vs.length) none
noncomputable def Jux (CX : CXT) (P : Program) (w : World) (K : PySem.W.Frag) (mg : Str → Option Value) (base : Heap) (N : List Str) (qual : Str) (scope : Scope) (f : Addr) (cd : Value) (A : Around) (outer : List Env) (s : Shared) (H : Hp) (E : XK) : Cx where
 prog:=P
 w:=w
 K:=K
 mg:=mg
 base:=base
 A:=A.deeper (envOfC qual scope s.heap.objs.size f cd)
 N:=N
 s₀:=s
 H₀:=H
 env:=envOfC qual scope s.heap.objs.size f cd
 outer:=outer
 stack:=envOfC qual scope s.heap.objs.size f cd :: outer
 ex:=[]
 calm:=true
 fn:=fun _=>true
 pn:=[]
 xe:=fun e s'=>wpAny (model P w) (A.deeper (envOfC qual scope s.heap.objs.size f cd)) (leaving (envOfC qual scope s.heap.objs.size f cd) e) (fun _ s''=>CX outer H s E e s'') (fun e' s''=>CX outer H s E e' s'') s'
theorem Juu {sc : Scope} {n : Nat} {x : Str} (h : sc.names.lookup x = some .cell) : ∃ c,(cellsFrom n sc.names []).lookup x = some c:=by
 have q:=PySem.W.cellsFrom_some sc.names n [] (.inl h);exact Option.isSome_iff_exists.mp q
theorem Jxm {CX : CXT} {P : Program} {w : World} {K : PySem.W.Frag} {mg : Str → Option Value} {base : Heap} {N ps : List Str} {qual : Str} {scope : Scope} {f : Addr} {cd : Value} {A : Around} {outer : List Env} {s s1 : Shared} {H : Hp} {E : XK} {us : List Value} {vs : List V}
  (S : Jkb N ps scope) (hd : A.handled = none) (e0 : Env0 P w K mg base A outer s H) (hl : vs.length = ps.length) (r : Vals vs us)
  (x : InCallC s s.heap.objs.size (bindL (envOfC qual scope s.heap.objs.size f cd).kindOf (ps.zip us) fun _=>none) (cellsFrom (s.heap.objs.size + 1) scope.names []) (bindC (envOfC qual scope s.heap.objs.size f cd).kindOf (ps.zip us) fun _=>none) s1) :
  Inv (Jux CX P w K mg base N qual scope f cd A outer s H E) [] (start N vs) H s1:=by
 have hpl : ps.length ≤ N.length:=by have:=congrArg List.length S.pre; rw [List.length_take] at this; omega
 obtain ⟨h1,tk,rfl,hk⟩:=x.done;have noA : ∀ b : Addr,b ∉ (Jux CX P w K mg base N qual scope f cd A outer s H E).ex:=fun b z=>absurd (show b ∈ ([] : List Addr) from z) (by simp);refine ⟨⟨e0.mod,S.kind,rfl,rfl,Nat.le_refl _,fun y z c h1 h2=>?_,fun y hy=>?_,fun y c _ h=>?_,fun _=>hd,Around.frames_deeper e0.frames,.inr ⟨rfl,rfl⟩,fun b z=>absurd z (noA b),e0.bs,e0.bsz,fun b _ _=>noA b,fun b z=>absurd z (noA b),e0.funs,e0.frf⟩,
  rfl,e0.bare,Un.kept hk,⟨_,x.toInCall.ns,fun i y v h1 h2 h3=>?_⟩,fun y c h=>⟨_,x.cell y c h⟩,e0.hok.fresh (Nat.le_refl _),fun y c h=>?_,fun p hp=>absurd (show p ∈ ([] : List (Addr × Obj)) from hp) (by simp),e0.hok.kept hk,?_⟩
 ·exact name_of_addr x.apart (PySem.mem_of_lookup h1) (PySem.mem_of_lookup h2)
 ·have hy : scope.names.lookup y = some .cell ∨ scope.names.lookup y = some .free:=hy;rcases hy with hy | hy
  ·exact Juu hy
  ·exact absurd rfl (S.nofree _ (PySem.mem_of_lookup hy))
 ·exact Nat.le_of_lt (x.above y c (PySem.mem_of_lookup h))
 ·have hi : i < vs.length:=by
   unfold start at h2;by_cases hi : i < vs.length
   ·exact hi
   ·rw [List.getElem?_append_right (by simpa using hi)] at h2;rw [List.getElem?_replicate] at h2;split at h2 <;> cases h2
  have ha : vs[i]? = some v:=by
   unfold start at h2;rw [List.getElem?_append_left (by simpa using hi),List.getElem?_map] at h2;cases e : vs[i]? with
   | none=>rw [e] at h2; cases h2
   | some a=>rw [e] at h2; cases h2; rfl
  obtain ⟨u,hu,rv⟩:=r.get ha;have hp : ps[i]? = some y:=by
   rw [← S.pre,List.getElem?_take_of_lt (by omega)]; exact h1
  have ndP : ps.Nodup:=by rw [← S.pre]; exact S.nd.sublist (List.take_sublist _ _)
  refine ⟨u,rv,?_⟩;rcases S.par y (List.mem_of_getElem? hp) with k | k
  ·exact .inl ⟨k,Jte ndP hp hu k⟩
  ·obtain ⟨c,e⟩:=Juu (n:=s.heap.objs.size + 1) k;refine .inr ⟨.inl k,c,e,?_⟩;have q:=x.cell y c e;rw [Jtc ndP hp hu (by show scope.names.lookup y ≠ _; rw [k]; decide)] at q;exact q
 ·exact e0.hok.fresh (Nat.le_of_lt (x.above y c (PySem.mem_of_lookup h)))
 ·unfold start;show _ = N.length;rw [List.length_append,List.length_map,List.length_replicate];omega
theorem fn_of {CX : CXT} {P : Program} {w : World} {K : PySem.W.Frag} {mg : Str → Option Value} {base : Heap} {k : Nat} {f : Addr} {name qual : Str} {params : Arguments} {body : List Stmt} {scope : Scope} {dV kV doc pm cdv ct oc : Value} {an od : Option Addr}
  {osl : Array (Option Value)} {N ps : List Str} {sp : Sp} (lk : K.lookup f = some ⟨oc,od,.func (PySem.W.fnOf name qual params body scope dV kV doc pm an cdv ct),osl⟩) (hcd : PySem.W.codeIn K cdv qual = true) (S : Jkb N ps scope)
  (len : ∀ vs H Q E,sp vs H Q E → vs.length = ps.length)
  (hbody : ∀ (A : Around) (outer : List Env) (s : Shared) (H : Hp) (vs : List V) (Q : VK) (E : XK),Room k (A.deeper (envOfC qual scope s.heap.objs.size f cdv)) → sp vs H Q E →
   ∃ t,PSs (Jux CX P w K mg base N qual scope f cdv A outer s H E) body t ∧ t { nx:=fun _ H'=>Q .non H', rt:=Q } (start N vs) H) :
  FnOk P w K mg base CX (k + 1) f (PySem.W.fnOf name qual params body scope dV kV doc pm an cdv ct) ps sp:=by
 refine ⟨len,fun A outer s H args us vs Q E hr e0 hb r hsp=>?_⟩;have hl:=len _ _ _ _ hsp;have KX : K.In s.heap:=e0.mod.kin.keeps fun b o e=>(e0.bs b o e).1;have lim : s.heap.NoLimit:=e0.mod.nolimit.keeps fun b o e=>(e0.bs b o e).1;have hkind : ∀ y ∈ ps.zip us,scope.names.lookup y.1 = some .local ∨ (scope.names.lookup y.1 = some .cell ∧ ((cellsFrom (s.heap.objs.size + 1) scope.names []).lookup y.1).isSome = true):=fun ⟨n,v⟩ hy=>by
  rcases S.par n (List.of_mem_zip hy).1 with q | q
  ·exact .inl q
  ·exact .inr ⟨q,PySem.W.cellsFrom_some _ _ _ (.inl q)⟩
 refine codeAny_call_function hr.depth (KX _ _ lk) rfl S.co S.gen rfl (PySem.W.codeRec_of KX hcd) (hb _ _ _ _ ?_);refine wpAny_newFunctionEnv_cells S.kind hkind fun env he s1 x=>?_;subst he;refine ⟨lim.keeps x.toInCall.keep,codeAny_func ?_⟩;obtain ⟨t,ht,hq⟩:=hbody A outer s H vs Q E (hr.deeper _) hsp;have I : Inv (Jux CX P w K mg base N qual scope f cdv A outer s H E) [] (start N vs) H s1:=Jxm S hr.hd e0 hl r x;refine wpAny_mono (ht [] s1 (start N vs) H _ I hq) (fun fl s' hs=>?_) fun e s' hs=>hs;have fin : ∀ {σ' : St} {H' : Hp} {v : V} {u : Value},Inv (Jux CX P w K mg base N qual scope f cdv A outer s H E) [] σ' H' s' → RelV v u → Q v H' → CE outer P w H s Q u s' :=
  fun {σ' H' v u} J rv q=>⟨v,H', J.os,J.bare,J.base,J.hok,rv,q⟩
 cases fl with
 | ret u =>
  obtain ⟨v,σ', H', J,rv,q⟩:=hs;exact fin J rv q
 | next =>
  obtain ⟨σ', H', J,q⟩:=hs;exact fin (v:=V.non) (u:=Value.none) J rfl q
 | brk =>
  obtain ⟨_,_,_,q⟩:=hs;exact False.elim q
 | cont =>
  obtain ⟨_,_,_,q⟩:=hs;exact False.elim q
end L2
namespace L2
open PySem PySem.Spec PyProof.Rows
section
variable {X : Cx} {x : Str} {p pos : Pos} {e : Expr} {es : List Expr} {t : TA} {id T : String} {r : List V → Hp → VK → Prop}
noncomputable def tCB (r : List V → Hp → VK → Prop) (t : TA) : TE:=fun σ H Q=>t σ H fun vs H1=>r vs H1 Q
theorem Jka (hc : Jmo X (.builtin id) r) (hg : Gl X x) (hm : X.mg x = none) (hv : bootBuiltins x = some (.builtin id)) (ha : PA X (e :: es) t) (hn : x ≠ "__name__" := by decide) (hdb : (x == ("__debug__" : Str)) = false:=by decide)
  (he : starEach (e :: es) X.env = (false,eval e X.env) :: starEach es X.env:=by rfl) (hpl : (backTo pos (starEach es X.env)).any (·.1) = false:=by rfl) : PE X (.Call (.Name x p) (e :: es) [] pos) (tCB r t):=by
 intro pins s σ H Q I h;refine wpAny_Call_Name_kw (Jnd I hg hm hv ?_ hn hdb);exact PyProof.Rows.callWith_builtin1 (thn (ha pos pins s σ H _ I h) fun us s1 ⟨vs,H1,I1,r1,q1⟩=>hc pins s1 σ H1 vs us Q I1 r1 q1) he hpl
theorem Jkr (hc : Jmo X (.type T) r) (hg : Gl X x) (hm : X.mg x = none) (hv : bootBuiltins x = some (.type T)) (ha : PA X (e :: es) t) (hn : x ≠ "__name__" := by decide) (hdb : (x == ("__debug__" : Str)) = false:=by decide)
  (he : starEach (e :: es) X.env = (false,eval e X.env) :: starEach es X.env:=by rfl) (hpl : (backTo pos (starEach es X.env)).any (·.1) = false:=by rfl) : PE X (.Call (.Name x p) (e :: es) [] pos) (tCB r t):=by
 intro pins s σ H Q I h;refine wpAny_Call_Name_kw (Jnd I hg hm hv ?_ hn hdb);exact PyProof.Rows.callWith_type1 (thn (ha pos pins s σ H _ I h) fun us s1 ⟨vs,H1,I1,r1,q1⟩=>hc pins s1 σ H1 vs us Q I1 r1 q1) he hpl
end
end L2
namespace HT
open PySem PyProof.Rows
section
open PySem.SeqAt
open PySem.AutoSeq1 (wpAny_loadPart')
open PySem.MeetsSeq PySem.MeetsSeq2 PySem.MeetsSeq3
end
section
variable {prog : Program} {w : World} {A : Around} {E : Value → Shared → Prop} {s : Shared}
theorem cat_tup {t b : Addr} {vs ws : List Value} {Q : Value → Shared → Prop} (ht : IsTup s.heap t vs.toArray) (hb : IsTup s.heap b ws.toArray) (hv : vs ≠ [])
  (h1 : ws = [] → Q (.ref t) s) (h2 : ws ≠ [] → Q (.ref s.heap.objs.size) { s with heap:=s.heap.push { cls:=.type "tuple",data:=.seq (vs ++ ws).toArray } })
  (hsz : vs.length + ws.length ≤ sizeLine) : wpAny (model prog w) A (binaryOp .Add (.ref t) (.ref b)) Q E s:=by
 obtain ⟨⟨cls,dd,data,sl⟩,ho,hc,n,hd⟩:=id ht;obtain ⟨⟨cls2,dd2,data2,sl2⟩,ho2,hc2,n2,hd2⟩:=id hb;simp only at hc hd hc2 hd2;subst hc hd hc2 hd2;have e : vs.toArray ++ ws.toArray = (vs ++ ws).toArray:=by simp
 by_cases hw : ws = []
 ·exact concat_meets ⟨_,ho,rfl⟩ ⟨_,ho2,rfl⟩ noFill_tuple_add seq_tuple_add PySem.F.slot_tuple_add PySem.F.entry_tuple_add (PySem.F.args_tuple_add_2 _ _)
   (tuple_addW1 t b vs.toArray ws.toArray n n2 dd dd2 sl sl2 (by simpa using hv) (by simp [hw])) ⟨ho,ho2,h1 hw⟩
 ·refine concat_meets ⟨_,ho,rfl⟩ ⟨_,ho2,rfl⟩ noFill_tuple_add seq_tuple_add PySem.F.slot_tuple_add PySem.F.entry_tuple_add (PySem.F.args_tuple_add_2 _ _)
   (tuple_addW2 t b vs.toArray ws.toArray n n2 dd dd2 sl sl2 (by simpa using hv) (by simpa using hw) (by rw [List.size_toArray,List.size_toArray]; exact hsz)) ⟨ho,ho2,?_⟩
  rw [e];exact h2 hw
noncomputable def sIx (n d : Nat) : Option Int → Nat
 | none=>d
 | some v=>if v < 0 then (v + (n : Int)).toNat else min v.toNat n
theorem sIx_none (n d : Nat) : sIx n d none = d:=rfl
theorem sIx_le (n d : Nat) (hd : d ≤ n) (o : Option Int) : sIx n d o ≤ n:=by
 cases o with
 | none=>exact hd
 | some v =>
  show (if v < 0 then (v + (n : Int)).toNat else min v.toNat n) ≤ n;by_cases hv : v < 0
  ·rw [if_pos hv]; omega
  ·rw [if_neg hv]; exact Nat.min_le_right _ _
theorem Jwm (v : Int) (n d : Nat) : (if v < 0 then max (v + (n : Int)) 0 else min v (n : Int)) = ((sIx n d (some v) : Nat) : Int):=by
 show (if v < 0 then max (v + (n : Int)) 0 else min v (n : Int)) = (((if v < 0 then (v + (n : Int)).toNat else min v.toNat n) : Nat) : Int);by_cases hv : v < 0
 ·simp only [if_pos hv]; omega
 ·simp only [if_neg hv]; omega
theorem Jvo (lo hi : Option Int) (n : Nat) : Builtin.Slice.sliceAdjust lo hi 1 (n : Int) = (((sIx n 0 lo : Nat) : Int),((sIx n n hi : Nat) : Int)):=by
 have h1 : ¬ ((1 : Int) < 0):=by omega
 unfold Builtin.Slice.sliceAdjust;simp only [h1,if_false];refine Prod.ext ?_ ?_
 ·cases lo with
  | none=>rfl
  | some v=>exact Jwm v n 0
 ·cases hi with
  | none=>rfl
  | some v=>exact Jwm v n n
theorem Jw7 (i j : Nat) : Builtin.Slice.slicePlaces (i : Int) (j : Int) 1 = j - i:=by
 unfold Builtin.Slice.slicePlaces;have h1 : (1 : Int) > 0:=by omega
 simp only [h1,if_true,Int.ediv_one];split <;> omega
theorem Jsm {v : Value} {o : Option Int} {Q : Option Int → Shared → Prop} (p : IsPart v o) (h : Q o s) : wpAny (model prog w) A (Builtin.Slice.slicePartIndex v) Q E s:=by
 cases p with
 | none=>exact slicePart_none h
 | int i t=>exact slicePart_int h
theorem Jr1 {sl : Addr} {vl vu : Value} {lo hi : Option Int} {n : Nat} {Q : Int × Int × Nat → Shared → Prop} (hs : s.heap.IsSliceOf sl vl vu .none) (pl : IsPart vl lo) (pu : IsPart vu hi)
  (h : Q (((sIx n 0 lo : Nat) : Int),1,sIx n n hi - sIx n 0 lo) s) : wpAny (model prog w) A (Builtin.Slice.sliceApplied (.ref sl) (pure (n : Int))) Q E s:=by
 obtain ⟨os,hos,hcs,hds⟩:=id hs;unfold Builtin.Slice.sliceApplied Builtin.Slice.sliceFields;refine wpAny_bind (wpAny_bind (wpAny_field hos hds (x:=vl) rfl (wpAny_bind (wpAny_field hos hds (x:=vu) rfl (wpAny_bind (wpAny_field hos hds (x:=.none) rfl (wpAny_pure ?_)))))));refine wpAny_bind (slicePart_none ?_);show wpAny _ _ (if ((1 : Int) == 0) = true then _ else _) _ _ s;rw [if_neg (by decide)];refine wpAny_bind (Jsm pl (wpAny_bind (Jsm pu (wpAny_bind (wpAny_pure ?_)))));show wpAny _ _ (match Builtin.Slice.sliceAdjust lo hi 1 (n : Int) with | (lo,hi)=>pure (lo,(1 : Int),Builtin.Slice.slicePlaces lo hi 1)) _ _ s;rw [Jvo lo hi n];show wpAny _ _ (pure (((sIx n 0 lo : Nat) : Int),(1 : Int),Builtin.Slice.slicePlaces ((sIx n 0 lo : Nat) : Int) ((sIx n n hi : Nat) : Int) 1)) _ _ s;rw [Jw7];exact wpAny_pure h
theorem Jz3 (xs : Array Value) (i k : Nat) : ((List.range k).filterMap fun (m : Nat)=>xs[((i : Int) + (m : Int) * 1).toNat]?).toArray = ((xs.toList.drop i).take k).toArray:=by
 have e : (fun (m : Nat)=>xs[((i : Int) + (m : Int) * 1).toNat]?) = fun m=>xs[i + m]?:=by
  funext m;have : ((i : Int) + (m : Int) * 1).toNat = i + m:=by omega
  rw [this]
 rw [e];have:=pick_run xs i k;rw [List.filterMap_map] at this;have e2 : ((fun x=>xs[x]?) ∘ fun x=>i + x) = fun m=>xs[i + m]?:=rfl;rw [e2] at this;rw [this]
theorem getItem_tuple_cut {t sl : Addr} {items : Array Value} {vl vu : Value} {lo hi : Option Int} {Q : Value → Shared → Prop} (ht : IsTup s.heap t items) (hs : s.heap.IsSliceOf sl vl vu .none) (pl : IsPart vl lo) (pu : IsPart vu hi)
  (hw : ¬ (sIx items.size 0 lo = 0 ∧ sIx items.size items.size hi = items.size))
  (h : Q (.ref s.heap.objs.size) { s with heap:=s.heap.push { cls:=.type "tuple",data:=.seq ((items.toList.drop (sIx items.size 0 lo)).take (sIx items.size items.size hi - sIx items.size 0 lo)).toArray } })
  (hsz : items.size ≤ sizeLine) : wpAny (model prog w) A (getItem (.ref t) (.ref sl)) Q E s:=by
 have htake : sizeOk (.seq ((items.toList.drop (sIx items.size 0 lo)).take (sIx items.size items.size hi - sIx items.size 0 lo)).toArray):=by
  show ((items.toList.drop (sIx items.size 0 lo)).take (sIx items.size items.size hi - sIx items.size 0 lo)).toArray.size ≤ sizeLine;rw [List.size_toArray,List.length_take,List.length_drop,Array.length_toList];omega
 have hj : sIx items.size items.size hi ≤ items.size:=sIx_le _ _ (Nat.le_refl _) hi;obtain ⟨os,hos,hcs,hds⟩:=id hs;have hTs : s.TypeIs (.ref sl) "slice" := ⟨os,hos,hcs⟩;unfold getItem
 try with_reducible refine wpAny_holding ?_
 first | refine wpAny_bind (wpAny_pure ?_) | skip
 refine wpAny_bind (wpAny_sequenceKey ht.typeIs (by decide) ?_);refine wpAny_bind (wpAny_callSpecial?_slot (name:=Str.ofString "__getitem__") ht.typeIs PyProof.Rows.slot_tuple_getitem
  (wpAny_call_entry PyProof.Rows.slot_tuple_getitem ht.typeIs entry_tuple_getitem ?_ (args_tuple_getitem _ _)))
 show wpAny _ _ (Builtin.Tuple.tupleItemsOf (.ref t) >>= _) _ _ s;refine wpAny_bind (tupleItemsOf_ ht ?_);refine wpAny_bind (wpAny_typeOf hTs ?_);rw [if_pos (by decide)];refine wpAny_bind (Jr1 hs pl pu ?_);have hno : ¬ ((((sIx items.size 0 lo : Nat) : Int) == 0 && (1 : Int) == 1 && (sIx items.size items.size hi - sIx items.size 0 lo) == items.size) = true):=by
  intro q;rw [Bool.and_eq_true,Bool.and_eq_true] at q;have q1 : ((sIx items.size 0 lo : Nat) : Int) = 0:=eq_of_beq q.1.1;have q2 : sIx items.size items.size hi - sIx items.size 0 lo = items.size:=eq_of_beq q.2;exact hw ⟨by omega,by omega⟩
 show wpAny _ _ (if (((sIx items.size 0 lo : Nat) : Int) == 0 && (1 : Int) == 1 && (sIx items.size items.size hi - sIx items.size 0 lo) == items.size) = true then _ else _) _ _ s;rw [if_neg hno,Jz3]
 first
  | exact wpAny_bind (m:=Builtin.Tuple.tupleExact _) (wpAny_newObj_type (wpAny_pure ⟨_,rfl,wpAny_pure h⟩) htake)
  | exact wpAny_bind (m:=Builtin.Tuple.tupleExact _) (wpAny_newObj_type (wpAny_bind (wpAny_pure (wpAny_pure ⟨_,rfl,wpAny_pure h⟩))) htake)
  | exact wpAny_bind (wpAny_bind (m:=Builtin.Tuple.tupleExact _) (wpAny_newObj_type (wpAny_pure (wpAny_pure ⟨_,rfl,wpAny_pure h⟩)) htake))
  | exact wpAny_bind (wpAny_bind (m:=Builtin.Tuple.tupleExact _) (wpAny_newObj_type (wpAny_pure ⟨_,rfl,wpAny_pure h⟩) htake))
end
end HT
namespace L2
open PySem PySem.Spec PyProof.Rows
noncomputable abbrev TO:=St → Hp → (Option Int → Hp → Prop) → Prop
noncomputable def PO (X : Cx) (e : Option Expr) (t : TO) : Prop :=
 ∀ (pins : List (Addr × Obj)) (s : Shared) (σ : St) (H : Hp) (Q : Option Int → Hp → Prop),Inv X pins σ H s → t σ H Q →
  wpAny (model X.prog X.w) X.A (evalPart e X.env) (fun u s'=>∃ o H', Inv X pins σ H' s' ∧ IsPart u o ∧ Q o H') X.xe s
noncomputable def Yao : TO:=fun _ H Q=>Q none H
noncomputable def tPart (t : TE) : TO:=fun σ H Q=>t σ H fun x H1=>∃ i,x = .int i ∧ Q (some i) H1
section
variable {X : Cx} {e : Expr} {te : TE} {lo hi : Option Expr} {tl th : TO} {pos p2 : Pos}
theorem Jq2 : PO X none Yao:=by
 intro pins s σ H Q I h;rw [evalPart_none];exact wpAny_pure ⟨none,H,I,.none,h⟩
theorem Jq3 (h : PE X e te) : PO X (some e) (tPart te):=by
 intro pins s σ H Q I hw;rw [evalPart_some];refine thn (h pins s σ H _ I hw) fun u s1 ⟨x,H1,I1,r1,q1⟩=>?_;obtain ⟨i,rfl,q⟩:=q1;obtain ⟨t,rfl⟩:=r1;exact ⟨some i,H1,I1,.int i t,q⟩
noncomputable def SlR (X : Cx) (r : V → Option Int → Option Int → Hp → VK → Prop) : Prop :=
 ∀ (pins : List (Addr × Obj)) (s : Shared) (σ : St) (H : Hp) (x : V) (v vl vu : Value) (lo hi : Option Int) (sl : Addr) (Q : VK),Inv X pins σ H s → RelV x v → s.heap.IsSliceOf sl vl vu .none → IsPart vl lo → IsPart vu hi → r x lo hi H Q →
  ∃ T id,typeLookup (.type T) "__getitem__" = pure (some (.builtin id)) ∧ s.TypeIs v T ∧ wpAny (model X.prog X.w) X.A (getItem v (.ref sl)) (EP X pins σ Q) X.xe s
noncomputable def tSl (r : V → Option Int → Option Int → Hp → VK → Prop) (te : TE) (tl th : TO) : TE:=fun σ H Q=>te σ H fun x H1=>tl σ H1 fun l H2=>th σ H2 fun u H3=>r x l u H3 Q
theorem Jol {r : V → Option Int → Option Int → Hp → VK → Prop} (hr : SlR X r) (he : PE X e te) (hl : PO X lo tl) (hu : PO X hi th) : PE X (.Subscript e (.Slice lo hi none p2) pos) (tSl r te tl th):=by
 intro pins s σ H Q I h;refine Subscript_ (thn (he pins s σ H _ I h) fun v s1 ⟨x,H1,I1,r1,q1⟩=>?_);refine wpAny_Slice (thn (hl pins s1 σ H1 _ I1 q1) fun vl s2 ⟨l,H2,I2,pl,q2⟩=>thn (hu pins s2 σ H2 _ I2 q2) fun vu s3 ⟨u,H3,I3,pu,q3⟩=>?_);rw [evalPart_none];refine wpAny_pure ?_;have I4 : Inv X pins σ H3 { s3 with heap:=s3.heap.push { cls:=.type "slice",data:=.fields #[vl,vu,.none] } }:=I3.kept (t':=s3.toks) fun b ob q=>Heap.get?_push_of_some _ q;obtain ⟨T,id,hT,ht,hg⟩:=hr pins { s3 with heap:=s3.heap.push { cls:=.type "slice",data:=.fields #[vl,vu,.none] } } σ H3 x v vl vu l u s3.heap.objs.size Q I4 r1 (Heap.IsSliceOf.new ..) pl pu q3;show wpAny (model X.prog X.w) X.A (subscriptTail e (.Slice lo hi none p2) v (.ref s3.heap.objs.size)) (EP X pins σ Q) X.xe { s3 with heap:=s3.heap.push { cls:=.type "slice",data:=.fields #[vl,vu,.none] } };exact tail_any (ops:=[.ref s3.heap.objs.size,v]) ht hT hg (by with_unfolding_all rfl)
noncomputable def Jrz (xs : List V) (lo hi : Option Int) : List V:=(xs.drop (HT.sIx xs.length 0 lo)).take (HT.sIx xs.length xs.length hi - HT.sIx xs.length 0 lo)
theorem Jr2 (xs : List V) (lo hi : Option Int) : (Jrz xs lo hi).length ≤ xs.length:=by
 unfold Jrz;rw [List.length_take,List.length_drop];omega
noncomputable def rSlT (K : PySem.W.Frag) : V → Option Int → Option Int → Hp → VK → Prop:=fun x lo hi H Q=>∃ a xs,x = .ref a ∧ SqT K H a xs ∧
 ¬ (HT.sIx xs.length 0 lo = 0 ∧ HT.sIx xs.length xs.length hi = xs.length) ∧ ∀ p,H p = none → Q (.ref p) (upd H p (.tup (Jrz xs lo hi)))
theorem Jwe : SlR X (rSlT X.K):=by
 intro pins s σ H x v vl vu lo hi sl Q I rx hs pl pu h;obtain ⟨a,xs,rfl,hx,hw,q⟩:=h;cases rx;obtain ⟨its,r,ht,hz⟩:=I.tuple hx;have hlen : its.toArray.size = xs.length:=by rw [List.size_toArray]; exact r.length.symm
 refine ⟨"tuple",_,PyProof.Rows.slot_tuple_getitem.lookup,ht.typeIs,?_⟩;refine HT.getItem_tuple_cut ht hs pl pu (by rw [hlen]; exact hw) ?_ (by rw [hlen]; exact hz);rw [hlen];refine ⟨.ref s.heap.objs.size,_,I.laid (t':=s.toks) (o:=.tup (Jrz xs lo hi)) (fun b ob q=>Heap.get?_push_of_some _ q) (Nat.le_refl _) ?_,rfl,q _ (I.hok.fresh (Nat.le_refl _))⟩;exact ⟨Nat.le_trans (Jr2 xs lo hi) hz,_,(r.drop (HT.sIx xs.length 0 lo)).take (HT.sIx xs.length xs.length hi - HT.sIx xs.length 0 lo),IsTup.new _ _⟩
noncomputable def rCatT (K : PySem.W.Frag) : R2:=fun x y H Q=>∃ a b xs ys,x = .ref a ∧ y = .ref b ∧ SqT K H a xs ∧ SqT K H b ys ∧ xs ≠ [] ∧ xs.length + ys.length ≤ sizeLine ∧
 (ys = [] → Q (.ref a) H) ∧ (ys ≠ [] → ∀ p,H p = none → Q (.ref p) (upd H p (.tup (xs ++ ys))))
theorem Vals.nil_iff {xs : List V} {us : List Value} (r : Vals xs us) : us = [] ↔ xs = []:=by
 cases r with
 | nil=>simp
 | cons _ _=>simp
theorem Yv : OpR X (binaryOp .Add) (rCatT X.K):=by
 intro pins s σ H x y v u Q I rx ry h;obtain ⟨a,b,xs,ys,rfl,rfl,ha,hb,hx,hz,q1,q2⟩:=h;cases rx;cases ry;obtain ⟨its,r1,p1,_⟩:=I.tuple ha;obtain ⟨its2,r2,p2,_⟩:=I.tuple hb;refine HT.cat_tup p1 p2 (fun z=>hx (r1.nil_iff.mp z)) (fun z=>⟨.ref a,H,I,rfl,q1 (r2.nil_iff.mp z)⟩) (fun z=>?_) (by rw [← r1.length,← r2.length]; exact hz);refine ⟨.ref s.heap.objs.size,_,I.laid (t':=s.toks) (o:=.tup (xs ++ ys)) (fun b ob q=>Heap.get?_push_of_some _ q) (Nat.le_refl _) ?_,rfl,q2 (fun w=>z (r2.nil_iff.mpr w)) _ (I.hok.fresh (Nat.le_refl _))⟩;exact ⟨by rw [List.length_append]; exact hz,_,r1.append r2,IsTup.new _ _⟩
end
end L2
namespace L2
open PySem PySem.Spec PyProof.Rows
noncomputable def ixN (n : Nat) (i : Int) : Option Nat:=if 0 ≤ i then (if i < n then some i.toNat else none) else if -(n : Int) ≤ i then some (i + n).toNat else none
noncomputable def atI {α : Type} (xs : List α) (i : Int) : Option α:=(ixN xs.length i).bind fun j=>xs[j]?
theorem Jwt {n : Nat} {i : Int} {j : Nat} (h : ixN n i = some j) : seqIndex? i n = some j ∧ j < n ∧ -(n : Int) ≤ i ∧ i < n:=by
 unfold ixN at h;by_cases h0 : 0 ≤ i
 ·rw [if_pos h0] at h;by_cases h1 : i < n
  ·rw [if_pos h1] at h;have e : i.toNat = j:=Option.some.inj h;exact ⟨by rw [seqIndex_of h0 h1,e],by omega,by omega,h1⟩
  ·rw [if_neg h1] at h; cases h
 ·rw [if_neg h0] at h;by_cases h1 : -(n : Int) ≤ i
  ·rw [if_pos h1] at h;have e : (i + n).toNat = j:=Option.some.inj h;exact ⟨by rw [seqIndex_neg (by omega) h1,e],by omega,h1,by omega⟩
  ·rw [if_neg h1] at h; cases h
theorem Jrp {α : Type} {xs : List α} {i : Int} {v : α} (h : atI xs i = some v) : ∃ j,seqIndex? i xs.length = some j ∧ xs[j]? = some v ∧ j < xs.length ∧ -(xs.length : Int) ≤ i ∧ i < xs.length:=by
 unfold atI at h;cases e : ixN xs.length i with
 | none=>rw [e] at h; cases h
 | some j =>
  rw [e] at h;obtain ⟨h1,h2,h3,h4⟩:=Jwt e;exact ⟨j,h1,h,h2,h3,h4⟩
theorem Jmu {α : Type} {xs : List α} {j : Nat} {v : α} (h : xs[j]? = some v) : atI xs (j : Int) = some v:=by
 have hj : j < xs.length:=(List.getElem?_eq_some_iff.mp h).1;have e : ixN xs.length (j : Int) = some j:=by
  unfold ixN;rw [if_pos (by omega),if_pos (by omega)]; simp
 unfold atI; rw [e]; exact h
noncomputable def Ye (b : Expr) : Prop:=∀ o i,subscripted b false o i = operate [o,i] (getItem o i)
noncomputable def IxR (X : Cx) (r : R2) : Prop :=
 ∀ (value slice : Expr) (pins : List (Addr × Obj)) (s : Shared) (σ : St) (H : Hp) (x y : V) (v u : Value) (Q : VK),Inv X pins σ H s → RelV x v → RelV y u → r x y H Q →
  subscripted slice false v u = operate [v,u] (getItem v u) → wpAny (model X.prog X.w) X.A (subscriptTail value slice v u) (EP X pins σ Q) X.xe s
noncomputable def MtR (X : Cx) (id : String) (r : V → List V → Hp → VK → Prop) : Prop :=
 ∀ (pins : List (Addr × Obj)) (s : Shared) (σ : St) (H : Hp) (x : V) (xs : List V) (v : Value) (us : List Value) (Q : VK),Inv X pins σ H s → RelV x v → Vals xs us → r x xs H Q →
  wpAny (model X.prog X.w) X.A (call (.builtin id) (v :: us)) (EP X pins σ Q) X.xe s
section
variable {X : Cx} {a b : Expr} {ta tb : TE} {pos : Pos}
theorem Jke {r : R2} (hr : IxR X r) (ha : PE X a ta) (hb : PE X b tb) (hs : Ye b) : PE X (.Subscript a b pos) (tOp r ta tb):=by
 intro pins s σ H Q I h;exact Subscript_ (binT ha hb I h fun v u s2 x y H2 I2 rx ry q=>hr a b pins s2 σ H2 x y v u Q I2 rx ry q (hs _ _))
noncomputable def rIxL (K : PySem.W.Frag) : R2:=fun x y H Q=>∃ p xs i v,x = .ref p ∧ y = .int i ∧ SqL K H p xs ∧ atI xs i = some v ∧ Q v H
noncomputable def rIxT (K : PySem.W.Frag) : R2:=fun x y H Q=>∃ p xs i v,x = .ref p ∧ y = .int i ∧ SqT K H p xs ∧ atI xs i = some v ∧ Q v H
noncomputable def rIxS : R2:=fun x y H Q=>∃ z i c,x = .str z ∧ y = .int i ∧ z.length ≤ sizeLine ∧ atI z.cps.toList i = some c ∧ Q (.str ⟨#[c]⟩) H
theorem Jky : IxR X (rIxL X.K):=by
 intro value slice pins s σ H x y v u Q I rx ry h hs;obtain ⟨p,xs,i,z,rfl,rfl,hq,he,q⟩:=h;cases rx;obtain ⟨t,rfl⟩:=ry;obtain ⟨its,r,pl,hz⟩:=I.list hq;obtain ⟨j,h1,h2,h3,h4,h5⟩:=Jrp he;obtain ⟨w,ew,rw'⟩:=r.get h2;have hl:=r.length;have hn:=Jnx;have fin : EP X pins σ Q w s:=⟨z,H,I,rw', q⟩;by_cases h0 : 0 ≤ i
 ·have hj : i.toNat = j:=by
   rw [seqIndex_of h0 h5] at h1;exact Option.some.inj h1
  exact item_listR pl.isList h0 (by omega) (by rw [hj]; simpa using ew) fin hs
 ·have hj : (i + (its.toArray.size : Int)).toNat = j:=by
   rw [seqIndex_neg (by omega) h4] at h1;rw [List.size_toArray,← hl];exact Option.some.inj h1
  exact subscriptTail_builtinR (x:=w) pl.isList.typeIs slot_list_getitem.lookup
   (wpAny_getItem_list_neg (Q:=fun r s'=>r = w ∧ EP X pins σ Q r s') pl.isList (by omega) (by rw [List.size_toArray] <;> omega) (by omega) (by rw [hj]; simpa using ew) ⟨rfl,fin⟩) hs
theorem Jkj : IxR X (rIxT X.K):=by
 intro value slice pins s σ H x y v u Q I rx ry h hs;obtain ⟨p,xs,i,z,rfl,rfl,hq,he,q⟩:=h;cases rx;obtain ⟨t,rfl⟩:=ry;obtain ⟨its,r,pl,hz⟩:=I.tuple hq;obtain ⟨j,h1,h2,h3,h4,h5⟩:=Jrp he;obtain ⟨w,ew,rw'⟩:=r.get h2;have hl:=r.length;have hn:=Jnx;have fin : EP X pins σ Q w s:=⟨z,H,I,rw', q⟩;exact subscriptTail_builtinR (x:=w) pl.typeIs slot_tuple_getitem.lookup
  (getItem_tuple (j:=j) (Q:=fun r s'=>r = w ∧ EP X pins σ Q r s') pl (by omega) (by omega) (by rw [List.size_toArray,← hl]; exact h1) (by simpa using ew) ⟨rfl,fin⟩) hs
theorem Jyu : IxR X rIxS:=by
 intro value slice pins s σ H x y v u Q I rx ry h hs;obtain ⟨z,i,c,rfl,rfl,hz,he,q⟩:=h;obtain ⟨t,rfl⟩:=rx;obtain ⟨t', rfl⟩:=ry;obtain ⟨j,h1,h2,h3,h4,h5⟩:=Jrp he;have hl : z.cps.toList.length = z.length:=by simp [Str.length]
 rw [hl] at h1 h4 h5;have hn:=Jnx;exact tail_any (typeIs_str s z t) slot_str_getitem.lookup (getItem_str (c:=c) (by
  have e1 : decide (i < -(2 ^ 63 : Int)) = false:=decide_eq_false (by omega);have e2 : decide (i ≥ 2 ^ 63) = false:=decide_eq_false (by omega);rw [e1,e2,Bool.or_false]) (by rw [h1]; simpa using h2) ⟨.str ⟨#[c]⟩,H,I.tok _,⟨_,rfl⟩,q⟩) hs
theorem Jvx (its : List Value) (n j : Nat) (u : Value) : Obj.mapSeq (·.setIfInBounds j u) { cls:=.type "list",data:=.seq its.toArray n } = { cls:=.type "list",data:=.seq (its.set j u).toArray n }:=by
 simp [Obj.mapSeq]
theorem Inv.lst {pins : List (Addr × Obj)} {σ : St} {H : Hp} {s : Shared} {p : Addr} {xs : List V} (I : Inv X pins σ H s) (h : H p = some (.lst xs)) :
  ∃ (its : List Value) (n : Nat),Vals xs its ∧ s.heap.get? p = some { cls:=.type "list",data:=.seq its.toArray n } ∧ xs.length ≤ sizeLine:=by
 obtain ⟨z,its,n,r,e⟩:=I.hok p _ h;exact ⟨its,n,r,e,z⟩
theorem Inv.lstUpd {pins : List (Addr × Obj)} {σ : St} {H : Hp} {s : Shared} {p : Addr} {xs ys : List V} {its its' : List Value} {n n' : Nat} {f : Obj → Obj} (I : Inv X pins σ H s) (h : H p = some (.lst xs))
  (ho : s.heap.get? p = some { cls:=.type "list",data:=.seq its.toArray n }) (hf : f { cls:=.type "list",data:=.seq its.toArray n } = { cls:=.type "list",data:=.seq its'.toArray n' }) (r : Vals ys its') (hz : ys.length ≤ sizeLine) (t : Nat) :
  Inv X pins σ (upd H p (.lst ys)) { s with heap:=s.heap.update p f,toks:=t }:=by
 have e : (s.heap.update p f).get? p = some { cls:=.type "list",data:=.seq its'.toArray n' }:=by
  rw [Heap.get?_update_self f ho (by rw [hf] <;> rfl),hf]
 refine I.write (x:=p) (e:=p) (by rw [h]; trivial) (.inl rfl) (fun b u hb q=>(Heap.get?_update_other _ _ (Ne.symm hb)).trans q) ⟨_,e⟩ ?_;exact ⟨hz,its', n', r,e⟩
noncomputable def rSetL : V → V → V → Hp → (Hp → Prop) → Prop:=fun o i v H Q=>∃ p xs k j,o = .ref p ∧ i = .int k ∧ H p = some (.lst xs) ∧ ixN xs.length k = some j ∧ Q (upd H p (.lst (xs.set j v)))
theorem Jn6 : PSet X rSetL:=by
 intro pins s σ H o i v ov iv u Q I ro ri rv h;obtain ⟨p,xs,k,j,rfl,rfl,hp,hj,q⟩:=h;cases ro;obtain ⟨t,rfl⟩:=ri;obtain ⟨its,n,r,ho,hz⟩:=I.lst hp;obtain ⟨h1,h2,h3,h4⟩:=Jwt hj;have hl:=r.length;have hn:=Jnx;have I' : Inv X pins σ (upd H p (.lst (xs.set j v))) { s with heap:=s.heap.update p (Obj.mapSeq (·.setIfInBounds j u)) } :=
  I.lstUpd hp ho (Jvx its n j u) (r.set rv j) (by rw [List.length_set]; exact hz) s.toks
 by_cases h0 : 0 ≤ k
 ·have hk : k.toNat = j:=by
   rw [seqIndex_of h0 h4] at h1;exact Option.some.inj h1
  exact PySem.W.ki_setAt ho h0 (by omega) (by rw [List.size_toArray,← hl]; exact h4) (by rw [hk]; exact ⟨_,I', q⟩)
 ·have hk : (k + (its.toArray.size : Int)).toNat = j:=by
   rw [seqIndex_neg (by omega) h3] at h1;rw [List.size_toArray,← hl];exact Option.some.inj h1
  exact PySem.W.ki_setBack ho (by omega) (by rw [List.size_toArray,← hl]; exact h3) (by omega) (by rw [hk]; exact ⟨_,I', q⟩)
theorem Juk (lo hi : Option Int) (n : Nat) : (sliceBounds lo hi none n).1 = ((HT.sIx n 0 lo : Nat) : Int) ∧ (sliceBounds lo hi none n).2.1 = ((HT.sIx n n hi : Nat) : Int) ∧ (sliceBounds lo hi none n).2.2 = 1:=by
 refine ⟨?_,?_,rfl⟩
 ·cases lo with
  | none=>simp [sliceBounds,HT.sIx]
  | some i =>
   simp only [sliceBounds,HT.sIx,Option.getD_none,show (1 : Int) > 0 by decide,if_true];by_cases h : i < 0
   ·simp only [h,if_true] <;> omega
   ·simp only [h,if_false] <;> omega
 ·cases hi with
  | none=>simp [sliceBounds,HT.sIx]
  | some i =>
   simp only [sliceBounds,HT.sIx,Option.getD_none,show (1 : Int) > 0 by decide,if_true];by_cases h : i < 0
   ·simp only [h,if_true] <;> omega
   ·simp only [h,if_false] <;> omega
theorem Jt7 (its : List Value) (lo hi : Option Int) : slicePick its.toArray lo hi none = ((its.drop (HT.sIx its.length 0 lo)).take (HT.sIx its.length its.length hi - HT.sIx its.length 0 lo)).toArray:=by
 obtain ⟨h1,h2,h3⟩:=Juk lo hi its.toArray.size;unfold slicePick;rw [h1,h2,h3];simp only [sliceRange_one,pick_run,List.size_toArray] <;> rfl
noncomputable def rSlL (K : PySem.W.Frag) : V → Option Int → Option Int → Hp → VK → Prop:=fun x lo hi H Q=>∃ a xs,x = .ref a ∧ SqL K H a xs ∧ ∀ p,H p = none → Q (.ref p) (upd H p (.lst (Jrz xs lo hi)))
theorem Jx2 : SlR X (rSlL X.K):=by
 intro pins s σ H x v vl vu lo hi sl Q I rx hs pl pu h;obtain ⟨a,xs,rfl,hx,q⟩:=h;cases rx;obtain ⟨its,r,ht,hz⟩:=I.list hx;have hlen:=r.length;refine ⟨"list",_,slot_list_getitem.lookup,ht.isList.typeIs,?_⟩;refine wpAny_getItem_list_slice ht.isList hs pl pu .none (by simp) ?_ (by rw [List.size_toArray] <;> omega);rw [Jt7,← hlen];refine ⟨.ref s.heap.objs.size,_,I.laid (t':=s.toks) (o:=.lst (Jrz xs lo hi)) (fun b ob q=>Heap.get?_push_of_some _ q) (Nat.le_refl _) ?_,rfl,q _ (I.hok.fresh (Nat.le_refl _))⟩;exact ⟨Nat.le_trans (Jr2 xs lo hi) hz,_,0,(r.drop (HT.sIx xs.length 0 lo)).take (HT.sIx xs.length xs.length hi - HT.sIx xs.length 0 lo),Heap.get?_push_size _ rfl⟩
noncomputable def Jp5 : V → Bool
 | .non=>true
 | .bl _=>true
 | .int _=>true
 | .str _=>true
 | _=>false
noncomputable def eqV : V → V → Bool
 | .non,.non=>true
 | .bl a,.bl b=>a == b
 | .bl a,.int b=>(if a then 1 else 0) == b
 | .int a,.bl b=>a == (if b then 1 else 0)
 | .int a,.int b=>a == b
 | .str a,.str b=>a == b
 | _,_=>false
theorem eqAt_V {A : Around} {s : Shared} {y x : V} {u v : Value} (ry : RelV y u) (rx : RelV x v) (fy : Jp5 y = true) (fx : Jp5 x = true) : SeqAt.EqAt A s u v (eqV y x):=by
 cases y with
 | non =>
  cases ry;cases x with
  | non=>cases rx; exact SeqAt.EqAt.same _
  | bl b=>cases rx; exact SeqAt.EqAt.none_bool b
  | int b=>obtain ⟨t,rfl⟩:=rx; exact SeqAt.EqAt.none_int b t
  | str b=>obtain ⟨t,rfl⟩:=rx; exact SeqAt.EqAt.none_str b t
  | _=>exact absurd (show false = true from fx) Bool.false_ne_true
 | bl a =>
  cases ry;cases x with
  | non=>cases rx; exact SeqAt.EqAt.bool_none a
  | bl b=>cases rx; exact SeqAt.EqAt.bool_bool a b
  | int b=>obtain ⟨t,rfl⟩:=rx; exact SeqAt.EqAt.bool_int a b t
  | str b=>obtain ⟨t,rfl⟩:=rx; exact SeqAt.EqAt.bool_str a b t
  | _=>exact absurd (show false = true from fx) Bool.false_ne_true
 | int a =>
  obtain ⟨t', rfl⟩:=ry;cases x with
  | non=>cases rx; exact SeqAt.EqAt.int_none a t'
  | bl b=>cases rx; exact SeqAt.EqAt.int_bool a t' b
  | int b=>obtain ⟨t,rfl⟩:=rx; exact SeqAt.EqAt.int_int a t' b t
  | str b=>obtain ⟨t,rfl⟩:=rx; exact SeqAt.EqAt.int_str a t' b t
  | _=>exact absurd (show false = true from fx) Bool.false_ne_true
 | str a =>
  obtain ⟨t', rfl⟩:=ry;cases x with
  | non=>cases rx; exact SeqAt.EqAt.str_none a t'
  | bl b=>cases rx; exact SeqAt.EqAt.str_bool a t' b
  | int b=>obtain ⟨t,rfl⟩:=rx; exact SeqAt.EqAt.str_int a t' b t
  | str b=>obtain ⟨t,rfl⟩:=rx; exact SeqAt.EqAt.str_str a t' b t
  | _=>exact absurd (show false = true from fx) Bool.false_ne_true
 | _=>exact absurd (show false = true from fy) Bool.false_ne_true
noncomputable def eqU (x : V) (u : Value) : Bool:=match u with
 | .none=>eqV .non x
 | .bool b=>eqV (.bl b) x
 | .int i _=>eqV (.int i) x
 | .str z _=>eqV (.str z) x
 | _=>false
theorem Jyn {x y : V} {u : Value} (r : RelV y u) (f : Jp5 y = true) : eqU x u = eqV y x:=by
 cases y with
 | non=>cases r; rfl
 | bl b=>cases r; rfl
 | int i=>obtain ⟨t,rfl⟩:=r; rfl
 | str z=>obtain ⟨t,rfl⟩:=r; rfl
 | _=>exact absurd (show false = true from f) Bool.false_ne_true
theorem Jtq {x : V} : ∀ {xs : List V} {us : List Value},Vals xs us → xs.all Jp5 = true → us.any (eqU x) = xs.any fun y=>eqV y x
 | _,_,.nil,_=>rfl
 | y :: xs,u :: us,.cons r t,f=>by
  rw [List.all_cons,Bool.and_eq_true] at f;rw [List.any_cons,List.any_cons,Jyn r f.1,Jtq t f.2]
theorem Js4 {A : Around} {s : Shared} {x : V} {v : Value} (rx : RelV x v) (fx : Jp5 x = true) : ∀ {xs : List V} {us : List Value},Vals xs us → xs.all Jp5 = true → ∀ u ∈ us,SeqAt.EqAt A s u v (eqU x u)
 | _,_,.nil,_=>fun u hu=>by cases hu
 | y :: xs,u :: us,.cons r t,f=>fun u' hu=>by
  rw [List.all_cons,Bool.and_eq_true] at f;rcases List.mem_cons.mp hu with rfl | hu
  ·rw [Jyn r f.1]; exact eqAt_V r rx f.1 fx
  ·exact Js4 rx fx t f.2 u' hu
noncomputable def inV (x : V) (xs : List V) : Bool:=xs.any fun y=>eqV y x
noncomputable def rIn (K : PySem.W.Frag) (neg : Bool) : R2:=fun x y H Q=>∃ p xs,y = .ref p ∧ (SqL K H p xs ∨ SqT K H p xs) ∧ Jp5 x = true ∧ xs.all Jp5 = true ∧ Q (.bl (if neg then !inV x xs else inV x xs)) H
theorem Jxr : OpR X (compareOp .In) (rIn X.K false):=by
 intro pins s σ H x y v u Q I rx ry h;obtain ⟨p,xs,rfl,hq,fx,fs,q⟩:=h;cases ry;rcases hq with hq | hq
 ·obtain ⟨its,r,pl,hz⟩:=I.list hq;refine SeqAt.in_listAt (eqU x) pl.isList (fun w hw=>Js4 rx fx r fs w (by simpa using hw)) ⟨.bl _,H,I,rfl,?_⟩;rw [show its.toArray.any (eqU x) = its.any (eqU x) by simp,Jtq r fs];exact q
 ·obtain ⟨its,r,pl,hz⟩:=I.tuple hq;refine SeqAt.in_tupleAt (eqU x) pl (fun w hw=>Js4 rx fx r fs w (by simpa using hw)) ⟨.bl _,H,I,rfl,?_⟩;rw [show its.toArray.any (eqU x) = its.any (eqU x) by simp,Jtq r fs];exact q
theorem Jkm : Jmo X (.builtin "len") (fun xs H Q=>∃ p ys,xs = [.ref p] ∧ (SqL X.K H p ys ∨ SqT X.K H p ys) ∧ Q (.int ys.length) H):=by
 intro pins s σ H xs us Q I r h;obtain ⟨p,ys,rfl,hq,q⟩:=h;obtain ⟨u,rfl,rx⟩:=Jnb r;cases rx;have hn:=Jnx;rcases hq with hq | hq
 ·obtain ⟨its,r', pl,hz⟩:=I.list hq;have hlen:=r'.length;exact Calls.call_len_list pl.isList (by simp only [List.size_toArray] <;> omega) ⟨.int ys.length,H,I.tok _,⟨s.toks + 1,by rw [List.size_toArray,hlen]⟩,q⟩
 ·obtain ⟨its,r', pl,hz⟩:=I.tuple hq;have hlen:=r'.length;exact len_tuple pl (by simp only [List.size_toArray] <;> omega) ⟨.int ys.length,H,I.tok _,⟨s.toks + 1,by rw [List.size_toArray,hlen]⟩,q⟩
theorem Jtt : Jmo X (.builtin "len") (fun xs H Q=>∃ z,xs = [.str z] ∧ z.length ≤ sizeLine ∧ Q (.int z.length) H):=by
 intro pins s σ H xs us Q I r h;obtain ⟨z,rfl,hz,q⟩:=h;obtain ⟨u,rfl,t,rfl⟩:=Jnb r;have hn:=Jnx;exact len_str (by omega) ⟨.int z.length,H,I.tok _,⟨_,rfl⟩,q⟩
theorem Jlz : Jmo X (.type "list") (fun xs H Q=>∃ p ys,xs = [.ref p] ∧ (SqL X.K H p ys ∨ SqT X.K H p ys) ∧ ∀ l,H l = none → Q (.ref l) (upd H l (.lst ys))):=by
 intro pins s σ H xs us Q I r h;obtain ⟨p,ys,rfl,hq,q⟩:=h;obtain ⟨u,rfl,rx⟩:=Jnb r;cases rx;have fin : ∀ (its : List Value),Vals ys its → ys.length ≤ sizeLine → ∀ (h' : Heap) (c' : Nat),(∀ b o', s.heap.get? b = some o' → h'.get? b = some o') →
   h'.get? s.heap.objs.size = some { cls:=.type "list",dict:=none,data:=.seq its.toArray c', slots:=#[] } → EP X pins σ Q (.ref s.heap.objs.size) { s with heap:=h' }:=fun its r' hz h' c' kp e =>
  ⟨.ref s.heap.objs.size,_,I.laid (t':=s.toks) kp (Nat.le_refl _) (show ObjOk X.prog X.w _ h' _ (.lst ys) from ⟨hz,its,c', r', e⟩),rfl,q _ (I.hok.fresh (Nat.le_refl _))⟩
 rcases hq with hq | hq
 ·obtain ⟨its,r', pl,hz⟩:=I.list hq;have hlen:=r'.length;obtain ⟨o,ho,hc,n,hd⟩:=pl.isList;exact call_list_seq p (.inl rfl) ho hc hd (fun h' c' kp e=>fin its r' hz h' c' kp e) (by simp only [List.size_toArray] <;> omega)
 ·obtain ⟨its,r', pl,hz⟩:=I.tuple hq;have hlen:=r'.length;obtain ⟨o,ho,hc,n,hd⟩:=pl;exact call_list_seq p (.inr rfl) ho hc hd (fun h' c' kp e=>fin its r' hz h' c' kp e) (by simp only [List.size_toArray] <;> omega)
theorem Jkw : Jmo X (.type "tuple") (fun xs H Q=>∃ p ys,xs = [.ref p] ∧ ((SqL X.K H p ys ∧ ∀ l,H l = none → Q (.ref l) (upd H l (.tup ys))) ∨ (SqT X.K H p ys ∧ Q (.ref p) H))):=by
 intro pins s σ H xs us Q I r h;obtain ⟨p,ys,rfl,h⟩:=h;obtain ⟨u,rfl,rx⟩:=Jnb r;cases rx;rcases h with ⟨hq,q⟩ | ⟨hq,q⟩
 ·obtain ⟨its,r', pl,hz⟩:=I.list hq;have hlen:=r'.length;refine call_tuple_list pl.isList (fun h' kp=>?_) (by simp only [List.size_toArray] <;> omega);have I1 : Inv X pins σ H { s with heap:=h' }:=I.kept (t':=s.toks) kp;have I2 : Inv X pins σ (upd H h'.objs.size (.tup ys)) { s with heap:=h'.push { cls:=.type "tuple",data:=.seq its.toArray } } :=
   I1.laid (t':=s.toks) (fun b o e=>Heap.get?_push_of_some _ e) (Nat.le_refl _) (show ObjOk X.prog X.w _ _ _ (.tup ys) from ⟨hz,its,r', IsTup.new _ _⟩)
  exact ⟨.ref h'.objs.size,_,I2,rfl,q _ (I1.hok.fresh (Nat.le_refl _))⟩
 ·obtain ⟨its,r', pl,hz⟩:=I.tuple hq;exact call_tuple_same pl ⟨.ref p,H,I,rfl,q⟩
noncomputable def tyV (K : PySem.W.Frag) (T : String) (x : V) (H : Hp) : Prop:=match x with
 | .str _=>T = "str"
 | .int _=>T = "int"
 | .ref p=>(T = "list" ∧ ∃ xs,SqL K H p xs) ∨ (T = "tuple" ∧ ∃ o,K.lookup p = some o ∧ o.cls = .type "tuple" ∧ o.dict = none) ∨
   (T = "dict" ∧ ((∃ kvs,H p = some (.dK kvs)) ∨ ∃ kvs,H p = some (.dT kvs))) ∨ (T = "set" ∧ ∃ S n,H p = some (.set S n))
 | _=>False
theorem tyV_is {pins : List (Addr × Obj)} {σ : St} {H : Hp} {s : Shared} {T : String} {x : V} {v : Value} (I : Inv X pins σ H s) (r : RelV x v) (ty : tyV X.K T x H) :
  s.TypeIs v T ∧ ∀ a,v = .ref a → ∃ ob,s.heap.get? a = some ob ∧ ob.dict = none:=by
 cases x with
 | str z =>
  obtain ⟨t,rfl⟩:=r;cases (show T = "str" from ty);exact ⟨typeIs_str s z t,fun _ e=>nomatch e⟩
 | int i =>
  obtain ⟨t,rfl⟩:=r;cases (show T = "int" from ty);exact ⟨typeIs_int s i t,fun _ e=>nomatch e⟩
 | ref p =>
  cases r;rcases ty with ⟨rfl,xs,hq⟩ | ⟨rfl,o,hk,hc,hd⟩ | ⟨rfl,hk⟩ | ⟨rfl,S,n,hk⟩
  ·obtain ⟨its,_,pl,_⟩:=I.list hq;refine ⟨pl.isList.typeIs,fun a e=>?_⟩;cases e;obtain ⟨o,n,e,c,hd,_⟩:=pl;exact ⟨o,e,hd⟩
  ·refine ⟨⟨o,I.kIn p o hk,hc⟩,fun a e=>?_⟩;cases e;exact ⟨o,I.kIn _ o hk,hd⟩
  ·have z : ∃ o,s.heap.get? p = some o ∧ o.ExactDict:=by
    rcases hk with ⟨kvs,hk⟩ | ⟨kvs,hk⟩
    ·obtain ⟨_,_,_,_,o,_,_,e,ex,_⟩:=I.hok p _ hk;exact ⟨o,e,ex⟩
    ·obtain ⟨_,_,_,_,o,_,_,e,ex,_⟩:=I.hok p _ hk;exact ⟨o,e,ex⟩
   obtain ⟨o,e,ex⟩:=z;refine ⟨⟨o,e,ex.1⟩,fun a e2=>?_⟩;cases e2;exact ⟨o,e,ex.2.1⟩
  ·obtain ⟨o,_,_,_,e,ex,_⟩:=I.hok p _ hk;refine ⟨⟨o,e,ex.1⟩,fun a e2=>?_⟩;cases e2;exact ⟨o,e,ex.2.1⟩
 | _=>exact False.elim ty
noncomputable def tBM (K : PySem.W.Frag) (T : String) (r : V → List V → Hp → VK → Prop) (to : TE) (t : TA) : TE:=fun σ H Q=>to σ H fun x H1=>tyV K T x H1 ∧ t σ H1 fun xs H2=>r x xs H2 Q
variable {o e : Expr} {es : List Expr} {to : TE} {t : TA} {name : Str} {apos cpos : Pos} {T id : String} {r : V → List V → Hp → VK → Prop}
theorem Jse (pa : PlainAttrs T) (slot : Slot T name id) (hty : typeOf (.builtin id) = pure (.type "method_descriptor")) (hm : MtR X id r) (ho : PE X o to) (ha : PA X (e :: es) t)
  (hbase : attributeBase o name X.env (eval o X.env) = eval o X.env:=by rfl)
  (hfew : ((backTo cpos (starEach (e :: es) X.env)).all (fun x=>!x.1) && (backToKw cpos (keywordEach [] X.env)).all (fun x=>x.1.isSome)
   && decide ((e :: es).length + ([] : List Keyword).length + (if ([] : List Keyword).isEmpty then 0 else 1) < 30)) = true:=by rfl)
  (hline : (apos.endLine == cpos.line) = true:=by rfl) (hs : starEach (e :: es) X.env = (false,eval e X.env) :: starEach es X.env:=by rfl) (hplain : (backTo cpos (starEach es X.env)).any (·.1) = false:=by rfl) :
  PE X (.Call (.Attribute o name apos) (e :: es) [] cpos) (tBM X.K T r to t):=by
 intro pins s σ H Q I h;refine wpAny_Call_method_late hbase hfew hline rfl (thn (ho pins s σ H _ I h) fun v s1 ⟨x,H1,I1,r1,ty,q1⟩=>?_);obtain ⟨h1,h2⟩:=tyV_is I1 r1 ty;refine ⟨T,id,pa,slot,hty,h1,h2,?_⟩;have hA:=ha cpos pins s1 σ H1 _ I1 q1;rw [hs] at hA ⊢;refine Calls.callWith_builtin (by show (false || (backTo cpos (starEach es X.env)).any (·.1)) = false; rw [hplain] <;> rfl) (Calls.evalArgs_plain ?_);exact thn hA fun us s2 ⟨vs,H2,I2,r2,q2⟩=>hm pins s2 σ H2 x vs v us Q I2 r1 r2 q2
end
end L2
namespace L2
open PySem PySem.Spec PyProof.Rows
noncomputable def MtM (X : Cx) (id : String) (r : V → List V → Hp → VK → Prop) : Prop :=
 ∀ (pins : List (Addr × Obj)) (s : Shared) (σ : St) (H : Hp) (x : V) (xs : List V) (v : Value) (us : List Value) (Q : VK),Inv X pins σ H s → RelV x v → Vals xs us → r x xs H Q →
  wpAny (model X.prog X.w) X.A (call (.builtin id) (v :: us)) (EP X pins σ Q) X.xe s
theorem Vals.one : ∀ {x : V} {us : List Value},Vals [x] us → ∃ u,us = [u] ∧ RelV x u
 | _,_,.cons r .nil=>⟨_,rfl,r⟩
section
variable {X : Cx} {pins : List (Addr × Obj)} {σ : St} {H : Hp} {s : Shared} {l b : Addr} {xs ys zs : List V}
theorem Inv.lset {its its' : List Value} {n : Nat} {f : Array Value → Array Value} {t' : Nat} (I : Inv X pins σ H s) (hH : H l = some (.lst xs))
  (e : s.heap.get? l = some { cls:=.type "list",data:=.seq its.toArray n }) (hf : f its.toArray = its'.toArray) (hv : Vals ys its') (hz : ys.length ≤ sizeLine) :
  Inv X pins σ (upd H l (.lst ys)) { s with heap:=s.heap.update l (Obj.mapSeq f),toks:=t' }:=by
 have q:=PySem.IsL.update e f;rw [hf] at q;refine I.write (x:=l) (e:=l) (by rw [hH]; exact trivial) (.inl rfl) (fun b' u hb hu=>(Heap.get?_update_other s.heap (Obj.mapSeq f) (Ne.symm hb)).trans hu) ⟨_,q⟩ ?_;exact ⟨hz,its', _,hv,q⟩
theorem Inv.lstM (I : Inv X pins σ H s) (hH : H l = some (.lst xs)) : xs.length ≤ sizeLine ∧ ∃ (its : List Value) (n : Nat),Vals xs its ∧ xs.length = its.length ∧ s.heap.get? l = some { cls:=.type "list",data:=.seq its.toArray n }:=by
 obtain ⟨z,its,n,r,e⟩:=I.hok l _ hH;exact ⟨z,its,n,r,r.length,e⟩
end
section
variable {X : Cx}
noncomputable def Ya2 : V → List V → Hp → VK → Prop:=fun x vs H Q=>∃ l xs y,x = .ref l ∧ vs = [y] ∧ H l = some (.lst xs) ∧ xs.length < sizeLine ∧ Q .non (upd H l (.lst (xs ++ [y])))
theorem Jno : MtM X "list.append" Ya2:=by
 intro pins s σ H x vs v us Q I rx rv h;obtain ⟨l,xs,y,rfl,rfl,hH,hz,q⟩:=h;cases rx;obtain ⟨u,rfl,ru⟩:=rv.one;obtain ⟨z,its,n,r,hl,e⟩:=I.lstM hH;refine call_meets F.slot_list_append ⟨_,e,rfl⟩ F.entry_list_append (F.args_list_append_2 _ _) (PySem.list_append l its.toArray n u (by rw [List.size_toArray]; omega)) ⟨e,?_⟩;refine ⟨.non,_,I.lset (its':=its ++ [u]) hH e (by simp) (r.append (.cons ru .nil)) ?_,rfl,q⟩;rw [List.length_append,List.length_singleton];omega
end
section
variable {prog : Program} {w : World} {A : Around} {E : Value → Shared → Prop} {s : Shared}
end
section
variable {X : Cx}
end
end L2
namespace L2
open PySem PySem.Spec PyProof.Rows
section
variable {κ : Type} [DecidableEq κ]
end
section
variable {P : Program} {w : World} {H : Hp} {h : Heap} {a : Addr}
end
section
variable {X : Cx} {pins : List (Addr × Obj)} {σ : St} {H : Hp} {s : Shared} {a : Addr} {y v : V} {u r : Value} {o : Option V} {A : Around} {E : Value → Shared → Prop}
end
section
variable {X : Cx} {pins : List (Addr × Obj)} {σ : St} {H : Hp} {s : Shared} {a : Addr} {kvs : List (Key × V)} {k : Key} {u : Value} {A : Around} {E : Value → Shared → Prop}
end
section
variable {X : Cx} {o i e value : Expr} {pos pos' tpos : Pos} {td ty tv : TE}
end
section
variable {X : Cx} {pos : Pos}
end
structure M1 (X : Cx) (o : Expr) (m : Str) (apos : Pos) (e : Expr) (cpos : Pos) : Prop where
 base : attributeBase o m X.env (eval o X.env) = eval o X.env
 few : ((backTo cpos (starEach [e] X.env)).all (fun x=>!x.1) && (backToKw cpos (keywordEach [] X.env)).all (fun x=>x.1.isSome)
  && decide (([e] : List Expr).length + ([] : List Keyword).length + (if ([] : List Keyword).isEmpty then 0 else 1) < 30)) = true
 line : (apos.endLine == cpos.line) = true
 trees : backTo cpos (starEach [e] X.env) = [(false,eval e X.env)]
structure M2 (X : Cx) (o : Expr) (m : Str) (apos : Pos) (e f : Expr) (cpos : Pos) : Prop where
 base : attributeBase o m X.env (eval o X.env) = eval o X.env
 few : ((backTo cpos (starEach [e,f] X.env)).all (fun x=>!x.1) && (backToKw cpos (keywordEach [] X.env)).all (fun x=>x.1.isSome)
  && decide (([e,f] : List Expr).length + ([] : List Keyword).length + (if ([] : List Keyword).isEmpty then 0 else 1) < 30)) = true
 line : (apos.endLine == cpos.line) = true
 trees : backTo cpos (starEach [e,f] X.env) = [(false,eval e X.env),(false,eval f X.env)]
section
variable {X : Cx} {pins : List (Addr × Obj)} {σ : St} {H : Hp} {s : Shared} {a : Addr} {y d : V} {u r : Value} {o : Option V} {A : Around} {E : Value → Shared → Prop}
end
section
variable {X : Cx} {o e f : Expr} {apos cpos : Pos} {td ty tx : TE}
end
section
variable {X : Cx} {pins : List (Addr × Obj)} {σ : St} {H : Hp} {s : Shared} {a : Addr} {kvs : List (Key × V)} {A : Around} {E : Value → Shared → Prop}
end
section
variable {X : Cx} {pins : List (Addr × Obj)} {σ : St} {H : Hp} {s : Shared} {a : Addr} {y : V} {u : Value} {A : Around} {E : Value → Shared → Prop}
end
end L2
namespace Att
open PySem PySem.W PySem.Calls PyProof.Rows
theorem Jrg {P : Params} {h : Heap} : ∀ (ns : List Int) (vs : List Value),WellAll P h vs (ns.map WData.int) → IntsAre vs ns:=by
 intro ns
 induction ns with
 | nil =>
  intro vs w;rw [List.map_nil] at w;cases w;exact .nil
 | cons n ns ih =>
  intro vs w;rw [List.map_cons] at w;cases w with
  | cons a b =>
   cases a;exact .cons _ _ (ih _ b)
theorem Jxy {l : OpenLaw} {n : Nat} (hn : l.most = some n) {P : Params} {h : Heap} {args : List WData} {vals : List Value}
  (hpre : l.row.toRowW.claim.pre args = true) (hwl : WellAll P h vals args) :
  ∃ a vs ns,vals = [Value.ref a] ∧ args = [WData.list (ns.map WData.int)] ∧ h.get? a = some { cls:=.type "list",data:=.seq vs.toArray } ∧ IntsAre vs ns ∧ ns.length ≤ n:=by
 have hsh : WShape.hasAll [] args [.list .int] = true:=(pre_splitW hpre).1;have hc : l.pre.holds [] { args:=args } = true:=(pre_splitW hpre).2;obtain ⟨d,r,rfl,h1,h2⟩:=hasAllW_cons hsh;obtain rfl:=hasAllW_nil h2;obtain ⟨xs,rfl,h3⟩:=hasW_list h1;obtain ⟨ns,rfl⟩:=items_int h3;have hlen : ns.length ≤ n:=by
  unfold OpenLaw.pre at hc;have h4 : (WTm.not (.lt (.lit (.int (n : Int))) (.len (.arg 0)))).holds [] { args:=[.list (ns.map .int)] } = true:=by
   have h4:=(holds_andW hc).1;rw [hn] at h4;exact h4
  have h5:=condW_of h4 (w_not (w_lt w_lit (w_len_list (w_arg rfl))));rw [List.length_map] at h5;refine Nat.le_of_not_lt fun q=>?_;have q' : (n : Int) < ((ns.length : Nat) : Int):=by omega
  first
   | (rw [decide_eq_true q'] at h5; exact absurd h5 (by decide))
   | (simp at h5; omega)
 cases hwl with
 | cons w1 w2 =>
  cases w2;cases w1 with
  | list ho hall=>exact ⟨_,_,ns,rfl,rfl,ho,Jrg ns _ hall,hlen⟩
theorem Jxv (l : OpenLaw) (args : List WData) : l.row.toRowW.claim.post args (.bool true) args = true :=
 postW_of (r:=l.row.toRowW) (X:=(true == true))
  (show WShape.has [] (.bool true) .bool = true by first | rfl | decide | simp [WShape.has,WShape.arms,WShape.armsAll])
  (show (WTm.eq .res (.lit (.bool true))).value [] { args:=args,res:=some (.bool true),after:=args } = some (.bool (true == true)) from w_eq_bool (w_res rfl) w_lit) rfl
theorem attach_call {l : OpenLaw} {n : Nat} {q : Program} {loose : List Str} {XP : (Str → Option Value) → Heap → Prop} {YP : World → Heap → Prop} {d : DefRec}
  (hn : l.most = some n) (hdf : d.params.defaults = [])
  (call : ∀ (w : World) (s₀ s₁ : Shared) (mg mb : Str → Option Value) (fa : Addr) (o : Obj) (pm cd doc : Value) (a : Addr) (vs : List Value) (ns : List Int),
   Ground q loose [] XP w s₀ mg mb s₁.heap → YP w s₁.heap →
   s₁.heap.get? fa = some o → o.data = .func (docDef d.name d.params d.body d.scope pm cd doc) → s₁.heap.CodeRec cd d.name → mg d.name = some (.ref fa) →
   s₁.heap.get? a = some { cls:=.type "list",data:=.seq vs.toArray } → IntsAre vs ns → ns.length ≤ n → s₁.gens = #[] →
   codeAny (model l.prog w) callerA (.call (.ref fa) ⟨[.ref a],[]⟩) (fun r s'=>r = .ok (.ret (.bool true)) ∧ OldK s₁.heap s'.heap ∧ s'.os = s₁.os ∧ AllBare s'.gens) s₁) :
  WalkO q loose XP YP l.row.toRowW d [] (fun f vs=>PySem.call f vs):=by
 intro w s₀ s₁ mg mb G Y fa o pm cd doc dV kV ho hd hcd hD hmg hg args vals as hpre hlay hrd hwl hlo;obtain rfl : dV = .none:=Dflts.none hD hdf;obtain rfl : kV = .none:=Dflts.noKw hD;obtain ⟨a,vs,ns,rfl,rfl,hobj,hints,hlen⟩:=Jxy hn hpre hwl;refine enter_call (codeAny_mono (call w s₀ s₁ mg mb fa o pm cd doc a vs ns G Y ho (fd_plain hd) hcd hmg hobj hints hlen hg) fun r s' hq=>?_);obtain ⟨rfl,h2,h3,h4⟩:=hq;exact ⟨.inl ⟨.bool true,.bool true,[],rfl,fun _=>rfl,.bool true,Jxv l _,fun _=>⟨List.Pairwise.nil,fun _ hm=>(nomatch hm)⟩⟩,h2,h3,h4⟩
section
variable {prog : Program} {w : World} {A : Around} {E : Value → Shared → Prop} {s : Shared} {K : Frag}
end
end Att
namespace L2
open PySem PySem.Spec PyProof.Rows
theorem Jtp : ∀ {vs : List Value} {ns : List Int},IntsAre vs ns → Vals (ns.map V.int) vs
 | _,_,.nil=>.nil
 | _,_,.cons n t h=>.cons ⟨t,rfl⟩ (Jtp h)
noncomputable def Only (H : Hp) : Prop:=∀ b,H b = none ∨ ∃ o xs,H b = some (.frz o (.lst xs))
theorem Jyw {P : Program} {w : World} {K : PySem.W.Frag} {mg mb : Str → Option Value} {CX : CXT} {k : Nat} {fa a : Addr} {fd : FuncData} {x : Str} {sp : Sp} {s₁ : Shared} {vs : List Value} {ns : List Int}
  (KX : K.In s₁.heap) (hns : s₁.heap.Ns mainGlobals mg) (hb : s₁.heap.Ns builtinsNs mb) (hbb : ∀ x : Str,x ≠ "__name__" → mb x = bootBuiltins x) (hlim : s₁.heap.NoLimit) (hg : s₁.gens = #[])
  (ha : s₁.heap.get? a = some { cls:=.type "list",data:=.seq vs.toArray }) (hi : IntsAre vs ns) (hl : ns.length ≤ sizeLine) (hr : Room k callerA)
  (F : ∀ base : Heap,K.In base → base.Ns mainGlobals mg → FnOk P w K mg base CX k fa fd [x] sp) (hbind : ∀ (s : Shared) (u : Value),BindsTo s fd ⟨[u],[]⟩ [(x,u)])
  (hsp : ∀ H : Hp,Only H → SqL K H a (ns.map V.int) → sp [.ref a] H (fun v _=>v = .bl true) fun _ _ _=>False)
  (hCX : ∀ H e s', CX [] H s₁ (fun _ _ _=>False) e s' → False) :
  codeAny (model P w) callerA (.call (.ref fa) ⟨[.ref a],[]⟩) (fun r s'=>r = .ok (.ret (.bool true)) ∧ OldK s₁.heap s'.heap ∧ s'.os = s₁.os ∧ AllBare s'.gens) s₁:=by
 have rv:=Jtp hi;have lenV:=hi.length;have core : ∀ H : Hp,Only H → SqL K H a (ns.map V.int) → HOk P w H s₁.heap → (∀ b,H b ≠ none → b = a) → (H a ≠ none → K.lookup a = none) →
   codeAny (model P w) callerA (.call (.ref fa) ⟨[.ref a],[]⟩) (fun r s'=>r = .ok (.ret (.bool true)) ∧ OldK s₁.heap s'.heap ∧ s'.os = s₁.os ∧ AllBare s'.gens) s₁:=by
  intro H hO hS hok hA hK;have base_of : ∀ {b : Addr} {o : Obj},s₁.heap.get? b = some o → H b = none → (Jtw s₁.heap H).get? b = some o:=fun e n=>Jyr e n;have noA : ∀ {b : Addr} {o : Obj} {es : Array DictEntry} {ep : Nat},s₁.heap.get? b = some o → o.data = .dict es ep → H b = none:=fun {b o es ep} e d=>by
   cases q : H b with
   | none=>rfl
   | some u =>
    have e' : b = a:=hA b (by rw [q]; simp);subst e';rw [ha] at e; cases e;have d' : Data.seq vs.toArray _ = Data.dict es ep:=d;cases d'
  have nsK : ∀ {b : Addr} {m : Str → Option Value},s₁.heap.Ns b m → (Jtw s₁.heap H).Ns b m:=fun {b m} ⟨o,es,ep,e,d,r⟩=>⟨o,es,ep,base_of e (noA e d),d,r⟩;have hKb : K.In (Jtw s₁.heap H):=fun b o e=>base_of (KX b o e) (by
   cases q : H b with
   | none=>rfl
   | some u =>
    have e' : b = a:=hA b (by rw [q]; simp);subst e';rw [hK (by rw [q]; simp)] at e; cases e)
  have hM : Mod K mg (Jtw s₁.heap H):=⟨hKb,nsK hns,⟨mb,nsK hb,hbb⟩,let ⟨mc,h1,h2⟩:=hlim; ⟨mc,nsK h1,h2⟩⟩;have e0 : Env0 P w K mg (Jtw s₁.heap H) callerA [] s₁ H:=⟨rfl,hM,fun b o e=>Yt e,Nat.le_of_eq (Jxk _ _),trivial,fun b hb=>absurd (show b ∈ ([] : List Addr) from hb) (by simp),hok,.of_eq hg⟩;refine codeAny_mono ((F _ hKb (nsK hns)).run callerA [] s₁ H ⟨[.ref a],[]⟩ [.ref a] [.ref a] _ _ hr e0 (hbind s₁ (.ref a)) (.cons rfl .nil) (hsp H hO hS)) fun r s' h=>?_;cases r with
  | error e=>exact (hCX H e s' h).elim
  | ok fl =>
   cases fl with
   | next=>exact False.elim h
   | brk=>exact False.elim h
   | cont=>exact False.elim h
   | ret u =>
    obtain ⟨v,H', os,bare,un,hok', r', q⟩:=h;have q' : v = .bl true:=q;subst q';obtain rfl : u = Value.bool true:=r';refine ⟨rfl,OldK.of_keep fun b o e=>?_,os,bare⟩;cases q : H b with
    | none=>exact un.keep b o e q (by intro z; exact absurd (show b ∈ ([] : List Addr) from z) (by simp)) (by simp)
    | some u =>
     rcases hO b with z | ⟨ob,xs,z⟩
     ·rw [q] at z; cases z
     ·have z2:=un.frzs b ob _ z;obtain ⟨e1,_⟩:=hok b _ z;obtain ⟨e2,_⟩:=hok' b _ z2;rw [e] at e1; cases e1;exact e2
 cases hk : K.lookup a with
 | some o =>
  have e:=KX a o hk;rw [ha] at e;cases e;refine core (fun _=>none) (fun _=>.inl rfl) (.inr ⟨_,vs.toArray,_,hk,rfl,rfl,rfl,by rw [List.size_toArray,lenV]; exact hl,by simpa using rv⟩) (fun b u z=>by have z' : (none : Option HO) = some u:=z; cases z') (fun b z=>absurd rfl z) fun z=>absurd rfl z
 | none =>
  refine core (fun b=>if b = a then some (.frz { cls:=.type "list",data:=.seq vs.toArray } (.lst (ns.map V.int))) else none) (fun b=>?_) (.inl (.inr ⟨{ cls:=.type "list",data:=.seq vs.toArray },if_pos rfl⟩)) (fun b u z=>?_) (fun b z=>?_) fun _=>hk
  ·by_cases hb : b = a
   ·exact .inr ⟨_,_,if_pos hb⟩
   ·exact .inl (if_neg hb)
  ·by_cases hb : b = a
   ·have z':=(if_pos hb).symm.trans z;cases z';subst hb;exact ⟨ha,by rw [List.length_map]; exact hl,vs,_,rv,ha⟩
   ·have z':=(if_neg hb).symm.trans z;cases z'
  ·by_cases hb : b = a
   ·exact hb
   ·exact absurd (if_neg hb) z
end L2
namespace L2
open PySem PySem.Spec PyProof.Rows
noncomputable abbrev KOf {K : PySem.W.Frag} {h : Heap} (_ : K.In h) : PySem.W.Frag:=K
theorem Yar {l : PySem.W.OpenLaw} {n k : Nat} {q : Program} {loose : List Str} {XP : (Str → Option Value) → Heap → Prop} {YP : World → Heap → Prop} {d : DefRec} {K : Params → PySem.W.Frag} {CX : World → CXT} {sp : World → Sp} {x : Str}
  (hn : l.most = some n) (hn2 : n ≤ sizeLine) (hdf : d.params.defaults = []) (hr : Room k callerA)
  (hY : ∀ (w : World) (h : Heap),YP w h → (K w.params).In h)
  (F : ∀ (w : World) (mg : Str → Option Value) (fa : Addr) (h : Heap),(K w.params).In h → h.Ns mainGlobals mg → mg d.name = some (.ref fa) →
   ∃ fd : FuncData,(∀ (s : Shared) (u : Value),BindsTo s fd ⟨[u],[]⟩ [(x,u)]) ∧
    ∀ base : Heap,(K w.params).In base → base.Ns mainGlobals mg → FnOk l.prog w (K w.params) mg base (CX w) k fa fd [x] (sp w))
  (hsp : ∀ (w : World) (H : Hp) (a : Addr) (ns : List Int),ns.length ≤ n → Only H → SqL (K w.params) H a (ns.map V.int) → sp w [.ref a] H (fun v _=>v = .bl true) fun _ _ _=>False)
  (hCX : ∀ (w : World) (H : Hp) (s : Shared) (e : Value) (s' : Shared),CX w [] H s (fun _ _ _=>False) e s' → False) :
  PySem.W.WalkO q loose XP YP l.row.toRowW d [] (fun f vs=>PySem.call f vs):=by
 refine Att.attach_call hn hdf fun w s₀ s₁ mg mb fa o pm cd doc a vs ns G Y ho hd hcd hmg hobj hints hlen hg=>?_;have KX:=hY w _ Y;obtain ⟨fd,hb,hF⟩:=F w mg fa _ KX G.T.g hmg;exact Jyw KX G.T.g G.T.b G.T.builtins G.T.nolimit hg hobj hints (Nat.le_trans hlen hn2) hr hF hb (fun H hO hS=>hsp w H a ns hlen hO hS) fun H e s'=>hCX w H s₁ e s'
theorem walk_ofK {l : PySem.W.OpenLaw} {n k : Nat} {q : Program} {loose : List Str} {XP : (Str → Option Value) → Heap → Prop} {YP : World → Heap → Prop} {d : DefRec} {K : Params → PySem.W.Frag} {CX : CXT} {sp : PySem.W.Frag → Sp} {x : Str}
  (hn : l.most = some n) (hn2 : n ≤ sizeLine) (hdf : d.params.defaults = []) (hr : Room k callerA)
  (hY : ∀ (w : World) (h : Heap),YP w h → (K w.params).In h)
  (F : ∀ (w : World) (mg : Str → Option Value) (fa : Addr) (h : Heap),(K w.params).In h → h.Ns mainGlobals mg → mg d.name = some (.ref fa) →
   ∃ fd : FuncData,(∀ (s : Shared) (u : Value),BindsTo s fd ⟨[u],[]⟩ [(x,u)]) ∧
    ∀ base : Heap,(K w.params).In base → base.Ns mainGlobals mg → FnOk l.prog w (K w.params) mg base CX k fa fd [x] (sp (K w.params)))
  (hsp : ∀ (K : PySem.W.Frag) (H : Hp) (a : Addr) (ns : List Int),ns.length ≤ n → Only H → SqL K H a (ns.map V.int) → sp K [.ref a] H (fun v _=>v = .bl true) fun _ _ _=>False)
  (hCX : ∀ (H : Hp) (s : Shared) (e : Value) (s' : Shared),CX [] H s (fun _ _ _=>False) e s' → False) :
  PySem.W.WalkO q loose XP YP l.row.toRowW d [] (fun f vs=>PySem.call f vs) :=
 Yar (K:=K) (CX:=fun _=>CX) (sp:=fun w=>sp (K w.params)) hn hn2 hdf hr hY F (fun w H a ns h1 h2 h3=>hsp (K w.params) H a ns h1 h2 h3) fun _ H s e s'=>hCX H s e s'
end L2
namespace L2
open PySem PySem.Spec PyProof.Rows
noncomputable def Jk9 (s : Stmt) (j : Nat) : Stmt:=match s with
 | .ClassDef _ _ _ body _ _ _ _ _ _ _=>body.getD j (.Pass ⟨0,0,0,0⟩)
 | _=>.Pass ⟨0,0,0,0⟩
noncomputable def Jmi (s : Stmt) : Arguments:=match s with
 | .FunctionDef _ a _ _ _ _ _ _ _ _=>a
 | _=>{ posonlyargs:=[],args:=[],vararg:=none,kwonlyargs:=[],kw_defaults:=[],kwarg:=none,defaults:=[] }
noncomputable def Jm7 (s : Stmt) : List Stmt:=match s with
 | .FunctionDef _ _ b _ _ _ _ _ _ _=>b
 | _=>[]
noncomputable def Jk6 (s : Stmt) : Scope:=match s with
 | .FunctionDef _ _ _ _ _ _ sc _ _ _=>sc
 | _=>{ kind:=.function,names:=[],isGenerator:=false,isCoroutine:=false }
noncomputable abbrev CX0 : CXT:=fun _ _ _ _ _ _=>False
noncomputable abbrev E0 : XK:=fun _ _ _=>False
theorem Jnq {X : Cx} : Jqf CX0 X E0:=fun _ _ _ _ _ _ _ h=>h.elim
structure Fun (K : PySem.W.Frag) (x qual : Str) (st : Stmt) (f : Addr) (fd : FuncData) : Prop where
 ex : ∃ (oc : Value) (od : Option Addr) (kV doc pm : Value) (an : Option Addr) (cdv ct : Value) (osl : Array (Option Value)),
  fd = PySem.W.fnOf x qual (Jmi st) (Jm7 st) (Jk6 st) .none kV doc pm an cdv ct ∧ K.lookup f = some ⟨oc,od,.func fd,osl⟩ ∧ PySem.W.codeIn K cdv qual = true
 kp : PySem.W.keepIn K (.ref f) = true
section
variable {P : Program} {w : World} {K : PySem.W.Frag} {mg : Str → Option Value} {base : Heap}
theorem Fun.ok {x qual : Str} {st : Stmt} {f : Addr} {fd : FuncData} {N ps : List Str} {k : Nat} {sp : Sp} (F : Fun K x qual st f fd) (S : Jkb N ps (Jk6 st)) (len : ∀ vs H Q E,sp vs H Q E → vs.length = ps.length)
  (hbody : ∀ (cdv : Value) (A : Around) (outer : List Env) (s : Shared) (H : Hp) (vs : List V) (Q : VK) (E : XK),Room k (A.deeper (envOfC qual (Jk6 st) s.heap.objs.size f cdv)) → sp vs H Q E →
   ∃ t,PSs (Jux CX0 P w K mg base N qual (Jk6 st) f cdv A outer s H E).nox (Jm7 st) t ∧ t { nx:=fun _ H'=>Q .non H', rt:=Q } (start N vs) H) : FnOk P w K mg base CX0 (k + 1) f fd ps sp:=by
 obtain ⟨oc,od,kV,doc,pm,an,cdv,ct,osl,rfl,lk,hcd⟩:=F.ex;refine fn_of lk hcd S len fun A outer s H vs Q E hr hsp=>?_;obtain ⟨t,h,q⟩:=hbody cdv A outer s H vs Q E hr hsp;exact ⟨t,h.nox,q⟩
theorem Fun.binds {x qual : Str} {st : Stmt} {f : Addr} {fd : FuncData} {ps : List Str} (F : Fun K x qual st f fd)
  (h : ∀ (kV doc pm : Value) (an : Option Addr) (cdv ct : Value) (us : List Value),us.length = ps.length → bindArgs (PySem.W.fnOf x qual (Jmi st) (Jm7 st) (Jk6 st) .none kV doc pm an cdv ct) ⟨us,[]⟩ = pure (ps.zip us)) : Binds K fd ps []:=by
 obtain ⟨oc,od,kV,doc,pm,an,cdv,ct,osl,rfl,lk,hcd⟩:=F.ex;exact .all (h kV doc pm an cdv ct)
theorem Jtv {x qual : Str} {st : Stmt} {f : Addr} {oc : Value} {od an : Option Addr} {osl : Array (Option Value)} {kV doc pm cdv ct : Value} (l : K.lookup f = some ⟨oc,od,.func (PySem.W.fnOf x qual (Jmi st) (Jm7 st) (Jk6 st) .none kV doc pm an cdv ct),osl⟩)
  (c : PySem.W.codeIn K cdv qual = true) (k : PySem.W.keepIn K (.ref f) = true) : Fun K x qual st f (PySem.W.fnOf x qual (Jmi st) (Jm7 st) (Jk6 st) .none kV doc pm an cdv ct):=⟨⟨oc,od,kV,doc,pm,an,cdv,ct,osl,rfl,l,c⟩,k⟩
end
section
variable {X : Cx}
theorem pv (i : Nat) {x : Str} {pos : Pos} (hN : X.N[i]? = some x:=by rfl) (hv : Vis X.env.scope x:=by first | exact Or.inl rfl | exact Or.inr (Or.inl rfl) | exact Or.inr (Or.inr rfl)) (hd : (x == ("__debug__" : Str)) = false:=by decide)
  (hcd : (x == ("__classdict__" : Str)) = false:=by decide) : PE X (.Name x pos) (tVar i):=pe_var hN hv hd hcd
end
theorem Jl1 {A B : Prop} (h : B) : if false = true then A else B:=by
 rw [if_neg Bool.false_ne_true];exact h
theorem Jlc {A B : Prop} (h : A) : if true = true then A else B:=by
 rw [if_pos rfl];exact h
theorem ite2 {c A B : Prop} [Decidable c] (h1 : c → A) (h2 : ¬ c → B) : if c then A else B:=by
 by_cases h : c
 ·rw [if_pos h];exact h1 h
 ·rw [if_neg h];exact h2 h
noncomputable def Same (H H' : Hp) : Prop:=∀ b o,H b = some o → H' b = some o
theorem Same.refl (H : Hp) : Same H H:=fun _ _ h=>h
theorem Same.trans {H H1 H2 : Hp} (a : Same H H1) (b : Same H1 H2) : Same H H2:=fun c o h=>b c o (a c o h)
theorem Same.seq {K : PySem.W.Frag} {H H' : Hp} {a : Addr} {xs : List V} (e : Same H H') (h : SqL K H a xs) : SqL K H' a xs:=by
 rcases h with (h | ⟨o,h⟩) | h
 ·exact .inl (.inl (e _ _ h))
 ·exact .inl (.inr ⟨o,e _ _ h⟩)
 ·exact .inr h
section
variable {κ : Type} [DecidableEq κ]
end
end L2
set_option Elab.async false
set_option linter.all false
set_option maxRecDepth 100000
set_option maxHeartbeats 4000000
namespace L2
open PySem PySem.Spec PyProof.Rows
noncomputable def Jmp (cells : List (Str × Addr)) : List (Str × NameKind) → List (Str × Addr) → List (Str × Addr)
 | [],acc=>acc
 | (n,k) :: r,acc=>if (k == NameKind.free) = true then (match cells.lookup n with | some c=>Jmp cells r ((n,c) :: acc) | none=>Jmp cells r acc) else Jmp cells r acc
theorem Jnn {cells : List (Str × Addr)} : ∀ (ns : List (Str × NameKind)) (acc : List (Str × Addr)),(∀ x c,acc.lookup x = some c → cells.lookup x = some c) → ∀ x c,(Jmp cells ns acc).lookup x = some c → cells.lookup x = some c
 | [],_,h,x,c,e=>h x c e
 | (n,k) :: r,acc,h,x,c,e=>by
  unfold Jmp at e;by_cases hk : (k == NameKind.free) = true
  ·rw [if_pos hk] at e;cases hc : cells.lookup n with
   | none=>rw [hc] at e; exact Jnn r acc h x c e
   | some d =>
    rw [hc] at e;refine Jnn r ((n,d) :: acc) (fun y b q=>?_) x c e;rw [List.lookup_cons] at q;by_cases hy : (y == n) = true
    ·rw [hy] at q;have hy' : y = n:=beq_iff_eq.mp hy;rw [hy', hc];exact q
    ·have hy' : (y == n) = false:=by simpa using hy
     rw [hy'] at q;exact h y b q
  ·rw [if_neg hk] at e;exact Jnn r acc h x c e
theorem Jnu {cells : List (Str × Addr)} : ∀ (ns : List (Str × NameKind)) (acc : List (Str × Addr)) (x : Str),(acc.lookup x).isSome = true → ((Jmp cells ns acc).lookup x).isSome = true
 | [],_,_,h=>h
 | (n,k) :: r,acc,x,h=>by
  unfold Jmp;by_cases hk : (k == NameKind.free) = true
  ·rw [if_pos hk];cases hc : cells.lookup n with
   | none=>exact Jnu r acc x h
   | some d =>
    refine Jnu r ((n,d) :: acc) x ?_;rw [List.lookup_cons];cases hy : x == n with
    | true=>rfl
    | false=>exact h
  ·rw [if_neg hk];exact Jnu r acc x h
theorem Jnm {cells : List (Str × Addr)} {x : Str} : ∀ (ns : List (Str × NameKind)) (acc : List (Str × Addr)),(x,NameKind.free) ∈ ns → (∃ c,cells.lookup x = some c) → ((Jmp cells ns acc).lookup x).isSome = true
 | [],_,h,_=>by simp at h
 | (n,k) :: r,acc,h,hc=>by
  unfold Jmp;rcases List.mem_cons.mp h with e | e
  ·cases e;obtain ⟨c,hc⟩:=hc;rw [if_pos (by decide),hc];exact Jnu r _ x (by rw [List.lookup_cons,beq_self_eq_true]; rfl)
  ·by_cases hk : (k == NameKind.free) = true
   ·rw [if_pos hk];cases hd : cells.lookup n with
    | none=>exact Jnm r acc e hc
    | some d=>exact Jnm r _ e hc
   ·rw [if_neg hk];exact Jnm r acc e hc
theorem Jsr {sc : Scope} {env : Env} (h : ∀ y ∈ sc.names,y.2 = .free → ∃ c,env.cells.lookup y.1 = some c) : closureFor sc env = pure (Jmp env.cells sc.names []):=by
 have key : ∀ (ns : List (Str × NameKind)) (acc : List (Str × Addr)),(∀ y ∈ ns,y.2 = .free → ∃ c,env.cells.lookup y.1 = some c) →
   (forIn ns acc fun (x : Str × NameKind) (r : List (Str × Addr))=>if (x.2 == NameKind.free) = true then (cellOf env x.1 >>= fun c=>pure (ForInStep.yield ((x.1,c) :: r)) : Sem _) else pure (ForInStep.yield r)) = (pure (Jmp env.cells ns acc) : Sem _):=by
  intro ns
  induction ns with
  | nil=>intro acc _; rfl
  | cons y r ih =>
   intro acc hy;obtain ⟨n,k⟩:=y;rw [List.forIn_cons];unfold Jmp;by_cases hk : (k == NameKind.free) = true
   ·have hk' : k = .free:=by simpa using hk
    obtain ⟨c,hc⟩:=hy (n,k) List.mem_cons_self hk';have hc' : env.cells.lookup n = some c:=hc;simp only [hk,if_true];have e1 : cellOf env n = pure c:=by unfold cellOf; rw [hc']
    rw [e1,hc'];exact ih _ fun z hz=>hy z (List.mem_cons_of_mem _ hz)
   ·simp only [hk,if_false];exact ih _ fun z hz=>hy z (List.mem_cons_of_mem _ hz)
 have k0:=key sc.names [] h;unfold closureFor
 first
  | exact k0
  | (refine Eq.trans ?_ (congrArg (fun m : Sem (List (Str × Addr))=>m >>= fun r=>pure r) k0); rfl)
noncomputable def blk (X : Cx) (sc : Scope) (N : List Str) (C : Addr) (s : Shared) (H : Hp) (fp : List Addr) (pn : List (Addr × Obj)) : Cx :=
 { X with N:=N,s₀:=s,H₀:=H,env:=compEnvC sc (Jmp X.env.cells sc.names []) C X.env,outer:=X.stack,ex:=fp,fn:=fun _=>false,pn:=pn,xe:=fun _ _=>False }
noncomputable def Jxd (ini : List (Option Nat)) (σ : St) : St:=ini.map fun o=>match o with | none=>none | some j=>(σ[j]?).join
noncomputable def scB (sc : Scope) : Bool:=decide (sc.kind = .function) && sc.names.all (fun y=>decide (y.2 ≠ .cell)) && sc.names.all (fun y=>!decide (y.2 = .local) || decide (sc.names.lookup y.1 = some .local))
noncomputable def frB (outer : List (Str × NameKind)) (sc : Scope) : Bool:=sc.names.all fun y=>!decide (y.2 = .free) || (decide (outer.lookup y.1 = some .cell) || decide (outer.lookup y.1 = some .free))
noncomputable def iniB (No N : List Str) (ini : List (Option Nat)) (outer : List (Str × NameKind)) (sc : Scope) : Bool :=
 (N.zip ini).all fun y=>match y.2 with | none=>true | some j=>decide (No[j]? = some y.1) && decide (sc.names.lookup y.1 = some .free) && (decide (outer.lookup y.1 = some .cell) || decide (outer.lookup y.1 = some .free))
noncomputable def PIf (X : Cx) (ifs : List Expr) (t : TT) : Prop :=
 ∀ (pins : List (Addr × Obj)) (s : Shared) (σ : St) (H : Hp) (Q : Bool → Hp → Prop),Inv X pins σ H s → t σ H Q →
  wpAny (model X.prog X.w) X.A (forIn ifs true fun c r=>if r = true then do let ok ← isTrue c X.env (eval c X.env); pure (ForInStep.yield ok) else pure (ForInStep.yield r)) (TP X pins σ Q) X.xe s
noncomputable def Jvi : TT:=fun _ H Q=>Q true H
theorem Jkx {X : Cx} : PIf X [] Jvi:=fun _ _ _ H _ I h=>wpAny_tests_nil ⟨H,I,h⟩
theorem Jx0 {X : Cx} {c : Expr} {t : TT} (h : PT X c t) : PIf X [c] t:=fun pins s σ H Q I q=>wpAny_tests_one (h pins s σ H Q I q)
noncomputable def Jzu (wi : TI) (ini : List (Option Nat)) (g : TG) (tt : TT) (te : TE) : TE:=fun σ H Q=>wi σ H fun J H1=>∀ D,H1 D = none → ∃ W : Nat → Nat → St → Hp → Prop,(∃ m,W 0 m (Jxd ini σ) (upd H1 D (.lst []))) ∧
 ∀ i m σ' H', W i m σ' H' → (J.stop i H' ∧ Q (.ref D) H') ∨ (J.go i H' ∧ ∃ N : St → Hp → Prop,(∀ σ2 H2,N σ2 H2 → ∃ m', m' < m ∧ W (i + 1) m' σ2 H2) ∧
  ∀ x H2,J.yld i H' x H2 → g x σ' H2 fun σ3 H3=>tt σ3 H3 fun b H4=>if b = true then te σ3 H4 (fun v H5=>∃ ys,H5 D = some (.lst ys) ∧ ys.length < sizeLine ∧ N σ3 (upd H5 D (.lst (ys ++ [v])))) else N σ3 H4)
section
variable {prog : Program} {w : World} {A : Around} {R : Result → Shared → Prop} {s : Shared}
theorem Jtu {elt target iter : Expr} {ifs : List Expr} {scope : Scope} {pos : Pos} {it acc : Value} {env : Env} (I : Nat → Shared → Prop)
  (turn : ∀ n s,I n s → wpAny (model prog w) A (pyNext it) (fun r s1=>match r with
   | none=>R (.ok .next) s1
   | some v=>wpAny (model prog w) A (letOwnedTupleGo target it v) (fun _ s1'=>wpAny (model prog w) A (assign target env v) (fun _ s2 =>
     wpAny (model prog w) A (forIn ifs true fun c r=>if r = true then do let ok ← isTrue c env (eval c env); pure (ForInStep.yield ok) else pure (ForInStep.yield r)) (fun ok s3 =>
      if ok = true then wpAny (model prog w) A (eval elt env) (fun x s4 =>
       wpAny (model prog w) A (call (.builtin "list.append") [acc,x]) (fun _ s5=>∃ m,m < n ∧ I m s5) (fun _ _=>False) s4) (fun _ _=>False) s3
      else ∃ m,m < n ∧ I m s3) (fun _ _=>False) s2) (fun _ _=>False) s1') (fun _ _=>False) s1) (fun _ _=>False) s)
  (n : Nat) (h : I n s) : codeAny (model prog w) A (.compLoop (.ListComp elt [⟨target,iter,ifs,0⟩] scope pos) 0 it acc env) R s:=by
 refine codeAny_loop rfl I (fun n s hI=>?_) n h;show wpAny _ A ((compTurn (.ListComp elt [⟨target,iter,ifs,0⟩] scope pos) 0 it acc env).onRaise (fun x=>do noteFrame x env; theTreesLotGoes x)) _ _ s;refine wpAny_noted (wpAny_noRaise ?_);rw [compTurn_list];refine wpAny_bind (wpAny_standAt (wpAny_bind (wpAny_mono (turn n s hI) (fun r s1 h1=>?_) fun _ _ h'=>h')));cases r with
 | none=>exact wpAny_pure h1
 | some v =>
  refine wpAny_bind (wpAny_mono h1 (fun _ s1' h1'=>?_) fun _ _ h'=>h');refine wpAny_bind (wpAny_mono h1' (fun _ s2 h2=>wpAny_bind (wpAny_mono h2 (fun ok s3 h3=>?_) fun _ _ h'=>h')) fun _ _ h'=>h');cases ok with
  | false=>exact wpAny_pure ⟨rfl,h3⟩
  | true =>
   exact wpAny_bind (wpAny_bind (wpAny_mono h3 (fun x s4 h4=>wpAny_bind (wpAny_mono h4 (fun _ s5 h5=>wpAny_pure (wpAny_pure ⟨rfl,h5⟩)) fun _ _ h'=>h')) fun _ _ h'=>h'))
end
section
variable {X : Cx} {pins : List (Addr × Obj)} {σ : St} {H : Hp} {s : Shared}
theorem blk_ok {sc : Scope} {N : List Str} {C : Addr} {fp : List Addr} {pn : List (Addr × Obj)} (I : Inv X pins σ H s) (hk : sc.kind = .function) (hcell : ∀ y ∈ sc.names,y.2 ≠ .cell)
  (hfr : ∀ y ∈ sc.names,y.2 = .free → X.env.kindOf y.1 = some .cell ∨ X.env.kindOf y.1 = some .free) (hC : C = s.heap.objs.size) (hf : ∀ b ∈ fp,Jqd X pins H b ∧ b < s.heap.objs.size) : (blk X sc N C s H fp pn).Ok:=by
 have hin : ∀ x c,(Jmp X.env.cells sc.names []).lookup x = some c → X.env.cells.lookup x = some c:=Jnn sc.names [] (fun x c e=>by simp at e);refine ⟨I.ok.mod,hk,I.ok.glob,I.ok.blt,Nat.le_of_eq hC.symm,fun x y c h1 h2=>I.ok.inj x y c (hin _ _ h1) (hin _ _ h2),fun x hx=>?_,fun x c h _=>(by cases h),I.ok.hd,I.ok.frames,.inl rfl,fun b hb=>?_,I.bs,Nat.le_trans I.ok.bsz I.sz,fun b o e hb=>?_,fun b hb z=>?_,I.stack,I.stkFree⟩
 ·have hx' : (relabel sc X.env).names.lookup x = some .cell ∨ (relabel sc X.env).names.lookup x = some .free:=hx;have hm : (x,NameKind.free) ∈ sc.names:=by
   have : ∀ k,(relabel sc X.env).names.lookup x = some k → (k = .cell ∨ k = .free) → (x,NameKind.free) ∈ sc.names:=fun k e hkk=>by
    have m:=PySem.mem_of_lookup e;obtain ⟨⟨n', k'⟩,m1,m2⟩:=List.mem_map.mp m;dsimp only at m2;by_cases hc : (k' == NameKind.free && X.env.scope.kind == .function && X.env.kindOf n' == some .cell) = true
    ·rw [if_pos hc] at m2;have e1 : n' = x:=congrArg Prod.fst m2;have e2 : k' = NameKind.free:=by simp at hc; exact hc.1.1
     rw [← e1,← e2];exact m1
    ·rw [if_neg hc] at m2;have e1 : n' = x:=congrArg Prod.fst m2;have e2 : k' = k:=congrArg Prod.snd m2;rcases hkk with z | z
     ·exact absurd (e2.trans z) (hcell _ m1)
     ·rw [← e1,← z,← e2]; exact m1
   rcases hx' with e | e
   ·exact this _ e (.inl rfl)
   ·exact this _ e (.inr rfl)
  have hh:=Jnm (cells:=X.env.cells) sc.names [] hm (I.ok.has x (hfr _ hm rfl));exact Option.isSome_iff_exists.mp hh
 ·obtain ⟨⟨f0,f1,f2,f3,f4,f5⟩,lt⟩:=hf b hb;exact ⟨fun z=>Nat.ne_of_lt lt (z.trans hC),fun x c e=>f4 x c (hin _ _ e)⟩
 ·obtain ⟨⟨f0,f1,f2,f3,f4,f5⟩,lt⟩:=hf b hb;rcases f3 with z | z
  ·exact I.ok.noex b o e z
  ·exact absurd (Nat.lt_of_lt_of_le (Heap.lt_size (I.ok.bs b o e).1) z) (Nat.lt_irrefl _)
 ·obtain ⟨⟨f0,f1,f2,f3,f4,f5⟩,lt⟩:=hf b hb;rcases List.mem_cons.mp (I.stkSub b z) with e | e
  ·exact f1 e
  ·exact f2 e
theorem Yg {sc : Scope} {N : List Str} {ini : List (Option Nat)} {fp : List Addr} {h1 : Heap} {t' : Nat} (I : Inv X pins σ H s) (hk : sc.kind = .function) (hcell : ∀ y ∈ sc.names,y.2 ≠ .cell)
  (hfr : ∀ y ∈ sc.names,y.2 = .free → X.env.kindOf y.1 = some .cell ∨ X.env.kindOf y.1 = some .free) (hf : ∀ b ∈ fp,Jqd X pins H b ∧ b < s.heap.objs.size) (hlen : N.length = ini.length)
  (hini : ∀ (i : Nat) (x : Str) (j : Nat),N[i]? = some x → ini[i]? = some (some j) → X.N[j]? = some x ∧ sc.names.lookup x = some .free ∧ (X.env.kindOf x = some .cell ∨ X.env.kindOf x = some .free))
  (hn : h1.Ns s.heap.objs.size (fun _=>none)) (kp : ∀ b o,s.heap.get? b = some o → h1.get? b = some o) :
  Inv (blk X sc N s.heap.objs.size s H fp (X.pn ++ pins)) [] (Jxd ini σ) H { s with heap:=h1,toks:=t' }:=by
 have hin : ∀ x c,(Jmp X.env.cells sc.names []).lookup x = some c → X.env.cells.lookup x = some c:=Jnn sc.names [] (fun x c e=>by simp at e);refine ⟨blk_ok I hk hcell hfr rfl hf,rfl,I.bare,Un.kept kp,⟨_,hn,fun i x v e1 e2 e3=>?_⟩,fun x c e=>?_,I.hok.fresh (Nat.le_refl _),fun x c e=>I.freeC x c (hin _ _ e),fun p hp=>?_,I.hok.kept kp,?_⟩
 ·have e1' : N[i]? = some x:=e1;have e2' : (Jxd ini σ)[i]? = some (some v):=e2;unfold Jxd at e2';rw [List.getElem?_map] at e2';cases hi : ini[i]? with
  | none=>rw [hi] at e2'; cases e2'
  | some o =>
   rw [hi] at e2';cases o with
   | none=>cases e2'
   | some j =>
    have e4 : (σ[j]?).join = some v:=Option.some.inj e2';have e5 : σ[j]? = some (some v):=by
     cases q : σ[j]? with
     | none=>rw [q] at e4; cases e4
     | some z=>rw [q] at e4; exact congrArg some e4
    obtain ⟨a1,a2,a3⟩:=hini i x j e1' hi;obtain ⟨m,hm,hl⟩:=I.loc;have hvis : Vis X.env.scope x:=by
     rcases a3 with z | z
     ·exact .inr (.inl z)
     ·exact .inr (.inr z)
    obtain ⟨u,r,l⟩:=hl j x v a1 e5 hvis;refine ⟨u,r,.inr ⟨?_,?_⟩⟩
    ·have hm2:=PySem.mem_of_lookup a2;have e3' : Vis (relabel sc X.env) x:=e3;rcases e3' with z | z | z
     ·exfalso;have m1:=PySem.mem_of_lookup z;obtain ⟨⟨n', k'⟩,m2,m3⟩:=List.mem_map.mp m1;dsimp only at m3;have key : ∀ {ns : List (Str × NameKind)},ns.lookup x = some .free → (ns.map fun (n,k)=>if (k == NameKind.free && X.env.scope.kind == .function && X.env.kindOf n == some .cell) then (n,NameKind.cell) else (n,k)).lookup x ≠ some .local:=by
       intro ns
       induction ns with
       | nil=>intro q; simp at q
       | cons y r ih =>
        obtain ⟨n,k⟩:=y;intro q;rw [List.lookup_cons] at q;rw [List.map_cons];dsimp only;cases hx : x == n with
        | true =>
         rw [hx] at q;have q' : k = .free:=Option.some.inj q;subst q';split
         ·rw [List.lookup_cons,hx]; intro z; cases z
         ·rw [List.lookup_cons,hx]; intro z; cases z
        | false =>
         rw [hx] at q;split
         ·rw [List.lookup_cons,hx]; exact ih q
         ·rw [List.lookup_cons,hx]; exact ih q
      exact key a2 z
     ·exact .inl z
     ·exact .inr z
    ·rcases l with ⟨k1,_⟩ | ⟨_,c,hc,hcl⟩
     ·exfalso;rcases a3 with z | z
      ·rw [z] at k1; cases k1
      ·rw [z] at k1; cases k1
     ·have hh:=Jnm (cells:=X.env.cells) sc.names [] (PySem.mem_of_lookup a2) ⟨c,hc⟩;obtain ⟨c', hc'⟩:=Option.isSome_iff_exists.mp hh;have : c' = c:=by
       have q:=hin _ _ hc';rw [hc] at q;exact (Option.some.inj q).symm
      subst this;obtain ⟨oc,hoc,hod⟩:=hcl;exact ⟨c', hc', oc,kp _ _ hoc,hod⟩
 ·obtain ⟨v,oc,hoc,hod⟩:=I.cell x c (hin _ _ e);exact ⟨v,oc,kp _ _ hoc,hod⟩
 ·have hp' : p ∈ X.pn ++ pins:=by simpa [blk] using hp
  obtain ⟨e,n,ne,nf,d⟩:=I.pin p hp';refine ⟨kp _ _ e,n,Nat.ne_of_lt (Heap.lt_size e),fun z=>?_,d⟩;rcases List.mem_cons.mp (I.stkSub p.1 z) with q | q
  ·exact ne q
  ·exact nf q
 ·unfold Jxd;show (ini.map _).length = N.length;rw [List.length_map];exact hlen.symm
end
end L2
namespace L2
open PySem PySem.Spec PyProof.Rows
section
variable {X : Cx} {elt iter tg : Expr} {ifs : List Expr} {sc : Scope} {pos : Pos} {N : List Str} {ini : List (Option Nat)} {wi : TI} {g : TG} {tt : TT} {te : TE}
theorem Jth {pins : List (Addr × Obj)} {σ : St} {H : Hp} {s : Shared} {Q : VK} {use : Option (Value → Sem Unit)} {Q' : Value → Shared → Prop} {p : Pos} (hc : X.calm = true) (hi : PI X tg iter wi)
  (hsc : scB sc = true) (hfr : frB X.env.scope.names sc = true) (hlen : N.length = ini.length) (hini : iniB X.N N ini X.env.scope.names sc = true)
  (hg : ∀ C s H fp pn,PG (blk X sc N C s H fp pn) tg g) (ht : ∀ C s H fp pn,PIf (blk X sc N C s H fp pn) ifs tt) (he : ∀ C s H fp pn,PE (blk X sc N C s H fp pn) elt te)
  (hs : ∀ x,foldedSetIterable iter X.env x = pure x) (I : Inv X pins σ H s) (h : Jzu wi ini g tt te σ H Q)
  (hfin : ∀ (D : Addr) (H' : Hp) (s' : Shared) (C : Addr) (m : Str → Option Value),Inv X pins σ H' s' → Jqd X pins H' C → s'.heap.Ns C m → Q (.ref D) H' → compPost (model X.prog X.w) X.A X.xe use Q' (.ref D) C (.ok .next) s') :
  wpAny (model X.prog X.w) X.A (comprehension (.ListComp elt [⟨tg,iter,ifs,0⟩] sc pos) sc X.env p (newList []) false (eval iter X.env) use) Q' X.xe s:=by
 have hsc':=hsc;unfold scB at hsc';rw [Bool.and_eq_true,Bool.and_eq_true] at hsc';obtain ⟨⟨hk0,hcell0⟩,hnames0⟩:=hsc';have hk : sc.kind = .function:=of_decide_eq_true hk0;have hcell : ∀ y ∈ sc.names,y.2 ≠ .cell:=fun y hy=>of_decide_eq_true (List.all_eq_true.mp hcell0 y hy);have hnames : ∀ y ∈ sc.names,y.2 = .local → sc.names.lookup y.1 = some .local:=fun y hy hl=>by
  have q:=List.all_eq_true.mp hnames0 y hy;rw [decide_eq_true hl] at q;exact of_decide_eq_true (by simpa using q)
 have hfrP : ∀ y ∈ sc.names,y.2 = .free → X.env.kindOf y.1 = some .cell ∨ X.env.kindOf y.1 = some .free:=fun y hy hl=>by
  have q:=List.all_eq_true.mp hfr y hy;rw [decide_eq_true hl] at q;have q2 : decide (X.env.scope.names.lookup y.1 = some .cell) = true ∨ decide (X.env.scope.names.lookup y.1 = some .free) = true:=by simpa using q
  rcases q2 with z | z
  ·exact .inl (of_decide_eq_true z)
  ·exact .inr (of_decide_eq_true z)
 have hiniP : ∀ (i : Nat) (x : Str) (j : Nat),N[i]? = some x → ini[i]? = some (some j) → X.N[j]? = some x ∧ sc.names.lookup x = some .free ∧ (X.env.kindOf x = some .cell ∨ X.env.kindOf x = some .free):=fun i x j e1 e2=>by
  have hm : (x,some j) ∈ N.zip ini:=by
   refine List.mem_of_getElem? (i:=i) ?_;rw [List.getElem?_zip_eq_some];exact ⟨e1,e2⟩
  have q:=List.all_eq_true.mp hini _ hm;dsimp only at q;rw [Bool.and_eq_true,Bool.and_eq_true,Bool.or_eq_true] at q;obtain ⟨⟨q1,q2⟩,q3⟩:=q;refine ⟨of_decide_eq_true q1,of_decide_eq_true q2,?_⟩;rcases q3 with z | z
  ·exact .inl (of_decide_eq_true z)
  ·exact .inr (of_decide_eq_true z)
 refine wpAny_comprehension_free (use:=use) rfl hs (Jsr fun y hy hl=>I.ok.has y.1 (hfrP y hy hl)) hk hnames ?_;refine thn (hi pins s σ H _ I h) fun v s1 h1=>thn h1 fun itv s2 h2=>?_;obtain ⟨it,fp,tn,J,H2,e,I2,T,st2,f2,step⟩:=h2;subst e;refine wpAny_newObj_type (wpAny_newFunctionEnv hcell (by intro y hy; simp at hy) (fun h1 hns1 hsb1=>?_) hk);dsimp only at hns1 hsb1 ⊢;have hD : H2 s2.heap.objs.size = none:=I2.hok.fresh (Nat.le_refl _);have kp3 : ∀ b o,s2.heap.get? b = some o → (s2.heap.push { cls:=.type "list",dict:=none,data:=.seq ([] : List Value).toArray }).get? b = some o:=fun b o e=>Heap.get?_push_of_some _ e;have I3 : Inv X pins σ (upd H2 s2.heap.objs.size (.lst [])) { s2 with heap:=s2.heap.push { cls:=.type "list",dict:=none,data:=.seq ([] : List Value).toArray } } :=
  I2.laid (t':=s2.toks) kp3 (Nat.le_refl _) ⟨Nat.zero_le _,[],0,.nil,Heap.get?_push_size _ rfl⟩
 obtain ⟨W,⟨m0,w0⟩,turn⟩:=step s2.heap.objs.size hD;generalize hs3 : ({ s2 with heap:=s2.heap.push { cls:=.type "list",dict:=none,data:=.seq ([] : List Value).toArray } } : Shared) = s3 at I3;have e3h : s3.heap = s2.heap.push { cls:=.type "list",dict:=none,data:=.seq ([] : List Value).toArray }:=by rw [← hs3]
 rw [← e3h] at hns1 hsb1 kp3 ⊢;have sz3 : s2.heap.objs.size < s3.heap.objs.size:=by rw [e3h,Heap.size_push]; exact Nat.lt_succ_self _
 have hf3 : ∀ b ∈ fp,Jqd X pins (upd H2 s2.heap.objs.size (.lst [])) b ∧ b < s3.heap.objs.size:=fun b hb=>by
  obtain ⟨o,eo,_⟩:=T.obj 0 _ st2 b hb;have lt:=Heap.lt_size eo;obtain ⟨f0,fr⟩:=f2 b hb;exact ⟨⟨by rw [Jk7 (Nat.ne_of_lt lt)]; exact f0,fr⟩,Nat.lt_trans lt sz3⟩
 have kp4 : ∀ b o,s3.heap.get? b = some o → h1.get? b = some o:=fun b o e=>(hsb1.2 b (Nat.ne_of_lt (Heap.lt_size e))).trans (Heap.get?_push_of_some _ e);have I4 : Inv (blk X sc N s3.heap.objs.size s3 (upd H2 s2.heap.objs.size (.lst [])) fp (X.pn ++ pins)) [] (Jxd ini σ) (upd H2 s2.heap.objs.size (.lst [])) { s3 with heap:=h1,toks:=s3.toks + ([] : List (Str × Value)).length } :=
  Yg I3 hk hcell hfrP hf3 hlen hiniP hns1 kp4
 have st4 : tn 0 h1:=T.keep 0 _ _ st2 fun b hb o e=>kp4 b o (kp3 b o e);have e4s : ({ s2 with heap:=h1,toks:=s2.toks + ([] : List (Str × Value)).length } : Shared) = { s3 with heap:=h1,toks:=s3.toks + ([] : List (Str × Value)).length }:=by rw [← hs3]
 have stat : ∀ {H' : Hp},(∀ b ∈ fp,H' b = none) → ∀ b ∈ fp,Jqd (blk X sc N s3.heap.objs.size s3 (upd H2 s2.heap.objs.size (.lst [])) fp (X.pn ++ pins)) [] H' b:=fun {H'} hn b hb=>by
  obtain ⟨⟨f0,f1,f2', f3,f4,f5⟩,lt⟩:=hf3 b hb;refine ⟨hn b hb,Nat.ne_of_lt lt,fun z=>?_,.inl hb,fun x c e=>f4 x c (Jnn sc.names [] (fun x c e=>by simp at e) x c e),fun p hp=>f5 p (by simpa [blk] using hp)⟩;rcases List.mem_cons.mp (I3.stkSub b z) with q | q
  ·exact f1 q
  ·exact f2' q
 have loop : ∀ s4 : Shared,s4 = { s3 with heap:=h1,toks:=s3.toks + ([] : List (Str × Value)).length } → codeAny (model X.prog X.w) X.A (.compLoop (.ListComp elt [⟨tg,iter,ifs,0⟩] sc pos) 0 (.ref it) (.ref s2.heap.objs.size) (compEnvC sc (Jmp X.env.cells sc.names []) s3.heap.objs.size X.env))
   (compPost (model X.prog X.w) X.A X.xe use Q' (.ref s2.heap.objs.size) s3.heap.objs.size) s4:=by
  rintro s4 rfl;refine Jtu (fun n s'=>∃ i σ' H', Inv (blk X sc N s3.heap.objs.size s3 (upd H2 s2.heap.objs.size (.lst [])) fp (X.pn ++ pins)) [] σ' H' s' ∧ tn i s'.heap ∧ (∀ b ∈ fp,H' b = none) ∧ W i n σ' H') ?_ m0
   ⟨0,_,_,I4,st4,fun b hb=>(hf3 b hb).1.1,w0⟩
  rintro n s5 ⟨i,σ5,H5,I5,st5,fr5,w5⟩;rcases turn i n σ5 H5 w5 with ⟨stop,q⟩ | ⟨go,N', hN', step'⟩
  ·refine thn (T.done (blk X sc N s3.heap.objs.size s3 (upd H2 s2.heap.objs.size (.lst [])) fp (X.pn ++ pins)) rfl rfl rfl hc i [] s5 σ5 H5 _ I5 (stat fr5) st5 stop) fun r s6 ⟨hr,I6⟩=>?_;subst hr;have un : Un (frs X.stack) fp H2 H5 s2.heap s6.heap:=(Un.laid (fs:=frs X.stack) (ex:=fp) kp3 (Nat.le_refl _) hD).trans I6.base;have os6 : s6.os = s2.os:=I6.os.trans (show s3.os = s2.os by rw [← hs3]);have IX : Inv X pins σ H5 s6:=I2.call' (ch:=fp) os6 un I6.hok I6.bare fun b hb=>by
    obtain ⟨⟨f0,f1,f2', f3,f4,f5⟩,lt⟩:=hf3 b hb;exact ⟨f3,f1,f4,f5⟩
   obtain ⟨m,hm,_⟩:=I6.loc;exact hfin _ H5 s6 s3.heap.objs.size m IX (I2.fpOk (Nat.le_of_lt sz3) I6.free) hm q
  ·refine thn (T.item (blk X sc N s3.heap.objs.size s3 (upd H2 s2.heap.objs.size (.lst [])) fp (X.pn ++ pins)) rfl rfl rfl hc i [] s5 σ5 H5 _ I5 (stat fr5) st5 go) fun r s6 ⟨u,hr,h6⟩=>?_;subst hr;refine thn h6 fun _ s7 ⟨x,H7,I7,r7,y7,st7,fr7⟩=>?_;have I7':=I7.pinned (stat fr7) (T.obj _ _ st7);refine thn (hg _ _ _ _ _ _ s7 σ5 H7 x u _ I7' r7 (step' x H7 y7)) fun _ s8 ⟨σ8,H8,I8,q8⟩=>?_;refine thn (ht _ _ _ _ _ _ s8 σ8 H8 _ I8 q8) fun ok s9 ⟨H9,I9,q9⟩=>?_;have again : ∀ {σ' : St} {H' : Hp} {s' : Shared},Inv (blk X sc N s3.heap.objs.size s3 (upd H2 s2.heap.objs.size (.lst [])) fp (X.pn ++ pins)) ([] ++ Jsh fp s7.heap) σ' H' s' → N' σ' H' →
     ∃ m,m < n ∧ ∃ i σ' H', Inv (blk X sc N s3.heap.objs.size s3 (upd H2 s2.heap.objs.size (.lst [])) fp (X.pn ++ pins)) [] σ' H' s' ∧ tn i s'.heap ∧ (∀ b ∈ fp,H' b = none) ∧ W i m σ' H':=fun {σ' H' s'} J n'=>by
    obtain ⟨m', hm,w'⟩:=hN' σ' H' n';refine ⟨m', hm,i + 1,σ', H', J.unpinned,T.keep _ _ _ st7 fun b hb o e=>(J.pin (b,o) (List.mem_append_right _ (List.mem_append_right _ (Jny hb e)))).1,fun b hb=>?_,w'⟩;obtain ⟨o,e,d⟩:=T.obj _ _ st7 b hb;exact (J.pin (b,o) (List.mem_append_right _ (List.mem_append_right _ (Jny hb e)))).2.1
   cases ok with
   | false =>
    rw [if_neg Bool.false_ne_true] at q9 ⊢;exact again I9 q9
   | true =>
    rw [if_pos rfl] at q9 ⊢;refine thn (he _ _ _ _ _ _ s9 σ8 H9 _ I9 q9) fun v10 s10 ⟨x10,H10,I10,r10,ys,hys,hyl,q10⟩=>?_;refine thn (Jno _ s10 σ8 H10 (.ref s2.heap.objs.size) [x10] _ [v10] (fun _ H'=>N' σ8 H') I10 rfl (.cons r10 .nil) ⟨_,ys,x10,rfl,rfl,hys,hyl,q10⟩) fun _ s11 ⟨_,H11,I11,_,q11⟩=>?_;exact again I11 q11
 have fin:=codeAny_compStart_list (R:=compPost (model X.prog X.w) X.A X.xe use Q' (.ref s2.heap.objs.size) s3.heap.objs.size) (loop _ rfl) (T.self X.A 0 { s3 with heap:=h1,toks:=s3.toks + ([] : List (Str × Value)).length } _ _ st4 (loop _ rfl));rw [← e4s] at fin;exact fin
theorem Jkz (hc : X.calm = true) (hi : PI X tg iter wi) (hg : ∀ C s H fp pn,PG (blk X sc N C s H fp pn) tg g) (ht : ∀ C s H fp pn,PIf (blk X sc N C s H fp pn) ifs tt) (he : ∀ C s H fp pn,PE (blk X sc N C s H fp pn) elt te)
  (hsc : scB sc = true:=by rfl) (hfr : frB X.env.scope.names sc = true:=by rfl) (hlen : N.length = ini.length:=by rfl) (hini : iniB X.N N ini X.env.scope.names sc = true:=by rfl)
  (hs : ∀ x,foldedSetIterable iter X.env x = pure x:=by intro _; rfl) : PE X (.ListComp elt [⟨tg,iter,ifs,0⟩] sc pos) (Jzu wi ini g tt te):=by
 intro pins s σ H Q I h;rw [eval_ListComp];refine Jth (use:=none) hc hi hsc hfr hlen hini hg ht he hs I h fun D H' s' C m I' f hn q=>?_;obtain ⟨f0,f1,f2,f3,f4,f5⟩:=f;exact ⟨m,hn,fun h' sb=>⟨.ref D,H', I'.turned (it:=C) (t':=s'.toks) (fun b o hb e=>(sb.2 b hb).trans e) f0 f1 f3 f4 f5,rfl,q⟩⟩
noncomputable def tSetC (i : Nat) (te : TE) : TS:=fun D σ H=>te σ H fun v H1=>D.nx (σ.set i (some v)) H1
theorem Juc {i : Nat} {y : Str} {py spos : Pos} (hN : X.N.Nodup) (hiy : X.N[i]? = some y) (hx : Loc X.env.scope y) (hc : X.calm = true) (hi : PI X tg iter wi) (hg : ∀ C s H fp pn,PG (blk X sc N C s H fp pn) tg g) (ht : ∀ C s H fp pn,PIf (blk X sc N C s H fp pn) ifs tt) (he : ∀ C s H fp pn,PE (blk X sc N C s H fp pn) elt te)
  (hf : X.fn y = true ∨ X.env.scope.names.lookup y = some .local:=by first | exact .inl rfl | exact .inr rfl | assumption)
  (hsw : swapsWith (.ListComp elt [⟨tg,iter,ifs,0⟩] sc pos) (some (.Name y py)) spos.line X.env = pure true:=by rfl)
  (hsc : scB sc = true:=by rfl) (hfr : frB X.env.scope.names sc = true:=by rfl) (hlen : N.length = ini.length:=by rfl) (hini : iniB X.N N ini X.env.scope.names sc = true:=by rfl)
  (hs : ∀ x,foldedSetIterable iter X.env x = pure x:=by intro _; rfl) : PS X (.Assign [.Name y py] (.ListComp elt [⟨tg,iter,ifs,0⟩] sc pos) spos) (tSetC i (Jzu wi ini g tt te)):=by
 intro pins s σ H D I h;rw [exec_Assign_Name_used _ _ _ _ hsw];refine wpAny_bind (wpAny_standAt (wpAny_bind ?_));show wpAny _ X.A (do let _ ← comprehension (.ListComp elt [⟨tg,iter,ifs,0⟩] sc pos) sc X.env _ (newList []) false (eval iter X.env) (some (assign (.Name y py) X.env))) _ _ s;refine wpAny_bind (wpAny_mono (Jth (use:=some (assign (.Name y py) X.env)) (Q':=fun _ s'=>SP X pins D .next s') hc hi hsc hfr hlen hini hg ht he hs I h fun D' H' s' C m I' f hn q=>?_) (fun _ s' hq=>wpAny_pure (wpAny_pure hq)) fun _ _ e=>e);obtain ⟨f0,f1,f2,f3,f4,f5⟩:=f;show wpAny _ X.A (assign (.Name y py) X.env (.ref D')) _ _ _;refine wpAny_assign_Name (Jtm I' hN hiy hx (v:=.ref D') rfl (fun s'' I'' sb=>?_) hf);obtain ⟨a,sb,ha⟩:=sb;have hCa : C ≠ a:=by
  rcases ha with z | z
  ·rw [z]; exact f1
  ·exact fun e=>f4 y a z e.symm
 refine ⟨m,hn.sameBut sb hCa,fun h' sb'=>⟨_,H', I''.turned (it:=C) (t':=s''.toks) (fun b o hb e=>(sb'.2 b hb).trans e) f0 f1 f3 f4 f5,q⟩⟩
end
section
variable {g : TG} {tt : TT} {te : TE} {H : Hp} {D : Addr} {σ : St} {R : Hp → Prop}
theorem Jry {lo : Int} {n : Nat} (Pv : Nat → St → Hp → Prop) (h0 : Pv 0 σ H)
  (hs : ∀ i σ H,i < n → Pv i σ H → g (.int (lo + i)) σ H fun σ3 H3=>tt σ3 H3 fun b H4=>if b = true then te σ3 H4 (fun v H5=>∃ ys,H5 D = some (.lst ys) ∧ ys.length < sizeLine ∧ Pv (i + 1) σ3 (upd H5 D (.lst (ys ++ [v])))) else Pv (i + 1) σ3 H4)
  (hd : ∀ σ H,Pv n σ H → R H) :
  ∃ W : Nat → Nat → St → Hp → Prop,(∃ m,W 0 m σ H) ∧ ∀ i m σ' H', W i m σ' H' → ((Itr lo n).stop i H' ∧ R H') ∨ ((Itr lo n).go i H' ∧ ∃ N : St → Hp → Prop,(∀ σ2 H2,N σ2 H2 → ∃ m', m' < m ∧ W (i + 1) m' σ2 H2) ∧
   ∀ x H2,(Itr lo n).yld i H' x H2 → g x σ' H2 fun σ3 H3=>tt σ3 H3 fun b H4=>if b = true then te σ3 H4 (fun v H5=>∃ ys,H5 D = some (.lst ys) ∧ ys.length < sizeLine ∧ N σ3 (upd H5 D (.lst (ys ++ [v])))) else N σ3 H4):=by
 refine ⟨fun i m σ H=>m = n - i ∧ i ≤ n ∧ Pv i σ H,⟨n,by simp,Nat.zero_le _,h0⟩,?_⟩;rintro i m σ H ⟨rfl,hi,p⟩;by_cases hlt : i < n
 ·refine .inr ⟨hlt,Pv (i + 1),fun σ' H' p'=>⟨n - (i + 1),by omega,rfl,hlt,p'⟩,fun x H' y=>?_⟩;obtain ⟨e,y⟩:=y;subst e y;exact hs i σ _ hlt p
 ·have e : i = n:=by omega
  subst e;exact .inl ⟨Nat.le_refl _,hd σ H p⟩
theorem Jlt {K : PySem.W.Frag} {a : Addr} {xs : List V} (Pv : Nat → St → Hp → Prop) (h0 : Pv 0 σ H) (hl : ∀ i σ H,i ≤ xs.length → Pv i σ H → SqL K H a xs)
  (hs : ∀ i x σ H,xs[i]? = some x → Pv i σ H → g x σ H fun σ3 H3=>tt σ3 H3 fun b H4=>if b = true then te σ3 H4 (fun v H5=>∃ ys,H5 D = some (.lst ys) ∧ ys.length < sizeLine ∧ Pv (i + 1) σ3 (upd H5 D (.lst (ys ++ [v])))) else Pv (i + 1) σ3 H4)
  (hd : ∀ σ H,Pv xs.length σ H → R H) :
  ∃ W : Nat → Nat → St → Hp → Prop,(∃ m,W 0 m σ H) ∧ ∀ i m σ' H', W i m σ' H' → ((Itl K a).stop i H' ∧ R H') ∨ ((Itl K a).go i H' ∧ ∃ N : St → Hp → Prop,(∀ σ2 H2,N σ2 H2 → ∃ m', m' < m ∧ W (i + 1) m' σ2 H2) ∧
   ∀ x H2,(Itl K a).yld i H' x H2 → g x σ' H2 fun σ3 H3=>tt σ3 H3 fun b H4=>if b = true then te σ3 H4 (fun v H5=>∃ ys,H5 D = some (.lst ys) ∧ ys.length < sizeLine ∧ N σ3 (upd H5 D (.lst (ys ++ [v])))) else N σ3 H4):=by
 refine ⟨fun i m σ H=>m = xs.length - i ∧ i ≤ xs.length ∧ Pv i σ H,⟨xs.length,by simp,Nat.zero_le _,h0⟩,?_⟩;rintro i m σ H ⟨rfl,hi,p⟩;have q:=hl i σ H hi p;by_cases hlt : i < xs.length
 ·refine .inr ⟨⟨xs,xs[i],q,by simp [hlt]⟩,Pv (i + 1),fun σ' H' p'=>⟨xs.length - (i + 1),by omega,rfl,hlt,p'⟩,fun x H' y=>?_⟩;obtain ⟨e,y⟩:=y;subst e;exact hs i x σ _ (y xs q) p
 ·have e : i = xs.length:=by omega
  subst e;exact .inl ⟨⟨xs,q,Nat.le_refl _⟩,hd σ H p⟩
end
theorem Jlm {i : Nat} {v : V} {σ : St} {H : Hp} {A B : St → Hp → Prop} (h : A (σ.set i (some v)) H) : Jmq i v σ H fun σ3 H3=>Jvi σ3 H3 fun b H4=>if b = true then A σ3 H4 else B σ3 H4:=by
 show if true = true then A (σ.set i (some v)) H else B (σ.set i (some v)) H
 rw [if_pos rfl];exact h
noncomputable def sgn (c : Nat) : V:=.str ⟨#[c]⟩
noncomputable def Its (z : Str) : It:=⟨fun i _=>i < z.cps.size,fun i H x H'=>H' = H ∧ ∃ c,z.cps[i]? = some c ∧ x = sgn c,fun i _=>z.cps.size = i⟩
noncomputable def iStr (tl : TE) : TI:=fun σ H R=>tl σ H fun x H1=>∃ z,x = .str z ∧ R (Its z) H1
theorem Jvk {P : Program} {w : World} {K : PySem.W.Frag} {tg : Expr} {z : Str} {it : Addr} {n : String} {fl : Nat → Array Value} {St : Nat → Heap → Prop}
  (Wk : ∀ A' : Around,A'.handled = none → Walks P w A' it [it] [it] z.cps.size (SignAt z) St) (hst : ∀ i h,St i h → ∃ o,h.get? it = some o ∧ o.cls = .type n ∧ ∃ a,o.data = .fields a)
  (hn : ["enumerate","zip","dict_itemiterator","dict_reverseitemiterator","odict_iterator","itertools.zip_longest","itertools.pairwise"].contains n = false)
  (hself : ∀ (A : Around) (i : Nat) (s : Shared) (Q : Value → Shared → Prop) (E : Value → Shared → Prop),St i s.heap → Q (.ref it) s → wpAny (model P w) A (pyIter (.ref it)) Q E s) : Turn P w K tg (Its z) [it] it St where
 mem:=by simp
 obj:=fun i h st b hb=>by
  have e : b = it:=by simpa using hb
  subst e;obtain ⟨o,e,_,a,d⟩:=hst i h st;exact ⟨o,e,fun v z=>by rw [d] at z; cases z⟩
 keep:=fun i h h' st k=>by
  have W0:=Wk callerA rfl;exact W0.frame i h h' st fun b hb o e=>k b hb o e
 item:=by
  intro X hP hw hK hc i pins s σ H E I hf st hg;subst hP hw hK;obtain ⟨f0,f1,f2,f3,f4,f5⟩:=hf it (by simp);have W:=Wk X.A (I.ok.hd hc);refine W.item i s _ _ hg st fun v h' tk hv st' kk=>?_;obtain ⟨c,u,hcp,rfl⟩:=hv;have I1 : Inv X pins σ H { s with heap:=h', toks:=tk }:=I.turned (fun b o hb e=>kk b o (by simpa using hb) e) f0 f1 f3 f4 f5;obtain ⟨o,e,cl,a,d⟩:=hst _ _ st';exact ⟨_,rfl,Jwq (s:={ s with heap:=h', toks:=tk }) e cl d hn ⟨sgn c,H,I1,⟨u,rfl⟩,⟨rfl,c,hcp,rfl⟩,st', fun b hb=>(hf b hb).1⟩⟩
 done:=by
  intro X hP hw hK hc i pins s σ H E I hf st hg;subst hP hw hK;obtain ⟨f0,f1,f2,f3,f4,f5⟩:=hf it (by simp);have W:=Wk X.A (I.ok.hd hc);have hg' : z.cps.size = i:=hg;subst hg';exact W.done s _ _ st fun h' tk kk=>⟨rfl,I.turned (fun b o hb e=>kk b o (by simpa using hb) e) f0 f1 f3 f4 f5⟩
 self:=hself
theorem pi_str {X : Cx} {tg l : Expr} {tl : TE} (hl : PE X l tl) : PI X tg l (iStr tl):=by
 intro pins s σ H R I h;refine thn (hl pins s σ H _ I h) fun v s1 ⟨x,H1,I1,r1,z,e,q⟩=>?_;subst e;obtain ⟨t,rfl⟩:=r1;have fin : ∀ (o : Obj) (St : Nat → Heap → Prop) (n : String),Turn X.prog X.w X.K tg (Its z) [s1.heap.objs.size] s1.heap.objs.size St → St 0 (s1.heap.push o) → PIE X pins σ tg R (.ref s1.heap.objs.size) { s1 with heap:=s1.heap.push o }:=fun o St n T st0=>by
  refine ⟨s1.heap.objs.size,[s1.heap.objs.size],St,Its z,H1,rfl,I1.kept (t':=s1.toks) fun b o e=>Heap.get?_push_of_some _ e,T,st0,fun b hb=>?_,q⟩;have e : b = s1.heap.objs.size:=by simpa using hb
  subst e;exact I1.fpOk (Nat.le_refl _) (I1.hok.fresh (Nat.le_refl _))
 cases ha : z.cps.all (· < 128)
 ·refine wpAny_pyIter_wide ha (fin _ (fun i h=>h.IsStrIter s1.heap.objs.size "str_iterator" z t i) "str_iterator" (Jvk (n := "str_iterator") (fl:=fun _=>#[]) (fun A' hA=>Walks.strWide hA _ z t) (fun i h st=>?_) (by decide) (fun A i s Q E st q=>wpAny_pyIter_striter_wide st q)) ⟨_,Heap.get?_push_size _ rfl,rfl,rfl⟩);obtain ⟨o,e,c,d⟩:=st;exact ⟨o,e,c,_,d⟩
 ·refine wpAny_pyIter_ascii ha (fin _ (fun i h=>h.IsStrIter s1.heap.objs.size "str_ascii_iterator" z t i) "str_ascii_iterator" (Jvk (n := "str_ascii_iterator") (fl:=fun _=>#[]) (fun A' hA=>Walks.strAscii hA _ z t) (fun i h st=>?_) (by decide) (fun A i s Q E st q=>wpAny_pyIter_striter_ascii st q)) ⟨_,Heap.get?_push_size _ rfl,rfl,rfl⟩);obtain ⟨o,e,c,d⟩:=st;exact ⟨o,e,c,_,d⟩
theorem Jyi {z : Str} {g : TG} {tt : TT} {te : TE} {H : Hp} {D : Addr} {σ : St} {R : Hp → Prop} (Pv : Nat → St → Hp → Prop) (h0 : Pv 0 σ H)
  (hs : ∀ i c σ H,z.cps[i]? = some c → Pv i σ H → g (sgn c) σ H fun σ3 H3=>tt σ3 H3 fun b H4=>if b = true then te σ3 H4 (fun v H5=>∃ ys,H5 D = some (.lst ys) ∧ ys.length < sizeLine ∧ Pv (i + 1) σ3 (upd H5 D (.lst (ys ++ [v])))) else Pv (i + 1) σ3 H4)
  (hd : ∀ σ H,Pv z.cps.size σ H → R H) :
  ∃ W : Nat → Nat → St → Hp → Prop,(∃ m,W 0 m σ H) ∧ ∀ i m σ' H', W i m σ' H' → ((Its z).stop i H' ∧ R H') ∨ ((Its z).go i H' ∧ ∃ N : St → Hp → Prop,(∀ σ2 H2,N σ2 H2 → ∃ m', m' < m ∧ W (i + 1) m' σ2 H2) ∧
   ∀ x H2,(Its z).yld i H' x H2 → g x σ' H2 fun σ3 H3=>tt σ3 H3 fun b H4=>if b = true then te σ3 H4 (fun v H5=>∃ ys,H5 D = some (.lst ys) ∧ ys.length < sizeLine ∧ N σ3 (upd H5 D (.lst (ys ++ [v])))) else N σ3 H4):=by
 refine ⟨fun i m σ H=>m = z.cps.size - i ∧ i ≤ z.cps.size ∧ Pv i σ H,⟨z.cps.size,by simp,Nat.zero_le _,h0⟩,?_⟩;rintro i m σ H ⟨rfl,hi,p⟩;by_cases hlt : i < z.cps.size
 ·refine .inr ⟨hlt,Pv (i + 1),fun σ' H' p'=>⟨z.cps.size - (i + 1),by omega,rfl,hlt,p'⟩,fun x H' y=>?_⟩;obtain ⟨e,c,hcp,y⟩:=y;subst e y;exact hs i c σ _ hcp p
 ·have e : i = z.cps.size:=by omega
  subst e;exact .inl ⟨rfl,hd σ H p⟩
end L2
namespace L2
open PySem PySem.Spec PyProof.Rows
section
variable {X : Cx}
theorem Jq0 : OpR X (binaryOp .FloorDiv) (rI (fun _ j=>0 < j ∧ j.natAbs.log2 < 9000) fun i j=>.int (i / j)):=opI fun i j _ _ _ _ _ hc q=>by
 have h1 : (0 : Int) < j:=hc.1;exact floordiv_int (by omega) (by rw [Int.fdiv_eq_ediv_of_nonneg i (by omega)]; exact q) (.inl (PyProof.noPylong_of_log2 hc.2))
noncomputable def clsV : V → Option Value
 | .ty n=>some (.type n)
 | .ref a=>some (.ref a)
 | _=>none
theorem Jx3 : ∀ {ys : List Str} {us : List Value},Vals (ys.map V.str) us → StrsAre us ys
 | [],_,.nil=>.nil
 | _ :: _,_,.cons ⟨_,rfl⟩ t=>.cons _ _ (Jx3 t)
noncomputable def rJoin (K : PySem.W.Frag) : V → List V → Hp → VK → Prop:=fun x xs H Q=>∃ (z : Str) (a : Addr) (ys : List Str),x = .str z ∧ xs = [.ref a] ∧ SqL K H a (ys.map V.str) ∧ (ys.map (·.length)).sum + ys.length * z.length ≤ 16777216 ∧ Q (.str (Txt.join z ys)) H
theorem Yp : MtR X "str.join" (rJoin X.K):=by
 intro pins s σ H x xs v us Q I rx rs h;obtain ⟨z,a,ys,rfl,rfl,hq,hz,q⟩:=h;obtain ⟨t,rfl⟩:=rx;obtain ⟨u,rfl,ru⟩:=Jnb rs;cases ru;obtain ⟨its,r,pl,_⟩:=I.list hq;exact join_list pl.isList (by simpa using Jx3 r) hz fun t' k=>⟨.str _,H,I.tok _,⟨_,rfl⟩,q⟩
noncomputable def rAll (K : PySem.W.Frag) : List V → Hp → VK → Prop:=fun xs H Q=>∃ (a : Addr) (bs : List Bool),xs = [.ref a] ∧ SqL K H a (bs.map V.bl) ∧ Q (.bl (bs.all id)) H
theorem Jnk (hc : X.calm = true) : Jmo X (.builtin "all") (rAll X.K):=by
 intro pins s σ H xs us Q I r h;obtain ⟨a,bs,rfl,hq,q⟩:=h;obtain ⟨u,rfl,ru⟩:=Jnb r;cases ru;obtain ⟨its,rv,pl,hz⟩:=I.list hq;have hlen:=rv.length;refine call_all_walk (wpAny_pyIter_list pl.isList ⟨s.heap.objs.size,[s.heap.objs.size,a],[s.heap.objs.size],its.toArray.size,_,_,fun i=>bs.getD i true,rfl,Walks.list (prog:=X.prog) (w:=X.w) (A:=X.A.in1) (show X.A.in1.handled = none from I.ok.hd hc) s.heap.objs.size a ?_ its.toArray,⟨⟨_,Heap.get?_push_size _ rfl,rfl,rfl⟩,pl.isList.at fun o e=>Heap.get?_push_of_some _ e⟩,?_,fun h' tk k=>?_⟩)
 ·obtain ⟨o,_,e,_⟩:=pl;exact Nat.ne_of_lt (Heap.lt_size e)
 ·intro i v s' Q' E' hv hq';have hv' : its[i]? = some v:=by simpa using hv
  have hi : i < its.length:=(List.getElem?_eq_some_iff.mp hv').1;have hb : i < bs.length:=by rw [List.length_map] at hlen; omega
  obtain ⟨u', hu', ru'⟩:=rv.get (i:=i) (x:=V.bl bs[i]) (by rw [List.getElem?_map,List.getElem?_eq_getElem hb]; rfl);rw [hv'] at hu';cases hu';cases ru';refine wpAny_truthy_bool ?_;have : bs.getD i true = bs[i]:=by rw [List.getD_eq_getElem?_getD,List.getElem?_eq_getElem hb]; rfl
  rw [← this];exact hq'
 ·have e : ((List.range its.toArray.size).all fun i=>bs.getD i true) = bs.all id:=by
   have hl2 : its.toArray.size = bs.length:=by rw [List.length_map] at hlen; rw [List.size_toArray]; exact hlen.symm
   rw [hl2,Bool.eq_iff_iff,List.all_eq_true,List.all_eq_true];constructor
   ·intro hh b hb;obtain ⟨i,hi,rfl⟩:=List.getElem_of_mem hb;have:=hh i (List.mem_range.mpr hi);rw [List.getD_eq_getElem?_getD,List.getElem?_eq_getElem hi] at this;exact this
   ·intro hh i hi;have hi':=List.mem_range.mp hi;rw [List.getD_eq_getElem?_getD,List.getElem?_eq_getElem hi'];exact hh _ (List.getElem_mem hi')
  rw [e];exact ⟨.bl _,H,I.kept fun b o e=>k b o (fun z=>by
   have z' : b = s.heap.objs.size:=by simpa using z
   exact absurd (Heap.lt_size e) (by rw [z']; exact Nat.lt_irrefl _)) (Heap.get?_push_of_some _ e),rfl,q⟩
end
mutual
inductive DatV (K : PySem.W.Frag) (H : Hp) : V → PyData → Prop
 | non : DatV K H .non .none
 | bl (b : Bool) : DatV K H (.bl b) (.bool b)
 | int (i : Int) : DatV K H (.int i) (.int i)
 | str (z : Str) : DatV K H (.str z) (.str z)
 | lst {a : Addr} {xs : List V} {ds : List PyData} : SqL K H a xs → DatVs K H xs ds → DatV K H (.ref a) (.list ds)
 | tup {a : Addr} {xs : List V} {ds : List PyData} : SqT K H a xs → DatVs K H xs ds → DatV K H (.ref a) (.tuple ds)
inductive DatVs (K : PySem.W.Frag) (H : Hp) : List V → List PyData → Prop
 | nil : DatVs K H [] []
 | cons {x : V} {d : PyData} {xs : List V} {ds : List PyData} : DatV K H x d → DatVs K H xs ds → DatVs K H (x :: xs) (d :: ds)
end
section
variable {X : Cx} {pins : List (Addr × Obj)} {σ : St} {H : Hp} {s : Shared}
mutual
theorem DatV.reads (I : Inv X pins σ H s) : ∀ {x : V} {d : PyData},DatV X.K H x d → ∀ {v : Value},RelV x v → ∃ as,Reads s.heap v d as
 | _,_,.non,_,r=>by cases r; exact ⟨_,.none⟩
 | _,_,.bl b,_,r=>by cases r; exact ⟨_,.bool b⟩
 | _,_,.int i,_,r=>by obtain ⟨t,rfl⟩:=r; exact ⟨_,.int i t⟩
 | _,_,.str z,_,r=>by obtain ⟨t,rfl⟩:=r; exact ⟨_,.str z t⟩
 | _,_,.lst (a:=a) hq hd,_,r=>by
  cases r;obtain ⟨its,rv,⟨o,n,e,c,dd,dt⟩,_⟩:=I.list hq;obtain ⟨as,ra⟩:=DatVs.reads I hd rv;exact ⟨_,.list e c dt (by simpa using ra)⟩
 | _,_,.tup (a:=a) hq hd,_,r=>by
  cases r;obtain ⟨its,rv,⟨o,e,c,n,dt⟩,_⟩:=I.tuple hq;obtain ⟨as,ra⟩:=DatVs.reads I hd rv;exact ⟨_,.tuple e c dt (by simpa using ra)⟩
theorem DatVs.reads (I : Inv X pins σ H s) : ∀ {xs : List V} {ds : List PyData},DatVs X.K H xs ds → ∀ {us : List Value},Vals xs us → ∃ as,ReadsAll s.heap us ds as
 | _,_,.nil,_,r=>by cases r; exact ⟨_,.nil⟩
 | _,_,.cons h t,_,r=>by
  cases r with
  | cons r1 r2 =>
   obtain ⟨as,ra⟩:=DatV.reads I h r1;obtain ⟨bs,rb⟩:=DatVs.reads I t r2;exact ⟨_,.cons ra rb⟩
end
noncomputable def rEqD (K : PySem.W.Frag) (neg : Bool) : R2:=fun x y H Q=>∃ d e,DatV K H x d ∧ DatV K H y e ∧ SeqAt.shaped d = true ∧ SeqAt.shaped e = true ∧ Q (.bl (if neg then !PyData.eqv d e else PyData.eqv d e)) H
theorem op_eqD (hu : X.A.units + 64 < cLine) : OpR X (compareOp .Eq) (rEqD X.K false):=by
 intro pins s σ H x y v u Q I rx ry h;obtain ⟨d,e,hd,he,sd,se,q⟩:=h;obtain ⟨as,ra⟩:=hd.reads I rx;obtain ⟨bs,rb⟩:=he.reads I ry;exact eq_dataH ra rb sd se hu (Jku I q rfl)
theorem op_neD (hu : X.A.units + 64 < cLine) : OpR X (compareOp .NotEq) (rEqD X.K true):=by
 intro pins s σ H x y v u Q I rx ry h;obtain ⟨d,e,hd,he,sd,se,q⟩:=h;obtain ⟨as,ra⟩:=hd.reads I rx;obtain ⟨bs,rb⟩:=he.reads I ry;exact ne_dataH ra rb sd se hu (Jku I q rfl)
end
end L2
namespace L2
open PySem PySem.Spec PyProof.Rows
theorem Jkk : bootBuiltins "isinstance" = some (.builtin "isinstance"):=by decide +kernel
theorem Jlh : bootBuiltins "len" = some (.builtin "len"):=by decide +kernel
theorem Jpb : bootBuiltins "max" = some (.builtin "max"):=by decide +kernel
theorem Jnt : bootBuiltins "min" = some (.builtin "min"):=by decide +kernel
theorem Jqi : bootBuiltins "all" = some (.builtin "all"):=by decide +kernel
theorem Jqj : bootBuiltins "int" = some (.type "int"):=by decide +kernel
theorem bt_str : bootBuiltins "str" = some (.type "str"):=by decide +kernel
theorem Jts : bootBuiltins "bool" = some (.type "bool"):=by decide +kernel
theorem Jmv : bootBuiltins "list" = some (.type "list"):=by decide +kernel
theorem Jl3 : bootBuiltins "tuple" = some (.type "tuple"):=by decide +kernel
structure FT (K : PySem.W.Frag) (mg : Str → Option Value) (x : Str) (st : Stmt) (ps : List Str) (f : Addr) (fd : FuncData) : Prop where
 mgx : mg x = some (.ref f)
 fn : Fun K x x st f fd
 bd : Binds K fd ps []
section
variable {X : Cx} {x : Str} {st : Stmt} {ps : List Str} {f : Addr} {fd : FuncData} {sp : Sp} {k j : Nat} {p pos : Pos} {e : Expr} {es : List Expr} {t : TA}
theorem Jk5 (F : FT X.K X.mg x st ps f fd) (G : FnOk X.prog X.w X.K X.mg X.base CX0 k f fd ps sp) (hr : Room j X.A) (hk : k ≤ j) (ha : PA X (e :: es) t) (hg : Gl X x:=by rfl) (hdb : (x == ("__debug__" : Str)) = false:=by decide)
  (he : starEach (e :: es) X.env = (false,eval e X.env) :: starEach es X.env:=by rfl) (hpl : (backTo pos (starEach es X.env)).any (·.1) = false:=by rfl) : PE X (.Call (.Name x p) (e :: es) [] pos) (tCall sp [] E0 t) :=
 Yx G (hr.mono hk) hg F.mgx F.fn.kp F.bd .nil Jnq ha hdb he hpl
end
theorem Same.upd {H : Hp} {D : Addr} {o : HO} (h : H D = none) : Same H (upd H D o):=fun b u e=>by rw [Jk7 (Jk8 e h)]; exact e
noncomputable def Strm (H : Hp) (p : Addr) : Prop:=∃ a b c : Int,H p = some (.lst [.int a,.int b,.int c])
noncomputable def But (p : Addr) (H H' : Hp) : Prop:=(∀ b o,b ≠ p → H b = some o → H' b = some o) ∧ Strm H' p
theorem But.trans {p : Addr} {H H1 H2 : Hp} (a : But p H H1) (b : But p H1 H2) : But p H H2:=⟨fun c o n e=>b.1 c o n (a.1 c o n e),b.2⟩
theorem But.refl {p : Addr} {H : Hp} (s : Strm H p) : But p H H:=⟨fun _ _ _ e=>e,s⟩
theorem But.same {p : Addr} {H H1 H2 : Hp} (a : But p H H1) (b : Same H1 H2) : But p H H2:=⟨fun c o n e=>b c o (a.1 c o n e),let ⟨x,y,z,e⟩:=a.2; ⟨x,y,z,b p _ e⟩⟩
theorem Strm.same {p : Addr} {H H1 : Hp} (a : Strm H p) (b : Same H H1) : Strm H1 p:=by obtain ⟨x,y,z,e⟩:=a; exact ⟨x,y,z,b p _ e⟩
theorem But.of {p : Addr} {H H1 : Hp} (a : Strm H p) (b : Same H H1) : But p H H1:=(But.refl a).same b
theorem But.free {p : Addr} {H H' : Hp} (s : Strm H p) (b : But p H H') {D : Addr} (h : H' D = none) : H D = none:=by
 by_cases e : D = p
 ·obtain ⟨x,y,z,q⟩:=b.2;rw [e,q] at h;cases h
 ·cases q : H D with
  | none=>rfl
  | some o =>
   rw [b.1 D o e q] at h;cases h
theorem But.updD {p D : Addr} {H H' : Hp} {o : HO} (b : But p H H') (hD : H D = none) (ne : D ≠ p) : But p H (upd H' D o):=by
 refine ⟨fun c u n e=>?_,?_⟩
 ·rw [Jk7 (Jk8 e hD)];exact b.1 c u n e
 ·obtain ⟨x,y,z,q⟩:=b.2;exact ⟨x,y,z,by rw [Jk7 (Ne.symm ne)]; exact q⟩
theorem Strm.ne {p D : Addr} {H : Hp} (s : Strm H p) (hD : H D = none) : D ≠ p:=by
 obtain ⟨x,y,z,q⟩:=s;exact (Jk8 q hD).symm
theorem Jmk {p : Addr} {H : Hp} {a : Addr} {o : HO} (s : Strm H p) (h : H a = some o) (hn : ∀ x y z : Int,o ≠ .lst [.int x,.int y,.int z]) : a ≠ p:=by
 intro e;obtain ⟨x,y,z,q⟩:=s;rw [e,q] at h;exact hn x y z (Option.some.inj h).symm
noncomputable def spTake : Sp:=fun vs H Q _=>∃ (p : Addr) (m : Int),vs = [.ref p,.int m] ∧ Strm H p ∧ 0 < m ∧ m.natAbs.log2 < 9000 ∧ ∀ (r : Int) (H' : Hp),0 ≤ r → r < m → But p H H' → Q (.int r) H'
noncomputable def Jzm : Sp:=fun vs H Q _=>∃ c : Int,vs = [.int c] ∧ ∀ (p : Addr) (H' : Hp),H p = none → Same H H' → Strm H' p → Q (.ref p) H'
noncomputable def spCell (K : PySem.W.Frag) : Sp:=fun vs H Q _=>∃ (a : Addr) (ns : List Int) (k : Nat),vs = [.ref a,.int k] ∧ SqL K H a (ns.map V.int) ∧ ∀ n : Int,Q (.int n) H
theorem atI_of {xs : List V} {i : Int} {j : Nat} {v : V} (hi : i = j) (h : xs[j]? = some v) : atI xs i = some v:=by rw [hi]; exact Jmu h
theorem Jmj {ns : List Int} {k : Nat} (h : k < ns.length) : atI (ns.map V.int) (k : Int) = some (.int ns[k]):=Jmu (by rw [List.getElem?_map,List.getElem?_eq_getElem h]; rfl)
theorem Jwr {A : Around} {k : Nat} (hr : Room k A) : A.units + 64 < cLine:=hr.units
end L2
namespace L2
open PySem PySem.Spec PyProof.Rows Builtin Builtin.ObjectAttr
noncomputable abbrev VEm : List Value:=[.type "ValueError",.type "Exception",.type "BaseException",.type "object"]
noncomputable def xcB (K : PySem.W.Frag) (C fI : Addr) : Bool :=
 PySem.W.findIn K (.ref C) "__getattribute__" == some (some (.builtin "BaseException.__getattribute__")) && PySem.W.findIn K (.ref C) "__getattr__" == some none && PySem.W.findIn K (.ref C) "__setattr__" == some (some (.builtin "object.__setattr__")) &&
 PySem.W.findIn K (.ref C) "__init__" == some (some (.ref fI)) && PySem.W.typeIn K (.ref fI) == some (.type "function") && PySem.W.keepIn K (.ref C) && PySem.W.hasDictIn K C && PySem.W.mroIn K C (.type "BaseException") == some true && PySem.W.mroIn K C (.type "object") == some true &&
 PySem.W.findIn K (.ref C) "__class__" == some (some (.builtin "object.__class__")) && PySem.W.specialIn K (.builtin "object.__class__") "__get__" == some (some (.builtin "getset_descriptor.__get__")) && PySem.W.takesIn K (.builtin "object.__class__") == some true
structure XCls (K : PySem.W.Frag) (C W fI : Addr) : Prop where
 obj : ∃ (nm q : Str) (N : Addr) (bs : List Value) (sn : List Str) (sub : List Value) (ab : Bool) (col : Option Bool) (dd : Option Addr) (k0 k1 k2 k3 k5 : Option Value),
  K.lookup C = some (excClassObj nm q C N bs (.ref W :: VEm) true sn sub ab col dd k0 k1 k2 k3 k5 "ValueError.__new__")
 tl : PySem.W.tailIn K VEm (.ref W :: VEm) = true
 all : xcB K C fI = true
theorem Jln {K : PySem.W.Frag} {C fI : Addr} (h : xcB K C fI = true) :
  (PySem.W.findIn K (.ref C) "__getattribute__" = some (some (.builtin "BaseException.__getattribute__")) ∧ PySem.W.findIn K (.ref C) "__getattr__" = some none ∧ PySem.W.findIn K (.ref C) "__setattr__" = some (some (.builtin "object.__setattr__"))) ∧
  (PySem.W.findIn K (.ref C) "__init__" = some (some (.ref fI)) ∧ PySem.W.typeIn K (.ref fI) = some (.type "function") ∧ PySem.W.keepIn K (.ref C) = true ∧ PySem.W.hasDictIn K C = true) ∧ PySem.W.mroIn K C (.type "BaseException") = some true ∧ PySem.W.mroIn K C (.type "object") = some true ∧
  PySem.W.findIn K (.ref C) "__class__" = some (some (.builtin "object.__class__")) ∧ PySem.W.specialIn K (.builtin "object.__class__") "__get__" = some (some (.builtin "getset_descriptor.__get__")) ∧ PySem.W.takesIn K (.builtin "object.__class__") = some true:=by
 unfold xcB at h;simp only [Bool.and_eq_true,beq_iff_eq] at h;obtain ⟨⟨⟨⟨⟨⟨⟨⟨⟨⟨⟨a,b⟩,c⟩,d⟩,e⟩,f⟩,g⟩,i⟩,j⟩,k⟩,l⟩,m⟩:=h;exact ⟨⟨a,b,c⟩,⟨d,e,f,g⟩,i,j,k,l,m⟩
section
variable {K : PySem.W.Frag} {C W fI : Addr} (c : XCls K C W fI)
include c
theorem XCls.ga : PySem.W.findIn K (.ref C) "__getattribute__" = some (some (.builtin "BaseException.__getattribute__")):=(Jln c.all).1.1
theorem XCls.gh : PySem.W.findIn K (.ref C) "__getattr__" = some none:=(Jln c.all).1.2.1
theorem XCls.sa : PySem.W.findIn K (.ref C) "__setattr__" = some (some (.builtin "object.__setattr__")):=(Jln c.all).1.2.2
theorem XCls.ini : PySem.W.findIn K (.ref C) "__init__" = some (some (.ref fI)):=(Jln c.all).2.1.1
theorem XCls.fn : PySem.W.typeIn K (.ref fI) = some (.type "function"):=(Jln c.all).2.1.2.1
theorem XCls.kp : PySem.W.keepIn K (.ref C) = true:=(Jln c.all).2.1.2.2.1
theorem XCls.mb : PySem.W.mroIn K C (.type "BaseException") = some true:=(Jln c.all).2.2.1
theorem XCls.mo : PySem.W.mroIn K C (.type "object") = some true:=(Jln c.all).2.2.2.1
theorem XCls.cl : PySem.W.findIn K (.ref C) "__class__" = some (some (.builtin "object.__class__")):=(Jln c.all).2.2.2.2.1
theorem XCls.cg : PySem.W.specialIn K (.builtin "object.__class__") "__get__" = some (some (.builtin "getset_descriptor.__get__")):=(Jln c.all).2.2.2.2.2.1
theorem XCls.ct : PySem.W.takesIn K (.builtin "object.__class__") = some true:=(Jln c.all).2.2.2.2.2.2
end
theorem Jyc (self : Value) (C W : Addr) : refuseLoop self "__setattr__" (.ref C :: .ref W :: VEm) = pure ():=by
 rw [refuseLoop_ref,refuseLoop_ref];exact PySem.F.store_ValueError.passes self
theorem XCls.mro {K : PySem.W.Frag} {C W fI : Addr} (c : XCls K C W fI) : ∃ cd,PySem.W.clsIn K C = some cd ∧ cd.mro = .ref C :: .ref W :: VEm ∧ cd.hasDict = true:=by
 obtain ⟨nm,q,N,bs,sn,sub,ab,col,dd,k0,k1,k2,k3,k5,l⟩:=c.obj;unfold PySem.W.clsIn;rw [l];exact ⟨_,rfl,rfl,rfl⟩
section
variable {prog : Program} {w : World} {A : Around} {E : Value → Shared → Prop} {s : Shared} {K : PySem.W.Frag} {x C W fI : Addr} {ox : Obj} {od : Option Obj} {name : Str}
theorem Yat : builtinKind "BaseException.__getattribute__" = some .slot:=by decide +kernel
theorem Y6 : splitId "BaseException.__getattribute__" = some ("BaseException","__getattribute__"):=by decide +kernel
theorem Yas {r : Found} {tk : Tok} {R : Result → Shared → Prop} (c : XCls K C W fI) (X : K.In s.heap) (I : PySem.W.InstAt s.heap x ox C od) (hf : PySem.W.findObj K C od name = some r)
  (h : wpAny (model prog w) A.in1 (match r with | .value v=>ret v | .bind g b=>bindTo g b (.ref x) (.ref C) | .missing=>unsupported "none")
   (fun fin s'=>match fin with | .done f=>R (.ok f) s' | .again c'=>c'.quiet = true ∧ codeAny (model prog w) A c' R s') (fun e s'=>R (.error e) s') s) (hr : r ≠ .missing) :
  codeAny (model prog w) A (.call (.builtin "BaseException.__getattribute__") ⟨[.ref x,.str name tk],[]⟩) R s:=by
 have T0:=I.type (M:=model prog w);have T3:=PySem.W.looks_find (M:=model prog w) X I hf;have T4 : PySem.W.Looks (model prog w) s.heap (isInstance (.ref x) (.type "BaseException")) true:=T0.andThen (PySem.W.looks_mroIn X c.mb);have ck : ∀ {Q' : Unit → Shared → Prop} {E' : Value → Shared → Prop} {A' : Around},Q' () s → wpAny (model prog w) A' (checkBuiltinCall "BaseException.__getattribute__" ⟨[.ref x,.str name tk],[]⟩) Q' E' s:=fun {Q' E' A'} q =>
  @PySem.W.check_slot (model prog w) A' E' s "BaseException.__getattribute__" "BaseException" "__getattribute__" (.ref x) [.str name tk] [] Q' Yat Y6 T4 (F.args_bexc_ga (.ref x) (.str name tk)) q
 refine codeAny_call_builtin F.excAttr_ValueError.ga.plain F.entry_bexc_ga (ck ?_);unfold Builtin.«object.__getattribute__»;refine wpAny_bind (wpAny_pure (wpAny_bind (wpAny_pure (wpAny_bind (T0.here (wpAny_bind (T3.here ?_)))))));cases r with
 | missing=>exact absurd rfl hr
 | value v=>exact h
 | bind gg b=>exact h
end
end L2
namespace L2
open PySem PySem.Spec PyProof.Rows Builtin Builtin.ObjectAttr
section
variable {prog : Program} {w : World} {A : Around} {E : Value → Shared → Prop} {s : Shared} {K : PySem.W.Frag} {x C W fI : Addr} {ox : Obj} {od : Option Obj} {name : Str} {v : Value}
theorem xc_osa {tk : Tok} {R : Result → Shared → Prop} (c : XCls K C W fI) (X : K.In s.heap) (I : PySem.W.InstAt s.heap x ox C od) (hn : PySem.W.findIn K (.ref C) name = some none)
  (h : wpAny (model prog w) A.in1 (storeInOwnDict (.ref x) (.ref C) (.str name tk) name v false)
   (fun fin s'=>match fin with | .done f=>R (.ok f) s' | .again c'=>c'.quiet = true ∧ codeAny (model prog w) A c' R s') (fun e s'=>R (.error e) s') s) :
  codeAny (model prog w) A (.call (.builtin "object.__setattr__") ⟨[.ref x,.str name tk,v],[]⟩) R s:=by
 have SF:=PySem.F.store_object;obtain ⟨cd,hc,hm,_⟩:=c.mro;have T0:=I.type (M:=model prog w);have sub : PySem.W.Looks (model prog w) s.heap (isInstance (.ref x) (.type "object")) true:=T0.andThen (PySem.W.looks_mroIn X c.mo);have hmr : PySem.W.Looks (model prog w) s.heap (mroOf (.ref C)) cd.mro:=(PySem.W.looks_clsIn X hc).andThen .now;have T2:=PySem.W.looks_findIn (M:=model prog w) X hn;refine codeAny_call_builtin SF.slot.plain SF.entry (@PySem.W.check_slot (model prog w) _ _ s "object.__setattr__" "object" "__setattr__" (.ref x) [.str name tk,v] [] _ SF.kind SF.split sub (SF.args (.ref x) (.str name tk) v) ?_);rw [PySem.W.osa_eq,refuse_eq];refine wpAny_bind (wpAny_bind (T0.here (wpAny_bind (hmr.here ?_))));rw [hm,Jyc];exact wpAny_pure (wpAny_bind (T0.here (wpAny_bind (T2.here (wpAny_bind (wpAny_pure h))))))
theorem Jwk {vs : Array Value} {Q : Unit → Shared → Prop} (c : XCls K C W fI) (X : K.In s.heap) (hx : s.heap.get? x = some ox) (hcl : ox.cls = .ref C) (hdi : ox.dict = none) (hd : ox.data = .fields vs) (hn : PySem.W.findIn K (.ref C) name = some none)
  (h : ∀ h', (∀ b u,b ≠ x → s.heap.get? b = some u → h'.get? b = some u) → h'.get? x = some { ox with dict:=some s.heap.objs.size } → h'.Ns1 s.heap.objs.size (fun y=>if y = name then some v else none) → Q () { s with heap:=h', toks:=s.toks + 2 }) :
  wpAny (model prog w) A (setAttr (.ref x) name v) Q E s:=by
 have I : PySem.W.InstAt s.heap x ox C none:=⟨hx,hcl,by unfold PySem.W.notCls; rw [hd],by rw [hdi]; trivial⟩;obtain ⟨cd,hc,_,hdct⟩:=c.mro;refine PySem.W.set_plain X I c.sa (xc_osa (s:={ s with toks:=s.toks + 1 }) c X I hn ?_);obtain ⟨oc,odi,oda,osl⟩:=ox;dsimp only at hcl hdi hd;subst hcl hdi hd;refine wpAny_bind (wpAny_pure (wpAny_bind (wpAny_bind (wpAny_loadPart hx (wpAny_bind (PySem.W.Looks.here (s:={ s with toks:=s.toks + 1 }) (PySem.W.looks_clsIn X hc) ?_))))));rw [hdct];dsimp only;simp only [Bool.not_true,Bool.false_eq_true,if_false,typeHasDict,Bool.or_false];have e1 : (s.heap.push { cls:=.type "dict",data:=.dict #[] }).get? x = some ⟨.ref C,none,.fields vs,osl⟩:=Heap.get?_push_of_some _ hx;have nx : s.heap.objs.size ≠ x:=Nat.ne_of_gt (Heap.lt_size hx);have n0 : (s.heap.push { cls:=.type "dict",data:=.dict #[] }).Ns s.heap.objs.size (fun _=>none):=⟨_,#[],_,Heap.get?_push_size s.heap rfl,rfl,(fun e he=>absurd he (by simp)),fun _=>rfl⟩;refine wpAny_bind (wpAny_alloc (wpAny_bind (wpAny_update e1 ?_)));have e2:=Heap.get?_update_self (fun o=>{ o with dict:=some s.heap.objs.size }) e1 rfl;have n1 : ((s.heap.push { cls:=.type "dict",data:=.dict #[] }).update x fun o=>{ o with dict:=some s.heap.objs.size }).Ns1 s.heap.objs.size (fun _=>none) :=
  (Heap.Ns1.of_empty n0).at fun o q=>by rw [Heap.get?_update_other _ _ (Ne.symm nx)]; exact q
 refine wpAny_pure (wpAny_bind (wpAny_pure (wpAny_bind ?_)));refine wpAny_nsSet1 n1 fun h' n2 sb=>?_;obtain ⟨oD,esD,epD,hoD,hdD,hcD⟩:=n2.count (PySem.Within.cons name v PySem.Within.nil);refine wpAny_bind (wpAny_lookBehind hoD (by rw [hdD]; exact pastItsLine_dict (Nat.le_trans hcD (Nat.le_add_left 1 sizeLine))) ?_);refine wpAny_pure (h h' (fun b u hb q=>?_) ((sb.2 _ (Ne.symm nx)).trans e2) n2);have nb : b ≠ s.heap.objs.size:=Nat.ne_of_lt (Heap.lt_size q);rw [sb.2 b nb,Heap.get?_update_other _ _ (Ne.symm hb)];exact Heap.get?_push_of_some _ q
end
noncomputable abbrev Jyd (us : List Value) : Obj:={ cls:=.type "tuple",data:=.seq us.toArray }
noncomputable abbrev xObj (C : Addr) (t : Addr) : Obj:={ cls:=.ref C,data:=.fields #[.ref t,.none,.none,.none,.bool false,.none] }
section
variable {prog : Program} {w : World} {A : Around} {E : Value → Shared → Prop} {K : PySem.W.Frag} {C W fI : Addr} {us : List Value} {hp : Heap} {g : Array GenState} {d : Drawn} {t : Nat} {os : OsState}
theorem Y7 {Q : PySem.Fin → Shared → Prop} (c : XCls K C W fI) (X : K.In hp) (hz : us.length ≤ sizeLine)
  (h : wpAny (model prog w) A (call (.ref fI) (.ref (hp.objs.size + 1) :: us)) (fun r s'=>r = .none ∧ Q (.done (.ret (.ref (hp.objs.size + 1)))) s') E ⟨(hp.push (Jyd us)).push (xObj C hp.objs.size),g,d,t,os⟩) :
  wpAny (model prog w) A (Builtin.«type.__call__» ⟨.ref C :: us,[]⟩) Q E ⟨hp,g,d,t,os⟩:=by
 obtain ⟨nm,q,N,bs,sn,sub,ab,col,dd,k0,k1,k2,k3,k5,l⟩:=c.obj;have FV:=F.excBase_ValueError;have kC:=X _ _ l;have TL : OwnTail hp VEm (.ref W :: VEm):=PySem.W.tail_of_in X c.tl;have up : ∀ b o,hp.get? b = some o → ((hp.push (Jyd us)).push (xObj C hp.objs.size)).get? b = some o:=fun b o e=>Heap.get?_push_of_some _ (Heap.get?_push_of_some _ e);have gE : ((hp.push (Jyd us)).push (xObj C hp.objs.size)).get? (hp.objs.size + 1) = some ({ cls:=.ref C,data:=.fields #[.ref hp.objs.size,.none,.none,.none,.bool false,.none] } : Obj):=Heap.get?_push_at (by simp only [Heap.size_push]) rfl;have X2:=X.keeps up;have kC2:=X2 _ _ l;have hcC : (Value.ref C :: .ref W :: VEm).contains (.ref C) = true:=by simp
 repeat (first | with_reducible refine wpAny_loadPart_at kC ?_ | with_reducible refine wpAny_madeBy_exc kC ?_ | wp_step)
 refine codeAny_call_builtin_code (Code.quiet_builtin _ FV.quiet) (wpAny_check_new_subT FV TL kC (codeAny_exc_new_subT FV TL kC ?_ hz));show wpAny _ _ _ _ _ _;unfold isInstance
 repeat (first | with_reducible refine wpAny_loadPart_at gE ?_ | (with_reducible refine wpAny_isSubtype_exc kC2 ?_; rw [hcC]) | wp_step)
 show wpAny _ _ (typeLookup (.ref C) _) _ _ _;refine (PySem.W.looks_findIn X2 c.ini).at (wpAny_holding (wpAny_bind ((PySem.W.bind_fn X2 _ c.fn).at ?_)));refine wpAny_bind (wpAny_mono h (fun r s' hr=>?_) fun _ _ z=>z);obtain ⟨rfl,hQ⟩:=hr
 wp_walk
 exact hQ
theorem Yau {s : Shared} {Q : Value → Shared → Prop} (c : XCls K C W fI) (X : K.In s.heap) (hz : us.length ≤ sizeLine)
  (h : wpAny (model prog w) (A.under (.builtin "type.__call__" ⟨.ref C :: us,[]⟩)) (call (.ref fI) (.ref (s.heap.objs.size + 1) :: us)) (fun r s'=>r = .none ∧ Q (.ref (s.heap.objs.size + 1)) s') E { s with heap:=(s.heap.push (Jyd us)).push (xObj C s.heap.objs.size) }) :
  wpAny (model prog w) A (call (.ref C) us) Q E s:=by
 obtain ⟨hp,g,d,t,os⟩:=s;obtain ⟨nm,q,N,bs,sn,sub,ab,col,dd,k0,k1,k2,k3,k5,l⟩:=c.obj;have kC:=X _ _ l;have v1:=tc_lookup;have v2:=tc_bind (.ref C);have hT : (⟨hp,g,d,t,os⟩ : Shared).TypeIs (.ref C) "type" := ⟨_,kC,rfl⟩;refine wpAny_call (codeAny_of_tree ?_);show wpAny _ _ (callAny (.ref C) _) _ _ _
 repeat (any_goals (first | assumption | with_reducible refine wpAny_loadPart_at kC ?_ | wp_step))
 exact ⟨rfl,codeAny_call_builtin_at (Code.quiet_builtin _ (by decide +kernel)) entry_typeCall (wpAny_check_type_call_sub kC (Y7 c X hz h))⟩
end
end L2
namespace L2
open PySem PySem.Spec PyProof.Rows
noncomputable def XO (e C : Addr) (dx : Option Addr) (fr : Bool) : HO:=.ext fun h=>∃ o vs,h.get? e = some o ∧ o.cls = .ref C ∧ o.dict = dx ∧ o.data = .fields vs ∧ (∃ t,vs[0]? = some (.ref t)) ∧ ∃ y,vs[1]? = some y ∧ (fr = true → y = .none)
noncomputable def XD (dx : Addr) (fs : List (Str × V)) : HO:=.ext fun h=>∃ mA,h.Ns1 dx mA ∧ (∀ f,RelO (fs.lookup f) (mA f)) ∧ PySem.Within mA (fs.map (·.1)) ∧ fs.length ≤ 1000
section
variable {P : Program} {w : World} {H : Hp} {h : Heap} {e C dx : Addr} {od : Option Addr} {fr : Bool} {fs : List (Str × V)}
theorem Y8 {o : Obj} {vs : Array Value} (he : h.get? e = some o) (h1 : o.cls = .ref C) (h2 : o.dict = od) (h3 : o.data = .fields vs) (h4 : ∃ t,vs[0]? = some (.ref t)) (h5 : ∃ y,vs[1]? = some y ∧ (fr = true → y = .none)) : ObjOk P w H h e (XO e C od fr) :=
 ⟨⟨o,vs,he,h1,h2,h3,h4,h5⟩,⟨o,he⟩,fun _ _ ⟨o,vs,a,r⟩ k=>⟨o,vs,k o a,r⟩⟩
theorem Jup (hok : HOk P w H h) (q : H e = some (XO e C od fr)) : ∃ o vs,h.get? e = some o ∧ o.cls = .ref C ∧ o.dict = od ∧ o.data = .fields vs ∧ (∃ t,vs[0]? = some (.ref t)) ∧ ∃ y,vs[1]? = some y ∧ (fr = true → y = .none):=(hok e _ q).1
theorem xd_ok {mA : Str → Option Value} (n : h.Ns1 dx mA) (r : ∀ f,RelO (fs.lookup f) (mA f)) (w' : PySem.Within mA (fs.map (·.1))) (z : fs.length ≤ 1000) : ObjOk P w H h dx (XD dx fs) :=
 ⟨⟨mA,n,r,w', z⟩,(let ⟨o,_,_,q,_⟩:=n; ⟨o,q⟩),fun _ _ ⟨m,a,r⟩ k=>⟨m,a.at k,r⟩⟩
theorem xd_get (hok : HOk P w H h) (q : H dx = some (XD dx fs)) : ∃ mA,h.Ns1 dx mA ∧ (∀ f,RelO (fs.lookup f) (mA f)) ∧ PySem.Within mA (fs.map (·.1)) ∧ fs.length ≤ 1000:=(hok dx _ q).1
theorem Yav (hok : HOk P w H h) (q : H e = some (XO e C (some dx) fr)) (qd : H dx = some (XD dx fs)) : ∃ (ox oD : Obj) (mA : Str → Option Value),PySem.W.InstAt h e ox C (some oD) ∧ (∀ n,PySem.W.lookIn n oD = some (mA n)) ∧ ∀ f,RelO (fs.lookup f) (mA f):=by
 obtain ⟨o,vs,he,hc,hd,hf,_⟩:=Jup hok q;obtain ⟨mA,n1,r,_⟩:=xd_get hok qd;obtain ⟨oD,hD,hl⟩:=Jti n1;exact ⟨o,oD,mA,⟨he,hc,by unfold PySem.W.notCls; rw [hf],by rw [hd]; exact hD⟩,hl,r⟩
end
section
variable {X : Cx} {pins : List (Addr × Obj)} {σ : St} {H : Hp} {s : Shared} {e C W fI dx : Addr} {fs : List (Str × V)} {fr : Bool} {f : Str} {v : V} {A : Around} {E : Value → Shared → Prop}
theorem Y9 {y : V} {u : Value} {Q : Unit → Shared → Prop} (I : Inv X pins σ H s) (q : H e = some (XO e C none fr)) (c : XCls X.K C W fI) (n : NoAttr X.K C f) (ry : RelV y u)
  (h : ∀ dx s', H dx = none → dx ≠ e → Inv X pins σ (upd (upd H dx (XD dx [(f,y)])) e (XO e C (some dx) fr)) s' → Q () s') : wpAny (model X.prog X.w) A (setAttr (.ref e) f u) Q E s:=by
 obtain ⟨o,vs,he,hc,hd,hf,h0,h1⟩:=Jup I.hok q;have ne : s.heap.objs.size ≠ e:=Nat.ne_of_gt (Heap.lt_size he);have hn : H s.heap.objs.size = none:=I.hok.fresh (Nat.le_refl _);refine Jwk c I.kIn he hc hd hf n fun h' kp ke n1=>h s.heap.objs.size _ hn ne ?_;have hD : h'.get? s.heap.objs.size ≠ none:=by obtain ⟨oD,_,_,q1,_⟩:=n1; rw [q1]; exact fun z=>nomatch z
 have qd : ∀ m : Hp,ObjOk X.prog X.w m h' s.heap.objs.size (XD s.heap.objs.size [(f,y)]):=fun m=>xd_ok n1 (fun g=>by
  by_cases z : g = f
  ·have zb : (g == f) = true:=beq_iff_eq.mpr z;simp only [List.lookup,zb,if_pos z]; exact ry
  ·have zb : (g == f) = false:=beq_eq_false_iff_ne.mpr z;simp only [List.lookup,zb,if_neg z]; exact True.intro) (fun g hg=>by
  by_cases z : g = f
  ·rw [z]; simp
  ·exact absurd (if_neg z) hg) (by simp)
 have un1 : Un X.fs [] H (upd (upd H s.heap.objs.size (XD s.heap.objs.size [(f,y)])) e (XO e C (some s.heap.objs.size) fr)) s.heap h':=by
  have nb : ∀ b ob,s.heap.get? b = some ob → b ≠ s.heap.objs.size:=fun b ob z=>Nat.ne_of_lt (Heap.lt_size z);have sm : ∀ b u', H b = some u' → u' ≠ XO e C none fr → upd (upd H s.heap.objs.size (XD s.heap.objs.size [(f,y)])) e (XO e C (some s.heap.objs.size) fr) b = some u':=fun b u' z d=>by
   rw [Jk7 (fun w' : b = e=>d (by rw [w', q] at z; exact (Option.some.inj z).symm)),Jk7 (Jk8 z hn)]; exact z
  refine ⟨fun b ob z n _ _=>kp b ob (fun w'=>by rw [w', q] at n; cases n) z,fun b ob z n _ _=>⟨ob.slots,kp b ob (fun w'=>by rw [w', q] at n; cases n) z⟩,fun b ob z n _=>?_,fun b ob z _=>?_,fun b xs z=>sm b _ z (fun w'=>by cases w'),fun b ob u' z=>sm b _ z (fun w'=>by cases w'),fun b ps z=>⟨#[],by rw [sm b _ z (fun w'=>by cases w')]; simp⟩⟩
  ·rw [Jk7 (fun w'=>by rw [w', q] at n; cases n),Jk7 (nb b ob z)]; exact n
  ·by_cases w' : b = e
   ·exact ⟨_,by rw [w']; exact ke⟩
   ·exact ⟨ob,kp b ob w' z⟩
 refine I.un (t':=s.toks + 2) un1 fun b ob z=>?_;by_cases w1 : b = e
 ·subst w1;rw [Jk0] at z; cases z;exact Y8 ke hc rfl hf h0 h1
 ·rw [Jk7 w1] at z;by_cases w2 : b = s.heap.objs.size
  ·subst w2;rw [Jk0] at z; cases z;exact qd _
  ·rw [Jk7 w2] at z;have keep : ∀ c' u', H c' = some u' → u' ≠ XO e C none fr → upd (upd H s.heap.objs.size (XD s.heap.objs.size [(f,y)])) e (XO e C (some s.heap.objs.size) fr) c' = some u':=fun c' u' zz d=>by
    rw [Jk7 (fun w' : c' = e=>d (by rw [w', q] at zz; exact (Option.some.inj zz).symm)),Jk7 (Jk8 zz hn)]; exact zz
   refine (I.hok b ob z).stay (fun c' v' hc' zz=>kp c' v' ?_ zz) (fun c' zz=>keep c' _ zz (fun w'=>by cases w')) fun c' xs zz=>keep c' _ zz (fun w'=>by cases w');rcases hc' with rfl | hc'
   ·exact w1
   ·rintro rfl; rw [q] at hc'; cases hc'
theorem Inv.xmade {us : List Value} (I : Inv X pins σ H s) : Inv X pins σ (upd H (s.heap.objs.size + 1) (XO (s.heap.objs.size + 1) C none true)) { s with heap:=(s.heap.push (Jyd us)).push (xObj C s.heap.objs.size) }:=by
 have I1:=I.kept (h':=s.heap.push (Jyd us)) (t':=s.toks) fun b u q=>Heap.get?_push_of_some _ q;refine I1.laid (a:=s.heap.objs.size + 1) (t':=s.toks) (fun b u q=>Heap.get?_push_of_some _ q) (Nat.le_of_eq (Heap.size_push _ _)) ?_;exact Y8 (Heap.get?_push_at (by simp only [Heap.size_push]) rfl) rfl rfl rfl ⟨_,rfl⟩ ⟨_,rfl,fun _=>rfl⟩
end
noncomputable def sFldN (K : PySem.W.Frag) (ta tv : TE) (f : Str) : TS:=fun D σ H=>tv σ H fun y H1=>ta σ H1 fun x H2=>∃ e C W fI fr,x = .ref e ∧ H2 e = some (XO e C none fr) ∧ XCls K C W fI ∧ NoAttr K C f ∧ ∀ dx,H2 dx = none → dx ≠ e →
 D.nx σ (upd (upd H2 dx (XD dx [(f,y)])) e (XO e C (some dx) fr))
noncomputable def tExc (C : Addr) (sp : Sp) (t : TA) : TE:=fun σ H Q=>t σ H fun vs H1=>vs.length ≤ 1000 ∧ ∀ e,H1 e = none → sp (.ref e :: vs) (upd H1 e (XO e C none true)) (fun v H2=>v = .non ∧ Q (.ref e) H2) E0
section
variable {X : Cx} {o e value : Expr} {f : Str} {pos pos' tpos p : Pos} {ta tv : TE} {C W fI : Addr} {fd : FuncData} {ps : List Str} {sp : Sp} {k j : Nat} {x : Str} {es : List Expr} {t : TA}
theorem Jmm (ha : PE X o ta) (hv : PE X value tv) (hs : swapsWith value (some (.Attribute o f pos')) pos.line X.env = pure false) : PS X (.Assign [.Attribute o f pos'] value pos) (sFldN X.K ta tv f):=by
 intro pins s σ H D I h;refine plainObj_wpAny_Assign_Attribute (thn (hv pins s σ H _ I h) fun u s1 ⟨y,H1,I1,ry,q⟩=>thn (ha pins s1 σ H1 _ I1 q) fun ov s2 ⟨x,H2,I2,rx,a,C,W,fI,fr,ex,ea,c,n,q2⟩=>?_) hs;subst ex;obtain rfl : ov = Value.ref a:=rx;exact Y9 I2 ea c n ry fun dx s3 h1 h2 I3=>⟨σ,_,I3,q2 dx h1 h2⟩
theorem Ya5 {pins : List (Addr × Obj)} {σ : St} {H : Hp} {s : Shared} {Q : VK} {us : List Value} {vs : List V} (c : XCls X.K C W fI) (G : FnOk X.prog X.w X.K X.mg X.base CX0 k fI fd ps sp) (hr : Room (k + 1) X.A) (hb : Binds X.K fd ps []) (I : Inv X pins σ H s) (r : Vals vs us) (hz : vs.length ≤ 1000)
  (h : ∀ e,H e = none → sp (.ref e :: vs) (upd H e (XO e C none true)) (fun v H2=>v = .non ∧ Q (.ref e) H2) E0) : wpAny (model X.prog X.w) X.A (call (.ref C) us) (EP X pins σ Q) X.xe s:=by
 have hq:=h (s.heap.objs.size + 1) (I.hok.fresh (Nat.le_succ _));have I2:=Inv.xmade (C:=C) (us:=us) I;have r2 : Vals (V.ref (s.heap.objs.size + 1) :: vs) (Value.ref (s.heap.objs.size + 1) :: us):=.cons rfl r;have hl : (Value.ref (s.heap.objs.size + 1) :: us ++ []).length = ps.length:=by
  rw [List.append_nil,← r2.length,G.len _ _ _ _ hq]
 refine Yau c I.kIn (by rw [← r.length]; exact Nat.le_trans hz (by decide)) (wpAny_call (codeAny_mono (G.run _ X.stack _ _ ⟨Value.ref (s.heap.objs.size + 1) :: us,[]⟩ (Value.ref (s.heap.objs.size + 1) :: us) _ _ E0 (hr.make C us [])
  (I2.env0.make C us []) (by have:=hb _ (Value.ref (s.heap.objs.size + 1) :: us) I2.kIn hl; rw [List.append_nil] at this; exact this) r2 hq) fun r s' hq'=>?_))
 cases r with
 | error e=>exact False.elim hq'
 | ok fl =>
  cases fl with
  | ret u =>
   obtain ⟨v,H', I3,rv,ev,q3⟩:=I2.after hq';subst ev;exact ⟨rv,⟨V.ref (s.heap.objs.size + 1),H', I3,rfl,q3⟩⟩
  | next=>exact False.elim hq'
  | brk=>exact False.elim hq'
  | cont=>exact False.elim hq'
theorem Jlr (c : XCls X.K C W fI) (G : FnOk X.prog X.w X.K X.mg X.base CX0 k fI fd ps sp) (hr : Room j X.A) (hk : k + 1 ≤ j) (hb : Binds X.K fd ps []) (hm : X.mg x = some (.ref C)) (ha : PA X (e :: es) t) (hg : Gl X x:=by rfl)
  (hdb : (x == ("__debug__" : Str)) = false:=by decide) (he : starEach (e :: es) X.env = (false,eval e X.env) :: starEach es X.env:=by rfl) (hpl : (backTo pos (starEach es X.env)).any (·.1) = false:=by rfl) :
  PE X (.Call (.Name x p) (e :: es) [] pos) (tExc C sp t):=by
 intro pins s σ H Q I h;refine wpAny_Call_Name_kw (Jpu I hg hm ?_ hdb);refine PySem.W.callWith_K (h₀:=X.base) I.ok.mod.kin c.kp (thn (ha pos pins s σ H _ I h) fun us s1 ⟨vs,H1,I1,r,z,q⟩=>⟨I1.kIn,?_⟩) he hpl;exact Ya5 c G (hr.mono hk) hb I1 r z q
end
section
variable {K : PySem.W.Frag} {C W fI : Addr} {x : Addr}
theorem xkit (c : XCls K C W fI) : PySem.W.KitX K (.ref x) (.ref C) (fun h=>∃ ox od,PySem.W.InstAt h x ox C (some od)) where
 ty:=fun _ _ _ ⟨_,_,I⟩=>I.type
 it:=fun _ _ X _=>by
  obtain ⟨nm,q,N,bs,sn,sub,ab,col,dd,k0,k1,k2,k3,k5,l⟩:=c.obj;intro A' Q' E' s' k q;unfold isType loadHead;exact wpAny_bind (wpAny_loadPart (k _ _ (X _ _ l)) (wpAny_pure q))
 ne:=fun h tp dd its n sl X htp=>by
  obtain ⟨nm,q,N,bs,sn,sub,ab,col,dd,k0,k1,k2,k3,k5,l⟩:=c.obj;refine Bool.eq_false_iff.mpr fun z=>?_;have e : C = tp:=Value.ref.inj (beq_iff_eq.mp z);subst e;have z:=congrArg (Option.map (·.cls)) ((X _ _ l).symm.trans htp);simp at z
 ca:=fun {prog w A E Q s} X ⟨ox,od,I⟩ kq=>by
  have hf : PySem.W.findObj K C (some od) "__class__" = some (.bind (.builtin "getset_descriptor.__get__") (.builtin "object.__class__")):=PySem.W.findObj_data (by obtain ⟨cd,hc,_⟩:=c.mro; rw [hc]; rfl) c.cl c.cg c.ct;obtain ⟨hp,g,d,t,os⟩:=s;have T0:=I.type (M:=model prog w);have T1:=PySem.W.looks_findIn (M:=model prog w) X c.ga;have T2:=PySem.W.looks_findIn (M:=model prog w) X c.gh;unfold getAttr? getAttrBy? getAttrBy;refine wpAny_bind (wpAny_mkText (wpAny_bind (wpAny_attempt (wpAny_holding (wpAny_bind (T0.at (wpAny_bind (T1.at ?_))))))));show wpAny _ _ (getAttrByItsOwn (.ref x) _ (.ref C) _ _ _) _ _ _;unfold getAttrByItsOwn;refine wpAny_bind (show wpAny _ _ (typeLookup (.ref C) "__getattr__") _ _ _ from T2.at ?_);show wpAny _ _ ((holding _ (boundAndCalled (.builtin "BaseException.__getattribute__") (.ref x) (.str "__class__" t))).attempt >>= _) _ _ _;unfold boundAndCalled;rw [F.excAttr_ValueError.ga.bind];refine wpAny_bind (wpAny_attempt (wpAny_holding (wpAny_bind (wpAny_pure (wpAny_call (Yas (s:=⟨hp,g,d,t + 1,os⟩) c X I hf ?_ (fun z=>nomatch z)))))));show wpAny _ _ (holding [_] (call _ [_,.ref x,.ref C]) >>= ret) _ _ _;refine wpAny_bind (wpAny_holding (wpAny_call (PySem.W.class_get (s:=⟨hp,g,d,t + 1,os⟩) X I c.mo (wpAny_pure ?_))));show wpAny _ _ (handedOut (.ref C)) _ _ _;rw [PySem.W.handedOut_of rfl];exact wpAny_pure (wpAny_pure kq)
end
end L2
namespace L2
open PySem PySem.Spec PyProof.Rows
section
variable {M : Model} {A : Around} {E : Value → Shared → Prop} {s : Shared} {env : Env} {outer : List Env} {base : Heap} {L e T : Addr} {oe oT : Obj} {vs ts : Array Value} {Q : Unit → Shared → Prop}
theorem Jtk {head : Value} {hadNext : Bool} (hfr : A.frames = some (env :: outer)) (hl : s.heap.FunFrames base (env :: outer)) (hf : env.frame = some L) (he : s.heap.get? e = some oe) (hd : oe.data = .fields vs) (hz : 1 < vs.size)
  (hQ : ∀ h' T,(∀ b o,s.heap.get? b = some o → b ∉ frs (env :: outer) → b ≠ e → h'.get? b = some o) → (∀ b o,s.heap.get? b = some o → b ≠ e → ∃ sl,h'.get? b = some { o with slots:=sl }) → s.heap.objs.size ≤ T →
   h'.get? e = some (oe.mapFields (·.setIfInBounds 1 (.ref T))) → (∃ oT ts,h'.get? T = some oT ∧ oT.data = .fields ts ∧ ts[3]? = some (rawInt L)) → Q () { s with heap:=h' }) :
  wpAny M A (do let a ← frameOf env; let pl ← entryPlaceOf L hadNext; let b ← EntryCells.newEntry head a .none (rawInt L) .none pl; setField (.ref e) 1 b) Q E s:=by
 have hen : e ∉ frs (env :: outer):=fun z=>by
  obtain ⟨_,o,ho,nf⟩:=hl.mem z;rw [he] at ho;cases ho;exact nf vs hd
 refine wpAny_bind (wpAny_frameOf_fun hfr hl hf fun h1 sl1=>wpAny_bind (wpAny_entryPlaceOf fun pl hpl=>?_));unfold EntryCells.newEntry newFields;have he1 : h1.get? e = some oe:=(sl1.2.1 e hen).trans he;have nT : h1.objs.size ≠ e:=Nat.ne_of_gt (Heap.lt_size he1);refine wpAny_bind (wpAny_newObj_type (wpAny_setField (Heap.get?_push_of_some _ he1) hd hz (hQ _ h1.objs.size (fun b o hb hn ne=>?_) (fun b o hb ne=>?_) (Nat.le_of_eq sl1.1.symm) (Heap.get?_update_self _ (Heap.get?_push_of_some _ he1) (Obj.isFreed_of_fields (Obj.data_mapFields hd _))) ?_)) (hpl.sizeOk5 _ _ _ _ _))
 ·rw [Heap.get?_update_other _ _ (Ne.symm ne)];exact Heap.get?_push_of_some _ ((sl1.2.1 b hn).trans hb)
 ·obtain ⟨sl,q⟩:=sl1.2.2 b o hb;exact ⟨sl,by rw [Heap.get?_update_other _ _ (Ne.symm ne)]; exact Heap.get?_push_of_some _ q⟩
 ·refine ⟨_,_,(Heap.get?_update_other _ _ (Ne.symm nT)).trans (Heap.get?_push_size h1 rfl),rfl,?_⟩
  first | (simp; done) | (rcases hpl with rfl | ⟨_,_,_,_,_,_,_,rfl⟩ <;> simp)
theorem Jvz (hfr : A.frames = some (env :: outer)) (hl : s.heap.FunFrames base (env :: outer)) (hf : env.frame = some L) (he : s.heap.get? e = some oe) (hd : oe.data = .fields vs) (h1 : vs[1]? = some .none)
  (hQ : ∀ h' T,(∀ b o,s.heap.get? b = some o → b ∉ frs (env :: outer) → b ≠ e → h'.get? b = some o) → (∀ b o,s.heap.get? b = some o → b ≠ e → ∃ sl,h'.get? b = some { o with slots:=sl }) → s.heap.objs.size ≤ T →
   h'.get? e = some (oe.mapFields (·.setIfInBounds 1 (.ref T))) → (∃ oT ts,h'.get? T = some oT ∧ oT.data = .fields ts ∧ ts[3]? = some (rawInt L)) → Q () { s with heap:=h' }) :
  wpAny M A (noteFrame (.ref e) env) Q E s:=by
 unfold noteFrame;simp only [hf];refine wpAny_bind (wpAny_field he hd h1 ?_);rw [if_neg (by decide : ¬ (Value.none != Value.none) = true)];exact Jtk hfr hl hf he hd (Array.getElem?_eq_some_iff.mp h1).1 hQ
theorem Jxo (hfr : A.frames = some (env :: outer)) (hl : s.heap.FunFrames base (env :: outer)) (hf : env.frame = some L) (he : s.heap.get? e = some oe) (hd : oe.data = .fields vs) (h1 : vs[1]? = some (.ref T))
  (hT : s.heap.get? T = some oT) (hdT : oT.data = .fields ts) (h3 : ts[3]? = some .none) (ne : T ≠ e)
  (hQ : ∀ h' T', (∀ b o,s.heap.get? b = some o → b ∉ frs (env :: outer) → b ≠ e → b ≠ T → h'.get? b = some o) → (∀ b o,s.heap.get? b = some o → b ≠ e → b ≠ T → ∃ sl,h'.get? b = some { o with slots:=sl }) → s.heap.objs.size ≤ T' →
   h'.get? e = some (oe.mapFields (·.setIfInBounds 1 (.ref T'))) → (∃ oT ts,h'.get? T' = some oT ∧ oT.data = .fields ts ∧ ts[3]? = some (rawInt L)) → Q () { s with heap:=h' }) :
  wpAny M A (noteFrame (.ref e) env) Q E s:=by
 unfold noteFrame;simp only [hf];refine wpAny_bind (wpAny_field he hd h1 ?_);rw [if_pos (by simp : (Value.ref T != Value.none) = true)];refine wpAny_bind (wpAny_field hT hdT h3 ?_);rw [if_neg (by simp [rawInt] : ¬ (Value.none == rawInt L) = true)];have ot : ∀ b,b ≠ T → (s.heap.update T (Obj.mapFields (·.setIfInBounds 3 Value.none))).get? b = s.heap.get? b:=fun b hb=>Heap.get?_update_other _ _ (Ne.symm hb);have nr : ∀ b o,s.heap.get? b = some o → (∀ ws,o.data ≠ .fields ws) → b ≠ T:=fun b o hb nf z=>by
  rw [z,hT] at hb;cases hb;exact nf ts hdT
 refine wpAny_bind (wpAny_setField hT hdT (Array.getElem?_eq_some_iff.mp h3).1 ?_);refine Jtk (s:={ s with heap:=s.heap.update T (Obj.mapFields (·.setIfInBounds 3 Value.none)) }) hfr (hl.of_keeps fun b o hb nf=>⟨o,(ot b (nr b o hb nf)).trans hb,rfl⟩) hf ((ot e (Ne.symm ne)).trans he) hd (Array.getElem?_eq_some_iff.mp h1).1 fun h' T' k1 k2 k3 k4 k5=>?_;refine hQ h' T' (fun b o hb hn h1 h2=>k1 b o ((ot b h2).trans hb) hn h1) (fun b o hb h1 h2=>k2 b o ((ot b h2).trans hb) h1) ?_ k4 k5;have z : (s.heap.update T (Obj.mapFields (·.setIfInBounds 3 Value.none))).objs.size = s.heap.objs.size:=Heap.size_after_update ..;rw [← z]; exact k3
end
noncomputable def Flt (X : Cx) (pins : List (Addr × Obj)) (H : Hp) (h : Heap) (e : Addr) (fl : Value) : Prop :=
 ∃ oe vs T oT ts,h.get? e = some oe ∧ oe.data = .fields vs ∧ vs[1]? = some (.ref T) ∧ H T = none ∧ h.get? T = some oT ∧ oT.data = .fields ts ∧ ts[3]? = some fl ∧ X.s₀.heap.objs.size ≤ T ∧ ∀ p ∈ X.pn ++ pins,p.1 ≠ T
noncomputable def Yd (X : Cx) : Prop:=X.stack = X.env :: X.outer ∧ X.env.frame = some X.env.locals
section
variable {X : Cx} {pins : List (Addr × Obj)} {σ : St} {H : Hp} {s : Shared} {e C : Addr} {od : Option Addr} {fr fr' : Bool} {A : Around} {M : Model} {E : Value → Shared → Prop} {Q : Unit → Shared → Prop} {fl : Value} {h' : Heap}
theorem Inv.freeOf (I : Inv X pins σ H s) {b : Addr} {o : Obj} {ts : Array Value} (hb : s.heap.get? b = some o) (hd : o.data = .fields ts) : b ≠ X.env.locals ∧ ∀ x c,X.env.cells.lookup x = some c → c ≠ b:=by
 refine ⟨fun z=>?_,fun x c e z=>?_⟩
 ·obtain ⟨m,⟨o', es,ep,ho', hd', _⟩,_⟩:=I.loc;rw [z,ho'] at hb; cases hb; rw [hd'] at hd; cases hd
 ·obtain ⟨v,o', ho', hd'⟩:=I.cell x c e;rw [z,hb] at ho'; cases ho'; rw [hd] at hd'; cases hd'
theorem Inv.fly {ch : List Addr} (I : Inv X pins σ H s) (q : H e = some (XO e C od fr)) (hch : ∀ b ∈ ch,X.s₀.heap.objs.size ≤ b ∧ H b = none ∧ (∃ o ts,s.heap.get? b = some o ∧ o.data = .fields ts) ∧ ∀ p ∈ X.pn ++ pins,p.1 ≠ b)
  (k : ∀ b o,s.heap.get? b = some o → b ∉ frs X.stack → b ≠ e → b ∉ ch → h'.get? b = some o) (ks : ∀ b o,s.heap.get? b = some o → b ≠ e → b ∉ ch → ∃ sl,h'.get? b = some { o with slots:=sl })
  (new : ObjOk X.prog X.w (upd H e (XO e C od fr')) h' e (XO e C od fr')) : Inv X pins σ (upd H e (XO e C od fr')) { s with heap:=h' }:=by
 have ne : ∀ b u,H b = some u → u ≠ XO e C od fr → b ≠ e:=fun b u z d w'=>d (by rw [w', q] at z; exact (Option.some.inj z).symm);have nn : ∀ b,H b = none → b ≠ e:=fun b z w'=>by rw [w', q] at z; cases z
 have u : Un (frs X.stack) ch H (upd H e (XO e C od fr')) s.heap h':=by
  refine ⟨fun b o hb n hs hc=>k b o hb hs (nn b n) hc,fun b o hb n _ hc=>ks b o hb (nn b n) hc,fun b o _ n _=>by rw [Jk7 (nn b n)]; exact n,fun b o hb hc=>?_,fun b xs z=>?_,fun b o u z=>?_,fun b ps z=>⟨#[],?_⟩⟩
  ·by_cases w' : b = e
   ·rw [w']; exact new.2.1
   ·obtain ⟨sl,z⟩:=ks b o hb w' hc;exact ⟨_,z⟩
  ·rw [Jk7 (ne b _ z (fun w'=>by cases w'))]; exact z
  ·rw [Jk7 (ne b _ z (fun w'=>by cases w'))]; exact z
  ·rw [Jk7 (ne b _ z (fun w'=>by cases w')),z]; simp
 refine I.call (g':=s.gens) (d':=s.drawn) (t':=s.toks) (ch:=ch) u (fun b o z=>?_) I.bare fun b hb=>?_
 ·by_cases w' : b = e
  ·subst w';rw [Jk0] at z; cases z;exact new
  ·rw [Jk7 w'] at z;refine (I.hok b o z).stay (fun c v hc zz=>k c v zz ?_ ?_ ?_) (fun c zz=>by rw [Jk7 (ne c _ zz (fun w'=>by cases w'))]; exact zz) fun c xs zz=>by rw [Jk7 (ne c _ zz (fun w'=>by cases w'))]; exact zz
   ·intro hs;have:=I.stkFree c hs;rcases hc with rfl | hc
    ·rw [this] at z; cases z
    ·rw [this] at hc; cases hc
   ·rcases hc with rfl | hc
    ·exact w'
    ·exact ne c _ hc (fun w'=>by cases w')
   ·intro hb;have:=(hch c hb).2.1;rcases hc with rfl | hc
    ·rw [this] at z; cases z
    ·rw [this] at hc; cases hc
 ·obtain ⟨h1,_,⟨o,ts,ho,hd⟩,h4⟩:=hch b hb;exact ⟨.inr h1,(I.freeOf ho hd).1,(I.freeOf ho hd).2,h4⟩
theorem Ys (I : Inv X pins σ H s) (hs : Yd X) (hA : A.frames = some X.stack) (q : H e = some (XO e C od fr)) (hfl : fr = true ∨ Flt X pins H s.heap e .none)
  (h : ∀ s', Inv X pins σ (upd H e (XO e C od false)) s' → Flt X pins (upd H e (XO e C od false)) s'.heap e (rawInt X.env.locals) → Q () s') : wpAny M A (noteFrame (.ref e) X.env) Q E s:=by
 obtain ⟨o,vs,he,hc,hd,hf,⟨t0,h0⟩,y,h1,hy⟩:=Jup I.hok q;have hA' : A.frames = some (X.env :: X.outer):=by rw [hA,hs.1]
 have FF : s.heap.FunFrames X.base (X.env :: X.outer):=by rw [← hs.1]; exact I.stack
 have sub : ∀ b,b ∉ frs X.stack → b ∉ frs (X.env :: X.outer):=fun b z w'=>z (by rw [hs.1]; exact w');have new : ∀ {h' : Heap} {T : Addr},h'.get? e = some (o.mapFields (·.setIfInBounds 1 (.ref T))) → ObjOk X.prog X.w (upd H e (XO e C od false)) h' e (XO e C od false):=fun {h' T} z=>by
  have hz : 1 < vs.size:=(Array.getElem?_eq_some_iff.mp h1).1;refine Y8 z ((Obj.cls_mapFields _ _).trans hc) ?_ (Obj.data_mapFields hf _) ⟨t0,by rw [Array.getElem?_setIfInBounds_ne (by decide)]; exact h0⟩ ⟨.ref T,by simp [hz],fun z=>nomatch z⟩;obtain ⟨_,_,dt,_⟩:=o;cases dt <;> first | exact hd | cases hf
 have fin : ∀ {h' : Heap} {T : Addr},Inv X pins σ (upd H e (XO e C od false)) { s with heap:=h' } → s.heap.objs.size ≤ T → h'.get? e = some (o.mapFields (·.setIfInBounds 1 (.ref T))) → (∃ oT ts,h'.get? T = some oT ∧ oT.data = .fields ts ∧ ts[3]? = some (rawInt X.env.locals)) → Q () { s with heap:=h' }:=fun {h' T} J k3 k4 ⟨oT,ts,k5,k6,k7⟩=>by
  have hz : 1 < vs.size:=(Array.getElem?_eq_some_iff.mp h1).1;refine h _ J ⟨_,_,T,oT,ts,k4,Obj.data_mapFields hf _,by simp [hz],?_,k5,k6,k7,Nat.le_trans I.sz k3,fun p hp z=>?_⟩
  ·rw [Jk7 (fun z=>absurd (Heap.lt_size he) (by rw [← z]; exact Nat.not_lt.mpr k3))];exact I.hok.fresh k3
  ·obtain ⟨z1,_⟩:=I.pin p hp;exact absurd (Heap.lt_size z1) (by rw [z]; exact Nat.not_lt.mpr k3)
 by_cases hfr : y = .none
 ·subst hfr;refine Jvz hA' FF hs.2 he hf h1 fun h' T k1 k2 k3 k4 k5=>fin (I.fly (ch:=[]) q (fun b z=>absurd z (by simp)) (fun b o hb hn ne _=>k1 b o hb (sub b hn) ne) (fun b o hb ne _=>k2 b o hb ne) (new k4)) k3 k4 k5
 ·rcases hfl with z | ⟨oe,ws,T,oT,ts,z1,z2,z3,z4,z5,z6,z7,z8,z9⟩
  ·exact absurd (hy z) hfr
  ·rw [he] at z1; cases z1;rw [hf] at z2; cases z2;have ne : T ≠ e:=fun w'=>by rw [w', q] at z4; cases z4
   refine Jxo hA' FF hs.2 he hf z3 z5 z6 z7 ne fun h' T' k1 k2 k3 k4 k5=>fin (I.fly (ch:=[T]) q (fun b hb=>?_) (fun b o hb hn ne hc=>k1 b o hb (sub b hn) ne (by simpa using hc)) (fun b o hb ne hc=>k2 b o hb ne (by simpa using hc)) (new k4)) k3 k4 k5;obtain rfl : b = T:=by simpa using hb
   exact ⟨z8,z4,⟨oT,ts,z5,z6⟩,z9⟩
theorem Jxh (I : Inv X pins σ H s) (q : H e = some (XO e C od fr)) (hfl : Flt X pins H s.heap e fl) (h : ∀ s', Inv X pins σ H s' → Flt X pins H s'.heap e .none → Q () s') : wpAny M A (setFlight (.ref e) none) Q E s:=by
 obtain ⟨oe,vs,T,oT,ts,z1,z2,z3,z4,z5,z6,z7,z8,z9⟩:=hfl;have hz : 3 < ts.size:=(Array.getElem?_eq_some_iff.mp z7).1;have ne : T ≠ e:=fun w'=>by rw [w', q] at z4; cases z4
 have ot : ∀ b,b ≠ T → (s.heap.update T (Obj.mapFields (·.setIfInBounds 3 Value.none))).get? b = s.heap.get? b:=fun b hb=>Heap.get?_update_other _ _ (Ne.symm hb);refine wpAny_setFlight_none z1 z2 z3 z5 z6 hz (h _ (I.turned (it:=T) (t':=s.toks) (fun b o hb z=>(ot b hb).trans z) z4 (I.freeOf z5 z6).1 (.inr z8) (I.freeOf z5 z6).2 z9) ?_);exact ⟨oe,vs,T,_,_,(ot e (Ne.symm ne)).trans z1,z2,z3,z4,Heap.get?_update_self _ z5 (Obj.isFreed_of_fields (Obj.data_mapFields z6 _)),Obj.data_mapFields z6 _,by simp [hz],z8,z9⟩
end
noncomputable def CXX (P : Program) (w : World) : CXT:=fun outer H s E ev s'=>∃ e C dx H', ev = .ref e ∧ s'.os = s.os ∧ AllBare s'.gens ∧ Un (frs outer) [] H H' s.heap s'.heap ∧ HOk P w H' s'.heap ∧ H' e = some (XO e C (some dx) false) ∧
 (∃ oe vs T oT ts,s'.heap.get? e = some oe ∧ oe.data = .fields vs ∧ vs[1]? = some (.ref T) ∧ H' T = none ∧ s'.heap.get? T = some oT ∧ oT.data = .fields ts ∧ ts[3]? = some .none ∧ s.heap.objs.size ≤ T) ∧ E (.ref C) (some e) H'
noncomputable def Jur (X : Cx) (R : St → XK) : Prop:=∀ pins σ H s e C dx fr,Inv X pins σ H s → H e = some (XO e C (some dx) fr) → (fr = true ∨ Flt X pins H s.heap e .none) → R σ (.ref C) (some e) (upd H e (XO e C (some dx) false)) → X.xe (.ref e) s
theorem Jl5 {P : Program} {w : World} {K : PySem.W.Frag} {mg : Str → Option Value} {base : Heap} {N : List Str} {qual : Str} {scope : Scope} {f : Addr} {cd : Value} {A : Around} {outer : List Env} {s : Shared} {H : Hp} {E : XK} :
  Jur (Jux (CXX P w) P w K mg base N qual scope f cd A outer s H E) (fun _=>E):=by
 intro pins σ H1 s1 e C dx fr I q hfl hE;show wpAny _ _ (leaving _ _) _ _ _;unfold leaving;refine wpAny_bind (Ys I ⟨rfl,rfl⟩ I.ok.frames q hfl fun s2 I2 f2=>Jxh I2 Jk0 f2 fun s3 I3 f3=>?_);obtain ⟨oe,vs,T,oT,ts,z1,z2,z3,z4,z5,z6,z7,z8,_⟩:=f3;exact ⟨e,C,dx,_,rfl,I3.os,I3.bare,I3.base,I3.hok,Jk0,⟨oe,vs,T,oT,ts,z1,z2,z3,z4,z5,z6,z7,z8⟩,hE⟩
theorem upd_id {H : Hp} {a : Addr} {o : HO} (h : H a = some o) : upd H a o = H:=by
 funext b;unfold upd;split
 ·rename_i z; rw [z,h]
 ·rfl
section
variable {X : Cx} {pins : List (Addr × Obj)} {σ : St} {H : Hp} {s s' : Shared} {R : St → XK} {ev : Value}
theorem Yaw (hw : Jur X R) (I : Inv X pins σ H s) (h : CXX X.prog X.w X.stack H s (R σ) ev s') : X.xe ev s':=by
 obtain ⟨e,C,dx,H', rfl,ho,hg,un,hok,q,⟨oe,vs,T,oT,ts,z1,z2,z3,z4,z5,z6,z7,z8⟩,hR⟩:=h;have I' : Inv X pins σ H' s':=I.call' (ch:=[]) ho un hok hg fun b z=>absurd z (by simp);refine hw pins σ H' s' e C dx false I' q (.inr ⟨oe,vs,T,oT,ts,z1,z2,z3,z4,z5,z6,z7,Nat.le_trans I.sz z8,fun p hp z=>?_⟩) (by rw [upd_id q]; exact hR);obtain ⟨y1,_⟩:=I.pin p hp;exact absurd (Heap.lt_size y1) (by rw [z]; exact Nat.not_lt.mpr z8)
end
theorem FnOk.calm {P : Program} {w : World} {K : PySem.W.Frag} {mg : Str → Option Value} {base : Heap} {k : Nat} {f : Addr} {fd : FuncData} {ps : List Str} {sp : Sp} (G : FnOk P w K mg base (CXX P w) k f fd ps sp) : FnOk P w K mg base CX0 k f fd ps (fun vs H Q _=>sp vs H Q E0) :=
 ⟨fun vs H Q _ h=>G.len vs H Q E0 h,fun A outer s H args us vs Q E hr he hb hv hs=>codeAny_mono (G.run A outer s H args us vs Q E0 hr he hb hv hs) fun r s' hq=>by
  cases r with
  | error e=>obtain ⟨_,_,_,_,_,_,_,_,_,_,_,z⟩:=hq; exact z.elim
  | ok fl=>cases fl <;> exact hq⟩
theorem Fun.okX {P : Program} {w : World} {K : PySem.W.Frag} {mg : Str → Option Value} {base : Heap} {x qual : Str} {st : Stmt} {f : Addr} {fd : FuncData} {N ps : List Str} {k : Nat} {sp : Sp} (F : Fun K x qual st f fd) (S : Jkb N ps (Jk6 st)) (len : ∀ vs H Q E,sp vs H Q E → vs.length = ps.length)
  (hbody : ∀ (cdv : Value) (A : Around) (outer : List Env) (s : Shared) (H : Hp) (vs : List V) (Q : VK) (E : XK),Room k (A.deeper (envOfC qual (Jk6 st) s.heap.objs.size f cdv)) → sp vs H Q E →
   ∃ t,PSs (Jux (CXX P w) P w K mg base N qual (Jk6 st) f cdv A outer s H E) (Jm7 st) t ∧ t { nx:=fun _ H'=>Q .non H', rt:=Q } (start N vs) H) : FnOk P w K mg base (CXX P w) (k + 1) f fd ps sp:=by
 obtain ⟨oc,od,kV,doc,pm,an,cdv,ct,osl,rfl,lk,hcd⟩:=F.ex;exact fn_of lk hcd S len fun A outer s H vs Q E hr hsp=>hbody cdv A outer s H vs Q E hr hsp
noncomputable def tCallX (sp : Sp) (R : St → XK) (t : TA) : TE:=fun σ H Q=>t σ H fun vs H1=>sp vs H1 Q (R σ)
section
variable {X : Cx} {k j : Nat} {f C : Addr} {fd : FuncData} {ps : List Str} {sp : Sp} {R : St → XK} {x m : Str} {p pos apos : Pos} {e o : Expr} {es : List Expr} {ta : TE} {t : TA}
theorem Ya6 {pins : List (Addr × Obj)} {σ : St} {H : Hp} {s : Shared} {Q : VK} {us : List Value} {vs : List V} (G : FnOk X.prog X.w X.K X.mg X.base (CXX X.prog X.w) k f fd ps sp) (hw : Jur X R) (hr : Room k X.A) (hb : Binds X.K fd ps [])
  (I : Inv X pins σ H s) (r : Vals vs us) (h : sp vs H Q (R σ)) : wpAny (model X.prog X.w) X.A (call (.ref f) us) (EP X pins σ Q) X.xe s:=by
 have hl : (us ++ []).length = ps.length:=by rw [List.append_nil,← r.length,G.len _ _ _ _ h]
 have hb':=hb s us I.kIn hl;rw [List.append_nil] at hb';refine wpAny_call (codeAny_mono (G.run X.A X.stack s H ⟨us,[]⟩ us vs Q (R σ) hr I.env0 hb' r h) fun r s' hq=>?_);cases r with
 | error e=>exact Yaw hw I hq
 | ok fl =>
  cases fl with
  | ret u=>exact I.after hq
  | next=>exact False.elim hq
  | brk=>exact False.elim hq
  | cont=>exact False.elim hq
theorem Jm5 {st : Stmt} (F : FT X.K X.mg x st ps f fd) (G : FnOk X.prog X.w X.K X.mg X.base (CXX X.prog X.w) k f fd ps sp) (hw : Jur X R) (hr : Room j X.A) (hk : k ≤ j) (ha : PA X (e :: es) t) (hg : Gl X x:=by rfl)
  (hdb : (x == ("__debug__" : Str)) = false:=by decide) (he : starEach (e :: es) X.env = (false,eval e X.env) :: starEach es X.env:=by rfl) (hpl : (backTo pos (starEach es X.env)).any (·.1) = false:=by rfl) :
  PE X (.Call (.Name x p) (e :: es) [] pos) (tCallX sp R t):=by
 intro pins s σ H Q I h;refine wpAny_Call_Name_kw (Jpu I hg F.mgx ?_ hdb);refine PySem.W.callWith_K (h₀:=X.base) I.ok.mod.kin F.fn.kp (thn (ha pos pins s σ H _ I h) fun us s1 ⟨vs,H1,I1,r,q⟩=>⟨I1.kIn,?_⟩) he hpl;exact Ya6 G hw (hr.mono hk) F.bd I1 r q
end
end L2
namespace L2
open PySem PySem.Spec PyProof.Rows
noncomputable def Jz9 (K : PySem.W.Frag) (R : St → XK) (te : TE) : TS:=fun _ σ H=>te σ H fun v H1=>∃ e C W fI dx,v = .ref e ∧ H1 e = some (XO e C (some dx) true) ∧ XCls K C W fI ∧ R σ (.ref C) (some e) (upd H1 e (XO e C (some dx) false))
section
variable {X : Cx} {R : St → XK} {x : Expr} {pos : Pos} {te : TE}
theorem Jl4 (hw : Jur X R) (hc : X.calm = true) (hx : PE X x te) : PS X (.Raise (some x) none pos) (Jz9 X.K R te):=by
 intro pins s σ H D I h;rw [arm_exec_Raise];refine wpAny_bind (wpAny_standAt ?_);show wpAny _ _ (raiseStmt X.env (some (do let v ← eval x X.env; standAt pos; pure v)) none) _ _ _;unfold raiseStmt;refine wpAny_bind (wpAny_bind (thn (hx pins s σ H _ I h) fun u s1 ⟨y,H1,I1,ry,e,C,W,fI,dx,ey,q,c,k⟩=>wpAny_bind (wpAny_standAt (wpAny_pure ?_))));subst ey;obtain rfl : u = Value.ref e:=ry;obtain ⟨o,vs,he,hcl,hd,hf,h0,y,h1,hy⟩:=Jup I1.hok q;have hy':=hy rfl;subst hy';have fin : X.xe (.ref e) s1:=hw pins σ H1 s1 e C dx true I1 q (.inl rfl) k;have hh : X.A.handled = none:=I.ok.hd hc;obtain ⟨nm,qn,N,bs,sn,sub,ab,col,dd,k0,k1,k2,k3,k5,l⟩:=c.obj;have kC:=I1.kIn _ _ l;have hcB : (Value.ref C :: .ref W :: VEm).contains (.type "BaseException") = true:=by simp
 obtain ⟨oc,odi,oda,osl⟩:=o;dsimp only at hcl hd hf;subst hcl hd hf;obtain ⟨hp,g,d,tk,os⟩:=s1
 repeat (first | with_reducible refine wpAny_loadPart_at he ?_ | with_reducible refine wpAny_loadPart_at kC ?_ | (with_reducible refine wpAny_isSubtype_exc kC ?_; rw [hcB]) | with_reducible refine wpAny_field he rfl h1 ?_ | wp_step)
 exact wpAny_raiseNew_none hh fin
end
structure ECls (K : PySem.W.Frag) (C : Addr) : Prop where
 obj : ∃ (dd : Option Addr) (cd : ClassData) (sl : Array (Option Value)),K.lookup C = some ⟨.type "type",dd,.cls cd,sl⟩
 mb : PySem.W.mroIn K C (.type "BaseException") = some true
theorem XCls.e {K : PySem.W.Frag} {C W fI : Addr} (c : XCls K C W fI) : ECls K C:=by
 obtain ⟨nm,qn,N,bs,sn,sub,ab,col,dd,k0,k1,k2,k3,k5,l⟩:=c.obj;exact ⟨⟨_,_,_,l⟩,c.mb⟩
section
variable {prog : Program} {w : World} {A : Around} {E : Value → Shared → Prop} {s : Shared} {K : PySem.W.Frag} {e C C0 : Addr} {oe : Obj} {b : Bool}
end
section
variable {X : Cx} {pins pins' : List (Addr × Obj)} {σ : St} {H : Hp} {s : Shared} {R : St → XK} {e : Addr}
end
section
variable {X : Cx} {x n : Str} {np pos : Pos} {C0 : Addr} {i : Nat} {b₀ : Stmt} {suite : List Stmt} {rest : List ExceptHandler} {ts : Addr → TS} {th : TH}
end
end L2
namespace L2
open PySem PySem.Spec PyProof.Rows
structure FM (K : PySem.W.Frag) (x qual : Str) (st : Stmt) (ps : List Str) (f : Addr) (fd : FuncData) : Prop where
 fn : Fun K x qual st f fd
 bd : Binds K fd ps []
structure YCls (K : PySem.W.Frag) (C : Addr) : Prop where
 ya : PySem.W.findIn K (.ref C) "__class__" = some (some (.builtin "object.__class__"))
 yb : PySem.W.specialIn K (.builtin "object.__class__") "__get__" = some (some (.builtin "getset_descriptor.__get__"))
 yc : PySem.W.takesIn K (.builtin "object.__class__") = some true
 yd : PySem.W.mroIn K C (.type "object") = some true
theorem YCls.ty {K : PySem.W.Frag} {C a dx : Addr} {H : Hp} {fs : List (Str × V)} (y : YCls K C) (c : Cls K C) (e : H a = some (.ins C dx fs)) : Jqg K H (.ref a) (.ref C):=.ins e c y.ya y.yb y.yc y.yd
noncomputable def Jmn (K : PySem.W.Frag) (f : Str) : Sp:=fun vs H Q _=>∃ e C W fI y,vs = [.ref e,y] ∧ H e = some (XO e C none true) ∧ XCls K C W fI ∧ NoAttr K C f ∧ ∀ dx,H dx = none → dx ≠ e → Q .non (upd (upd H dx (XD dx [(f,y)])) e (XO e C (some dx) true))
theorem Jxl {K : PySem.W.Frag} {C W fI : Addr} {f : Str} {y : V} {H : Hp} {Q : VK} (c : XCls K C W fI) (n : NoAttr K C f) (k : ∀ e dx,H e = none → H dx = none → dx ≠ e → Q (.ref e) (upd (upd H dx (XD dx [(f,y)])) e (XO e C (some dx) true))) :
  [y].length ≤ 1000 ∧ ∀ e,H e = none → Jmn K f (.ref e :: [y]) (upd H e (XO e C none true)) (fun v H2=>v = .non ∧ Q (.ref e) H2) E0:=by
 refine ⟨by simp,fun e he=>⟨e,C,W,fI,y,rfl,Jk0,c,n,fun dx h1 h2=>⟨rfl,?_⟩⟩⟩;have z:=k e dx he (by rw [Jk7 h2] at h1; exact h1) h2;have e2 : upd (upd (upd H e (XO e C none true)) dx (XD dx [(f,y)])) e (XO e C (some dx) true) = upd (upd H dx (XD dx [(f,y)])) e (XO e C (some dx) true):=by
  funext b;unfold upd;split
  ·rfl
  ·split <;> rfl
 rw [e2];exact z
end L2
namespace L2
open PySem PySem.Spec PyProof.Rows
section
variable {X : Cx} {pins : List (Addr × Obj)} {σ : St} {H : Hp} {s : Shared}
theorem Inv.turnTup {ch : List Addr} {T : Addr} {xs : List V} {h' : Heap} {t' : Nat} (I : Inv X pins σ H s) (hch : ∀ b ∈ ch,Jqd X pins H b) (k : ∀ b o,b ∉ ch → s.heap.get? b = some o → h'.get? b = some o) (hT : s.heap.objs.size ≤ T)
  (new : ObjOk X.prog X.w (upd H T (.tup xs)) h' T (.tup xs)) : Inv X pins σ (upd H T (.tup xs)) { s with heap:=h', toks:=t' }:=by
 have hn : H T = none:=I.hok.fresh hT;have nb : ∀ b o,s.heap.get? b = some o → b ≠ T:=fun b o z w'=>absurd (Heap.lt_size z) (by rw [w']; exact Nat.not_lt.mpr hT);have nt : ∀ b u,H b = some u → b ≠ T:=fun b u z=>Jk8 z hn;have nc : ∀ b u,H b = some u → b ∉ ch:=fun b u z w'=>by rw [(hch b w').1] at z; cases z
 have u : Un (frs X.stack) ch H (upd H T (.tup xs)) s.heap h':=by
  refine ⟨fun b o hb n hs hc=>k b o hc hb,fun b o hb n _ hc=>⟨o.slots,k b o hc hb⟩,fun b o hb n _=>by rw [Jk7 (nb b o hb)]; exact n,fun b o hb hc=>⟨o,k b o hc hb⟩,fun b ys z=>by rw [Jk7 (nt b _ z)]; exact z,fun b o v z=>by rw [Jk7 (nt b _ z)]; exact z,fun b ps z=>⟨#[],by rw [Jk7 (nt b _ z),z]; simp⟩⟩
 refine I.call (g':=s.gens) (d':=s.drawn) (ch:=ch) u (fun b o z=>?_) I.bare fun b hb=>?_
 ·by_cases w' : b = T
  ·subst w';rw [Jk0] at z; cases z;exact new
  ·rw [Jk7 w'] at z;refine (I.hok b o z).stay (fun c v hc zz=>k c v ?_ zz) (fun c zz=>by rw [Jk7 (nt c _ zz)]; exact zz) fun c ys zz=>by rw [Jk7 (nt c _ zz)]; exact zz
   rcases hc with rfl | hc
   ·exact nc c o z
   ·exact nc c _ hc
 ·obtain ⟨_,h1,_,h3,h4,h5⟩:=hch b hb;exact ⟨h3,h1,h4,h5⟩
theorem Inv.turnMany {ch : List Addr} {h' : Heap} {t' : Nat} (I : Inv X pins σ H s) (hch : ∀ b ∈ ch,Jqd X pins H b) (k : ∀ b o,b ∉ ch → s.heap.get? b = some o → h'.get? b = some o) : Inv X pins σ H { s with heap:=h', toks:=t' }:=by
 have nc : ∀ b u,H b = some u → b ∉ ch:=fun b u z w'=>by rw [(hch b w').1] at z; cases z
 have u : Un (frs X.stack) ch H H s.heap h' :=
  ⟨fun b o hb n hs hc=>k b o hc hb,fun b o hb n _ hc=>⟨o.slots,k b o hc hb⟩,fun b o hb n _=>n,fun b o hb hc=>⟨o,k b o hc hb⟩,fun b ys z=>z,fun b o v z=>z,fun b ps z=>⟨#[],by rw [z]; simp⟩⟩
 refine I.call (g':=s.gens) (d':=s.drawn) (ch:=ch) u (fun b o z=>(I.hok b o z).stay (fun c v hc zz=>k c v ?_ zz) (fun _ zz=>zz) fun _ _ zz=>zz) I.bare fun b hb=>?_
 ·rcases hc with rfl | hc
  ·exact nc c o z
  ·exact nc c _ hc
 ·obtain ⟨_,h1,_,h3,h4,h5⟩:=hch b hb;exact ⟨h3,h1,h4,h5⟩
end
theorem Jvq : bootBuiltins "zip" = some (.type "zip"):=by decide +kernel
end L2
namespace L2
open PySem PySem.Spec PyProof.Rows
section
variable {X : Cx} {pins : List (Addr × Obj)} {σ : St} {H : Hp} {s : Shared}
inductive TyX (K : PySem.W.Frag) (H : Hp) : V → Value → Prop where
 | of {x : V} {t : Value} : Jqg K H x t → TyX K H x t
 | exc {e C W fI dx : Addr} {fs : List (Str × V)} {fr : Bool} : H e = some (XO e C (some dx) fr) → H dx = some (XD dx fs) → XCls K C W fI → TyX K H (.ref e) (.ref C)
theorem TyX.kit {x : V} {u t : Value} (I : Inv X pins σ H s) (rx : RelV x u) (ty : TyX X.K H x t) : u ≠ .builtin "__main__.__loader__#opaque" ∧ ∃ Hh,PySem.W.KitX X.K u t Hh ∧ Hh s.heap:=by
 cases ty with
 | exc q qd c =>
  obtain rfl : u = Value.ref _:=rx;obtain ⟨ox,oD,mA,J,_,_⟩:=Yav I.hok q qd;exact ⟨(fun z=>nomatch z),_,xkit c,ox,oD,J⟩
 | of ty =>
  cases ty with
  | non=>cases (show u = Value.none from rx); exact ⟨(fun z=>nomatch z),_,PySem.W.kitx_none,trivial⟩
  | bl y=>cases (show u = Value.bool y from rx); exact ⟨(fun z=>nomatch z),_,PySem.W.kitx_bool,trivial⟩
  | int i=>obtain ⟨t,q⟩:=(show ∃ t,u = Value.int i t from rx); cases q; exact ⟨(fun z=>nomatch z),_,PySem.W.kitx_int,trivial⟩
  | str y=>obtain ⟨t,q⟩:=(show ∃ t,u = Value.str y t from rx); cases q; exact ⟨(fun z=>nomatch z),_,PySem.W.kitx_str,trivial⟩
  | flt y=>obtain ⟨t,q⟩:=(show ∃ t,u = Value.float y t from rx); cases q; exact ⟨(fun z=>nomatch z),_,PySem.W.kitx_float,trivial⟩
  | @lst a xs ea =>
   cases (show u = Value.ref a from rx);obtain ⟨_,_,n,_,h1⟩:=(show ObjOk X.prog X.w H s.heap a (.lst xs) from I.hok a _ ea);exact ⟨(fun z=>nomatch z),_,PySem.W.kitx_list,_,h1,rfl⟩
  | @frz a ob xs ea =>
   cases (show u = Value.ref a from rx);obtain ⟨_,_,_,n,_,h1⟩:=(show ObjOk X.prog X.w H s.heap a (.frz ob (.lst xs)) from I.hok a _ ea);exact ⟨(fun z=>nomatch z),_,PySem.W.kitx_list,_,h1,rfl⟩
  | @tup a xs ea =>
   cases (show u = Value.ref a from rx);obtain ⟨_,_,_,o,h1,h2,_⟩:=(show ObjOk X.prog X.w H s.heap a (.tup xs) from I.hok a _ ea);exact ⟨(fun z=>nomatch z),_,PySem.W.kitx_tuple,o,h1,h2⟩
  | @dK a kvs ea =>
   cases (show u = Value.ref a from rx);obtain ⟨_,_,vs,_,o,es,ep,h1,h2,_⟩:=(show ObjOk X.prog X.w H s.heap a (.dK kvs) from I.hok a _ ea);exact ⟨(fun z=>nomatch z),_,PySem.W.kitx_dict,o,h1,h2.1⟩
  | @dT a kvs ea =>
   cases (show u = Value.ref a from rx);obtain ⟨_,_,xs,_,o,es,ep,h1,h2,_⟩:=(show ObjOk X.prog X.w H s.heap a (.dT kvs) from I.hok a _ ea);exact ⟨(fun z=>nomatch z),_,PySem.W.kitx_dict,o,h1,h2.1⟩
  | @ins a C dx fs ea cl ha hn htk hm =>
   cases (show u = Value.ref a from rx);obtain ⟨mA,O,_⟩:=Jrr I.hok ea;obtain ⟨od,J,_⟩:=O.look;exact ⟨(fun z=>nomatch z),_,PySem.W.kitx_own (cl.get _) cl.hd ha hn htk hm,J⟩
noncomputable def rIsA (K : PySem.W.Frag) : List V → Hp → VK → Prop:=fun xs H Q=>∃ x c u t b,xs = [x,c] ∧ clsV c = some u ∧ TyX K H x t ∧ PySem.W.kitOne K t u = some b ∧ Q (.bl b) H
theorem Jld : Jmo X (.builtin "isinstance") (rIsA X.K):=by
 rintro pins s σ H vs us Q I r ⟨x,c,u,t,b,rfl,hc,ty,ek,k⟩;obtain ⟨v,w', rfl,r1,r2⟩:=Jvn r;have e2 : w' = u:=by
  cases c with
  | ty n=>cases hc; cases r2; rfl
  | ref a=>cases hc; cases r2; rfl
  | _=>cases hc
 subst e2;obtain ⟨hx,Hh,Z,p⟩:=ty.kit I r1;exact PySem.W.kia_one Z I.kIn p ek hx fun tk=>⟨.bl b,H,I.tok _,rfl,k⟩
theorem Juv : ∀ {cs : List V} {us ws : List Value},cs.mapM clsV = some us → Vals cs ws → ws = us
 | [],us,_,e,.nil=>by cases e; rfl
 | c :: cs,us,_,e,.cons r t=>by
  rw [List.mapM_cons] at e;simp only [Option.bind_eq_bind,Option.bind_eq_some_iff,Option.pure_def,Option.some.injEq] at e;obtain ⟨u,hu,us', hus,rfl⟩:=e;rw [Juv hus t];cases c with
  | ty n=>cases hu; cases r; rfl
  | ref a=>cases hu; cases r; rfl
  | _=>cases hu
noncomputable def rIsT (K : PySem.W.Frag) : List V → Hp → VK → Prop:=fun xs H Q=>∃ x p cs us t b,xs = [x,.ref p] ∧ H p = some (.tup cs) ∧ cs.mapM clsV = some us ∧ TyX K H x t ∧ PySem.W.kitAny K t us = some b ∧ Q (.bl b) H
theorem Jru : Jmo X (.builtin "isinstance") (rIsT X.K):=by
 rintro pins s σ H vs us Q I r ⟨x,p,cs,us', t,b,rfl,hp,hc,ty,ek,k⟩;obtain ⟨v,w', rfl,r1,r2⟩:=Jvn r;obtain rfl : w' = Value.ref p:=r2;obtain ⟨hx,Hh,Z,q⟩:=ty.kit I r1;obtain ⟨_,its,rv,o,h1,h2,n,h3⟩:=(show ObjOk X.prog X.w H s.heap p (.tup cs) from I.hok p _ hp);have e:=Juv hc rv;subst e;obtain ⟨oc,odi,oda,osl⟩:=o;dsimp only at h2 h3;subst h2 h3;exact PySem.W.kia_tup Z I.kIn q h1 ek hx fun tk=>⟨.bl b,H,I.tok _,rfl,k⟩
noncomputable def iSeq (K : PySem.W.Frag) (tl : TE) : TI:=fun σ H R=>tl σ H fun x H1=>∃ a,x = .ref a ∧ (((∃ xs,SqL K H1 a xs) ∧ R (Itl K a) H1) ∨ ((∃ xs,SqT K H1 a xs) ∧ R (Itt K a) H1))
theorem pi_seq {tg l : Expr} {tl : TE} (hl : PE X l tl) : PI X tg l (iSeq X.K tl):=by
 intro pins s σ H R I h;refine thn (hl pins s σ H _ I h) fun v s1 ⟨x,H1,I1,r1,a,e,q1⟩=>?_;subst e;cases r1;have fin : ∀ {J : It} {tn : Nat → Heap → Prop} {o : Obj},Turn X.prog X.w X.K tg J [s1.heap.objs.size] s1.heap.objs.size tn → tn 0 (s1.heap.push o) → R J H1 → PIE X pins σ tg R (.ref s1.heap.objs.size) { s1 with heap:=s1.heap.push o }:=fun {J tn o} T st q=>by
  refine ⟨s1.heap.objs.size,[s1.heap.objs.size],tn,J,H1,rfl,I1.kept (t':=s1.toks) fun b o e=>Heap.get?_push_of_some _ e,T,st,fun b hb=>?_,q⟩;have e : b = s1.heap.objs.size:=by simpa using hb
  subst e;exact I1.fpOk (Nat.le_refl _) (I1.hok.fresh (Nat.le_refl _))
 rcases q1 with ⟨⟨xs,hq⟩,q⟩ | ⟨⟨xs,hq⟩,q⟩
 ·obtain ⟨its,rv,p,hz⟩:=I1.list hq;exact wpAny_pyIter_list p.isList (fin (Jto a _) ⟨_,Heap.get?_push_size _ rfl,rfl,rfl⟩ q)
 ·obtain ⟨its,rv,p,hz⟩:=I1.tuple hq;exact wpAny_pyIter_tuple (show s1.heap.IsTuple a its.toArray from p) (fin (Jsn a _) ⟨_,Heap.get?_push_size _ rfl,rfl,rfl⟩ q)
end
noncomputable def Jun (P : Program) (w : World) (K : PySem.W.Frag) (mg : Str → Option Value) (base : Heap) (j : Nat) (m : Str) (ta : TE) (t : TA) : TE:=fun σ H Q=>ta σ H fun x H1=>∃ a C dx fs f fd ps sp k,x = .ref a ∧ H1 a = some (.ins C dx fs) ∧ fs.lookup m = none ∧ Cls K C ∧ Jlv K C m f ∧ FnOk P w K mg base CX0 k f fd ps sp ∧ k ≤ j ∧ Binds K fd ps [] ∧
 t σ H1 fun vs H2=>sp (x :: vs) H2 Q E0
section
variable {X : Cx} {j : Nat} {m : Str} {apos pos : Pos} {e o : Expr} {es : List Expr} {ta : TE} {t : TA} {R : St → XK}
theorem Jq1 {pl : Sem Bool} (he : PE X o ta) (hr : Room j X.A) (ha : PA X (e :: es) t)
  (hst : starEach (e :: es) X.env = (false,eval e X.env) :: starEach es X.env:=by rfl) (hpl : (backTo pos (starEach es X.env)).any (·.1) = false:=by rfl)
  (ht : eval (.Call (.Attribute o m apos) (e :: es) [] pos) X.env = (do
   let ov ← eval o X.env
   standAt apos.atName
   let (f,first) ← holding [ov] (getMethod ov m pl)
   callWith pos f first (backTo pos (starEach (e :: es) X.env)) (backToKw pos (keywordEach [] X.env))):=by rfl) :
  PE X (.Call (.Attribute o m apos) (e :: es) [] pos) (Jun X.prog X.w X.K X.mg X.base j m ta t):=by
 intro pins s σ H Q I h;refine PySem.W.methodCall_KW (pl:=pl) (thn (he pins s σ H _ I h) fun u s1 ⟨x,H1,I1,rx,a,C,dx,fs,f,fd,ps,sp,k,ex,ea,l,c,hm,G,hk,hb,q⟩=>?_) ht;subst ex;obtain rfl : u = Value.ref a:=rx;refine Jpc I1 ea c hm l ?_;refine PySem.W.callWith_K (first:=[.ref a]) (h₀:=X.base) I.ok.mod.kin hm.kp (thn (ha pos pins s1 σ H1 _ I1 q) fun us s2 ⟨vs,H2,I2,r,q2⟩=>⟨I2.kIn,?_⟩) hst hpl;exact Juf (us:=.ref a :: us) (vs:=.ref a :: vs) (dvs:=[]) (ds:=[]) G (hr.mono hk) hb .nil Jnq I2 (.cons rfl r) (by rw [List.append_nil]; exact q2)
theorem Jqx {pl : Sem Bool} (he : PE X o ta) (hr : Room j X.A)
  (ht : eval (.Call (.Attribute o m apos) [] [] pos) X.env = (do
   let ov ← eval o X.env
   standAt apos.atName
   let (f,first) ← holding [ov] (getMethod ov m pl)
   callWith pos f first (backTo pos (starEach [] X.env)) (backToKw pos (keywordEach [] X.env))):=by rfl) :
  PE X (.Call (.Attribute o m apos) [] [] pos) (Jun X.prog X.w X.K X.mg X.base j m ta Jt9):=by
 intro pins s σ H Q I h;refine PySem.W.methodCall_KW (pl:=pl) (thn (he pins s σ H _ I h) fun u s1 ⟨x,H1,I1,rx,a,C,dx,fs,f,fd,ps,sp,k,ex,ea,l,c,hm,G,hk,hb,q⟩=>?_) ht;subst ex;obtain rfl : u = Value.ref a:=rx;refine Jpc I1 ea c hm l ?_;exact PySem.W.callWith_K0 (first:=[.ref a]) I1.kIn hm.kp (Juf (us:=[.ref a]) (vs:=[.ref a]) (dvs:=[]) (ds:=[]) G (hr.mono hk) hb .nil Jnq I1 (.cons rfl .nil) q)
end
end L2
namespace L2
open PySem PySem.Spec PyProof.Rows
theorem Jl0 {n : Nat} (h : n ≤ 2000) : n < sizeLine:=Nat.lt_of_le_of_lt h (by decide)
theorem Jmy (n : Nat) (h : n ≤ 2000) : n ≤ sizeLine:=Nat.le_of_lt (Jl0 h)
noncomputable def tpB (t : Value) : Bool:=[Value.type "bool",.type "str",.type "NoneType",.type "list",.type "tuple",.type "dict"].contains t
noncomputable def Tm (K : PySem.W.Frag) (H : Hp) (x : V) : Prop:=(∃ i : Int,x = .int i) ∨ ∃ t,TyX K H x t ∧ tpB t = true
noncomputable def Jkl : V → Int → Int → Bool
 | .int i,lo,hi=>decide (lo ≤ i) && decide (i ≤ hi)
 | _,_,_=>false
theorem tp_int {K : PySem.W.Frag} {t : Value} (h : tpB t = true) : PySem.W.kitOne K t (.type "int") = some (t == .type "bool") ∧ PySem.W.kitOne K t (.type "bool") = some (t == .type "bool"):=by
 unfold tpB at h;simp only [List.contains_cons,List.contains_nil,Bool.or_false,Bool.or_eq_true,beq_iff_eq] at h;rcases h with rfl | rfl | rfl | rfl | rfl | rfl <;> exact ⟨rfl,rfl⟩
theorem Yq {K : PySem.W.Frag} {H : Hp} {x : V} {t : Value} (ty : TyX K H x t) (h : tpB t = true) : ∀ lo hi,Jkl x lo hi = false:=by
 intro lo hi;cases ty with
 | exc=>rfl
 | of ty =>
  cases ty <;> first | rfl | (exfalso; revert h; decide)
noncomputable def Yan (K : PySem.W.Frag) : Sp:=fun vs H Q _=>∃ (x : V) (lo hi : Int),vs = [x,.int lo,.int hi] ∧ Tm K H x ∧ Q (.bl (Jkl x lo hi)) H
theorem Yap {K : PySem.W.Frag} {H : Hp} {x : V} (h : Jp5 x = true) : Tm K H x:=by
 cases x with
 | non=>exact .inr ⟨_,.of .non,rfl⟩
 | bl b=>exact .inr ⟨_,.of (.bl b),rfl⟩
 | int i=>exact .inl ⟨i,rfl⟩
 | str z=>exact .inr ⟨_,.of (.str z),rfl⟩
 | _=>cases h
theorem TyX.same {K : PySem.W.Frag} {H H' : Hp} {x : V} {t : Value} (s : ∀ b o,x = .ref b → H b = some o → H' b = some o) (sx : ∀ b fs,H b = some (XD b fs) → H' b = some (XD b fs)) (ty : TyX K H x t) : TyX K H' x t:=by
 cases ty with
 | exc q qd c=>exact .exc (s _ _ rfl q) (sx _ _ qd) c
 | of ty =>
  refine .of ?_;cases ty with
  | non=>exact .non
  | bl b=>exact .bl b
  | int i=>exact .int i
  | str z=>exact .str z
  | flt z=>exact .flt z
  | lst e=>exact .lst (s _ _ rfl e)
  | frz e=>exact .frz (s _ _ rfl e)
  | tup e=>exact .tup (s _ _ rfl e)
  | dK e=>exact .dK (s _ _ rfl e)
  | dT e=>exact .dT (s _ _ rfl e)
  | ins e a b c d f=>exact .ins (s _ _ rfl e) a b c d f
theorem Tm.same {K : PySem.W.Frag} {H H' : Hp} {x : V} (s : Same H H') (h : Tm K H x) : Tm K H' x:=by
 rcases h with h | ⟨t,ty,e⟩
 ·exact .inl h
 ·exact .inr ⟨t,ty.same (fun b o _ q=>s b o q) (fun b fs q=>s b _ q),e⟩
theorem Yj {K : PySem.W.Frag} {q : Addr} {xs : List V} {g : TG} {tb : TS} {D : Jqc} {σ : St} {H : Hp} (Pv : Nat → St → Hp → Prop) (h0 : Pv 0 σ H) (hl : (∀ i σ H,i ≤ xs.length → Pv i σ H → SqL K H q xs) ∨ (∀ i σ H,i ≤ xs.length → Pv i σ H → SqT K H q xs))
  (hs : ∀ i x σ H,xs[i]? = some x → Pv i σ H → g x σ H fun σ2 H2=>tb { D with nx:=Pv (i + 1),ct:=Pv (i + 1),bk:=D.nx } σ2 H2) (hd : ∀ σ H,Pv xs.length σ H → D.nx σ H) :
  ((∃ xs,SqL K H q xs) ∧ ∃ W : Nat → Nat → St → Hp → Prop,(∃ m,W 0 m σ H) ∧ ∀ i m σ H,W i m σ H →
   ((Itl K q).stop i H ∧ D.nx σ H) ∨ ((Itl K q).go i H ∧ ∃ N : St → Hp → Prop,(∀ σ' H', N σ' H' → ∃ m', m' < m ∧ W (i + 1) m' σ' H') ∧ ∀ x H', (Itl K q).yld i H x H' → g x σ H' fun σ2 H2=>tb { D with nx:=N,ct:=N,bk:=D.nx } σ2 H2)) ∨
  ((∃ xs,SqT K H q xs) ∧ ∃ W : Nat → Nat → St → Hp → Prop,(∃ m,W 0 m σ H) ∧ ∀ i m σ H,W i m σ H →
   ((Itt K q).stop i H ∧ D.nx σ H) ∨ ((Itt K q).go i H ∧ ∃ N : St → Hp → Prop,(∀ σ' H', N σ' H' → ∃ m', m' < m ∧ W (i + 1) m' σ' H') ∧ ∀ x H', (Itt K q).yld i H x H' → g x σ H' fun σ2 H2=>tb { D with nx:=N,ct:=N,bk:=D.nx } σ2 H2)):=by
 rcases hl with hl | hl
 ·exact .inl ⟨⟨xs,hl 0 σ H (Nat.zero_le _) h0⟩,Jps Pv h0 hl hs hd⟩
 ·exact .inr ⟨⟨xs,hl 0 σ H (Nat.zero_le _) h0⟩,Yk Pv h0 hl hs hd⟩
theorem Jll {K : PySem.W.Frag} {R : L2.St → XK} {C W fI : Addr} {f : Str} {i : Nat} {y : V} {σ : L2.St} {H : Hp} {D : Jqc} (c : XCls K C W fI) (n : NoAttr K C f) (hi : σ[i]? = some (some y))
  (k : ∀ e dx,H e = none → H dx = none → dx ≠ e → R σ (.ref C) (some e) (upd (upd (upd H dx (XD dx [(f,y)])) e (XO e C (some dx) true)) e (XO e C (some dx) false))) : Jz9 K R (tExc C (Jmn K f) (Jlo (tVar i) Jt9)) D σ H:=by
 refine ⟨y,hi,?_⟩;exact Jxl (Q:=fun v H1=>∃ e C W fI dx,v = .ref e ∧ H1 e = some (XO e C (some dx) true) ∧ XCls K C W fI ∧ R σ (.ref C) (some e) (upd H1 e (XO e C (some dx) false))) c n fun e dx h1 h2 h3=>⟨e,C,W,fI,dx,rfl,Jk0,c,k e dx h1 h2 h3⟩
theorem Jvu {c A B : Prop} [Decidable c] (hc : c) (h : A) : if decide c = true then A else B:=by
 rw [decide_eq_true hc];exact Jlc h
theorem Jtx {c A B : Prop} [Decidable c] (hc : ¬ c) (h : B) : if decide c = true then A else B:=by
 rw [decide_eq_false hc];exact Jl1 h
noncomputable def Jl9 : Expr → Bool
 | .Starred _ _=>true
 | _=>false
theorem Jy6 (e : Expr) (es : List Expr) (env : Env) (h : Jl9 e = false) : starEach (e :: es) env = (false,eval e env) :: starEach es env:=by
 cases e <;> first | rfl | cases h
theorem Jn2 {X : Cx} {e : Expr} {es : List Expr} {te : TE} {t : TA} (ha : PE X e te) (hr : PA X es t) (hs : Jl9 e = false:=by rfl) : PA X (e :: es) (Jlo te t):=Jjz ha hr (Jy6 e es X.env hs)
theorem pa4 {X : Cx} {e0 : Expr} {t0 : TE} {e1 : Expr} {t1 : TE} {e2 : Expr} {t2 : TE} {e3 : Expr} {t3 : TE} (h0 : PE X e0 t0) (h1 : PE X e1 t1) (h2 : PE X e2 t2) (h3 : PE X e3 t3) (s0 : Jl9 e0 = false:=by rfl) (s1 : Jl9 e1 = false:=by rfl) (s2 : Jl9 e2 = false:=by rfl) (s3 : Jl9 e3 = false:=by rfl) : PA X [e0,e1,e2,e3] (Jlo t0 (Jlo t1 (Jlo t2 (Jlo t3 (Jt9))))):=Jn2 h0 (Jn2 h1 (Jn2 h2 (Jn2 h3 (Jk1) s3) s2) s1) s0
theorem pa5 {X : Cx} {e0 : Expr} {t0 : TE} {e1 : Expr} {t1 : TE} {e2 : Expr} {t2 : TE} {e3 : Expr} {t3 : TE} {e4 : Expr} {t4 : TE} (h0 : PE X e0 t0) (h1 : PE X e1 t1) (h2 : PE X e2 t2) (h3 : PE X e3 t3) (h4 : PE X e4 t4) (s0 : Jl9 e0 = false:=by rfl) (s1 : Jl9 e1 = false:=by rfl) (s2 : Jl9 e2 = false:=by rfl) (s3 : Jl9 e3 = false:=by rfl) (s4 : Jl9 e4 = false:=by rfl) : PA X [e0,e1,e2,e3,e4] (Jlo t0 (Jlo t1 (Jlo t2 (Jlo t3 (Jlo t4 (Jt9)))))):=Jn2 h0 (Jn2 h1 (Jn2 h2 (Jn2 h3 (Jn2 h4 (Jk1) s4) s3) s2) s1) s0
theorem pa6 {X : Cx} {e0 : Expr} {t0 : TE} {e1 : Expr} {t1 : TE} {e2 : Expr} {t2 : TE} {e3 : Expr} {t3 : TE} {e4 : Expr} {t4 : TE} {e5 : Expr} {t5 : TE} (h0 : PE X e0 t0) (h1 : PE X e1 t1) (h2 : PE X e2 t2) (h3 : PE X e3 t3) (h4 : PE X e4 t4) (h5 : PE X e5 t5) (s0 : Jl9 e0 = false:=by rfl) (s1 : Jl9 e1 = false:=by rfl) (s2 : Jl9 e2 = false:=by rfl) (s3 : Jl9 e3 = false:=by rfl) (s4 : Jl9 e4 = false:=by rfl) (s5 : Jl9 e5 = false:=by rfl) : PA X [e0,e1,e2,e3,e4,e5] (Jlo t0 (Jlo t1 (Jlo t2 (Jlo t3 (Jlo t4 (Jlo t5 (Jt9))))))):=Jn2 h0 (Jn2 h1 (Jn2 h2 (Jn2 h3 (Jn2 h4 (Jn2 h5 (Jk1) s5) s4) s3) s2) s1) s0
theorem pa8 {X : Cx} {e0 : Expr} {t0 : TE} {e1 : Expr} {t1 : TE} {e2 : Expr} {t2 : TE} {e3 : Expr} {t3 : TE} {e4 : Expr} {t4 : TE} {e5 : Expr} {t5 : TE} {e6 : Expr} {t6 : TE} {e7 : Expr} {t7 : TE} (h0 : PE X e0 t0) (h1 : PE X e1 t1) (h2 : PE X e2 t2) (h3 : PE X e3 t3) (h4 : PE X e4 t4) (h5 : PE X e5 t5) (h6 : PE X e6 t6) (h7 : PE X e7 t7) (s0 : Jl9 e0 = false:=by rfl) (s1 : Jl9 e1 = false:=by rfl) (s2 : Jl9 e2 = false:=by rfl) (s3 : Jl9 e3 = false:=by rfl) (s4 : Jl9 e4 = false:=by rfl) (s5 : Jl9 e5 = false:=by rfl) (s6 : Jl9 e6 = false:=by rfl) (s7 : Jl9 e7 = false:=by rfl) : PA X [e0,e1,e2,e3,e4,e5,e6,e7] (Jlo t0 (Jlo t1 (Jlo t2 (Jlo t3 (Jlo t4 (Jlo t5 (Jlo t6 (Jlo t7 (Jt9))))))))):=Jn2 h0 (Jn2 h1 (Jn2 h2 (Jn2 h3 (Jn2 h4 (Jn2 h5 (Jn2 h6 (Jn2 h7 (Jk1) s7) s6) s5) s4) s3) s2) s1) s0
end L2
namespace L2
open PySem PySem.Spec PyProof.Rows PySem.W
section
variable {X : Cx}
theorem Juz {K : PySem.W.Frag} (h : X.K = K) : IxR X (rIxL K):=by subst h; exact Jky
theorem Jmb {K : PySem.W.Frag} (h : X.K = K) : IxR X (rIxT K):=by subst h; exact Jkj
theorem Jtg {K : PySem.W.Frag} (h : X.K = K) : Jmo X (.builtin "isinstance") (rIsA K):=by subst h; exact Jld
end
end L2
namespace L2
open PySem PySem.Spec PyProof.Rows PySem.W
section
variable {prog : Program} {w : World} {A : Around} {E : Value → Shared → Prop} {s : Shared}
end
section
variable {X : Cx} {pos : Pos}
end
end L2
namespace L2
open PySem PySem.Spec PyProof.Rows PySem.W
structure FnOkC (P : Program) (w : World) (K : PySem.W.Frag) (mg : Str → Option Value) (base : Heap) (k : Nat) (f : Addr) (fd : FuncData) (ps : List Str) (sp : Sp) : Prop where
 len : ∀ vs H Q E,sp vs H Q E → vs.length = ps.length
 run : ∀ (e : Addr) (A : Around) (outer : List Env) (s : Shared) (H : Hp) (args : Args) (us : List Value) (vs : List V) (Q : VK) (E : XK),Room k A → Env0 P w K mg base A outer s H → BindsTo s fd args (ps.zip us) → Vals vs us → sp vs H Q E →
  codeAny (model P w) (A.mark (some (.ref e))) (.call (.ref f) args) (CR CX0 outer P w H s Q E) s
section
variable {P : Program} {w : World} {K : PySem.W.Frag} {mg : Str → Option Value} {base : Heap}
end
section
variable {X : Cx} {x : Str} {st : Stmt} {ps : List Str} {f : Addr} {fd : FuncData} {sp : Sp} {k j : Nat} {p pos : Pos} {e : Expr} {es : List Expr} {t : TA} {er : Addr}
end
end L2
namespace L2
open PySem PySem.Spec PyProof.Rows PySem.W
noncomputable def stU (acc : List Str) (z : Str) : List Str:=if acc.contains z = true then acc else acc ++ [z]
noncomputable def uq (zs : List Str) : List Str:=zs.foldl stU []
noncomputable def inU (zs : List Str) : Key → Bool
 | .inl _=>false
 | .inr z=>(uq zs).contains z
theorem Jx7 (zs : List Str) (z : Str) : uq (zs ++ [z]) = stU (uq zs) z:=by unfold uq; rw [List.foldl_append]; rfl
theorem uq_len (zs : List Str) : (uq zs).length ≤ zs.length:=by
 have h : ∀ (l acc : List Str),(l.foldl stU acc).length ≤ acc.length + l.length:=by
  intro l
  induction l with
  | nil=>intro acc; simp
  | cons z r ih =>
   intro acc;rw [List.foldl_cons];have h1:=ih (stU acc z);have h2 : (stU acc z).length ≤ acc.length + 1:=by unfold stU; split <;> simp
   rw [List.length_cons];omega
 simpa [uq] using h zs []
theorem Jvm {zs : List Str} (h : zs.Nodup) : uq zs = zs:=by
 have g : ∀ (l acc : List Str),(acc ++ l).Nodup → l.foldl stU acc = acc ++ l:=by
  intro l
  induction l with
  | nil=>intro acc _; simp
  | cons z r ih =>
   intro acc hn;rw [List.foldl_cons];have hz : acc.contains z = false:=by
    cases e : acc.contains z with
    | false=>rfl
    | true =>
     have hm : z ∈ acc:=List.contains_iff_mem.mp e;exact absurd rfl ((List.nodup_append.mp hn).2.2 z hm z List.mem_cons_self)
   have e : stU acc z = acc ++ [z]:=by unfold stU; rw [hz]; rfl
   rw [e,ih (acc ++ [z]) (by simpa using hn)];simp
 simpa [uq] using g zs [] (by simpa using h)
theorem Jyt (zs : List Str) (z : Str) (k : Key) : inU (zs ++ [z]) k = (inU zs k || decide (k = .inr z)):=by
 cases k with
 | inl i=>simp [inU]
 | inr y =>
  show (uq (zs ++ [z])).contains y = ((uq zs).contains y || decide ((.inr y : Key) = .inr z));have e : decide ((.inr y : Key) = .inr z) = decide (y = z):=by
   by_cases h : y = z
   ·subst h; simp
   ·rw [decide_eq_false h,decide_eq_false (fun q=>h (Sum.inr.inj q))]
  rw [Jx7,e];unfold stU;split
  ·rename_i hc
   by_cases h : y = z
   ·subst h; rw [hc]; simp
   ·simp [h]
  ·rw [Bool.eq_iff_iff];simp [List.contains_iff_mem]
theorem Yaq (zs : List Str) (z : Str) : (uq (zs ++ [z])).length = if inU zs (.inr z) = true then (uq zs).length else (uq zs).length + 1:=by
 rw [Jx7];show (stU (uq zs) z).length = if (uq zs).contains z = true then _ else _
 unfold stU;split <;> simp
section
variable {prog : Program} {w : World} {A : Around} {R : Result → Shared → Prop} {I : Addr} {fp wr : List Addr} {n : Nat} {P : Nat → Value → Prop} {St : Nat → Heap → Prop}
theorem Jq7 {h h' : Heap} {a : Addr} {S T : Key → Bool} {m m' : Nat} (hS : h.SetOf (Jlp prog w) a S m) (k : ∀ o,h.get? a = some o → h'.get? a = some o) (e : ∀ x,S x = T x) (en : m = m') : h'.SetOf (Jlp prog w) a T m':=by
 obtain rfl : S = T:=funext e;subst en;obtain ⟨o,es,ep,t,ho,rest⟩:=hS;exact ⟨o,es,ep,t,k o ho,rest⟩
theorem Jwh (W : Walks prog w A.in1 I fp wr n P St) (S : Addr) (hSf : S ∉ fp) (zs : List Str) (hn : zs.length = n) (hP : ∀ i v,P i v → ∃ z t,zs[i]? = some z ∧ v = .str z t) (hb : n + 1 < scanBound) :
  ∀ (k i : Nat) (s : Shared),n - i = k → i ≤ n → St i s.heap → s.heap.SetOf (Jlp prog w) S (inU (zs.take i)) (uq (zs.take i)).length →
   (∀ h' tk,(∀ b o,b ≠ S → b ∉ wr → s.heap.get? b = some o → h'.get? b = some o) → h'.SetOf (Jlp prog w) S (inU zs) (uq zs).length → R (.ok (.ret .none)) { s with heap:=h', toks:=tk }) →
   codeAny (model prog w) A (.builtin "set.update.loop" ⟨[.ref S,.ref I],[]⟩) R s:=by
 have hSw : S ∉ wr:=fun h=>hSf (W.sub _ h);intro k
 induction k with
 | zero =>
  intro i s hk hi hst hS hR;obtain rfl : i = n:=by omega
  refine codeAny_builtin PyProof.Rows.F.entry_set_update_loop ?_;rw [Around.under_plainId PyProof.Rows.F.plain_set_update_loop _];refine wpAny_bind (W.done s _ _ hst fun h' tk km=>?_);refine wpAny_pure (hR h' tk (fun b o _ nb e=>km b o nb e) (Jq7 hS (fun o e=>km S o hSw e) (fun x=>?_) ?_))
  ·rw [List.take_of_length_le (by omega)]
  ·rw [List.take_of_length_le (by omega)]
 | succ k ih =>
  intro i s hk hi hst hS hR;have hlt : i < n:=by omega
  refine codeAny_builtin PyProof.Rows.F.entry_set_update_loop ?_;rw [Around.under_plainId PyProof.Rows.F.plain_set_update_loop _];refine wpAny_bind (W.item i s _ _ hlt hst fun v h1 tk hv hst1 km=>?_);obtain ⟨z,t,hz,rfl⟩:=hP i v hv;have et : zs.take (i + 1) = zs.take i ++ [z]:=by rw [List.take_add_one,hz]; rfl
  have hS1 : h1.SetOf (Jlp prog w) S (inU (zs.take i)) (uq (zs.take i)).length:=Jq7 hS (fun o e=>km S o hSw e) (fun _=>rfl) rfl;have room : (uq (zs.take i)).length + 1 < scanBound:=by
   have h1:=uq_len (zs.take i);rw [List.length_take] at h1;omega
  refine wpAny_bind (wpAny_holding ?_);unfold setAdd;refine wpAny_holding (wpAny_bind ((Jlp prog w).pyHash (k:=.inr z) (Jra _ _ _ _) ?_));refine wpAny_setAddHashed_of (knd:=Jlp prog w) (k:=.inr z) (Jra _ _ _ _) rfl hS1 room fun h2 sb hS2=>?_;refine wpAny_pure ⟨plainId_quiet PyProof.Rows.F.plain_set_update_loop _,ih (i + 1) _ (by omega) hlt (W.frame _ _ _ hst1 fun b hbf o e=>?_) (Jq7 hS2 (fun o e=>e) (fun x=>?_) ?_) fun h3 tk3 k3 hS3=>?_⟩
  ·show h2.get? b = some o;rw [sb.2 b (fun q=>hSf (by rw [← q]; exact hbf))];exact e
  ·rw [et,Jyt]
  ·rw [et,Yaq]
  ·exact hR h3 tk3 (fun b o nS nw e=>k3 b o nS nw (by show h2.get? b = some o; rw [sb.2 b nS]; exact km b o nw e)) hS3
end
section
variable {prog : Program} {w : World} {A : Around} {E : Value → Shared → Prop} {s : Shared}
set_option maxRecDepth 100000 in
set_option maxHeartbeats 3200000 in
theorem Jxz {l : Addr} {items : Array Value} {zs : List Str} {Q : Value → Shared → Prop} (hh : A.handled = none) (hl : s.heap.IsList l items) (hz : zs.length = items.size) (hi : ∀ (i : Nat) (v : Value),items[i]? = some v → ∃ z t,zs[i]? = some z ∧ v = .str z t) (hb : items.size + 1 < scanBound)
  (h : ∀ (h' : Heap) (tk : Nat),h'.SetOf (Jlp prog w) s.heap.objs.size (inU zs) (uq zs).length → (∀ b o,s.heap.get? b = some o → h'.get? b = some o) → Q (.ref s.heap.objs.size) { s with heap:=h', toks:=tk }) : wpAny (model prog w) A (call (.type "set") [.ref l]) Q E s:=by
 obtain ⟨cc,tl,hmro⟩:=F.called_set.mro;have hmade:=F.called_set.made;have hsub:=F.called_set.sub;refine wpAny_call (codeAny_of_tree ?_);show wpAny _ _ (callAny (.type "set") _) _ _ _;refine wpAny_pure ⟨Code.quiet_builtin _ (by decide +kernel),codeAny_builtin F.entry_type_call ?_⟩;rw [Around.under_plain (weight_type_call_type "set" [.ref l] []) rfl];have g1:=F.called_set.notType;have g2:=F.called_set.canCreate;have g3:=F.typeCall_set_1 (.ref l)
 repeat (any_goals (first | assumption | wp_step))
 refine codeAny_mono (code_set_new_1 (.ref l) (E:=E) (Q₁:=fun obj s1=>∃ led : Bool,obj = .ref s.heap.objs.size ∧ s1 = { s with heap:=s.heap.push { cls:=.type "set",dict:=none,data:=.set #[] 0 (.fresh 0 0 led) } }) fun led=>⟨led,rfl,rfl⟩) fun r s1 hr=>?_;cases r with
 | error e=>exact hr
 | ok fl =>
  cases fl with
  | ret obj =>
   obtain ⟨led,rfl,rfl⟩:=hr;have hS : (s.heap.push { cls:=.type "set",dict:=none,data:=.set #[] 0 (.fresh 0 0 led) }).get? s.heap.objs.size = some { cls:=.type "set",dict:=none,data:=.set #[] 0 (.fresh 0 0 led) }:=Heap.get?_push_size _ rfl;have hT : Shared.TypeIs { s with heap:=s.heap.push { cls:=.type "set",dict:=none,data:=.set #[] 0 (.fresh 0 0 led) } } (.ref s.heap.objs.size) "set" := ⟨_,hS,rfl⟩;have g4:=F.called_set.init.lookup;have g5:=F.called_set.init.bind (.ref s.heap.objs.size)
   repeat (any_goals (first | assumption | wp_step))
   refine codeAny_mono (codeAny_call_builtin (R:=wants (fun r s2=>r = .none ∧ ∃ h' tk,s2 = { s with heap:=h', toks:=tk } ∧ h'.SetOf (Jlp prog w) s.heap.objs.size (inU zs) (uq zs).length ∧ (∀ b o,s.heap.get? b = some o → h'.get? b = some o)) E) F.called_set.init.plain F.entry_set_init (check_set_init_1 hT ?_)) fun r2 s2 hr2=>?_
   ·obtain ⟨⟨oc,od,oda,osl⟩,hol,hcl,nl,hdl⟩:=hl;simp only at hcl hdl;subst hcl hdl;have hol' : (s.heap.push { cls:=.type "set",dict:=none,data:=.set #[] 0 (.fresh 0 0 led) }).get? l = some { cls:=.type "list",dict:=od,data:=.seq items nl,slots:=osl }:=Heap.get?_push_of_some _ hol;have g6:=F.sub_list_set;have g7:=F.sub_list_frozenset;have g8 : (Value.type "list" == Value.type "dict") = false:=by decide
    have hl1 : (s.heap.push { cls:=.type "set",dict:=none,data:=.set #[] 0 (.fresh 0 0 led) }).IsList l items:=⟨_,hol', rfl,nl,rfl⟩;unfold Builtin.«set.__init__» noKeywords Builtin.Frozenset.updateFrom;generalize hPI : pyIter = PI
    wp_walk
    subst hPI;refine wpAny_pyIter_list hl1 (wpAny_bind (wpAny_runValue ?_));have lS : l < s.heap.objs.size:=Heap.lt_size hol;have h3 : A.in1.in1.in1.handled = none:=by simp [hh]
    have nI : l ≠ (s.heap.push { cls:=.type "set",dict:=none,data:=.set #[] 0 (.fresh 0 0 led) }).objs.size:=by rw [Heap.size_push]; exact Nat.ne_of_lt (Nat.lt_succ_of_lt lS)
    have nS : s.heap.objs.size ∉ [(s.heap.push { cls:=.type "set",dict:=none,data:=.set #[] 0 (.fresh 0 0 led) }).objs.size,l]:=by
     rw [Heap.size_push];simp only [List.mem_cons,List.not_mem_nil,or_false,not_or];exact ⟨Nat.ne_of_lt (Nat.lt_succ_self _),Nat.ne_of_gt lS⟩
    refine Jwh (Walks.list h3 _ l nI items) s.heap.objs.size nS zs hz hi hb (items.size - 0) 0 _ (by omega) (Nat.zero_le _) ⟨⟨_,Heap.get?_push_size _ rfl,rfl,rfl⟩,hl1.push _⟩ ?S0 ?R0
    case S0 =>
     have q : ((s.heap.push { cls:=.type "set",dict:=none,data:=.set #[] 0 (.fresh 0 0 led) }).push { cls:=.type "list_iterator",data:=.fields #[.ref l,.int 0 0] }).get? s.heap.objs.size = some { cls:=.type "set",dict:=none,data:=.set #[] 0 (.fresh 0 0 led) }:=Heap.get?_push_of_some _ hS;refine ⟨_,#[],0,_,q,⟨rfl,rfl,rfl⟩,rfl,fun e he=>by simp at he,fun x=>?_,by decide,by rfl,rfl⟩;cases x <;> simp [inU,uq]
    case R0 =>
     intro h' tk km hS';show wpAny _ _ _ _ _ _;refine wpAny_pure ?_;show wpAny _ _ (ret Value.none) _ _ _;refine wpAny_pure ⟨rfl,h', tk,rfl,hS', fun b o e=>?_⟩;have lb : b < s.heap.objs.size:=Heap.lt_size e;refine km b o (Nat.ne_of_lt lb) ?_ (Heap.get?_push_of_some _ (Heap.get?_push_of_some _ e));rw [Heap.size_push];simp only [List.mem_cons,List.not_mem_nil,or_false];exact Nat.ne_of_lt (Nat.lt_succ_of_lt lb)
   ·cases r2 with
    | error e=>exact hr2
    | ok fl2 =>
     cases fl2 with
     | ret r =>
      obtain ⟨rfl,h', tk,rfl,hS', hk'⟩:=hr2
      repeat (any_goals (first | assumption | wp_step))
      exact h _ _ hS' hk'
     | _=>exact hr2.elim
  | _=>exact hr.elim
end
noncomputable def TxS (P : Program) (w : World) (a : Addr) (zs : List Str) : HO:=.ext fun h=>h.SetOf (Jlp P w) a (inU zs) (uq zs).length
theorem txs_ok {P : Program} {w : World} {H : Hp} {h : Heap} {a : Addr} {zs : List Str} (hS : h.SetOf (Jlp P w) a (inU zs) (uq zs).length) : ObjOk P w H h a (TxS P w a zs) :=
 ⟨hS,(let ⟨o,_,_,_,ho,_⟩:=hS; ⟨o,ho⟩),fun _ _ p k=>Jq7 p k (fun _=>rfl) rfl⟩
section
variable {X : Cx}
theorem Jrw (hc : X.calm = true) : Jmo X (.type "set") (fun xs H Q=>∃ (l : Addr) (zs : List Str),xs = [.ref l] ∧ SqL X.K H l (zs.map V.str) ∧ zs.length ≤ 2000 ∧ ∀ a,H a = none → Q (.ref a) (upd H a (TxS X.prog X.w a zs))):=by
 intro pins s σ H xs us Q I r h;obtain ⟨l,zs,rfl,hq,hz,q⟩:=h;obtain ⟨u,rfl,ru⟩:=Jnb r;obtain rfl : u = Value.ref l:=ru;obtain ⟨its,rv,pl,_⟩:=I.list hq;have hlen:=rv.length;rw [List.length_map] at hlen;refine Jxz (zs:=zs) (I.ok.hd hc) pl.isList (by simpa using hlen) (fun i v hv=>?_) (by simp only [List.size_toArray]; unfold scanBound; omega) fun h' tk hS kk=>⟨.ref s.heap.objs.size,_,I.laid (a:=s.heap.objs.size) (o:=TxS X.prog X.w s.heap.objs.size zs) (t':=tk) kk (Nat.le_refl _) (txs_ok hS),rfl,q _ (I.hok.fresh (Nat.le_refl _))⟩
 ·have hv' : its[i]? = some v:=by simpa using hv
  have hlt : i < zs.length:=by have:=(List.getElem?_eq_some_iff.mp hv').1; omega
  obtain ⟨u,hu,ru⟩:=rv.get (i:=i) (x:=V.str zs[i]) (by rw [List.getElem?_map,List.getElem?_eq_getElem hlt]; rfl);rw [hv'] at hu;cases hu;obtain ⟨t,rfl⟩:=ru;exact ⟨zs[i],t,List.getElem?_eq_getElem hlt,rfl⟩
theorem Jrv : Jmo X (.builtin "len") (fun xs H Q=>∃ (a : Addr) (zs : List Str),xs = [.ref a] ∧ H a = some (TxS X.prog X.w a zs) ∧ Q (.int (uq zs).length) H):=by
 intro pins s σ H xs us Q I r h;obtain ⟨a,zs,rfl,ha,q⟩:=h;obtain ⟨u,rfl,ru⟩:=Jnb r;obtain rfl : u = Value.ref a:=ru;obtain ⟨o,es,ep,t,ho,hex,hd,_,_,hb,hf,hn⟩:=(I.hok a _ ha).1;refine call_len_set ho hex hd hf (by unfold scanBound at hb; omega) ?_;rw [hn];exact ⟨.int _,H,I.tok _,⟨_,rfl⟩,q⟩
end
end L2
namespace L2
open PySem PySem.Spec PyProof.Rows PySem.W
theorem Jnc : bootBuiltins "sum" = some (.builtin "sum"):=by decide +kernel
theorem bt_set : bootBuiltins "set" = some (.type "set"):=by decide +kernel
theorem Jpr : bootBuiltins "enumerate" = some (.type "enumerate"):=by decide +kernel
noncomputable def Sml (ns : List Int) : Prop:=ns.length ≤ 2000 ∧ ∀ n ∈ ns,-1000000 ≤ n ∧ n ≤ 1000000
theorem Jrs (ns : List Int) : ∀ i,i ≤ ns.length → preSum (fun j=>ns.getD j 0) i = (ns.take i).sum
 | 0,_=>by simp [preSum]
 | i + 1,h=>by
  have ih:=Jrs ns i (by omega);have hlt : i < ns.length:=by omega
  have e : ns.take (i + 1) = ns.take i ++ [ns[i]]:=by rw [List.take_add_one,List.getElem?_eq_getElem hlt]; rfl
  have e2 : ns.getD i 0 = ns[i]:=by simp [List.getD,List.getElem?_eq_getElem hlt]
  rw [e,List.sum_append];simp only [List.sum_cons,List.sum_nil];show preSum (fun j=>ns.getD j 0) i + ns.getD i 0 = _;rw [ih,e2];omega
theorem Jzr : ∀ (l : List Int),(∀ n ∈ l,-1000000 ≤ n ∧ n ≤ 1000000) → -1000000 * (l.length : Int) ≤ l.sum ∧ l.sum ≤ 1000000 * (l.length : Int)
 | [],_=>by simp
 | n :: r,h=>by
  have h1:=h n List.mem_cons_self;have h2:=Jzr r fun m hm=>h m (List.mem_cons_of_mem _ hm);rw [List.sum_cons,List.length_cons];constructor <;> omega
section
variable {X : Cx}
noncomputable def rSum (K : PySem.W.Frag) : List V → Hp → VK → Prop:=fun xs H Q=>∃ (a : Addr) (ns : List Int),xs = [.ref a] ∧ (SqL K H a (ns.map V.int) ∨ SqT K H a (ns.map V.int)) ∧ Sml ns ∧ Q (.int ns.sum) H
theorem Jm4 (hc : X.calm = true) : Jmo X (.builtin "sum") (rSum X.K):=by
 intro pins s σ H xs us Q I r h;obtain ⟨a,ns,rfl,hq,hs,q⟩:=h;obtain ⟨u,rfl,ru⟩:=Jnb r;obtain rfl : u = Value.ref a:=ru;have fit : ∀ j,j < ns.length → InLong ((fun j=>ns.getD j 0) j) ∧ InLong (preSum (fun j=>ns.getD j 0) (j + 1)):=fun j hj=>by
  have e2 : ns.getD j 0 = ns[j]:=by simp [List.getD,List.getElem?_eq_getElem hj]
  have b1:=hs.2 _ (List.getElem_mem hj);have b2:=Jzr (ns.take (j + 1)) fun m hm=>hs.2 m (List.mem_of_mem_take hm);have b3 : ((ns.take (j + 1)).length : Int) ≤ 2000:=by have:=hs.1; rw [List.length_take]; omega
  rw [Jrs ns (j + 1) (by omega)];refine ⟨?_,?_⟩
  ·show InLong (ns.getD j 0);rw [e2];unfold InLong;constructor <;> omega
  ·unfold InLong;constructor <;> omega
 have fin : ∀ {its : List Value} (rv : Vals (ns.map V.int) its) (i : Nat) (v : Value),its.toArray[i]? = some v → ∃ t,v = .int ((fun j=>ns.getD j 0) i) t:=fun {its} rv i v hv=>by
  have hv' : its[i]? = some v:=by simpa using hv
  have hl:=rv.length;rw [List.length_map] at hl;have hi : i < ns.length:=by have:=(List.getElem?_eq_some_iff.mp hv').1; omega
  obtain ⟨u', hu', ru'⟩:=rv.get (i:=i) (x:=V.int ns[i]) (by rw [List.getElem?_map,List.getElem?_eq_getElem hi]; rfl);rw [hv'] at hu';cases hu';obtain ⟨t,rfl⟩:=ru';exact ⟨t,by simp [List.getD,List.getElem?_eq_getElem hi]⟩
 rcases hq with hq | hq
 ·obtain ⟨its,rv,pl,_⟩:=I.list hq;have hl:=rv.length;rw [List.length_map] at hl;have ne : a ≠ s.heap.objs.size:=by obtain ⟨o,_,e,_⟩:=pl; exact Nat.ne_of_lt (Heap.lt_size e)
  refine call_sum_walk (wpAny_pyIter_list pl.isList ⟨s.heap.objs.size,_,_,its.toArray.size,_,_,fun j=>ns.getD j 0,rfl,Walks.list (prog:=X.prog) (w:=X.w) (A:=X.A.in1) (show X.A.in1.handled = none from I.ok.hd hc) s.heap.objs.size a ne its.toArray,⟨⟨_,Heap.get?_push_size _ rfl,rfl,rfl⟩,pl.isList.push _⟩,fun b hb=>?_,fin rv,fun j hj=>fit j (by simp only [List.size_toArray] at hj; omega),fun h' tk t' k=>?_⟩)
  ·rw [Heap.size_push];simp only [List.mem_cons,List.not_mem_nil,or_false] at hb;rcases hb with rfl | rfl
   ·exact Nat.lt_succ_self _
   ·obtain ⟨o,_,e,_⟩:=pl;exact Nat.lt_succ_of_lt (Heap.lt_size e)
  ·have e : preSum (fun j=>ns.getD j 0) its.toArray.size = ns.sum:=by
    rw [Jrs ns _ (by simp only [List.size_toArray]; omega),List.take_of_length_le (by simp only [List.size_toArray]; omega)]
   rw [e];exact ⟨.int _,H,I.kept fun b o e=>k b o (fun z=>by
    have z' : b = s.heap.objs.size:=by simpa using z
    exact absurd (Heap.lt_size e) (by rw [z']; exact Nat.lt_irrefl _)) (Heap.get?_push_of_some _ e),⟨_,rfl⟩,q⟩
 ·obtain ⟨its,rv,pt,_⟩:=I.tuple hq;have hl:=rv.length;rw [List.length_map] at hl;have ne : a ≠ s.heap.objs.size:=by obtain ⟨o,e,_⟩:=pt; exact Nat.ne_of_lt (Heap.lt_size e)
  refine call_sum_walk (wpAny_pyIter_tuple (show s.heap.IsTuple a its.toArray from pt) ⟨s.heap.objs.size,_,_,its.toArray.size,_,_,fun j=>ns.getD j 0,rfl,Walks.tuple (prog:=X.prog) (w:=X.w) (A:=X.A.in1) (show X.A.in1.handled = none from I.ok.hd hc) s.heap.objs.size a ne its.toArray,⟨⟨_,Heap.get?_push_size _ rfl,rfl,rfl⟩,Heap.IsTuple.push pt _⟩,fun b hb=>?_,fin rv,fun j hj=>fit j (by simp only [List.size_toArray] at hj; omega),fun h' tk t' k=>?_⟩)
  ·rw [Heap.size_push];simp only [List.mem_cons,List.not_mem_nil,or_false] at hb;rcases hb with rfl | rfl
   ·exact Nat.lt_succ_self _
   ·obtain ⟨o,e,_⟩:=pt;exact Nat.lt_succ_of_lt (Heap.lt_size e)
  ·have e : preSum (fun j=>ns.getD j 0) its.toArray.size = ns.sum:=by
    rw [Jrs ns _ (by simp only [List.size_toArray]; omega),List.take_of_length_le (by simp only [List.size_toArray]; omega)]
   rw [e];exact ⟨.int _,H,I.kept fun b o e=>k b o (fun z=>by
    have z' : b = s.heap.objs.size:=by simpa using z
    exact absurd (Heap.lt_size e) (by rw [z']; exact Nat.lt_irrefl _)) (Heap.get?_push_of_some _ e),⟨_,rfl⟩,q⟩
end
end L2
namespace L2
open PySem PySem.Spec PyProof.Rows PySem.W
noncomputable def ItE (K : PySem.W.Frag) (a : Addr) : It:=⟨fun i H=>∃ xs x,SqL K H a xs ∧ xs[i]? = some x,
 fun i H x H'=>∃ T u,H T = none ∧ x = .ref T ∧ (∀ xs,SqL K H a xs → xs[i]? = some u) ∧ H' = upd H T (.tup [.int i,u]),
 fun i H=>∃ xs,SqL K H a xs ∧ i = xs.length⟩
noncomputable def EnuSt (e it l : Addr) (i : Nat) (h : Heap) : Prop:=(∃ old,IsEnum h e it i old) ∧ h.IsListIter it l i
theorem EnuSt.obj {e it l : Addr} {i : Nat} {h : Heap} (st : EnuSt e it l i h) : ∀ b ∈ [e,it],∃ o,h.get? b = some o ∧ ∀ v,o.data ≠ .cell v:=fun b hb=>by
 obtain ⟨⟨old,h1⟩,⟨o4,h4,_,d4⟩⟩:=st;simp only [List.mem_cons,List.not_mem_nil,or_false] at hb;rcases hb with rfl | rfl
 ·exact ⟨_,h1,fun v z=>by cases z⟩
 ·exact ⟨o4,h4,fun v z=>by rw [d4] at z; cases z⟩
theorem Jzv {P : Program} {w : World} {K : PySem.W.Frag} {elts : List Expr} {kt : Nat} {pt : Pos} (e it l : Addr) (n1 : e ≠ it) (n2 : l ≠ e) (n3 : l ≠ it) :
  Turn P w K (.Tuple elts kt pt) (ItE K l) [e,it] e (EnuSt e it l) where
 mem:=by simp
 obj:=fun i h st=>st.obj
 keep:=fun i h h' st k=>by
  obtain ⟨⟨old,h1⟩,h2⟩:=st;exact ⟨⟨old,k e (by simp) _ h1⟩,h2.at fun o q=>k it (by simp) o q⟩
 item:=by
  intro X hP hw hK hc i pins s σ H E I hf st hg;subst hP hw hK;obtain ⟨xs,x,q1,hx⟩:=hg;obtain ⟨its,rv,p1,_⟩:=I.list q1;obtain ⟨u,hu,ru⟩:=rv.get hx;have W:=WalksT.enumerate (prog:=X.prog) (w:=X.w) (I.ok.hd hc) e it l n1 n2 n3 its.toArray;obtain ⟨s1,s2⟩:=st;have li : i < its.length:=(List.getElem?_eq_some_iff.mp hu).1;refine W.item i s _ _ (by simp only [List.size_toArray]; omega) ⟨s1,s2,p1.isList⟩ fun T vals h' tk hP fT tT mid kk=>?_;refine ⟨_,rfl,W.go elts kt pt i T _ _ _ mid fun h'' st'' kk2=>?_⟩;obtain ⟨t,a,ha,rfl⟩:=hP;have ea : a = u:=by simpa [hu] using ha.symm
  subst ea;obtain ⟨t1,t2,_⟩:=st'';have kT : h''.IsTuple T #[.int i t,a]:=by
   obtain ⟨o,q,r⟩:=tT;exact ⟨o,kk2 T o (W.apart i T h' mid) q,r⟩
  refine ⟨.ref T,upd H T (.tup [.int i,x]),I.turnTup (ch:=[e,it]) (t':=tk) hf (fun c o hc q=>kk2 c o hc (kk c o hc q)) fT ⟨(show 2 ≤ sizeLine by decide),[.int i t,a],.cons ⟨t,rfl⟩ (.cons ru .nil),kT⟩,rfl,⟨T,x,I.hok.fresh fT,rfl,fun xs' hq=>by rw [I.list_inj hq q1]; exact hx,rfl⟩,⟨t1,t2⟩,fun c hc=>?_⟩;have hcn:=(hf c hc).1;rw [Jk7 (fun w'=>?_)]
  ·exact hcn
  ·subst w';obtain ⟨o,q,_⟩:=EnuSt.obj (show EnuSt e it l i s.heap from ⟨s1,s2⟩) c hc;exact absurd (Heap.lt_size q) (Nat.not_lt.mpr fT)
 done:=by
  intro X hP hw hK hc i pins s σ H E I hf st hg;subst hP hw hK;obtain ⟨xs,q1,hi⟩:=hg;obtain ⟨its,rv,p1,_⟩:=I.list q1;have W:=WalksT.enumerate (prog:=X.prog) (w:=X.w) (I.ok.hd hc) e it l n1 n2 n3 its.toArray;obtain ⟨s1,s2⟩:=st;have e1:=rv.length;have ei : i = its.toArray.size:=by simp only [List.size_toArray]; omega
  subst ei;refine W.done s _ _ ⟨s1,s2,p1.isList⟩ fun h' tk kk=>⟨rfl,?_⟩;exact I.turnMany (ch:=[e,it]) hf fun c o hc q=>kk c o hc q
 self:=fun _ _ _ _ _ st h=>let ⟨_,q⟩:=st.1; wpAny_pyIter_enum q h
noncomputable def iEnu (K : PySem.W.Frag) (ta : TA) : TI:=fun σ H R=>ta σ H fun vs H1=>∃ a,vs = [.ref a] ∧ (∃ xs,SqL K H1 a xs) ∧ R (ItE K a) H1
theorem Jwz {X : Cx} {elts : List Expr} {kt : Nat} {pt : Pos} {a : Expr} {ta : TA} {p pos : Pos} (hg : Gl X "enumerate") (hm : X.mg "enumerate" = none) (ha : PA X [a] ta) (hs : starEach [a] X.env = [(false,eval a X.env)]:=by rfl) :
  PI X (.Tuple elts kt pt) (.Call (.Name "enumerate" p) [a] [] pos) (iEnu X.K ta):=by
 intro pins s σ H R I h;refine Call_ (Jnd I hg hm Jpr (PyProof.Rows.callWith_type1 (thn (ha pos pins s σ H _ I h) fun us s1 ⟨vs,H1,I1,r1,q1⟩=>?_) (by rw [hs]; rfl) rfl));obtain ⟨l,rfl,⟨xs,q1⟩,q⟩:=q1;obtain ⟨u,rfl,r2⟩:=Jnb r1;obtain rfl : u = Value.ref l:=r2;obtain ⟨its,rv,p1,_⟩:=I1.list q1;have a1 : l < s1.heap.objs.size:=by obtain ⟨o,n,e,_⟩:=p1; exact Heap.lt_size e
 refine call_enumerate_list p1.isList fun h' z1 z2 z3 kk=>?_;have I2 : Inv X pins σ H1 { s1 with heap:=h' }:=I1.kept (t':=s1.toks) kk;refine wpAny_pyIter_enum z1 ⟨_,_,_,_,H1,rfl,I2,Jzv (s1.heap.objs.size + 1) s1.heap.objs.size l (Nat.succ_ne_self _) (Nat.ne_of_lt (Nat.lt_succ_of_lt a1)) (Nat.ne_of_lt a1),⟨⟨_,z1⟩,z2⟩,fun c hc=>?_,q⟩;have hc' : s1.heap.objs.size ≤ c:=by
  simp only [List.mem_cons,List.not_mem_nil,or_false] at hc;rcases hc with rfl | rfl
  ·exact Nat.le_succ _
  ·exact Nat.le_refl _
 exact I1.fpOk hc' (I1.hok.fresh hc')
end L2
namespace L2
open PySem PySem.Spec PyProof.Rows PySem.W
section
variable {prog : Program} {w : World} {A : Around} {E : Value → Shared → Prop} {s : Shared}
theorem Juo {it t : Addr} {i : Nat} {items : Array Value} {x : Value} {Q : Value → Shared → Prop} (hit : s.heap.IsTupleIter it t i) (ht : s.heap.IsTuple t items) (hx : items[i]? = some x)
  (hQ : ∀ h', h'.IsTupleIter it t (i + 1) → Heap.SameBut it s.heap h' → Q x { s with heap:=h' }) : wpAny (model prog w) A (Builtin.SmallTypes.nextOf (.ref it)) Q E s:=by
 obtain ⟨o,ho,hc,hd⟩:=id hit;obtain ⟨ol,hol,_,nl,hdl⟩:=ht;have hT : s.TypeIs (.ref it) "tuple_iterator" := ⟨o,ho,hc⟩;unfold Builtin.SmallTypes.nextOf;refine wpAny_bind (wpAny_callSpecial?_slot (name:=Str.ofString "__next__") hT slot_tupleiter_next (wpAny_call_entry slot_tupleiter_next hT entry_tupleiter_next ?_ (args_tupleiter_next _)));refine wpAny_bind (m:=field (.ref it) 0) (wpAny_field ho hd (x:=.ref t) rfl ?_);show wpAny _ _ (if (Value.ref t == Value.none) = true then _ else _) _ _ s;rw [if_neg (show ¬ ((Value.ref t == Value.none) = true) from Bool.false_ne_true)];refine wpAny_bind (m:=field (.ref it) 1) (wpAny_field ho hd (x:=.int i 0) rfl ?_);refine wpAny_bind (m:=seqItems? (.ref t)) (wpAny_seqItems hol hdl ?_);simp only [Int.toNat_natCast,hx];refine wpAny_bind (wpAny_setField ho hd (by simp) (wpAny_pure ⟨x,rfl,wpAny_pure (hQ _ ⟨_,Heap.get?_update_self _ ho (Obj.isFreed_of_fields (Obj.data_mapFields hd _)),(Obj.cls_mapFields ..).trans hc,?_⟩ (Heap.SameBut.update ..))⟩));rw [Obj.data_mapFields hd];simp [rawInt]
theorem Jvj {it t : Addr} {i : Nat} {items : Array Value} {Q : Value → Shared → Prop} (hh : A.handled = none) (hit : s.heap.IsTupleIter it t i) (ht : s.heap.IsTuple t items) (hx : items[i]? = none)
  (hE : ∀ h' e,Heap.ExtBut it s.heap h' → (∃ o,h'.get? e = some o ∧ o.cls = .type "StopIteration") → E (.ref e) { s with heap:=h' }) : wpAny (model prog w) A (Builtin.SmallTypes.nextOf (.ref it)) Q E s:=by
 obtain ⟨o,ho,hc,hd⟩:=id hit;obtain ⟨ol,hol,_,nl,hdl⟩:=ht;have hT : s.TypeIs (.ref it) "tuple_iterator" := ⟨o,ho,hc⟩;unfold Builtin.SmallTypes.nextOf;refine wpAny_bind (wpAny_callSpecial?_slot (name:=Str.ofString "__next__") hT slot_tupleiter_next (wpAny_call_entry slot_tupleiter_next hT entry_tupleiter_next ?_ (args_tupleiter_next _)));refine wpAny_bind (m:=field (.ref it) 0) (wpAny_field ho hd (x:=.ref t) rfl ?_);show wpAny _ _ (if (Value.ref t == Value.none) = true then _ else _) _ _ s;rw [if_neg (show ¬ ((Value.ref t == Value.none) = true) from Bool.false_ne_true)];refine wpAny_bind (m:=field (.ref it) 1) (wpAny_field ho hd (x:=.int i 0) rfl ?_);refine wpAny_bind (m:=seqItems? (.ref t)) (wpAny_seqItems hol hdl ?_);simp only [Int.toNat_natCast,hx];refine wpAny_bind (wpAny_rule (wpAny_bind (wpAny_setField ho hd (by simp) ?_)));refine wpAny_bind (m:=newExc (.type "StopIteration") []) ?_;simp only [newExc,newTuple];refine wpAny_bind (wpAny_newObj_type (wpAny_bind (m:=firstArgMember _ _) (wpAny_of_eq (a:=Value.none) (by first | rfl | (simp only [firstArgMember]; rfl)) (wpAny_newObj_type ?_ (by size_fits)))) (by size_fits));simp only [raiseNew];refine wpAny_bind (wpAny_handled ?_)
 first | rw [show A.in1.handled = none from hh] | rw [hh]
 exact wpAny_bind (wpAny_pure (wpAny_throw (hE _ _ (((Heap.SameBut.update ..).extBut.push _).push _) ⟨_,Heap.get?_push_size _ rfl,rfl⟩)))
end
theorem Jql {prog : Program} {w : World} {A : Around} (hh : A.handled = none) (it l : Addr) (hne : l ≠ it) (items : Array Value) :
  Draws prog w A it [it,l] items.size (fun i v=>items[i]? = some v) (fun i h=>h.IsTupleIter it l i ∧ h.IsTuple l items) where
 live:=fun _ _ st=>let ⟨o,ho,_⟩:=st.1; ⟨o,ho⟩
 frame:=fun _ _ _ st hk=>⟨st.1.at fun o e=>hk it (by simp) o e,st.2.at fun o e=>hk l (by simp) o e⟩
 item:=fun i s Q E hi st hQ=>Juo st.1 st.2 (x:=items[i]) (by simp [hi]) fun h' hit' hs'=>hQ _ h' s.toks (by simp [hi]) ⟨hit', st.2.extBut hs'.extBut hne⟩ hs'
 done:=fun s Q E st hE=>Jvj hh st.1 st.2 (by simp) hE
end L2
namespace L2
open PySem PySem.Spec PyProof.Rows PySem.W
set_option maxRecDepth 100000 in
set_option maxHeartbeats 2000000 in
theorem Jym (l : Addr) (items : Array Value) (n : Nat) (dct : Option Addr) (sl : Array (Option Value)) :
  Meets (Builtin.«enumerate.__new__» ⟨[.type "enumerate",.ref l],[]⟩) (fun _ R s=>s.heap.get? l = some { cls:=.type "tuple",dict:=dct,data:=.seq items n,slots:=sl } ∧
   R (.ok (.ret (.ref (s.heap.push { cls:=.type "tuple_iterator",data:=.fields #[.ref l,.int 0 0] }).objs.size)))
    { s with heap:=(s.heap.push { cls:=.type "tuple_iterator",data:=.fields #[.ref l,.int 0 0] }).push { cls:=.type "enumerate",data:=.fields #[.none,.bool false,.ref s.heap.objs.size,rawInt 0,.none,.none] } }) :=
 .of_wp fun prog w A R s h=>by
  obtain ⟨hp,g,d,tk,os⟩:=s;obtain ⟨hl,h⟩:=h;have e1:=sub_enumerate;have e2 : Heap.IsTuple (Shared.heap ⟨hp,g,d,tk,os⟩) l items:=⟨_,hl,rfl,n,rfl⟩
  wp_walk using AutoSeq1.wpAny_loadPart' hl
  refine wpAny_stack_any fun st=>wpAny_pure ?_;split
  ·rename_i c _ _ _ _ _
   cases (c == Value.type "enumerate")
   ·wp_walk using AutoSeq1.wpAny_loadPart' hl,wpAny_pyIter_tuple e2
    exact ⟨_,rfl,h⟩
   ·wp_walk using AutoSeq1.wpAny_loadPart' hl,wpAny_pyIter_tuple e2
    exact ⟨_,rfl,h⟩
  ·wp_walk using AutoSeq1.wpAny_loadPart' hl,wpAny_pyIter_tuple e2
   exact ⟨_,rfl,h⟩
section
variable {prog : Program} {w : World} {A : Around} {E : Value → Shared → Prop} {s : Shared}
theorem Jx9 {l : Addr} {items : Array Value} {Q : Value → Shared → Prop} (hL : s.heap.IsTuple l items)
  (h : ∀ h', IsEnum h' (s.heap.objs.size + 1) s.heap.objs.size 0 .none → h'.IsTupleIter s.heap.objs.size l 0 → (∀ b o,s.heap.get? b = some o → h'.get? b = some o) → Q (.ref (s.heap.objs.size + 1)) { s with heap:=h' }) :
  wpAny (model prog w) A (call (.type "enumerate") [.ref l]) Q E s:=by
 obtain ⟨⟨c,dct,dt,sl⟩,hl,hc,n,hd⟩:=hL;replace hc : c = .type "tuple" := hc;replace hd : dt = .seq items n:=hd;subst hc hd;refine callType_new F.called_enumerate (by decide) (F.typeCall_enumerate_1 _) (F.newCall_enumerate_1 _) (fun obj=>F.args_object_init_2 obj _) F.entry_enumerate_new (Jym l items n dct sl) ⟨hl,?_⟩;have hz : (s.heap.push { cls:=.type "tuple_iterator",data:=.fields #[.ref l,.int 0 0] }).objs.size = s.heap.objs.size + 1:=Heap.size_push ..;show _ ∧ _;rw [hz];have he : IsEnum ((s.heap.push { cls:=.type "tuple_iterator",data:=.fields #[.ref l,.int 0 0] }).push { cls:=.type "enumerate",data:=.fields #[.none,.bool false,.ref s.heap.objs.size,rawInt 0,.none,.none] }) (s.heap.objs.size + 1) s.heap.objs.size 0 .none:=by
  have q:=Heap.get?_push_size (s.heap.push { cls:=.type "tuple_iterator",data:=.fields #[.ref l,.int 0 0] }) (o:={ cls:=.type "enumerate",data:=.fields #[.none,.bool false,.ref s.heap.objs.size,rawInt 0,.none,.none] }) rfl;rw [hz] at q;exact q
 exact ⟨⟨_,he,rfl⟩,h _ he ⟨_,Heap.get?_push_of_some _ (Heap.get?_push_size _ rfl),rfl,rfl⟩ fun b o x=>Heap.get?_push_of_some _ (Heap.get?_push_of_some _ x)⟩
end
noncomputable def ItU (K : PySem.W.Frag) (a : Addr) : It:=⟨fun i H=>∃ xs x,SqT K H a xs ∧ xs[i]? = some x,
 fun i H x H'=>∃ T u,H T = none ∧ x = .ref T ∧ (∀ xs,SqT K H a xs → xs[i]? = some u) ∧ H' = upd H T (.tup [.int i,u]),
 fun i H=>∃ xs,SqT K H a xs ∧ i = xs.length⟩
noncomputable def EnuTt (e it l : Addr) (i : Nat) (h : Heap) : Prop:=(∃ old,IsEnum h e it i old) ∧ h.IsTupleIter it l i
theorem EnuTt.obj {e it l : Addr} {i : Nat} {h : Heap} (st : EnuTt e it l i h) : ∀ b ∈ [e,it],∃ o,h.get? b = some o ∧ ∀ v,o.data ≠ .cell v:=fun b hb=>by
 obtain ⟨⟨old,h1⟩,⟨o4,h4,_,d4⟩⟩:=st;simp only [List.mem_cons,List.not_mem_nil,or_false] at hb;rcases hb with rfl | rfl
 ·exact ⟨_,h1,fun v z=>by cases z⟩
 ·exact ⟨o4,h4,fun v z=>by rw [d4] at z; cases z⟩
theorem Jy8 {P : Program} {w : World} {K : PySem.W.Frag} {elts : List Expr} {kt : Nat} {pt : Pos} (e it l : Addr) (n1 : e ≠ it) (n2 : l ≠ e) (n3 : l ≠ it) :
  Turn P w K (.Tuple elts kt pt) (ItU K l) [e,it] e (EnuTt e it l) where
 mem:=by simp
 obj:=fun i h st=>st.obj
 keep:=fun i h h' st k=>by
  obtain ⟨⟨old,h1⟩,h2⟩:=st;exact ⟨⟨old,k e (by simp) _ h1⟩,h2.at fun o q=>k it (by simp) o q⟩
 item:=by
  intro X hP hw hK hc i pins s σ H E I hf st hg;subst hP hw hK;obtain ⟨xs,x,q1,hx⟩:=hg;obtain ⟨its,rv,p1,_⟩:=I.tuple q1;obtain ⟨u,hu,ru⟩:=rv.get hx;have hh : X.A.in1.handled = none:=I.ok.hd hc;have W:=WalksT.enumerateD (prog:=X.prog) (w:=X.w) (A:=X.A) (Jql hh it l n3 its.toArray) e n1 (by simp [n1,Ne.symm n2]) (by simp);obtain ⟨s1,s2⟩:=st;have li : i < its.length:=(List.getElem?_eq_some_iff.mp hu).1;refine W.item i s _ _ (by simp only [List.size_toArray]; omega) ⟨s1,s2,p1⟩ fun T vals h' tk hP fT tT mid kk=>?_;refine ⟨_,rfl,W.go elts kt pt i T _ _ _ mid fun h'' st'' kk2=>?_⟩;obtain ⟨t,a,ha,rfl⟩:=hP;have ea : a = u:=by simpa [hu] using ha.symm
  subst ea;obtain ⟨t1,t2,_⟩:=st'';have kT : h''.IsTuple T #[.int i t,a]:=by
   obtain ⟨o,q,r⟩:=tT;exact ⟨o,kk2 T o (W.apart i T h' mid) q,r⟩
  refine ⟨.ref T,upd H T (.tup [.int i,x]),I.turnTup (ch:=[e,it]) (t':=tk) hf (fun c o hc q=>kk2 c o hc (kk c o hc q)) fT ⟨(show 2 ≤ sizeLine by decide),[.int i t,a],.cons ⟨t,rfl⟩ (.cons ru .nil),kT⟩,rfl,⟨T,x,I.hok.fresh fT,rfl,fun xs' hq=>by rw [I.tuple_inj hq q1]; exact hx,rfl⟩,⟨t1,t2⟩,fun c hc=>?_⟩;have hcn:=(hf c hc).1;rw [Jk7 (fun w'=>?_)]
  ·exact hcn
  ·subst w';obtain ⟨o,q,_⟩:=EnuTt.obj (show EnuTt e it l i s.heap from ⟨s1,s2⟩) c hc;exact absurd (Heap.lt_size q) (Nat.not_lt.mpr fT)
 done:=by
  intro X hP hw hK hc i pins s σ H E I hf st hg;subst hP hw hK;obtain ⟨xs,q1,hi⟩:=hg;obtain ⟨its,rv,p1,_⟩:=I.tuple q1;have hh : X.A.in1.handled = none:=I.ok.hd hc;have W:=WalksT.enumerateD (prog:=X.prog) (w:=X.w) (A:=X.A) (Jql hh it l n3 its.toArray) e n1 (by simp [n1,Ne.symm n2]) (by simp);obtain ⟨s1,s2⟩:=st;have e1:=rv.length;have ei : i = its.toArray.size:=by simp only [List.size_toArray]; omega
  subst ei;refine W.done s _ _ ⟨s1,s2,p1⟩ fun h' tk kk=>⟨rfl,?_⟩;exact I.turnMany (ch:=[e,it]) hf fun c o hc q=>kk c o hc q
 self:=fun _ _ _ _ _ st h=>let ⟨_,q⟩:=st.1; wpAny_pyIter_enum q h
noncomputable def iEnuT (K : PySem.W.Frag) (ta : TA) : TI:=fun σ H R=>ta σ H fun vs H1=>∃ a,vs = [.ref a] ∧ (∃ xs,SqT K H1 a xs) ∧ R (ItU K a) H1
theorem Jva {X : Cx} {elts : List Expr} {kt : Nat} {pt : Pos} {a : Expr} {ta : TA} {p pos : Pos} (hg : Gl X "enumerate") (hm : X.mg "enumerate" = none) (ha : PA X [a] ta) (hs : starEach [a] X.env = [(false,eval a X.env)]:=by rfl) :
  PI X (.Tuple elts kt pt) (.Call (.Name "enumerate" p) [a] [] pos) (iEnuT X.K ta):=by
 intro pins s σ H R I h;refine Call_ (Jnd I hg hm Jpr (PyProof.Rows.callWith_type1 (thn (ha pos pins s σ H _ I h) fun us s1 ⟨vs,H1,I1,r1,q1⟩=>?_) (by rw [hs]; rfl) rfl));obtain ⟨l,rfl,⟨xs,q1⟩,q⟩:=q1;obtain ⟨u,rfl,r2⟩:=Jnb r1;obtain rfl : u = Value.ref l:=r2;obtain ⟨its,rv,p1,_⟩:=I1.tuple q1;have a1 : l < s1.heap.objs.size:=by obtain ⟨o,e,_⟩:=p1; exact Heap.lt_size e
 refine Jx9 (show s1.heap.IsTuple l its.toArray from p1) fun h' z1 z2 kk=>?_;have I2 : Inv X pins σ H1 { s1 with heap:=h' }:=I1.kept (t':=s1.toks) kk;refine wpAny_pyIter_enum z1 ⟨_,_,_,_,H1,rfl,I2,Jy8 (s1.heap.objs.size + 1) s1.heap.objs.size l (Nat.succ_ne_self _) (Nat.ne_of_lt (Nat.lt_succ_of_lt a1)) (Nat.ne_of_lt a1),⟨⟨_,z1⟩,z2⟩,fun c hc=>?_,q⟩;have hc' : s1.heap.objs.size ≤ c:=by
  simp only [List.mem_cons,List.not_mem_nil,or_false] at hc;rcases hc with rfl | rfl
  ·exact Nat.le_succ _
  ·exact Nat.le_refl _
 exact I1.fpOk hc' (I1.hok.fresh hc')
end L2
namespace L2
open PySem PySem.Spec PyProof.Rows PySem.W
noncomputable abbrev Jm3 (h : Heap) (T : Addr) (a b c : Value) : Prop:=h.get? T = some { cls:=.type "tuple",data:=.seq #[a,b,c] }
noncomputable abbrev DrA (prog : Program) (w : World) (i l : Addr) (n : Nat) (P : Nat → Value → Prop) (St : Nat → Heap → Prop) : Prop:=∀ A : Around,A.handled = none → Draws prog w A i [i,l] n P St
structure Z3 (z TI TO i1 i2 i3 l1 l2 l3 : Addr) : Prop where
 nd : [z,TI,TO,i1,i2,i3].Nodup
 m1 : l1 ∉ [z,TI,TO,i1,i2,i3]
 m2 : l2 ∉ [z,TI,TO,i1,i2,i3]
 m3 : l3 ∉ [z,TI,TO,i1,i2,i3]
section
variable {prog : Program} {w : World} {A : Around} {E : Value → Shared → Prop} {s : Shared}
theorem Jwj {T : Addr} {a b c x : Value} {k : Nat} {Q : Unit → Shared → Prop} (hT : Jm3 s.heap T a b c)
  (h : ∀ h', h'.get? T = some { cls:=.type "tuple",data:=.seq ((#[a,b,c] : Array Value).setIfInBounds k x) } → Heap.SameBut T s.heap h' → Q () { s with heap:=h' }) : wpAny (model prog w) A (updateSeq T (·.setIfInBounds k x)) Q E s:=by
 refine wpAny_updateSeq hT rfl (h _ ?_ (Heap.SameBut.update ..));rw [Heap.get?_update_self _ hT rfl];simp [Obj.mapSeq]
variable {z TI TO i1 i2 i3 l1 l2 l3 : Addr} {n k : Nat} {P1 P2 P3 : Nat → Value → Prop} {S1 S2 S3 : Nat → Heap → Prop} {a b c : Value}
theorem Yay {Q : Value → Shared → Prop} (Z : Z3 z TI TO i1 i2 i3 l1 l2 l3) (hz : IsZip s.heap z TI TO .none) (hTI : Jm3 s.heap TI (.ref i1) (.ref i2) (.ref i3)) (hTO : Jm3 s.heap TO a b c)
  (hh : A.handled = none) (D1 : DrA prog w i1 l1 n P1 S1) (D2 : DrA prog w i2 l2 n P2 S2) (D3 : DrA prog w i3 l3 n P3 S3) (hk : k < n) (t1 : S1 k s.heap) (t2 : S2 k s.heap) (t3 : S3 k s.heap)
  (hQ : ∀ x y u h' tk,P1 k x → P2 k y → P3 k u → IsZip h' z TI TO (rawInt s.heap.objs.size) → Jm3 h' TO x y u → S1 (k + 1) h' → S2 (k + 1) h' → S3 (k + 1) h' → Jm3 h' s.heap.objs.size x y u →
   (∀ d o,d ≠ z → d ≠ TO → d ≠ i1 → d ≠ i2 → d ≠ i3 → s.heap.get? d = some o → h'.get? d = some o) → Q (.ref s.heap.objs.size) { s with heap:=h', toks:=tk }) :
  wpAny (model prog w) A (Builtin.«zip.__next__» ⟨[.ref z],[]⟩) (fun fin s'=>∃ v,fin = .done (.ret v) ∧ Q v s') E s:=by
 obtain ⟨nd,m1,m2,m3⟩:=Z;simp only [List.nodup_cons,List.mem_cons,List.not_mem_nil,or_false,not_or,List.nodup_nil,and_true,not_false_eq_true] at nd m1 m2 m3;obtain ⟨⟨zTI,zTO,z1,z2,z3⟩,⟨TITO,TI1,TI2,TI3⟩,⟨TO1,TO2,TO3⟩,⟨n12,n13⟩,n23⟩:=nd;obtain ⟨l1z,l1TI,l1TO,l11,l12,l13⟩:=m1;obtain ⟨l2z,l2TI,l2TO,l21,l22,l23⟩:=m2;obtain ⟨l3z,l3TI,l3TO,l31,l32,l33⟩:=m3;have fr : ∀ {S : Nat → Heap → Prop} {P : Nat → Value → Prop} {i l b : Addr} {m : Nat} {h h' : Heap},DrA prog w i l n P S → i ≠ b → l ≠ b → Heap.SameBut b h h' → S m h → S m h':=fun D e1 e2 sb st =>
  (D A hh).frame _ _ _ st fun d hd o e=>by
   simp only [List.mem_cons,List.not_mem_nil,or_false] at hd;rcases hd with rfl | rfl
   ·exact sb.extBut _ _ e1 e
   ·exact sb.extBut _ _ e2 e
 show wpAny _ _ (field (.ref z) 2 >>= _) _ _ _;refine wpAny_bind (wpAny_field hz rfl (x:=.bool false) rfl ?_);refine wpAny_bind (m:=field (.ref z) 3) (wpAny_field hz rfl (x:=.ref TI) rfl ?_);refine wpAny_bind (wpAny_seqItems hTI rfl ?_);refine wpAny_bind (m:=Builtin.SmallTypes.ownedTupleIsFree (.ref z)) ?_;unfold Builtin.SmallTypes.ownedTupleIsFree;refine wpAny_bind (wpAny_field hz rfl (x:=.none) rfl (wpAny_pure ?_));simp only [if_true];refine wpAny_bind (wpAny_rule (wpAny_bind (wpAny_field hz rfl (x:=.ref TO) rfl (wpAny_bind (wpAny_setField_rec hz (by simp) fun h1 hz1 s1=>?_)))));replace hz1 : IsZip h1 z TI TO .ellipsis:=hz1;refine wpAny_bind ?_;simp only [List.zipIdx_cons,List.zipIdx_nil,List.forIn_cons,List.forIn_nil];refine wpAny_bind (wpAny_bind (wpAny_onRaise ?_));refine wpAny_bind (m:=Builtin.SmallTypes.nextOf (.ref i1)) ((D1 A hh).item k _ _ _ hk (fr D1 (Ne.symm z1) l1z s1 t1) fun x h2 k2 px u1 s2=>wpAny_pure ?_);have o2 : Jm3 h2 TO a b c:=s2.extBut _ _ TO1 (s1.extBut _ _ (Ne.symm zTO) hTO);refine wpAny_bind (wpAny_seqItems o2 rfl (wpAny_bind (Jwj o2 fun h3 o3 s3=>wpAny_bind (wpAny_letGo (wpAny_pure ?_)))));replace o3 : Jm3 h3 TO x b c:=o3;refine wpAny_bind (wpAny_bind (wpAny_onRaise ?_));refine wpAny_bind (m:=Builtin.SmallTypes.nextOf (.ref i2)) ((D2 A hh).item k _ _ _ hk (fr D2 (Ne.symm TO2) l2TO s3 (fr D2 (Ne.symm n12) l21 s2 (fr D2 (Ne.symm z2) l2z s1 t2))) fun y h4 k4 py u2 s4=>wpAny_pure ?_);have o4 : Jm3 h4 TO x b c:=s4.extBut _ _ TO2 o3;refine wpAny_bind (wpAny_seqItems o4 rfl (wpAny_bind (Jwj o4 fun h5 o5 s5=>wpAny_bind (wpAny_letGo (wpAny_pure ?_)))));replace o5 : Jm3 h5 TO x y c:=o5;refine wpAny_bind (wpAny_bind (wpAny_onRaise ?_));refine wpAny_bind (m:=Builtin.SmallTypes.nextOf (.ref i3)) ((D3 A hh).item k _ _ _ hk (fr D3 (Ne.symm TO3) l3TO s5 (fr D3 (Ne.symm n23) l32 s4 (fr D3 (Ne.symm TO3) l3TO s3 (fr D3 (Ne.symm n13) l31 s2 (fr D3 (Ne.symm z3) l3z s1 t3))))) fun u h6 k6 pu u3 s6=>wpAny_pure ?_);have o6 : Jm3 h6 TO x y c:=s6.extBut _ _ TO3 o5;refine wpAny_bind (wpAny_seqItems o6 rfl (wpAny_bind (Jwj o6 fun h7 o7 s7=>wpAny_bind (wpAny_letGo (wpAny_pure (wpAny_pure ?_))))));replace o7 : Jm3 h7 TO x y u:=o7;refine wpAny_bind (wpAny_seqItems o7 rfl (wpAny_bind (wpAny_newTuple ?_)));have sz : h7.objs.size = s.heap.objs.size:=by rw [s7.1,s6.1,s5.1,s4.1,s3.1,s2.1,s1.1]
 have zz : IsZip h7 z TI TO .ellipsis:=s7.extBut _ _ zTO (s6.extBut _ _ z3 (s5.extBut _ _ zTO (s4.extBut _ _ z2 (s3.extBut _ _ zTO (s2.extBut _ _ z1 hz1)))));have kk : ∀ d o,d ≠ z → d ≠ TO → d ≠ i1 → d ≠ i2 → d ≠ i3 → s.heap.get? d = some o → h7.get? d = some o:=fun d o c1 c2 c3 c4 c5 e =>
  s7.extBut _ _ c2 (s6.extBut _ _ c5 (s5.extBut _ _ c2 (s4.extBut _ _ c4 (s3.extBut _ _ c2 (s2.extBut _ _ c3 (s1.extBut _ _ c1 e))))))
 have w1 : S1 (k + 1) h7:=fr D1 (Ne.symm TO1) l1TO s7 (fr D1 n13 l13 s6 (fr D1 (Ne.symm TO1) l1TO s5 (fr D1 n12 l12 s4 (fr D1 (Ne.symm TO1) l1TO s3 u1))));have w2 : S2 (k + 1) h7:=fr D2 (Ne.symm TO2) l2TO s7 (fr D2 n23 l23 s6 (fr D2 (Ne.symm TO2) l2TO s5 u2));have w3 : S3 (k + 1) h7:=fr D3 (Ne.symm TO3) l3TO s7 u3;have zlt : z < h7.objs.size:=Heap.lt_size zz;refine wpAny_bind (m:=Builtin.SmallTypes.ownedTupleHandOut (.ref z) (.ref h7.objs.size)) ?_;unfold Builtin.SmallTypes.ownedTupleHandOut;have zp : IsZip (h7.push { cls:=.type "tuple",data:=.seq #[x,y,u] }) z TI TO .ellipsis:=Heap.get?_push_of_some _ zz;refine wpAny_bind (wpAny_setField_rec zp (by simp) fun h8 hz8 s8=>?_);replace hz8 : IsZip h8 z TI TO (rawInt h7.objs.size):=hz8;refine wpAny_setField_rec hz8 (by simp) fun h9 hz9 s9=>?_;replace hz9 : IsZip h9 z TI TO (rawInt h7.objs.size):=hz9;have up : ∀ d o,d ≠ z → h7.get? d = some o → h9.get? d = some o:=fun d o c1 e=>s9.extBut _ _ c1 (s8.extBut _ _ c1 (Heap.get?_push_of_some _ e));have nw : Jm3 h9 h7.objs.size x y u:=s9.extBut _ _ (Nat.ne_of_gt zlt) (s8.extBut _ _ (Nat.ne_of_gt zlt) (Heap.get?_push_size _ rfl));have fz : ∀ {S : Nat → Heap → Prop} {P : Nat → Value → Prop} {i l : Addr} {m : Nat},DrA prog w i l n P S → i ≠ z → l ≠ z → S m h7 → S m h9:=fun D e1 e2 st=>(D A hh).frame _ _ _ st fun d hd o e=>by
  simp only [List.mem_cons,List.not_mem_nil,or_false] at hd;rcases hd with rfl | rfl
  ·exact up _ _ e1 e
  ·exact up _ _ e2 e
 rw [sz] at hz9 nw;refine wpAny_pure ⟨_,rfl,?_⟩;show Q (.ref h7.objs.size) _;rw [sz];exact hQ x y u h9 _ px py pu hz9 (up _ _ (Ne.symm zTO) o7) (fz D1 (Ne.symm z1) l1z w1) (fz D2 (Ne.symm z2) l2z w2) (fz D3 (Ne.symm z3) l3z w3) nw fun d o c1 c2 c3 c4 c5 e=>up d o c1 (kk d o c1 c2 c3 c4 c5 e)
theorem z3_end {Q : Fin → Shared → Prop} (Z : Z3 z TI TO i1 i2 i3 l1 l2 l3) (hz : IsZip s.heap z TI TO .none) (hTI : Jm3 s.heap TI (.ref i1) (.ref i2) (.ref i3))
  (hh : A.handled = none) (D1 : DrA prog w i1 l1 n P1 S1) (t1 : S1 n s.heap)
  (hE : ∀ h' e,(∀ d o,d ≠ z → d ≠ i1 → s.heap.get? d = some o → h'.get? d = some o) → (∃ o,h'.get? e = some o ∧ o.cls = .type "StopIteration") → E (.ref e) { s with heap:=h' }) :
  wpAny (model prog w) A (Builtin.«zip.__next__» ⟨[.ref z],[]⟩) Q E s:=by
 obtain ⟨nd,m1,_,_⟩:=Z;simp only [List.nodup_cons,List.mem_cons,List.not_mem_nil,or_false,not_or,List.nodup_nil,and_true,not_false_eq_true] at nd m1;obtain ⟨⟨zTI,zTO,z1,z2,z3⟩,_⟩:=nd;obtain ⟨l1z,l1TI,l1TO,l11,l12,l13⟩:=m1;show wpAny _ _ (field (.ref z) 2 >>= _) _ _ _;refine wpAny_bind (wpAny_field hz rfl (x:=.bool false) rfl ?_);refine wpAny_bind (m:=field (.ref z) 3) (wpAny_field hz rfl (x:=.ref TI) rfl ?_);refine wpAny_bind (wpAny_seqItems hTI rfl ?_);refine wpAny_bind (m:=Builtin.SmallTypes.ownedTupleIsFree (.ref z)) ?_;unfold Builtin.SmallTypes.ownedTupleIsFree;refine wpAny_bind (wpAny_field hz rfl (x:=.none) rfl (wpAny_pure ?_));simp only [if_true];refine wpAny_bind (wpAny_rule (wpAny_bind (wpAny_field hz rfl (x:=.ref TO) rfl (wpAny_bind (wpAny_setField_rec hz (by simp) fun h1 hz1 s1=>?_)))));replace hz1 : IsZip h1 z TI TO .ellipsis:=hz1;refine wpAny_bind ?_;simp only [List.zipIdx_cons,List.zipIdx_nil,List.forIn_cons,List.forIn_nil];refine wpAny_bind (wpAny_bind (wpAny_onRaise ?_));refine wpAny_bind (m:=Builtin.SmallTypes.nextOf (.ref i1)) ((D1 A hh).done _ _ _ ((D1 A hh).frame _ _ _ t1 fun d hd o e=>?_) fun h2 e s2 he=>?_)
 ·simp only [List.mem_cons,List.not_mem_nil,or_false] at hd;rcases hd with rfl | rfl
  ·exact s1.extBut _ _ (Ne.symm z1) e
  ·exact s1.extBut _ _ l1z e
 ·obtain ⟨oe,hoe,hce⟩:=he;have hz2 : IsZip h2 z TI TO .ellipsis:=s2 _ _ z1 hz1;have ez : e ≠ z:=fun q=>by subst q; rw [hz2] at hoe; cases hoe; simp at hce
  exact wpAny_setField_rec hz2 (by simp) fun h3 _ s3=>hE h3 e (fun d o c1 c2 q=>s3.extBut _ _ c1 (s2 _ _ c2 (s1.extBut _ _ c1 q))) ⟨oe,s3.extBut _ _ ez hoe,hce⟩
end
end L2
namespace L2
open PySem PySem.Spec PyProof.Rows PySem.W
noncomputable def Z3St (z TI TO i1 i2 i3 : Addr) (S1 S2 S3 : Nat → Heap → Prop) (i : Nat) (h : Heap) : Prop:=IsZip h z TI TO .none ∧ Jm3 h TI (.ref i1) (.ref i2) (.ref i3) ∧ (∃ a b c,Jm3 h TO a b c) ∧ S1 i h ∧ S2 i h ∧ S3 i h
section
variable {prog : Program} {w : World} {z TI TO i1 i2 i3 l1 l2 l3 : Addr} {n : Nat} {P1 P2 P3 : Nat → Value → Prop} {S1 S2 S3 : Nat → Heap → Prop}
theorem Y0 {A : Around} (hh : A.handled = none) (Z : Z3 z TI TO i1 i2 i3 l1 l2 l3) (D1 : DrA prog w i1 l1 n P1 S1) (D2 : DrA prog w i2 l2 n P2 S2) (D3 : DrA prog w i3 l3 n P3 S3) :
  WalksT prog w A z [z,TI,TO,i1,i2,i3,l1,l2,l3] [z,TO,i1,i2,i3] n (fun i vals=>∃ x y u,P1 i x ∧ P2 i y ∧ P3 i u ∧ vals = #[x,y,u]) (Z3St z TI TO i1 i2 i3 S1 S2 S3)
   (fun i T h=>IsZip h z TI TO (rawInt T) ∧ Jm3 h TI (.ref i1) (.ref i2) (.ref i3) ∧ (∃ a b c,Jm3 h TO a b c) ∧ S1 (i + 1) h ∧ S2 (i + 1) h ∧ S3 (i + 1) h ∧ T ∉ [z,TO,i1,i2,i3]) where
 sub:=fun c hc=>by simp at hc ⊢; rcases hc with rfl | rfl | rfl | rfl | rfl <;> simp
 frame:=fun i h h' hst hk=>by
  obtain ⟨hz,hTI,⟨a,b,c,hTO⟩,h1,h2,h3⟩:=hst;exact ⟨hk z (by simp) _ hz,hk TI (by simp) _ hTI,⟨a,b,c,hk TO (by simp) _ hTO⟩,(D1 A hh).frame _ _ _ h1 fun d hd o e=>hk d (by simp at hd; rcases hd with rfl | rfl <;> simp) o e,
   (D2 A hh).frame _ _ _ h2 fun d hd o e=>hk d (by simp at hd; rcases hd with rfl | rfl <;> simp) o e,(D3 A hh).frame _ _ _ h3 fun d hd o e=>hk d (by simp at hd; rcases hd with rfl | rfl <;> simp) o e⟩
 item:=fun i s Q E hi hst hQ=>by
  obtain ⟨hz,hTI,⟨a,b,c,hTO⟩,h1,h2,h3⟩:=hst;have hT : s.TypeIs (.ref z) "zip" := ⟨_,hz,rfl⟩;have nd:=Z.nd;simp only [List.nodup_cons,List.mem_cons,List.not_mem_nil,or_false,not_or,List.nodup_nil,and_true,not_false_eq_true] at nd;obtain ⟨⟨zTI,_⟩,⟨TITO,TI1,TI2,TI3⟩,_⟩:=nd;obtain ⟨e1,g1⟩:=(D1 A hh).live _ _ h1;obtain ⟨e2,g2⟩:=(D2 A hh).live _ _ h2;obtain ⟨e3,g3⟩:=(D3 A hh).live _ _ h3;unfold pyNext;refine wpAny_bind (wpAny_attempt (wpAny_callSpecial?_slot (name:=Str.ofString "__next__") hT F.slot_zip_next (wpAny_call_entry F.slot_zip_next hT F.entry_zip_next
   (Yay (A:=A.in1) Z hz hTI hTO hh D1 D2 D3 hi h1 h2 h3 fun x y u h' tk px py pu a1 a2 a3 a4 a5 a6 hk=>wpAny_pure ?_) (F.args_zip_next_1 _))))
  refine hQ s.heap.objs.size #[x,y,u] h' tk ⟨x,y,u,px,py,pu,rfl⟩ (Nat.le_refl _) ⟨_,a6,rfl,_,rfl⟩ ⟨a1,hk _ _ (Ne.symm zTI) TITO TI1 TI2 TI3 hTI,⟨_,_,_,a2⟩,a3,a4,a5,?_⟩ fun d o hd e=>hk d o (fun q=>hd (by simp [q])) (fun q=>hd (by simp [q])) (fun q=>hd (by simp [q])) (fun q=>hd (by simp [q])) (fun q=>hd (by simp [q])) e;have lt : ∀ {d o},s.heap.get? d = some o → s.heap.objs.size ≠ d:=fun e=>Nat.ne_of_gt (Heap.lt_size e);simp only [List.mem_cons,List.not_mem_nil,or_false,not_or];exact ⟨lt hz,lt hTO,lt g1,lt g2,lt g3⟩
 go:=fun elts k pos i T s Q E hm hQ=>by
  obtain ⟨hz,hTI,⟨a,b,c,hTO⟩,h1,h2,h3,_⟩:=hm;have nd:=Z.nd;have m1:=Z.m1;have m2:=Z.m2;have m3:=Z.m3;simp only [List.nodup_cons,List.mem_cons,List.not_mem_nil,or_false,not_or,List.nodup_nil,and_true,not_false_eq_true] at nd m1 m2 m3;obtain ⟨⟨zTI,zTO,z1,z2,z3⟩,_⟩:=nd;have fz : ∀ {S : Nat → Heap → Prop} {P : Nat → Value → Prop} {j l : Addr} {m : Nat} {h' : Heap},DrA prog w j l n P S → j ≠ z → l ≠ z → Heap.SameBut z s.heap h' → S m s.heap → S m h':=fun D e1 e2 sb st=>(D A hh).frame _ _ _ st fun d hd o e=>by
   simp only [List.mem_cons,List.not_mem_nil,or_false] at hd;rcases hd with rfl | rfl
   ·exact sb.extBut _ _ e1 e
   ·exact sb.extBut _ _ e2 e
  exact wpAny_letOwnedTupleGo_zip hz fun h' hz' sb=>hQ h' ⟨hz', sb.extBut _ _ (Ne.symm zTI) hTI,⟨a,b,c,sb.extBut _ _ (Ne.symm zTO) hTO⟩,fz D1 (Ne.symm z1) m1.1 sb h1,fz D2 (Ne.symm z2) m2.1 sb h2,fz D3 (Ne.symm z3) m3.1 sb h3⟩ fun d o hd e=>sb.extBut _ _ (fun q=>hd (by simp [q])) e
 apart:=fun i T h hm hT=>hm.2.2.2.2.2.2 hT
 done:=fun s Q E hst hQ=>by
  obtain ⟨hz,hTI,_,h1,h2,h3⟩:=hst;have hT : s.TypeIs (.ref z) "zip" := ⟨_,hz,rfl⟩;unfold pyNext;refine wpAny_bind (wpAny_attempt (wpAny_callSpecial?_slot (name:=Str.ofString "__next__") hT F.slot_zip_next (wpAny_call_entry F.slot_zip_next hT F.entry_zip_next
   (z3_end (A:=A.in1) Z hz hTI hh D1 h1 fun h' e hk he=>?_) (F.args_zip_next_1 _))))
  obtain ⟨o,ho,hc⟩:=he;refine wpAny_bind (wpAny_isInstance (T := "StopIteration") (b:=true) ⟨o,ho,hc⟩ isSubtype_stop (wpAny_pure ?_));exact hQ h' s.toks fun d o' hd e'=>hk d o' (fun q=>hd (by simp [q])) (fun q=>hd (by simp [q])) e'
 self:=fun i s Q E hst hQ=>wpAny_pyIter_zip hst.1 hQ
end
end L2
namespace L2
open PySem PySem.Spec PyProof.Rows PySem.W
noncomputable def SqB (K : PySem.W.Frag) (H : Hp) (l : Addr) : Bool → List V → Prop
 | false,xs=>SqL K H l xs
 | true,xs=>SqT K H l xs
noncomputable def IsB (h : Heap) (l : Addr) : Bool → Array Value → Prop
 | false,items=>h.IsList l items
 | true,items=>h.IsTuple l items
noncomputable def IS (it l : Addr) : Bool → Nat → Heap → Prop
 | false,i,h=>h.IsListIter it l i
 | true,i,h=>h.IsTupleIter it l i
noncomputable def itO (l : Addr) : Bool → Obj
 | false=>{ cls:=.type "list_iterator",data:=.fields #[.ref l,.int 0 0] }
 | true=>{ cls:=.type "tuple_iterator",data:=.fields #[.ref l,.int 0 0] }
theorem IS.at {it l : Addr} {b : Bool} {i : Nat} {h h' : Heap} (x : IS it l b i h) (k : ∀ o,h.get? it = some o → h'.get? it = some o) : IS it l b i h':=by
 cases b
 ·exact Heap.IsListIter.at x k
 ·exact Heap.IsTupleIter.at x k
theorem IS.obj {it l : Addr} {b : Bool} {i : Nat} {h : Heap} (x : IS it l b i h) : ∃ o,h.get? it = some o ∧ ∀ v,o.data ≠ .cell v:=by
 cases b
 ·obtain ⟨o,e,_,d⟩:=x;exact ⟨o,e,fun v z=>by rw [d] at z; cases z⟩
 ·obtain ⟨o,e,_,d⟩:=x;exact ⟨o,e,fun v z=>by rw [d] at z; cases z⟩
theorem drA {prog : Program} {w : World} {it l : Addr} (b : Bool) (ne : l ≠ it) (items : Array Value) : DrA prog w it l items.size (fun i v=>items[i]? = some v) (fun i h=>IS it l b i h ∧ IsB h l b items):=fun A hh=>by
 cases b
 ·exact Draws.list hh it l ne items
 ·exact Jql hh it l ne items
section
variable {prog : Program} {w : World} {A : Around} {E : Value → Shared → Prop} {s : Shared}
theorem IsB.push {h : Heap} {l : Addr} {b : Bool} {items : Array Value} (x : IsB h l b items) (o : Obj) : IsB (h.push o) l b items:=by
 cases b
 ·exact Heap.IsList.push x o
 ·exact Heap.IsTuple.push x o
theorem IsB.lt {h : Heap} {l : Addr} {b : Bool} {items : Array Value} (x : IsB h l b items) : l < h.objs.size:=by
 cases b
 ·obtain ⟨o,e,_⟩:=x; exact Heap.lt_size e
 ·obtain ⟨o,e,_⟩:=x; exact Heap.lt_size e
theorem Jpt {l : Addr} {b : Bool} {items : Array Value} {Q : Value → Shared → Prop} (x : IsB s.heap l b items) (hQ : Q (.ref s.heap.objs.size) { s with heap:=s.heap.push (itO l b) }) : wpAny (model prog w) A (pyIter (.ref l)) Q E s:=by
 cases b
 ·exact wpAny_pyIter_list x hQ
 ·exact wpAny_pyIter_tuple x hQ
end
noncomputable abbrev zA (h : Heap) (l1 : Addr) (b1 : Bool) : Heap:=h.push (itO l1 b1)
noncomputable abbrev zB (h : Heap) (l1 l2 : Addr) (b1 b2 : Bool) : Heap:=(zA h l1 b1).push (itO l2 b2)
noncomputable abbrev zC (h : Heap) (l1 l2 l3 : Addr) (b1 b2 b3 : Bool) : Heap:=(zB h l1 l2 b1 b2).push (itO l3 b3)
noncomputable abbrev zD (h : Heap) (l1 l2 l3 : Addr) (b1 b2 b3 : Bool) : Heap:=(zC h l1 l2 l3 b1 b2 b3).push { cls:=.type "tuple",data:=.seq #[.ref h.objs.size,.ref (zA h l1 b1).objs.size,.ref (zB h l1 l2 b1 b2).objs.size] }
noncomputable abbrev zE (h : Heap) (l1 l2 l3 : Addr) (b1 b2 b3 : Bool) : Heap:=(zD h l1 l2 l3 b1 b2 b3).push { cls:=.type "tuple",data:=.seq #[.none,.none,.none] }
noncomputable abbrev zF (h : Heap) (l1 l2 l3 : Addr) (b1 b2 b3 : Bool) : Heap:=(zE h l1 l2 l3 b1 b2 b3).push { cls:=.type "zip",data:=.fields #[.none,.bool false,.bool false,.ref (zC h l1 l2 l3 b1 b2 b3).objs.size,.ref (zD h l1 l2 l3 b1 b2 b3).objs.size] }
set_option maxRecDepth 100000 in
set_option maxHeartbeats 2000000 in
theorem Yb (l1 l2 l3 : Addr) (b1 b2 b3 : Bool) (xs ys us : Array Value) :
  Meets (Builtin.«zip.__new__» ⟨[.type "zip",.ref l1,.ref l2,.ref l3],[]⟩) (fun _ R s=>IsB s.heap l1 b1 xs ∧ IsB s.heap l2 b2 ys ∧ IsB s.heap l3 b3 us ∧
   R (.ok (.ret (.ref (zE s.heap l1 l2 l3 b1 b2 b3).objs.size))) { s with heap:=zF s.heap l1 l2 l3 b1 b2 b3 }) :=
 .of_wp fun prog w A R s h=>by
  obtain ⟨hp,g,d,tk,os⟩:=s;obtain ⟨hl1,hl2,hl3,h⟩:=h;have e0:=sub_zip;have e1 : IsB (Shared.heap ⟨hp,g,d,tk,os⟩) l1 b1 xs:=hl1;have e2 : IsB (Shared.heap ⟨hp.push (itO l1 b1),g,d,tk,os⟩) l2 b2 ys:=IsB.push hl2 _;have e3 : IsB (Shared.heap ⟨(hp.push (itO l1 b1)).push (itO l2 b2),g,d,tk,os⟩) l3 b3 us:=IsB.push (IsB.push hl3 _) _
  wp_walk using Jpt e1,Jpt e2,Jpt e3
  exact ⟨_,rfl,h⟩
theorem Jso (a b c : Value) : checkTypeCall "zip" ⟨[a,b,c],[]⟩ = pure ():=by kernel_rfl
theorem Jss (a b c : Value) : checkBuiltinCall "zip.__new__" ⟨[.type "zip",a,b,c],[]⟩ = pure ():=by kernel_rfl
end L2
namespace L2
open PySem PySem.Spec PyProof.Rows PySem.W
theorem Jus (a b c d : Value) : argsOk "object.__init__" ⟨[a,b,c,d],[]⟩:=by
 unfold argsOk; rw [signature?_of (id := "object.__init__") (n:=['_', '_', 't', 'i', 'n', 'i', '_', '_']) (o:=['t', 'c', 'e', 'j', 'b', 'o']) (by kernel_rfl) F.owner_object]; kernel_rfl
section
variable {prog : Program} {w : World} {A : Around} {E : Value → Shared → Prop} {s : Shared}
theorem Jxb {l1 l2 l3 : Addr} {b1 b2 b3 : Bool} {xs ys us : Array Value} {Q : Value → Shared → Prop} (h1 : IsB s.heap l1 b1 xs) (h2 : IsB s.heap l2 b2 ys) (h3 : IsB s.heap l3 b3 us)
  (h : ∀ h', IsZip h' (s.heap.objs.size + 5) (s.heap.objs.size + 3) (s.heap.objs.size + 4) .none → Jm3 h' (s.heap.objs.size + 3) (.ref s.heap.objs.size) (.ref (s.heap.objs.size + 1)) (.ref (s.heap.objs.size + 2)) →
   Jm3 h' (s.heap.objs.size + 4) .none .none .none → IS s.heap.objs.size l1 b1 0 h' → IS (s.heap.objs.size + 1) l2 b2 0 h' → IS (s.heap.objs.size + 2) l3 b3 0 h' →
   (∀ c o,s.heap.get? c = some o → h'.get? c = some o) → Q (.ref (s.heap.objs.size + 5)) { s with heap:=h' }) :
  wpAny (model prog w) A (call (.type "zip") [.ref l1,.ref l2,.ref l3]) Q E s:=by
 refine callType_new F.called_zip (by decide) (Jso _ _ _) (Jss _ _ _) (fun obj=>Jus obj _ _ _) F.entry_zip_new (Yb l1 l2 l3 b1 b2 b3 xs ys us) ⟨h1,h2,h3,?_⟩;have z1 : (zA s.heap l1 b1).objs.size = s.heap.objs.size + 1:=Heap.size_push ..;have z2 : (zB s.heap l1 l2 b1 b2).objs.size = s.heap.objs.size + 2:=by rw [Heap.size_push,z1]
 have z3 : (zC s.heap l1 l2 l3 b1 b2 b3).objs.size = s.heap.objs.size + 3:=by rw [Heap.size_push,z2]
 have z4 : (zD s.heap l1 l2 l3 b1 b2 b3).objs.size = s.heap.objs.size + 4:=by rw [Heap.size_push,z3]
 have z5 : (zE s.heap l1 l2 l3 b1 b2 b3).objs.size = s.heap.objs.size + 5:=by rw [Heap.size_push,z4]
 have p : ∀ {h : Heap} {c : Addr} {o q : Obj},h.get? c = some o → (h.push q).get? c = some o:=fun e=>Heap.get?_push_of_some _ e;have g6 : (zF s.heap l1 l2 l3 b1 b2 b3).get? (zE s.heap l1 l2 l3 b1 b2 b3).objs.size = some _:=Heap.get?_push_size _ rfl;have g5 : (zF s.heap l1 l2 l3 b1 b2 b3).get? (zD s.heap l1 l2 l3 b1 b2 b3).objs.size = some _:=p (Heap.get?_push_size _ rfl);have g4 : (zF s.heap l1 l2 l3 b1 b2 b3).get? (zC s.heap l1 l2 l3 b1 b2 b3).objs.size = some _:=p (p (Heap.get?_push_size _ rfl));have fr : ∀ (l : Addr) (b : Bool),(itO l b).isFreed = false:=fun l b=>by cases b <;> rfl
 have g3 : (zF s.heap l1 l2 l3 b1 b2 b3).get? (zB s.heap l1 l2 b1 b2).objs.size = some (itO l3 b3):=p (p (p (Heap.get?_push_size _ (fr _ _))));have g2 : (zF s.heap l1 l2 l3 b1 b2 b3).get? (zA s.heap l1 b1).objs.size = some (itO l2 b2):=p (p (p (p (Heap.get?_push_size _ (fr _ _)))));have g1 : (zF s.heap l1 l2 l3 b1 b2 b3).get? s.heap.objs.size = some (itO l1 b1):=p (p (p (p (p (Heap.get?_push_size _ (fr _ _))))));have is : ∀ {it l : Addr} {b : Bool} {h : Heap},h.get? it = some (itO l b) → IS it l b 0 h:=fun {it l b h} e=>by
  cases b
  ·exact ⟨_,e,rfl,rfl⟩
  ·exact ⟨_,e,rfl,rfl⟩
 show _ ∧ _;rw [z3,z4,z5] at g6;rw [z1,z2,z3] at g4;rw [z4] at g5;rw [z2] at g3;rw [z1] at g2;rw [z5];exact ⟨⟨_,g6,rfl⟩,h _ g6 g4 g5 (is g1) (is g2) (is g3) fun c o x=>p (p (p (p (p (p x)))))⟩
end
end L2
namespace L2
open PySem PySem.Spec PyProof.Rows PySem.W
section
variable {X : Cx} {pins : List (Addr × Obj)} {σ : St} {H : Hp} {s : Shared}
theorem Inv.seqB {l : Addr} {b : Bool} {xs : List V} (I : Inv X pins σ H s) (h : SqB X.K H l b xs) : ∃ its,Vals xs its ∧ IsB s.heap l b its.toArray:=by
 cases b
 ·obtain ⟨its,rv,p,_⟩:=I.list h;exact ⟨its,rv,p.isList⟩
 ·obtain ⟨its,rv,p,_⟩:=I.tuple h;exact ⟨its,rv,p⟩
theorem Inv.seqB_inj {l : Addr} {b : Bool} {xs ys : List V} (I : Inv X pins σ H s) (h : SqB X.K H l b xs) (h' : SqB X.K H l b ys) : xs = ys:=by
 cases b
 ·exact I.list_inj h h'
 ·exact I.tuple_inj h h'
end
noncomputable def ItZ3 (K : PySem.W.Frag) (l1 l2 l3 : Addr) (b1 b2 b3 : Bool) : It :=
 ⟨fun i H=>∃ xs ys us,SqB K H l1 b1 xs ∧ SqB K H l2 b2 ys ∧ SqB K H l3 b3 us ∧ xs.length = ys.length ∧ xs.length = us.length ∧ i < xs.length,
  fun i H x H'=>∃ T p q r,H T = none ∧ x = .ref T ∧ (∀ xs,SqB K H l1 b1 xs → xs[i]? = some p) ∧ (∀ ys,SqB K H l2 b2 ys → ys[i]? = some q) ∧ (∀ us,SqB K H l3 b3 us → us[i]? = some r) ∧ H' = upd H T (.tup [p,q,r]),
  fun i H=>∃ xs ys us,SqB K H l1 b1 xs ∧ SqB K H l2 b2 ys ∧ SqB K H l3 b3 us ∧ xs.length = ys.length ∧ xs.length = us.length ∧ i = xs.length⟩
noncomputable def Z3T (z TI TO i1 i2 i3 l1 l2 l3 : Addr) (b1 b2 b3 : Bool) (i : Nat) (h : Heap) : Prop:=IsZip h z TI TO .none ∧ Jm3 h TI (.ref i1) (.ref i2) (.ref i3) ∧ (∃ a b c,Jm3 h TO a b c) ∧ IS i1 l1 b1 i h ∧ IS i2 l2 b2 i h ∧ IS i3 l3 b3 i h
theorem Z3T.obj {z TI TO i1 i2 i3 l1 l2 l3 : Addr} {b1 b2 b3 : Bool} {i : Nat} {h : Heap} (st : Z3T z TI TO i1 i2 i3 l1 l2 l3 b1 b2 b3 i h) : ∀ b ∈ [z,TI,TO,i1,i2,i3],∃ o,h.get? b = some o ∧ ∀ v,o.data ≠ .cell v:=fun b hb=>by
 obtain ⟨h1,h2,⟨x,y,u,h3⟩,h4,h5,h6⟩:=st;simp only [List.mem_cons,List.not_mem_nil,or_false] at hb;rcases hb with rfl | rfl | rfl | rfl | rfl | rfl
 ·exact ⟨_,h1,fun v z=>by cases z⟩
 ·exact ⟨_,h2,fun v z=>by cases z⟩
 ·exact ⟨_,h3,fun v z=>by cases z⟩
 ·exact h4.obj
 ·exact h5.obj
 ·exact h6.obj
theorem Z3.ne {z TI TO i1 i2 i3 l1 l2 l3 : Addr} (Z : Z3 z TI TO i1 i2 i3 l1 l2 l3) : l1 ≠ i1 ∧ l2 ≠ i2 ∧ l3 ≠ i3:=by
 obtain ⟨_,m1,m2,m3⟩:=Z;simp only [List.mem_cons,List.not_mem_nil,or_false,not_or] at m1 m2 m3;exact ⟨m1.2.2.2.1,m2.2.2.2.2.1,m3.2.2.2.2.2⟩
theorem Jya {P : Program} {w : World} {K : PySem.W.Frag} {elts : List Expr} {kt : Nat} {pt : Pos} (z TI TO i1 i2 i3 l1 l2 l3 : Addr) (b1 b2 b3 : Bool) (Z : Z3 z TI TO i1 i2 i3 l1 l2 l3) :
  Turn P w K (.Tuple elts kt pt) (ItZ3 K l1 l2 l3 b1 b2 b3) [z,TI,TO,i1,i2,i3] z (Z3T z TI TO i1 i2 i3 l1 l2 l3 b1 b2 b3) where
 mem:=by simp
 obj:=fun i h st=>st.obj
 keep:=fun i h h' st k=>by
  obtain ⟨h1,h2,⟨a,c,d,h3⟩,h4,h5,h6⟩:=st;exact ⟨k z (by simp) _ h1,k TI (by simp) _ h2,⟨a,c,d,k TO (by simp) _ h3⟩,h4.at fun o e=>k i1 (by simp) o e,h5.at fun o e=>k i2 (by simp) o e,h6.at fun o e=>k i3 (by simp) o e⟩
 item:=by
  intro X hP hw hK hc i pins s σ H E I hf st hg;subst hP hw hK;obtain ⟨xs,ys,us,q1,q2,q3,e12,e13,hi⟩:=hg;obtain ⟨its,rv,p1⟩:=I.seqB q1;obtain ⟨jts,rv2,p2⟩:=I.seqB q2;obtain ⟨kts,rv3,p3⟩:=I.seqB q3;have a1:=rv.length;have a2:=rv2.length;have a3:=rv3.length;obtain ⟨n1,n2,n3⟩:=Z.ne;have D1:=drA (prog:=X.prog) (w:=X.w) b1 n1 its.toArray;have D2:=drA (prog:=X.prog) (w:=X.w) b2 n2 jts.toArray;have D3:=drA (prog:=X.prog) (w:=X.w) b3 n3 kts.toArray;rw [show jts.toArray.size = its.toArray.size by simp only [List.size_toArray]; omega] at D2;rw [show kts.toArray.size = its.toArray.size by simp only [List.size_toArray]; omega] at D3;have W:=Y0 (I.ok.hd hc) Z D1 D2 D3;have st0:=st;obtain ⟨s1,s2,s3,s4,s5,s6⟩:=st;refine W.item i s _ _ (by simp only [List.size_toArray]; omega) ⟨s1,s2,s3,⟨s4,p1⟩,⟨s5,p2⟩,⟨s6,p3⟩⟩ fun T vals h' tk hP fT tT mid kk=>?_;refine ⟨_,rfl,W.go elts kt pt i T _ _ _ mid fun h'' st'' kk2=>?_⟩;obtain ⟨x,y,u,hx,hy,hu,rfl⟩:=hP;obtain ⟨u1,hu1,r1⟩:=rv.get (i:=i) (x:=xs[i]) (List.getElem?_eq_getElem hi);obtain ⟨u2,hu2,r2⟩:=rv2.get (i:=i) (x:=ys[i]'(by omega)) (List.getElem?_eq_getElem (by omega));obtain ⟨u3,hu3,r3⟩:=rv3.get (i:=i) (x:=us[i]'(by omega)) (List.getElem?_eq_getElem (by omega));obtain rfl : x = u1:=by simpa [hu1] using hx.symm
  obtain rfl : y = u2:=by simpa [hu2] using hy.symm
  obtain rfl : u = u3:=by simpa [hu3] using hu.symm
  obtain ⟨t1,t2,t3,t4,t5,t6⟩:=st'';have kT : h''.IsTuple T #[x,y,u]:=by
   obtain ⟨o,q,r⟩:=tT;exact ⟨o,kk2 T o (W.apart i T h' mid) q,r⟩
  have cht : ∀ c,c ∈ [z,TO,i1,i2,i3] → c ∈ [z,TI,TO,i1,i2,i3]:=fun c hc=>by simp at hc ⊢; rcases hc with rfl | rfl | rfl | rfl | rfl <;> simp
  refine ⟨.ref T,upd H T (.tup [xs[i],ys[i]'(by omega),us[i]'(by omega)]),I.turnTup (ch:=[z,TO,i1,i2,i3]) (t':=tk) (fun c hc=>hf c (cht c hc)) (fun c o hc e=>kk2 c o hc (kk c o hc e)) fT ⟨(show 3 ≤ sizeLine by decide),[x,y,u],.cons r1 (.cons r2 (.cons r3 .nil)),kT⟩,rfl,
   ⟨T,_,_,_,I.hok.fresh fT,rfl,fun xs' hq=>by rw [I.seqB_inj hq q1]; exact List.getElem?_eq_getElem hi,fun ys' hq=>by rw [I.seqB_inj hq q2]; exact List.getElem?_eq_getElem (by omega),fun us' hq=>by rw [I.seqB_inj hq q3]; exact List.getElem?_eq_getElem (by omega),rfl⟩,⟨t1,t2,t3,t4.1,t5.1,t6.1⟩,fun c hc=>?_⟩
  have hcn:=(hf c hc).1;rw [Jk7 (fun w'=>?_)]
  ·exact hcn
  ·subst w';obtain ⟨o,e,_⟩:=Z3T.obj st0 c hc;exact absurd (Heap.lt_size e) (Nat.not_lt.mpr fT)
 done:=by
  intro X hP hw hK hc i pins s σ H E I hf st hg;subst hP hw hK;obtain ⟨xs,ys,us,q1,q2,q3,e12,e13,hi⟩:=hg;obtain ⟨its,rv,p1⟩:=I.seqB q1;obtain ⟨jts,rv2,p2⟩:=I.seqB q2;obtain ⟨kts,rv3,p3⟩:=I.seqB q3;have a1:=rv.length;have a2:=rv2.length;have a3:=rv3.length;obtain ⟨n1,n2,n3⟩:=Z.ne;have D1:=drA (prog:=X.prog) (w:=X.w) b1 n1 its.toArray;have D2:=drA (prog:=X.prog) (w:=X.w) b2 n2 jts.toArray;have D3:=drA (prog:=X.prog) (w:=X.w) b3 n3 kts.toArray;rw [show jts.toArray.size = its.toArray.size by simp only [List.size_toArray]; omega] at D2;rw [show kts.toArray.size = its.toArray.size by simp only [List.size_toArray]; omega] at D3;have W:=Y0 (I.ok.hd hc) Z D1 D2 D3;obtain ⟨s1,s2,s3,s4,s5,s6⟩:=st;have ei : i = its.toArray.size:=by simp only [List.size_toArray]; omega
  subst ei;refine W.done s _ _ ⟨s1,s2,s3,⟨s4,p1⟩,⟨s5,p2⟩,⟨s6,p3⟩⟩ fun h' tk kk=>⟨rfl,?_⟩;exact I.turnMany (ch:=[z,TO,i1,i2,i3]) (fun c hc=>hf c (by simp at hc ⊢; rcases hc with rfl | rfl | rfl | rfl | rfl <;> simp)) fun c o hc e=>kk c o hc e
 self:=fun _ _ _ _ _ st h=>wpAny_pyIter_zip st.1 h
noncomputable def iZip3 (K : PySem.W.Frag) (b1 b2 b3 : Bool) (ta : TA) : TI:=fun σ H R=>ta σ H fun vs H1=>∃ a b c,vs = [.ref a,.ref b,.ref c] ∧ (∃ xs,SqB K H1 a b1 xs) ∧ (∃ ys,SqB K H1 b b2 ys) ∧ (∃ us,SqB K H1 c b3 us) ∧ R (ItZ3 K a b c b1 b2 b3) H1
theorem Jub {X : Cx} {elts : List Expr} {kt : Nat} {pt : Pos} {a b c : Expr} {ta : TA} {p pos : Pos} (b1 b2 b3 : Bool) (hg : Gl X "zip") (hm : X.mg "zip" = none) (ha : PA X [a,b,c] ta) (hs : starEach [a,b,c] X.env = [(false,eval a X.env),(false,eval b X.env),(false,eval c X.env)]:=by rfl) (hs2 : starEach [b,c] X.env = [(false,eval b X.env),(false,eval c X.env)]:=by rfl) :
  PI X (.Tuple elts kt pt) (.Call (.Name "zip" p) [a,b,c] [] pos) (iZip3 X.K b1 b2 b3 ta):=by
 intro pins s σ H R I h;refine Call_ (Jnd I hg hm Jvq (PyProof.Rows.callWith_type1 (thn (ha pos pins s σ H _ I h) fun us s1 ⟨vs,H1,I1,r1,q1⟩=>?_) (by rw [hs,hs2]) (by rw [hs2]; rfl)));obtain ⟨l1,l2,l3,rfl,⟨xs,q1⟩,⟨ys,q2⟩,⟨zs,q3⟩,q⟩:=q1;obtain ⟨u,v,y,rfl,r1,r2,r3⟩ : ∃ u v y,us = [u,v,y] ∧ RelV (.ref l1) u ∧ RelV (.ref l2) v ∧ RelV (.ref l3) y:=by
  cases r1 with
  | cons a1 t1 =>
   cases t1 with
   | cons a2 t2 =>
    cases t2 with
    | cons a3 t3 =>
     cases t3;exact ⟨_,_,_,rfl,a1,a2,a3⟩
 obtain rfl : u = Value.ref l1:=r1;obtain rfl : v = Value.ref l2:=r2;obtain rfl : y = Value.ref l3:=r3;obtain ⟨its,rv,p1⟩:=I1.seqB q1;obtain ⟨jts,rv2,p2⟩:=I1.seqB q2;obtain ⟨kts,rv3,p3⟩:=I1.seqB q3;have a1:=p1.lt;have a2:=p2.lt;have a3:=p3.lt;refine Jxb p1 p2 p3 fun h' z1 z2 z3 z4 z5 z6 kk=>?_;have I2 : Inv X pins σ H1 { s1 with heap:=h' }:=I1.kept (t':=s1.toks) kk;have ap : Z3 (s1.heap.objs.size + 5) (s1.heap.objs.size + 3) (s1.heap.objs.size + 4) s1.heap.objs.size (s1.heap.objs.size + 1) (s1.heap.objs.size + 2) l1 l2 l3:=by
  generalize hN : s1.heap.objs.size = N at *;have big : ∀ l : Addr,l < N → l ∉ [N + 5,N + 3,N + 4,N,N + 1,N + 2]:=fun l hl hm=>by
   simp only [List.mem_cons,List.not_mem_nil,or_false] at hm;have le : N ≤ l:=by rcases hm with rfl | rfl | rfl | rfl | rfl | rfl <;> first | exact Nat.le_refl _ | exact Nat.le_add_right _ _
   exact Nat.not_lt.mpr le hl
  exact ⟨by simp,big _ a1,big _ a2,big _ a3⟩
 refine wpAny_pyIter_zip z1 ⟨_,_,_,_,H1,rfl,I2,Jya _ _ _ _ _ _ l1 l2 l3 b1 b2 b3 ap,⟨z1,z2,⟨_,_,_,z3⟩,z4,z5,z6⟩,fun d hd=>?_,q⟩;have hd' : s1.heap.objs.size ≤ d:=by
  simp only [List.mem_cons,List.not_mem_nil,or_false] at hd;rcases hd with rfl | rfl | rfl | rfl | rfl | rfl <;> omega
 exact I1.fpOk hd' (I1.hok.fresh hd')
section
variable {K : PySem.W.Frag} {g : TG} {σ : St} {H : Hp}
theorem Jqk {l1 l2 l3 D : Addr} {b1 b2 b3 : Bool} {xs ys us : List V} {tt : TT} {te : TE} {R : Hp → Prop} (Pv : Nat → St → Hp → Prop) (h0 : Pv 0 σ H) (hl : ∀ i σ H,i ≤ xs.length → Pv i σ H → SqB K H l1 b1 xs ∧ SqB K H l2 b2 ys ∧ SqB K H l3 b3 us) (e1 : xs.length = ys.length) (e2 : xs.length = us.length)
  (hs : ∀ i x y u σ H T,xs[i]? = some x → ys[i]? = some y → us[i]? = some u → Pv i σ H → H T = none → g (.ref T) σ (upd H T (.tup [x,y,u])) fun σ3 H3=>tt σ3 H3 fun b H4=>if b = true then te σ3 H4 (fun v H5=>∃ vs,H5 D = some (.lst vs) ∧ vs.length < sizeLine ∧ Pv (i + 1) σ3 (upd H5 D (.lst (vs ++ [v])))) else Pv (i + 1) σ3 H4)
  (hd : ∀ σ H,Pv xs.length σ H → R H) :
  ∃ W : Nat → Nat → St → Hp → Prop,(∃ m,W 0 m σ H) ∧ ∀ i m σ' H', W i m σ' H' → ((ItZ3 K l1 l2 l3 b1 b2 b3).stop i H' ∧ R H') ∨ ((ItZ3 K l1 l2 l3 b1 b2 b3).go i H' ∧ ∃ N : St → Hp → Prop,(∀ σ2 H2,N σ2 H2 → ∃ m', m' < m ∧ W (i + 1) m' σ2 H2) ∧
   ∀ x H2,(ItZ3 K l1 l2 l3 b1 b2 b3).yld i H' x H2 → g x σ' H2 fun σ3 H3=>tt σ3 H3 fun b H4=>if b = true then te σ3 H4 (fun v H5=>∃ vs,H5 D = some (.lst vs) ∧ vs.length < sizeLine ∧ N σ3 (upd H5 D (.lst (vs ++ [v])))) else N σ3 H4):=by
 refine ⟨fun i m σ H=>m = xs.length - i ∧ i ≤ xs.length ∧ Pv i σ H,⟨xs.length,by simp,Nat.zero_le _,h0⟩,?_⟩;rintro i m σ H ⟨rfl,hi,p⟩;obtain ⟨q1,q2,q3⟩:=hl i σ H hi p;by_cases hlt : i < xs.length
 ·refine .inr ⟨⟨xs,ys,us,q1,q2,q3,e1,e2,hlt⟩,Pv (i + 1),fun σ' H' p'=>⟨xs.length - (i + 1),by omega,rfl,hlt,p'⟩,fun x H' y=>?_⟩;obtain ⟨T,u,v,w', hT,rfl,hu,hv,hw,rfl⟩:=y;exact hs i u v w' σ _ T (hu xs q1) (hv ys q2) (hw us q3) p hT
 ·have e : i = xs.length:=by omega
  subst e;exact .inl ⟨⟨xs,ys,us,q1,q2,q3,e1,e2,rfl⟩,hd σ H p⟩
theorem Yi {a : Addr} {xs : List V} {tb : TS} {D : Jqc} (Pv : Nat → St → Hp → Prop) (h0 : Pv 0 σ H) (hl : ∀ i σ H,i ≤ xs.length → Pv i σ H → SqL K H a xs)
  (hs : ∀ i x σ H T,xs[i]? = some x → Pv i σ H → H T = none → g (.ref T) σ (upd H T (.tup [.int i,x])) fun σ2 H2=>tb { D with nx:=Pv (i + 1),ct:=Pv (i + 1),bk:=D.nx } σ2 H2) (hd : ∀ σ H,Pv xs.length σ H → D.nx σ H) :
  ∃ W : Nat → Nat → St → Hp → Prop,(∃ m,W 0 m σ H) ∧ ∀ i m σ H,W i m σ H →
   ((ItE K a).stop i H ∧ D.nx σ H) ∨ ((ItE K a).go i H ∧ ∃ N : St → Hp → Prop,(∀ σ' H', N σ' H' → ∃ m', m' < m ∧ W (i + 1) m' σ' H') ∧ ∀ x H', (ItE K a).yld i H x H' → g x σ H' fun σ2 H2=>tb { D with nx:=N,ct:=N,bk:=D.nx } σ2 H2):=by
 refine ⟨fun i m σ H=>m = xs.length - i ∧ i ≤ xs.length ∧ Pv i σ H,⟨xs.length,by simp,Nat.zero_le _,h0⟩,?_⟩;rintro i m σ H ⟨rfl,hi,p⟩;have q:=hl i σ H hi p;by_cases hlt : i < xs.length
 ·refine .inr ⟨⟨xs,xs[i],q,by simp [hlt]⟩,Pv (i + 1),fun σ' H' p'=>⟨xs.length - (i + 1),by omega,rfl,hlt,p'⟩,fun x H' y=>?_⟩;obtain ⟨T,u,hT,rfl,hu,rfl⟩:=y;exact hs i u σ _ T (hu xs q) p hT
 ·have e : i = xs.length:=by omega
  subst e;exact .inl ⟨⟨xs,q,rfl⟩,hd σ H p⟩
theorem Jyo {a : Addr} {xs : List V} {tb : TS} {D : Jqc} (Pv : Nat → St → Hp → Prop) (h0 : Pv 0 σ H) (hl : ∀ i σ H,i ≤ xs.length → Pv i σ H → SqT K H a xs)
  (hs : ∀ i x σ H T,xs[i]? = some x → Pv i σ H → H T = none → g (.ref T) σ (upd H T (.tup [.int i,x])) fun σ2 H2=>tb { D with nx:=Pv (i + 1),ct:=Pv (i + 1),bk:=D.nx } σ2 H2) (hd : ∀ σ H,Pv xs.length σ H → D.nx σ H) :
  ∃ W : Nat → Nat → St → Hp → Prop,(∃ m,W 0 m σ H) ∧ ∀ i m σ H,W i m σ H →
   ((ItU K a).stop i H ∧ D.nx σ H) ∨ ((ItU K a).go i H ∧ ∃ N : St → Hp → Prop,(∀ σ' H', N σ' H' → ∃ m', m' < m ∧ W (i + 1) m' σ' H') ∧ ∀ x H', (ItU K a).yld i H x H' → g x σ H' fun σ2 H2=>tb { D with nx:=N,ct:=N,bk:=D.nx } σ2 H2):=by
 refine ⟨fun i m σ H=>m = xs.length - i ∧ i ≤ xs.length ∧ Pv i σ H,⟨xs.length,by simp,Nat.zero_le _,h0⟩,?_⟩;rintro i m σ H ⟨rfl,hi,p⟩;have q:=hl i σ H hi p;by_cases hlt : i < xs.length
 ·refine .inr ⟨⟨xs,xs[i],q,by simp [hlt]⟩,Pv (i + 1),fun σ' H' p'=>⟨xs.length - (i + 1),by omega,rfl,hlt,p'⟩,fun x H' y=>?_⟩;obtain ⟨T,u,hT,rfl,hu,rfl⟩:=y;exact hs i u σ _ T (hu xs q) p hT
 ·have e : i = xs.length:=by omega
  subst e;exact .inl ⟨⟨xs,q,rfl⟩,hd σ H p⟩
theorem Jxe {a D : Addr} {xs : List V} {tt : TT} {te : TE} {R : Hp → Prop} (Pv : Nat → St → Hp → Prop) (h0 : Pv 0 σ H) (hl : ∀ i σ H,i ≤ xs.length → Pv i σ H → SqT K H a xs)
  (hs : ∀ i x σ H T,xs[i]? = some x → Pv i σ H → H T = none → g (.ref T) σ (upd H T (.tup [.int i,x])) fun σ3 H3=>tt σ3 H3 fun b H4=>if b = true then te σ3 H4 (fun v H5=>∃ vs,H5 D = some (.lst vs) ∧ vs.length < sizeLine ∧ Pv (i + 1) σ3 (upd H5 D (.lst (vs ++ [v])))) else Pv (i + 1) σ3 H4)
  (hd : ∀ σ H,Pv xs.length σ H → R H) :
  ∃ W : Nat → Nat → St → Hp → Prop,(∃ m,W 0 m σ H) ∧ ∀ i m σ' H', W i m σ' H' → ((ItU K a).stop i H' ∧ R H') ∨ ((ItU K a).go i H' ∧ ∃ N : St → Hp → Prop,(∀ σ2 H2,N σ2 H2 → ∃ m', m' < m ∧ W (i + 1) m' σ2 H2) ∧
   ∀ x H2,(ItU K a).yld i H' x H2 → g x σ' H2 fun σ3 H3=>tt σ3 H3 fun b H4=>if b = true then te σ3 H4 (fun v H5=>∃ vs,H5 D = some (.lst vs) ∧ vs.length < sizeLine ∧ N σ3 (upd H5 D (.lst (vs ++ [v])))) else N σ3 H4):=by
 refine ⟨fun i m σ H=>m = xs.length - i ∧ i ≤ xs.length ∧ Pv i σ H,⟨xs.length,by simp,Nat.zero_le _,h0⟩,?_⟩;rintro i m σ H ⟨rfl,hi,p⟩;have q:=hl i σ H hi p;by_cases hlt : i < xs.length
 ·refine .inr ⟨⟨xs,xs[i],q,by simp [hlt]⟩,Pv (i + 1),fun σ' H' p'=>⟨xs.length - (i + 1),by omega,rfl,hlt,p'⟩,fun x H' y=>?_⟩;obtain ⟨T,u,hT,rfl,hu,rfl⟩:=y;exact hs i u σ _ T (hu xs q) p hT
 ·have e : i = xs.length:=by omega
  subst e;exact .inl ⟨⟨xs,q,rfl⟩,hd σ H p⟩
end
end L2
namespace L2
open PySem PySem.Spec PyProof.Rows PySem.W
section
variable {X : Cx}
theorem Jw4 {K : PySem.W.Frag} (h : X.K = K) : OpR X (compareOp .In) (rIn K false):=by subst h; exact Jxr
theorem Jm8 {K : PySem.W.Frag} {e : Expr} {f : Str} {ta : TE} {pos : Pos} (h : X.K = K) (he : PE X e ta) (hb : attributeBase e f X.env (eval e X.env) = eval e X.env) : PE X (.Attribute e f pos) (tFld K ta f):=by subst h; exact Jkn he hb
theorem Jw6 {P : Program} {w : World} {K : PySem.W.Frag} {mg : Str → Option Value} {base : Heap} {o : Expr} {m : Str} {ta : TE} {apos pos : Pos} {j : Nat} {pl : Sem Bool} (h1 : X.prog = P) (h2 : X.w = w) (h3 : X.K = K) (h4 : X.mg = mg) (h5 : X.base = base) (he : PE X o ta) (hr : Room j X.A)
  (ht : eval (.Call (.Attribute o m apos) [] [] pos) X.env = (do
   let ov ← eval o X.env
   standAt apos.atName
   let (f,first) ← holding [ov] (getMethod ov m pl)
   callWith pos f first (backTo pos (starEach [] X.env)) (backToKw pos (keywordEach [] X.env))):=by rfl) : PE X (.Call (.Attribute o m apos) [] [] pos) (Jun P w K mg base j m ta Jt9):=by
 subst h1 h2 h3 h4 h5;exact Jqx (pl:=pl) he hr ht
end
end L2
namespace L2
open PySem PySem.Spec PyProof.Rows PySem.W
section
variable {X : Cx} {pos : Pos}
theorem Jna {K : PySem.W.Frag} {es : List Expr} {k : Nat} {t : TGs} {n : Nat} (h1 : X.K = K) (hc : X.calm = true) (h : PGs X es t)
  (hn : (assignEach es X.env).length = n:=by rfl) (hst : (assignEach es X.env).findIdx? (·.1) = none:=by rfl) : PG X (.Tuple es k pos) (gTup K n t):=by
 subst h1;exact Jom hc h hn hst
end
section
variable {g : TG} {tt : TT} {te : TE} {H : Hp} {D : Addr} {σ : St} {R : Hp → Prop}
theorem Jyj {K : PySem.W.Frag} {a : Addr} {xs : List V} (Pv : Nat → St → Hp → Prop) (h0 : Pv 0 σ H) (hl : ∀ i σ H,i ≤ xs.length → Pv i σ H → SqT K H a xs)
  (hs : ∀ i x σ H,xs[i]? = some x → Pv i σ H → g x σ H fun σ3 H3=>tt σ3 H3 fun b H4=>if b = true then te σ3 H4 (fun v H5=>∃ ys,H5 D = some (.lst ys) ∧ ys.length < sizeLine ∧ Pv (i + 1) σ3 (upd H5 D (.lst (ys ++ [v])))) else Pv (i + 1) σ3 H4)
  (hd : ∀ σ H,Pv xs.length σ H → R H) :
  ∃ W : Nat → Nat → St → Hp → Prop,(∃ m,W 0 m σ H) ∧ ∀ i m σ' H', W i m σ' H' → ((Itt K a).stop i H' ∧ R H') ∨ ((Itt K a).go i H' ∧ ∃ N : St → Hp → Prop,(∀ σ2 H2,N σ2 H2 → ∃ m', m' < m ∧ W (i + 1) m' σ2 H2) ∧
   ∀ x H2,(Itt K a).yld i H' x H2 → g x σ' H2 fun σ3 H3=>tt σ3 H3 fun b H4=>if b = true then te σ3 H4 (fun v H5=>∃ ys,H5 D = some (.lst ys) ∧ ys.length < sizeLine ∧ N σ3 (upd H5 D (.lst (ys ++ [v])))) else N σ3 H4):=by
 refine ⟨fun i m σ H=>m = xs.length - i ∧ i ≤ xs.length ∧ Pv i σ H,⟨xs.length,by simp,Nat.zero_le _,h0⟩,?_⟩;rintro i m σ H ⟨rfl,hi,p⟩;have q:=hl i σ H hi p;by_cases hlt : i < xs.length
 ·refine .inr ⟨⟨xs,xs[i],q,by simp [hlt]⟩,Pv (i + 1),fun σ' H' p'=>⟨xs.length - (i + 1),by omega,rfl,hlt,p'⟩,fun x H' y=>?_⟩;obtain ⟨e,y⟩:=y;subst e;exact hs i x σ _ (y xs q) p
 ·have e : i = xs.length:=by omega
  subst e;exact .inl ⟨⟨xs,q,Nat.le_refl _⟩,hd σ H p⟩
end
theorem Jnv {K : PySem.W.Frag} {a D : Addr} {xs : List V} {te : TE} {R : Hp → Prop} {H : Hp} {o : Option V} {rest : List (Option V)} (ys : List V) (hD : H D = none) (el : ys.length = xs.length) (sz : xs.length ≤ 2000) (hq : H a = some (.lst xs))
  (he : ∀ (i : Nat) (x y : V) (H' : Hp) (Q : VK),xs[i]? = some x → ys[i]? = some y → Same H H' → (∀ H5,Same H' H5 → Q y H5) → te (some x :: rest) H' Q) (hd : ∀ H', Same H H' → H' D = some (.lst ys) → R H') :
  ∃ W : Nat → Nat → St → Hp → Prop,(∃ m,W 0 m (o :: rest) (upd H D (.lst []))) ∧ ∀ i m σ' H', W i m σ' H' → ((Itl K a).stop i H' ∧ R H') ∨ ((Itl K a).go i H' ∧ ∃ N : St → Hp → Prop,(∀ σ2 H2,N σ2 H2 → ∃ m', m' < m ∧ W (i + 1) m' σ2 H2) ∧
   ∀ x H2,(Itl K a).yld i H' x H2 → Jmq 0 x σ' H2 fun σ3 H3=>Jvi σ3 H3 fun b H4=>if b = true then te σ3 H4 (fun v H5=>∃ ys,H5 D = some (.lst ys) ∧ ys.length < sizeLine ∧ N σ3 (upd H5 D (.lst (ys ++ [v])))) else N σ3 H4):=by
 refine Jlt (fun i σ H'=>(∃ o,σ = o :: rest) ∧ H' D = some (.lst (ys.take i)) ∧ Same H H') ⟨⟨_,rfl⟩,Jk0,Same.upd hD⟩ (fun i σ H' _ ⟨_,_,sm⟩=>SqL.of (sm _ _ hq)) ?_ ?_
 ·rintro i x σ H' hx ⟨⟨o,rfl⟩,hDs,sm⟩;have hi : i < ys.length:=by rw [el]; exact (List.getElem?_eq_some_iff.mp hx).1
  refine Jlm (he i x ys[i] H' _ hx (List.getElem?_eq_getElem hi) sm fun H5 s5=>⟨_,s5 _ _ hDs,?_,⟨_,rfl⟩,?_,fun c u z=>?_⟩)
  ·rw [List.length_take];exact Jl0 (by omega)
  ·rw [Jk0,List.take_add_one,List.getElem?_eq_getElem hi];rfl
  ·rw [Jk7 (Jk8 z hD)];exact s5 _ _ (sm _ _ z)
 ·rintro σ H' ⟨_,hDs,sm⟩;rw [List.take_of_length_le (by omega)] at hDs;exact hd H' sm hDs
theorem Jmx {K : PySem.W.Frag} {a D : Addr} {xs : List V} {te : TE} {R : Hp → Prop} {H : Hp} {o : Option V} {rest : List (Option V)} (ys : List V) (hD : H D = none) (el : ys.length = xs.length) (sz : xs.length ≤ 2000) (hq : H a = some (.tup xs))
  (he : ∀ (i : Nat) (x y : V) (H' : Hp) (Q : VK),xs[i]? = some x → ys[i]? = some y → Same H H' → (∀ H5,Same H' H5 → Q y H5) → te (some x :: rest) H' Q) (hd : ∀ H', Same H H' → H' D = some (.lst ys) → R H') :
  ∃ W : Nat → Nat → St → Hp → Prop,(∃ m,W 0 m (o :: rest) (upd H D (.lst []))) ∧ ∀ i m σ' H', W i m σ' H' → ((Itt K a).stop i H' ∧ R H') ∨ ((Itt K a).go i H' ∧ ∃ N : St → Hp → Prop,(∀ σ2 H2,N σ2 H2 → ∃ m', m' < m ∧ W (i + 1) m' σ2 H2) ∧
   ∀ x H2,(Itt K a).yld i H' x H2 → Jmq 0 x σ' H2 fun σ3 H3=>Jvi σ3 H3 fun b H4=>if b = true then te σ3 H4 (fun v H5=>∃ ys,H5 D = some (.lst ys) ∧ ys.length < sizeLine ∧ N σ3 (upd H5 D (.lst (ys ++ [v])))) else N σ3 H4):=by
 refine Jyj (fun i σ H'=>(∃ o,σ = o :: rest) ∧ H' D = some (.lst (ys.take i)) ∧ Same H H') ⟨⟨_,rfl⟩,Jk0,Same.upd hD⟩ (fun i σ H' _ ⟨_,_,sm⟩=>SqT.of (sm _ _ hq)) ?_ ?_
 ·rintro i x σ H' hx ⟨⟨o,rfl⟩,hDs,sm⟩;have hi : i < ys.length:=by rw [el]; exact (List.getElem?_eq_some_iff.mp hx).1
  refine Jlm (he i x ys[i] H' _ hx (List.getElem?_eq_getElem hi) sm fun H5 s5=>⟨_,s5 _ _ hDs,?_,⟨_,rfl⟩,?_,fun c u z=>?_⟩)
  ·rw [List.length_take];exact Jl0 (by omega)
  ·rw [Jk0,List.take_add_one,List.getElem?_eq_getElem hi];rfl
  ·rw [Jk7 (Jk8 z hD)];exact s5 _ _ (sm _ _ z)
 ·rintro σ H' ⟨_,hDs,sm⟩;rw [List.take_of_length_le (by omega)] at hDs;exact hd H' sm hDs
end L2
namespace L2
open PySem PySem.Spec PyProof.Rows PySem.W
section
variable {X : Cx}
theorem Jyz {K : PySem.W.Frag} (h : X.K = K) : MtR X "str.join" (rJoin K):=by subst h; exact Yp
theorem Jza {K : PySem.W.Frag} (h : X.K = K) : SlR X (rSlL K):=by subst h; exact Jx2
theorem pe_bmK {K : PySem.W.Frag} {o e : Expr} {es : List Expr} {to : TE} {t : TA} {name : Str} {apos cpos : Pos} {T id : String} {r : V → List V → Hp → VK → Prop} (h : X.K = K) (pa : PlainAttrs T) (slot : Slot T name id) (hty : typeOf (.builtin id) = pure (.type "method_descriptor")) (hm : MtR X id r) (ho : PE X o to) (ha : PA X (e :: es) t)
  (hbase : attributeBase o name X.env (eval o X.env) = eval o X.env:=by rfl)
  (hfew : ((backTo cpos (starEach (e :: es) X.env)).all (fun x=>!x.1) && (backToKw cpos (keywordEach [] X.env)).all (fun x=>x.1.isSome)
   && decide ((e :: es).length + ([] : List Keyword).length + (if ([] : List Keyword).isEmpty then 0 else 1) < 30)) = true:=by rfl)
  (hline : (apos.endLine == cpos.line) = true:=by rfl) (hs : starEach (e :: es) X.env = (false,eval e X.env) :: starEach es X.env:=by rfl) (hplain : (backTo cpos (starEach es X.env)).any (·.1) = false:=by rfl) :
  PE X (.Call (.Attribute o name apos) (e :: es) [] cpos) (tBM K T r to t):=by
 subst h;exact Jse pa slot hty hm ho ha hbase hfew hline hs hplain
end
theorem But.new {p D : Addr} {H H' : Hp} {o : HO} (b : But p H H') (hD : H D = none) (hp : Strm H p) : But p H (upd H' D o):=by
 have ne : p ≠ D:=fun e=>by obtain ⟨_,_,_,q⟩:=hp; rw [e,hD] at q; cases q
 refine ⟨fun c u n e=>?_,?_⟩
 ·rw [Jk7 (fun z=>by subst z; rw [hD] at e; cases e)];exact b.1 c u n e
 ·obtain ⟨x,y,z,q⟩:=b.2;exact ⟨x,y,z,by rw [Jk7 ne]; exact q⟩
end L2
namespace L2
open PySem PySem.Spec PyProof.Rows PySem.W
noncomputable def rCatA : R2:=fun x y H Q=>∃ a b xs ys,x = .ref a ∧ y = .ref b ∧ H a = some (.tup xs) ∧ H b = some (.tup ys) ∧ xs.length + ys.length ≤ sizeLine ∧ ∀ p H', Same H H' → H' p = some (.tup (xs ++ ys)) → Q (.ref p) H'
section
variable {X : Cx}
theorem Yu : OpR X (binaryOp .Add) rCatA:=by
 intro pins s σ H x y v u Q I rx ry h;obtain ⟨a,b,xs,ys,rfl,rfl,ha,hb,hz,q⟩:=h;by_cases hx : xs = []
 ·subst hx;obtain rfl : v = Value.ref a:=rx;obtain rfl : u = Value.ref b:=ry;obtain ⟨its,r1,ht,_⟩:=I.tuple (SqT.of ha);obtain ⟨its2,r2,hb', _⟩:=I.tuple (SqT.of hb);obtain rfl : its = []:=r1.nil_iff.mpr rfl;obtain ⟨⟨cls,dd,data,sl⟩,ho,hc,n,hd⟩:=id ht;obtain ⟨⟨cls2,dd2,data2,sl2⟩,ho2,hc2,n2,hd2⟩:=id hb';simp only at hc hd hc2 hd2;subst hc hd hc2 hd2;exact concat_meets ⟨_,ho,rfl⟩ ⟨_,ho2,rfl⟩ noFill_tuple_add seq_tuple_add PySem.F.slot_tuple_add PySem.F.entry_tuple_add (PySem.F.args_tuple_add_2 _ _)
   (tuple_addW0 a b _ _ n n2 dd dd2 sl sl2 (by simp)) ⟨ho,ho2,⟨.ref b,H,I,rfl,q b H (Same.refl H) hb⟩⟩
 ·refine Yv pins s σ H _ _ v u Q I rx ry ⟨a,b,xs,ys,rfl,rfl,SqT.of ha,SqT.of hb,hx,hz,fun e=>?_,fun _ p hp=>q p _ (Same.upd hp) Jk0⟩;subst e;exact q a H (Same.refl H) (by rw [List.append_nil]; exact ha)
end
end L2
namespace L2
open PySem PySem.Spec PyProof.Rows PySem.W
end L2
namespace L2
open PySem PySem.Spec PyProof.Rows PySem.W
end L2
namespace L2
open PySem PySem.Spec PyProof.Rows PySem.W
noncomputable abbrev Jmz (h : Heap) (T : Addr) (a b c d : Value) : Prop:=h.get? T = some { cls:=.type "tuple",data:=.seq #[a,b,c,d] }
structure Z4 (z TI TO i1 i2 i3 i4 l1 l2 l3 l4 : Addr) : Prop where
 nd : [z,TI,TO,i1,i2,i3,i4].Nodup
 m1 : l1 ∉ [z,TI,TO,i1,i2,i3,i4]
 m2 : l2 ∉ [z,TI,TO,i1,i2,i3,i4]
 m3 : l3 ∉ [z,TI,TO,i1,i2,i3,i4]
 m4 : l4 ∉ [z,TI,TO,i1,i2,i3,i4]
section
variable {prog : Program} {w : World} {A : Around} {E : Value → Shared → Prop} {s : Shared}
theorem Jx6 {T : Addr} {a b c d x : Value} {k : Nat} {Q : Unit → Shared → Prop} (hT : Jmz s.heap T a b c d)
  (h : ∀ h', h'.get? T = some { cls:=.type "tuple",data:=.seq ((#[a,b,c,d] : Array Value).setIfInBounds k x) } → Heap.SameBut T s.heap h' → Q () { s with heap:=h' }) : wpAny (model prog w) A (updateSeq T (·.setIfInBounds k x)) Q E s:=by
 refine wpAny_updateSeq hT rfl (h _ ?_ (Heap.SameBut.update ..));rw [Heap.get?_update_self _ hT rfl];simp [Obj.mapSeq]
variable {z TI TO i1 i2 i3 i4 l1 l2 l3 l4 : Addr} {n k : Nat} {P1 P2 P3 P4 : Nat → Value → Prop} {S1 S2 S3 S4 : Nat → Heap → Prop} {a b c d0 : Value}
theorem Yaz {Q : Value → Shared → Prop} (Z : Z4 z TI TO i1 i2 i3 i4 l1 l2 l3 l4) (hz : IsZip s.heap z TI TO .none) (hTI : Jmz s.heap TI (.ref i1) (.ref i2) (.ref i3) (.ref i4)) (hTO : Jmz s.heap TO a b c d0)
  (hh : A.handled = none) (D1 : DrA prog w i1 l1 n P1 S1) (D2 : DrA prog w i2 l2 n P2 S2) (D3 : DrA prog w i3 l3 n P3 S3) (D4 : DrA prog w i4 l4 n P4 S4) (hk : k < n) (t1 : S1 k s.heap) (t2 : S2 k s.heap) (t3 : S3 k s.heap) (t4 : S4 k s.heap)
  (hQ : ∀ x y u v h' tk,P1 k x → P2 k y → P3 k u → P4 k v → IsZip h' z TI TO (rawInt s.heap.objs.size) → Jmz h' TO x y u v → S1 (k + 1) h' → S2 (k + 1) h' → S3 (k + 1) h' → S4 (k + 1) h' → Jmz h' s.heap.objs.size x y u v →
   (∀ d o,d ≠ z → d ≠ TO → d ≠ i1 → d ≠ i2 → d ≠ i3 → d ≠ i4 → s.heap.get? d = some o → h'.get? d = some o) → Q (.ref s.heap.objs.size) { s with heap:=h', toks:=tk }) :
  wpAny (model prog w) A (Builtin.«zip.__next__» ⟨[.ref z],[]⟩) (fun fin s'=>∃ v,fin = .done (.ret v) ∧ Q v s') E s:=by
 obtain ⟨nd,m1,m2,m3,m4⟩:=Z;simp only [List.nodup_cons,List.mem_cons,List.not_mem_nil,or_false,not_or,List.nodup_nil,and_true,not_false_eq_true] at nd m1 m2 m3 m4;obtain ⟨⟨zTI,zTO,z1,z2,z3,z4⟩,⟨TITO,TI1,TI2,TI3,TI4⟩,⟨TO1,TO2,TO3,TO4⟩,⟨n12,n13,n14⟩,⟨n23,n24⟩,n34⟩:=nd;obtain ⟨l1z,l1TI,l1TO,l11,l12,l13,l14⟩:=m1;obtain ⟨l2z,l2TI,l2TO,l21,l22,l23,l24⟩:=m2;obtain ⟨l3z,l3TI,l3TO,l31,l32,l33,l34⟩:=m3;obtain ⟨l4z,l4TI,l4TO,l41,l42,l43,l44⟩:=m4;have fr : ∀ {S : Nat → Heap → Prop} {P : Nat → Value → Prop} {i l b : Addr} {m : Nat} {h h' : Heap},DrA prog w i l n P S → i ≠ b → l ≠ b → Heap.SameBut b h h' → S m h → S m h':=fun D e1 e2 sb st =>
  (D A hh).frame _ _ _ st fun d hd o e=>by
   simp only [List.mem_cons,List.not_mem_nil,or_false] at hd;rcases hd with rfl | rfl
   ·exact sb.extBut _ _ e1 e
   ·exact sb.extBut _ _ e2 e
 show wpAny _ _ (field (.ref z) 2 >>= _) _ _ _;refine wpAny_bind (wpAny_field hz rfl (x:=.bool false) rfl ?_);refine wpAny_bind (m:=field (.ref z) 3) (wpAny_field hz rfl (x:=.ref TI) rfl ?_);refine wpAny_bind (wpAny_seqItems hTI rfl ?_);refine wpAny_bind (m:=Builtin.SmallTypes.ownedTupleIsFree (.ref z)) ?_;unfold Builtin.SmallTypes.ownedTupleIsFree;refine wpAny_bind (wpAny_field hz rfl (x:=.none) rfl (wpAny_pure ?_));simp only [if_true];refine wpAny_bind (wpAny_rule (wpAny_bind (wpAny_field hz rfl (x:=.ref TO) rfl (wpAny_bind (wpAny_setField_rec hz (by simp) fun h1 hz1 s1=>?_)))));replace hz1 : IsZip h1 z TI TO .ellipsis:=hz1;refine wpAny_bind ?_;simp only [List.zipIdx_cons,List.zipIdx_nil,List.forIn_cons,List.forIn_nil];refine wpAny_bind (wpAny_bind (wpAny_onRaise ?_));refine wpAny_bind (m:=Builtin.SmallTypes.nextOf (.ref i1)) ((D1 A hh).item k _ _ _ hk (fr D1 (Ne.symm z1) l1z s1 t1) fun x h2 k2 px u1 s2=>wpAny_pure ?_);have o2 : Jmz h2 TO a b c d0:=s2.extBut _ _ TO1 (s1.extBut _ _ (Ne.symm zTO) hTO);refine wpAny_bind (wpAny_seqItems o2 rfl (wpAny_bind (Jx6 o2 fun h3 o3 s3=>wpAny_bind (wpAny_letGo (wpAny_pure ?_)))));replace o3 : Jmz h3 TO x b c d0:=o3;refine wpAny_bind (wpAny_bind (wpAny_onRaise ?_));refine wpAny_bind (m:=Builtin.SmallTypes.nextOf (.ref i2)) ((D2 A hh).item k _ _ _ hk (fr D2 (Ne.symm TO2) l2TO s3 (fr D2 (Ne.symm n12) l21 s2 (fr D2 (Ne.symm z2) l2z s1 t2))) fun y h4 k4 py u2 s4=>wpAny_pure ?_);have o4 : Jmz h4 TO x b c d0:=s4.extBut _ _ TO2 o3;refine wpAny_bind (wpAny_seqItems o4 rfl (wpAny_bind (Jx6 o4 fun h5 o5 s5=>wpAny_bind (wpAny_letGo (wpAny_pure ?_)))));replace o5 : Jmz h5 TO x y c d0:=o5;refine wpAny_bind (wpAny_bind (wpAny_onRaise ?_));refine wpAny_bind (m:=Builtin.SmallTypes.nextOf (.ref i3)) ((D3 A hh).item k _ _ _ hk (fr D3 (Ne.symm TO3) l3TO s5 (fr D3 (Ne.symm n23) l32 s4 (fr D3 (Ne.symm TO3) l3TO s3 (fr D3 (Ne.symm n13) l31 s2 (fr D3 (Ne.symm z3) l3z s1 t3))))) fun u h6 k6 pu u3 s6=>wpAny_pure ?_);have o6 : Jmz h6 TO x y c d0:=s6.extBut _ _ TO3 o5;refine wpAny_bind (wpAny_seqItems o6 rfl (wpAny_bind (Jx6 o6 fun h7 o7 s7=>wpAny_bind (wpAny_letGo (wpAny_pure ?_)))));replace o7 : Jmz h7 TO x y u d0:=o7;refine wpAny_bind (wpAny_bind (wpAny_onRaise ?_));refine wpAny_bind (m:=Builtin.SmallTypes.nextOf (.ref i4)) ((D4 A hh).item k _ _ _ hk (fr D4 (Ne.symm TO4) l4TO s7 (fr D4 (Ne.symm n34) l43 s6 (fr D4 (Ne.symm TO4) l4TO s5 (fr D4 (Ne.symm n24) l42 s4 (fr D4 (Ne.symm TO4) l4TO s3 (fr D4 (Ne.symm n14) l41 s2 (fr D4 (Ne.symm z4) l4z s1 t4))))))) fun v h8 k8 pv u4 s8=>wpAny_pure ?_);have o8 : Jmz h8 TO x y u d0:=s8.extBut _ _ TO4 o7;refine wpAny_bind (wpAny_seqItems o8 rfl (wpAny_bind (Jx6 o8 fun h9 o9 s9=>wpAny_bind (wpAny_letGo (wpAny_pure (wpAny_pure ?_))))));replace o9 : Jmz h9 TO x y u v:=o9;refine wpAny_bind (wpAny_seqItems o9 rfl (wpAny_bind (wpAny_newTuple ?_)));have sz : h9.objs.size = s.heap.objs.size:=by rw [s9.1,s8.1,s7.1,s6.1,s5.1,s4.1,s3.1,s2.1,s1.1]
 have zz : IsZip h9 z TI TO .ellipsis:=s9.extBut _ _ zTO (s8.extBut _ _ z4 (s7.extBut _ _ zTO (s6.extBut _ _ z3 (s5.extBut _ _ zTO (s4.extBut _ _ z2 (s3.extBut _ _ zTO (s2.extBut _ _ z1 hz1)))))));have kk : ∀ d o,d ≠ z → d ≠ TO → d ≠ i1 → d ≠ i2 → d ≠ i3 → d ≠ i4 → s.heap.get? d = some o → h9.get? d = some o:=fun d o c1 c2 c3 c4 c5 c6 e =>
  s9.extBut _ _ c2 (s8.extBut _ _ c6 (s7.extBut _ _ c2 (s6.extBut _ _ c5 (s5.extBut _ _ c2 (s4.extBut _ _ c4 (s3.extBut _ _ c2 (s2.extBut _ _ c3 (s1.extBut _ _ c1 e))))))))
 have w1 : S1 (k + 1) h9:=fr D1 (Ne.symm TO1) l1TO s9 (fr D1 n14 l14 s8 (fr D1 (Ne.symm TO1) l1TO s7 (fr D1 n13 l13 s6 (fr D1 (Ne.symm TO1) l1TO s5 (fr D1 n12 l12 s4 (fr D1 (Ne.symm TO1) l1TO s3 u1))))));have w2 : S2 (k + 1) h9:=fr D2 (Ne.symm TO2) l2TO s9 (fr D2 n24 l24 s8 (fr D2 (Ne.symm TO2) l2TO s7 (fr D2 n23 l23 s6 (fr D2 (Ne.symm TO2) l2TO s5 u2))));have w3 : S3 (k + 1) h9:=fr D3 (Ne.symm TO3) l3TO s9 (fr D3 n34 l34 s8 (fr D3 (Ne.symm TO3) l3TO s7 u3));have w4 : S4 (k + 1) h9:=fr D4 (Ne.symm TO4) l4TO s9 u4;have zlt : z < h9.objs.size:=Heap.lt_size zz;refine wpAny_bind (m:=Builtin.SmallTypes.ownedTupleHandOut (.ref z) (.ref h9.objs.size)) ?_;unfold Builtin.SmallTypes.ownedTupleHandOut;have zp : IsZip (h9.push { cls:=.type "tuple",data:=.seq #[x,y,u,v] }) z TI TO .ellipsis:=Heap.get?_push_of_some _ zz;refine wpAny_bind (wpAny_setField_rec zp (by simp) fun h10 hz10 s10=>?_);replace hz10 : IsZip h10 z TI TO (rawInt h9.objs.size):=hz10;refine wpAny_setField_rec hz10 (by simp) fun h11 hz11 s11=>?_;replace hz11 : IsZip h11 z TI TO (rawInt h9.objs.size):=hz11;have up : ∀ d o,d ≠ z → h9.get? d = some o → h11.get? d = some o:=fun d o c1 e=>s11.extBut _ _ c1 (s10.extBut _ _ c1 (Heap.get?_push_of_some _ e));have nw : Jmz h11 h9.objs.size x y u v:=s11.extBut _ _ (Nat.ne_of_gt zlt) (s10.extBut _ _ (Nat.ne_of_gt zlt) (Heap.get?_push_size _ rfl));have fz : ∀ {S : Nat → Heap → Prop} {P : Nat → Value → Prop} {i l : Addr} {m : Nat},DrA prog w i l n P S → i ≠ z → l ≠ z → S m h9 → S m h11:=fun D e1 e2 st=>(D A hh).frame _ _ _ st fun d hd o e=>by
  simp only [List.mem_cons,List.not_mem_nil,or_false] at hd;rcases hd with rfl | rfl
  ·exact up _ _ e1 e
  ·exact up _ _ e2 e
 rw [sz] at hz11 nw;refine wpAny_pure ⟨_,rfl,?_⟩;show Q (.ref h9.objs.size) _;rw [sz];exact hQ x y u v h11 _ px py pu pv hz11 (up _ _ (Ne.symm zTO) o9) (fz D1 (Ne.symm z1) l1z w1) (fz D2 (Ne.symm z2) l2z w2) (fz D3 (Ne.symm z3) l3z w3) (fz D4 (Ne.symm z4) l4z w4) nw fun d o c1 c2 c3 c4 c5 c6 e=>up d o c1 (kk d o c1 c2 c3 c4 c5 c6 e)
theorem z4_end {Q : Fin → Shared → Prop} (Z : Z4 z TI TO i1 i2 i3 i4 l1 l2 l3 l4) (hz : IsZip s.heap z TI TO .none) (hTI : Jmz s.heap TI (.ref i1) (.ref i2) (.ref i3) (.ref i4))
  (hh : A.handled = none) (D1 : DrA prog w i1 l1 n P1 S1) (t1 : S1 n s.heap)
  (hE : ∀ h' e,(∀ d o,d ≠ z → d ≠ i1 → s.heap.get? d = some o → h'.get? d = some o) → (∃ o,h'.get? e = some o ∧ o.cls = .type "StopIteration") → E (.ref e) { s with heap:=h' }) :
  wpAny (model prog w) A (Builtin.«zip.__next__» ⟨[.ref z],[]⟩) Q E s:=by
 obtain ⟨nd,m1,_,_,_⟩:=Z;simp only [List.nodup_cons,List.mem_cons,List.not_mem_nil,or_false,not_or,List.nodup_nil,and_true,not_false_eq_true] at nd m1;obtain ⟨⟨zTI,zTO,z1,z2,z3,z4⟩,_⟩:=nd;obtain ⟨l1z,l1TI,l1TO,l11,l12,l13,l14⟩:=m1;show wpAny _ _ (field (.ref z) 2 >>= _) _ _ _;refine wpAny_bind (wpAny_field hz rfl (x:=.bool false) rfl ?_);refine wpAny_bind (m:=field (.ref z) 3) (wpAny_field hz rfl (x:=.ref TI) rfl ?_);refine wpAny_bind (wpAny_seqItems hTI rfl ?_);refine wpAny_bind (m:=Builtin.SmallTypes.ownedTupleIsFree (.ref z)) ?_;unfold Builtin.SmallTypes.ownedTupleIsFree;refine wpAny_bind (wpAny_field hz rfl (x:=.none) rfl (wpAny_pure ?_));simp only [if_true];refine wpAny_bind (wpAny_rule (wpAny_bind (wpAny_field hz rfl (x:=.ref TO) rfl (wpAny_bind (wpAny_setField_rec hz (by simp) fun h1 hz1 s1=>?_)))));replace hz1 : IsZip h1 z TI TO .ellipsis:=hz1;refine wpAny_bind ?_;simp only [List.zipIdx_cons,List.zipIdx_nil,List.forIn_cons,List.forIn_nil];refine wpAny_bind (wpAny_bind (wpAny_onRaise ?_));refine wpAny_bind (m:=Builtin.SmallTypes.nextOf (.ref i1)) ((D1 A hh).done _ _ _ ((D1 A hh).frame _ _ _ t1 fun d hd o e=>?_) fun h2 e s2 he=>?_)
 ·simp only [List.mem_cons,List.not_mem_nil,or_false] at hd;rcases hd with rfl | rfl
  ·exact s1.extBut _ _ (Ne.symm z1) e
  ·exact s1.extBut _ _ l1z e
 ·obtain ⟨oe,hoe,hce⟩:=he;have hz2 : IsZip h2 z TI TO .ellipsis:=s2 _ _ z1 hz1;have ez : e ≠ z:=fun q=>by subst q; rw [hz2] at hoe; cases hoe; simp at hce
  exact wpAny_setField_rec hz2 (by simp) fun h3 _ s3=>hE h3 e (fun d o c1 c2 q=>s3.extBut _ _ c1 (s2 _ _ c2 (s1.extBut _ _ c1 q))) ⟨oe,s3.extBut _ _ ez hoe,hce⟩
end
noncomputable def Z4St (z TI TO i1 i2 i3 i4 : Addr) (S1 S2 S3 S4 : Nat → Heap → Prop) (i : Nat) (h : Heap) : Prop:=IsZip h z TI TO .none ∧ Jmz h TI (.ref i1) (.ref i2) (.ref i3) (.ref i4) ∧ (∃ a b c d,Jmz h TO a b c d) ∧ S1 i h ∧ S2 i h ∧ S3 i h ∧ S4 i h
section
variable {prog : Program} {w : World} {z TI TO i1 i2 i3 i4 l1 l2 l3 l4 : Addr} {n : Nat} {P1 P2 P3 P4 : Nat → Value → Prop} {S1 S2 S3 S4 : Nat → Heap → Prop}
theorem Y1 {A : Around} (hh : A.handled = none) (Z : Z4 z TI TO i1 i2 i3 i4 l1 l2 l3 l4) (D1 : DrA prog w i1 l1 n P1 S1) (D2 : DrA prog w i2 l2 n P2 S2) (D3 : DrA prog w i3 l3 n P3 S3) (D4 : DrA prog w i4 l4 n P4 S4) :
  WalksT prog w A z [z,TI,TO,i1,i2,i3,i4,l1,l2,l3,l4] [z,TO,i1,i2,i3,i4] n (fun i vals=>∃ x y u v,P1 i x ∧ P2 i y ∧ P3 i u ∧ P4 i v ∧ vals = #[x,y,u,v]) (Z4St z TI TO i1 i2 i3 i4 S1 S2 S3 S4)
   (fun i T h=>IsZip h z TI TO (rawInt T) ∧ Jmz h TI (.ref i1) (.ref i2) (.ref i3) (.ref i4) ∧ (∃ a b c d,Jmz h TO a b c d) ∧ S1 (i + 1) h ∧ S2 (i + 1) h ∧ S3 (i + 1) h ∧ S4 (i + 1) h ∧ T ∉ [z,TO,i1,i2,i3,i4]) where
 sub:=fun c hc=>by simp at hc ⊢; rcases hc with rfl | rfl | rfl | rfl | rfl | rfl <;> simp
 frame:=fun i h h' hst hk=>by
  obtain ⟨hz,hTI,⟨a,b,c,d,hTO⟩,h1,h2,h3,h4⟩:=hst;exact ⟨hk z (by simp) _ hz,hk TI (by simp) _ hTI,⟨a,b,c,d,hk TO (by simp) _ hTO⟩,(D1 A hh).frame _ _ _ h1 fun d hd o e=>hk d (by simp at hd; rcases hd with rfl | rfl <;> simp) o e,
   (D2 A hh).frame _ _ _ h2 fun d hd o e=>hk d (by simp at hd; rcases hd with rfl | rfl <;> simp) o e,(D3 A hh).frame _ _ _ h3 fun d hd o e=>hk d (by simp at hd; rcases hd with rfl | rfl <;> simp) o e,(D4 A hh).frame _ _ _ h4 fun d hd o e=>hk d (by simp at hd; rcases hd with rfl | rfl <;> simp) o e⟩
 item:=fun i s Q E hi hst hQ=>by
  obtain ⟨hz,hTI,⟨a,b,c,d,hTO⟩,h1,h2,h3,h4⟩:=hst;have hT : s.TypeIs (.ref z) "zip" := ⟨_,hz,rfl⟩;have nd:=Z.nd;simp only [List.nodup_cons,List.mem_cons,List.not_mem_nil,or_false,not_or,List.nodup_nil,and_true,not_false_eq_true] at nd;obtain ⟨⟨zTI,_⟩,⟨TITO,TI1,TI2,TI3,TI4⟩,_⟩:=nd;obtain ⟨e1,g1⟩:=(D1 A hh).live _ _ h1;obtain ⟨e2,g2⟩:=(D2 A hh).live _ _ h2;obtain ⟨e3,g3⟩:=(D3 A hh).live _ _ h3;obtain ⟨e4,g4⟩:=(D4 A hh).live _ _ h4;unfold pyNext;refine wpAny_bind (wpAny_attempt (wpAny_callSpecial?_slot (name:=Str.ofString "__next__") hT F.slot_zip_next (wpAny_call_entry F.slot_zip_next hT F.entry_zip_next
   (Yaz (A:=A.in1) Z hz hTI hTO hh D1 D2 D3 D4 hi h1 h2 h3 h4 fun x y u v h' tk px py pu pv a1 a2 a3 a4 a5 a6 a7 hk=>wpAny_pure ?_) (F.args_zip_next_1 _))))
  refine hQ s.heap.objs.size #[x,y,u,v] h' tk ⟨x,y,u,v,px,py,pu,pv,rfl⟩ (Nat.le_refl _) ⟨_,a7,rfl,_,rfl⟩ ⟨a1,hk _ _ (Ne.symm zTI) TITO TI1 TI2 TI3 TI4 hTI,⟨_,_,_,_,a2⟩,a3,a4,a5,a6,?_⟩ fun d o hd e=>hk d o (fun q=>hd (by simp [q])) (fun q=>hd (by simp [q])) (fun q=>hd (by simp [q])) (fun q=>hd (by simp [q])) (fun q=>hd (by simp [q])) (fun q=>hd (by simp [q])) e;have lt : ∀ {d o},s.heap.get? d = some o → s.heap.objs.size ≠ d:=fun e=>Nat.ne_of_gt (Heap.lt_size e);simp only [List.mem_cons,List.not_mem_nil,or_false,not_or];exact ⟨lt hz,lt hTO,lt g1,lt g2,lt g3,lt g4⟩
 go:=fun elts k pos i T s Q E hm hQ=>by
  obtain ⟨hz,hTI,⟨a,b,c,d,hTO⟩,h1,h2,h3,h4,_⟩:=hm;have nd:=Z.nd;have m1:=Z.m1;have m2:=Z.m2;have m3:=Z.m3;have m4:=Z.m4;simp only [List.nodup_cons,List.mem_cons,List.not_mem_nil,or_false,not_or,List.nodup_nil,and_true,not_false_eq_true] at nd m1 m2 m3 m4;obtain ⟨⟨zTI,zTO,z1,z2,z3,z4⟩,_⟩:=nd;have fz : ∀ {S : Nat → Heap → Prop} {P : Nat → Value → Prop} {j l : Addr} {m : Nat} {h' : Heap},DrA prog w j l n P S → j ≠ z → l ≠ z → Heap.SameBut z s.heap h' → S m s.heap → S m h':=fun D e1 e2 sb st=>(D A hh).frame _ _ _ st fun d hd o e=>by
   simp only [List.mem_cons,List.not_mem_nil,or_false] at hd;rcases hd with rfl | rfl
   ·exact sb.extBut _ _ e1 e
   ·exact sb.extBut _ _ e2 e
  exact wpAny_letOwnedTupleGo_zip hz fun h' hz' sb=>hQ h' ⟨hz', sb.extBut _ _ (Ne.symm zTI) hTI,⟨a,b,c,d,sb.extBut _ _ (Ne.symm zTO) hTO⟩,fz D1 (Ne.symm z1) m1.1 sb h1,fz D2 (Ne.symm z2) m2.1 sb h2,fz D3 (Ne.symm z3) m3.1 sb h3,fz D4 (Ne.symm z4) m4.1 sb h4⟩ fun d o hd e=>sb.extBut _ _ (fun q=>hd (by simp [q])) e
 apart:=fun i T h hm hT=>hm.2.2.2.2.2.2.2 hT
 done:=fun s Q E hst hQ=>by
  obtain ⟨hz,hTI,_,h1,h2,h3,h4⟩:=hst;have hT : s.TypeIs (.ref z) "zip" := ⟨_,hz,rfl⟩;unfold pyNext;refine wpAny_bind (wpAny_attempt (wpAny_callSpecial?_slot (name:=Str.ofString "__next__") hT F.slot_zip_next (wpAny_call_entry F.slot_zip_next hT F.entry_zip_next
   (z4_end (A:=A.in1) Z hz hTI hh D1 h1 fun h' e hk he=>?_) (F.args_zip_next_1 _))))
  obtain ⟨o,ho,hc⟩:=he;refine wpAny_bind (wpAny_isInstance (T := "StopIteration") (b:=true) ⟨o,ho,hc⟩ isSubtype_stop (wpAny_pure ?_));exact hQ h' s.toks fun d o' hd e'=>hk d o' (fun q=>hd (by simp [q])) (fun q=>hd (by simp [q])) e'
 self:=fun i s Q E hst hQ=>wpAny_pyIter_zip hst.1 hQ
end
noncomputable abbrev yC (h : Heap) (l1 l2 l3 l4 : Addr) (b1 b2 b3 b4 : Bool) : Heap:=(zC h l1 l2 l3 b1 b2 b3).push (itO l4 b4)
noncomputable abbrev yD (h : Heap) (l1 l2 l3 l4 : Addr) (b1 b2 b3 b4 : Bool) : Heap:=(yC h l1 l2 l3 l4 b1 b2 b3 b4).push { cls:=.type "tuple",data:=.seq #[.ref h.objs.size,.ref (zA h l1 b1).objs.size,.ref (zB h l1 l2 b1 b2).objs.size,.ref (zC h l1 l2 l3 b1 b2 b3).objs.size] }
noncomputable abbrev yE (h : Heap) (l1 l2 l3 l4 : Addr) (b1 b2 b3 b4 : Bool) : Heap:=(yD h l1 l2 l3 l4 b1 b2 b3 b4).push { cls:=.type "tuple",data:=.seq #[.none,.none,.none,.none] }
noncomputable abbrev yF (h : Heap) (l1 l2 l3 l4 : Addr) (b1 b2 b3 b4 : Bool) : Heap:=(yE h l1 l2 l3 l4 b1 b2 b3 b4).push { cls:=.type "zip",data:=.fields #[.none,.bool false,.bool false,.ref (yC h l1 l2 l3 l4 b1 b2 b3 b4).objs.size,.ref (yD h l1 l2 l3 l4 b1 b2 b3 b4).objs.size] }
set_option maxRecDepth 100000 in
set_option maxHeartbeats 4000000 in
theorem Yc (l1 l2 l3 l4 : Addr) (b1 b2 b3 b4 : Bool) (xs ys us vs : Array Value) :
  Meets (Builtin.«zip.__new__» ⟨[.type "zip",.ref l1,.ref l2,.ref l3,.ref l4],[]⟩) (fun _ R s=>IsB s.heap l1 b1 xs ∧ IsB s.heap l2 b2 ys ∧ IsB s.heap l3 b3 us ∧ IsB s.heap l4 b4 vs ∧
   R (.ok (.ret (.ref (yE s.heap l1 l2 l3 l4 b1 b2 b3 b4).objs.size))) { s with heap:=yF s.heap l1 l2 l3 l4 b1 b2 b3 b4 }) :=
 .of_wp fun prog w A R s h=>by
  obtain ⟨hp,g,d,tk,os⟩:=s;obtain ⟨hl1,hl2,hl3,hl4,h⟩:=h;have e0:=sub_zip;have e1 : IsB (Shared.heap ⟨hp,g,d,tk,os⟩) l1 b1 xs:=hl1;have e2 : IsB (Shared.heap ⟨hp.push (itO l1 b1),g,d,tk,os⟩) l2 b2 ys:=IsB.push hl2 _;have e3 : IsB (Shared.heap ⟨(hp.push (itO l1 b1)).push (itO l2 b2),g,d,tk,os⟩) l3 b3 us:=IsB.push (IsB.push hl3 _) _;have e4 : IsB (Shared.heap ⟨((hp.push (itO l1 b1)).push (itO l2 b2)).push (itO l3 b3),g,d,tk,os⟩) l4 b4 vs:=IsB.push (IsB.push (IsB.push hl4 _) _) _
  wp_walk using Jpt e1,Jpt e2,Jpt e3,Jpt e4
  exact ⟨_,rfl,h⟩
theorem Jsp (a b c d : Value) : checkTypeCall "zip" ⟨[a,b,c,d],[]⟩ = pure ():=by kernel_rfl
theorem Jst (a b c d : Value) : checkBuiltinCall "zip.__new__" ⟨[.type "zip",a,b,c,d],[]⟩ = pure ():=by kernel_rfl
theorem Jut (a b c d e : Value) : argsOk "object.__init__" ⟨[a,b,c,d,e],[]⟩:=by
 unfold argsOk; rw [signature?_of (id := "object.__init__") (n:=['_', '_', 't', 'i', 'n', 'i', '_', '_']) (o:=['t', 'c', 'e', 'j', 'b', 'o']) (by kernel_rfl) F.owner_object]; kernel_rfl
end L2
namespace L2
open PySem PySem.Spec PyProof.Rows PySem.W
section
variable {prog : Program} {w : World} {A : Around} {E : Value → Shared → Prop} {s : Shared}
theorem Jxc {l1 l2 l3 l4 : Addr} {b1 b2 b3 b4 : Bool} {xs ys us vs : Array Value} {Q : Value → Shared → Prop} (h1 : IsB s.heap l1 b1 xs) (h2 : IsB s.heap l2 b2 ys) (h3 : IsB s.heap l3 b3 us) (h4 : IsB s.heap l4 b4 vs)
  (h : ∀ h', IsZip h' (s.heap.objs.size + 6) (s.heap.objs.size + 4) (s.heap.objs.size + 5) .none → Jmz h' (s.heap.objs.size + 4) (.ref s.heap.objs.size) (.ref (s.heap.objs.size + 1)) (.ref (s.heap.objs.size + 2)) (.ref (s.heap.objs.size + 3)) →
   Jmz h' (s.heap.objs.size + 5) .none .none .none .none → IS s.heap.objs.size l1 b1 0 h' → IS (s.heap.objs.size + 1) l2 b2 0 h' → IS (s.heap.objs.size + 2) l3 b3 0 h' → IS (s.heap.objs.size + 3) l4 b4 0 h' →
   (∀ c o,s.heap.get? c = some o → h'.get? c = some o) → Q (.ref (s.heap.objs.size + 6)) { s with heap:=h' }) :
  wpAny (model prog w) A (call (.type "zip") [.ref l1,.ref l2,.ref l3,.ref l4]) Q E s:=by
 refine callType_new F.called_zip (by decide) (Jsp _ _ _ _) (Jst _ _ _ _) (fun obj=>Jut obj _ _ _ _) F.entry_zip_new (Yc l1 l2 l3 l4 b1 b2 b3 b4 xs ys us vs) ⟨h1,h2,h3,h4,?_⟩;have z1 : (zA s.heap l1 b1).objs.size = s.heap.objs.size + 1:=Heap.size_push ..;have z2 : (zB s.heap l1 l2 b1 b2).objs.size = s.heap.objs.size + 2:=by rw [Heap.size_push,z1]
 have z3 : (zC s.heap l1 l2 l3 b1 b2 b3).objs.size = s.heap.objs.size + 3:=by rw [Heap.size_push,z2]
 have z4 : (yC s.heap l1 l2 l3 l4 b1 b2 b3 b4).objs.size = s.heap.objs.size + 4:=by rw [Heap.size_push,z3]
 have z5 : (yD s.heap l1 l2 l3 l4 b1 b2 b3 b4).objs.size = s.heap.objs.size + 5:=by rw [Heap.size_push,z4]
 have z6 : (yE s.heap l1 l2 l3 l4 b1 b2 b3 b4).objs.size = s.heap.objs.size + 6:=by rw [Heap.size_push,z5]
 have p : ∀ {h : Heap} {c : Addr} {o q : Obj},h.get? c = some o → (h.push q).get? c = some o:=fun e=>Heap.get?_push_of_some _ e;have g7 : (yF s.heap l1 l2 l3 l4 b1 b2 b3 b4).get? (yE s.heap l1 l2 l3 l4 b1 b2 b3 b4).objs.size = some _:=Heap.get?_push_size _ rfl;have g6 : (yF s.heap l1 l2 l3 l4 b1 b2 b3 b4).get? (yD s.heap l1 l2 l3 l4 b1 b2 b3 b4).objs.size = some _:=p (Heap.get?_push_size _ rfl);have g5 : (yF s.heap l1 l2 l3 l4 b1 b2 b3 b4).get? (yC s.heap l1 l2 l3 l4 b1 b2 b3 b4).objs.size = some _:=p (p (Heap.get?_push_size _ rfl));have fr : ∀ (l : Addr) (b : Bool),(itO l b).isFreed = false:=fun l b=>by cases b <;> rfl
 have g4 : (yF s.heap l1 l2 l3 l4 b1 b2 b3 b4).get? (zC s.heap l1 l2 l3 b1 b2 b3).objs.size = some (itO l4 b4):=p (p (p (Heap.get?_push_size _ (fr _ _))));have g3 : (yF s.heap l1 l2 l3 l4 b1 b2 b3 b4).get? (zB s.heap l1 l2 b1 b2).objs.size = some (itO l3 b3):=p (p (p (p (Heap.get?_push_size _ (fr _ _)))));have g2 : (yF s.heap l1 l2 l3 l4 b1 b2 b3 b4).get? (zA s.heap l1 b1).objs.size = some (itO l2 b2):=p (p (p (p (p (Heap.get?_push_size _ (fr _ _))))));have g1 : (yF s.heap l1 l2 l3 l4 b1 b2 b3 b4).get? s.heap.objs.size = some (itO l1 b1):=p (p (p (p (p (p (Heap.get?_push_size _ (fr _ _)))))));have is : ∀ {it l : Addr} {b : Bool} {h : Heap},h.get? it = some (itO l b) → IS it l b 0 h:=fun {it l b h} e=>by
  cases b
  ·exact ⟨_,e,rfl,rfl⟩
  ·exact ⟨_,e,rfl,rfl⟩
 show _ ∧ _;rw [z4,z5,z6] at g7;rw [z1,z2,z3,z4] at g5;rw [z5] at g6;rw [z3] at g4;rw [z2] at g3;rw [z1] at g2;rw [z6];exact ⟨⟨_,g7,rfl⟩,h _ g7 g5 g6 (is g1) (is g2) (is g3) (is g4) fun c o x=>p (p (p (p (p (p (p x))))))⟩
end
noncomputable def ItZ4 (K : PySem.W.Frag) (l1 l2 l3 l4 : Addr) (b1 b2 b3 b4 : Bool) : It :=
 ⟨fun i H=>∃ xs ys us vs,SqB K H l1 b1 xs ∧ SqB K H l2 b2 ys ∧ SqB K H l3 b3 us ∧ SqB K H l4 b4 vs ∧ xs.length = ys.length ∧ xs.length = us.length ∧ xs.length = vs.length ∧ i < xs.length,
  fun i H x H'=>∃ T p q r t,H T = none ∧ x = .ref T ∧ (∀ xs,SqB K H l1 b1 xs → xs[i]? = some p) ∧ (∀ ys,SqB K H l2 b2 ys → ys[i]? = some q) ∧ (∀ us,SqB K H l3 b3 us → us[i]? = some r) ∧ (∀ vs,SqB K H l4 b4 vs → vs[i]? = some t) ∧ H' = upd H T (.tup [p,q,r,t]),
  fun i H=>∃ xs ys us vs,SqB K H l1 b1 xs ∧ SqB K H l2 b2 ys ∧ SqB K H l3 b3 us ∧ SqB K H l4 b4 vs ∧ xs.length = ys.length ∧ xs.length = us.length ∧ xs.length = vs.length ∧ i = xs.length⟩
noncomputable def Z4T (z TI TO i1 i2 i3 i4 l1 l2 l3 l4 : Addr) (b1 b2 b3 b4 : Bool) (i : Nat) (h : Heap) : Prop:=IsZip h z TI TO .none ∧ Jmz h TI (.ref i1) (.ref i2) (.ref i3) (.ref i4) ∧ (∃ a b c d,Jmz h TO a b c d) ∧ IS i1 l1 b1 i h ∧ IS i2 l2 b2 i h ∧ IS i3 l3 b3 i h ∧ IS i4 l4 b4 i h
theorem Z4T.obj {z TI TO i1 i2 i3 i4 l1 l2 l3 l4 : Addr} {b1 b2 b3 b4 : Bool} {i : Nat} {h : Heap} (st : Z4T z TI TO i1 i2 i3 i4 l1 l2 l3 l4 b1 b2 b3 b4 i h) : ∀ b ∈ [z,TI,TO,i1,i2,i3,i4],∃ o,h.get? b = some o ∧ ∀ v,o.data ≠ .cell v:=fun b hb=>by
 obtain ⟨h1,h2,⟨x,y,u,v,h3⟩,h4,h5,h6,h7⟩:=st;simp only [List.mem_cons,List.not_mem_nil,or_false] at hb;rcases hb with rfl | rfl | rfl | rfl | rfl | rfl | rfl
 ·exact ⟨_,h1,fun v z=>by cases z⟩
 ·exact ⟨_,h2,fun v z=>by cases z⟩
 ·exact ⟨_,h3,fun v z=>by cases z⟩
 ·exact h4.obj
 ·exact h5.obj
 ·exact h6.obj
 ·exact h7.obj
theorem Z4.ne {z TI TO i1 i2 i3 i4 l1 l2 l3 l4 : Addr} (Z : Z4 z TI TO i1 i2 i3 i4 l1 l2 l3 l4) : l1 ≠ i1 ∧ l2 ≠ i2 ∧ l3 ≠ i3 ∧ l4 ≠ i4:=by
 obtain ⟨_,m1,m2,m3,m4⟩:=Z;simp only [List.mem_cons,List.not_mem_nil,or_false,not_or] at m1 m2 m3 m4;exact ⟨m1.2.2.2.1,m2.2.2.2.2.1,m3.2.2.2.2.2.1,m4.2.2.2.2.2.2⟩
theorem Jyb {P : Program} {w : World} {K : PySem.W.Frag} {elts : List Expr} {kt : Nat} {pt : Pos} (z TI TO i1 i2 i3 i4 l1 l2 l3 l4 : Addr) (b1 b2 b3 b4 : Bool) (Z : Z4 z TI TO i1 i2 i3 i4 l1 l2 l3 l4) :
  Turn P w K (.Tuple elts kt pt) (ItZ4 K l1 l2 l3 l4 b1 b2 b3 b4) [z,TI,TO,i1,i2,i3,i4] z (Z4T z TI TO i1 i2 i3 i4 l1 l2 l3 l4 b1 b2 b3 b4) where
 mem:=by simp
 obj:=fun i h st=>st.obj
 keep:=fun i h h' st k=>by
  obtain ⟨h1,h2,⟨a,c,d,e,h3⟩,h4,h5,h6,h7⟩:=st;exact ⟨k z (by simp) _ h1,k TI (by simp) _ h2,⟨a,c,d,e,k TO (by simp) _ h3⟩,h4.at fun o e=>k i1 (by simp) o e,h5.at fun o e=>k i2 (by simp) o e,h6.at fun o e=>k i3 (by simp) o e,h7.at fun o e=>k i4 (by simp) o e⟩
 item:=by
  intro X hP hw hK hc i pins s σ H E I hf st hg;subst hP hw hK;obtain ⟨xs,ys,us,vs,q1,q2,q3,q4,e12,e13,e14,hi⟩:=hg;obtain ⟨its,rv,p1⟩:=I.seqB q1;obtain ⟨jts,rv2,p2⟩:=I.seqB q2;obtain ⟨kts,rv3,p3⟩:=I.seqB q3;obtain ⟨lts,rv4,p4⟩:=I.seqB q4;have a1:=rv.length;have a2:=rv2.length;have a3:=rv3.length;have a4:=rv4.length;obtain ⟨n1,n2,n3,n4⟩:=Z.ne;have D1:=drA (prog:=X.prog) (w:=X.w) b1 n1 its.toArray;have D2:=drA (prog:=X.prog) (w:=X.w) b2 n2 jts.toArray;have D3:=drA (prog:=X.prog) (w:=X.w) b3 n3 kts.toArray;have D4:=drA (prog:=X.prog) (w:=X.w) b4 n4 lts.toArray;rw [show jts.toArray.size = its.toArray.size by simp only [List.size_toArray]; omega] at D2;rw [show kts.toArray.size = its.toArray.size by simp only [List.size_toArray]; omega] at D3;rw [show lts.toArray.size = its.toArray.size by simp only [List.size_toArray]; omega] at D4;have W:=Y1 (I.ok.hd hc) Z D1 D2 D3 D4;have st0:=st;obtain ⟨s1,s2,s3,s4,s5,s6,s7⟩:=st;refine W.item i s _ _ (by simp only [List.size_toArray]; omega) ⟨s1,s2,s3,⟨s4,p1⟩,⟨s5,p2⟩,⟨s6,p3⟩,⟨s7,p4⟩⟩ fun T vals h' tk hP fT tT mid kk=>?_;refine ⟨_,rfl,W.go elts kt pt i T _ _ _ mid fun h'' st'' kk2=>?_⟩;obtain ⟨x,y,u,v,hx,hy,hu,hv,rfl⟩:=hP;obtain ⟨u1,hu1,r1⟩:=rv.get (i:=i) (x:=xs[i]) (List.getElem?_eq_getElem hi);obtain ⟨u2,hu2,r2⟩:=rv2.get (i:=i) (x:=ys[i]'(by omega)) (List.getElem?_eq_getElem (by omega));obtain ⟨u3,hu3,r3⟩:=rv3.get (i:=i) (x:=us[i]'(by omega)) (List.getElem?_eq_getElem (by omega));obtain ⟨u4,hu4,r4⟩:=rv4.get (i:=i) (x:=vs[i]'(by omega)) (List.getElem?_eq_getElem (by omega));obtain rfl : x = u1:=by simpa [hu1] using hx.symm
  obtain rfl : y = u2:=by simpa [hu2] using hy.symm
  obtain rfl : u = u3:=by simpa [hu3] using hu.symm
  obtain rfl : v = u4:=by simpa [hu4] using hv.symm
  obtain ⟨t1,t2,t3,t4,t5,t6,t7⟩:=st'';have kT : h''.IsTuple T #[x,y,u,v]:=by
   obtain ⟨o,q,r⟩:=tT;exact ⟨o,kk2 T o (W.apart i T h' mid) q,r⟩
  have cht : ∀ c,c ∈ [z,TO,i1,i2,i3,i4] → c ∈ [z,TI,TO,i1,i2,i3,i4]:=fun c hc=>by simp at hc ⊢; rcases hc with rfl | rfl | rfl | rfl | rfl | rfl <;> simp
  refine ⟨.ref T,upd H T (.tup [xs[i],ys[i]'(by omega),us[i]'(by omega),vs[i]'(by omega)]),I.turnTup (ch:=[z,TO,i1,i2,i3,i4]) (t':=tk) (fun c hc=>hf c (cht c hc)) (fun c o hc e=>kk2 c o hc (kk c o hc e)) fT ⟨(show 4 ≤ sizeLine by decide),[x,y,u,v],.cons r1 (.cons r2 (.cons r3 (.cons r4 .nil))),kT⟩,rfl,
   ⟨T,_,_,_,_,I.hok.fresh fT,rfl,fun xs' hq=>by rw [I.seqB_inj hq q1]; exact List.getElem?_eq_getElem hi,fun ys' hq=>by rw [I.seqB_inj hq q2]; exact List.getElem?_eq_getElem (by omega),fun us' hq=>by rw [I.seqB_inj hq q3]; exact List.getElem?_eq_getElem (by omega),fun vs' hq=>by rw [I.seqB_inj hq q4]; exact List.getElem?_eq_getElem (by omega),rfl⟩,⟨t1,t2,t3,t4.1,t5.1,t6.1,t7.1⟩,fun c hc=>?_⟩
  have hcn:=(hf c hc).1;rw [Jk7 (fun w'=>?_)]
  ·exact hcn
  ·subst w';obtain ⟨o,e,_⟩:=Z4T.obj st0 c hc;exact absurd (Heap.lt_size e) (Nat.not_lt.mpr fT)
 done:=by
  intro X hP hw hK hc i pins s σ H E I hf st hg;subst hP hw hK;obtain ⟨xs,ys,us,vs,q1,q2,q3,q4,e12,e13,e14,hi⟩:=hg;obtain ⟨its,rv,p1⟩:=I.seqB q1;obtain ⟨jts,rv2,p2⟩:=I.seqB q2;obtain ⟨kts,rv3,p3⟩:=I.seqB q3;obtain ⟨lts,rv4,p4⟩:=I.seqB q4;have a1:=rv.length;have a2:=rv2.length;have a3:=rv3.length;have a4:=rv4.length;obtain ⟨n1,n2,n3,n4⟩:=Z.ne;have D1:=drA (prog:=X.prog) (w:=X.w) b1 n1 its.toArray;have D2:=drA (prog:=X.prog) (w:=X.w) b2 n2 jts.toArray;have D3:=drA (prog:=X.prog) (w:=X.w) b3 n3 kts.toArray;have D4:=drA (prog:=X.prog) (w:=X.w) b4 n4 lts.toArray;rw [show jts.toArray.size = its.toArray.size by simp only [List.size_toArray]; omega] at D2;rw [show kts.toArray.size = its.toArray.size by simp only [List.size_toArray]; omega] at D3;rw [show lts.toArray.size = its.toArray.size by simp only [List.size_toArray]; omega] at D4;have W:=Y1 (I.ok.hd hc) Z D1 D2 D3 D4;obtain ⟨s1,s2,s3,s4,s5,s6,s7⟩:=st;have ei : i = its.toArray.size:=by simp only [List.size_toArray]; omega
  subst ei;refine W.done s _ _ ⟨s1,s2,s3,⟨s4,p1⟩,⟨s5,p2⟩,⟨s6,p3⟩,⟨s7,p4⟩⟩ fun h' tk kk=>⟨rfl,?_⟩;exact I.turnMany (ch:=[z,TO,i1,i2,i3,i4]) (fun c hc=>hf c (by simp at hc ⊢; rcases hc with rfl | rfl | rfl | rfl | rfl | rfl <;> simp)) fun c o hc e=>kk c o hc e
 self:=fun _ _ _ _ _ st h=>wpAny_pyIter_zip st.1 h
noncomputable def iZip4 (K : PySem.W.Frag) (b1 b2 b3 b4 : Bool) (ta : TA) : TI:=fun σ H R=>ta σ H fun vs H1=>∃ a b c d,vs = [.ref a,.ref b,.ref c,.ref d] ∧ (∃ xs,SqB K H1 a b1 xs) ∧ (∃ ys,SqB K H1 b b2 ys) ∧ (∃ us,SqB K H1 c b3 us) ∧ (∃ ws,SqB K H1 d b4 ws) ∧ R (ItZ4 K a b c d b1 b2 b3 b4) H1
theorem Yz {X : Cx} {elts : List Expr} {kt : Nat} {pt : Pos} {a b c d : Expr} {ta : TA} {p pos : Pos} (b1 b2 b3 b4 : Bool) (hg : Gl X "zip") (hm : X.mg "zip" = none) (ha : PA X [a,b,c,d] ta) (hs : starEach [a,b,c,d] X.env = [(false,eval a X.env),(false,eval b X.env),(false,eval c X.env),(false,eval d X.env)]:=by rfl) (hs2 : starEach [b,c,d] X.env = [(false,eval b X.env),(false,eval c X.env),(false,eval d X.env)]:=by rfl) :
  PI X (.Tuple elts kt pt) (.Call (.Name "zip" p) [a,b,c,d] [] pos) (iZip4 X.K b1 b2 b3 b4 ta):=by
 intro pins s σ H R I h;refine Call_ (Jnd I hg hm Jvq (PyProof.Rows.callWith_type1 (thn (ha pos pins s σ H _ I h) fun us s1 ⟨vs,H1,I1,r1,q1⟩=>?_) (by rw [hs,hs2]) (by rw [hs2]; rfl)));obtain ⟨l1,l2,l3,l4,rfl,⟨xs,q1⟩,⟨ys,q2⟩,⟨zs,q3⟩,⟨ws,q4⟩,q⟩:=q1;obtain ⟨u,v,y,z,rfl,r1,r2,r3,r4⟩ : ∃ u v y z,us = [u,v,y,z] ∧ RelV (.ref l1) u ∧ RelV (.ref l2) v ∧ RelV (.ref l3) y ∧ RelV (.ref l4) z:=by
  cases r1 with
  | cons a1 t1 =>
   cases t1 with
   | cons a2 t2 =>
    cases t2 with
    | cons a3 t3 =>
     cases t3 with
     | cons a4 t4 =>
      cases t4;exact ⟨_,_,_,_,rfl,a1,a2,a3,a4⟩
 obtain rfl : u = Value.ref l1:=r1;obtain rfl : v = Value.ref l2:=r2;obtain rfl : y = Value.ref l3:=r3;obtain rfl : z = Value.ref l4:=r4;obtain ⟨its,rv,p1⟩:=I1.seqB q1;obtain ⟨jts,rv2,p2⟩:=I1.seqB q2;obtain ⟨kts,rv3,p3⟩:=I1.seqB q3;obtain ⟨lts,rv4,p4⟩:=I1.seqB q4;have a1:=p1.lt;have a2:=p2.lt;have a3:=p3.lt;have a4:=p4.lt;refine Jxc p1 p2 p3 p4 fun h' z1 z2 z3 z4 z5 z6 z7 kk=>?_;have I2 : Inv X pins σ H1 { s1 with heap:=h' }:=I1.kept (t':=s1.toks) kk;have ap : Z4 (s1.heap.objs.size + 6) (s1.heap.objs.size + 4) (s1.heap.objs.size + 5) s1.heap.objs.size (s1.heap.objs.size + 1) (s1.heap.objs.size + 2) (s1.heap.objs.size + 3) l1 l2 l3 l4:=by
  generalize hN : s1.heap.objs.size = N at *;have big : ∀ l : Addr,l < N → l ∉ [N + 6,N + 4,N + 5,N,N + 1,N + 2,N + 3]:=fun l hl hm=>by
   simp only [List.mem_cons,List.not_mem_nil,or_false] at hm;have le : N ≤ l:=by rcases hm with rfl | rfl | rfl | rfl | rfl | rfl | rfl <;> first | exact Nat.le_refl _ | exact Nat.le_add_right _ _
   exact Nat.not_lt.mpr le hl
  exact ⟨by simp,big _ a1,big _ a2,big _ a3,big _ a4⟩
 refine wpAny_pyIter_zip z1 ⟨_,_,_,_,H1,rfl,I2,Jyb _ _ _ _ _ _ _ l1 l2 l3 l4 b1 b2 b3 b4 ap,⟨z1,z2,⟨_,_,_,_,z3⟩,z4,z5,z6,z7⟩,fun d hd=>?_,q⟩;have hd' : s1.heap.objs.size ≤ d:=by
  simp only [List.mem_cons,List.not_mem_nil,or_false] at hd;rcases hd with rfl | rfl | rfl | rfl | rfl | rfl | rfl <;> omega
 exact I1.fpOk hd' (I1.hok.fresh hd')
section
variable {K : PySem.W.Frag} {g : TG} {σ : St} {H : Hp}
theorem Jxg {l1 l2 l3 l4 D : Addr} {b1 b2 b3 b4 : Bool} {xs ys us vs : List V} {tt : TT} {te : TE} {R : Hp → Prop} (Pv : Nat → St → Hp → Prop) (h0 : Pv 0 σ H) (hl : ∀ i σ H,i ≤ xs.length → Pv i σ H → SqB K H l1 b1 xs ∧ SqB K H l2 b2 ys ∧ SqB K H l3 b3 us ∧ SqB K H l4 b4 vs) (e1 : xs.length = ys.length) (e2 : xs.length = us.length) (e3 : xs.length = vs.length)
  (hs : ∀ i x y u v σ H T,xs[i]? = some x → ys[i]? = some y → us[i]? = some u → vs[i]? = some v → Pv i σ H → H T = none → g (.ref T) σ (upd H T (.tup [x,y,u,v])) fun σ3 H3=>tt σ3 H3 fun b H4=>if b = true then te σ3 H4 (fun v H5=>∃ vs,H5 D = some (.lst vs) ∧ vs.length < sizeLine ∧ Pv (i + 1) σ3 (upd H5 D (.lst (vs ++ [v])))) else Pv (i + 1) σ3 H4)
  (hd : ∀ σ H,Pv xs.length σ H → R H) :
  ∃ W : Nat → Nat → St → Hp → Prop,(∃ m,W 0 m σ H) ∧ ∀ i m σ' H', W i m σ' H' → ((ItZ4 K l1 l2 l3 l4 b1 b2 b3 b4).stop i H' ∧ R H') ∨ ((ItZ4 K l1 l2 l3 l4 b1 b2 b3 b4).go i H' ∧ ∃ N : St → Hp → Prop,(∀ σ2 H2,N σ2 H2 → ∃ m', m' < m ∧ W (i + 1) m' σ2 H2) ∧
   ∀ x H2,(ItZ4 K l1 l2 l3 l4 b1 b2 b3 b4).yld i H' x H2 → g x σ' H2 fun σ3 H3=>tt σ3 H3 fun b H4=>if b = true then te σ3 H4 (fun v H5=>∃ vs,H5 D = some (.lst vs) ∧ vs.length < sizeLine ∧ N σ3 (upd H5 D (.lst (vs ++ [v])))) else N σ3 H4):=by
 refine ⟨fun i m σ H=>m = xs.length - i ∧ i ≤ xs.length ∧ Pv i σ H,⟨xs.length,by simp,Nat.zero_le _,h0⟩,?_⟩;rintro i m σ H ⟨rfl,hi,p⟩;obtain ⟨q1,q2,q3,q4⟩:=hl i σ H hi p;by_cases hlt : i < xs.length
 ·refine .inr ⟨⟨xs,ys,us,vs,q1,q2,q3,q4,e1,e2,e3,hlt⟩,Pv (i + 1),fun σ' H' p'=>⟨xs.length - (i + 1),by omega,rfl,hlt,p'⟩,fun x H' y=>?_⟩;obtain ⟨T,u,v,w', x', hT,rfl,hu,hv,hw,hx,rfl⟩:=y;exact hs i u v w' x' σ _ T (hu xs q1) (hv ys q2) (hw us q3) (hx vs q4) p hT
 ·have e : i = xs.length:=by omega
  subst e;exact .inl ⟨⟨xs,ys,us,vs,q1,q2,q3,q4,e1,e2,e3,rfl⟩,hd σ H p⟩
theorem turn4 {i j k l : Nat} {T : Addr} {x y u v : V} {σ : L2.St} {H : Hp} {A B : L2.St → Hp → Prop} (hT : SqT K H T [x,y,u,v]) (h : A ((((σ.set i (some x)).set j (some y)).set k (some u)).set l (some v)) H) :
  gTup K 4 (Jp6 (Jmq i) (Jp6 (Jmq j) (Jp6 (Jmq k) (Jp6 (Jmq l) gNil)))) (.ref T) σ H fun σ3 H3=>Jvi σ3 H3 fun b H4=>if b = true then A σ3 H4 else B σ3 H4:=by
 refine ⟨T,_,rfl,hT,rfl,_,_,rfl,_,_,rfl,_,_,rfl,_,_,rfl,rfl,?_⟩;show if true = true then A ((((σ.set i (some x)).set j (some y)).set k (some u)).set l (some v)) H else B ((((σ.set i (some x)).set j (some y)).set k (some u)).set l (some v)) H
 rw [if_pos rfl];exact h
end
end L2
namespace L2
open PySem PySem.Spec PyProof.Rows PySem.W
theorem Jxt {X : Cx} {P : Program} {w : World} {K : PySem.W.Frag} {mg : Str → Option Value} {base : Heap} {o e : Expr} {es : List Expr} {m : Str} {ta : TE} {t : TA} {apos pos : Pos} {j : Nat} {pl : Sem Bool} (h1 : X.prog = P) (h2 : X.w = w) (h3 : X.K = K) (h4 : X.mg = mg) (h5 : X.base = base) (he : PE X o ta) (hr : Room j X.A) (ha : PA X (e :: es) t)
  (hst : starEach (e :: es) X.env = (false,eval e X.env) :: starEach es X.env:=by rfl) (hpl : (backTo pos (starEach es X.env)).any (·.1) = false:=by rfl)
  (ht : eval (.Call (.Attribute o m apos) (e :: es) [] pos) X.env = (do
   let ov ← eval o X.env
   standAt apos.atName
   let (f,first) ← holding [ov] (getMethod ov m pl)
   callWith pos f first (backTo pos (starEach (e :: es) X.env)) (backToKw pos (keywordEach [] X.env))):=by rfl) :
  PE X (.Call (.Attribute o m apos) (e :: es) [] pos) (Jun P w K mg base j m ta t):=by
 subst h1 h2 h3 h4 h5;exact Jq1 (pl:=pl) he hr ha hst hpl ht
end L2
namespace L2
open PySem PySem.Spec PyProof.Rows PySem.W
noncomputable def rGetL (K : PySem.W.Frag) : V → V → Hp → VK → Prop:=fun x y H Q=>∃ p xs i v,x = .ref p ∧ y = .int i ∧ SqL K H p xs ∧ 0 ≤ i ∧ atI xs i = some v ∧ Q v H
theorem Jyp {X : Cx} : PGet X (rGetL X.K):=by
 intro pins s σ H x y v u Q I rx ry h;obtain ⟨p,xs,i,z,rfl,rfl,hq,h0,he,q⟩:=h;cases rx;obtain ⟨t,rfl⟩:=ry;obtain ⟨its,r,pl,hz⟩:=I.list hq;obtain ⟨j,h1,h2,h3,h4,h5⟩:=Jrp he;obtain ⟨w,ew,rw'⟩:=r.get h2;have hl:=r.length;have hn:=Jnx;have hj : i.toNat = j:=by
  rw [seqIndex_of h0 h5] at h1;exact Option.some.inj h1
 exact wpAny_getItem_list pl.isList h0 (by omega) (by rw [hj]; simpa using ew) ⟨z,H,I,rw', q⟩
end L2
namespace L2
open PySem PySem.Spec PyProof.Rows PySem.W
section
variable {X : Cx}
end
end L2
namespace L2
open PySem PySem.Spec PyProof.Rows PySem.W
noncomputable def Ya3 (K : PySem.W.Frag) : V → List V → Hp → VK → Prop:=fun x vs H Q=>∃ (p : Addr) (zs : List Str) (z : Str),x = .ref p ∧ vs = [.str z] ∧ H p = some (.lst (zs.map V.str)) ∧ z ∈ zs ∧ Q (.int (zs.idxOf z)) H
theorem Jr3 : ∀ {l : List Str} {m : Nat} {z : Str},l[m]? = some z → l.idxOf z ≤ m
 | [],_,_,h=>by simp at h
 | x :: l,0,z,h=>by
  have e : x = z:=by simpa using h
  rw [e];simp
 | x :: l,m + 1,z,h=>by
  have ih:=Jr3 (l:=l) (m:=m) (z:=z) (by simpa using h);rw [List.idxOf_cons];cases x == z
  ·simpa using ih
  ·simp
section
variable {X : Cx}
theorem Jv1 : MtR X "list.index" (Ya3 X.K):=by
 intro pins s σ H x vs v us Q I rx rv h;obtain ⟨p,zs,z,rfl,rfl,hp,hz,q⟩:=h;obtain rfl : v = Value.ref p:=rx;obtain ⟨u,rfl,ru⟩:=Jnb rv;obtain ⟨tk,rfl⟩ : ∃ tk,u = Value.str z tk:=ru;obtain ⟨hs,its,n,r,hl,e⟩:=I.lstM hp;have hj : zs.idxOf z < zs.length:=List.idxOf_lt_length_of_mem hz;have hlen : its.length = zs.length:=by rw [← hl,List.length_map]
 have at_ : ∀ (i : Nat) (hi : i < zs.length),∃ t,its[i]? = some (Value.str zs[i] t):=fun i hi=>by
  obtain ⟨y,hy,ry⟩:=r.get (i:=i) (x:=.str zs[i]) (by rw [List.getElem?_map,List.getElem?_eq_getElem hi]; rfl);obtain ⟨t,rfl⟩ : ∃ t,y = Value.str zs[i] t:=ry;exact ⟨t,hy⟩
 rw [List.length_map] at hs;have hz63:=Jnx;refine call_meets F.slot_list_index ⟨_,e,rfl⟩ F.entry_list_index (F.args_list_index_2 _ _)
  (MeetsSeq.list_index p its.toArray n (.str z tk) (isStrOf z) (fun y hy=>?_) (zs.idxOf z) (by rw [List.size_toArray]; omega) (by omega) ?_ ?_) ⟨e,?_⟩
 ·obtain ⟨i,hi⟩:=List.getElem?_of_mem (by simpa using hy : y ∈ its);have hi' : i < zs.length:=by have:=(List.getElem?_eq_some_iff.mp hi).1; omega
  obtain ⟨t,ht⟩:=at_ i hi';rw [hi] at ht;cases ht;exact eqGives_str _ _ _ _
 ·obtain ⟨t,ht⟩:=at_ _ hj;have g:=List.getElem_idxOf hj;have e1 : its.toArray[zs.idxOf z]'(by rw [List.size_toArray]; omega) = Value.str z t:=by
   have:=List.getElem?_eq_some_iff.mp ht;rw [g] at this;simpa using this.2
  rw [e1];show (z == z) = true;simp
 ·intro m hm hlt;have hm' : m < zs.length:=by omega
  obtain ⟨t,ht⟩:=at_ m hm';have e1 : its.toArray[m]'hm = Value.str zs[m] t:=by
   have:=List.getElem?_eq_some_iff.mp ht;simpa using this.2
  rw [e1];show (zs[m] == z) = false;have ne : zs[m] ≠ z:=fun q=>by
   have:=Jr3 (l:=zs) (m:=m) (z:=z) (by rw [List.getElem?_eq_getElem hm', q]);omega
  exact beq_false_of_ne ne
 ·exact ⟨.int _,H,I.tok _,⟨_,rfl⟩,q⟩
end
end L2
namespace L2
open PySem PySem.Spec PyProof.Rows PySem.W
theorem ft_mk {K : PySem.W.Frag} {h : Heap} {mg : Str → Option Value} (X : K.In h) (G : h.Ns mainGlobals mg) {q : Str} {st : Stmt} {ps : List Str} {f : Addr} {od an : Option Addr} {sl : Array (Option Value)} {oc kV dc pm cd ct : Value} (a : PySem.W.nsIn K mainGlobals q = some (some (.ref f)))
  (l : K.lookup f = some ⟨oc,od,.func (PySem.W.fnOf q q (Jmi st) (Jm7 st) (Jk6 st) .none kV dc pm an cd ct),sl⟩) (c : PySem.W.codeIn K cd q = true) (k : PySem.W.keepIn K (.ref f) = true)
  (hb : ∀ (kV doc pm : Value) (an : Option Addr) (cdv ct : Value) (us : List Value),us.length = ps.length → bindArgs (PySem.W.fnOf q q (Jmi st) (Jm7 st) (Jk6 st) .none kV doc pm an cdv ct) ⟨us,[]⟩ = pure (ps.zip us)) : FT K mg q st ps f (PySem.W.fnOf q q (Jmi st) (Jm7 st) (Jk6 st) .none kV dc pm an cd ct) :=
 ⟨PySem.W.mg_of X G a,Jtv (st:=st) l c k,(Jtv (st:=st) l c k).binds hb⟩
theorem fm_mk {K : PySem.W.Frag} {n q : Str} {st : Stmt} {ps : List Str} {f : Addr} {od an : Option Addr} {sl : Array (Option Value)} {oc kV dc pm cd ct : Value}
  (l : K.lookup f = some ⟨oc,od,.func (PySem.W.fnOf n q (Jmi st) (Jm7 st) (Jk6 st) .none kV dc pm an cd ct),sl⟩) (c : PySem.W.codeIn K cd q = true) (k : PySem.W.keepIn K (.ref f) = true)
  (hb : ∀ (kV doc pm : Value) (an : Option Addr) (cdv ct : Value) (us : List Value),us.length = ps.length → bindArgs (PySem.W.fnOf n q (Jmi st) (Jm7 st) (Jk6 st) .none kV doc pm an cdv ct) ⟨us,[]⟩ = pure (ps.zip us)) : FM K n q st ps f (PySem.W.fnOf n q (Jmi st) (Jm7 st) (Jk6 st) .none kV dc pm an cd ct) :=
 ⟨Jtv (st:=st) l c k,(Jtv (st:=st) l c k).binds hb⟩
theorem xc_mk {K : PySem.W.Frag} {C W fI : Addr} {nm q : Str} {N : Addr} {bs : List Value} {sn : List Str} {sub : List Value} {ab : Bool} {col : Option Bool} {dd : Option Addr} {u v w x y : Option Value}
  (l : K.lookup C = some (excClassObj nm q C N bs (.ref W :: VEm) true sn sub ab col dd u v w x y "ValueError.__new__")) (t : PySem.W.tailIn K VEm (.ref W :: VEm) = true) (a : xcB K C fI = true) : XCls K C W fI:=⟨⟨_,_,_,_,_,_,_,_,_,_,_,_,_,_,l⟩,t,a⟩
theorem ec_mk {K : PySem.W.Frag} {C : Addr} {dd : Option Addr} {cl : ClassData} {s : Array (Option Value)} (l : K.lookup C = some ⟨.type "type",dd,.cls cl,s⟩) (m : PySem.W.mroIn K C (.type "BaseException") = some true) : ECls K C:=⟨⟨_,_,_,l⟩,m⟩
end L2
namespace L2
open PySem PySem.Spec PyProof.Rows PySem.W
section
variable {K : PySem.W.Frag} {g : TG} {σ : St} {H : Hp}
theorem Jyh {a D : Addr} {xs : List V} {tt : TT} {te : TE} {R : Hp → Prop} (Pv : Nat → St → Hp → Prop) (h0 : Pv 0 σ H) (hl : ∀ i σ H,i ≤ xs.length → Pv i σ H → SqL K H a xs)
  (hs : ∀ i x σ H T,xs[i]? = some x → Pv i σ H → H T = none → g (.ref T) σ (upd H T (.tup [.int i,x])) fun σ3 H3=>tt σ3 H3 fun b H4=>if b = true then te σ3 H4 (fun v H5=>∃ vs,H5 D = some (.lst vs) ∧ vs.length < sizeLine ∧ Pv (i + 1) σ3 (upd H5 D (.lst (vs ++ [v])))) else Pv (i + 1) σ3 H4)
  (hd : ∀ σ H,Pv xs.length σ H → R H) :
  ∃ W : Nat → Nat → St → Hp → Prop,(∃ m,W 0 m σ H) ∧ ∀ i m σ' H', W i m σ' H' → ((ItE K a).stop i H' ∧ R H') ∨ ((ItE K a).go i H' ∧ ∃ N : St → Hp → Prop,(∀ σ2 H2,N σ2 H2 → ∃ m', m' < m ∧ W (i + 1) m' σ2 H2) ∧
   ∀ x H2,(ItE K a).yld i H' x H2 → g x σ' H2 fun σ3 H3=>tt σ3 H3 fun b H4=>if b = true then te σ3 H4 (fun v H5=>∃ vs,H5 D = some (.lst vs) ∧ vs.length < sizeLine ∧ N σ3 (upd H5 D (.lst (vs ++ [v])))) else N σ3 H4):=by
 refine ⟨fun i m σ H=>m = xs.length - i ∧ i ≤ xs.length ∧ Pv i σ H,⟨xs.length,by simp,Nat.zero_le _,h0⟩,?_⟩;rintro i m σ H ⟨rfl,hi,p⟩;have q:=hl i σ H hi p;by_cases hlt : i < xs.length
 ·refine .inr ⟨⟨xs,xs[i],q,by simp [hlt]⟩,Pv (i + 1),fun σ' H' p'=>⟨xs.length - (i + 1),by omega,rfl,hlt,p'⟩,fun x H' y=>?_⟩;obtain ⟨T,u,hT,rfl,hu,rfl⟩:=y;exact hs i u σ _ T (hu xs q) p hT
 ·have e : i = xs.length:=by omega
  subst e;exact .inl ⟨⟨xs,q,rfl⟩,hd σ H p⟩
end
end L2
namespace L2
open PySem PySem.Spec PyProof.Rows PySem.W
noncomputable abbrev Jma (h : Heap) (T : Addr) (a b : Value) : Prop:=h.get? T = some { cls:=.type "tuple",data:=.seq #[a,b] }
structure Z2 (z TI TO i1 i2 l1 l2 : Addr) : Prop where
 nd : [z,TI,TO,i1,i2].Nodup
 m1 : l1 ∉ [z,TI,TO,i1,i2]
 m2 : l2 ∉ [z,TI,TO,i1,i2]
section
variable {prog : Program} {w : World} {A : Around} {E : Value → Shared → Prop} {s : Shared}
theorem Jzy {T : Addr} {a b x : Value} {k : Nat} {Q : Unit → Shared → Prop} (hT : Jma s.heap T a b)
  (h : ∀ h', h'.get? T = some { cls:=.type "tuple",data:=.seq ((#[a,b] : Array Value).setIfInBounds k x) } → Heap.SameBut T s.heap h' → Q () { s with heap:=h' }) : wpAny (model prog w) A (updateSeq T (·.setIfInBounds k x)) Q E s:=by
 refine wpAny_updateSeq hT rfl (h _ ?_ (Heap.SameBut.update ..));rw [Heap.get?_update_self _ hT rfl];simp [Obj.mapSeq]
variable {z TI TO i1 i2 l1 l2 : Addr} {n k : Nat} {P1 P2 : Nat → Value → Prop} {S1 S2 : Nat → Heap → Prop} {a b : Value}
theorem Yax {Q : Value → Shared → Prop} (Z : Z2 z TI TO i1 i2 l1 l2) (hz : IsZip s.heap z TI TO .none) (hTI : Jma s.heap TI (.ref i1) (.ref i2)) (hTO : Jma s.heap TO a b)
  (hh : A.handled = none) (D1 : DrA prog w i1 l1 n P1 S1) (D2 : DrA prog w i2 l2 n P2 S2) (hk : k < n) (t1 : S1 k s.heap) (t2 : S2 k s.heap)
  (hQ : ∀ x y h' tk,P1 k x → P2 k y → IsZip h' z TI TO (rawInt s.heap.objs.size) → Jma h' TO x y → S1 (k + 1) h' → S2 (k + 1) h' → Jma h' s.heap.objs.size x y →
   (∀ d o,d ≠ z → d ≠ TO → d ≠ i1 → d ≠ i2 → s.heap.get? d = some o → h'.get? d = some o) → Q (.ref s.heap.objs.size) { s with heap:=h', toks:=tk }) :
  wpAny (model prog w) A (Builtin.«zip.__next__» ⟨[.ref z],[]⟩) (fun fin s'=>∃ v,fin = .done (.ret v) ∧ Q v s') E s:=by
 obtain ⟨nd,m1,m2⟩:=Z;simp only [List.nodup_cons,List.mem_cons,List.not_mem_nil,or_false,not_or,List.nodup_nil,and_true,not_false_eq_true] at nd m1 m2;obtain ⟨⟨zTI,zTO,z1,z2⟩,⟨TITO,TI1,TI2⟩,⟨TO1,TO2⟩,n12⟩:=nd;obtain ⟨l1z,l1TI,l1TO,l11,l12⟩:=m1;obtain ⟨l2z,l2TI,l2TO,l21,l22⟩:=m2;have fr : ∀ {S : Nat → Heap → Prop} {P : Nat → Value → Prop} {i l b : Addr} {m : Nat} {h h' : Heap},DrA prog w i l n P S → i ≠ b → l ≠ b → Heap.SameBut b h h' → S m h → S m h':=fun D e1 e2 sb st =>
  (D A hh).frame _ _ _ st fun d hd o e=>by
   simp only [List.mem_cons,List.not_mem_nil,or_false] at hd;rcases hd with rfl | rfl
   ·exact sb.extBut _ _ e1 e
   ·exact sb.extBut _ _ e2 e
 show wpAny _ _ (field (.ref z) 2 >>= _) _ _ _;refine wpAny_bind (wpAny_field hz rfl (x:=.bool false) rfl ?_);refine wpAny_bind (m:=field (.ref z) 3) (wpAny_field hz rfl (x:=.ref TI) rfl ?_);refine wpAny_bind (wpAny_seqItems hTI rfl ?_);refine wpAny_bind (m:=Builtin.SmallTypes.ownedTupleIsFree (.ref z)) ?_;unfold Builtin.SmallTypes.ownedTupleIsFree;refine wpAny_bind (wpAny_field hz rfl (x:=.none) rfl (wpAny_pure ?_));simp only [if_true];refine wpAny_bind (wpAny_rule (wpAny_bind (wpAny_field hz rfl (x:=.ref TO) rfl (wpAny_bind (wpAny_setField_rec hz (by simp) fun h1 hz1 s1=>?_)))));replace hz1 : IsZip h1 z TI TO .ellipsis:=hz1;refine wpAny_bind ?_;simp only [List.zipIdx_cons,List.zipIdx_nil,List.forIn_cons,List.forIn_nil];refine wpAny_bind (wpAny_bind (wpAny_onRaise ?_));refine wpAny_bind (m:=Builtin.SmallTypes.nextOf (.ref i1)) ((D1 A hh).item k _ _ _ hk (fr D1 (Ne.symm z1) l1z s1 t1) fun x h2 k2 px u1 s2=>wpAny_pure ?_);have o2 : Jma h2 TO a b:=s2.extBut _ _ TO1 (s1.extBut _ _ (Ne.symm zTO) hTO);refine wpAny_bind (wpAny_seqItems o2 rfl (wpAny_bind (Jzy o2 fun h3 o3 s3=>wpAny_bind (wpAny_letGo (wpAny_pure ?_)))));replace o3 : Jma h3 TO x b:=o3;refine wpAny_bind (wpAny_bind (wpAny_onRaise ?_));refine wpAny_bind (m:=Builtin.SmallTypes.nextOf (.ref i2)) ((D2 A hh).item k _ _ _ hk (fr D2 (Ne.symm TO2) l2TO s3 (fr D2 (Ne.symm n12) l21 s2 (fr D2 (Ne.symm z2) l2z s1 t2))) fun y h4 k4 py u2 s4=>wpAny_pure ?_);have o4 : Jma h4 TO x b:=s4.extBut _ _ TO2 o3;refine wpAny_bind (wpAny_seqItems o4 rfl (wpAny_bind (Jzy o4 fun h5 o5 s5=>wpAny_bind (wpAny_letGo (wpAny_pure (wpAny_pure ?_))))));replace o5 : Jma h5 TO x y:=o5;refine wpAny_bind (wpAny_seqItems o5 rfl (wpAny_bind (wpAny_newTuple ?_)));have sz : h5.objs.size = s.heap.objs.size:=by rw [s5.1,s4.1,s3.1,s2.1,s1.1]
 have zz : IsZip h5 z TI TO .ellipsis:=s5.extBut _ _ zTO (s4.extBut _ _ z2 (s3.extBut _ _ zTO (s2.extBut _ _ z1 hz1)));have kk : ∀ d o,d ≠ z → d ≠ TO → d ≠ i1 → d ≠ i2 → s.heap.get? d = some o → h5.get? d = some o:=fun d o c1 c2 c3 c4 e =>
  s5.extBut _ _ c2 (s4.extBut _ _ c4 (s3.extBut _ _ c2 (s2.extBut _ _ c3 (s1.extBut _ _ c1 e))))
 have w1 : S1 (k + 1) h5:=fr D1 (Ne.symm TO1) l1TO s5 (fr D1 n12 l12 s4 (fr D1 (Ne.symm TO1) l1TO s3 u1));have w2 : S2 (k + 1) h5:=fr D2 (Ne.symm TO2) l2TO s5 u2;have zlt : z < h5.objs.size:=Heap.lt_size zz;refine wpAny_bind (m:=Builtin.SmallTypes.ownedTupleHandOut (.ref z) (.ref h5.objs.size)) ?_;unfold Builtin.SmallTypes.ownedTupleHandOut;have zp : IsZip (h5.push { cls:=.type "tuple",data:=.seq #[x,y] }) z TI TO .ellipsis:=Heap.get?_push_of_some _ zz;refine wpAny_bind (wpAny_setField_rec zp (by simp) fun h8 hz8 s8=>?_);replace hz8 : IsZip h8 z TI TO (rawInt h5.objs.size):=hz8;refine wpAny_setField_rec hz8 (by simp) fun h9 hz9 s9=>?_;replace hz9 : IsZip h9 z TI TO (rawInt h5.objs.size):=hz9;have up : ∀ d o,d ≠ z → h5.get? d = some o → h9.get? d = some o:=fun d o c1 e=>s9.extBut _ _ c1 (s8.extBut _ _ c1 (Heap.get?_push_of_some _ e));have nw : Jma h9 h5.objs.size x y:=s9.extBut _ _ (Nat.ne_of_gt zlt) (s8.extBut _ _ (Nat.ne_of_gt zlt) (Heap.get?_push_size _ rfl));have fz : ∀ {S : Nat → Heap → Prop} {P : Nat → Value → Prop} {i l : Addr} {m : Nat},DrA prog w i l n P S → i ≠ z → l ≠ z → S m h5 → S m h9:=fun D e1 e2 st=>(D A hh).frame _ _ _ st fun d hd o e=>by
  simp only [List.mem_cons,List.not_mem_nil,or_false] at hd;rcases hd with rfl | rfl
  ·exact up _ _ e1 e
  ·exact up _ _ e2 e
 rw [sz] at hz9 nw;refine wpAny_pure ⟨_,rfl,?_⟩;show Q (.ref h5.objs.size) _;rw [sz];exact hQ x y h9 _ px py hz9 (up _ _ (Ne.symm zTO) o5) (fz D1 (Ne.symm z1) l1z w1) (fz D2 (Ne.symm z2) l2z w2) nw fun d o c1 c2 c3 c4 e=>up d o c1 (kk d o c1 c2 c3 c4 e)
theorem z2_end {Q : Fin → Shared → Prop} (Z : Z2 z TI TO i1 i2 l1 l2) (hz : IsZip s.heap z TI TO .none) (hTI : Jma s.heap TI (.ref i1) (.ref i2))
  (hh : A.handled = none) (D1 : DrA prog w i1 l1 n P1 S1) (t1 : S1 n s.heap)
  (hE : ∀ h' e,(∀ d o,d ≠ z → d ≠ i1 → s.heap.get? d = some o → h'.get? d = some o) → (∃ o,h'.get? e = some o ∧ o.cls = .type "StopIteration") → E (.ref e) { s with heap:=h' }) :
  wpAny (model prog w) A (Builtin.«zip.__next__» ⟨[.ref z],[]⟩) Q E s:=by
 obtain ⟨nd,m1,_⟩:=Z;simp only [List.nodup_cons,List.mem_cons,List.not_mem_nil,or_false,not_or,List.nodup_nil,and_true,not_false_eq_true] at nd m1;obtain ⟨⟨zTI,zTO,z1,z2⟩,_⟩:=nd;obtain ⟨l1z,l1TI,l1TO,l11,l12⟩:=m1;show wpAny _ _ (field (.ref z) 2 >>= _) _ _ _;refine wpAny_bind (wpAny_field hz rfl (x:=.bool false) rfl ?_);refine wpAny_bind (m:=field (.ref z) 3) (wpAny_field hz rfl (x:=.ref TI) rfl ?_);refine wpAny_bind (wpAny_seqItems hTI rfl ?_);refine wpAny_bind (m:=Builtin.SmallTypes.ownedTupleIsFree (.ref z)) ?_;unfold Builtin.SmallTypes.ownedTupleIsFree;refine wpAny_bind (wpAny_field hz rfl (x:=.none) rfl (wpAny_pure ?_));simp only [if_true];refine wpAny_bind (wpAny_rule (wpAny_bind (wpAny_field hz rfl (x:=.ref TO) rfl (wpAny_bind (wpAny_setField_rec hz (by simp) fun h1 hz1 s1=>?_)))));replace hz1 : IsZip h1 z TI TO .ellipsis:=hz1;refine wpAny_bind ?_;simp only [List.zipIdx_cons,List.zipIdx_nil,List.forIn_cons,List.forIn_nil];refine wpAny_bind (wpAny_bind (wpAny_onRaise ?_));refine wpAny_bind (m:=Builtin.SmallTypes.nextOf (.ref i1)) ((D1 A hh).done _ _ _ ((D1 A hh).frame _ _ _ t1 fun d hd o e=>?_) fun h2 e s2 he=>?_)
 ·simp only [List.mem_cons,List.not_mem_nil,or_false] at hd;rcases hd with rfl | rfl
  ·exact s1.extBut _ _ (Ne.symm z1) e
  ·exact s1.extBut _ _ l1z e
 ·obtain ⟨oe,hoe,hce⟩:=he;have hz2 : IsZip h2 z TI TO .ellipsis:=s2 _ _ z1 hz1;have ez : e ≠ z:=fun q=>by subst q; rw [hz2] at hoe; cases hoe; simp at hce
  exact wpAny_setField_rec hz2 (by simp) fun h3 _ s3=>hE h3 e (fun d o c1 c2 q=>s3.extBut _ _ c1 (s2 _ _ c2 (s1.extBut _ _ c1 q))) ⟨oe,s3.extBut _ _ ez hoe,hce⟩
end
noncomputable def Z2St (z TI TO i1 i2 : Addr) (S1 S2 : Nat → Heap → Prop) (i : Nat) (h : Heap) : Prop:=IsZip h z TI TO .none ∧ Jma h TI (.ref i1) (.ref i2) ∧ (∃ a b,Jma h TO a b) ∧ S1 i h ∧ S2 i h
section
variable {prog : Program} {w : World} {z TI TO i1 i2 l1 l2 : Addr} {n : Nat} {P1 P2 : Nat → Value → Prop} {S1 S2 : Nat → Heap → Prop}
theorem Jzz {A : Around} (hh : A.handled = none) (Z : Z2 z TI TO i1 i2 l1 l2) (D1 : DrA prog w i1 l1 n P1 S1) (D2 : DrA prog w i2 l2 n P2 S2) :
  WalksT prog w A z [z,TI,TO,i1,i2,l1,l2] [z,TO,i1,i2] n (fun i vals=>∃ x y,P1 i x ∧ P2 i y ∧ vals = #[x,y]) (Z2St z TI TO i1 i2 S1 S2)
   (fun i T h=>IsZip h z TI TO (rawInt T) ∧ Jma h TI (.ref i1) (.ref i2) ∧ (∃ a b,Jma h TO a b) ∧ S1 (i + 1) h ∧ S2 (i + 1) h ∧ T ∉ [z,TO,i1,i2]) where
 sub:=fun c hc=>by simp at hc ⊢; rcases hc with rfl | rfl | rfl | rfl <;> simp
 frame:=fun i h h' hst hk=>by
  obtain ⟨hz,hTI,⟨a,b,hTO⟩,h1,h2⟩:=hst;exact ⟨hk z (by simp) _ hz,hk TI (by simp) _ hTI,⟨a,b,hk TO (by simp) _ hTO⟩,(D1 A hh).frame _ _ _ h1 fun d hd o e=>hk d (by simp at hd; rcases hd with rfl | rfl <;> simp) o e,
   (D2 A hh).frame _ _ _ h2 fun d hd o e=>hk d (by simp at hd; rcases hd with rfl | rfl <;> simp) o e⟩
 item:=fun i s Q E hi hst hQ=>by
  obtain ⟨hz,hTI,⟨a,b,hTO⟩,h1,h2⟩:=hst;have hT : s.TypeIs (.ref z) "zip" := ⟨_,hz,rfl⟩;have nd:=Z.nd;simp only [List.nodup_cons,List.mem_cons,List.not_mem_nil,or_false,not_or,List.nodup_nil,and_true,not_false_eq_true] at nd;obtain ⟨⟨zTI,_⟩,⟨TITO,TI1,TI2⟩,_⟩:=nd;obtain ⟨e1,g1⟩:=(D1 A hh).live _ _ h1;obtain ⟨e2,g2⟩:=(D2 A hh).live _ _ h2;unfold pyNext;refine wpAny_bind (wpAny_attempt (wpAny_callSpecial?_slot (name:=Str.ofString "__next__") hT F.slot_zip_next (wpAny_call_entry F.slot_zip_next hT F.entry_zip_next
   (Yax (A:=A.in1) Z hz hTI hTO hh D1 D2 hi h1 h2 fun x y h' tk px py a1 a2 a3 a4 a6 hk=>wpAny_pure ?_) (F.args_zip_next_1 _))))
  refine hQ s.heap.objs.size #[x,y] h' tk ⟨x,y,px,py,rfl⟩ (Nat.le_refl _) ⟨_,a6,rfl,_,rfl⟩ ⟨a1,hk _ _ (Ne.symm zTI) TITO TI1 TI2 hTI,⟨_,_,a2⟩,a3,a4,?_⟩ fun d o hd e=>hk d o (fun q=>hd (by simp [q])) (fun q=>hd (by simp [q])) (fun q=>hd (by simp [q])) (fun q=>hd (by simp [q])) e;have lt : ∀ {d o},s.heap.get? d = some o → s.heap.objs.size ≠ d:=fun e=>Nat.ne_of_gt (Heap.lt_size e);simp only [List.mem_cons,List.not_mem_nil,or_false,not_or];exact ⟨lt hz,lt hTO,lt g1,lt g2⟩
 go:=fun elts k pos i T s Q E hm hQ=>by
  obtain ⟨hz,hTI,⟨a,b,hTO⟩,h1,h2,_⟩:=hm;have nd:=Z.nd;have m1:=Z.m1;have m2:=Z.m2;simp only [List.nodup_cons,List.mem_cons,List.not_mem_nil,or_false,not_or,List.nodup_nil,and_true,not_false_eq_true] at nd m1 m2;obtain ⟨⟨zTI,zTO,z1,z2⟩,_⟩:=nd;have fz : ∀ {S : Nat → Heap → Prop} {P : Nat → Value → Prop} {j l : Addr} {m : Nat} {h' : Heap},DrA prog w j l n P S → j ≠ z → l ≠ z → Heap.SameBut z s.heap h' → S m s.heap → S m h':=fun D e1 e2 sb st=>(D A hh).frame _ _ _ st fun d hd o e=>by
   simp only [List.mem_cons,List.not_mem_nil,or_false] at hd;rcases hd with rfl | rfl
   ·exact sb.extBut _ _ e1 e
   ·exact sb.extBut _ _ e2 e
  exact wpAny_letOwnedTupleGo_zip hz fun h' hz' sb=>hQ h' ⟨hz', sb.extBut _ _ (Ne.symm zTI) hTI,⟨a,b,sb.extBut _ _ (Ne.symm zTO) hTO⟩,fz D1 (Ne.symm z1) m1.1 sb h1,fz D2 (Ne.symm z2) m2.1 sb h2⟩ fun d o hd e=>sb.extBut _ _ (fun q=>hd (by simp [q])) e
 apart:=fun i T h hm hT=>hm.2.2.2.2.2 hT
 done:=fun s Q E hst hQ=>by
  obtain ⟨hz,hTI,_,h1,h2⟩:=hst;have hT : s.TypeIs (.ref z) "zip" := ⟨_,hz,rfl⟩;unfold pyNext;refine wpAny_bind (wpAny_attempt (wpAny_callSpecial?_slot (name:=Str.ofString "__next__") hT F.slot_zip_next (wpAny_call_entry F.slot_zip_next hT F.entry_zip_next
   (z2_end (A:=A.in1) Z hz hTI hh D1 h1 fun h' e hk he=>?_) (F.args_zip_next_1 _))))
  obtain ⟨o,ho,hc⟩:=he;refine wpAny_bind (wpAny_isInstance (T := "StopIteration") (b:=true) ⟨o,ho,hc⟩ isSubtype_stop (wpAny_pure ?_));exact hQ h' s.toks fun d o' hd e'=>hk d o' (fun q=>hd (by simp [q])) (fun q=>hd (by simp [q])) e'
 self:=fun i s Q E hst hQ=>wpAny_pyIter_zip hst.1 hQ
end
noncomputable abbrev xD (h : Heap) (l1 l2 : Addr) (b1 b2 : Bool) : Heap:=(zB h l1 l2 b1 b2).push { cls:=.type "tuple",data:=.seq #[.ref h.objs.size,.ref (zA h l1 b1).objs.size] }
noncomputable abbrev xE (h : Heap) (l1 l2 : Addr) (b1 b2 : Bool) : Heap:=(xD h l1 l2 b1 b2).push { cls:=.type "tuple",data:=.seq #[.none,.none] }
noncomputable abbrev xF (h : Heap) (l1 l2 : Addr) (b1 b2 : Bool) : Heap:=(xE h l1 l2 b1 b2).push { cls:=.type "zip",data:=.fields #[.none,.bool false,.bool false,.ref (zB h l1 l2 b1 b2).objs.size,.ref (xD h l1 l2 b1 b2).objs.size] }
set_option maxRecDepth 100000 in
set_option maxHeartbeats 2000000 in
theorem Ya (l1 l2 : Addr) (b1 b2 : Bool) (xs ys : Array Value) :
  Meets (Builtin.«zip.__new__» ⟨[.type "zip",.ref l1,.ref l2],[]⟩) (fun _ R s=>IsB s.heap l1 b1 xs ∧ IsB s.heap l2 b2 ys ∧
   R (.ok (.ret (.ref (xE s.heap l1 l2 b1 b2).objs.size))) { s with heap:=xF s.heap l1 l2 b1 b2 }) :=
 .of_wp fun prog w A R s h=>by
  obtain ⟨hp,g,d,tk,os⟩:=s;obtain ⟨hl1,hl2,h⟩:=h;have e0:=sub_zip;have e1 : IsB (Shared.heap ⟨hp,g,d,tk,os⟩) l1 b1 xs:=hl1;have e2 : IsB (Shared.heap ⟨hp.push (itO l1 b1),g,d,tk,os⟩) l2 b2 ys:=IsB.push hl2 _
  wp_walk using Jpt e1,Jpt e2
  exact ⟨_,rfl,h⟩
theorem Jro (a b : Value) : checkTypeCall "zip" ⟨[a,b],[]⟩ = pure ():=by kernel_rfl
theorem Js5 (a b : Value) : checkBuiltinCall "zip.__new__" ⟨[.type "zip",a,b],[]⟩ = pure ():=by kernel_rfl
theorem Jtr (a b c : Value) : argsOk "object.__init__" ⟨[a,b,c],[]⟩:=by
 unfold argsOk; rw [signature?_of (id := "object.__init__") (n:=['_', '_', 't', 'i', 'n', 'i', '_', '_']) (o:=['t', 'c', 'e', 'j', 'b', 'o']) (by kernel_rfl) F.owner_object]; kernel_rfl
section
variable {prog : Program} {w : World} {A : Around} {E : Value → Shared → Prop} {s : Shared}
theorem Jxa {l1 l2 : Addr} {b1 b2 : Bool} {xs ys : Array Value} {Q : Value → Shared → Prop} (h1 : IsB s.heap l1 b1 xs) (h2 : IsB s.heap l2 b2 ys)
  (h : ∀ h', IsZip h' (s.heap.objs.size + 4) (s.heap.objs.size + 2) (s.heap.objs.size + 3) .none → Jma h' (s.heap.objs.size + 2) (.ref s.heap.objs.size) (.ref (s.heap.objs.size + 1)) →
   Jma h' (s.heap.objs.size + 3) .none .none → IS s.heap.objs.size l1 b1 0 h' → IS (s.heap.objs.size + 1) l2 b2 0 h' →
   (∀ c o,s.heap.get? c = some o → h'.get? c = some o) → Q (.ref (s.heap.objs.size + 4)) { s with heap:=h' }) :
  wpAny (model prog w) A (call (.type "zip") [.ref l1,.ref l2]) Q E s:=by
 refine callType_new F.called_zip (by decide) (Jro _ _) (Js5 _ _) (fun obj=>Jtr obj _ _) F.entry_zip_new (Ya l1 l2 b1 b2 xs ys) ⟨h1,h2,?_⟩;have z1 : (zA s.heap l1 b1).objs.size = s.heap.objs.size + 1:=Heap.size_push ..;have z2 : (zB s.heap l1 l2 b1 b2).objs.size = s.heap.objs.size + 2:=by rw [Heap.size_push,z1]
 have z3 : (xD s.heap l1 l2 b1 b2).objs.size = s.heap.objs.size + 3:=by rw [Heap.size_push,z2]
 have z4 : (xE s.heap l1 l2 b1 b2).objs.size = s.heap.objs.size + 4:=by rw [Heap.size_push,z3]
 have p : ∀ {h : Heap} {c : Addr} {o q : Obj},h.get? c = some o → (h.push q).get? c = some o:=fun e=>Heap.get?_push_of_some _ e;have g5 : (xF s.heap l1 l2 b1 b2).get? (xE s.heap l1 l2 b1 b2).objs.size = some _:=Heap.get?_push_size _ rfl;have g4 : (xF s.heap l1 l2 b1 b2).get? (xD s.heap l1 l2 b1 b2).objs.size = some _:=p (Heap.get?_push_size _ rfl);have g3 : (xF s.heap l1 l2 b1 b2).get? (zB s.heap l1 l2 b1 b2).objs.size = some _:=p (p (Heap.get?_push_size _ rfl));have fr : ∀ (l : Addr) (b : Bool),(itO l b).isFreed = false:=fun l b=>by cases b <;> rfl
 have g2 : (xF s.heap l1 l2 b1 b2).get? (zA s.heap l1 b1).objs.size = some (itO l2 b2):=p (p (p (Heap.get?_push_size _ (fr _ _))));have g1 : (xF s.heap l1 l2 b1 b2).get? s.heap.objs.size = some (itO l1 b1):=p (p (p (p (Heap.get?_push_size _ (fr _ _)))));have is : ∀ {it l : Addr} {b : Bool} {h : Heap},h.get? it = some (itO l b) → IS it l b 0 h:=fun {it l b h} e=>by
  cases b
  ·exact ⟨_,e,rfl,rfl⟩
  ·exact ⟨_,e,rfl,rfl⟩
 show _ ∧ _;rw [z2,z3,z4] at g5;rw [z1,z2] at g3;rw [z3] at g4;rw [z1] at g2;rw [z4];exact ⟨⟨_,g5,rfl⟩,h _ g5 g3 g4 (is g1) (is g2) fun c o x=>p (p (p (p (p x))))⟩
end
noncomputable def ItZ2 (K : PySem.W.Frag) (l1 l2 : Addr) (b1 b2 : Bool) : It :=
 ⟨fun i H=>∃ xs ys,SqB K H l1 b1 xs ∧ SqB K H l2 b2 ys ∧ xs.length = ys.length ∧ i < xs.length,
  fun i H x H'=>∃ T p q,H T = none ∧ x = .ref T ∧ (∀ xs,SqB K H l1 b1 xs → xs[i]? = some p) ∧ (∀ ys,SqB K H l2 b2 ys → ys[i]? = some q) ∧ H' = upd H T (.tup [p,q]),
  fun i H=>∃ xs ys,SqB K H l1 b1 xs ∧ SqB K H l2 b2 ys ∧ xs.length = ys.length ∧ i = xs.length⟩
noncomputable def Z2T (z TI TO i1 i2 l1 l2 : Addr) (b1 b2 : Bool) (i : Nat) (h : Heap) : Prop:=IsZip h z TI TO .none ∧ Jma h TI (.ref i1) (.ref i2) ∧ (∃ a b,Jma h TO a b) ∧ IS i1 l1 b1 i h ∧ IS i2 l2 b2 i h
theorem Z2T.obj {z TI TO i1 i2 l1 l2 : Addr} {b1 b2 : Bool} {i : Nat} {h : Heap} (st : Z2T z TI TO i1 i2 l1 l2 b1 b2 i h) : ∀ b ∈ [z,TI,TO,i1,i2],∃ o,h.get? b = some o ∧ ∀ v,o.data ≠ .cell v:=fun b hb=>by
 obtain ⟨h1,h2,⟨x,y,h3⟩,h4,h5⟩:=st;simp only [List.mem_cons,List.not_mem_nil,or_false] at hb;rcases hb with rfl | rfl | rfl | rfl | rfl
 ·exact ⟨_,h1,fun v z=>by cases z⟩
 ·exact ⟨_,h2,fun v z=>by cases z⟩
 ·exact ⟨_,h3,fun v z=>by cases z⟩
 ·exact h4.obj
 ·exact h5.obj
theorem Z2.ne {z TI TO i1 i2 l1 l2 : Addr} (Z : Z2 z TI TO i1 i2 l1 l2) : l1 ≠ i1 ∧ l2 ≠ i2:=by
 obtain ⟨_,m1,m2⟩:=Z;simp only [List.mem_cons,List.not_mem_nil,or_false,not_or] at m1 m2;exact ⟨m1.2.2.2.1,m2.2.2.2.2⟩
theorem Jy9 {P : Program} {w : World} {K : PySem.W.Frag} {elts : List Expr} {kt : Nat} {pt : Pos} (z TI TO i1 i2 l1 l2 : Addr) (b1 b2 : Bool) (Z : Z2 z TI TO i1 i2 l1 l2) :
  Turn P w K (.Tuple elts kt pt) (ItZ2 K l1 l2 b1 b2) [z,TI,TO,i1,i2] z (Z2T z TI TO i1 i2 l1 l2 b1 b2) where
 mem:=by simp
 obj:=fun i h st=>st.obj
 keep:=fun i h h' st k=>by
  obtain ⟨h1,h2,⟨a,c,h3⟩,h4,h5⟩:=st;exact ⟨k z (by simp) _ h1,k TI (by simp) _ h2,⟨a,c,k TO (by simp) _ h3⟩,h4.at fun o e=>k i1 (by simp) o e,h5.at fun o e=>k i2 (by simp) o e⟩
 item:=by
  intro X hP hw hK hc i pins s σ H E I hf st hg;subst hP hw hK;obtain ⟨xs,ys,q1,q2,e12,hi⟩:=hg;obtain ⟨its,rv,p1⟩:=I.seqB q1;obtain ⟨jts,rv2,p2⟩:=I.seqB q2;have a1:=rv.length;have a2:=rv2.length;obtain ⟨n1,n2⟩:=Z.ne;have D1:=drA (prog:=X.prog) (w:=X.w) b1 n1 its.toArray;have D2:=drA (prog:=X.prog) (w:=X.w) b2 n2 jts.toArray;rw [show jts.toArray.size = its.toArray.size by simp only [List.size_toArray]; omega] at D2;have W:=Jzz (I.ok.hd hc) Z D1 D2;have st0:=st;obtain ⟨s1,s2,s3,s4,s5⟩:=st;refine W.item i s _ _ (by simp only [List.size_toArray]; omega) ⟨s1,s2,s3,⟨s4,p1⟩,⟨s5,p2⟩⟩ fun T vals h' tk hP fT tT mid kk=>?_;refine ⟨_,rfl,W.go elts kt pt i T _ _ _ mid fun h'' st'' kk2=>?_⟩;obtain ⟨x,y,hx,hy,rfl⟩:=hP;obtain ⟨u1,hu1,r1⟩:=rv.get (i:=i) (x:=xs[i]) (List.getElem?_eq_getElem hi);obtain ⟨u2,hu2,r2⟩:=rv2.get (i:=i) (x:=ys[i]'(by omega)) (List.getElem?_eq_getElem (by omega));obtain rfl : x = u1:=by simpa [hu1] using hx.symm
  obtain rfl : y = u2:=by simpa [hu2] using hy.symm
  obtain ⟨t1,t2,t3,t4,t5⟩:=st'';have kT : h''.IsTuple T #[x,y]:=by
   obtain ⟨o,q,r⟩:=tT;exact ⟨o,kk2 T o (W.apart i T h' mid) q,r⟩
  have cht : ∀ c,c ∈ [z,TO,i1,i2] → c ∈ [z,TI,TO,i1,i2]:=fun c hc=>by simp at hc ⊢; rcases hc with rfl | rfl | rfl | rfl <;> simp
  refine ⟨.ref T,upd H T (.tup [xs[i],ys[i]'(by omega)]),I.turnTup (ch:=[z,TO,i1,i2]) (t':=tk) (fun c hc=>hf c (cht c hc)) (fun c o hc e=>kk2 c o hc (kk c o hc e)) fT ⟨(show 2 ≤ sizeLine by decide),[x,y],.cons r1 (.cons r2 .nil),kT⟩,rfl,
   ⟨T,_,_,I.hok.fresh fT,rfl,fun xs' hq=>by rw [I.seqB_inj hq q1]; exact List.getElem?_eq_getElem hi,fun ys' hq=>by rw [I.seqB_inj hq q2]; exact List.getElem?_eq_getElem (by omega),rfl⟩,⟨t1,t2,t3,t4.1,t5.1⟩,fun c hc=>?_⟩
  have hcn:=(hf c hc).1;rw [Jk7 (fun w'=>?_)]
  ·exact hcn
  ·subst w';obtain ⟨o,e,_⟩:=Z2T.obj st0 c hc;exact absurd (Heap.lt_size e) (Nat.not_lt.mpr fT)
 done:=by
  intro X hP hw hK hc i pins s σ H E I hf st hg;subst hP hw hK;obtain ⟨xs,ys,q1,q2,e12,hi⟩:=hg;obtain ⟨its,rv,p1⟩:=I.seqB q1;obtain ⟨jts,rv2,p2⟩:=I.seqB q2;have a1:=rv.length;have a2:=rv2.length;obtain ⟨n1,n2⟩:=Z.ne;have D1:=drA (prog:=X.prog) (w:=X.w) b1 n1 its.toArray;have D2:=drA (prog:=X.prog) (w:=X.w) b2 n2 jts.toArray;rw [show jts.toArray.size = its.toArray.size by simp only [List.size_toArray]; omega] at D2;have W:=Jzz (I.ok.hd hc) Z D1 D2;obtain ⟨s1,s2,s3,s4,s5⟩:=st;have ei : i = its.toArray.size:=by simp only [List.size_toArray]; omega
  subst ei;refine W.done s _ _ ⟨s1,s2,s3,⟨s4,p1⟩,⟨s5,p2⟩⟩ fun h' tk kk=>⟨rfl,?_⟩;exact I.turnMany (ch:=[z,TO,i1,i2]) (fun c hc=>hf c (by simp at hc ⊢; rcases hc with rfl | rfl | rfl | rfl <;> simp)) fun c o hc e=>kk c o hc e
 self:=fun _ _ _ _ _ st h=>wpAny_pyIter_zip st.1 h
noncomputable def iZip2 (K : PySem.W.Frag) (b1 b2 : Bool) (ta : TA) : TI:=fun σ H R=>ta σ H fun vs H1=>∃ a b,vs = [.ref a,.ref b] ∧ (∃ xs,SqB K H1 a b1 xs) ∧ (∃ ys,SqB K H1 b b2 ys) ∧ R (ItZ2 K a b b1 b2) H1
theorem Yy {X : Cx} {elts : List Expr} {kt : Nat} {pt : Pos} {a b : Expr} {ta : TA} {p pos : Pos} (b1 b2 : Bool) (hg : Gl X "zip") (hm : X.mg "zip" = none) (ha : PA X [a,b] ta) (hs : starEach [a,b] X.env = [(false,eval a X.env),(false,eval b X.env)]:=by rfl) (hs2 : starEach [b] X.env = [(false,eval b X.env)]:=by rfl) :
  PI X (.Tuple elts kt pt) (.Call (.Name "zip" p) [a,b] [] pos) (iZip2 X.K b1 b2 ta):=by
 intro pins s σ H R I h;refine Call_ (Jnd I hg hm Jvq (PyProof.Rows.callWith_type1 (thn (ha pos pins s σ H _ I h) fun us s1 ⟨vs,H1,I1,r1,q1⟩=>?_) (by rw [hs,hs2]) (by rw [hs2]; rfl)));obtain ⟨l1,l2,rfl,⟨xs,q1⟩,⟨ys,q2⟩,q⟩:=q1;obtain ⟨u,v,rfl,r1,r2⟩:=Jvn r1;obtain rfl : u = Value.ref l1:=r1;obtain rfl : v = Value.ref l2:=r2;obtain ⟨its,rv,p1⟩:=I1.seqB q1;obtain ⟨jts,rv2,p2⟩:=I1.seqB q2;have a1:=p1.lt;have a2:=p2.lt;refine Jxa p1 p2 fun h' z1 z2 z3 z4 z5 kk=>?_;have I2 : Inv X pins σ H1 { s1 with heap:=h' }:=I1.kept (t':=s1.toks) kk;have ap : Z2 (s1.heap.objs.size + 4) (s1.heap.objs.size + 2) (s1.heap.objs.size + 3) s1.heap.objs.size (s1.heap.objs.size + 1) l1 l2:=by
  generalize hN : s1.heap.objs.size = N at *;have big : ∀ l : Addr,l < N → l ∉ [N + 4,N + 2,N + 3,N,N + 1]:=fun l hl hm=>by
   simp only [List.mem_cons,List.not_mem_nil,or_false] at hm;have le : N ≤ l:=by rcases hm with rfl | rfl | rfl | rfl | rfl <;> first | exact Nat.le_refl _ | exact Nat.le_add_right _ _
   exact Nat.not_lt.mpr le hl
  exact ⟨by simp,big _ a1,big _ a2⟩
 refine wpAny_pyIter_zip z1 ⟨_,_,_,_,H1,rfl,I2,Jy9 _ _ _ _ _ l1 l2 b1 b2 ap,⟨z1,z2,⟨_,_,z3⟩,z4,z5⟩,fun d hd=>?_,q⟩;have hd' : s1.heap.objs.size ≤ d:=by
  simp only [List.mem_cons,List.not_mem_nil,or_false] at hd;rcases hd with rfl | rfl | rfl | rfl | rfl <;> omega
 exact I1.fpOk hd' (I1.hok.fresh hd')
section
variable {K : PySem.W.Frag} {g : TG} {σ : St} {H : Hp}
theorem Jxf {l1 l2 D : Addr} {b1 b2 : Bool} {xs ys : List V} {tt : TT} {te : TE} {R : Hp → Prop} (Pv : Nat → St → Hp → Prop) (h0 : Pv 0 σ H) (hl : ∀ i σ H,i ≤ xs.length → Pv i σ H → SqB K H l1 b1 xs ∧ SqB K H l2 b2 ys) (e1 : xs.length = ys.length)
  (hs : ∀ i x y σ H T,xs[i]? = some x → ys[i]? = some y → Pv i σ H → H T = none → g (.ref T) σ (upd H T (.tup [x,y])) fun σ3 H3=>tt σ3 H3 fun b H4=>if b = true then te σ3 H4 (fun v H5=>∃ vs,H5 D = some (.lst vs) ∧ vs.length < sizeLine ∧ Pv (i + 1) σ3 (upd H5 D (.lst (vs ++ [v])))) else Pv (i + 1) σ3 H4)
  (hd : ∀ σ H,Pv xs.length σ H → R H) :
  ∃ W : Nat → Nat → St → Hp → Prop,(∃ m,W 0 m σ H) ∧ ∀ i m σ' H', W i m σ' H' → ((ItZ2 K l1 l2 b1 b2).stop i H' ∧ R H') ∨ ((ItZ2 K l1 l2 b1 b2).go i H' ∧ ∃ N : St → Hp → Prop,(∀ σ2 H2,N σ2 H2 → ∃ m', m' < m ∧ W (i + 1) m' σ2 H2) ∧
   ∀ x H2,(ItZ2 K l1 l2 b1 b2).yld i H' x H2 → g x σ' H2 fun σ3 H3=>tt σ3 H3 fun b H4=>if b = true then te σ3 H4 (fun v H5=>∃ vs,H5 D = some (.lst vs) ∧ vs.length < sizeLine ∧ N σ3 (upd H5 D (.lst (vs ++ [v])))) else N σ3 H4):=by
 refine ⟨fun i m σ H=>m = xs.length - i ∧ i ≤ xs.length ∧ Pv i σ H,⟨xs.length,by simp,Nat.zero_le _,h0⟩,?_⟩;rintro i m σ H ⟨rfl,hi,p⟩;obtain ⟨q1,q2⟩:=hl i σ H hi p;by_cases hlt : i < xs.length
 ·refine .inr ⟨⟨xs,ys,q1,q2,e1,hlt⟩,Pv (i + 1),fun σ' H' p'=>⟨xs.length - (i + 1),by omega,rfl,hlt,p'⟩,fun x H' y=>?_⟩;obtain ⟨T,u,v,hT,rfl,hu,hv,rfl⟩:=y;exact hs i u v σ _ T (hu xs q1) (hv ys q2) p hT
 ·have e : i = xs.length:=by omega
  subst e;exact .inl ⟨⟨xs,ys,q1,q2,e1,rfl⟩,hd σ H p⟩
theorem turn2 {i j : Nat} {T : Addr} {x y : V} {σ : L2.St} {H : Hp} {A B : L2.St → Hp → Prop} (hT : SqT K H T [x,y]) (h : A ((σ.set i (some x)).set j (some y)) H) :
  gTup K 2 (Jp6 (Jmq i) (Jp6 (Jmq j) gNil)) (.ref T) σ H fun σ3 H3=>Jvi σ3 H3 fun b H4=>if b = true then A σ3 H4 else B σ3 H4:=by
 refine ⟨T,_,rfl,hT,rfl,_,_,rfl,_,_,rfl,rfl,?_⟩;show if true = true then A ((σ.set i (some x)).set j (some y)) H else B ((σ.set i (some x)).set j (some y)) H
 rw [if_pos rfl];exact h
end
end L2

namespace K12
local macro_rules|`(tactic|omega)=>`(tactic|first|lia|omega)
open PySem L2 PyProof.Rows PySem.NumText
noncomputable def top (i : Nat) : Stmt:=PySem.Challenge.pw_weirwatch_k12_whole_one_turn.main.body.getD i (.Pass ⟨0,0,0,0⟩)
set_option genInjectivity false in
structure Ad where
 Jf0 : Addr
 Jf1 : FuncData
 Jf2 : Addr
 Jf3 : FuncData
 Jf4 : Addr
 Jf5 : FuncData
 Jf6 : Addr
 Jf7 : FuncData
 Jf8 : Addr
 Jf9 : FuncData
 Jfa : Addr
 Jfb : FuncData
 Jfc : Addr
 Jfd : FuncData
 Jfe : Addr
 Jff : FuncData
 Jfg : Addr
 Jfh : FuncData
 Jfi : Addr
 Jfj : FuncData
 Jfk : Addr
 Jfl : FuncData
 Jfm : Addr
 Jfn : FuncData
 Jfo : Addr
 Jfp : FuncData
 Jfq : Addr
 Jfr : FuncData
 Jfs : Addr
 Jft : FuncData
 Jfu : Addr
 Jfv : FuncData
 Jfw : Addr
 Jfx : FuncData
 Jfy : Addr
 Jfz : FuncData
 Jg0 : Addr
 Jg1 : FuncData
 Jg2 : Addr
 Jg3 : FuncData
 Jg4 : Addr
 Jg5 : FuncData
 Jg6 : Addr
 Jg7 : FuncData
 Jg8 : Addr
 Jg9 : FuncData
 Jga : Addr
 Jgb : FuncData
 Jgc : Addr
 Jgd : FuncData
 Jge : Addr
 Jgf : FuncData
 Jgg : Addr
 Jgh : FuncData
 Jgi : Addr
 Jgj : FuncData
 Jgk : Addr
 Jgl : FuncData
 Jgm : Addr
 Jgn : FuncData
 Jgo : Addr
 Jgp : FuncData
 Jgq : Addr
 Jgr : FuncData
 Jgs : Addr
 Jgt : FuncData
 Jgu : Addr
 Jgv : FuncData
 Jgw : Addr
 Jgx : FuncData
 Jgy : Addr
 Jgz : FuncData
 Jh0 : Addr
 Jh1 : FuncData
 Jh2 : Addr
 Jh3 : FuncData
 Jh4 : Addr
 Jh5 : FuncData
 Jh6 : Addr
 Jh7 : FuncData
 Jh8 : Addr
 Jh9 : FuncData
 Jha : Addr
 Jhb : FuncData
 Jhc : Addr
 Jhd : FuncData
 Jhe : Addr
 Jhf : FuncData
 Jhg : Addr
 Jhh : FuncData
 Jhi : Addr
 Jhj : FuncData
 Jhk : Addr
 Jhl : FuncData
 Jhm : Addr
 Jhn : FuncData
 Jho : Addr
 Jhp : FuncData
 Jhq : Addr
 Jhr : FuncData
 Jhs : Addr
 Jht : FuncData
 Jhu : Addr
 Jhv : FuncData
 Jhw : Addr
 Jhx : FuncData
 Jhy : Addr
 Jhz : FuncData
 Ji0 : Addr
 Ji1 : FuncData
 Ji2 : Addr
 Ji3 : FuncData
 Ji4 : Addr
 Ji5 : FuncData
 Ji6 : Addr
 Ji7 : FuncData
 Ji8 : Addr
 Ji9 : FuncData
 Jia : Addr
 Jib : FuncData
 Jic : Addr
 Jid : FuncData
 Jie : Addr
 Jif : FuncData
 Jig : Addr
 Jih : FuncData
 Jii : Addr
 Jij : FuncData
 Jik : Addr
 Jil : FuncData
 Jim : Addr
 Jin : FuncData
 Jio : Addr
 Jip : FuncData
 Jiq : Addr
 Jir : FuncData
 Jis : Addr
 Jit : FuncData
 Jiu : Addr
 Jiv : FuncData
 Jiw : Addr
 Jix : FuncData
 Jiy : Addr
 Jiz : FuncData
 Jj0 : Addr
 Jj1 : FuncData
 Jj2 : Addr
 Jj3 : FuncData
 a_law : Addr
 d_law : FuncData
 Jj4 : Tok
 Jj5 : Tok
 Jj6 : Tok
 Jj7 : Tok
 Jj8 : Tok
 Jj9 : Tok
 Jja : Tok
 Jjb : Tok
 Jjc : Tok
 Jjd : Tok
 Jje : Tok
 Jjf : Addr
 Jjg : Addr
 Jjh : Addr
 Jji : Addr
 Jjj : Addr
 Jjk : Addr
 Jjl : Addr
 Jjm : Addr
 Jjn : Addr
 Jjo : Addr
 Jjp : Addr
 Jjq : Addr
 Jjr : Addr
 Jjs : Addr
 Jjt : Addr
 Jju : Addr
 Jjv : Addr
 Jjw : Addr
 Jjx : Addr
 Jjy : Addr
structure Tx (K : W.Frag) (mg : Str → Option Value) (a : Ad) : Prop where
 J0 : FT K mg "is_whole" (top 16) ["thing","low","high"] a.Jfk a.Jfl
 J1 : FT K mg "is_made_of" (top 17) ["text","signs"] a.Jfm a.Jfn
 J2 : FT K mg "is_name" (top 18) ["thing"] a.Jfo a.Jfp
 J3 : FT K mg "is_row" (top 20) ["thing","lows","highs"] a.Jfq a.Jfr
 J4 : FT K mg "is_row_up_to" (top 21) ["thing","highs"] a.Jfs a.Jft
 J5 : FT K mg "is_pair" (top 22) ["thing"] a.Jfu a.Jfv
 J6 : FT K mg "is_standing" (top 23) ["river","thing"] a.Jfw a.Jfx
 J7 : FT K mg "is_choice" (top 24) ["river","thing"] a.Jfy a.Jfz
 J8 : FT K mg "forced_rain" (top 25) ["river","wet"] a.Jg0 a.Jg1
 J9 : FT K mg "is_rain" (top 26) ["river","standing","thing"] a.Jg2 a.Jg3
 Ja : FT K mg "refuse_no_choice" (top 27) ["river","standing","choice"] a.Jg4 a.Jg5
 Jb : FT K mg "place_drawn_from" (top 28) ["river","town"] a.Jg6 a.Jg7
 Jc : FT K mg "draw" (top 29) ["river","standing","choice"] a.Jg8 a.Jg9
 Jd : FT K mg "paid_by" (top 30) ["river","standing","choice"] a.Jga a.Jgb
 Je : FT K mg "levels_left" (top 31) ["river","standing","choice","drawn"] a.Jgc a.Jgd
 Jf : FT K mg "outs_at" (top 32) ["river","settings","levels"] a.Jge a.Jgf
 Jg : FT K mg "levels_behind" (top 33) ["left","outs","rain"] a.Jgg a.Jgh
 Jh : FT K mg "broken_at" (top 34) ["river","levels"] a.Jgi a.Jgj
 Ji : FT K mg "turned" (top 36) ["river","standing","choice","rain"] a.Jgo a.Jgp
 Jj : FT K mg "are_marks" (top 41) ["thing","lowest"] a.Jgq a.Jgr
 Jk : FT K mg "kept_marks" (top 42) ["marks","lowest"] a.Jgs a.Jgt
 Jl : FT K mg "refuse_no_level" (top 56) ["thing","low","high"] a.Jhk a.Jhl
 Jm : FT K mg "are_unlike" (top 59) ["names"] a.Jhq a.Jhr
 Jn : FT K mg "are_basins" (top 60) ["thing"] a.Jhs a.Jht
 Jo : FT K mg "are_towns" (top 61) ["thing","basins"] a.Jhu a.Jhv
 Jp : FT K mg "_law_cell" (top 64) ["_law_script","_law_k"] a.Ji0 a.Ji1
 Jq : FT K mg "_law_stream" (top 65) ["_law_cell_here"] a.Ji2 a.Ji3
 Jr : FT K mg "_law_take" (top 66) ["_law_stream_here","_law_many"] a.Ji4 a.Ji5
 Js : FT K mg "_law_names" (top 67) ["_law_stream_here","_law_many"] a.Ji6 a.Ji7
 Jt : FT K mg "_law_gate" (top 68) ["_law_stream_here"] a.Ji8 a.Ji9
 Ju : FT K mg "_law_basin" (top 69) ["_law_stream_here","_law_name"] a.Jia a.Jib
 Jv : FT K mg "_law_river" (top 70) ["_law_cell_here"] a.Jic a.Jid
 Jw : FT K mg "_law_made_gate" (top 71) ["_law_told"] a.Jie a.Jif
 Jx : FT K mg "_law_made" (top 72) ["_law_told"] a.Jig a.Jih
 Jy : FT K mg "_law_settings" (top 73) ["_law_gate_here"] a.Jii a.Jij
 Jz : FT K mg "_law_standing" (top 74) ["_law_stream_here","_law_told"] a.Jik a.Jil
 Ja0 : FT K mg "_law_choice" (top 75) ["_law_stream_here","_law_told"] a.Jim a.Jin
 Ja1 : FT K mg "_law_forced" (top 76) ["_law_told","_law_wet"] a.Jio a.Jip
 Ja2 : FT K mg "_law_raised" (top 77) ["_law_told","_law_wet","_law_row"] a.Jiq a.Jir
 Ja3 : FT K mg "_law_rain" (top 78) ["_law_stream_here","_law_told","_law_wet"] a.Jis a.Jit
 Ja4 : FT K mg "_law_lets" (top 79) ["_law_gate_here","_law_setting","_law_level"] a.Jiu a.Jiv
 Ja5 : FT K mg "_law_pays" (top 80) ["_law_told","_law_levels","_law_town"] a.Jiw a.Jix
 Ja6 : FT K mg "_law_turned" (top 81) ["_law_told","_law_standing_here","_law_choice_here","_law_rain_here"] a.Jiy a.Jiz
 Ja7 : FT K mg "_law_same" (top 82) ["_law_found","_law_due"] a.Jj0 a.Jj1
 Ja8 : FT K mg "_law_turn_right" (top 83) ["_law_told","_law_river_here","_law_standing_here","_law_choice_here","_law_rain_here"] a.Jj2 a.Jj3
 f_law : FT K mg "law" (top 84) ["_law_script"] a.a_law a.d_law
 Ja9 : mg "LETTERS" = some (.str "abcdefghijklmnopqrstuvwxyz" a.Jj4)
 Jaa : mg "MOST_LETTERS" = some (.int 8 a.Jj5)
 Jab : mg "MOST_SETTINGS" = some (.int 4 a.Jj6)
 Jac : mg "HIGHEST_MARK" = some (.int 12 a.Jj7)
 Jad : mg "HIGHEST_LEVEL" = some (.int 1000 a.Jj8)
 Jae : mg "HIGHEST" = some (.int 12 a.Jj9)
 Jaf : mg "MOST_RAIN" = some (.int 6 a.Jja)
 Jag : mg "MOST_WANT" = some (.int 6 a.Jjb)
 Jah : mg "MOST_CLOUD" = some (.int 12 a.Jjc)
 Jai : mg "MOST_BASINS" = some (.int 16 a.Jjd)
 Jaj : mg "MOST_TOWNS" = some (.int 3 a.Jje)
 Jak : mg "all" = none
 Jal : mg "bool" = none
 Jam : mg "enumerate" = none
 Jan : mg "int" = none
 Jao : mg "isinstance" = none
 Jap : mg "len" = none
 Jaq : mg "list" = none
 Jar : mg "max" = none
 Jas : mg "min" = none
 Jat : mg "range" = none
 Jau : mg "set" = none
 Jav : mg "str" = none
 Jaw : mg "sum" = none
 Jax : mg "tuple" = none
 Jay : mg "zip" = none
 Jaz : mg "NoName" = some (.ref a.Jjg)
 Jb0 : mg "NoGate" = some (.ref a.Jjh)
 Jb1 : mg "NoBasin" = some (.ref a.Jji)
 Jb2 : mg "NoTown" = some (.ref a.Jjj)
 Jb3 : mg "NoCloud" = some (.ref a.Jjk)
 Jb4 : mg "NoRiver" = some (.ref a.Jjl)
 Jb5 : mg "NoStanding" = some (.ref a.Jjm)
 Jb6 : mg "NoChoice" = some (.ref a.Jjn)
 Jb7 : mg "NoRain" = some (.ref a.Jjo)
 Jb8 : mg "NoNumber" = some (.ref a.Jjp)
 Jb9 : mg "Turn" = some (.ref a.Jjq)
 Jba : mg "Gate" = some (.ref a.Jjr)
 Jbb : mg "StepGate" = some (.ref a.Jjs)
 Jbc : mg "FlapGate" = some (.ref a.Jjt)
 Jbd : mg "PartGate" = some (.ref a.Jju)
 Jbe : mg "StuckGate" = some (.ref a.Jjv)
 Jbf : mg "Basin" = some (.ref a.Jjw)
 Jbg : mg "Town" = some (.ref a.Jjx)
 Jbh : mg "River" = some (.ref a.Jjy)
 Jbi : FM K "__init__" "NoName.__init__" (Jk9 (top 3) 0) ["self","thing"] a.Jf0 a.Jf1
 Jbj : FM K "__init__" "NoGate.__init__" (Jk9 (top 4) 0) ["self","thing"] a.Jf2 a.Jf3
 Jbk : FM K "__init__" "NoBasin.__init__" (Jk9 (top 5) 0) ["self","thing"] a.Jf4 a.Jf5
 Jbl : FM K "__init__" "NoTown.__init__" (Jk9 (top 6) 0) ["self","thing"] a.Jf6 a.Jf7
 Jbm : FM K "__init__" "NoCloud.__init__" (Jk9 (top 7) 0) ["self","thing"] a.Jf8 a.Jf9
 Jbn : FM K "__init__" "NoRiver.__init__" (Jk9 (top 8) 0) ["self","thing"] a.Jfa a.Jfb
 Jbo : FM K "__init__" "NoStanding.__init__" (Jk9 (top 9) 0) ["self","thing"] a.Jfc a.Jfd
 Jbp : FM K "__init__" "NoChoice.__init__" (Jk9 (top 10) 0) ["self","thing"] a.Jfe a.Jff
 Jbq : FM K "__init__" "NoRain.__init__" (Jk9 (top 11) 0) ["self","thing"] a.Jfg a.Jfh
 Jbr : FM K "__init__" "NoNumber.__init__" (Jk9 (top 12) 0) ["self","thing"] a.Jfi a.Jfj
 Jbs : FM K "__init__" "Turn.__init__" (Jk9 (top 35) 0) ["self","river","standing","choice","rain"] a.Jgk a.Jgl
 Jbt : FM K "standing" "Turn.standing" (Jk9 (top 35) 1) ["self"] a.Jgm a.Jgn
 Jbu : FM K "lets" "Gate.lets" (Jk9 (top 44) 0) ["self","setting","level"] a.Jgu a.Jgv
 Jbv : FM K "__init__" "StepGate.__init__" (Jk9 (top 45) 0) ["self","marks"] a.Jgw a.Jgx
 Jbw : FM K "settings" "StepGate.settings" (Jk9 (top 45) 1) ["self"] a.Jgy a.Jgz
 Jbx : FM K "passes" "StepGate.passes" (Jk9 (top 45) 2) ["self","setting","level"] a.Jh0 a.Jh1
 Jby : FM K "__init__" "FlapGate.__init__" (Jk9 (top 46) 0) ["self","marks"] a.Jh2 a.Jh3
 Jbz : FM K "settings" "FlapGate.settings" (Jk9 (top 46) 1) ["self"] a.Jh4 a.Jh5
 Jc0 : FM K "passes" "FlapGate.passes" (Jk9 (top 46) 2) ["self","setting","level"] a.Jh6 a.Jh7
 Jc1 : FM K "__init__" "PartGate.__init__" (Jk9 (top 47) 0) ["self","marks"] a.Jh8 a.Jh9
 Jc2 : FM K "settings" "PartGate.settings" (Jk9 (top 47) 1) ["self"] a.Jha a.Jhb
 Jc3 : FM K "passes" "PartGate.passes" (Jk9 (top 47) 2) ["self","setting","level"] a.Jhc a.Jhd
 Jc4 : FM K "__init__" "StuckGate.__init__" (Jk9 (top 48) 0) ["self","gate","setting"] a.Jhe a.Jhf
 Jc5 : FM K "settings" "StuckGate.settings" (Jk9 (top 48) 1) ["self"] a.Jhg a.Jhh
 Jc6 : FM K "passes" "StuckGate.passes" (Jk9 (top 48) 2) ["self","setting","level"] a.Jhi a.Jhj
 Jc7 : FM K "__init__" "Basin.__init__" (Jk9 (top 57) 0) ["self","name","low","high","start","rain","gate"] a.Jhm a.Jhn
 Jc8 : FM K "__init__" "Town.__init__" (Jk9 (top 58) 0) ["self","name","basin","want"] a.Jho a.Jhp
 Jc9 : FM K "__init__" "River.__init__" (Jk9 (top 62) 0) ["self","cloud","gain","basins","towns"] a.Jhw a.Jhx
 Jca : FM K "place_of" "River.place_of" (Jk9 (top 62) 1) ["self","name"] a.Jhy a.Jhz
 Jcb : XCls K a.Jjg a.Jjf a.Jf0
 Jcc : NoAttr K a.Jjg "thing"
 Jcd : XCls K a.Jjh a.Jjf a.Jf2
 Jce : NoAttr K a.Jjh "thing"
 Jcf : XCls K a.Jji a.Jjf a.Jf4
 Jcg : NoAttr K a.Jji "thing"
 Jch : XCls K a.Jjj a.Jjf a.Jf6
 Jci : NoAttr K a.Jjj "thing"
 Jcj : XCls K a.Jjk a.Jjf a.Jf8
 Jck : XCls K a.Jjl a.Jjf a.Jfa
 Jcl : XCls K a.Jjm a.Jjf a.Jfc
 Jcm : NoAttr K a.Jjm "thing"
 Jcn : XCls K a.Jjn a.Jjf a.Jfe
 Jco : NoAttr K a.Jjn "thing"
 Jcp : XCls K a.Jjo a.Jjf a.Jfg
 Jcq : NoAttr K a.Jjo "thing"
 Jcr : XCls K a.Jjp a.Jjf a.Jfi
 Jcs : Cls K a.Jjq
 Jct : YCls K a.Jjq
 Jcu : Mk K a.Jjq a.Jgk
 Jcv : Jlv K a.Jjq "standing" a.Jgm
 Jcw : NoAttr K a.Jjq "choice"
 Jcx : NoAttr K a.Jjq "rain"
 Jcy : NoAttr K a.Jjq "drawn"
 Jcz : NoAttr K a.Jjq "paid"
 Jd0 : NoAttr K a.Jjq "outs"
 Jd1 : NoAttr K a.Jjq "levels"
 Jd2 : NoAttr K a.Jjq "wet"
 Jd3 : NoAttr K a.Jjq "broken"
 Jd4 : Cls K a.Jjs
 Jd5 : YCls K a.Jjs
 Jd6 : Mk K a.Jjs a.Jgw
 Jd7 : Jlv K a.Jjs "lets" a.Jgu
 Jd8 : Jlv K a.Jjs "settings" a.Jgy
 Jd9 : Jlv K a.Jjs "passes" a.Jh0
 Jda : NoAttr K a.Jjs "marks"
 Jdb : Cls K a.Jjt
 Jdc : YCls K a.Jjt
 Jdd : Mk K a.Jjt a.Jh2
 Jde : Jlv K a.Jjt "lets" a.Jgu
 Jdf : Jlv K a.Jjt "settings" a.Jh4
 Jdg : Jlv K a.Jjt "passes" a.Jh6
 Jdh : NoAttr K a.Jjt "marks"
 Jdi : Cls K a.Jju
 Jdj : YCls K a.Jju
 Jdk : Mk K a.Jju a.Jh8
 Jdl : Jlv K a.Jju "lets" a.Jgu
 Jdm : Jlv K a.Jju "settings" a.Jha
 Jdn : Jlv K a.Jju "passes" a.Jhc
 Jdo : NoAttr K a.Jju "marks"
 Jdp : Cls K a.Jjv
 Jdq : YCls K a.Jjv
 Jdr : Mk K a.Jjv a.Jhe
 Jds : Jlv K a.Jjv "lets" a.Jgu
 Jdt : Jlv K a.Jjv "settings" a.Jhg
 Jdu : Jlv K a.Jjv "passes" a.Jhi
 Jdv : NoAttr K a.Jjv "gate"
 Jdw : NoAttr K a.Jjv "setting"
 Jdx : Cls K a.Jjw
 Jdy : YCls K a.Jjw
 Jdz : Mk K a.Jjw a.Jhm
 Je0 : NoAttr K a.Jjw "name"
 Je1 : NoAttr K a.Jjw "low"
 Je2 : NoAttr K a.Jjw "high"
 Je3 : NoAttr K a.Jjw "start"
 Je4 : NoAttr K a.Jjw "rain"
 Je5 : NoAttr K a.Jjw "gate"
 Je6 : Cls K a.Jjx
 Je7 : YCls K a.Jjx
 Je8 : Mk K a.Jjx a.Jho
 Je9 : NoAttr K a.Jjx "name"
 Jea : NoAttr K a.Jjx "basin"
 Jeb : NoAttr K a.Jjx "want"
 Jec : Cls K a.Jjy
 Jed : Mk K a.Jjy a.Jhw
 Jee : Jlv K a.Jjy "place_of" a.Jhy
 Jef : NoAttr K a.Jjy "cloud"
 Jeg : NoAttr K a.Jjy "gain"
 Jeh : NoAttr K a.Jjy "basins"
 Jei : NoAttr K a.Jjy "towns"
 Jej : W.kitOne K (.ref a.Jjs) (.ref a.Jjr) = some true
 Jek : W.kitOne K (.ref a.Jjt) (.ref a.Jjr) = some true
 Jel : W.kitOne K (.ref a.Jju) (.ref a.Jjr) = some true
 Jem : W.kitOne K (.ref a.Jjv) (.ref a.Jjr) = some true
 Jen : W.kitOne K (.ref a.Jjw) (.ref a.Jjw) = some true
 Jeo : W.kitOne K (.ref a.Jjx) (.ref a.Jjx) = some true
 Jep : W.kitOne K (.ref a.Jjs) (.type "bool") = some false
 Jeq : W.kitOne K (.ref a.Jjt) (.type "bool") = some false
 Jer : W.kitOne K (.ref a.Jju) (.type "bool") = some false
 Jes : W.kitOne K (.ref a.Jjv) (.type "bool") = some false
 Jet : W.kitAny K (.ref a.Jjs) [.ref a.Jjs,.ref a.Jjt,.ref a.Jju,.ref a.Jjv] = some true
 Jeu : W.kitAny K (.ref a.Jjt) [.ref a.Jjs,.ref a.Jjt,.ref a.Jju,.ref a.Jjv] = some true
 Jev : W.kitAny K (.ref a.Jju) [.ref a.Jjs,.ref a.Jjt,.ref a.Jju,.ref a.Jjv] = some true
 Jew : W.kitAny K (.ref a.Jjv) [.ref a.Jjs,.ref a.Jjt,.ref a.Jju,.ref a.Jjv] = some true
 Jex : W.kitOne K (.ref a.Jjs) (.ref a.Jjv) = some false
 Jey : W.kitOne K (.ref a.Jjt) (.ref a.Jjv) = some false
 Jez : W.kitOne K (.ref a.Jju) (.ref a.Jjv) = some false
noncomputable def Jli : Int → List V → Bool
 | _,[]=>true
 | lo,.int i :: r=>(decide (lo ≤ i) && decide (i ≤ 12)) && Jli (i + 1) r
 | _,_ :: _=>false
noncomputable def Jo6 (lo : Int) (xs : List V) : Bool:=decide (1 ≤ xs.length ∧ xs.length ≤ 4) && Jli lo xs
theorem Jr7 (lo : Int) (x : V) (r : List V) : Jli lo (x :: r) = (Jkl x lo 12 && match x with | .int i=>Jli (i + 1) r | _=>false):=by
 cases x <;> simp [Jli,Jkl]
inductive Sq (H : Hp) : V → List V → Prop where
 | lst {p : Addr} {xs : List V} : H p = some (.lst xs) → Sq H (.ref p) xs
 | tup {p : Addr} {xs : List V} : H p = some (.tup xs) → Sq H (.ref p) xs
theorem Sq.same {H H' : Hp} {x : V} {xs : List V} (s : Same H H') (h : Sq H x xs) : Sq H' x xs:=by
 cases h with
 | lst e=>exact .lst (s _ _ e)
 | tup e=>exact .tup (s _ _ e)
theorem Sq.ty {K : W.Frag} {H : Hp} {x : V} {xs : List V} (h : Sq H x xs) : ∃ t,TyX K H x t ∧ tpB t = true ∧ W.kitAny K t [.type "list",.type "tuple"] = some true:=by
 cases h with
 | lst e=>exact ⟨_,.of (.lst e),rfl,rfl⟩
 | tup e=>exact ⟨_,.of (.tup e),rfl,rfl⟩
inductive Shp (K : W.Frag) (H : Hp) (lo : Int) : V → Bool → Prop where
 | seq {x : V} {xs : List V} : Sq H x xs → (∀ y ∈ xs,Tm K H y) → Shp K H lo x (Jo6 lo xs)
 | non {x : V} {t : Value} : TyX K H x t → W.kitAny K t [.type "list",.type "tuple"] = some false → Shp K H lo x false
noncomputable def spAre (K : W.Frag) : Sp:=fun vs H Q _=>∃ (x : V) (lo : Int) (b : Bool),vs = [x,.int lo] ∧ Shp K H lo x b ∧ ∀ H', Same H H' → Q (.bl b) H'
noncomputable def Rf (a : Ad) (H H' : Hp) (x : V) (c : Value) (eo : Option Addr) : Prop:=∃ e dx,c = .ref a.Jjh ∧ eo = some e ∧ Same H H' ∧ H' e = some (XO e a.Jjh (some dx) false) ∧ H' dx = some (XD dx [("thing",x)])
theorem Rf.of {a : Ad} {H H1 H' : Hp} {x : V} {c : Value} {eo : Option Addr} (s : Same H H1) (h : Rf a H1 H' x c eo) : Rf a H H' x c eo:=by
 obtain ⟨e,dx,h1,h2,h3,h4,h5⟩:=h;exact ⟨e,dx,h1,h2,s.trans h3,h4,h5⟩
theorem Rf.new {a : Ad} {H : Hp} {x : V} {e dx : Addr} (h1 : H e = none) (h2 : H dx = none) (ne : dx ≠ e) : Rf a H (upd (upd (upd H dx (XD dx [("thing",x)])) e (XO e a.Jjh (some dx) true)) e (XO e a.Jjh (some dx) false)) x (.ref a.Jjh) (some e):=by
 refine ⟨e,dx,rfl,rfl,?_,Jk0,?_⟩
 ·rw [Jm1];intro b o q;rw [Jk7 (Jk8 q h1),Jk7 (Jk8 q h2)];exact q
 ·rw [Jk7 ne,Jk7 ne,Jk0]
noncomputable def spKept (K : W.Frag) (a : Ad) : Sp:=fun vs H Q E=>∃ (x : V) (lo : Int),vs = [x,.int lo] ∧
 ((∃ xs,Sq H x xs ∧ (∀ y ∈ xs,Tm K H y) ∧ Jo6 lo xs = true ∧ ∀ t H', Same H H' → H' t = some (.tup xs) → Q (.ref t) H') ∨ (Shp K H lo x false ∧ ∀ c eo H', Rf a H H' x c eo → E c eo H'))
noncomputable def IsC (a : Ad) (C : Addr) : Prop:=C = a.Jjs ∨ C = a.Jjt ∨ C = a.Jju
noncomputable def GateAt (C : Addr) (H : Hp) (g : Addr) (xs : List V) : Prop:=∃ dx t,H g = some (.ins C dx [("marks",.ref t)]) ∧ H t = some (.tup xs)
theorem GateAt.same {C : Addr} {H H' : Hp} {g : Addr} {xs : List V} (s : Same H H') (h : GateAt C H g xs) : GateAt C H' g xs:=by obtain ⟨dx,t,h1,h2⟩:=h; exact ⟨dx,t,s _ _ h1,s _ _ h2⟩
noncomputable def Jul (K : W.Frag) (a : Ad) (lo : Int) : Sp:=fun vs H Q E=>∃ (p C dx : Addr) (x : V),vs = [.ref p,x] ∧ H p = some (.ins C dx []) ∧ Cls K C ∧ NoAttr K C "marks" ∧
 ((∃ xs,Sq H x xs ∧ (∀ y ∈ xs,Tm K H y) ∧ Jo6 lo xs = true ∧ ∀ t H', Same H H' → H' t = some (.tup xs) → Q .non (upd H' p (.ins C dx [("marks",.ref t)]))) ∨ (Shp K H lo x false ∧ ∀ c eo H', Rf a H H' x c eo → E c eo H'))
noncomputable def Jzl (C : Addr) : Sp:=fun vs H Q _=>∃ (p : Addr) (xs : List V),vs = [.ref p] ∧ GateAt C H p xs ∧ Q (.int xs.length) H
noncomputable def spOne : Sp:=fun vs H Q _=>∃ x,vs = [x] ∧ Q (.int 1) H
inductive GS (K : W.Frag) (a : Ad) (H : Hp) : V → Nat → Prop where
 | plain {g C : Addr} {xs : List V} : IsC a C → GateAt C H g xs → xs.length ≤ 4 → GS K a H (.ref g) xs.length
 | stuck {g dx : Addr} {x y : V} : H g = some (.ins a.Jjv dx [("gate",x),("setting",y)]) → GS K a H (.ref g) 1
theorem GS.same {K : W.Frag} {a : Ad} {H H' : Hp} {x : V} {n : Nat} (s : Same H H') (h : GS K a H x n) : GS K a H' x n:=by
 cases h with
 | plain i g l=>exact .plain i (g.same s) l
 | stuck e=>exact .stuck (s _ _ e)
noncomputable def Yaa (K : W.Frag) (a : Ad) : Sp:=fun vs H Q E=>∃ (p dx : Addr) (x y : V),vs = [.ref p,x,y] ∧ H p = some (.ins a.Jjv dx []) ∧
 ((∃ t,TyX K H x t ∧ W.kitOne K t (.ref a.Jjr) = some false ∧ ∀ c eo H', Rf a H H' x c eo → E c eo H') ∨
  (∃ n,GS K a H x n ∧ Tm K H y ∧ Jkl y 0 (n - 1) = false ∧ ∀ c eo H', Rf a H H' y c eo → E c eo H') ∨
  (∃ n,GS K a H x n ∧ Tm K H y ∧ Jkl y 0 (n - 1) = true ∧ Q .non (upd H p (.ins a.Jjv dx [("gate",x),("setting",y)]))))
noncomputable def Knd (z : Str) : Prop:=z = ("step" : Str) ∨ z = ("flap" : Str) ∨ z = ("part" : Str)
noncomputable def Jmg (z : Str) : Int:=if z = ("part" : Str) then 1 else 0
noncomputable def cOf (a : Ad) (z : Str) : Addr:=if z = ("step" : Str) then a.Jjs else if z = ("flap" : Str) then a.Jjt else a.Jju
theorem Jyg {a : Ad} {z : Str} : IsC a (cOf a z):=by
 unfold cOf;split
 ·exact .inl rfl
 ·split
  ·exact .inr (.inl rfl)
  ·exact .inr (.inr rfl)
theorem Jrd : ¬ (("part" : Str) = "step"):=by decide +kernel
theorem Jrc : ¬ (("part" : Str) = "flap"):=by decide +kernel
theorem Jrb : ¬ (("flap" : Str) = "step"):=by decide +kernel
theorem ne_fp : ¬ (("flap" : Str) = "part"):=by decide +kernel
theorem ne_sp : ¬ (("step" : Str) = "part"):=by decide +kernel
theorem Jy7 {x y : Str} (h : ¬ x = y) : ¬ V.str x = V.str y:=fun e=>h (V.str.inj e)
noncomputable def LET : Str := "abcdefghijklmnopqrstuvwxyz"
noncomputable def Jtb (g z : Str) : Bool:=z.cps.toList.all fun c=>decide (c ∈ g.cps.toList)
noncomputable def Joe (z : Str) : Bool:=decide (1 ≤ z.length ∧ z.length ≤ 8) && Jtb LET z
structure Wd (n : Nat) (z : Str) : Prop where
 len : z.length ≤ n
 low : ∀ c ∈ z.cps.toList,c < 128
theorem Jwv (z : Str) : z.cps.toList.length = z.length:=Array.length_toList
theorem Jx4 : ∀ ys : List Str,(∀ y ∈ ys,Wd 1 y) → (ys.map (·.length)).sum ≤ ys.length
 | [],_=>Nat.le_refl _
 | y :: r,h=>by
  have h1:=(h y List.mem_cons_self).len;have ih:=Jx4 r fun z hz=>h z (List.mem_cons_of_mem _ hz);simp only [List.map_cons,List.sum_cons,List.length_cons];omega
theorem Jvp {g : Str} {r : Int} (h0 : 0 ≤ r) (h1 : r < g.length) : ∃ c,c ∈ g.cps.toList ∧ atI g.cps.toList r = some c:=by
 obtain ⟨n,rfl⟩:=Int.eq_ofNat_of_zero_le h0;have hn : n < g.cps.toList.length:=by rw [Jwv]; omega
 exact ⟨g.cps.toList[n],List.getElem_mem hn,Jmu (List.getElem?_eq_getElem hn)⟩
theorem wd_lit {z : Str} {n : Nat} (h : (decide (z.length ≤ n) && z.cps.toList.all (fun c=>decide (c < 128))) = true) : Wd n z:=by
 rw [Bool.and_eq_true] at h;exact ⟨of_decide_eq_true h.1,fun c hc=>of_decide_eq_true (List.all_eq_true.mp h.2 c hc)⟩
theorem wd_let : Wd 26 LET:=wd_lit (by decide +kernel)
noncomputable def Jmr : V → Bool
 | .str z=>Joe z
 | _=>false
noncomputable def Nmd (K : W.Frag) (H : Hp) (x : V) : Prop:=Tm K H x ∧ ∀ z,x = .str z → Wd 50 z
noncomputable def spMade : Sp:=fun vs H Q _=>∃ z g : Str,vs = [.str z,.str g] ∧ z.length ≤ 2000 ∧ ∀ H', Same H H' → Q (.bl (Jtb g z)) H'
noncomputable def spName (K : W.Frag) : Sp:=fun vs H Q _=>∃ x : V,vs = [x] ∧ Nmd K H x ∧ ∀ H', Same H H' → Q (.bl (Jmr x)) H'
noncomputable def RfC (C : Addr) (H H' : Hp) (x : V) (c : Value) (eo : Option Addr) : Prop:=∃ e dx,c = .ref C ∧ eo = some e ∧ Same H H' ∧ H' e = some (XO e C (some dx) false) ∧ H' dx = some (XD dx [("thing",x)])
theorem RfC.of {C : Addr} {H H1 H' : Hp} {x : V} {c : Value} {eo : Option Addr} (s : Same H H1) (h : RfC C H1 H' x c eo) : RfC C H H' x c eo:=by
 obtain ⟨e,dx,h1,h2,h3,h4,h5⟩:=h;exact ⟨e,dx,h1,h2,s.trans h3,h4,h5⟩
theorem RfC.new {C : Addr} {H : Hp} {x : V} {e dx : Addr} (h1 : H e = none) (h2 : H dx = none) (ne : dx ≠ e) : RfC C H (upd (upd (upd H dx (XD dx [("thing",x)])) e (XO e C (some dx) true)) e (XO e C (some dx) false)) x (.ref C) (some e):=by
 refine ⟨e,dx,rfl,rfl,?_,Jk0,?_⟩
 ·rw [Jm1];intro b o q;rw [Jk7 (Jk8 q h1),Jk7 (Jk8 q h2)];exact q
 ·rw [Jk7 ne,Jk7 ne,Jk0]
noncomputable def Jy5 (K : W.Frag) (a : Ad) : Sp:=fun vs H Q E=>∃ (x : V) (lo hi : Int),vs = [x,.int lo,.int hi] ∧ Tm K H x ∧ ((Jkl x lo hi = true ∧ Q .non H) ∨ (Jkl x lo hi = false ∧ ∀ c eo H', RfC a.Jji H H' x c eo → E c eo H'))
inductive Due (n lo hi st rn g : V) (gb : Bool) : Option (Nat × V) → Prop
 | name : Jmr n = false → Due n lo hi st rn g gb (some (0,n))
 | low : Jmr n = true → Jkl lo 0 12 = false → Due n lo hi st rn g gb (some (1,lo))
 | high (l : Int) : Jmr n = true → lo = .int l → Jkl lo 0 12 = true → Jkl hi l 12 = false → Due n lo hi st rn g gb (some (1,hi))
 | start (l h : Int) : Jmr n = true → lo = .int l → hi = .int h → Jkl lo 0 12 = true → Jkl hi l 12 = true → Jkl st l h = false → Due n lo hi st rn g gb (some (1,st))
 | rain (l h : Int) : Jmr n = true → lo = .int l → hi = .int h → Jkl lo 0 12 = true → Jkl hi l 12 = true → Jkl st l h = true → Jkl rn 0 6 = false → Due n lo hi st rn g gb (some (1,rn))
 | gate (l h : Int) : Jmr n = true → lo = .int l → hi = .int h → Jkl lo 0 12 = true → Jkl hi l 12 = true → Jkl st l h = true → Jkl rn 0 6 = true → gb = false → Due n lo hi st rn g gb (some (2,g))
 | good (l h : Int) : Jmr n = true → lo = .int l → hi = .int h → Jkl lo 0 12 = true → Jkl hi l 12 = true → Jkl st l h = true → Jkl rn 0 6 = true → gb = true → Due n lo hi st rn g gb none
theorem Jns {x : V} {lo hi : Int} (h : Jkl x lo hi = true) : ∃ i,x = .int i:=by
 cases x with
 | int i=>exact ⟨i,rfl⟩
 | _=>cases h
inductive DueT (n b wt : V) : Option (Nat × V) → Prop
 | name : Jmr n = false → DueT n b wt (some (0,n))
 | basin : Jmr n = true → Jmr b = false → DueT n b wt (some (0,b))
 | want : Jmr n = true → Jmr b = true → Jkl wt 1 6 = false → DueT n b wt (some (3,wt))
 | good : Jmr n = true → Jmr b = true → Jkl wt 1 6 = true → DueT n b wt none
noncomputable def clsK (a : Ad) : Nat → Addr
 | 0=>a.Jjg
 | 1=>a.Jji
 | 2=>a.Jjh
 | _=>a.Jjj
noncomputable def GtI (K : W.Frag) (a : Ad) (H : Hp) (g : V) (gb : Bool) : Prop:=∃ t,TyX K H g t ∧ W.kitOne K t (.ref a.Jjr) = some gb ∧ W.kitAny K t [.ref a.Jjs,.ref a.Jjt,.ref a.Jju,.ref a.Jjv] = some gb ∧
 ∃ b,W.kitOne K t (.type "bool") = some b ∧ (gb = true → b = false) ∧ t ≠ .type "float"
noncomputable def basF (n lo hi st rn g : V) : List (Str × V):=[("name",n),("low",lo),("high",hi),("start",st),("rain",rn),("gate",g)]
noncomputable def twnF (n b wt : V) : List (Str × V):=[("name",n),("basin",b),("want",wt)]
noncomputable def Ends1 (a : Ad) (d : Option (Nat × V)) (H : Hp) (E : XK) (G : Prop) : Prop:=match d with
 | none=>G
 | some (k,x)=>∀ c eo H', RfC (clsK a k) H H' x c eo → E c eo H'
noncomputable def Ya8 (K : W.Frag) (a : Ad) : Sp:=fun vs H Q E=>∃ (p dx : Addr) (n lo hi st rn g : V) (gb : Bool) (d : Option (Nat × V)),vs = [.ref p,n,lo,hi,st,rn,g] ∧ H p = some (.ins a.Jjw dx []) ∧ Nmd K H n ∧ Tm K H lo ∧ Tm K H hi ∧ Tm K H st ∧ Tm K H rn ∧ GtI K a H g gb ∧ Due n lo hi st rn g gb d ∧
 Ends1 a d H E (∀ H', Same H H' → Q .non (upd H' p (.ins a.Jjw dx (basF n lo hi st rn g))))
noncomputable def spTown (K : W.Frag) (a : Ad) : Sp:=fun vs H Q E=>∃ (p dx : Addr) (n b wt : V) (d : Option (Nat × V)),vs = [.ref p,n,b,wt] ∧ H p = some (.ins a.Jjx dx []) ∧ Nmd K H n ∧ Nmd K H b ∧ Tm K H wt ∧ DueT n b wt d ∧
 Ends1 a d H E (∀ H', Same H H' → Q .non (upd H' p (.ins a.Jjx dx (twnF n b wt))))
theorem Nmd.same {K : W.Frag} {H H' : Hp} {x : V} (s : Same H H') (h : Nmd K H x) : Nmd K H' x:=⟨h.1.same s,h.2⟩
theorem Jqb {K : W.Frag} {H H' : Hp} {x : V} {t : Value} (s : Same H H') (h : TyX K H x t) : TyX K H' x t:=h.same (fun b o _ q=>s b o q) (fun b fs q=>s b _ q)
theorem GtI.same {K : W.Frag} {a : Ad} {H H' : Hp} {g : V} {gb : Bool} (s : Same H H') (h : GtI K a H g gb) : GtI K a H' g gb:=by obtain ⟨t,ty,r⟩:=h; exact ⟨t,Jqb s ty,r⟩
theorem ty_str {K : W.Frag} {H : Hp} {x : V} {t : Value} (h : TyX K H x t) (e : t = .type "str") : ∃ z,x = .str z:=by
 cases h with
 | exc=>cases e
 | of ty =>
  cases ty with
  | str z=>exact ⟨z,rfl⟩
  | ins=>cases e
  | non=>exact absurd (Value.type.inj e) (by decide)
  | bl=>exact absurd (Value.type.inj e) (by decide)
  | int=>exact absurd (Value.type.inj e) (by decide)
  | flt=>exact absurd (Value.type.inj e) (by decide)
  | lst=>exact absurd (Value.type.inj e) (by decide)
  | frz=>exact absurd (Value.type.inj e) (by decide)
  | tup=>exact absurd (Value.type.inj e) (by decide)
  | dK=>exact absurd (Value.type.inj e) (by decide)
  | dT=>exact absurd (Value.type.inj e) (by decide)
structure Bsn where
 z : Str
 lo : Int
 hi : Int
 st : Int
 rn : Int
 g : V
 n : Nat
noncomputable def BasAt (K : W.Frag) (a : Ad) (H : Hp) (o : Addr) (B : Bsn) : Prop:=∃ dx,H o = some (.ins a.Jjw dx (basF (.str B.z) (.int B.lo) (.int B.hi) (.int B.st) (.int B.rn) B.g)) ∧ GS K a H B.g B.n
theorem BasAt.same {K : W.Frag} {a : Ad} {H H' : Hp} {o : Addr} {B : Bsn} (s : Same H H') (h : BasAt K a H o B) : BasAt K a H' o B:=by obtain ⟨dx,h1,h2⟩:=h; exact ⟨dx,s _ _ h1,h2.same s⟩
structure Twn where
 z : Str
 b : Str
 wt : Int
noncomputable def TwnAt (a : Ad) (H : Hp) (o : Addr) (B : Twn) : Prop:=∃ dx,H o = some (.ins a.Jjx dx (twnF (.str B.z) (.str B.b) (.int B.wt)))
theorem TwnAt.same {a : Ad} {H H' : Hp} {o : Addr} {B : Twn} (s : Same H H') (h : TwnAt a H o B) : TwnAt a H' o B:=by obtain ⟨dx,h1⟩:=h; exact ⟨dx,s _ _ h1⟩
noncomputable def BasL (K : W.Frag) (a : Ad) (H : Hp) : List Addr → List Bsn → Prop
 | [],[]=>True
 | o :: os,B :: Bs=>BasAt K a H o B ∧ BasL K a H os Bs
 | _,_=>False
noncomputable def TwnL (a : Ad) (H : Hp) : List Addr → List Twn → Prop
 | [],[]=>True
 | o :: os,B :: Bs=>TwnAt a H o B ∧ TwnL a H os Bs
 | _,_=>False
theorem BasL.same {K : W.Frag} {a : Ad} {H H' : Hp} (s : Same H H') : ∀ {os : List Addr} {Bs : List Bsn},BasL K a H os Bs → BasL K a H' os Bs:=by
 intro os
 induction os with
 | nil=>
  intro Bs h;cases Bs with
  | nil=>exact True.intro
  | cons B Bs=>exact False.elim h
 | cons o os ih=>
  intro Bs h;cases Bs with
  | nil=>exact False.elim h
  | cons B Bs=>exact ⟨(And.left h).same s,ih (And.right h)⟩
theorem TwnL.same {a : Ad} {H H' : Hp} (s : Same H H') : ∀ {os : List Addr} {Bs : List Twn},TwnL a H os Bs → TwnL a H' os Bs:=by
 intro os
 induction os with
 | nil=>
  intro Bs h;cases Bs with
  | nil=>exact True.intro
  | cons B Bs=>exact False.elim h
 | cons o os ih=>
  intro Bs h;cases Bs with
  | nil=>exact False.elim h
  | cons B Bs=>exact ⟨(And.left h).same s,ih (And.right h)⟩
theorem BasL.len {K : W.Frag} {a : Ad} {H : Hp} : ∀ {os : List Addr} {Bs : List Bsn},BasL K a H os Bs → os.length = Bs.length
 | [],[],_=>rfl
 | _ :: _,_ :: _,⟨_,t⟩=>by rw [List.length_cons,List.length_cons,BasL.len t]
theorem TwnL.len {a : Ad} {H : Hp} : ∀ {os : List Addr} {Bs : List Twn},TwnL a H os Bs → os.length = Bs.length
 | [],[],_=>rfl
 | _ :: _,_ :: _,⟨_,t⟩=>by rw [List.length_cons,List.length_cons,TwnL.len t]
theorem BasL.get {K : W.Frag} {a : Ad} {H : Hp} : ∀ {os : List Addr} {Bs : List Bsn} {i : Nat} {v : V},BasL K a H os Bs → (os.map V.ref)[i]? = some v → ∃ o B,v = .ref o ∧ Bs[i]? = some B ∧ BasAt K a H o B:=by
 intro os
 induction os with
 | nil=>intro Bs i v h e; simp at e
 | cons o os ih=>
  intro Bs i v h e;cases Bs with
  | nil=>exact False.elim h
  | cons B Bs=>
   cases i with
   | zero=>exact ⟨o,B,by simpa using e.symm,rfl,And.left h⟩
   | succ i=>exact ih (Bs:=Bs) (i:=i) (And.right h) (by simpa using e)
theorem TwnL.get {a : Ad} {H : Hp} : ∀ {os : List Addr} {Bs : List Twn} {i : Nat} {v : V},TwnL a H os Bs → (os.map V.ref)[i]? = some v → ∃ o B,v = .ref o ∧ Bs[i]? = some B ∧ TwnAt a H o B:=by
 intro os
 induction os with
 | nil=>intro Bs i v h e; simp at e
 | cons o os ih=>
  intro Bs i v h e;cases Bs with
  | nil=>exact False.elim h
  | cons B Bs=>
   cases i with
   | zero=>exact ⟨o,B,by simpa using e.symm,rfl,And.left h⟩
   | succ i=>exact ih (Bs:=Bs) (i:=i) (And.right h) (by simpa using e)
noncomputable def Jzp (K : W.Frag) : Sp:=fun vs H Q _=>∃ (l : Addr) (zs : List Str),vs = [.ref l] ∧ SqL K H l (zs.map V.str) ∧ zs.length ≤ 2000 ∧ ∀ H', Same H H' → Q (.bl (decide ((uq zs).length = zs.length))) H'
noncomputable def Jzb (K : W.Frag) (a : Ad) : Sp:=fun vs H Q _=>∃ (l : Addr) (os : List Addr) (Bs : List Bsn),vs = [.ref l] ∧ H l = some (.lst (os.map V.ref)) ∧ BasL K a H os Bs ∧ (1 ≤ Bs.length ∧ Bs.length ≤ 16) ∧ (Bs.map (·.z)).Nodup ∧ ∀ H', Same H H' → Q (.bl true) H'
noncomputable def Yal (K : W.Frag) (a : Ad) : Sp:=fun vs H Q _=>∃ (l m : Addr) (os ts : List Addr) (Bs : List Bsn) (Ts : List Twn),vs = [.ref m,.ref l] ∧ H l = some (.lst (os.map V.ref)) ∧ BasL K a H os Bs ∧ Bs.length ≤ 16 ∧ H m = some (.lst (ts.map V.ref)) ∧ TwnL a H ts Ts ∧ Ts.length ≤ 3 ∧ (Ts.map (·.z)).Nodup ∧ (∀ t ∈ Ts,t.b ∈ Bs.map (·.z)) ∧ ∀ H', Same H H' → Q (.bl true) H'
section
variable {P : Program} {w : World} {K : W.Frag} {mg : Str → Option Value} {base : Heap} {a : Ad}
theorem Jpi : Jkb ["self","thing"] ["self","thing"] (Jk6 (Jk9 (top 4) 0)):=%[|0]
theorem Jmc (T : Tx K mg a) : FnOk P w K mg base CX0 1 a.Jf2 a.Jf3 ["self","thing"] (Jmn K "thing"):=by
 refine T.Jbj.fn.ok Jpi (fun vs H Q E h=>?_) (fun cdv A outer s H vs Q E hr h=>?_)
 ·obtain ⟨e,C,W,fI,y,rfl,_⟩:=h;rfl
 ·obtain ⟨e,C,W,fI,y,rfl,q,c,n,k⟩:=h;refine ⟨_,(Jk3 (Jmm (pv 0) (pv 1) rfl)),?_⟩;exact ⟨_,rfl,_,rfl,e,C,W,fI,true,rfl,q,c,n,k⟩
theorem Jvd : Jkb ["thing","low","high"] ["thing","low","high"] (Jk6 (top 16)):=%[|0]
theorem Jlf (T : Tx K mg a) : FnOk P w K mg base CX0 1 a.Jfk a.Jfl ["thing","low","high"] (Yan K):=by
 refine T.J0.fn.ok Jvd (fun vs H Q E h=>?_) (fun cdv A outer s H vs Q E hr h=>?_)
 ·obtain ⟨x,lo,hi,rfl,_⟩:=h;rfl
 ·obtain ⟨x,lo,hi,rfl,tm,k⟩:=h;refine ⟨_,(Jk2 (Jks (Jq4 (Jkq (Jka Jld (by rfl) T.Jao Jkk (Jjz (pv 0) (Jjz (Jlq (v:=.ty "bool") (by rfl) T.Jal Jts rfl) Jk1)))) (Jo0 (Jkp (Jkq (Jka Jld (by rfl) T.Jao Jkk (Jjz (pv 0) (Jjz (Jlq (v:=.ty "int") (by rfl) T.Jan Jqj rfl) Jk1))))))).pt (Jk3 (Jkd Jlx)) Jkg)
   (Jk3 (Jkd (Jsf Jo5 Jo5 (pv 1) (pv 0) (pv 2))))),?_⟩
  rcases tm with ⟨i,rfl⟩ | ⟨t,ty,ht⟩
  ·refine ⟨_,rfl,_,_,_,_,_,rfl,rfl,.of (.int i),(by rfl : W.kitOne K (.type "int") (.type "bool") = some false),_,rfl,Jl1 ⟨_,rfl,_,_,_,_,_,rfl,rfl,.of (.int i),(by rfl : W.kitOne K (.type "int") (.type "int") = some true),_,rfl,Jl1 ?_⟩⟩;refine ⟨_,rfl,_,rfl,_,_,rfl,rfl,_,rfl,?_⟩;have k' : Q (.bl (decide (lo ≤ i) && decide (i ≤ hi))) H:=k;by_cases h1 : lo ≤ i
   ·rw [decide_eq_true h1] at k' ⊢;exact Jlc ⟨_,rfl,_,_,rfl,rfl,by simpa using k'⟩
   ·rw [decide_eq_false h1] at k' ⊢;exact Jl1 (by simpa using k')
  ·rw [Yq ty ht] at k;have e:=tp_int (K:=K) ht;cases eb : (t == .type "bool") with
   | true =>
    rw [eb] at e;exact ⟨_,rfl,_,_,_,_,_,rfl,rfl,ty,e.2,_,rfl,Jlc (Jlc k)⟩
   | false =>
    rw [eb] at e;exact ⟨_,rfl,_,_,_,_,_,rfl,rfl,ty,e.2,_,rfl,Jl1 ⟨_,rfl,_,_,_,_,_,rfl,rfl,ty,e.1,_,rfl,Jlc k⟩⟩
theorem sc_are_marks : Jkb ["thing","lowest","least","mark"] ["thing","lowest"] (Jk6 (top 41)):=%[|0]
theorem Ju0 (T : Tx K mg a) : FnOk P w K mg base CX0 2 a.Jgq a.Jgr ["thing","lowest"] (spAre K):=by
 have G_is_whole:=%[Jlf|1];refine T.Jj.fn.ok sc_are_marks (fun vs H Q E h=>?_) (fun cdv A outer s H vs Q E hr h=>?_)
 ·obtain ⟨x,lo,b,rfl,_⟩:=h;rfl
 ·obtain ⟨x,lo,b,rfl,sh,k⟩:=h;refine ⟨_,(Jk2 (Jks (Jkp (Jkq (Jka Jru (by rfl) T.Jao Jkk (Jjz (pv 0) (Jjz (Jly (Jjz (Jlq (v:=.ty "list") (by rfl) T.Jaq Jmv rfl) (Jjz (Jlq (v:=.ty "tuple") (by rfl) T.Jax Jl3 rfl) Jk1))) Jk1))))) (Jk3 (Jkd Jlx)) Jkg)
   (Jk2 (Jks (Jkp (Jsk Jo5 Jo5 Jk4 (Jka Jkm (by rfl) T.Jap Jlh (Jjz (pv 0) Jk1)) (Jlb (by rfl) T.Jab (v:=.int 4) ⟨_,rfl⟩))) (Jk3 (Jkd Jlx)) Jkg)
   (Jk2 (Jki (i:=2) sc_are_marks.nd rfl (Or.inl rfl) (pv 1))
   (Jk2 (Jnh PassesOwn.never rfl (pi_seq (pv 0)) (Jkc (i:=3) sc_are_marks.nd rfl (Or.inl rfl)) (Jk2 (Jks (Jkp (Jkq (Jk5 T.J0 G_is_whole hr (by decide) (Jjz (pv 3) (Jjz (pv 2) (Jjz (Jlb (by rfl) T.Jac (v:=.int 12) ⟨_,rfl⟩) Jk1)))))) (Jk3 (Jkd Jlx)) Jkg)
    (Jk3 (Jki (i:=2) sc_are_marks.nd rfl (Or.inl rfl) (Jkh Jkv (pv 3) Jk4)))))
   (Jk3 (Jkd Jlx)))))),?_⟩
  cases sh with
  | @non t ty e =>
   refine ⟨_,rfl,(show 2 ≤ sizeLine by decide),fun p hp=>⟨_,p,_,_,t,_,rfl,Jk0,rfl,ty.same (fun b o _ q=>Same.upd hp b o q) (fun b fs q=>Same.upd hp b _ q),e,_,rfl,Jlc (k _ (Same.upd hp))⟩⟩
  | @seq xs sq tms =>
   obtain ⟨t,ty,_,e⟩:=sq.ty (K:=K);refine ⟨_,rfl,(show 2 ≤ sizeLine by decide),fun p hp=>⟨_,p,_,_,t,_,rfl,Jk0,rfl,ty.same (fun b o _ q=>Same.upd hp b o q) (fun b fs q=>Same.upd hp b _ q),e,_,rfl,Jl1 ?_⟩⟩;have s1:=Same.upd (o:=.tup [.ty "list",.ty "tuple"]) hp;have sq1:=sq.same s1;obtain ⟨q,rfl⟩ : ∃ q,x = .ref q:=by cases sq <;> exact ⟨_,rfl⟩
   have len : SqL K (upd H p (.tup [.ty "list",.ty "tuple"])) q xs ∨ SqT K (upd H p (.tup [.ty "list",.ty "tuple"])) q xs:=by
    cases sq1 with
    | lst e=>exact .inl (SqL.of e)
    | tup e=>exact .inr (SqT.of e)
   refine ⟨_,rfl,q,xs,rfl,len,_,_,rfl,rfl,_,rfl,?_⟩;have no : Jo6 lo xs = false → ∀ H', Same H H' → Q (.bl false) H':=fun z H' s'=>by
    have:=k H' s';rw [z] at this;exact this
   by_cases h1 : (1 : Int) ≤ (xs.length : Int)
   ·rw [decide_eq_true h1];refine Jlc ⟨_,_,rfl,rfl,_,rfl,?_⟩;by_cases h2 : (xs.length : Int) ≤ 4
    ·rw [decide_eq_true h2];refine Jl1 ⟨_,rfl,?_⟩;have lz : decide (1 ≤ xs.length ∧ xs.length ≤ 4) = true:=decide_eq_true (by omega);have ar : Jo6 lo xs = Jli lo xs:=by unfold Jo6; rw [lz,Bool.true_and]
     refine ⟨_,rfl,q,rfl,Yj (xs:=xs) (fun i σ H'=>∃ (l : Int) (o : Option V),σ = [some (.ref q),some (.int lo),some (.int l),o] ∧ H' = upd H p (.tup [.ty "list",.ty "tuple"]) ∧ Jli lo xs = Jli l (xs.drop i)) ⟨lo,_,rfl,rfl,rfl⟩ ?_ ?_ ?_⟩
     ·rcases len with z | z
      ·exact .inl fun i σ H' _ ⟨_,_,_,e,_⟩=>by rw [e]; exact z
      ·exact .inr fun i σ H' _ ⟨_,_,_,e,_⟩=>by rw [e]; exact z
     ·rintro i y σ H' hy ⟨l,o,rfl,rfl,em⟩;have hd : xs.drop i = y :: xs.drop (i + 1):=by
       obtain ⟨hi,rfl⟩:=List.getElem?_eq_some_iff.mp hy;exact List.drop_eq_getElem_cons hi
      refine ⟨_,rfl,_,rfl,y,l,12,rfl,(tms y (List.mem_of_getElem? hy)).same s1,_,rfl,?_⟩;cases z : Jkl y l 12 with
      | false =>
       refine Jlc (no ?_ _ s1);rw [ar,em,hd,Jr7,z,Bool.false_and]
      | true =>
       rw [hd,Jr7,z,Bool.true_and] at em;cases y with
       | int i'=>exact Jl1 ⟨_,rfl,_,_,rfl,rfl,i' + 1,_,rfl,rfl,em⟩
       | _=>cases z
     ·rintro σ H' ⟨l,o,rfl,rfl,em⟩;have e : Jo6 lo xs = true:=by rw [ar,em,List.drop_of_length_le (Nat.le_refl _)]; rfl
      have:=k _ s1;rw [e] at this;exact this
    ·rw [decide_eq_false h2];refine Jlc (no ?_ _ s1);unfold Jo6;rw [decide_eq_false (by omega : ¬ (1 ≤ xs.length ∧ xs.length ≤ 4)),Bool.false_and]
   ·rw [decide_eq_false h1];refine Jl1 ⟨_,rfl,Jlc (no ?_ _ s1)⟩;unfold Jo6;rw [decide_eq_false (by omega : ¬ (1 ≤ xs.length ∧ xs.length ≤ 4)),Bool.false_and]
end
section
variable {P : Program} {w : World} {K : W.Frag} {mg : Str → Option Value} {base : Heap} {a : Ad}
theorem Jt4 : Jkb ["marks","lowest"] ["marks","lowest"] (Jk6 (top 42)):=%[|0]
theorem Jne (T : Tx K mg a) : FnOk P w K mg base (CXX P w) 3 a.Jgs a.Jgt ["marks","lowest"] (spKept K a):=by
 have G_are_marks:=%[Ju0|1];have G_NoGate___init__:=%[Jmc|1];refine T.Jk.fn.okX Jt4 (fun vs H Q E h=>?_) (fun cdv A outer s H vs Q E hr h=>?_)
 ·obtain ⟨x,lo,rfl,_⟩:=h;rfl
 ·obtain ⟨x,lo,rfl,h⟩:=h;refine ⟨_,(Jk2 (Jks (Jkp (Jkq (Jk5 T.Jj G_are_marks hr (by decide) (Jjz (pv 0) (Jjz (pv 1) Jk1))))) (Jk3 (Jl4 Jl5 rfl (Jlr T.Jcd G_NoGate___init__ hr (by decide) T.Jbj.bd T.Jb0 (Jjz (pv 0) Jk1)))) Jkg)
   (Jk3 (Jkd (Jkr Jkw (by rfl) T.Jax Jl3 (Jjz (pv 0) Jk1))))),?_⟩
  rcases h with ⟨xs,sq,tms,e,k⟩ | ⟨sh,k⟩
  ·have sh:=Shp.seq (lo:=lo) sq tms;rw [e] at sh;refine ⟨_,rfl,_,rfl,x,lo,true,rfl,sh,fun H1 s1=>⟨_,rfl,Jl1 ?_⟩⟩;cases sq with
   | lst e=>exact ⟨_,rfl,_,xs,rfl,.inl ⟨SqL.of (s1 _ _ e),fun l hl=>k l _ (s1.trans (Same.upd hl)) Jk0⟩⟩
   | tup e=>exact ⟨_,rfl,_,xs,rfl,.inr ⟨SqT.of (s1 _ _ e),k _ _ s1 (s1 _ _ e)⟩⟩
  ·exact ⟨_,rfl,_,rfl,x,lo,false,rfl,sh,fun H1 s1=>⟨_,rfl,Jlc (Jll T.Jcd T.Jce rfl fun e dx h1 h2 h3=>k _ _ _ ((Rf.new h1 h2 h3).of s1))⟩⟩
theorem Jot : Jkb ["self","marks"] ["self","marks"] (Jk6 (Jk9 (top 45) 0)):=%[|0]
theorem Jqs (T : Tx K mg a) : FnOk P w K mg base (CXX P w) 4 a.Jgw a.Jgx ["self","marks"] (Jul K a 0):=by
 have G_kept_marks:=%[Jne|1];refine T.Jbv.fn.okX Jot (fun vs H Q E h=>?_) (fun cdv A outer s H vs Q E hr h=>?_)
 ·obtain ⟨p,C,dx,x,rfl,_⟩:=h;rfl
 ·obtain ⟨p,C,dx,x,rfl,hp,c,n,h⟩:=h;refine ⟨_,(Jk3 (Jl8 (pv 0) (Jm5 T.Jk G_kept_marks Jl5 hr (by decide) (Jjz (pv 1) (Jjz Jk4 Jk1))) rfl)),?_⟩;rcases h with ⟨xs,sq,tms,e,k⟩ | ⟨sh,k⟩
  ·exact ⟨_,rfl,x,0,rfl,.inl ⟨xs,sq,tms,e,fun t H' s' ht=>⟨_,rfl,p,C,dx,[],rfl,s' _ _ hp,c,n,by simp,k t H' s' ht⟩⟩⟩
  ·exact ⟨_,rfl,x,0,rfl,.inr ⟨sh,k⟩⟩
theorem Jou : Jkb ["self"] ["self"] (Jk6 (Jk9 (top 45) 1)):=%[|0]
theorem Joi (T : Tx K mg a) : FnOk P w K mg base CX0 1 a.Jgy a.Jgz ["self"] (Jzl a.Jjs):=by
 refine T.Jbw.fn.ok Jou (fun vs H Q E h=>?_) (fun cdv A outer s H vs Q E hr h=>?_)
 ·obtain ⟨p,xs,rfl,_⟩:=h;rfl
 ·obtain ⟨p,xs,rfl,⟨dx,t,h1,h2⟩,k⟩:=h;refine ⟨_,(Jk3 (Jkd (Jka Jkm (by rfl) T.Jap Jlh (Jjz (Jkn (pv 0) (by rfl)) Jk1)))),?_⟩;exact ⟨_,rfl,p,_,dx,_,_,rfl,h1,T.Jd4,T.Jda,rfl,t,xs,rfl,.inr (SqT.of h2),k⟩
theorem Jon : Jkb ["self","marks"] ["self","marks"] (Jk6 (Jk9 (top 46) 0)):=%[|0]
theorem Jqo (T : Tx K mg a) : FnOk P w K mg base (CXX P w) 4 a.Jh2 a.Jh3 ["self","marks"] (Jul K a 0):=by
 have G_kept_marks:=%[Jne|1];refine T.Jby.fn.okX Jon (fun vs H Q E h=>?_) (fun cdv A outer s H vs Q E hr h=>?_)
 ·obtain ⟨p,C,dx,x,rfl,_⟩:=h;rfl
 ·obtain ⟨p,C,dx,x,rfl,hp,c,n,h⟩:=h;refine ⟨_,(Jk3 (Jl8 (pv 0) (Jm5 T.Jk G_kept_marks Jl5 hr (by decide) (Jjz (pv 1) (Jjz Jk4 Jk1))) rfl)),?_⟩;rcases h with ⟨xs,sq,tms,e,k⟩ | ⟨sh,k⟩
  ·exact ⟨_,rfl,x,0,rfl,.inl ⟨xs,sq,tms,e,fun t H' s' ht=>⟨_,rfl,p,C,dx,[],rfl,s' _ _ hp,c,n,by simp,k t H' s' ht⟩⟩⟩
  ·exact ⟨_,rfl,x,0,rfl,.inr ⟨sh,k⟩⟩
theorem Joo : Jkb ["self"] ["self"] (Jk6 (Jk9 (top 46) 1)):=%[|0]
theorem Jof (T : Tx K mg a) : FnOk P w K mg base CX0 1 a.Jh4 a.Jh5 ["self"] (Jzl a.Jjt):=by
 refine T.Jbz.fn.ok Joo (fun vs H Q E h=>?_) (fun cdv A outer s H vs Q E hr h=>?_)
 ·obtain ⟨p,xs,rfl,_⟩:=h;rfl
 ·obtain ⟨p,xs,rfl,⟨dx,t,h1,h2⟩,k⟩:=h;refine ⟨_,(Jk3 (Jkd (Jka Jkm (by rfl) T.Jap Jlh (Jjz (Jkn (pv 0) (by rfl)) Jk1)))),?_⟩;exact ⟨_,rfl,p,_,dx,_,_,rfl,h1,T.Jdb,T.Jdh,rfl,t,xs,rfl,.inr (SqT.of h2),k⟩
theorem Jor : Jkb ["self","marks"] ["self","marks"] (Jk6 (Jk9 (top 47) 0)):=%[|0]
theorem Jqr (T : Tx K mg a) : FnOk P w K mg base (CXX P w) 4 a.Jh8 a.Jh9 ["self","marks"] (Jul K a 1):=by
 have G_kept_marks:=%[Jne|1];refine T.Jc1.fn.okX Jor (fun vs H Q E h=>?_) (fun cdv A outer s H vs Q E hr h=>?_)
 ·obtain ⟨p,C,dx,x,rfl,_⟩:=h;rfl
 ·obtain ⟨p,C,dx,x,rfl,hp,c,n,h⟩:=h;refine ⟨_,(Jk3 (Jl8 (pv 0) (Jm5 T.Jk G_kept_marks Jl5 hr (by decide) (Jjz (pv 1) (Jjz Jk4 Jk1))) rfl)),?_⟩;rcases h with ⟨xs,sq,tms,e,k⟩ | ⟨sh,k⟩
  ·exact ⟨_,rfl,x,1,rfl,.inl ⟨xs,sq,tms,e,fun t H' s' ht=>⟨_,rfl,p,C,dx,[],rfl,s' _ _ hp,c,n,by simp,k t H' s' ht⟩⟩⟩
  ·exact ⟨_,rfl,x,1,rfl,.inr ⟨sh,k⟩⟩
theorem Jos : Jkb ["self"] ["self"] (Jk6 (Jk9 (top 47) 1)):=%[|0]
theorem Joh (T : Tx K mg a) : FnOk P w K mg base CX0 1 a.Jha a.Jhb ["self"] (Jzl a.Jju):=by
 refine T.Jc2.fn.ok Jos (fun vs H Q E h=>?_) (fun cdv A outer s H vs Q E hr h=>?_)
 ·obtain ⟨p,xs,rfl,_⟩:=h;rfl
 ·obtain ⟨p,xs,rfl,⟨dx,t,h1,h2⟩,k⟩:=h;refine ⟨_,(Jk3 (Jkd (Jka Jkm (by rfl) T.Jap Jlh (Jjz (Jkn (pv 0) (by rfl)) Jk1)))),?_⟩;exact ⟨_,rfl,p,_,dx,_,_,rfl,h1,T.Jdi,T.Jdo,rfl,t,xs,rfl,.inr (SqT.of h2),k⟩
theorem Jo9 : Jkb ["self"] ["self"] (Jk6 (Jk9 (top 48) 1)):=%[|0]
theorem Jo7 (T : Tx K mg a) : FnOk P w K mg base CX0 1 a.Jhg a.Jhh ["self"] spOne:=by
 refine T.Jc5.fn.ok Jo9 (fun vs H Q E h=>?_) (fun cdv A outer s H vs Q E hr h=>?_)
 ·obtain ⟨x,rfl,_⟩:=h;rfl
 ·obtain ⟨x,rfl,k⟩:=h;refine ⟨_,(Jk3 (Jkd Jk4)),?_⟩;exact k
theorem Jm6 {j : Nat} {σ : L2.St} {H : Hp} {x : V} {n : Nat} {Q : VK} (T : Tx K mg a) (g : GS K a H x n) (k : Q (.int n) H) (hj : 1 ≤ j) :
  ∃ g' C dx fs f fd ps sp k', x = .ref g' ∧ H g' = some (.ins C dx fs) ∧ fs.lookup ("settings" : Str) = none ∧ Cls K C ∧ Jlv K C "settings" f ∧ FnOk P w K mg base CX0 k' f fd ps sp ∧ k' ≤ j ∧ Binds K fd ps [] ∧ Jt9 σ H fun vs H2=>sp (x :: vs) H2 Q E0:=by
 cases g with
 | @plain g C xs i ga l =>
  obtain ⟨dx,t,h1,h2⟩:=ga;rcases i with rfl | rfl | rfl
  ·exact ⟨g,_,dx,_,_,_,_,_,_,rfl,h1,rfl,T.Jd4,T.Jd8,Joi T,hj,T.Jbw.bd,g,xs,rfl,⟨dx,t,h1,h2⟩,k⟩
  ·exact ⟨g,_,dx,_,_,_,_,_,_,rfl,h1,rfl,T.Jdb,T.Jdf,Jof T,hj,T.Jbz.bd,g,xs,rfl,⟨dx,t,h1,h2⟩,k⟩
  ·exact ⟨g,_,dx,_,_,_,_,_,_,rfl,h1,rfl,T.Jdi,T.Jdm,Joh T,hj,T.Jc2.bd,g,xs,rfl,⟨dx,t,h1,h2⟩,k⟩
 | @stuck g dx x y h1=>exact ⟨g,_,dx,_,_,_,_,_,_,rfl,h1,rfl,T.Jdp,T.Jdt,Jo7 T,hj,T.Jc5.bd,_,rfl,k⟩
theorem GS.ty {H : Hp} {x : V} {n : Nat} (T : Tx K mg a) (g : GS K a H x n) : ∃ t,TyX K H x t ∧ W.kitOne K t (.ref a.Jjr) = some true:=by
 cases g with
 | plain i ga l =>
  obtain ⟨dx,t,h1,h2⟩:=ga;rcases i with rfl | rfl | rfl
  ·exact ⟨_,.of (T.Jd5.ty T.Jd4 h1),T.Jej⟩
  ·exact ⟨_,.of (T.Jdc.ty T.Jdb h1),T.Jek⟩
  ·exact ⟨_,.of (T.Jdj.ty T.Jdi h1),T.Jel⟩
 | stuck h1=>exact ⟨_,.of (T.Jdq.ty T.Jdp h1),T.Jem⟩
theorem put2 (x y : V) : Jlj ("setting" : Str) y [(("gate" : Str),x)] = [(("gate" : Str),x),(("setting" : Str),y)]:=by
 have h : ¬ (("gate" : Str) = "setting"):=by decide +kernel
 simp [Jlj,h]
theorem Jo8 : Jkb ["self","gate","setting"] ["self","gate","setting"] (Jk6 (Jk9 (top 48) 0)):=%[|0]
theorem Jpy (T : Tx K mg a) : FnOk P w K mg base (CXX P w) 4 a.Jhe a.Jhf ["self","gate","setting"] (Yaa K a):=by
 have G_is_whole:=%[Jlf|1];have G_NoGate___init__:=%[Jmc|1];refine T.Jc4.fn.okX Jo8 (fun vs H Q E h=>?_) (fun cdv A outer s H vs Q E hr h=>?_)
 ·obtain ⟨p,dx,x,y,rfl,_⟩:=h;rfl
 ·obtain ⟨p,dx,x,y,rfl,hp,h⟩:=h;refine ⟨_,(Jk2 (Jks (Jkp (Jkq (Jka Jld (by rfl) T.Jao Jkk (Jjz (pv 1) (Jjz (Jlb (by rfl) T.Jba (v:=.ref _) rfl) Jk1))))) (Jk3 (Jl4 Jl5 rfl (Jlr T.Jcd G_NoGate___init__ hr (by decide) T.Jbj.bd T.Jb0 (Jjz (pv 1) Jk1)))) Jkg)
   (Jk2 (Jks (Jkp (Jkq (Jk5 T.J0 G_is_whole hr (by decide) (Jjz (pv 2) (Jjz Jk4 (Jjz (Jkh Jla (Jqx (pv 1) hr) Jk4) Jk1)))))) (Jk3 (Jl4 Jl5 rfl (Jlr T.Jcd G_NoGate___init__ hr (by decide) T.Jbj.bd T.Jb0 (Jjz (pv 2) Jk1)))) Jkg)
   (Jk2 (Jl8 (pv 0) (pv 1) rfl)
   (Jk3 (Jl8 (pv 0) (pv 2) rfl))))),?_⟩
  rcases h with ⟨t,ty,e,k⟩ | ⟨n,g,tm,e,k⟩ | ⟨n,g,tm,e,k⟩
  ·exact ⟨_,rfl,x,_,_,t,_,rfl,rfl,ty,e,_,rfl,Jlc (Jll T.Jcd T.Jce rfl fun e dx h1 h2 h3=>k _ _ _ (Rf.new h1 h2 h3))⟩
  ·obtain ⟨t,ty,et⟩:=g.ty T;refine ⟨_,rfl,x,_,_,t,_,rfl,rfl,ty,et,_,rfl,Jl1 ⟨_,rfl,_,rfl,Jm6 T g ⟨_,_,rfl,rfl,y,0,(n : Int) - 1,rfl,tm,_,rfl,?_⟩ (by decide)⟩⟩;rw [e];exact Jlc (Jll T.Jcd T.Jce rfl fun e dx h1 h2 h3=>k _ _ _ (Rf.new h1 h2 h3))
  ·obtain ⟨t,ty,et⟩:=g.ty T;refine ⟨_,rfl,x,_,_,t,_,rfl,rfl,ty,et,_,rfl,Jl1 ⟨_,rfl,_,rfl,Jm6 T g ⟨_,_,rfl,rfl,y,0,(n : Int) - 1,rfl,tm,_,rfl,?_⟩ (by decide)⟩⟩;rw [e];refine Jl1 ⟨_,rfl,_,rfl,p,_,dx,[],rfl,hp,T.Jdp,T.Jdv,by simp,_,rfl,_,rfl,p,_,dx,_,rfl,Jk0,T.Jdp,T.Jdw,by simp [Jlj],?_⟩;show Q .non _;rw [Jm1];exact put2 x y ▸ k
end
section
variable {P : Program} {w : World} {K : W.Frag} {mg : Str → Option Value} {base : Heap} {a : Ad}
theorem Jve : Jkb ["_law_script","_law_k"] ["_law_script","_law_k"] (Jk6 (top 64)):=%[|0]
theorem Jv3 (T : Tx K mg a) : FnOk P w K mg base CX0 1 a.Ji0 a.Ji1 ["_law_script","_law_k"] (spCell K):=by
 refine T.Jp.fn.ok Jve (fun vs H Q E h=>?_) (fun cdv A outer s H vs Q E hr h=>?_)
 ·obtain ⟨x,ns,i,rfl,_⟩:=h;rfl
 ·obtain ⟨x,ns,i,rfl,hS,k⟩:=h;refine ⟨_,(Jk2 (Jks (Jl6 Jz0 (pv 1) (Jka Jkm (by rfl) T.Jap Jlh (Jjz (pv 0) Jk1)) (Jkt _)) (Jk3 (Jkd (Jke Jky (pv 0) (pv 1) (fun _ _=>rfl)))) Jkg)
   (Jk3 (Jkd (Jkh Jkv (Jkh Jok Jk4 (pv 1)) Jk4)))),?_⟩
  refine ⟨_,rfl,_,rfl,x,_,rfl,.inl hS,_,_,rfl,rfl,_,rfl,ite2 (fun q=>?_) (fun q=>?_)⟩
  ·have hi : i < ns.length:=by
    have q':=of_decide_eq_true q;rw [List.length_map] at q';omega
   exact ⟨_,rfl,_,rfl,x,_,_,_,rfl,rfl,hS,Jmj hi,k _⟩
  ·exact ⟨_,rfl,_,_,rfl,rfl,.inl ⟨by decide,by decide⟩,_,_,rfl,rfl,k _⟩
theorem Jt6 : Jkb ["_law_cell_here"] ["_law_cell_here"] (Jk6 (top 65)):=%[|0]
theorem Jp8 (T : Tx K mg a) : FnOk P w K mg base CX0 1 a.Ji2 a.Ji3 ["_law_cell_here"] Jzm:=by
 refine T.Jq.fn.ok Jt6 (fun vs H Q E h=>?_) (fun cdv A outer s H vs Q E hr h=>?_)
 ·obtain ⟨c,rfl,_⟩:=h;rfl
 ·obtain ⟨c,rfl,k⟩:=h;refine ⟨_,(Jk3 (Jkd (Jnf (Jjz (Jka (Jmf rfl) (by rfl) T.Jar Jpb (Jjz Jk4 (Jjz (Jkh Jla (pv 0) (Jkh op_pow Jk4 Jk4)) Jk1))) (Jjz (Jkh Joj (pv 0) Jk4) (Jjz Jk4 Jk1)))))),?_⟩;refine ⟨_,rfl,_,_,rfl,rfl,⟨by decide,by decide,by decide⟩,_,_,rfl,rfl,_,_,rfl,_,rfl,_,_,rfl,rfl,(by show (0 : Int) < 2147483647; decide),Jmy _ (by show 3 ≤ 2000; decide),fun p hp=>?_⟩;exact k p _ hp (Same.upd hp) ⟨_,_,_,Jk0⟩
theorem sc_law_take : Jkb ["_law_stream_here","_law_many","_law_digit","_law_number"] ["_law_stream_here","_law_many"] (Jk6 (top 66)):=%[|0]
theorem Jlw (T : Tx K mg a) : FnOk P w K mg base CX0 1 a.Ji4 a.Ji5 ["_law_stream_here","_law_many"] spTake:=by
 refine T.Jr.fn.ok sc_law_take (fun vs H Q E h=>?_) (fun cdv A outer s H vs Q E hr h=>?_)
 ·obtain ⟨p,m,rfl,_⟩:=h;rfl
 ·obtain ⟨p,m,rfl,⟨a0,b0,c0,hp⟩,hm,hl,k⟩:=h;refine ⟨_,(Jk2 (Jng (Jkh Jkv (Jke Jky (pv 0) Jk4 (fun _ _=>rfl)) Jk4) (Jqy (pv 0) Jk4 Jn6))
   (Jk2 (Jks (Jl6 Jsd (Jke Jky (pv 0) Jk4 (fun _ _=>rfl)) Jk4 (Jkt _)) (Jk2 (Jki (i:=2) sc_law_take.nd rfl (Or.inl rfl) (Jkh Joj (Jke Jky (pv 0) Jk4 (fun _ _=>rfl)) (pv 1)))
    (Jk2 (Jng (Jkh Jq0 (Jke Jky (pv 0) Jk4 (fun _ _=>rfl)) (pv 1)) (Jqy (pv 0) Jk4 Jn6))
    (Jk3 (Jkd (pv 2))))) Jkg)
   (Jk2 (Jki (i:=3) sc_law_take.nd rfl (Or.inl rfl) (Jkh Joj (Jkh Jok (Jkh Jkv (Jke Jky (pv 0) Jk4 (fun _ _=>rfl)) (Jkh Jok Jk4 (Jke Jky (pv 0) Jk4 (fun _ _=>rfl)))) Jk4) Jk4))
   (Jk2 (Jki (i:=3) sc_law_take.nd rfl (Or.inl rfl) (Jkh Joj (Jkh Jok (pv 3) (pv 3)) Jk4))
   (Jk3 (Jkd (Jkh Joj (Jkh Jq0 (Jkh Joj (Jkh Jkv (Jkh Jok (pv 3) (Jkh Jkv (pv 3) Jk4)) (Jkh Jok Jk4 (Jke Jky (pv 0) Jk4 (fun _ _=>rfl)))) Jk4) Jk4) (pv 1)))))))),?_⟩
  refine ⟨_,rfl,p,_,_,_,rfl,rfl,SqL.of hp,rfl,_,_,rfl,rfl,_,rfl,p,_,_,_,rfl,rfl,hp,rfl,?_⟩;refine ⟨_,rfl,p,_,_,_,rfl,rfl,SqL.of Jk0,rfl,_,_,rfl,rfl,_,rfl,ite2 (fun _=>?_) (fun _=>?_)⟩
  ·refine ⟨_,rfl,p,_,_,_,rfl,rfl,SqL.of Jk0,rfl,_,rfl,_,_,rfl,rfl,hm,?_⟩;refine ⟨_,rfl,p,_,_,_,rfl,rfl,SqL.of Jk0,rfl,_,rfl,_,_,rfl,rfl,⟨hm,hl⟩,_,rfl,p,_,_,_,rfl,rfl,Jk0,rfl,?_⟩;refine ⟨_,rfl,k _ _ (Int.emod_nonneg _ (by omega)) (Int.emod_lt_of_pos _ hm) ⟨fun b o ne e=>?_,_,_,_,Jk0⟩⟩;rw [Jk7 ne,Jk7 ne];exact e
  ·refine ⟨_,rfl,p,_,_,_,rfl,rfl,SqL.of Jk0,rfl,_,rfl,p,_,_,_,rfl,rfl,SqL.of Jk0,rfl,_,_,rfl,rfl,.inl ⟨by decide,by decide⟩,_,_,rfl,rfl,_,_,rfl,rfl,.inr ⟨by decide,by decide⟩,_,_,rfl,rfl,(by show (0 : Int) < 2147483629; decide),?_⟩;have n1 : ∀ x : Int,-(2 ^ 64) < x % 2147483629 ∧ x % 2147483629 < 2 ^ 64:=fun x=>by
    have h1:=Int.emod_nonneg x (show (2147483629 : Int) ≠ 0 by decide);have h2:=Int.emod_lt_of_pos x (show (0 : Int) < 2147483629 by decide);constructor <;> omega
   have n2 : ∀ x : Int,-(2 ^ 64) < x % 2147483587 ∧ x % 2147483587 < 2 ^ 64:=fun x=>by
    have h1:=Int.emod_nonneg x (show (2147483587 : Int) ≠ 0 by decide);have h2:=Int.emod_lt_of_pos x (show (0 : Int) < 2147483587 by decide);constructor <;> omega
   refine ⟨_,rfl,_,rfl,_,_,rfl,rfl,.inl (n1 _),_,_,rfl,rfl,(by show (0 : Int) < 2147483587; decide),?_⟩;refine ⟨_,rfl,_,rfl,_,_,rfl,rfl,_,_,rfl,rfl,.inl (n2 _),_,rfl,p,_,_,_,rfl,rfl,SqL.of Jk0,rfl,_,_,rfl,rfl,.inl ⟨by decide,by decide⟩,_,_,rfl,rfl,_,_,rfl,rfl,(by show (0 : Int) < 2147483647; decide),_,_,rfl,rfl,⟨by decide,by decide⟩,_,rfl,_,_,rfl,rfl,hm,?_⟩;refine k _ _ (Int.emod_nonneg _ (by omega)) (Int.emod_lt_of_pos _ hm) ⟨fun b o ne e=>?_,_,_,_,Jk0⟩;rw [Jk7 ne];exact e
end
section
variable {P : Program} {w : World} {K : W.Frag} {mg : Str → Option Value} {base : Heap} {a : Ad}
theorem Jpj : Jkb ["self","thing"] ["self","thing"] (Jk6 (Jk9 (top 3) 0)):=%[|0]
theorem Jog (T : Tx K mg a) : FnOk P w K mg base CX0 1 a.Jf0 a.Jf1 ["self","thing"] (Jmn K "thing"):=by
 refine T.Jbi.fn.ok Jpj (fun vs H Q E h=>?_) (fun cdv A outer s H vs Q E hr h=>?_)
 ·obtain ⟨e,C,W,fI,y,rfl,_⟩:=h;rfl
 ·obtain ⟨e,C,W,fI,y,rfl,q,c,n,k⟩:=h;refine ⟨_,(Jk3 (Jmm (pv 0) (pv 1) rfl)),?_⟩;exact ⟨_,rfl,_,rfl,e,C,W,fI,true,rfl,q,c,n,k⟩
theorem Joz : Jkb ["self","thing"] ["self","thing"] (Jk6 (Jk9 (top 5) 0)):=%[|0]
theorem Jrh (T : Tx K mg a) : FnOk P w K mg base CX0 1 a.Jf4 a.Jf5 ["self","thing"] (Jmn K "thing"):=by
 refine T.Jbk.fn.ok Joz (fun vs H Q E h=>?_) (fun cdv A outer s H vs Q E hr h=>?_)
 ·obtain ⟨e,C,W,fI,y,rfl,_⟩:=h;rfl
 ·obtain ⟨e,C,W,fI,y,rfl,q,c,n,k⟩:=h;refine ⟨_,(Jk3 (Jmm (pv 0) (pv 1) rfl)),?_⟩;exact ⟨_,rfl,_,rfl,e,C,W,fI,true,rfl,q,c,n,k⟩
theorem Jpl : Jkb ["self","thing"] ["self","thing"] (Jk6 (Jk9 (top 6) 0)):=%[|0]
theorem Js8 (T : Tx K mg a) : FnOk P w K mg base CX0 1 a.Jf6 a.Jf7 ["self","thing"] (Jmn K "thing"):=by
 refine T.Jbl.fn.ok Jpl (fun vs H Q E h=>?_) (fun cdv A outer s H vs Q E hr h=>?_)
 ·obtain ⟨e,C,W,fI,y,rfl,_⟩:=h;rfl
 ·obtain ⟨e,C,W,fI,y,rfl,q,c,n,k⟩:=h;refine ⟨_,(Jk3 (Jmm (pv 0) (pv 1) rfl)),?_⟩;exact ⟨_,rfl,_,rfl,e,C,W,fI,true,rfl,q,c,n,k⟩
theorem Jt3 : Jkb ["text","signs"] ["text","signs"] (Jk6 (top 17)):=%[|0]
theorem Jsx (T : Tx K mg a) : FnOk P w K mg base CX0 1 a.Jfm a.Jfn ["text","signs"] spMade:=by
 refine T.J1.fn.ok Jt3 (fun vs H Q E h=>?_) (fun cdv A outer s H vs Q E hr h=>?_)
 ·obtain ⟨z,g,rfl,_⟩:=h;rfl
 ·obtain ⟨z,g,rfl,hz,k⟩:=h;refine ⟨_,(Jk3 (Jkd (Jka (Jnk rfl) (by rfl) T.Jak Jqi (Jjz (Jkz (N:=(["sign","signs"] : List Str)) (ini:=[none,some 1]) rfl (pi_str (pv 0)) (fun _ _ _ _ _=>(Jkc (i:=0) (by decide +kernel : (["sign","signs"] : List Str).Nodup) rfl (Or.inl rfl))) (fun _ _ _ _ _=>Jkx) (fun _ _ _ _ _=>(Jlk Jxs (pv 0) (pv 1) (by with_unfolding_all rfl)))) Jk1)))),?_⟩;refine ⟨_,rfl,z,rfl,fun D hD=>?_⟩;refine Jyi (z:=z) (D:=D) (fun i σ H'=>∃ o,σ = [o,some (.str g)] ∧ H' = upd H D (.lst ((z.cps.toList.take i).map fun c=>V.bl (decide (c ∈ g.cps.toList))))) ?_ ?_ ?_
  ·exact ⟨none,rfl,rfl⟩
  ·rintro i c σ H' hc ⟨o,rfl,rfl⟩;refine Jlm ⟨_,rfl,_,rfl,⟨#[c]⟩,g,rfl,rfl,_,Jk0,?_,_,rfl,?_⟩
   ·rw [List.length_map,List.length_take,Jwv];exact Jl0 (by omega)
   ·rw [Jm1,StrLaws.found_one];have e : z.cps.toList[i]? = some c:=by simpa using hc
    rw [List.take_add_one,e];simp
  ·rintro σ H' ⟨o,rfl,rfl⟩;have e : z.cps.toList.take z.cps.size = z.cps.toList:=List.take_of_length_le (by simp);refine ⟨D,z.cps.toList.map fun c=>decide (c ∈ g.cps.toList),rfl,SqL.of (by rw [Jk0,e,List.map_map]; rfl),?_⟩;have e2 : (z.cps.toList.map fun c=>decide (c ∈ g.cps.toList)).all id = Jtb g z:=by
    unfold Jtb;rw [List.all_map];rfl
   rw [e2];exact k _ (Same.upd hD)
theorem Yr {H : Hp} {x : V} (h : Tm K H x) (n : ∀ z,x ≠ .str z) : ∃ t,TyX K H x t ∧ W.kitOne K t (.type "str") = some false:=by
 rcases h with ⟨i,rfl⟩ | ⟨t,ty,ht⟩
 ·exact ⟨_,.of (.int i),rfl⟩
 ·refine ⟨t,ty,?_⟩;unfold tpB at ht;simp only [List.contains_cons,List.contains_nil,Bool.or_false,Bool.or_eq_true,beq_iff_eq] at ht;rcases ht with rfl | rfl | rfl | rfl | rfl | rfl
  ·rfl
  ·obtain ⟨z,e⟩:=ty_str ty rfl;exact absurd e (n z)
  ·rfl
  ·rfl
  ·rfl
  ·rfl
theorem Jw8 : Jkb ["thing"] ["thing"] (Jk6 (top 18)):=%[|0]
theorem Jsa (T : Tx K mg a) : FnOk P w K mg base CX0 2 a.Jfo a.Jfp ["thing"] (spName K):=by
 have G_is_made_of:=%[Jsx|1];refine T.J2.fn.ok Jw8 (fun vs H Q E h=>?_) (fun cdv A outer s H vs Q E hr h=>?_)
 ·obtain ⟨x,rfl,_⟩:=h;rfl
 ·obtain ⟨x,rfl,nm,k⟩:=h;refine ⟨_,(Jk2 (Jks (Jkp (Jkq (Jka Jld (by rfl) T.Jao Jkk (Jjz (pv 0) (Jjz (Jlq (v:=.ty "str") (by rfl) T.Jav bt_str rfl) Jk1))))) (Jk3 (Jkd Jlx)) Jkg)
   (Jk3 (Jkd (Ju9 (Jsf Jo5 Jo5 Jk4 (Jka Jtt (by rfl) T.Jap Jlh (Jjz (pv 0) Jk1)) (Jlb (by rfl) T.Jaa (v:=.int 8) ⟨_,rfl⟩)) (Jua (Jk5 T.J1 G_is_made_of hr (by decide) (Jjz (pv 0) (Jjz (Jlb (by rfl) T.Ja9 (v:=.str "abcdefghijklmnopqrstuvwxyz") ⟨_,rfl⟩) Jk1)))))))),?_⟩
  by_cases hx : ∃ z,x = .str z
  ·obtain ⟨z,rfl⟩:=hx;have k : ∀ H', Same H H' → Q (.bl (Joe z)) H':=k;have hz : z.length ≤ 2000:=by have:=(nm.2 z rfl).len; omega
   refine ⟨_,rfl,_,_,_,_,_,rfl,rfl,.of (.str z),(by rfl : W.kitOne K (.type "str") (.type "str") = some true),_,rfl,Jl1 ?_⟩;refine ⟨_,rfl,z,rfl,Jmy _ hz,_,_,rfl,rfl,_,rfl,?_⟩;have no : ¬ (1 ≤ z.length ∧ z.length ≤ 8) → Q (.bl false) H:=fun q=>by
    have k':=k H (Same.refl H);unfold Joe at k';rw [decide_eq_false q,Bool.false_and] at k';exact k'
   by_cases h1 : (1 : Int) ≤ (z.length : Int)
   ·rw [decide_eq_true h1];refine Jlc ⟨_,_,rfl,rfl,_,rfl,?_⟩;by_cases h2 : (z.length : Int) ≤ 8
    ·rw [decide_eq_true h2];refine Jlc ⟨_,rfl,z,_,rfl,hz,fun H' s'=>?_⟩;have e : Joe z = Jtb LET z:=by
      unfold Joe;rw [decide_eq_true (by omega : 1 ≤ z.length ∧ z.length ≤ 8),Bool.true_and]
     have k':=k H' s';rw [e] at k';exact k'
    ·rw [decide_eq_false h2];exact Jl1 (no (by omega))
   ·rw [decide_eq_false h1];exact Jl1 ⟨_,rfl,Jl1 (no (by omega))⟩
  ·obtain ⟨t,ty,e1⟩:=Yr nm.1 fun z e=>hx ⟨z,e⟩;have k':=k H (Same.refl H);have e : Jmr x = false:=by
    cases x with
    | str z=>exact absurd ⟨z,rfl⟩ hx
    | _=>rfl
   rw [e] at k';exact ⟨_,rfl,_,_,_,_,_,rfl,rfl,ty,e1,_,rfl,Jlc k'⟩
theorem Jpo : Jkb ["thing","low","high"] ["thing","low","high"] (Jk6 (top 56)):=%[|0]
theorem Jpg (T : Tx K mg a) : FnOk P w K mg base (CXX P w) 3 a.Jhk a.Jhl ["thing","low","high"] (Jy5 K a):=by
 have G_is_whole:=%[Jlf|1];have G_NoBasin___init__:=%[Jrh|1];refine T.Jl.fn.okX Jpo (fun vs H Q E h=>?_) (fun cdv A outer s H vs Q E hr h=>?_)
 ·obtain ⟨x,lo,hi,rfl,_⟩:=h;rfl
 ·obtain ⟨x,lo,hi,rfl,tm,h⟩:=h;refine ⟨_,(Jk3 (Jks (Jkp (Jkq (Jk5 T.J0 G_is_whole hr (by decide) (Jjz (pv 0) (Jjz (pv 1) (Jjz (pv 2) Jk1)))))) (Jk3 (Jl4 Jl5 rfl (Jlr T.Jcf G_NoBasin___init__ hr (by decide) T.Jbk.bd T.Jb1 (Jjz (pv 0) Jk1)))) Jkg)),?_⟩;refine ⟨_,rfl,_,rfl,_,rfl,x,lo,hi,rfl,tm,_,rfl,?_⟩;rcases h with ⟨e,k⟩ | ⟨e,k⟩
  ·rw [e];exact Jl1 k
  ·rw [e];exact Jlc (Jll T.Jcf T.Jcg rfl fun e dx h1 h2 h3=>k _ _ _ (RfC.new h1 h2 h3))
end
section
variable {P : Program} {w : World} {K : W.Frag} {mg : Str → Option Value} {base : Heap} {a : Ad}
theorem Jl7 {f : Str} {v : V} : ∀ {fs : List (Str × V)},(fs.map (·.1)).contains f = false → Jlj f v fs = fs ++ [(f,v)]
 | [],_=>rfl
 | (g,x) :: r,h=>by
  rw [List.map_cons,List.contains_cons,Bool.or_eq_false_iff] at h;have ne : ¬ g = f:=fun e=>by
   have:=h.1;rw [e] at this;simp at this
  show (if g = f then (g,v) :: r else (g,x) :: Jlj f v r) = _;rw [if_neg ne,Jl7 h.2];rfl
theorem Jq5 : Jkb ["self","name","low","high","start","rain","gate"] ["self","name","low","high","start","rain","gate"] (Jk6 (Jk9 (top 57) 0)):=%[|0]
theorem Jsu (T : Tx K mg a) : FnOk P w K mg base (CXX P w) 4 a.Jhm a.Jhn ["self","name","low","high","start","rain","gate"] (Ya8 K a):=by
 have G_is_name:=%[Jsa|1];have G_refuse_no_level:=%[Jpg|1];have G_NoName___init__:=%[Jog|1];have G_NoGate___init__:=%[Jmc|1];refine T.Jc7.fn.okX Jq5 (fun vs H Q E h=>?_) (fun cdv A outer s H vs Q E hr h=>?_)
 ·obtain ⟨p,dx,n,lo,hi,st,rn,g,gb,d,rfl,_⟩:=h;rfl
 ·obtain ⟨p,dx,n,lo,hi,st,rn,g,gb,d,rfl,hp,nm,tlo,thi,tst,trn,gt,du,k⟩:=h;refine ⟨?t,?B,?C⟩
  case B =>
   refine' Jk2 (Jks (Jkp (Jkq (Jk5 T.J2 G_is_name hr (by decide) (Jjz (pv 1) Jk1)))) (Jk3 (Jl4 Jl5 rfl (Jlr T.Jcb G_NoName___init__ hr (by decide) T.Jbi.bd T.Jaz (Jjz (pv 1) Jk1)))) Jkg) ?_
   rotate_left
   refine' Jk2 (Jml (Jm5 T.Jl G_refuse_no_level Jl5 hr (by decide) (Jjz (pv 2) (Jjz Jk4 (Jjz (Jlb (by rfl) T.Jae (v:=.int 12) ⟨_,rfl⟩) Jk1))))) ?_
   rotate_left
   refine' Jk2 (Jml (Jm5 T.Jl G_refuse_no_level Jl5 hr (by decide) (Jjz (pv 3) (Jjz (pv 2) (Jjz (Jlb (by rfl) T.Jae (v:=.int 12) ⟨_,rfl⟩) Jk1))))) ?_
   rotate_left
   refine' Jk2 (Jml (Jm5 T.Jl G_refuse_no_level Jl5 hr (by decide) (Jjz (pv 4) (Jjz (pv 2) (Jjz (pv 3) Jk1))))) ?_
   rotate_left
   refine' Jk2 (Jml (Jm5 T.Jl G_refuse_no_level Jl5 hr (by decide) (Jjz (pv 5) (Jjz Jk4 (Jjz (Jlb (by rfl) T.Jaf (v:=.int 6) ⟨_,rfl⟩) Jk1))))) ?_
   rotate_left
   refine' Jk2 (Jks (Jkp (Jkq (Jka Jld (by rfl) T.Jao Jkk (Jjz (pv 6) (Jjz (Jlb (by rfl) T.Jba (v:=.ref _) rfl) Jk1))))) (Jk3 (Jl4 Jl5 rfl (Jlr T.Jcd G_NoGate___init__ hr (by decide) T.Jbj.bd T.Jb0 (Jjz (pv 6) Jk1)))) Jkg) ?_
   rotate_left
   refine' Jk2 (Jl8 (pv 0) (pv 1) rfl) ?_
   rotate_left
   refine' Jk2 (Jl8 (pv 0) (pv 2) rfl) ?_
   rotate_left
   refine' Jk2 (Jl8 (pv 0) (pv 3) rfl) ?_
   rotate_left
   refine' Jk2 (Jl8 (pv 0) (pv 4) rfl) ?_
   rotate_left
   refine' Jk2 (Jl8 (pv 0) (pv 5) rfl) ?_
   rotate_left
   exact (Jk3 (Jl8 (pv 0) (pv 6) rfl))
  refine ⟨_,rfl,n,rfl,nm,fun H1 s1=>⟨_,rfl,?_⟩⟩;cases du with
  | name e =>
   rw [e];exact Jlc (Jll T.Jcb T.Jcc rfl fun e dx h1 h2 h3=>k _ _ _ ((RfC.new h1 h2 h3).of s1))
  | low e1 e2 =>
   rw [e1];exact Jl1 ⟨_,rfl,lo,0,12,rfl,tlo.same s1,.inr ⟨e2,fun c eo H' rf=>k c eo H' (rf.of s1)⟩⟩
  | high l e1 e2 e3 e4 =>
   subst e2;rw [e1];refine Jl1 ⟨_,rfl,_,0,12,rfl,tlo.same s1,.inl ⟨e3,?_⟩⟩;exact ⟨_,rfl,_,rfl,hi,l,12,rfl,thi.same s1,.inr ⟨e4,fun c eo H' rf=>k c eo H' (rf.of s1)⟩⟩
  | start l h e1 e2 e3 e4 e5 e6 =>
   subst e2 e3;rw [e1];refine Jl1 ⟨_,rfl,_,0,12,rfl,tlo.same s1,.inl ⟨e4,?_⟩⟩;refine ⟨_,rfl,_,rfl,_,l,12,rfl,thi.same s1,.inl ⟨e5,?_⟩⟩;exact ⟨_,rfl,_,rfl,_,rfl,st,l,h,rfl,tst.same s1,.inr ⟨e6,fun c eo H' rf=>k c eo H' (rf.of s1)⟩⟩
  | rain l h e1 e2 e3 e4 e5 e6 e7 =>
   subst e2 e3;rw [e1];refine Jl1 ⟨_,rfl,_,0,12,rfl,tlo.same s1,.inl ⟨e4,?_⟩⟩;refine ⟨_,rfl,_,rfl,_,l,12,rfl,thi.same s1,.inl ⟨e5,?_⟩⟩;refine ⟨_,rfl,_,rfl,_,rfl,st,l,h,rfl,tst.same s1,.inl ⟨e6,?_⟩⟩;exact ⟨_,rfl,rn,0,6,rfl,trn.same s1,.inr ⟨e7,fun c eo H' rf=>k c eo H' (rf.of s1)⟩⟩
  | gate l h e1 e2 e3 e4 e5 e6 e7 e8 =>
   subst e2 e3 e8;obtain ⟨t,ty,g1,g2,g3⟩:=gt;rw [e1];refine Jl1 ⟨_,rfl,_,0,12,rfl,tlo.same s1,.inl ⟨e4,?_⟩⟩;refine ⟨_,rfl,_,rfl,_,l,12,rfl,thi.same s1,.inl ⟨e5,?_⟩⟩;refine ⟨_,rfl,_,rfl,_,rfl,st,l,h,rfl,tst.same s1,.inl ⟨e6,?_⟩⟩;refine ⟨_,rfl,rn,0,6,rfl,trn.same s1,.inl ⟨e7,?_⟩⟩;exact ⟨_,rfl,g,_,_,t,_,rfl,rfl,Jqb s1 ty,g1,_,rfl,Jlc (Jll T.Jcd T.Jce rfl fun e dx h1 h2 h3=>k _ _ _ ((RfC.new h1 h2 h3).of s1))⟩
  | good l h e1 e2 e3 e4 e5 e6 e7 e8 =>
   subst e2 e3 e8;obtain ⟨t,ty,g1,g2,g3⟩:=gt;rw [e1];refine Jl1 ⟨_,rfl,_,0,12,rfl,tlo.same s1,.inl ⟨e4,?_⟩⟩;refine ⟨_,rfl,_,rfl,_,l,12,rfl,thi.same s1,.inl ⟨e5,?_⟩⟩;refine ⟨_,rfl,_,rfl,_,rfl,st,l,h,rfl,tst.same s1,.inl ⟨e6,?_⟩⟩;refine ⟨_,rfl,rn,0,6,rfl,trn.same s1,.inl ⟨e7,?_⟩⟩;refine ⟨_,rfl,g,_,_,t,_,rfl,rfl,Jqb s1 ty,g1,_,rfl,Jl1 ?_⟩;refine ⟨_,rfl,_,rfl,p,_,dx,[],rfl,s1 _ _ hp,T.Jdx,T.Je0,by simp,?_⟩;rw [show Jlj "name" n [] = ([("name",n)] : List (Str × V)) from rfl];refine ⟨_,rfl,_,rfl,p,_,dx,_,rfl,Jk0,T.Jdx,T.Je1,by simp,?_⟩;rw [show Jlj "low" (.int l) [("name",n)] = ([("name",n),("low",(.int l))] : List (Str × V)) from Jl7 (fs:=[("name",n)]) (show (["name"] : List Str).contains "low" = false by decide +kernel)];refine ⟨_,rfl,_,rfl,p,_,dx,_,rfl,Jk0,T.Jdx,T.Je2,by simp,?_⟩;rw [show Jlj "high" (.int h) [("name",n),("low",.int l)] = ([("name",n),("low",.int l),("high",(.int h))] : List (Str × V)) from Jl7 (fs:=[("name",n),("low",.int l)]) (show (["name","low"] : List Str).contains "high" = false by decide +kernel)];refine ⟨_,rfl,_,rfl,p,_,dx,_,rfl,Jk0,T.Jdx,T.Je3,by simp,?_⟩;rw [show Jlj "start" st [("name",n),("low",.int l),("high",.int h)] = ([("name",n),("low",.int l),("high",.int h),("start",st)] : List (Str × V)) from Jl7 (fs:=[("name",n),("low",.int l),("high",.int h)]) (show (["name","low","high"] : List Str).contains "start" = false by decide +kernel)];refine ⟨_,rfl,_,rfl,p,_,dx,_,rfl,Jk0,T.Jdx,T.Je4,by simp,?_⟩;rw [show Jlj "rain" rn [("name",n),("low",.int l),("high",.int h),("start",st)] = ([("name",n),("low",.int l),("high",.int h),("start",st),("rain",rn)] : List (Str × V)) from Jl7 (fs:=[("name",n),("low",.int l),("high",.int h),("start",st)]) (show (["name","low","high","start"] : List Str).contains "rain" = false by decide +kernel)];refine ⟨_,rfl,_,rfl,p,_,dx,_,rfl,Jk0,T.Jdx,T.Je5,by simp,?_⟩;rw [show Jlj "gate" g [("name",n),("low",.int l),("high",.int h),("start",st),("rain",rn)] = ([("name",n),("low",.int l),("high",.int h),("start",st),("rain",rn),("gate",g)] : List (Str × V)) from Jl7 (fs:=[("name",n),("low",.int l),("high",.int h),("start",st),("rain",rn)]) (show (["name","low","high","start","rain"] : List Str).contains "gate" = false by decide +kernel)];show Q .non _;simp only [Jm1];exact k _ s1
theorem Jqz : Jkb ["self","name","basin","want"] ["self","name","basin","want"] (Jk6 (Jk9 (top 58) 0)):=%[|0]
theorem Jty (T : Tx K mg a) : FnOk P w K mg base (CXX P w) 4 a.Jho a.Jhp ["self","name","basin","want"] (spTown K a):=by
 have G_is_name:=%[Jsa|1];have G_is_whole:=%[Jlf|1];have G_NoName___init__:=%[Jog|1];have G_NoTown___init__:=%[Js8|1];refine T.Jc8.fn.okX Jqz (fun vs H Q E h=>?_) (fun cdv A outer s H vs Q E hr h=>?_)
 ·obtain ⟨p,dx,n,b,wt,d,rfl,_⟩:=h;rfl
 ·obtain ⟨p,dx,n,b,wt,d,rfl,hp,nm,nb,tw,du,k⟩:=h;refine ⟨?t,?B,?C⟩
  case B =>
   refine' Jk2 (Jks (Jkp (Jkq (Jk5 T.J2 G_is_name hr (by decide) (Jjz (pv 1) Jk1)))) (Jk3 (Jl4 Jl5 rfl (Jlr T.Jcb G_NoName___init__ hr (by decide) T.Jbi.bd T.Jaz (Jjz (pv 1) Jk1)))) Jkg) ?_
   rotate_left
   refine' Jk2 (Jks (Jkp (Jkq (Jk5 T.J2 G_is_name hr (by decide) (Jjz (pv 2) Jk1)))) (Jk3 (Jl4 Jl5 rfl (Jlr T.Jcb G_NoName___init__ hr (by decide) T.Jbi.bd T.Jaz (Jjz (pv 2) Jk1)))) Jkg) ?_
   rotate_left
   refine' Jk2 (Jks (Jkp (Jkq (Jk5 T.J0 G_is_whole hr (by decide) (Jjz (pv 3) (Jjz Jk4 (Jjz (Jlb (by rfl) T.Jag (v:=.int 6) ⟨_,rfl⟩) Jk1)))))) (Jk3 (Jl4 Jl5 rfl (Jlr T.Jch G_NoTown___init__ hr (by decide) T.Jbl.bd T.Jb2 (Jjz (pv 3) Jk1)))) Jkg) ?_
   rotate_left
   refine' Jk2 (Jl8 (pv 0) (pv 1) rfl) ?_
   rotate_left
   refine' Jk2 (Jl8 (pv 0) (pv 2) rfl) ?_
   rotate_left
   exact (Jk3 (Jl8 (pv 0) (pv 3) rfl))
  refine ⟨_,rfl,n,rfl,nm,fun H1 s1=>⟨_,rfl,?_⟩⟩;cases du with
  | name e =>
   rw [e];exact Jlc (Jll T.Jcb T.Jcc rfl fun e dx h1 h2 h3=>k _ _ _ ((RfC.new h1 h2 h3).of s1))
  | basin e1 e2 =>
   rw [e1];refine Jl1 ⟨_,rfl,b,rfl,nb.same s1,fun H2 s2=>⟨_,rfl,?_⟩⟩;rw [e2];exact Jlc (Jll T.Jcb T.Jcc rfl fun e dx h1 h2 h3=>k _ _ _ ((RfC.new h1 h2 h3).of (s1.trans s2)))
  | want e1 e2 e3 =>
   rw [e1];refine Jl1 ⟨_,rfl,b,rfl,nb.same s1,fun H2 s2=>⟨_,rfl,?_⟩⟩;rw [e2];refine Jl1 ⟨_,rfl,wt,1,6,rfl,tw.same (s1.trans s2),_,rfl,?_⟩;rw [e3];exact Jlc (Jll T.Jch T.Jci rfl fun e dx h1 h2 h3=>k _ _ _ ((RfC.new h1 h2 h3).of (s1.trans s2)))
  | good e1 e2 e3 =>
   rw [e1];refine Jl1 ⟨_,rfl,b,rfl,nb.same s1,fun H2 s2=>⟨_,rfl,?_⟩⟩;rw [e2];refine Jl1 ⟨_,rfl,wt,1,6,rfl,tw.same (s1.trans s2),_,rfl,?_⟩;rw [e3];refine Jl1 ⟨_,rfl,_,rfl,p,_,dx,[],rfl,s2 _ _ (s1 _ _ hp),T.Je6,T.Je9,by simp,?_⟩;rw [show Jlj "name" n [] = ([("name",n)] : List (Str × V)) from rfl];refine ⟨_,rfl,_,rfl,p,_,dx,_,rfl,Jk0,T.Je6,T.Jea,by simp,?_⟩;rw [show Jlj "basin" b [("name",n)] = ([("name",n),("basin",b)] : List (Str × V)) from Jl7 (fs:=[("name",n)]) (show (["name"] : List Str).contains "basin" = false by decide +kernel)];refine ⟨_,rfl,_,rfl,p,_,dx,_,rfl,Jk0,T.Je6,T.Jeb,by simp,?_⟩;rw [show Jlj "want" wt [("name",n),("basin",b)] = ([("name",n),("basin",b),("want",wt)] : List (Str × V)) from Jl7 (fs:=[("name",n),("basin",b)]) (show (["name","basin"] : List Str).contains "want" = false by decide +kernel)];show Q .non _;simp only [Jm1];exact k _ (s1.trans s2)
end
section
variable {P : Program} {w : World} {K : W.Frag} {mg : Str → Option Value} {base : Heap} {a : Ad}
theorem ifF {b : Bool} {A B : Prop} (h : b = false) (k : B) : if b = true then A else B:=by rw [h]; exact Jl1 k
theorem ifT {b : Bool} {A B : Prop} (h : b = true) (k : A) : if b = true then A else B:=by rw [h]; exact Jlc k
theorem Jt2 : Jkb ["names"] ["names"] (Jk6 (top 59)):=%[|0]
theorem Jp7 (T : Tx K mg a) : FnOk P w K mg base CX0 1 a.Jhq a.Jhr ["names"] (Jzp K):=by
 refine T.Jm.fn.ok Jt2 (fun vs H Q E h=>?_) (fun cdv A outer s H vs Q E hr h=>?_)
 ·obtain ⟨l,zs,rfl,_⟩:=h;rfl
 ·obtain ⟨l,zs,rfl,hq,hz,k⟩:=h;refine ⟨_,(Jk3 (Jkd (Jlk Jnp (Jka Jrv (by rfl) T.Jap Jlh (Jjz (Jkr (Jrw rfl) (by rfl) T.Jau bt_set (Jjz (pv 0) Jk1)) Jk1)) (Jka Jkm (by rfl) T.Jap Jlh (Jjz (pv 0) Jk1)) (Jkt _)))),?_⟩;refine ⟨_,rfl,l,zs,rfl,hq,hz,fun t ht=>⟨t,zs,rfl,Jk0,?_⟩⟩;have s1:=Same.upd (o:=TxS P w t zs) ht;refine ⟨_,rfl,l,_,rfl,.inl (s1.seq hq),rfl,?_⟩;have e : decide (V.int ((uq zs).length : Nat) = V.int ((zs.map V.str).length : Nat)) = decide ((uq zs).length = zs.length):=by
   rw [List.length_map];by_cases h : (uq zs).length = zs.length
   ·rw [decide_eq_true h,decide_eq_true (by rw [h])]
   ·rw [decide_eq_false h,decide_eq_false (fun q=>h (by have:=V.int.inj q; omega))]
  rw [e];exact k _ s1
theorem Jt1 : Jkb ["thing"] ["thing"] (Jk6 (top 60)):=%[|0]
theorem Jsw (T : Tx K mg a) : FnOk P w K mg base CX0 2 a.Jhs a.Jht ["thing"] (Jzb K a):=by
 have G_are_unlike:=%[Jp7|1];refine T.Jn.fn.ok Jt1 (fun vs H Q E h=>?_) (fun cdv A outer s H vs Q E hr h=>?_)
 ·obtain ⟨l,os,Bs,rfl,_⟩:=h;rfl
 ·obtain ⟨l,os,Bs,rfl,hl,bl,hn,nd,k⟩:=h;have len:=bl.len;refine ⟨?t,?B,?C⟩
  case B =>
   refine' Jk2 ?s1 ?r1
   case s1 =>
    refine' Jks ?c2 ?a2 ?b2
    case c2 =>
     exact (Jq4 (Jkp (Jkq (Jka Jru (by rfl) T.Jao Jkk (Jjz (pv 0) (Jjz (Jly (Jjz (Jlq (v:=.ty "list") (by rfl) T.Jaq Jmv rfl) (Jjz (Jlq (v:=.ty "tuple") (by rfl) T.Jax Jl3 rfl) Jk1))) Jk1))))) (Jo0 (Jkp (Jsk Jo5 Jo5 Jk4 (Jka Jkm (by rfl) T.Jap Jlh (Jjz (pv 0) Jk1)) (Jlb (by rfl) T.Jai (v:=.int 16) ⟨_,rfl⟩))))).pt
    case a2 =>
     refine' Jk3 ?s3
     case s3 =>
      exact (Jkd Jlx)
    case b2 =>
     exact Jkg
   case r1 =>
    refine' Jk2 ?s7 ?r7
    case s7 =>
     refine' Jks ?c8 ?a8 ?b8
     case c8 =>
      exact (Jkp (Jkq (Jka (Jnk rfl) (by rfl) T.Jak Jqi (Jjz (Jkz (N:=(["basin"] : List Str)) (ini:=[none]) rfl (Jlg (pv 0)) (fun _ _ _ _ _=>(Jkc (i:=0) (by decide +kernel : (["basin"] : List Str).Nodup) rfl (Or.inl rfl))) (fun _ _ _ _ _=>Jkx) (fun _ _ _ _ _=>(Jka (Jtg (K:=K) rfl) (by rfl) T.Jao Jkk (Jjz (pv 0) (Jjz (Jlb (by rfl) T.Jbf (v:=.ref _) rfl) Jk1))))) Jk1))))
     case a8 =>
      refine' Jk3 ?s9
      case s9 =>
       exact (Jkd Jlx)
     case b8 =>
      exact Jkg
    case r7 =>
     refine' Jk3 ?s13
     case s13 =>
      exact (Jkd (Jk5 T.Jm G_are_unlike hr (by decide) (Jjz (Jkz (N:=(["basin"] : List Str)) (ini:=[none]) rfl (Jlg (pv 0)) (fun _ _ _ _ _=>(Jkc (i:=0) (by decide +kernel : (["basin"] : List Str).Nodup) rfl (Or.inl rfl))) (fun _ _ _ _ _=>Jkx) (fun _ _ _ _ _=>(Jm8 (K:=K) rfl (pv 0) (by rfl)))) Jk1)))
  refine ⟨_,rfl,(show 2 ≤ sizeLine by decide),fun p hp=>⟨_,p,_,_,.type "list",true,rfl,Jk0,rfl,.of (.lst (Same.upd hp _ _ hl)),rfl,_,rfl,Jl1 ?_⟩⟩;have s1:=Same.upd (o:=.tup [.ty "list",.ty "tuple"]) hp;refine ⟨_,rfl,l,_,rfl,.inl (SqL.of (s1 _ _ hl)),_,_,rfl,rfl,_,rfl,ifT (by rw [List.length_map]; simp; omega) ⟨_,_,rfl,rfl,_,rfl,ifF (by rw [List.length_map]; simp; omega) ?_⟩⟩;refine ⟨_,rfl,l,rfl,⟨_,SqL.of (s1 _ _ hl)⟩,fun D hD=>?_⟩;refine Jlt (K:=K) (a:=l) (xs:=os.map V.ref) (D:=D) (fun i σ H'=>∃ o,σ = [o] ∧ H' D = some (.lst ((List.replicate i true).map V.bl)) ∧ Same (upd H p (.tup [.ty "list",.ty "tuple"])) H') ⟨_,rfl,Jk0,Same.upd hD⟩ (fun i σ H' _ ⟨o,_,_,sm⟩=>SqL.of (sm _ _ (s1 _ _ hl))) ?_ ?_
  ·rintro i v σ H' hv ⟨o,rfl,hDs,sm⟩;obtain ⟨ob,B,rfl,hB,dx,hb,gs⟩:=(bl.same (s1.trans sm)).get hv;have hi : i < os.length:=by have:=(List.getElem?_eq_some_iff.mp hv).1; rwa [List.length_map] at this
   refine Jlm ⟨_,rfl,_,_,_,_,true,rfl,rfl,.of (T.Jdy.ty T.Jdx hb),T.Jen,_,hDs,?_,_,rfl,?_,fun c o z=>?_⟩
   ·rw [List.length_map,List.length_replicate];exact Jl0 (by omega)
   ·rw [Jk0,List.replicate_succ', List.map_append];rfl
   ·rw [Jk7 (Jk8 z hD)];exact sm _ _ z
  rintro σ H1 ⟨o,rfl,hDs,sm⟩;refine ⟨D,_,rfl,SqL.of hDs,_,rfl,ifF (by simp) ?_⟩;have s2:=s1.trans sm;refine ⟨_,rfl,l,rfl,⟨_,SqL.of (s2 _ _ hl)⟩,fun D2 hD2=>?_⟩;refine Jlt (K:=K) (a:=l) (xs:=os.map V.ref) (D:=D2) (fun i σ H'=>∃ o,σ = [o] ∧ H' D2 = some (.lst (((Bs.take i).map (·.z)).map V.str)) ∧ Same H1 H') ⟨_,rfl,Jk0,Same.upd hD2⟩ (fun i σ H' _ ⟨o,_,_,sm⟩=>SqL.of (sm _ _ (s2 _ _ hl))) ?_ ?_
  ·rintro i v σ H' hv ⟨o,rfl,hDs,sm3⟩;obtain ⟨ob,B,rfl,hB,dx,hb,gs⟩:=(bl.same (s2.trans sm3)).get hv;refine Jlm ⟨_,rfl,ob,_,dx,_,_,rfl,hb,T.Jdx,T.Je0,rfl,_,hDs,?_,_,rfl,?_,fun c o z=>?_⟩
   ·rw [List.length_map,List.length_map,List.length_take];exact Jl0 (by omega)
   ·rw [Jk0,List.take_add_one,hB];simp
   ·rw [Jk7 (Jk8 z hD2)];exact sm3 _ _ z
  rintro σ H2 ⟨o,rfl,hDs,sm3⟩;rw [List.length_map,List.take_of_length_le (by omega)] at hDs;refine ⟨D2,Bs.map (·.z),rfl,SqL.of hDs,by rw [List.length_map]; omega,fun H3 s3=>?_⟩;rw [Jvm nd,decide_eq_true rfl];exact k _ ((s2.trans sm3).trans s3)
theorem sc_are_towns : Jkb ["thing","basins","names"] ["thing","basins"] (Jk6 (top 61)):=%[|0]
theorem Ju1 (T : Tx K mg a) : FnOk P w K mg base CX0 2 a.Jhu a.Jhv ["thing","basins"] (Yal K a):=by
 have G_are_unlike:=%[Jp7|1];refine T.Jo.fn.ok sc_are_towns (fun vs H Q E h=>?_) (fun cdv A outer s H vs Q E hr h=>?_)
 ·obtain ⟨l,m,os,ts,Bs,Ts,rfl,_⟩:=h;rfl
 ·obtain ⟨l,m,os,ts,Bs,Ts,rfl,hl,bl,hn,hm,tl,tn,nd,inn,k⟩:=h;have len:=bl.len;have tlen:=tl.len;refine ⟨?t,?B,?C⟩
  case B =>
   refine' Jk2 ?s1 ?r1
   case s1 =>
    refine' Jks ?c2 ?a2 ?b2
    case c2 =>
     exact (Jq4 (Jkp (Jkq (Jka Jru (by rfl) T.Jao Jkk (Jjz (pv 0) (Jjz (Jly (Jjz (Jlq (v:=.ty "list") (by rfl) T.Jaq Jmv rfl) (Jjz (Jlq (v:=.ty "tuple") (by rfl) T.Jax Jl3 rfl) Jk1))) Jk1))))) (Jo0 (Jl6 Jsd (Jka Jkm (by rfl) T.Jap Jlh (Jjz (pv 0) Jk1)) (Jlb (by rfl) T.Jaj (v:=.int 3) ⟨_,rfl⟩) (Jkt _)))).pt
    case a2 =>
     refine' Jk3 ?s3
     case s3 =>
      exact (Jkd Jlx)
    case b2 =>
     exact Jkg
   case r1 =>
    refine' Jk2 ?s7 ?r7
    case s7 =>
     refine' Jks ?c8 ?a8 ?b8
     case c8 =>
      exact (Jkp (Jkq (Jka (Jnk rfl) (by rfl) T.Jak Jqi (Jjz (Jkz (N:=(["town"] : List Str)) (ini:=[none]) rfl (Jlg (pv 0)) (fun _ _ _ _ _=>(Jkc (i:=0) (by decide +kernel : (["town"] : List Str).Nodup) rfl (Or.inl rfl))) (fun _ _ _ _ _=>Jkx) (fun _ _ _ _ _=>(Jka (Jtg (K:=K) rfl) (by rfl) T.Jao Jkk (Jjz (pv 0) (Jjz (Jlb (by rfl) T.Jbg (v:=.ref _) rfl) Jk1))))) Jk1))))
     case a8 =>
      refine' Jk3 ?s9
      case s9 =>
       exact (Jkd Jlx)
     case b8 =>
      exact Jkg
    case r7 =>
     refine' Jk2 ?s13 ?r13
     case s13 =>
      exact (Jki (i:=2) sc_are_towns.nd rfl (Or.inr rfl) (Jkz (N:=(["basin"] : List Str)) (ini:=[none]) rfl (Jlg (pv 1)) (fun _ _ _ _ _=>(Jkc (i:=0) (by decide +kernel : (["basin"] : List Str).Nodup) rfl (Or.inl rfl))) (fun _ _ _ _ _=>Jkx) (fun _ _ _ _ _=>(Jm8 (K:=K) rfl (pv 0) (by rfl)))))
     case r13 =>
      refine' Jk3 ?s15
      case s15 =>
       exact (Jkd (Ju9 (Jk5 T.Jm G_are_unlike hr (by decide) (Jjz (Jkz (N:=(["town"] : List Str)) (ini:=[none]) rfl (Jlg (pv 0)) (fun _ _ _ _ _=>(Jkc (i:=0) (by decide +kernel : (["town"] : List Str).Nodup) rfl (Or.inl rfl))) (fun _ _ _ _ _=>Jkx) (fun _ _ _ _ _=>(Jm8 (K:=K) rfl (pv 0) (by rfl)))) Jk1)) (Jua (Jka (Jnk rfl) (by rfl) T.Jak Jqi (Jjz (Jkz (N:=(["town","names"] : List Str)) (ini:=[none,some 2]) rfl (Jlg (pv 0)) (fun _ _ _ _ _=>(Jkc (i:=0) (by decide +kernel : (["town","names"] : List Str).Nodup) rfl (Or.inl rfl))) (fun _ _ _ _ _=>Jkx) (fun _ _ _ _ _=>(Jlk (Jw4 (K:=K) rfl) (Jm8 (K:=K) rfl (pv 0) (by rfl)) (pv 1) (by with_unfolding_all rfl)))) Jk1)))))
  refine ⟨_,rfl,(show 2 ≤ sizeLine by decide),fun p hp=>⟨_,p,_,_,.type "list",true,rfl,Jk0,rfl,.of (.lst (Same.upd hp _ _ hm)),rfl,_,rfl,Jl1 ?_⟩⟩;have s1:=Same.upd (o:=.tup [.ty "list",.ty "tuple"]) hp;refine ⟨_,rfl,m,_,rfl,.inl (SqL.of (s1 _ _ hm)),_,_,rfl,rfl,_,rfl,ifF (by rw [List.length_map]; simp; omega) ?_⟩;refine ⟨_,rfl,m,rfl,⟨_,SqL.of (s1 _ _ hm)⟩,fun D hD=>?_⟩;refine Jlt (K:=K) (a:=m) (xs:=ts.map V.ref) (D:=D) (fun i σ H'=>∃ o,σ = [o] ∧ H' D = some (.lst ((List.replicate i true).map V.bl)) ∧ Same (upd H p (.tup [.ty "list",.ty "tuple"])) H') ⟨_,rfl,Jk0,Same.upd hD⟩ (fun i σ H' _ ⟨o,_,_,sm⟩=>SqL.of (sm _ _ (s1 _ _ hm))) ?_ ?_
  ·rintro i v σ H' hv ⟨o,rfl,hDs,sm⟩;obtain ⟨ob,B,rfl,hB,dx,hb⟩:=(tl.same (s1.trans sm)).get hv;have hi : i < ts.length:=by have:=(List.getElem?_eq_some_iff.mp hv).1; rwa [List.length_map] at this
   refine Jlm ⟨_,rfl,_,_,_,_,true,rfl,rfl,.of (T.Je7.ty T.Je6 hb),T.Jeo,_,hDs,?_,_,rfl,?_,fun c o z=>?_⟩
   ·rw [List.length_map,List.length_replicate];exact Jl0 (by omega)
   ·rw [Jk0,List.replicate_succ', List.map_append];rfl
   ·rw [Jk7 (Jk8 z hD)];exact sm _ _ z
  rintro σ H1 ⟨o,rfl,hDs,sm⟩;refine ⟨D,_,rfl,SqL.of hDs,_,rfl,ifF (by simp) ?_⟩;have s2:=s1.trans sm;refine ⟨_,rfl,l,rfl,⟨_,SqL.of (s2 _ _ hl)⟩,fun D2 hD2=>?_⟩;refine Jlt (K:=K) (a:=l) (xs:=os.map V.ref) (D:=D2) (fun i σ H'=>∃ o,σ = [o] ∧ H' D2 = some (.lst (((Bs.take i).map (·.z)).map V.str)) ∧ Same H1 H') ⟨_,rfl,Jk0,Same.upd hD2⟩ (fun i σ H' _ ⟨o,_,_,sm⟩=>SqL.of (sm _ _ (s2 _ _ hl))) ?_ ?_
  ·rintro i v σ H' hv ⟨o,rfl,hDs,sm3⟩;obtain ⟨ob,B,rfl,hB,dx,hb,gs⟩:=(bl.same (s2.trans sm3)).get hv;refine Jlm ⟨_,rfl,ob,_,dx,_,_,rfl,hb,T.Jdx,T.Je0,rfl,_,hDs,?_,_,rfl,?_,fun c o z=>?_⟩
   ·rw [List.length_map,List.length_map,List.length_take];exact Jl0 (by omega)
   ·rw [Jk0,List.take_add_one,hB];simp
   ·rw [Jk7 (Jk8 z hD2)];exact sm3 _ _ z
  rintro σ H2 ⟨o,rfl,hD2s,sm3⟩;rw [List.length_map,List.take_of_length_le (by omega)] at hD2s;have s3:=s2.trans sm3;refine ⟨_,rfl,m,rfl,⟨_,SqL.of (s3 _ _ hm)⟩,fun D3 hD3=>?_⟩;refine Jlt (K:=K) (a:=m) (xs:=ts.map V.ref) (D:=D3) (fun i σ H'=>∃ o,σ = [o] ∧ H' D3 = some (.lst (((Ts.take i).map (·.z)).map V.str)) ∧ Same H2 H') ⟨_,rfl,Jk0,Same.upd hD3⟩ (fun i σ H' _ ⟨o,_,_,sm⟩=>SqL.of (sm _ _ (s3 _ _ hm))) ?_ ?_
  ·rintro i v σ H' hv ⟨o,rfl,hDs,sm4⟩;obtain ⟨ob,B,rfl,hB,dx,hb⟩:=(tl.same (s3.trans sm4)).get hv;refine Jlm ⟨_,rfl,ob,_,dx,_,_,rfl,hb,T.Je6,T.Je9,rfl,_,hDs,?_,_,rfl,?_,fun c o z=>?_⟩
   ·rw [List.length_map,List.length_map,List.length_take];exact Jl0 (by omega)
   ·rw [Jk0,List.take_add_one,hB];simp
   ·rw [Jk7 (Jk8 z hD3)];exact sm4 _ _ z
  rintro σ H3 ⟨o,rfl,hD3s,sm4⟩;rw [List.length_map,List.take_of_length_le (by omega)] at hD3s;refine ⟨D3,Ts.map (·.z),rfl,SqL.of hD3s,by rw [List.length_map]; omega,fun H4 s4=>⟨_,rfl,ifT (by rw [Jvm nd,decide_eq_true rfl]) ?_⟩⟩;have s5:=(s3.trans sm4).trans s4;have hD24:=s4 _ _ (sm4 _ _ hD2s);refine ⟨_,rfl,m,rfl,⟨_,SqL.of (s5 _ _ hm)⟩,fun D4 hD4=>?_⟩;refine Jlt (K:=K) (a:=m) (xs:=ts.map V.ref) (D:=D4) (fun i σ H'=>∃ o,σ = [o,some (.ref D2)] ∧ H' D4 = some (.lst ((List.replicate i true).map V.bl)) ∧ Same H4 H') ⟨_,rfl,Jk0,Same.upd hD4⟩ (fun i σ H' _ ⟨o,_,_,sm⟩=>SqL.of (sm _ _ (s5 _ _ hm))) ?_ ?_
  ·rintro i v σ H' hv ⟨o,rfl,hDs,sm6⟩;obtain ⟨ob,B,rfl,hB,dx,hb⟩:=(tl.same (s5.trans sm6)).get hv;have hi : i < ts.length:=by have:=(List.getElem?_eq_some_iff.mp hv).1; rwa [List.length_map] at this
   refine Jlm ⟨_,rfl,ob,_,dx,_,_,rfl,hb,T.Je6,T.Jea,rfl,_,rfl,D2,_,rfl,.inl (SqL.of (sm6 _ _ hD24)),rfl,by simp [Jp5],?_⟩;have e : inV (V.str B.b) ((Bs.map (·.z)).map V.str) = true:=by
    obtain ⟨z,hz,ez⟩:=List.mem_map.mp (inn B (List.mem_of_getElem? hB));unfold inV;refine List.any_eq_true.mpr ⟨V.str z.z,List.mem_map.mpr ⟨z.z,List.mem_map.mpr ⟨z,hz,rfl⟩,rfl⟩,?_⟩;simp [eqV,ez]
   show ∃ ys,_;rw [if_neg Bool.false_ne_true,e];refine ⟨_,hDs,?_,_,rfl,?_,fun c o z=>?_⟩
   ·rw [List.length_map,List.length_replicate];exact Jl0 (by omega)
   ·rw [Jk0,List.replicate_succ', List.map_append];rfl
   ·rw [Jk7 (Jk8 z hD4)];exact sm6 _ _ z
  rintro σ H5 ⟨o,rfl,hD4s,sm6⟩;refine ⟨D4,_,rfl,SqL.of hD4s,?_⟩;rw [show (List.replicate (ts.map V.ref).length true).all id = true by simp];exact k _ (s5.trans sm6)
end
section
variable {P : Program} {w : World} {K : W.Frag} {mg : Str → Option Value} {base : Heap} {a : Ad}
theorem Jp0 : Jkb ["self","thing"] ["self","thing"] (Jk6 (Jk9 (top 7) 0)):=%[|0]
theorem Jri (T : Tx K mg a) : FnOk P w K mg base CX0 1 a.Jf8 a.Jf9 ["self","thing"] (Jmn K "thing"):=by
 refine T.Jbm.fn.ok Jp0 (fun vs H Q E h=>?_) (fun cdv A outer s H vs Q E hr h=>?_)
 ·obtain ⟨e,C,W,fI,y,rfl,_⟩:=h;rfl
 ·obtain ⟨e,C,W,fI,y,rfl,q,c,n,k⟩:=h;refine ⟨_,(Jk3 (Jmm (pv 0) (pv 1) rfl)),?_⟩;exact ⟨_,rfl,_,rfl,e,C,W,fI,true,rfl,q,c,n,k⟩
theorem Jp1 : Jkb ["self","thing"] ["self","thing"] (Jk6 (Jk9 (top 8) 0)):=%[|0]
theorem Jrj (T : Tx K mg a) : FnOk P w K mg base CX0 1 a.Jfa a.Jfb ["self","thing"] (Jmn K "thing"):=by
 refine T.Jbn.fn.ok Jp1 (fun vs H Q E h=>?_) (fun cdv A outer s H vs Q E hr h=>?_)
 ·obtain ⟨e,C,W,fI,y,rfl,_⟩:=h;rfl
 ·obtain ⟨e,C,W,fI,y,rfl,q,c,n,k⟩:=h;refine ⟨_,(Jk3 (Jmm (pv 0) (pv 1) rfl)),?_⟩;exact ⟨_,rfl,_,rfl,e,C,W,fI,true,rfl,q,c,n,k⟩
theorem Jvl {H : Hp} {p q : Addr} {o u : HO} (h : p ≠ q) : upd (upd H p o) q u = upd (upd H q u) p o:=by
 funext c;by_cases h1 : c = p
 ·subst h1;rw [Jk0,Jk7 h,Jk0]
 ·rw [Jk7 h1];by_cases h2 : c = q
  ·subst h2;rw [Jk0,Jk0]
  ·rw [Jk7 h2,Jk7 h2,Jk7 h1]
noncomputable def rivF (c g b t : V) : List (Str × V):=[("cloud",c),("gain",g),("basins",b),("towns",t)]
noncomputable def Yaj (K : W.Frag) (a : Ad) : Sp:=fun vs H Q _=>∃ (p dx l m : Addr) (c g : Int) (os ts : List Addr) (Bs : List Bsn) (Ts : List Twn),vs = [.ref p,.int c,.int g,.ref l,.ref m] ∧ H p = some (.ins a.Jjy dx []) ∧ (0 ≤ c ∧ c ≤ 12) ∧ (0 ≤ g ∧ g ≤ c) ∧ H l = some (.lst (os.map V.ref)) ∧ BasL K a H os Bs ∧ (1 ≤ Bs.length ∧ Bs.length ≤ 16) ∧ (Bs.map (·.z)).Nodup ∧ H m = some (.lst (ts.map V.ref)) ∧ TwnL a H ts Ts ∧ Ts.length ≤ 3 ∧ (Ts.map (·.z)).Nodup ∧ (∀ t ∈ Ts,t.b ∈ Bs.map (·.z)) ∧ ∀ H' b t,Same H H' → H' b = some (.tup (os.map V.ref)) → H' t = some (.tup (ts.map V.ref)) → b ≠ p → t ≠ p → Q .non (upd H' p (.ins a.Jjy dx (rivF (.int c) (.int g) (.ref b) (.ref t))))
theorem Jn7 {i lo hi : Int} (h1 : lo ≤ i) (h2 : i ≤ hi) : Jkl (.int i) lo hi = true:=by
 show (decide (lo ≤ i) && decide (i ≤ hi)) = true;rw [decide_eq_true h1,decide_eq_true h2];rfl
theorem Jq6 : Jkb ["self","cloud","gain","basins","towns"] ["self","cloud","gain","basins","towns"] (Jk6 (Jk9 (top 62) 0)):=%[|0]
theorem Jsv (T : Tx K mg a) : FnOk P w K mg base (CXX P w) 4 a.Jhw a.Jhx ["self","cloud","gain","basins","towns"] (Yaj K a):=by
 have G_is_whole:=%[Jlf|1];have G_are_basins:=%[Jsw|1];have G_are_towns:=%[Ju1|1];have G_NoCloud___init__:=%[Jri|1];have G_NoRiver___init__:=%[Jrj|1];refine T.Jc9.fn.okX Jq6 (fun vs H Q E h=>?_) (fun cdv A outer s H vs Q E hr h=>?_)
 ·obtain ⟨p,dx,l,m,c,g,os,ts,Bs,Ts,rfl,_⟩:=h;rfl
 ·obtain ⟨p,dx,l,m,c,g,os,ts,Bs,Ts,rfl,hp,hc,hg,hl,bl,hn,nd,hm,tl,tn,tnd,inn,k⟩:=h;refine ⟨?t,?B,?C⟩
  case B =>
   refine' Jk2 ?s1 ?r1
   case s1 =>
    refine' Jks ?c2 ?a2 ?b2
    case c2 =>
     exact (Jkp (Jkq (Jk5 T.J0 G_is_whole hr (by decide) (Jjz (pv 1) (Jjz Jk4 (Jjz (Jlb (by rfl) T.Jah (v:=.int 12) ⟨_,rfl⟩) Jk1))))))
    case a2 =>
     refine' Jk3 ?s3
     case s3 =>
      exact (Jl4 Jl5 rfl (Jlr T.Jcj G_NoCloud___init__ hr (by decide) T.Jbm.bd T.Jb3 (Jjz (pv 1) Jk1)))
    case b2 =>
     exact Jkg
   case r1 =>
    refine' Jk2 ?s6 ?r6
    case s6 =>
     refine' Jks ?c7 ?a7 ?b7
     case c7 =>
      exact (Jkp (Jkq (Jk5 T.J0 G_is_whole hr (by decide) (Jjz (pv 2) (Jjz Jk4 (Jjz (pv 1) Jk1))))))
     case a7 =>
      refine' Jk3 ?s8
      case s8 =>
       exact (Jl4 Jl5 rfl (Jlr T.Jcj G_NoCloud___init__ hr (by decide) T.Jbm.bd T.Jb3 (Jjz (pv 2) Jk1)))
     case b7 =>
      exact Jkg
    case r6 =>
     refine' Jk2 ?s11 ?r11
     case s11 =>
      refine' Jks ?c12 ?a12 ?b12
      case c12 =>
       exact (Jkp (Jkq (Jk5 T.Jn G_are_basins hr (by decide) (Jjz (pv 3) Jk1))))
      case a12 =>
       refine' Jk3 ?s13
       case s13 =>
        exact (Jl4 Jl5 rfl (Jlr T.Jck G_NoRiver___init__ hr (by decide) T.Jbn.bd T.Jb4 (Jjz (pv 3) Jk1)))
      case b12 =>
       exact Jkg
     case r11 =>
      refine' Jk2 ?s16 ?r16
      case s16 =>
       refine' Jks ?c17 ?a17 ?b17
       case c17 =>
        exact (Jkp (Jkq (Jk5 T.Jo G_are_towns hr (by decide) (Jjz (pv 4) (Jjz (pv 3) Jk1)))))
       case a17 =>
        refine' Jk3 ?s18
        case s18 =>
         exact (Jl4 Jl5 rfl (Jlr T.Jck G_NoRiver___init__ hr (by decide) T.Jbn.bd T.Jb4 (Jjz (pv 4) Jk1)))
       case b17 =>
        exact Jkg
      case r16 =>
       refine' Jk2 ?s21 ?r21
       case s21 =>
        exact (Jl8 (pv 0) (pv 1) rfl)
       case r21 =>
        refine' Jk2 ?s23 ?r23
        case s23 =>
         exact (Jl8 (pv 0) (pv 2) rfl)
        case r23 =>
         refine' Jk2 ?s25 ?r25
         case s25 =>
          exact (Jl8 (pv 0) (Jkr Jkw (by rfl) T.Jax Jl3 (Jjz (pv 3) Jk1)) rfl)
         case r25 =>
          refine' Jk3 ?s27
          case s27 =>
           exact (Jl8 (pv 0) (Jkr Jkw (by rfl) T.Jax Jl3 (Jjz (pv 4) Jk1)) rfl)
  refine ⟨_,rfl,_,0,12,rfl,.inl ⟨_,rfl⟩,_,rfl,ifF (by rw [Jn7 hc.1 hc.2]; rfl) ?_⟩;refine ⟨_,rfl,_,rfl,_,0,c,rfl,.inl ⟨_,rfl⟩,_,rfl,ifF (by rw [Jn7 hg.1 hg.2]; rfl) ?_⟩;refine ⟨_,rfl,l,os,Bs,rfl,hl,bl,hn,nd,fun H1 s1=>⟨_,rfl,Jl1 ?_⟩⟩;refine ⟨_,rfl,_,rfl,l,m,os,ts,Bs,Ts,rfl,s1 _ _ hl,bl.same s1,hn.2,s1 _ _ hm,tl.same s1,tn,tnd,inn,fun H2 s2=>⟨_,rfl,Jl1 ?_⟩⟩;have s3:=s1.trans s2;have hp2:=s3 _ _ hp;refine ⟨_,rfl,_,rfl,p,_,dx,[],rfl,hp2,T.Jec,T.Jef,by simp,?_⟩;rw [show Jlj "cloud" (.int c) [] = ([("cloud",.int c)] : List (Str × V)) from rfl];refine ⟨_,rfl,_,rfl,p,_,dx,_,rfl,Jk0,T.Jec,T.Jeg,by simp,?_⟩;rw [show Jlj "gain" (.int g) [("cloud",.int c)] = ([("cloud",.int c),("gain",.int g)] : List (Str × V)) from Jl7 (fs:=[("cloud",.int c)]) (show (["cloud"] : List Str).contains "gain" = false by decide +kernel),Jm1];have nl : l ≠ p:=fun e=>by subst e; rw [hl] at hp; cases hp
  have nm : m ≠ p:=fun e=>by subst e; rw [hm] at hp; cases hp
  refine ⟨_,rfl,l,_,rfl,.inl ⟨SqL.of (by rw [Jk7 nl]; exact s3 _ _ hl),fun b hb=>?_⟩⟩;have nb : b ≠ p:=fun e=>by subst e; rw [Jk0] at hb; cases hb
  rw [Jk7 nb] at hb;rw [Jvl nb.symm];refine ⟨_,rfl,p,_,dx,_,rfl,Jk0,T.Jec,T.Jeh,by simp,?_⟩;rw [show Jlj "basins" (.ref b) [("cloud",.int c),("gain",.int g)] = ([("cloud",.int c),("gain",.int g),("basins",.ref b)] : List (Str × V)) from Jl7 (fs:=[("cloud",.int c),("gain",.int g)]) (show (["cloud","gain"] : List Str).contains "basins" = false by decide +kernel),Jm1];have s4:=s3.trans (Same.upd (o:=.tup (os.map V.ref)) hb);refine ⟨_,rfl,m,_,rfl,.inl ⟨SqL.of (by rw [Jk7 nm]; exact s4 _ _ hm),fun t ht=>?_⟩⟩;have nt : t ≠ p:=fun e=>by subst e; rw [Jk0] at ht; cases ht
  rw [Jk7 nt] at ht;rw [Jvl nt.symm];refine ⟨_,rfl,p,_,dx,_,rfl,Jk0,T.Jec,T.Jei,by simp,?_⟩;rw [show Jlj "towns" (.ref t) [("cloud",.int c),("gain",.int g),("basins",.ref b)] = (rivF (.int c) (.int g) (.ref b) (.ref t)) from Jl7 (fs:=[("cloud",.int c),("gain",.int g),("basins",.ref b)]) (show (["cloud","gain","basins"] : List Str).contains "towns" = false by decide +kernel),Jm1];have s5:=Same.upd (o:=.tup (ts.map V.ref)) ht;exact k _ b t (s4.trans s5) (s5 _ _ Jk0) Jk0 nb nt
end
noncomputable def wl : List V → List Int → List Int → List Bool
 | v :: vs,l :: ls,h :: hs=>Jkl v l h :: wl vs ls hs
 | _,_,_=>[]
theorem Y5 : ∀ {vs : List V} {ls hs : List Int},vs.length = ls.length → ls.length = hs.length → (wl vs ls hs).length = vs.length
 | [],_,_,_,_=>rfl
 | _ :: _,[],_,e,_=>by simp at e
 | _ :: _,_ :: _,[],_,e=>by simp at e
 | _ :: vs,_ :: ls,_ :: hs,e1,e2=>by
  show (wl vs ls hs).length + 1 = vs.length + 1;rw [Y5 (by simpa using e1) (by simpa using e2)]
theorem Y4 : ∀ {vs : List V} {ls hs : List Int} {i : Nat} {v x y : V},vs[i]? = some v → (ls.map V.int)[i]? = some x → (hs.map V.int)[i]? = some y → ∃ l h,x = .int l ∧ y = .int h ∧ (wl vs ls hs)[i]? = some (Jkl v l h)
 | _ :: _,l :: _,h :: _,0,v,x,y,e1,e2,e3=>⟨l,h,by simpa using e2.symm,by simpa using e3.symm,by cases e1; rfl⟩
 | _ :: vs,_ :: ls,_ :: hs,i + 1,v,x,y,e1,e2,e3=>by
  obtain ⟨l,h,a1,a2,a3⟩:=Y4 (vs:=vs) (ls:=ls) (hs:=hs) (i:=i) (v:=v) (x:=x) (y:=y) (by simpa using e1) (by simpa using e2) (by simpa using e3);exact ⟨l,h,a1,a2,a3⟩
 | [],_,_,_,_,_,_,e,_,_=>by simp at e
 | _ :: _,[],_,_,_,_,_,_,e,_=>by simp at e
 | _ :: _,_ :: _,[],_,_,_,_,_,_,e=>by simp at e
noncomputable def RowT (K : W.Frag) (H : Hp) (x : V) : Option (List V) → Prop
 | some vs=>∃ p,x = .ref p ∧ H p = some (.tup vs) ∧ (∀ v ∈ vs,Tm K H v) ∧ vs.length ≤ 40
 | none=>∃ t,TyX K H x t ∧ W.kitOne K t (.type "tuple") = some false
theorem RowT.same {K : W.Frag} {H H' : Hp} {x : V} (s : Same H H') : ∀ {r : Option (List V)},RowT K H x r → RowT K H' x r
 | some _,⟨p,e,h1,h2,h3⟩=>⟨p,e,s _ _ h1,fun v hv=>(h2 v hv).same s,h3⟩
 | none,⟨t,h1,h2⟩=>⟨t,Jqb s h1,h2⟩
noncomputable def Jn5 : Option (List V) → List Int → List Int → Bool
 | some vs,ls,hs=>decide (vs.length = ls.length) && (wl vs ls hs).all id
 | none,_,_=>false
noncomputable def spRow (K : W.Frag) : Sp:=fun vs H Q _=>∃ (x : V) (r : Option (List V)) (l m : Addr) (ls hs : List Int),vs = [x,.ref l,.ref m] ∧ RowT K H x r ∧ H l = some (.lst (ls.map V.int)) ∧ H m = some (.lst (hs.map V.int)) ∧ ls.length = hs.length ∧ ls.length ≤ 40 ∧ ∀ H', Same H H' → Q (.bl (Jn5 r ls hs)) H'
noncomputable def Yak (K : W.Frag) : Sp:=fun vs H Q _=>∃ (x : V) (r : Option (List V)) (m : Addr) (hs : List Int),vs = [x,.ref m] ∧ RowT K H x r ∧ H m = some (.lst (hs.map V.int)) ∧ hs.length ≤ 40 ∧ ∀ H', Same H H' → Q (.bl (Jn5 r (List.replicate hs.length 0) hs)) H'
noncomputable def Jwy : Option (List V) → Bool
 | some vs=>decide (vs.length = 2)
 | none=>false
noncomputable def spPair (K : W.Frag) : Sp:=fun vs H Q _=>∃ (x : V) (r : Option (List V)),vs = [x] ∧ (match r with | some vs=>∃ p,x = .ref p ∧ H p = some (.tup vs) | none=>∃ t,TyX K H x t ∧ W.kitOne K t (.type "tuple") = some false) ∧ Q (.bl (Jwy r)) H
section
variable {P : Program} {w : World} {K : W.Frag} {mg : Str → Option Value} {base : Heap} {a : Ad}
theorem Jx5 {i j k : Nat} {T : Addr} {x y u : V} {σ : L2.St} {H : Hp} {A B : L2.St → Hp → Prop} (hT : SqT K H T [x,y,u]) (h : A (((σ.set i (some x)).set j (some y)).set k (some u)) H) :
  gTup K 3 (Jp6 (Jmq i) (Jp6 (Jmq j) (Jp6 (Jmq k) gNil))) (.ref T) σ H fun σ3 H3=>Jvi σ3 H3 fun b H4=>if b = true then A σ3 H4 else B σ3 H4:=by
 refine ⟨T,_,rfl,hT,rfl,_,_,rfl,_,_,rfl,_,_,rfl,rfl,?_⟩;show if true = true then A (((σ.set i (some x)).set j (some y)).set k (some u)) H else B (((σ.set i (some x)).set j (some y)).set k (some u)) H
 rw [if_pos rfl];exact h
theorem Jxw : Jkb ["thing","lows","highs"] ["thing","lows","highs"] (Jk6 (top 20)):=%[|0]
theorem Jtl (T : Tx K mg a) : FnOk P w K mg base CX0 2 a.Jfq a.Jfr ["thing","lows","highs"] (spRow K):=by
 have G_is_whole:=%[Jlf|1];refine T.J3.fn.ok Jxw (fun vs H Q E h=>?_) (fun cdv A outer s H vs Q E hr h=>?_)
 ·obtain ⟨x,r,l,m,ls,hs,rfl,_⟩:=h;rfl
 ·obtain ⟨x,r,l,m,ls,hs,rfl,rt,hl,hm,e1,e2,k⟩:=h;refine ⟨?t,?B,?C⟩
  case B =>
   refine' Jk2 ?s1 ?r1
   case s1 =>
    refine' Jks ?c2 ?a2 ?b2
    case c2 =>
     exact (Jq4 (Jkp (Jkq (Jka Jld (by rfl) T.Jao Jkk (Jjz (pv 0) (Jjz (Jlq (v:=.ty "tuple") (by rfl) T.Jax Jl3 rfl) Jk1))))) (Jo0 (Jl6 Jz1 (Jka Jkm (by rfl) T.Jap Jlh (Jjz (pv 0) Jk1)) (Jka Jkm (by rfl) T.Jap Jlh (Jjz (pv 1) Jk1)) (Jkt _)))).pt
    case a2 =>
     refine' Jk3 ?s3
     case s3 =>
      exact (Jkd Jlx)
    case b2 =>
     exact Jkg
   case r1 =>
    refine' Jk3 ?s7
    case s7 =>
     exact (Jkd (Jka (Jnk rfl) (by rfl) T.Jak Jqi (Jjz (Jkz (N:=(["number","low","high"] : List Str)) (ini:=[none,none,none]) rfl (Jub true false false (by rfl) T.Jay (Jjz (pv 0) (Jjz (pv 1) (Jjz (pv 2) Jk1)))) (fun _ _ _ _ _=>(Jna (K:=K) (n:=3) rfl rfl (Jkf (Jkc (i:=0) (by decide +kernel : (["number","low","high"] : List Str).Nodup) rfl (Or.inl rfl)) (Jkf (Jkc (i:=1) (by decide +kernel : (["number","low","high"] : List Str).Nodup) rfl (Or.inl rfl)) (Jkf (Jkc (i:=2) (by decide +kernel : (["number","low","high"] : List Str).Nodup) rfl (Or.inl rfl)) Jls))))) (fun _ _ _ _ _=>Jkx) (fun _ _ _ _ _=>(Jk5 T.J0 G_is_whole hr (by decide) (Jjz (pv 0) (Jjz (pv 1) (Jjz (pv 2) Jk1)))))) Jk1)))
  cases r with
  | none =>
   obtain ⟨t,ty,ek⟩:=rt;refine ⟨_,rfl,x,_,_,t,_,rfl,rfl,ty,ek,_,rfl,Jlc ?_⟩;refine Jlc ?_;exact k _ (fun _ _ h=>h)
  | some vs =>
   obtain ⟨p,rfl,hp,tms,hn⟩:=rt;refine ⟨_,rfl,_,_,_,.type "tuple",true,rfl,rfl,.of (.tup hp),rfl,_,rfl,Jl1 ?_⟩;refine ⟨_,rfl,p,_,rfl,.inr (SqT.of hp),_,rfl,l,_,rfl,.inl (SqL.of hl),rfl,?_⟩;by_cases en : vs.length = ls.length
   ·refine ⟨_,rfl,ifF (by simp [en]) ?_⟩;refine ⟨_,rfl,_,rfl,_,rfl,p,l,m,rfl,⟨_,SqT.of hp⟩,⟨_,SqL.of hl⟩,⟨_,SqL.of hm⟩,fun D hD=>?_⟩;have s0:=Same.upd (o:=.lst []) hD;refine Jqk (K:=K) (l1:=p) (l2:=l) (l3:=m) (b1:=true) (b2:=false) (b3:=false) (xs:=vs) (ys:=ls.map V.int) (us:=hs.map V.int) (D:=D) (fun i σ H'=>(∃ o1 o2 o3,σ = [o1,o2,o3]) ∧ H' D = some (.lst (((wl vs ls hs).take i).map V.bl)) ∧ Same H H') ⟨⟨_,_,_,rfl⟩,Jk0,s0⟩ (fun i σ H' _ ⟨_,_,sm⟩=>⟨SqT.of (sm _ _ hp),SqL.of (sm _ _ hl),SqL.of (sm _ _ hm)⟩) (by rw [List.length_map]; exact en) (by rw [List.length_map]; omega) ?_ ?_
    ·rintro i x y u σ H' Ta hx hy hu ⟨⟨o1,o2,o3,rfl⟩,hDs,sm⟩ hT;obtain ⟨lo,hi,rfl,rfl,ew⟩:=Y4 hx hy hu;have sT:=Same.upd (o:=.tup [x,.int lo,.int hi]) hT;have hi' : i < vs.length:=(List.getElem?_eq_some_iff.mp hx).1;refine Jx5 (SqT.of Jk0) ⟨_,rfl,_,rfl,_,rfl,_,lo,hi,rfl,(tms _ (List.mem_of_getElem? hx)).same (sm.trans sT),_,sT _ _ hDs,?_,⟨_,_,_,rfl⟩,?_,?_⟩
     ·rw [List.length_map,List.length_take];exact Jl0 (by omega)
     ·rw [Jk0,List.take_add_one,ew];simp
     ·intro c o z;rw [Jk7 (Jk8 z hD)];exact sT _ _ (sm _ _ z)
    rintro σ H1 ⟨_,hDs,sm⟩;rw [List.take_of_length_le (by rw [Y5 en e1]; omega)] at hDs;refine ⟨D,_,rfl,SqL.of hDs,?_⟩;have e : Jn5 (some vs) ls hs = (wl vs ls hs).all id:=by
     show (decide (vs.length = ls.length) && _) = _;rw [decide_eq_true en,Bool.true_and]
    rw [← e];exact k _ sm
   ·refine ⟨_,rfl,ifT (by simp; omega) ?_⟩;have e : Jn5 (some vs) ls hs = false:=by
     show (decide (vs.length = ls.length) && _) = _;rw [decide_eq_false en,Bool.false_and]
    rw [e] at k;exact k _ (fun _ _ h=>h)
end
section
variable {P : Program} {w : World} {K : W.Frag} {mg : Str → Option Value} {base : Heap} {a : Ad}
theorem Jrm : Jkb ["thing","highs"] ["thing","highs"] (Jk6 (top 21)):=%[|0]
theorem Jo4 (T : Tx K mg a) : FnOk P w K mg base CX0 3 a.Jfs a.Jft ["thing","highs"] (Yak K):=by
 have G_is_row:=%[Jtl|1];refine T.J4.fn.ok Jrm (fun vs H Q E h=>?_) (fun cdv A outer s H vs Q E hr h=>?_)
 ·obtain ⟨x,r,m,hs,rfl,_⟩:=h;rfl
 ·obtain ⟨x,r,m,hs,rfl,rt,hm,e2,k⟩:=h;refine ⟨?t,?B,?C⟩
  case B =>
   refine' Jk3 ?s1
   case s1 =>
    exact (Jkd (Jk5 T.J3 G_is_row hr (by decide) (Jjz (pv 0) (Jjz (Jkz (N:=(["high"] : List Str)) (ini:=[none]) rfl (Jlg (pv 1)) (fun _ _ _ _ _=>(Jkc (i:=0) (by decide +kernel : (["high"] : List Str).Nodup) rfl (Or.inl rfl))) (fun _ _ _ _ _=>Jkx) (fun _ _ _ _ _=>Jk4)) (Jjz (pv 1) Jk1)))))
  refine ⟨_,rfl,_,rfl,m,rfl,⟨_,SqL.of hm⟩,fun D hD=>?_⟩;refine Jnv ((List.replicate hs.length (0 : Int)).map V.int) hD (by simp) (by rw [List.length_map]; omega) hm ?_ ?_
  ·intro i x y H' Q' hx hy sm k';have e : y = .int 0:=by
    rw [List.map_replicate,List.getElem?_replicate] at hy;split at hy
    ·exact (Option.some.inj hy).symm
    ·cases hy
   subst e;exact k' _ (fun _ _ h=>h)
  ·intro H' sm hDs;refine ⟨_,rfl,x,r,D,m,List.replicate hs.length 0,hs,rfl,rt.same sm,hDs,sm _ _ hm,by simp,by simpa using e2,fun H2 s2=>k _ (sm.trans s2)⟩
theorem Jw9 : Jkb ["thing"] ["thing"] (Jk6 (top 22)):=%[|0]
theorem Jsb (T : Tx K mg a) : FnOk P w K mg base CX0 1 a.Jfu a.Jfv ["thing"] (spPair K):=by
 refine T.J5.fn.ok Jw9 (fun vs H Q E h=>?_) (fun cdv A outer s H vs Q E hr h=>?_)
 ·obtain ⟨x,r,rfl,_⟩:=h;rfl
 ·obtain ⟨x,r,rfl,rt,k⟩:=h;refine ⟨?t,?B,?C⟩
  case B =>
   refine' Jk3 ?s1
   case s1 =>
    exact (Jkd (Ju9 (Jka Jld (by rfl) T.Jao Jkk (Jjz (pv 0) (Jjz (Jlq (v:=.ty "tuple") (by rfl) T.Jax Jl3 rfl) Jk1))) (Jua (Jlk Jnp (Jka Jkm (by rfl) T.Jap Jlh (Jjz (pv 0) Jk1)) Jk4 (Jkt _)))))
  cases r with
  | none =>
   obtain ⟨t,ty,ek⟩:=rt;refine ⟨_,rfl,x,_,_,t,_,rfl,rfl,ty,ek,_,rfl,?_⟩;exact Jl1 k
  | some vs =>
   obtain ⟨p,rfl,hp⟩:=rt;refine ⟨_,rfl,_,_,_,.type "tuple",true,rfl,rfl,.of (.tup hp),rfl,_,rfl,Jlc ?_⟩;refine ⟨_,rfl,p,_,rfl,.inr (SqT.of hp),rfl,?_⟩;have e : decide (V.int (vs.length : Nat) = V.int 2) = Jwy (some vs):=by
    show _ = decide (vs.length = 2);by_cases h : vs.length = 2
    ·rw [decide_eq_true h,decide_eq_true (by rw [h]; rfl)]
    ·rw [decide_eq_false h,decide_eq_false (fun q=>h (by have:=V.int.inj q; omega))]
   rw [e];exact k
end
structure Riv where
 c : Int
 g : Int
 Bs : List Bsn
 Ts : List Twn
noncomputable def RivAt (K : W.Frag) (a : Ad) (H : Hp) (o : Addr) (R : Riv) : Prop:=∃ (dx b t : Addr) (os ts : List Addr),H o = some (.ins a.Jjy dx (rivF (.int R.c) (.int R.g) (.ref b) (.ref t))) ∧ H b = some (.tup (os.map V.ref)) ∧ BasL K a H os R.Bs ∧ H t = some (.tup (ts.map V.ref)) ∧ TwnL a H ts R.Ts ∧ R.Bs.length ≤ 16 ∧ R.Ts.length ≤ 3 ∧ ∀ B ∈ R.Bs,0 ≤ B.rn ∧ B.rn ≤ 6
theorem RivAt.same {K : W.Frag} {a : Ad} {H H' : Hp} {o : Addr} {R : Riv} (s : Same H H') (h : RivAt K a H o R) : RivAt K a H' o R :=by
 obtain ⟨dx,b,t,os,ts,h1,h2,h3,h4,h5,h6⟩:=h;exact ⟨dx,b,t,os,ts,s _ _ h1,s _ _ h2,h3.same s,s _ _ h4,h5.same s,h6⟩
inductive Pr where
 | no
 | oth (vs : List V)
 | two (u w : V) (r : Option (List V))
noncomputable def PrT (K : W.Frag) (H : Hp) (x : V) : Pr → Prop
 | .no=>∃ t,TyX K H x t ∧ W.kitOne K t (.type "tuple") = some false
 | .oth vs=>∃ p,x = .ref p ∧ H p = some (.tup vs) ∧ vs.length ≠ 2
 | .two u w r=>∃ p,x = .ref p ∧ H p = some (.tup [u,w]) ∧ RowT K H u r ∧ Tm K H w
theorem PrT.same {K : W.Frag} {H H' : Hp} {x : V} (s : Same H H') : ∀ {r : Pr},PrT K H x r → PrT K H' x r
 | .no,⟨t,h1,h2⟩=>⟨t,Jqb s h1,h2⟩
 | .oth _,⟨p,e,h1,h2⟩=>⟨p,e,s _ _ h1,h2⟩
 | .two _ _ _,⟨p,e,h1,h2,h3⟩=>⟨p,e,s _ _ h1,h2.same s,h3.same s⟩
noncomputable def stB (R : Riv) : Pr → Bool
 | .two _ w r=>Jkl w 0 R.c && Jn5 r (R.Bs.map (·.lo)) (R.Bs.map (·.hi))
 | _=>false
noncomputable def Jqa (n : Nat) : V → Bool
 | .non=>true
 | w=>Jkl w 0 (n - 1)
noncomputable def chB (R : Riv) : Pr → Bool
 | .two _ w r=>Jqa R.Ts.length w && Jn5 r (List.replicate R.Bs.length 0) (R.Bs.map fun B=>(B.n : Int) - 1)
 | _=>false
noncomputable def Jwg (K : W.Frag) (a : Ad) : Sp:=fun vs H Q _=>∃ (o : Addr) (R : Riv) (x : V) (r : Pr),vs = [.ref o,x] ∧ RivAt K a H o R ∧ PrT K H x r ∧ ∀ H', Same H H' → Q (.bl (stB R r)) H'
noncomputable def Jze (K : W.Frag) (a : Ad) : Sp:=fun vs H Q _=>∃ (o : Addr) (R : Riv) (x : V) (r : Pr),vs = [.ref o,x] ∧ RivAt K a H o R ∧ PrT K H x r ∧ ∀ H', Same H H' → Q (.bl (chB R r)) H'
section
variable {P : Program} {w : World} {K : W.Frag} {mg : Str → Option Value} {base : Heap} {a : Ad}
theorem Jsl : Jkb ["river","thing"] ["river","thing"] (Jk6 (top 23)):=%[|0]
theorem Jn1 (T : Tx K mg a) : FnOk P w K mg base CX0 3 a.Jfw a.Jfx ["river","thing"] (Jwg K a):=by
 have G_is_row:=%[Jtl|1];have G_is_pair:=%[Jsb|1];have G_is_whole:=%[Jlf|1];refine T.J6.fn.ok Jsl (fun vs H Q E h=>?_) (fun cdv A outer s H vs Q E hr h=>?_)
 ·obtain ⟨o,R,x,r,rfl,_⟩:=h;rfl
 ·obtain ⟨o,R,x,r,rfl,ro,rx,k⟩:=h;refine ⟨?t,?B,?C⟩
  case B =>
   refine' Jk2 ?s1 ?r1
   case s1 =>
    refine' Jks ?c2 ?a2 ?b2
    case c2 =>
     exact (Jq4 (Jkp (Jkq (Jk5 T.J5 G_is_pair hr (by decide) (Jjz (pv 1) Jk1)))) (Jo0 (Jkp (Jkq (Jk5 T.J0 G_is_whole hr (by decide) (Jjz (Jke Jkj (pv 1) Jk4 (fun _ _=>rfl)) (Jjz Jk4 (Jjz (Jkn (pv 0) (by rfl)) Jk1)))))))).pt
    case a2 =>
     refine' Jk3 ?s3
     case s3 =>
      exact (Jkd Jlx)
    case b2 =>
     exact Jkg
   case r1 =>
    refine' Jk3 ?s7
    case s7 =>
     exact (Jkd (Jk5 T.J3 G_is_row hr (by decide) (Jjz (Jke Jkj (pv 1) Jk4 (fun _ _=>rfl)) (Jjz (Jkz (N:=(["basin"] : List Str)) (ini:=[none]) rfl (Jsg (Jkn (pv 0) (by rfl))) (fun _ _ _ _ _=>(Jkc (i:=0) (by decide +kernel : (["basin"] : List Str).Nodup) rfl (Or.inl rfl))) (fun _ _ _ _ _=>Jkx) (fun _ _ _ _ _=>(Jm8 (K:=K) rfl (pv 0) (by rfl)))) (Jjz (Jkz (N:=(["basin"] : List Str)) (ini:=[none]) rfl (Jsg (Jkn (pv 0) (by rfl))) (fun _ _ _ _ _=>(Jkc (i:=0) (by decide +kernel : (["basin"] : List Str).Nodup) rfl (Or.inl rfl))) (fun _ _ _ _ _=>Jkx) (fun _ _ _ _ _=>(Jm8 (K:=K) rfl (pv 0) (by rfl)))) Jk1)))))
  cases r with
  | no =>
   refine ⟨_,rfl,x,none,rfl,rx,_,rfl,Jlc ?_⟩;exact Jlc (k _ fun _ _ h=>h)
  | oth vs =>
   obtain ⟨p,rfl,hp,ne⟩:=rx;refine ⟨_,rfl,_,some vs,rfl,⟨p,rfl,hp⟩,_,rfl,ifT (by rw [show Jwy (some vs) = false from decide_eq_false ne]; rfl) ?_⟩;exact Jlc (k _ fun _ _ h=>h)
  | two u y r =>
   obtain ⟨p,rfl,hp,rt,ty⟩:=rx;obtain ⟨dx,b,t,os,ts,ho,hb,bl,ht,tl,n1,n2,n3⟩:=ro;refine ⟨_,rfl,_,some [u,y],rfl,⟨p,rfl,hp⟩,_,rfl,Jl1 ?_⟩;refine ⟨_,rfl,p,_,1,y,rfl,rfl,SqT.of hp,rfl,_,rfl,o,_,dx,_,_,rfl,ho,T.Jec,T.Jef,rfl,y,0,R.c,rfl,ty,_,rfl,?_⟩;cases ew : Jkl y 0 R.c with
   | false =>
    have e : stB R (.two u y r) = false:=by
     show (Jkl y 0 R.c && _) = false;rw [ew,Bool.false_and]
    rw [e] at k;exact Jlc (k _ fun _ _ h=>h)
   | true =>
    have e : stB R (.two u y r) = Jn5 r (R.Bs.map (·.lo)) (R.Bs.map (·.hi)):=by
     show (Jkl y 0 R.c && _) = _;rw [ew,Bool.true_and]
    rw [e] at k;have len:=bl.len;refine Jl1 ⟨_,rfl,p,_,0,u,rfl,rfl,SqT.of hp,rfl,?_⟩;refine ⟨_,rfl,o,_,dx,_,_,rfl,ho,T.Jec,T.Jeh,rfl,b,rfl,⟨_,SqT.of hb⟩,fun D hD=>?_⟩;refine Jmx ((R.Bs.map (·.lo)).map V.int) hD (by simp [len]) (by rw [List.length_map]; omega) hb ?_ ?_
    ·intro i x y H' Q' hx hy sm k';obtain ⟨ob,B,rfl,hB,dx,hb,gs⟩:=(bl.same sm).get hx;rw [List.getElem?_map,List.getElem?_map,hB] at hy;cases hy;exact ⟨_,rfl,ob,_,dx,_,_,rfl,hb,T.Jdx,T.Je1,rfl,k' _ fun _ _ h=>h⟩
    intro H1 s1 hD1;refine ⟨_,rfl,o,_,dx,_,_,rfl,s1 _ _ ho,T.Jec,T.Jeh,rfl,b,rfl,⟨_,SqT.of (s1 _ _ hb)⟩,fun D2 hD2=>?_⟩;refine Jmx ((R.Bs.map (·.hi)).map V.int) hD2 (by simp [len]) (by rw [List.length_map]; omega) (s1 _ _ hb) ?_ ?_
    ·intro i x y H' Q' hx hy sm k';obtain ⟨ob,B,rfl,hB,dx,hb,gs⟩:=(bl.same (s1.trans sm)).get hx;rw [List.getElem?_map,List.getElem?_map,hB] at hy;cases hy;exact ⟨_,rfl,ob,_,dx,_,_,rfl,hb,T.Jdx,T.Je2,rfl,k' _ fun _ _ h=>h⟩
    intro H2 s2 hD3;exact ⟨u,r,D,D2,_,_,rfl,rt.same (s1.trans s2),s2 _ _ hD1,hD3,by simp,by rw [List.length_map]; omega,fun H3 s3=>k _ ((s1.trans s2).trans s3)⟩
end
section
variable {P : Program} {w : World} {K : W.Frag} {mg : Str → Option Value} {base : Heap} {a : Ad}
theorem Jui : Jkb ["river","thing"] ["river","thing"] (Jk6 (top 24)):=%[|0]
theorem Ju3 (T : Tx K mg a) : FnOk P w K mg base CX0 4 a.Jfy a.Jfz ["river","thing"] (Jze K a):=by
 have G_is_row_up_to:=%[Jo4|1];have G_is_pair:=%[Jsb|1];have G_is_whole:=%[Jlf|1];refine T.J7.fn.ok Jui (fun vs H Q E h=>?_) (fun cdv A outer s H vs Q E hr h=>?_)
 ·obtain ⟨o,R,x,r,rfl,_⟩:=h;rfl
 ·obtain ⟨o,R,x,r,rfl,ro,rx,k⟩:=h;refine ⟨?t,?B,?C⟩
  case B =>
   refine' Jk2 ?s1 ?r1
   case s1 =>
    refine' Jks ?c2 ?a2 ?b2
    case c2 =>
     exact (Jkp (Jkq (Jk5 T.J5 G_is_pair hr (by decide) (Jjz (pv 1) Jk1))))
    case a2 =>
     refine' Jk3 ?s3
     case s3 =>
      exact (Jkd Jlx)
    case b2 =>
     exact Jkg
   case r1 =>
    refine' Jk2 ?s7 ?r7
    case s7 =>
     refine' Jks ?c8 ?a8 ?b8
     case c8 =>
      exact (pw_and (Jl6 Ju8 (Jke Jkj (pv 1) Jk4 (fun _ _=>rfl)) Jnz (Jkt _)) (Ya1 (Jkp (Jkq (Jk5 T.J0 G_is_whole hr (by decide) (Jjz (Jke Jkj (pv 1) Jk4 (fun _ _=>rfl)) (Jjz Jk4 (Jjz (Jkh Jla (Jka Jkm (by rfl) T.Jap Jlh (Jjz (Jkn (pv 0) (by rfl)) Jk1)) Jk4) Jk1)))))))).pt
     case a8 =>
      refine' Jk3 ?s9
      case s9 =>
       exact (Jkd Jlx)
     case b8 =>
      exact Jkg
    case r7 =>
     refine' Jk3 ?s13
     case s13 =>
      exact (Jkd (Jk5 T.J4 G_is_row_up_to hr (by decide) (Jjz (Jke Jkj (pv 1) Jk4 (fun _ _=>rfl)) (Jjz (Jkz (N:=(["basin"] : List Str)) (ini:=[none]) rfl (Jsg (Jkn (pv 0) (by rfl))) (fun _ _ _ _ _=>(Jkc (i:=0) (by decide +kernel : (["basin"] : List Str).Nodup) rfl (Or.inl rfl))) (fun _ _ _ _ _=>Jkx) (fun _ _ _ _ _=>(Jkh Jla (Jw6 (P:=P) (w:=w) (K:=K) (mg:=mg) (base:=base) rfl rfl rfl rfl rfl (Jm8 (K:=K) rfl (pv 0) (by rfl)) hr) Jk4))) Jk1))))
  cases r with
  | no =>
   refine ⟨_,rfl,x,none,rfl,rx,_,rfl,Jlc ?_⟩;exact k _ fun _ _ h=>h
  | oth vs =>
   obtain ⟨p,rfl,hp,ne⟩:=rx;refine ⟨_,rfl,_,some vs,rfl,⟨p,rfl,hp⟩,_,rfl,ifT (by rw [show Jwy (some vs) = false from decide_eq_false ne]; rfl) ?_⟩;exact k _ fun _ _ h=>h
  | two u y r =>
   obtain ⟨p,rfl,hp,rt,ty⟩:=rx;obtain ⟨dx,b,t,os,ts,ho,hb,bl,ht,tl,n1,n2,n3⟩:=ro;refine ⟨_,rfl,_,some [u,y],rfl,⟨p,rfl,hp⟩,_,rfl,Jl1 ?_⟩;refine ⟨_,rfl,p,_,1,y,rfl,rfl,SqT.of hp,rfl,?_⟩;have len:=bl.len;have tlen:=tl.len;by_cases hy : y = .non
   ·have et : Jqa R.Ts.length y = true:=by rw [hy]; rfl
    refine ⟨rfl,_,rfl,ifF (by rw [decide_eq_true hy]; rfl) ?_⟩;refine Jl1 ?_;have e : chB R (.two u y r) = Jn5 r (List.replicate R.Bs.length 0) (R.Bs.map fun B=>(B.n : Int) - 1):=by
     show (Jqa R.Ts.length y && _) = _;rw [et,Bool.true_and]
    rw [e] at k;refine ⟨_,rfl,p,_,0,u,rfl,rfl,SqT.of hp,rfl,?_⟩;refine ⟨_,rfl,o,_,dx,_,_,rfl,ho,T.Jec,T.Jeh,rfl,b,rfl,⟨_,SqT.of hb⟩,fun D hD=>?_⟩;refine Jmx ((R.Bs.map fun B=>(B.n : Int) - 1).map V.int) hD (by simp [len]) (by rw [List.length_map]; omega) hb ?_ ?_
    ·intro i x y H' Q' hx hy sm k';obtain ⟨ob,B,rfl,hB,dx,hb,gs⟩:=(bl.same sm).get hx;rw [List.getElem?_map,List.getElem?_map,hB] at hy;cases hy;exact ⟨_,rfl,ob,_,dx,_,_,rfl,hb,T.Jdx,T.Je5,rfl,Jm6 T gs ⟨_,_,rfl,rfl,k' _ fun _ _ h=>h⟩ (by decide)⟩
    intro H1 s1 hD1;exact ⟨u,r,D,_,rfl,rt.same s1,hD1,by rw [List.length_map]; omega,fun H3 s3=>by rw [List.length_map]; exact k _ (s1.trans s3)⟩
   ·refine ⟨rfl,_,rfl,ifT (by rw [decide_eq_false hy]; rfl) ?_⟩;have eT : Jqa R.Ts.length y = Jkl y 0 ((R.Ts.length : Int) - 1):=by
     cases y <;> first | rfl | exact absurd rfl hy
    refine ⟨_,rfl,p,_,1,y,rfl,rfl,SqT.of hp,rfl,?_⟩;refine ⟨_,rfl,o,_,dx,_,_,rfl,ho,T.Jec,T.Jei,rfl,t,_,rfl,.inr (SqT.of ht),_,_,rfl,rfl,y,0,(R.Ts.length : Int) - 1,by rw [List.length_map,tlen]; rfl,ty,_,rfl,?_⟩;cases ew : Jkl y 0 ((R.Ts.length : Int) - 1) with
    | false =>
     have e : chB R (.two u y r) = false:=by
      show (Jqa R.Ts.length y && _) = false;rw [eT,ew,Bool.false_and]
     rw [e] at k;exact Jlc (k _ fun _ _ h=>h)
    | true =>
     have et:=eT.trans ew;refine Jl1 ?_;have e : chB R (.two u y r) = Jn5 r (List.replicate R.Bs.length 0) (R.Bs.map fun B=>(B.n : Int) - 1):=by
      show (Jqa R.Ts.length y && _) = _;rw [et,Bool.true_and]
     rw [e] at k;refine ⟨_,rfl,p,_,0,u,rfl,rfl,SqT.of hp,rfl,?_⟩;refine ⟨_,rfl,o,_,dx,_,_,rfl,ho,T.Jec,T.Jeh,rfl,b,rfl,⟨_,SqT.of hb⟩,fun D hD=>?_⟩;refine Jmx ((R.Bs.map fun B=>(B.n : Int) - 1).map V.int) hD (by simp [len]) (by rw [List.length_map]; omega) hb ?_ ?_
     ·intro i x y H' Q' hx hy sm k';obtain ⟨ob,B,rfl,hB,dx,hb,gs⟩:=(bl.same sm).get hx;rw [List.getElem?_map,List.getElem?_map,hB] at hy;cases hy;exact ⟨_,rfl,ob,_,dx,_,_,rfl,hb,T.Jdx,T.Je5,rfl,Jm6 T gs ⟨_,_,rfl,rfl,k' _ fun _ _ h=>h⟩ (by decide)⟩
     intro H1 s1 hD1;exact ⟨u,r,D,_,rfl,rt.same s1,hD1,by rw [List.length_map]; omega,fun H3 s3=>by rw [List.length_map]; exact k _ (s1.trans s3)⟩
end
noncomputable def Jnw (R : Riv) (wet : Int) : Int :=
 if (R.Bs.map (·.rn)).sum < (if 0 > wet + R.g - R.c then 0 else wet + R.g - R.c) then (R.Bs.map (·.rn)).sum else (if 0 > wet + R.g - R.c then 0 else wet + R.g - R.c)
noncomputable def Jzf (K : W.Frag) (a : Ad) : Sp:=fun vs H Q _=>∃ (o : Addr) (R : Riv) (wet : Int),vs = [.ref o,.int wet] ∧ RivAt K a H o R ∧ ∀ H', Same H H' → Q (.int (Jnw R wet)) H'
theorem Jy0 {Bs : List Bsn} (n1 : Bs.length ≤ 16) (n3 : ∀ B ∈ Bs,0 ≤ B.rn ∧ B.rn ≤ 6) : Sml (Bs.map (·.rn)):=by
 refine ⟨by rw [List.length_map]; omega,fun n hn=>?_⟩;obtain ⟨B,hB,rfl⟩:=List.mem_map.mp hn;have:=n3 B hB;omega
noncomputable def Jr4 : V → Int
 | .int i=>i
 | _=>0
noncomputable def Jsq : Pr → Int
 | .two _ w _=>Jr4 w
 | _=>0
noncomputable def Jum (vs : List V) : Int:=(vs.map Jr4).sum
noncomputable def rnB (R : Riv) (wet : Int) : Option (List V) → Bool
 | some vs=>Jn5 (some vs) (List.replicate R.Bs.length 0) (R.Bs.map (·.rn)) && (decide (Jnw R wet ≤ Jum vs) && decide (Jum vs ≤ wet))
 | none=>false
noncomputable def spRain (K : W.Frag) (a : Ad) : Sp:=fun vs H Q E=>∃ (o : Addr) (R : Riv) (z : V) (q : Pr) (x : V) (r : Option (List V)),vs = [.ref o,z,x] ∧ RivAt K a H o R ∧ PrT K H z q ∧ RowT K H x r ∧
 (if stB R q = true then ∀ H', Same H H' → Q (.bl (rnB R (Jsq q) r)) H' else ∀ c eo H', RfC a.Jjm H H' z c eo → E c eo H')
theorem st_wet {R : Riv} {q : Pr} (h : stB R q = true) : ∃ u wt rr,q = .two u (.int wt) rr ∧ (0 ≤ wt ∧ wt ≤ R.c):=by
 cases q with
 | no=>cases h
 | oth vs=>cases h
 | two u w r =>
  have h1 : Jkl w 0 R.c = true:=by
   cases e : Jkl w 0 R.c with
   | true=>rfl
   | false =>
    have : (Jkl w 0 R.c && Jn5 r (R.Bs.map (·.lo)) (R.Bs.map (·.hi))) = true:=h;rw [e,Bool.false_and] at this;exact this
  obtain ⟨i,rfl⟩:=Jns h1;refine ⟨u,i,r,rfl,?_⟩;have h2 : (decide (0 ≤ i) && decide (i ≤ R.c)) = true:=h1;simpa using h2
theorem Jx8 : ∀ {vs : List V} {n : Nat} {hs : List Int},vs.length = n → n = hs.length → (wl vs (List.replicate n 0) hs).all id = true → ∃ ns : List Int,vs = ns.map V.int ∧ ns.length = n ∧ ∀ k ∈ ns,0 ≤ k ∧ ∃ h ∈ hs,k ≤ h
 | [],_,_,e,_,_=>⟨[],rfl,e,fun _ h=>nomatch h⟩
 | _ :: _,0,_,e,_,_=>by simp at e
 | _ :: _,_ + 1,[],_,e,_=>by simp at e
 | v :: vs,n + 1,h :: hs,e1,e2,a=>by
  have a' : (Jkl v 0 h && (wl vs (List.replicate n 0) hs).all id) = true:=a;rw [Bool.and_eq_true] at a';obtain ⟨ns,rfl,l,q⟩:=Jx8 (vs:=vs) (n:=n) (hs:=hs) (by simpa using e1) (by simpa using e2) a'.2;obtain ⟨i,rfl⟩:=Jns a'.1;have h2 : (decide (0 ≤ i) && decide (i ≤ h)) = true:=a'.1;have h3 : 0 ≤ i ∧ i ≤ h:=by simpa using h2
  refine ⟨i :: ns,rfl,by rw [List.length_cons,l],fun k hk=>?_⟩;rcases List.mem_cons.mp hk with rfl | hk
  ·exact ⟨h3.1,h,List.mem_cons_self ..,h3.2⟩
  ·obtain ⟨g1,x,hx,g2⟩:=q k hk;exact ⟨g1,x,List.mem_cons_of_mem _ hx,g2⟩
theorem Jvc {R : Riv} {r : Option (List V)} (h : Jn5 r (List.replicate R.Bs.length 0) (R.Bs.map (·.rn)) = true) (n1 : R.Bs.length ≤ 16) (n3 : ∀ B ∈ R.Bs,0 ≤ B.rn ∧ B.rn ≤ 6) : ∃ (vs : List V) (ns : List Int),r = some vs ∧ vs = ns.map V.int ∧ Sml ns:=by
 cases r with
 | none=>cases h
 | some vs =>
  have h' : (decide (vs.length = (List.replicate R.Bs.length (0 : Int)).length) && (wl vs (List.replicate R.Bs.length 0) (R.Bs.map (·.rn))).all id) = true:=h;rw [Bool.and_eq_true] at h';have e1 : vs.length = R.Bs.length:=by simpa using h'.1
  obtain ⟨ns,rfl,l,q⟩:=Jx8 e1 (by simp) h'.2;refine ⟨_,ns,rfl,rfl,by omega,fun n hn=>?_⟩;obtain ⟨g1,x,hx,g2⟩:=q n hn;obtain ⟨B,hB,rfl⟩:=List.mem_map.mp hx;have:=n3 B hB;omega
theorem Jtn (ns : List Int) : Jum (ns.map V.int) = ns.sum:=by
 show ((ns.map V.int).map Jr4).sum = _;rw [List.map_map];congr 1;exact (List.map_congr_left fun _ _=>rfl).trans (List.map_id _)
section
variable {P : Program} {w : World} {K : W.Frag} {mg : Str → Option Value} {base : Heap} {a : Ad}
theorem sc_forced_rain : Jkb ["river","wet","too_many"] ["river","wet"] (Jk6 (top 25)):=%[|0]
theorem Js9 (T : Tx K mg a) : FnOk P w K mg base CX0 1 a.Jg0 a.Jg1 ["river","wet"] (Jzf K a):=by
 refine T.J8.fn.ok sc_forced_rain (fun vs H Q E h=>?_) (fun cdv A outer s H vs Q E hr h=>?_)
 ·obtain ⟨o,R,wet,rfl,_⟩:=h;rfl
 ·obtain ⟨o,R,wet,rfl,ro,k⟩:=h;refine ⟨?t,?B,?C⟩
  case B =>
   refine' Jk2 ?s1 ?r1
   case s1 =>
    exact (Jki (i:=2) sc_forced_rain.nd rfl (Or.inl rfl) (Jka (Jmf rfl) (by rfl) T.Jar Jpb (Jjz (Jkh Jla (Jkh Jkv (pv 1) (Jkn (pv 0) (by rfl))) (Jkn (pv 0) (by rfl))) (Jjz Jk4 Jk1))))
   case r1 =>
    refine' Jk3 ?s3
    case s3 =>
     exact (Jkd (Jka (Jm0 rfl) (by rfl) T.Jas Jnt (Jjz (pv 2) (Jjz (Jka (Jm4 rfl) (by rfl) T.Jaw Jnc (Jjz (Jkz (N:=(["basin"] : List Str)) (ini:=[none]) rfl (Jsg (Jkn (pv 0) (by rfl))) (fun _ _ _ _ _=>(Jkc (i:=0) (by decide +kernel : (["basin"] : List Str).Nodup) rfl (Or.inl rfl))) (fun _ _ _ _ _=>Jkx) (fun _ _ _ _ _=>(Jm8 (K:=K) rfl (pv 0) (by rfl)))) Jk1)) Jk1))))
  obtain ⟨dx,b,t,os,ts,ho,hb,bl,ht,tl,n1,n2,n3⟩:=ro;have len:=bl.len;refine ⟨_,rfl,_,rfl,o,_,dx,_,_,rfl,ho,T.Jec,T.Jeg,rfl,_,_,rfl,rfl,?_⟩;refine ⟨_,rfl,o,_,dx,_,_,rfl,ho,T.Jec,T.Jef,rfl,_,_,rfl,rfl,_,_,rfl,?_⟩;refine ⟨_,rfl,_,rfl,o,_,dx,_,_,rfl,ho,T.Jec,T.Jeh,rfl,b,rfl,⟨_,SqT.of hb⟩,fun D hD=>?_⟩;refine Jmx ((R.Bs.map (·.rn)).map V.int) hD (by simp [len]) (by rw [List.length_map]; omega) hb ?_ ?_
  ·intro i x y H' Q' hx hy sm k';obtain ⟨ob,B,rfl,hB,dx,hb,gs⟩:=(bl.same sm).get hx;rw [List.getElem?_map,List.getElem?_map,hB] at hy;cases hy;exact ⟨_,rfl,ob,_,dx,_,_,rfl,hb,T.Jdx,T.Je4,rfl,k' _ fun _ _ h=>h⟩
  intro H1 s1 hD1;exact ⟨D,_,rfl,.inl (SqL.of hD1),Jy0 n1 n3,_,_,rfl,k _ s1⟩
theorem Jo1 : Jkb ["self","thing"] ["self","thing"] (Jk6 (Jk9 (top 9) 0)):=%[|0]
theorem Jn0 (T : Tx K mg a) : FnOk P w K mg base CX0 1 a.Jfc a.Jfd ["self","thing"] (Jmn K "thing"):=by
 refine T.Jbo.fn.ok Jo1 (fun vs H Q E h=>?_) (fun cdv A outer s H vs Q E hr h=>?_)
 ·obtain ⟨e,C,W,fI,y,rfl,_⟩:=h;rfl
 ·obtain ⟨e,C,W,fI,y,rfl,q,c,n,k⟩:=h;refine ⟨_,(Jk3 (Jmm (pv 0) (pv 1) rfl)),?_⟩;exact ⟨_,rfl,_,rfl,e,C,W,fI,true,rfl,q,c,n,k⟩
theorem Jwa : Jkb ["river","standing","thing"] ["river","standing","thing"] (Jk6 (top 26)):=%[|0]
theorem Jw0 (T : Tx K mg a) : FnOk P w K mg base (CXX P w) 4 a.Jg2 a.Jg3 ["river","standing","thing"] (spRain K a):=by
 have G_is_row_up_to:=%[Jo4|1];have G_is_standing:=%[Jn1|1];have G_forced_rain:=%[Js9|1];have G_NoStanding___init__:=%[Jn0|1];refine T.J9.fn.okX Jwa (fun vs H Q E h=>?_) (fun cdv A outer s H vs Q E hr h=>?_)
 ·obtain ⟨o,R,z,q,x,r,rfl,_⟩:=h;rfl
 ·obtain ⟨o,R,z,q,x,r,rfl,ro,pz,rx,k⟩:=h;refine ⟨?t,?B,?C⟩
  case B =>
   refine' Jk2 ?s1 ?r1
   case s1 =>
    refine' Jks ?c2 ?a2 ?b2
    case c2 =>
     exact (Jkp (Jkq (Jk5 T.J6 G_is_standing hr (by decide) (Jjz (pv 0) (Jjz (pv 1) Jk1)))))
    case a2 =>
     refine' Jk3 ?s3
     case s3 =>
      exact (Jl4 Jl5 rfl (Jlr T.Jcl G_NoStanding___init__ hr (by decide) T.Jbo.bd T.Jb5 (Jjz (pv 1) Jk1)))
    case b2 =>
     exact Jkg
   case r1 =>
    refine' Jk2 ?s6 ?r6
    case s6 =>
     refine' Jks ?c7 ?a7 ?b7
     case c7 =>
      exact (Jkp (Jkq (Jk5 T.J4 G_is_row_up_to hr (by decide) (Jjz (pv 2) (Jjz (Jkz (N:=(["basin"] : List Str)) (ini:=[none]) rfl (Jsg (Jkn (pv 0) (by rfl))) (fun _ _ _ _ _=>(Jkc (i:=0) (by decide +kernel : (["basin"] : List Str).Nodup) rfl (Or.inl rfl))) (fun _ _ _ _ _=>Jkx) (fun _ _ _ _ _=>(Jm8 (K:=K) rfl (pv 0) (by rfl)))) Jk1)))))
     case a7 =>
      refine' Jk3 ?s8
      case s8 =>
       exact (Jkd Jlx)
     case b7 =>
      exact Jkg
    case r6 =>
     refine' Jk3 ?s12
     case s12 =>
      exact (Jkd (Jsf Jo5 Jo5 (Jk5 T.J8 G_forced_rain hr (by decide) (Jjz (pv 0) (Jjz (Jke Jkj (pv 1) Jk4 (fun _ _=>rfl)) Jk1))) (Jka (Jm4 rfl) (by rfl) T.Jaw Jnc (Jjz (pv 2) Jk1)) (Jke Jkj (pv 1) Jk4 (fun _ _=>rfl))))
  refine ⟨_,rfl,_,rfl,o,R,z,q,rfl,ro,pz,fun H1 s1=>⟨_,rfl,?_⟩⟩;cases es : stB R q with
  | false =>
   rw [es] at k;exact Jlc (Jll T.Jcl T.Jcm rfl fun e dx h1 h2 h3=>k _ _ _ ((RfC.new h1 h2 h3).of s1))
  | true =>
   rw [if_pos es] at k;obtain ⟨u,wt,rr,rfl,ew⟩ : ∃ u wt rr,q = .two u (.int wt) rr ∧ (0 ≤ wt ∧ wt ≤ R.c):=st_wet es;obtain ⟨p,rfl,hp,_,_⟩:=pz;obtain ⟨dx,b,t,os,ts,ho,hb,bl,ht,tl,n1,n2,n3⟩:=ro.same s1;have len:=bl.len;refine Jl1 ⟨_,rfl,_,rfl,o,_,dx,_,_,rfl,ho,T.Jec,T.Jeh,rfl,b,rfl,⟨_,SqT.of hb⟩,fun D hD=>?_⟩;refine Jmx ((R.Bs.map (·.rn)).map V.int) hD (by simp [len]) (by rw [List.length_map]; omega) hb ?_ ?_
   ·intro i x y H' Q' hx hy sm k';obtain ⟨ob,B,rfl,hB,dx,hb,gs⟩:=(bl.same sm).get hx;rw [List.getElem?_map,List.getElem?_map,hB] at hy;cases hy;exact ⟨_,rfl,ob,_,dx,_,_,rfl,hb,T.Jdx,T.Je4,rfl,k' _ fun _ _ h=>h⟩
   intro H2 s2 hD1;refine ⟨x,r,D,_,rfl,rx.same (s1.trans s2),hD1,by rw [List.length_map]; omega,fun H3 s3=>⟨_,rfl,?_⟩⟩;rw [List.length_map];have s13:=(s1.trans s2).trans s3;cases er : Jn5 r (List.replicate R.Bs.length 0) (R.Bs.map (·.rn)) with
   | false =>
    have e : rnB R (Jsq (.two u (.int wt) rr)) r = false:=by
     cases r with
     | none=>rfl
     | some vs =>
      show (Jn5 (some vs) _ _ && _) = false;rw [er,Bool.false_and]
    rw [e] at k;exact Jlc (k _ s13)
   | true =>
    obtain ⟨vs,ns,rfl,rfl,hns⟩:=Jvc er n1 n3;obtain ⟨px,rfl,hpx,_,_⟩:=rx;refine Jl1 ⟨_,rfl,_,rfl,p,_,1,_,rfl,rfl,SqT.of (s13 _ _ hp),rfl,o,R,wt,rfl,ro.same s13,fun H4 s4=>?_⟩;have s14:=s13.trans s4;refine ⟨_,rfl,px,ns,rfl,.inr (SqT.of (s14 _ _ hpx)),hns,?_⟩;have e : rnB R (Jsq (.two u (.int wt) rr)) (some (ns.map V.int)) = (decide (Jnw R wt ≤ ns.sum) && decide (ns.sum ≤ wt)):=by
     show (Jn5 (some (ns.map V.int)) _ _ && (decide (Jnw R wt ≤ Jum (ns.map V.int)) && decide (Jum (ns.map V.int) ≤ wt))) = _;rw [er,Bool.true_and,Jtn]
    rw [e] at k;refine ⟨_,_,rfl,rfl,_,rfl,?_⟩;cases ef : decide (Jnw R wt ≤ ns.sum) with
    | false =>
     rw [ef,Bool.false_and] at k;exact Jl1 (k _ s14)
    | true =>
     rw [ef,Bool.true_and] at k;exact Jlc ⟨_,rfl,p,_,1,_,rfl,rfl,SqT.of (s14 _ _ hp),rfl,_,_,rfl,rfl,k _ s14⟩
end
structure Ltr (n : Nat) (z : Str) : Prop where
 len : z.length ≤ n
 inn : ∀ c ∈ z.cps.toList,c ∈ LET.cps.toList
theorem Ltr.app {n m : Nat} {x y : Str} (a : Ltr n x) (b : Ltr m y) : Ltr (n + m) (x ++ y):=by
 refine ⟨by rw [Str.length_append]; have:=a.len; have:=b.len; omega,fun c hc=>?_⟩;have e : (x ++ y).cps = x.cps ++ y.cps:=rfl;rw [e,Array.toList_append,List.mem_append] at hc;exact hc.elim (a.inn c) (b.inn c)
theorem Ltr.wd {n : Nat} {z : Str} (a : Ltr n z) : Wd n z:=⟨a.len,fun c hc=>wd_let.low c (a.inn c hc)⟩
theorem Ltr.sign {c : Nat} (h : c ∈ LET.cps.toList) : Ltr 1 (⟨#[c]⟩ : Str):=⟨Nat.le_refl 1,fun d hd=>by
 have : d = c:=by simpa using hd
 rw [this]; exact h⟩
theorem Jyv (ys : List Str) (h : ∀ y ∈ ys,Ltr 1 y) : Ltr ys.length (Txt.join ("" : Str) ys):=by
 have e0 : ∀ l : List Str,(∀ y ∈ l,Ltr 1 y) → Ltr l.length (Str.join ("" : Str) l):=by
  intro l
  induction l with
  | nil=>intro _; exact ⟨Nat.le_refl _,fun c hc=>by simp [Str.join,Str.empty] at hc⟩
  | cons y r ih =>
   intro hy;have hr:=ih fun z hz=>hy z (List.mem_cons_of_mem _ hz);have h1:=hy y List.mem_cons_self;cases r with
   | nil=>exact h1
   | cons z r' =>
    have : Str.join ("" : Str) (y :: z :: r') = y ++ ("" : Str) ++ Str.join ("" : Str) (z :: r'):=rfl;rw [this];have hE : Ltr 0 ("" : Str):=⟨by decide +kernel,fun c hc=>absurd hc (by
     have : ("" : Str).cps.toList = []:=by decide +kernel
     rw [this]; simp)⟩
    have q:=(h1.app hE).app hr;exact ⟨Nat.le_trans q.len (by simp only [List.length_cons]; omega),q.inn⟩
 have e1 : Txt.join ("" : Str) ys = Str.join ("" : Str) ys:=by
  have:=join_plain_closes ("" : Str) ys;exact beq_iff_eq.mp this
 rw [e1];exact e0 ys h
noncomputable def NmK (f : Int) (k : Nat) (z : Str) : Prop:=∃ (c : Nat) (s : Str),z = (⟨#[c]⟩ : Str) ++ s ∧ Ltr 7 s ∧ atI LET.cps.toList ((f + 11 * (k : Int)) % 26) = some c
theorem NmK.mem {f : Int} {k : Nat} {z : Str} (h : NmK f k z) : Ltr 8 z ∧ Joe z = true:=by
 obtain ⟨c,s,rfl,hs,hc⟩:=h;have hl : LET.length = 26:=by decide +kernel
 obtain ⟨c', m,e⟩:=Jvp (g:=LET) (r:=(f + 11 * (k : Int)) % 26) (by omega) (by rw [hl]; omega);rw [hc] at e;cases e;have q:=(Ltr.sign m).app hs;refine ⟨q,?_⟩;unfold Joe Jtb;rw [Bool.and_eq_true];refine ⟨decide_eq_true ⟨?_,q.len⟩,List.all_eq_true.mpr fun d hd=>decide_eq_true (q.inn d hd)⟩;rw [Str.length_append];show 1 ≤ 1 + s.length;omega
theorem Yn {i j : Int} {c : Nat} (i0 : 0 ≤ i) (i1 : i < 26) (j0 : 0 ≤ j) (j1 : j < 26) (hi : atI LET.cps.toList i = some c) (hj : atI LET.cps.toList j = some c) : i = j:=by
 have all : (List.range 26).all (fun p=>(List.range 26).all fun q=>decide (p = q) || !decide (atI LET.cps.toList (p : Int) = atI LET.cps.toList (q : Int))) = true:=by decide +kernel
 obtain ⟨p,rfl⟩:=Int.eq_ofNat_of_zero_le i0;obtain ⟨q,rfl⟩:=Int.eq_ofNat_of_zero_le j0;have h1:=List.all_eq_true.mp all p (List.mem_range.mpr (by omega));have h2:=List.all_eq_true.mp h1 q (List.mem_range.mpr (by omega));rw [hi,hj] at h2;simp at h2;rw [h2]
theorem NmK.ne {f : Int} {j k : Nat} {z : Str} (hj : j < 26) (hk : k < 26) (a : NmK f j z) (b : NmK f k z) : j = k:=by
 obtain ⟨c,s,rfl,_,h1⟩:=a;obtain ⟨d,t,e,_,h2⟩:=b;have e1 : ((⟨#[c]⟩ : Str) ++ s).cps.toList = ((⟨#[d]⟩ : Str) ++ t).cps.toList:=by rw [e]
 have e2 : ∀ (x : Nat) (y : Str),((⟨#[x]⟩ : Str) ++ y).cps.toList = x :: y.cps.toList:=fun x y=>by
  show (#[x] ++ y.cps).toList = _;rw [Array.toList_append];rfl
 rw [e2,e2] at e1;cases List.head_eq_of_cons_eq e1;have:=Yn (by omega) (by omega) (by omega) (by omega) h1 h2;omega
noncomputable def Nms (f : Int) (zs : List Str) : Prop:=∀ k z,zs[k]? = some z → NmK f k z
theorem Nms.nodup {f : Int} {zs : List Str} (h : Nms f zs) (hl : zs.length ≤ 26) : zs.Nodup:=by
 unfold List.Nodup;rw [List.pairwise_iff_getElem];intro i j hi hj hij e;have a:=h i zs[i] (List.getElem?_eq_getElem hi);have b:=h j zs[j] (List.getElem?_eq_getElem hj);rw [← e] at b;have:=NmK.ne (by omega) (by omega) a b;omega
theorem Juw (ys : List Str) (lo hi : Option Int) : ∃ us : List Str,Jrz (ys.map V.str) lo hi = us.map V.str ∧ us.Sublist ys:=by
 unfold Jrz;refine ⟨(ys.drop (HT.sIx (ys.map V.str).length 0 lo)).take (HT.sIx (ys.map V.str).length (ys.map V.str).length hi - HT.sIx (ys.map V.str).length 0 lo),?_,(List.take_sublist _ _).trans (List.drop_sublist _ _)⟩;rw [List.map_take,List.map_drop]
noncomputable def Yag : Sp:=fun vs H Q _=>∃ (p : Addr) (m : Nat),vs = [.ref p,.int m] ∧ Strm H p ∧ m ≤ 26 ∧ ∀ (l : Addr) (f : Int) (zs : List Str) (H' : Hp),H l = none → But p H H' → H' l = some (.lst (zs.map V.str)) → zs.length = m → Nms f zs → Q (.ref l) H'
section
variable {P : Program} {w : World} {K : W.Frag} {mg : Str → Option Value} {base : Heap} {a : Ad}
theorem sc_law_names : Jkb ["_law_stream_here","_law_many","_law_letters","_law_first","_law_base","_law_cut"] ["_law_stream_here","_law_many"] (Jk6 (top 67)):=%[|0]
theorem Ju5 (T : Tx K mg a) : FnOk P w K mg base CX0 2 a.Ji6 a.Ji7 ["_law_stream_here","_law_many"] Yag:=by
 have G__law_take:=%[Jlw|1];refine T.Js.fn.ok sc_law_names (fun vs H Q E h=>?_) (fun cdv A outer s H vs Q E hr h=>?_)
 ·obtain ⟨p,m,rfl,_⟩:=h;rfl
 ·obtain ⟨p,m,rfl,st,hm,k⟩:=h;refine ⟨?t,?B,?C⟩
  case B =>
   refine' Jk2 ?s1 ?r1
   case s1 =>
    exact (Jki (i:=2) sc_law_names.nd rfl (Or.inr rfl) Jn4)
   case r1 =>
    refine' Jk2 ?s3 ?r3
    case s3 =>
     exact (Jki (i:=3) sc_law_names.nd rfl (Or.inr rfl) (Jk5 T.Jr G__law_take hr (by decide) (Jjz (pv 0) (Jjz Jk4 Jk1))))
    case r3 =>
     refine' Jk2 ?s5 ?r5
     case s5 =>
      exact (Jki (i:=4) sc_law_names.nd rfl (Or.inr rfl) (Jkz (N:=(["_law_k","_law_letters","_law_stream_here"] : List Str)) (ini:=[none,some 2,some 0]) rfl (Jnr (by rfl) T.Jat (Jjz Jk4 Jk1)) (fun _ _ _ _ _=>(Jkc (i:=0) (by decide +kernel : (["_law_k","_law_letters","_law_stream_here"] : List Str).Nodup) rfl (Or.inl rfl))) (fun _ _ _ _ _=>Jkx) (fun _ _ _ _ _=>(Jke Jyu (pv 1) (Jk5 T.Jr G__law_take hr (by decide) (Jjz (pv 2) (Jjz Jk4 Jk1))) (fun _ _=>rfl)))))
     case r5 =>
      refine' Jk2 ?s7 ?r7
      case s7 =>
       exact (Jki (i:=5) sc_law_names.nd rfl (Or.inr rfl) (Jk5 T.Jr G__law_take hr (by decide) (Jjz (pv 0) (Jjz Jk4 Jk1))))
      case r7 =>
       refine' Jk3 ?s9
       case s9 =>
        exact (Jkd (Jkz (N:=(["_law_k","_law_letters","_law_base","_law_first","_law_cut"] : List Str)) (ini:=[none,some 2,some 4,some 3,some 5]) rfl (Jnr (by rfl) T.Jat (Jjz (pv 1) Jk1)) (fun _ _ _ _ _=>(Jkc (i:=0) (by decide +kernel : (["_law_k","_law_letters","_law_base","_law_first","_law_cut"] : List Str).Nodup) rfl (Or.inl rfl))) (fun _ _ _ _ _=>Jkx) (fun _ _ _ _ _=>(Jkh Jw3 (Jke Jyu (pv 1) (Jkh Joj (Jkh Jkv (pv 3) (Jkh Jok Jk4 (pv 0))) Jk4) (fun _ _=>rfl)) (pe_bmK (K:=K) rfl F.plainAttrs_str F.slot_str_join F.type_str_join (Jyz (K:=K) rfl) Jn4 (Jjz (Jol (Jza (K:=K) rfl) (pv 2) Jq2 (Jq3 (Jkh Joj (Jkh Jkv (pv 4) (Jkh Jok Jk4 (pv 0))) Jk4))) Jk1))))))
  refine ⟨_,rfl,p,26,rfl,st,by decide,by decide,fun f H1 f0 f1 b1=>⟨_,rfl,by omega,by omega,fun D hD=>?_⟩⟩;have neD : D ≠ p:=b1.2.ne hD;refine Jry (D:=D) (fun i σ H'=>∃ (o : Option V) (ys : List Str),σ = [o,some (.str LET),some (.ref p)] ∧ H' D = some (.lst (ys.map V.str)) ∧ ys.length = i ∧ (∀ y ∈ ys,Ltr 1 y) ∧ But p H1 H')
   ?_ ?_ ?_
  ·exact ⟨none,[],rfl,Jk0,rfl,(fun y hy=>absurd hy (by simp)),But.of b1.2 (Same.upd hD)⟩
  ·rintro i σ H' hi ⟨o,ys,rfl,hDs,hl,hw,b⟩;refine Jlm ⟨_,rfl,_,rfl,p,26,rfl,b.2,by decide,by decide,fun r H2 r0 r1 b2=>?_⟩;obtain ⟨c,hc,hat⟩:=Jvp (g:=LET) r0 (by
    have : LET.length = 26:=by decide +kernel
    omega)
   refine ⟨LET,r,c,rfl,rfl,Jmy _ (by decide +kernel),hat,ys.map V.str,b2.1 D _ neD hDs,?_,_,ys ++ [⟨#[c]⟩],rfl,?_,?_,?_,(b.trans b2).new hD b1.2⟩
   ·rw [List.length_map];exact Jl0 (by omega)
   ·rw [Jk0,List.map_append];rfl
   ·rw [List.length_append];show ys.length + 1 = i + 1;omega
   ·intro y hy;rcases List.mem_append.mp hy with hy | hy
    ·exact hw y hy
    ·rw [List.mem_singleton.mp hy];exact Ltr.sign hc
  rintro σ H2 ⟨o,ys,rfl,hDs,hl,hw,b⟩;have b2:=b1.trans b;refine ⟨_,rfl,p,8,rfl,b2.2,by decide,by decide,fun ct H3 c0 c1 b3=>?_⟩;have hD3:=b3.1 D _ neD hDs;have b4:=b2.trans b3;refine ⟨_,rfl,_,rfl,by omega,by omega,fun D2 hD2=>?_⟩;have ne2 : D ≠ D2:=fun e=>by rw [e,hD2] at hD3; cases hD3
  refine Jry (D:=D2) (fun i σ H'=>∃ (o : Option V) (zs : List Str),σ = [o,some (.str LET),some (.ref D),some (.int f),some (.int ct)] ∧ H' D2 = some (.lst (zs.map V.str)) ∧ zs.length = i ∧ Nms f zs ∧ Same H3 H')
   ⟨none,[],rfl,Jk0,rfl,fun k z e=>by simp at e,Same.upd hD2⟩ ?_ ?_
  ·rintro i σ H' hi ⟨o,zs,rfl,hDs2,hl2,hz,sm⟩;obtain ⟨c,hc,hat⟩:=Jvp (g:=LET) (r:=(f + 11 * (0 + (i : Int))) % 26) (by omega) (by
    have : LET.length = 26:=by decide +kernel
    omega)
   refine Jlm ⟨_,rfl,_,rfl,_,rfl,_,_,rfl,rfl,.inl (by decide),_,_,rfl,rfl,_,_,rfl,rfl,(show (0 : Int) < 26 by decide),LET,_,c,rfl,rfl,Jmy _ (by decide +kernel),hat,?_⟩;refine ⟨rfl,_,rfl,_,rfl,_,rfl,_,_,rfl,rfl,.inl (by decide),_,_,rfl,rfl,_,_,rfl,rfl,(show (0 : Int) < 8 by decide),_,rfl,D,_,rfl,SqL.of (sm _ _ hD3),fun q hq=>?_⟩;obtain ⟨us,eu,hus⟩:=Juw ys none (some ((ct + 3 * (0 + (i : Int))) % 8));have hu1 : ∀ y ∈ us,Ltr 1 y:=fun y hy=>hw y (hus.subset hy);have hul : us.length ≤ 7:=by
    have:=hus.length_le;omega
   have hs1:=Jx4 us fun y hy=>(hu1 y hy).wd;have jl:=Jyv us hu1;have sq:=Same.upd (o:=.lst (Jrz (ys.map V.str) none (some ((ct + 3 * (0 + (i : Int))) % 8)))) hq;refine ⟨"",q,us,rfl,rfl,SqL.of (by rw [Jk0,eu]),?_,_,_,rfl,rfl,?_,_,sq _ _ hDs2,?_,_,zs ++ [(⟨#[c]⟩ : Str) ++ Txt.join ("" : Str) us],rfl,?_,?_,?_,?_⟩
   ·have : ("" : Str).length = 0:=by decide +kernel
    rw [this];omega
   ·have:=jl.len;show 1 + _ ≤ sizeLine;exact Jmy _ (by omega)
   ·rw [List.length_map];exact Jl0 (by omega)
   ·rw [Jk0,List.map_append];rfl
   ·rw [List.length_append];show zs.length + 1 = i + 1;omega
   ·intro j z ej;rw [List.getElem?_append] at ej;split at ej
    ·exact hz j z ej
    ·have hj : j = i:=by
      have:=(List.getElem?_eq_some_iff.mp ej).1;simp at this;omega
     subst hj;rw [hl2,Nat.sub_self] at ej;cases ej;refine ⟨c,_,rfl,⟨Nat.le_trans jl.len hul,jl.inn⟩,?_⟩;rw [← hat,Int.zero_add]
   ·intro b o e;rw [Jk7 (Jk8 e hD2)];exact sq _ _ (sm _ _ e)
  ·rintro σ H4 ⟨o,zs,rfl,hDs2,hl2,hz,sm⟩;have hn : H D2 = none:=by
    cases e : H D2 with
    | none=>rfl
    | some u =>
     by_cases hp : D2 = p
     ·subst hp;obtain ⟨_,_,_,q⟩:=b4.2;rw [hD2] at q;cases q
     ·rw [b4.1 _ _ hp e] at hD2;cases hD2
   exact k D2 f zs H4 hn (b4.same sm) hDs2 (by omega) hz
end
theorem Jr9 : ∀ (ns : List Int) (lo m n : Int),Jli lo (ns.map V.int) = true → ns.getLast? = some m → m + 1 ≤ n → n ≤ 12 → Jli lo ((ns ++ [n]).map V.int) = true
 | [],_,_,_,_,h,_,_=>by simp at h
 | [x],lo,m,n,h,hl,h1,h2=>by
  have e : x = m:=by simpa using hl
  subst e;simp [Jli] at h ⊢;omega
 | x :: y :: r,lo,m,n,h,hl,h1,h2=>by
  have hl' : (y :: r).getLast? = some m:=by simpa using hl
  have h' : ((decide (lo ≤ x) && decide (x ≤ 12)) && Jli (x + 1) ((y :: r).map V.int)) = true:=h;rw [Bool.and_eq_true] at h';have ih:=Jr9 (y :: r) (x + 1) m n h'.2 hl' h1 h2;show ((decide (lo ≤ x) && decide (x ≤ 12)) && Jli (x + 1) (((y :: r) ++ [n]).map V.int)) = true;rw [h'.1,ih];rfl
theorem Jr8 : ∀ (ns : List Int) (lo m : Int),Jli lo (ns.map V.int) = true → ns.getLast? = some m → lo ≤ m ∧ m ≤ 12
 | [],_,_,_,h=>by simp at h
 | [x],lo,m,h,hl=>by
  have e : x = m:=by simpa using hl
  subst e;simpa [Jli] using h
 | x :: y :: r,lo,m,h,hl=>by
  have hl' : (y :: r).getLast? = some m:=by simpa using hl
  have h' : ((decide (lo ≤ x) && decide (x ≤ 12)) && Jli (x + 1) ((y :: r).map V.int)) = true:=h;rw [Bool.and_eq_true,Bool.and_eq_true,decide_eq_true_eq,decide_eq_true_eq] at h';have ih:=Jr8 (y :: r) (x + 1) m h'.2 hl';omega
structure Jko where
 kd : Str
 ns : List Int
 sv : Option Int
noncomputable def svV : Option Int → V
 | some i=>.int i
 | none=>.non
structure GGood (G : Jko) : Prop where
 kd : Knd G.kd
 ns : Jo6 (Jmg G.kd) (G.ns.map V.int) = true
 sv : ∀ i,G.sv = some i → 0 ≤ i ∧ i < G.ns.length
noncomputable def GTAt (p : Addr) (H : Hp) (x : V) (G : Jko) : Prop:=∃ t m : Addr,x = .ref t ∧ H t = some (.tup [.str G.kd,.ref m,svV G.sv]) ∧ H m = some (.lst (G.ns.map V.int)) ∧ m ≠ p
theorem GTAt.same {p : Addr} {H H' : Hp} {x : V} {G : Jko} (s : Same H H') (h : GTAt p H x G) : GTAt p H' x G:=by obtain ⟨t,m,e,h1,h2,n⟩:=h; exact ⟨t,m,e,s _ _ h1,s _ _ h2,n⟩
theorem GTAt.but {p : Addr} {H H' : Hp} {x : V} {G : Jko} (st : Strm H p) (b : But p H H') (h : GTAt p H x G) : GTAt p H' x G :=by
 obtain ⟨t,m,e,h1,h2,n⟩:=h;exact ⟨t,m,e,b.1 _ _ (Jmk st h1 (fun _ _ _ z=>by cases z)) h1,b.1 _ _ n h2,n⟩
theorem GTAt.move {p q : Addr} {H : Hp} {x : V} {G : Jko} (hq : H q = none) (h : GTAt p H x G) : GTAt q H x G :=by
 obtain ⟨t,m,e,h1,h2,_⟩:=h;exact ⟨t,m,e,h1,h2,fun z=>by rw [z,hq] at h2; cases h2⟩
noncomputable def Yab : Sp:=fun vs H Q _=>∃ (p : Addr),vs = [.ref p] ∧ Strm H p ∧ ∀ (x : V) (G : Jko) (H' : Hp),But p H H' → GTAt p H' x G → GGood G → Q x H'
section
variable {P : Program} {w : World} {K : W.Frag} {mg : Str → Option Value} {base : Heap} {a : Ad}
theorem sc_law_gate : Jkb ["_law_stream_here","_law_kind","_law_mark","_law_marks","_law_k","_law_stuck"] ["_law_stream_here"] (Jk6 (top 68)):=%[|0]
theorem Jv4 (T : Tx K mg a) : FnOk P w K mg base CX0 2 a.Ji8 a.Ji9 ["_law_stream_here"] Yab:=by
 have G__law_take:=%[Jlw|1];refine T.Jt.fn.ok sc_law_gate (fun vs H Q E h=>?_) (fun cdv A outer s H vs Q E hr h=>?_)
 ·obtain ⟨p,rfl,_⟩:=h;rfl
 ·obtain ⟨p,rfl,st,k⟩:=h;refine ⟨?t,?B,?C⟩
  case B =>
   refine' Jk2 ?s1 ?r1
   case s1 =>
    exact (Jki (i:=1) sc_law_gate.nd rfl (Or.inl rfl) (Jke Jky (Jnf (Jjz Jn4 (Jjz Jn4 (Jjz Jn4 Jk1)))) (Jk5 T.Jr G__law_take hr (by decide) (Jjz (pv 0) (Jjz Jk4 Jk1))) (fun _ _=>rfl)))
   case r1 =>
    refine' Jk2 ?s3 ?r3
    case s3 =>
     exact (Jki (i:=2) sc_law_gate.nd rfl (Or.inl rfl) (Jkh Jkv (Jk5 T.Jr G__law_take hr (by decide) (Jjz (pv 0) (Jjz (Jkh Jla Jk4 (Jkr Jnl (by rfl) T.Jan Jqj (Jjz (Jlk Jnp (pv 1) Jn4 (Jkt _)) Jk1))) Jk1))) (Jkr Jnl (by rfl) T.Jan Jqj (Jjz (Jlk Jnp (pv 1) Jn4 (Jkt _)) Jk1))))
    case r3 =>
     refine' Jk2 ?s5 ?r5
     case s5 =>
      exact (Jki (i:=3) sc_law_gate.nd rfl (Or.inl rfl) (Jnf (Jjz (pv 2) Jk1)))
     case r5 =>
      refine' Jk2 ?s7 ?r7
      case s7 =>
       refine' Jnh ?f8_0 ?f8_1 ?f8_2 ?f8_3 ?f8_4
       case f8_0 =>
        exact PassesOwn.never
       case f8_1 =>
        exact rfl
       case f8_2 =>
        exact (Jnr (by rfl) T.Jat (Jjz (Jk5 T.Jr G__law_take hr (by decide) (Jjz (pv 0) (Jjz Jk4 Jk1))) Jk1))
       case f8_3 =>
        exact (Jkc (i:=4) sc_law_gate.nd rfl (Or.inl rfl))
       case f8_4 =>
        refine' Jk2 ?s9 ?r9
        case s9 =>
         exact (Jki (i:=2) sc_law_gate.nd rfl (Or.inl rfl) (Jkh Jkv (Jkh Jkv (pv 2) Jk4) (Jk5 T.Jr G__law_take hr (by decide) (Jjz (pv 0) (Jjz Jk4 Jk1)))))
        case r9 =>
         refine' Jk3 ?s11
         case s11 =>
          exact (Jml (Jse F.plainAttrs_list F.slot_list_append F.type_list_append Jno (pv 3) (Jjz (pv 2) Jk1)))
      case r7 =>
       refine' Jk2 ?s13 ?r13
       case s13 =>
        exact (Jki (i:=5) sc_law_gate.nd rfl (Or.inl rfl) Jnz)
       case r13 =>
        refine' Jk2 ?s15 ?r15
        case s15 =>
         refine' Jks ?c16 ?a16 ?b16
         case c16 =>
          exact (Jl6 Jnp (Jk5 T.Jr G__law_take hr (by decide) (Jjz (pv 0) (Jjz Jk4 Jk1))) Jk4 (Jkt _))
         case a16 =>
          refine' Jk3 ?s17
          case s17 =>
           exact (Jki (i:=5) sc_law_gate.nd rfl (Or.inl rfl) (Jk5 T.Jr G__law_take hr (by decide) (Jjz (pv 0) (Jjz (Jka Jkm (by rfl) T.Jap Jlh (Jjz (pv 3) Jk1)) Jk1))))
         case b16 =>
          exact Jkg
        case r15 =>
         refine' Jk3 ?s20
         case s20 =>
          exact (Jkd (Jly (Jjz (pv 1) (Jjz (pv 3) (Jjz (pv 5) Jk1)))))
  refine ⟨(show 3 ≤ sizeLine by decide),fun L hL=>?_⟩;have sL:=Same.upd (o:=.lst [.str "step",.str "flap",.str "part"]) hL;have bL:=But.of st sL;have nL : L ≠ p:=st.ne hL;refine ⟨_,rfl,p,3,rfl,bL.2,by decide,by decide,fun r H1 r0 r1 b1=>?_⟩;obtain ⟨kd,hat,hk⟩ : ∃ kd : Str,atI [V.str "step",.str "flap",.str "part"] r = some (.str kd) ∧ Knd kd:=by
   have cs : r = 0 ∨ r = 1 ∨ r = 2:=by omega
   rcases cs with rfl | rfl | rfl
   ·exact ⟨_,rfl,.inl rfl⟩
   ·exact ⟨_,rfl,.inr (.inl rfl)⟩
   ·exact ⟨_,rfl,.inr (.inr rfl)⟩
  refine ⟨L,_,r,_,rfl,rfl,SqL.of (b1.1 _ _ nL Jk0),hat,?_⟩;have bK:=bL.trans b1;have el : Jmg kd = if decide (V.str kd = V.str "part") = true then 1 else 0:=by
   unfold Jmg;by_cases h : kd = ("part" : Str)
   ·rw [if_pos h,if_pos (decide_eq_true (by rw [h]))]
   ·rw [if_neg h,if_neg (by rw [decide_eq_false (fun e=>h (V.str.inj e))]; decide)]
  have hlo : Jmg kd = 0 ∨ Jmg kd = 1:=by unfold Jmg; split <;> simp
  refine ⟨_,rfl,_,rfl,rfl,.inr ⟨_,rfl,_,_,rfl,rfl,?_⟩⟩;rw [← el];have hm : (0 : Int) < 4 - Jmg kd ∧ (4 - Jmg kd).natAbs.log2 < 9000:=by rcases hlo with e | e <;> rw [e] <;> decide
  refine ⟨p,4 - Jmg kd,rfl,bK.2,hm.1,hm.2,fun r2 H2 s0 s1 b2=>?_⟩;refine ⟨_,rfl,rfl,.inr ⟨_,rfl,_,_,rfl,rfl,?_⟩⟩;rw [← el];have b02:=bK.trans b2;refine ⟨_,rfl,(show 1 ≤ sizeLine by decide),fun l hl=>?_⟩;have hl0 : H l = none:=But.free st b02 hl;have nlp : l ≠ p:=st.ne hl0;have b3 : But p H (upd H2 l (.lst [.int (r2 + Jmg kd)])):=b02.updD hl0 nlp;refine ⟨_,rfl,p,4,rfl,b3.2,by decide,by decide,fun j H3 j0 j1 b4=>⟨j,rfl,by omega,by omega,?_⟩⟩;refine Jov (fun i σ H'=>∃ (o o' : Option V) (ns : List Int) (m : Int),σ = [some (.ref p),some (.str kd),some (.int m),some (.ref l),o,o'] ∧ But p H H' ∧ H' l = some (.lst (ns.map V.int)) ∧ Jli (Jmg kd) (ns.map V.int) = true ∧ ns.getLast? = some m ∧ ns.length = i + 1 ∧ m ≤ 3 + 3 * i)
   ⟨_,_,[r2 + Jmg kd],r2 + Jmg kd,rfl,b3.trans b4,b4.1 _ _ nlp Jk0,?_,rfl,by simp,by omega⟩ ?_ ?_
  ·simp [Jli];omega
  ·rintro i σ H4 hi ⟨o,o', ns,m,rfl,b5,h5,hmk,hla,hle,hmi⟩;have hb:=Jr8 ns (Jmg kd) m hmk hla;refine ⟨_,rfl,_,_,rfl,rfl,_,rfl,p,3,rfl,b5.2,by decide,by decide,fun r' H5 t0 t1 b6=>?_⟩;refine ⟨_,_,rfl,rfl,?_⟩;have h6:=b6.1 _ _ nlp h5;refine ⟨_,rfl,.inl ⟨rfl,_,SqL.of h6⟩,_,rfl,l,_,_,rfl,rfl,h6,by rw [List.length_map]; exact Jl0 (by omega),?_⟩;refine ⟨_,_,ns ++ [m + 1 + r'],m + 1 + r', rfl,(b5.trans b6).updD hl0 nlp,?_,Jr9 ns (Jmg kd) m _ hmk hla (by omega) (by omega),by simp,by simp; omega,by omega⟩;rw [Jk0];simp
  ·rintro σ H4 ⟨o,o', ns,m,rfl,b5,h5,hmk,hla,hle,hmi⟩;have har : Jo6 (Jmg kd) (ns.map V.int) = true:=by
    unfold Jo6;rw [hmk,Bool.and_true,List.length_map];exact decide_eq_true (by omega)
   refine ⟨_,rfl,p,6,rfl,b5.2,by decide,by decide,fun r6 H6 _ _ b6=>⟨rfl,_,rfl,ite2 (fun _=>?_) (fun _=>?_)⟩⟩
   ·have h6:=b6.1 _ _ nlp h5;refine ⟨_,rfl,_,rfl,l,_,rfl,.inl (SqL.of h6),p,_,rfl,(b5.trans b6).2,by rw [List.length_map]; omega,?_,fun r7 H7 u0 u1 b7=>?_⟩
    ·rw [List.length_map];have : ((ns.length : Int)).natAbs ≤ 4:=by omega
     exact Nat.lt_of_le_of_lt (Nat.log2_le_self _) (by omega)
    rw [List.length_map] at u1;have h7:=b7.1 _ _ nlp h6;refine ⟨_,rfl,_,rfl,_,rfl,(show 3 ≤ sizeLine by decide),fun t ht=>?_⟩;have sT:=Same.upd (o:=.tup [.str kd,.ref l,svV (some r7)]) ht;refine k (.ref t) ⟨kd,ns,some r7⟩ _ (((b5.trans b6).trans b7).same sT) ⟨t,l,rfl,Jk0,sT _ _ h7,nlp⟩ ⟨hk,har,fun i e=>?_⟩;cases e;exact ⟨u0,u1⟩
   ·have h6:=b6.1 _ _ nlp h5;refine ⟨_,rfl,_,rfl,_,rfl,(show 3 ≤ sizeLine by decide),fun t ht=>?_⟩;have sT:=Same.upd (o:=.tup [.str kd,.ref l,svV (none)]) ht;refine k (.ref t) ⟨kd,ns,none⟩ _ ((b5.trans b6).same sT) ⟨t,l,rfl,Jk0,sT _ _ h6,nlp⟩ ⟨hk,har,fun i e=>?_⟩;cases e
end
structure Jm9 where
 z : Str
 lo : Int
 hi : Int
 st : Int
 rn : Int
 G : Jko
structure Jta (B : Jm9) : Prop where
 lo : 0 ≤ B.lo ∧ B.lo ≤ 12
 hi : B.lo ≤ B.hi ∧ B.hi ≤ 12
 st : B.lo ≤ B.st ∧ B.st ≤ B.hi
 rn : 0 ≤ B.rn ∧ B.rn ≤ 6
 G : GGood B.G
noncomputable def BTAt (p : Addr) (H : Hp) (x : V) (B : Jm9) : Prop:=∃ (t : Addr) (g : V),x = .ref t ∧ H t = some (.tup [.str B.z,.int B.lo,.int B.hi,.int B.st,.int B.rn,g]) ∧ GTAt p H g B.G
theorem BTAt.same {p : Addr} {H H' : Hp} {x : V} {B : Jm9} (s : Same H H') (h : BTAt p H x B) : BTAt p H' x B:=by obtain ⟨t,g,e,h1,h2⟩:=h; exact ⟨t,g,e,s _ _ h1,h2.same s⟩
theorem BTAt.but {p : Addr} {H H' : Hp} {x : V} {B : Jm9} (st : Strm H p) (b : But p H H') (h : BTAt p H x B) : BTAt p H' x B :=by
 obtain ⟨t,g,e,h1,h2⟩:=h;exact ⟨t,g,e,b.1 _ _ (Jmk st h1 (fun _ _ _ z=>by cases z)) h1,h2.but st b⟩
theorem BTAt.move {p q : Addr} {H : Hp} {x : V} {B : Jm9} (hq : H q = none) (h : BTAt p H x B) : BTAt q H x B :=by
 obtain ⟨t,g,e,h1,h2⟩:=h;exact ⟨t,g,e,h1,h2.move hq⟩
noncomputable def Jzg : Sp:=fun vs H Q _=>∃ (p : Addr) (z : Str),vs = [.ref p,.str z] ∧ Strm H p ∧ ∀ (x : V) (B : Jm9) (H' : Hp),But p H H' → BTAt p H' x B → Jta B → B.z = z → Q x H'
theorem Jod {i : Int} (h : i.natAbs ≤ 1000) : i.natAbs.log2 < 9000:=Nat.lt_of_le_of_lt (Nat.log2_le_self _) (by omega)
section
variable {P : Program} {w : World} {K : W.Frag} {mg : Str → Option Value} {base : Heap} {a : Ad}
theorem sc_law_basin : Jkb ["_law_stream_here","_law_name","_law_low","_law_high","_law_start"] ["_law_stream_here","_law_name"] (Jk6 (top 69)):=%[|0]
theorem Ju4 (T : Tx K mg a) : FnOk P w K mg base CX0 3 a.Jia a.Jib ["_law_stream_here","_law_name"] Jzg:=by
 have G__law_take:=%[Jlw|1];have G__law_gate:=%[Jv4|1];refine T.Ju.fn.ok sc_law_basin (fun vs H Q E h=>?_) (fun cdv A outer s H vs Q E hr h=>?_)
 ·obtain ⟨p,z,rfl,_⟩:=h;rfl
 ·obtain ⟨p,z,rfl,st,k⟩:=h;refine ⟨?t,?B,?C⟩
  case B =>
   refine' Jk2 ?s1 ?r1
   case s1 =>
    exact (Jki (i:=2) sc_law_basin.nd rfl (Or.inl rfl) (Jk5 T.Jr G__law_take hr (by decide) (Jjz (pv 0) (Jjz Jk4 Jk1))))
   case r1 =>
    refine' Jk2 ?s3 ?r3
    case s3 =>
     exact (Jki (i:=3) sc_law_basin.nd rfl (Or.inl rfl) (Jkh Jkv (pv 2) (Jk5 T.Jr G__law_take hr (by decide) (Jjz (pv 0) (Jjz (Jkh Jla Jk4 (pv 2)) Jk1)))))
    case r3 =>
     refine' Jk2 ?s5 ?r5
     case s5 =>
      exact (Jki (i:=4) sc_law_basin.nd rfl (Or.inl rfl) (Jkh Jkv (pv 2) (Jk5 T.Jr G__law_take hr (by decide) (Jjz (pv 0) (Jjz (Jkh Jkv (Jkh Jla (pv 3) (pv 2)) Jk4) Jk1)))))
     case r5 =>
      refine' Jk3 ?s7
      case s7 =>
       refine' Jkd ?e9_0
       case e9_0 =>
        refine' Jly ?e10_0
        case e10_0 =>
         refine' pa6 ?e11_0 ?e11_1 ?e11_2 ?e11_3 ?e11_4 ?e11_5
         case e11_0 =>
          exact (pv 1)
         case e11_1 =>
          exact (pv 2)
         case e11_2 =>
          exact (pv 3)
         case e11_3 =>
          exact (pv 4)
         case e11_4 =>
          exact (Jk5 T.Jr G__law_take hr (by decide) (Jjz (pv 0) (Jjz Jk4 Jk1)))
         case e11_5 =>
          exact (Jk5 T.Jt G__law_gate hr (by decide) (Jjz (pv 0) Jk1))
  refine ⟨_,rfl,p,13,rfl,st,by decide,by decide,fun lo H1 l0 l1 b1=>?_⟩;refine ⟨_,rfl,_,rfl,_,rfl,_,_,rfl,rfl,p,13 - lo,rfl,b1.2,by omega,Jod (by omega),fun hi H2 h0 h1 b2=>⟨_,_,rfl,rfl,?_⟩⟩;refine ⟨_,rfl,_,rfl,_,rfl,_,rfl,_,_,rfl,rfl,_,_,rfl,rfl,p,lo + hi - lo + 1,rfl,b2.2,by omega,Jod (by omega),fun sv H3 s0 s1 b3=>⟨_,_,rfl,rfl,?_⟩⟩;refine ⟨_,rfl,_,rfl,_,rfl,_,rfl,_,rfl,p,7,rfl,b3.2,by decide,by decide,fun rn H4 n0 n1 b4=>?_⟩;refine ⟨_,rfl,p,rfl,b4.2,fun g G H5 b5 gt gg=>?_⟩;refine ⟨(show 6 ≤ sizeLine by decide),fun t ht=>?_⟩;have sT:=Same.upd (o:=.tup [.str z,.int lo,.int (lo + hi),.int (lo + sv),.int rn,g]) ht;exact k (.ref t) ⟨z,lo,lo + hi,lo + sv,rn,G⟩ _ (((((b1.trans b2).trans b3).trans b4).trans b5).same sT) ⟨t,g,rfl,Jk0,gt.same sT⟩ ⟨by dsimp only; omega,by dsimp only; omega,by dsimp only; omega,by dsimp only; omega,gg⟩ rfl
end
theorem Ya4 {bs : List V} {ns : List Int} (h : ∀ b ∈ bs,∃ o,b = V.ref o) (hn : 1 ≤ ns.length) : bs ≠ ns.map V.int:=by
 intro e;cases ns with
 | nil=>simp at hn
 | cons n r =>
  obtain ⟨o,q⟩:=h (.int n) (by rw [e]; simp);cases q
theorem GGood.len {G : Jko} (h : GGood G) : 1 ≤ G.ns.length ∧ G.ns.length ≤ 4:=by
 have q:=h.ns;unfold Jo6 at q;rw [Bool.and_eq_true,decide_eq_true_eq,List.length_map] at q;exact q.1
theorem GTAt.put {p D : Addr} {H : Hp} {x : V} {G : Jko} {bs : List V} {o : HO} (g : GGood G) (hD : H D = some (.lst bs)) (hb : ∀ b ∈ bs,∃ o,b = V.ref o) (h : GTAt p H x G) : GTAt p (upd H D o) x G:=by
 obtain ⟨t,m,e,h1,h2,n⟩:=h;refine ⟨t,m,e,?_,?_,n⟩
 ·rw [Jk7 (fun z=>by rw [z,hD] at h1; cases h1)];exact h1
 ·rw [Jk7 (fun z=>by rw [z,hD] at h2; cases h2; exact Ya4 hb g.len.1 rfl)];exact h2
theorem BTAt.put {p D : Addr} {H : Hp} {x : V} {B : Jm9} {bs : List V} {o : HO} (g : Jta B) (hD : H D = some (.lst bs)) (hb : ∀ b ∈ bs,∃ o,b = V.ref o) (h : BTAt p H x B) : BTAt p (upd H D o) x B:=by
 obtain ⟨t,y,e,h1,h2⟩:=h;refine ⟨t,y,e,?_,h2.put g.G hD hb⟩;rw [Jk7 (fun z=>by rw [z,hD] at h1; cases h1)];exact h1
noncomputable def BTL (p : Addr) (H : Hp) : List V → List Jm9 → Prop
 | [],[]=>True
 | x :: xs,B :: Bs=>BTAt p H x B ∧ BTL p H xs Bs
 | _,_=>False
theorem BTL.map {p q : Addr} {H H' : Hp} (f : ∀ x B,Jta B → BTAt p H x B → BTAt q H' x B) : ∀ {xs : List V} {Bs : List Jm9},(∀ B ∈ Bs,Jta B) → BTL p H xs Bs → BTL q H' xs Bs:=by
 intro xs
 induction xs with
 | nil=>
  intro Bs g h;cases Bs with
  | nil=>exact True.intro
  | cons B Bs=>exact False.elim h
 | cons x xs ih=>
  intro Bs g h;cases Bs with
  | nil=>exact False.elim h
  | cons B Bs=>exact ⟨f _ _ (g _ List.mem_cons_self) (And.left h),ih (fun B hB=>g B (List.mem_cons_of_mem _ hB)) (And.right h)⟩
theorem BTL.snoc {p : Addr} {H : Hp} {x : V} {B : Jm9} (h : BTAt p H x B) : ∀ {xs : List V} {Bs : List Jm9},BTL p H xs Bs → BTL p H (xs ++ [x]) (Bs ++ [B]):=by
 intro xs
 induction xs with
 | nil=>
  intro Bs q;cases Bs with
  | nil=>exact ⟨h,True.intro⟩
  | cons B Bs=>exact False.elim q
 | cons x xs ih=>
  intro Bs q;cases Bs with
  | nil=>exact False.elim q
  | cons B Bs=>exact ⟨And.left q,ih (And.right q)⟩
theorem BTL.refs {p : Addr} {H : Hp} : ∀ {xs : List V} {Bs : List Jm9},BTL p H xs Bs → ∀ b ∈ xs,∃ o,b = V.ref o
 | [],[],_,b,hb=>by simp at hb
 | x :: xs,B :: Bs,⟨⟨t,g,e,_⟩,tl⟩,b,hb=>by
  rcases List.mem_cons.mp hb with rfl | hb
  ·exact ⟨t,e⟩
  ·exact BTL.refs tl b hb
theorem BTL.len {p : Addr} {H : Hp} : ∀ {xs : List V} {Bs : List Jm9},BTL p H xs Bs → xs.length = Bs.length
 | [],[],_=>rfl
 | _ :: _,_ :: _,⟨_,t⟩=>by rw [List.length_cons,List.length_cons,BTL.len t]
structure Jo3 where
 z : Str
 b : Str
 wt : Int
noncomputable def TTAt (H : Hp) (x : V) (B : Jo3) : Prop:=∃ t : Addr,x = .ref t ∧ H t = some (.tup [.str B.z,.str B.b,.int B.wt])
theorem TTAt.same {H H' : Hp} {x : V} {B : Jo3} (s : Same H H') (h : TTAt H x B) : TTAt H' x B:=by obtain ⟨t,e,h1⟩:=h; exact ⟨t,e,s _ _ h1⟩
theorem TTAt.but {p : Addr} {H H' : Hp} {x : V} {B : Jo3} (st : Strm H p) (b : But p H H') (h : TTAt H x B) : TTAt H' x B :=by
 obtain ⟨t,e,h1⟩:=h;exact ⟨t,e,b.1 _ _ (Jmk st h1 (fun _ _ _ z=>by cases z)) h1⟩
theorem TTAt.put {D : Addr} {H : Hp} {x : V} {B : Jo3} {bs : List V} {o : HO} (hD : H D = some (.lst bs)) (h : TTAt H x B) : TTAt (upd H D o) x B:=by
 obtain ⟨t,e,h1⟩:=h;refine ⟨t,e,?_⟩;rw [Jk7 (fun z=>by rw [z,hD] at h1; cases h1)];exact h1
noncomputable def TTL (H : Hp) : List V → List Jo3 → Prop
 | [],[]=>True
 | x :: xs,B :: Bs=>TTAt H x B ∧ TTL H xs Bs
 | _,_=>False
theorem TTL.map {H H' : Hp} (f : ∀ x B,TTAt H x B → TTAt H' x B) : ∀ {xs : List V} {Bs : List Jo3},TTL H xs Bs → TTL H' xs Bs:=by
 intro xs
 induction xs with
 | nil=>
  intro Bs h;cases Bs with
  | nil=>exact True.intro
  | cons B Bs=>exact False.elim h
 | cons x xs ih=>
  intro Bs h;cases Bs with
  | nil=>exact False.elim h
  | cons B Bs=>exact ⟨f _ _ (And.left h),ih (And.right h)⟩
theorem TTL.snoc {H : Hp} {x : V} {B : Jo3} (h : TTAt H x B) : ∀ {xs : List V} {Bs : List Jo3},TTL H xs Bs → TTL H (xs ++ [x]) (Bs ++ [B]):=by
 intro xs
 induction xs with
 | nil=>
  intro Bs q;cases Bs with
  | nil=>exact ⟨h,True.intro⟩
  | cons B Bs=>exact False.elim q
 | cons x xs ih=>
  intro Bs q;cases Bs with
  | nil=>exact False.elim q
  | cons B Bs=>exact ⟨And.left q,ih (And.right q)⟩
theorem TTL.len {H : Hp} : ∀ {xs : List V} {Bs : List Jo3},TTL H xs Bs → xs.length = Bs.length
 | [],[],_=>rfl
 | _ :: _,_ :: _,⟨_,t⟩=>by rw [List.length_cons,List.length_cons,TTL.len t]
structure Jl2 where
 c : Int
 g : Int
 Bs : List Jm9
 Ts : List Jo3
structure Jmd (R : Jl2) : Prop where
 c : 0 ≤ R.c ∧ R.c ≤ 12
 g : 0 ≤ R.g ∧ R.g ≤ R.c
 n : 1 ≤ R.Bs.length ∧ R.Bs.length ≤ 16
 Bs : ∀ B ∈ R.Bs,Jta B ∧ Joe B.z = true ∧ Ltr 8 B.z
 nd : (R.Bs.map (·.z)).Nodup
 tn : R.Ts.length ≤ 3
 Ts : ∀ B ∈ R.Ts,Joe B.z = true ∧ Ltr 8 B.z ∧ B.b ∈ R.Bs.map (·.z) ∧ 1 ≤ B.wt ∧ B.wt ≤ 6
 td : (R.Ts.map (·.z)).Nodup
noncomputable def RTAt (p : Addr) (H : Hp) (x : V) (R : Jl2) : Prop:=∃ (t lb lt : Addr) (bs ts : List V),x = .ref t ∧ H t = some (.tup [.int R.c,.int R.g,.ref lb,.ref lt]) ∧ H lb = some (.lst bs) ∧ BTL p H bs R.Bs ∧ H lt = some (.lst ts) ∧ TTL H ts R.Ts ∧ lb ≠ p ∧ lt ≠ p
noncomputable def Jzi : Sp:=fun vs H Q _=>∃ (c : Int),vs = [.int c] ∧ ∀ (x : V) (R : Jl2) (p : Addr) (H' : Hp),H p = none → Same H H' → Strm H' p → RTAt p H' x R → Jmd R → Q x H'
section
variable {P : Program} {w : World} {K : W.Frag} {mg : Str → Option Value} {base : Heap} {a : Ad}
theorem sc_law_river : Jkb ["_law_cell_here","_law_stream_here","_law_many","_law_cloud","_law_gain","_law_names_here","_law_basins","_law_towns","_law_name"] ["_law_cell_here"] (Jk6 (top 70)):=%[|0]
theorem Ju6 (T : Tx K mg a) : FnOk P w K mg base CX0 4 a.Jic a.Jid ["_law_cell_here"] Jzi:=by
 have G__law_take:=%[Jlw|1];have G__law_names:=%[Ju5|1];have G__law_basin:=%[Ju4|1];have G__law_stream:=%[Jp8|1];refine T.Jv.fn.ok sc_law_river (fun vs H Q E h=>?_) (fun cdv A outer s H vs Q E hr h=>?_)
 ·obtain ⟨c,rfl,_⟩:=h;rfl
 ·obtain ⟨c,rfl,k⟩:=h;refine ⟨?t,?B,?C⟩
  case B =>
   refine' Jk2 ?s1 ?r1
   case s1 =>
    exact (Jki (i:=1) sc_law_river.nd rfl (Or.inr rfl) (Jk5 T.Jq G__law_stream hr (by decide) (Jjz (pv 0) Jk1)))
   case r1 =>
    refine' Jk2 ?s3 ?r3
    case s3 =>
     exact (Jki (i:=2) sc_law_river.nd rfl (Or.inl rfl) (Jke Jky (Jnf (pa8 Jk4 Jk4 Jk4 Jk4 Jk4 Jk4 (Jkh Jkv Jk4 (Jk5 T.Jr G__law_take hr (by decide) (Jjz (pv 1) (Jjz Jk4 Jk1)))) (Jkh Jkv Jk4 (Jk5 T.Jr G__law_take hr (by decide) (Jjz (pv 1) (Jjz Jk4 Jk1)))))) (Jk5 T.Jr G__law_take hr (by decide) (Jjz (pv 1) (Jjz Jk4 Jk1))) (fun _ _=>rfl)))
    case r3 =>
     refine' Jk2 ?s5 ?r5
     case s5 =>
      exact (Jki (i:=3) sc_law_river.nd rfl (Or.inl rfl) (Jk5 T.Jr G__law_take hr (by decide) (Jjz (pv 1) (Jjz Jk4 Jk1))))
     case r5 =>
      refine' Jk2 ?s7 ?r7
      case s7 =>
       exact (Jki (i:=4) sc_law_river.nd rfl (Or.inl rfl) (Jk5 T.Jr G__law_take hr (by decide) (Jjz (pv 1) (Jjz (Jkh Jkv (pv 3) Jk4) Jk1))))
      case r7 =>
       refine' Jk2 ?s9 ?r9
       case s9 =>
        exact (Jki (i:=5) sc_law_river.nd rfl (Or.inl rfl) (Jk5 T.Js G__law_names hr (by decide) (Jjz (pv 1) (Jjz (pv 2) Jk1))))
       case r9 =>
        refine' Jk2 ?s11 ?r11
        case s11 =>
         exact (Juc (i:=6) (N:=(["_law_name","_law_stream_here"] : List Str)) (ini:=[none,some 1]) sc_law_river.nd rfl (Or.inl rfl) rfl (Jlg (pv 5)) (fun _ _ _ _ _=>(Jkc (i:=0) (by decide +kernel : (["_law_name","_law_stream_here"] : List Str).Nodup) rfl (Or.inl rfl))) (fun _ _ _ _ _=>Jkx) (fun _ _ _ _ _=>(Jk5 T.Ju G__law_basin hr (by decide) (Jjz (pv 1) (Jjz (pv 0) Jk1)))))
        case r11 =>
         refine' Jk2 ?s13 ?r13
         case s13 =>
          exact (Jki (i:=7) sc_law_river.nd rfl (Or.inl rfl) (Jnf Jk1))
         case r13 =>
          refine' Jk2 ?s15 ?r15
          case s15 =>
           refine' Jnh ?f16_0 ?f16_1 ?f16_2 ?f16_3 ?f16_4
           case f16_0 =>
            exact PassesOwn.never
           case f16_1 =>
            exact rfl
           case f16_2 =>
            exact (Jlg (Jol Jx2 (Jk5 T.Js G__law_names hr (by decide) (Jjz (pv 1) (Jjz Jk4 Jk1))) Jq2 (Jq3 (Jk5 T.Jr G__law_take hr (by decide) (Jjz (pv 1) (Jjz Jk4 Jk1))))))
           case f16_3 =>
            exact (Jkc (i:=8) sc_law_river.nd rfl (Or.inl rfl))
           case f16_4 =>
            refine' Jk3 ?s17
            case s17 =>
             exact (Jml (Jse F.plainAttrs_list F.slot_list_append F.type_list_append Jno (pv 7) (Jjz (Jly (Jjz (pv 8) (Jjz (Jke Jky (pv 5) (Jk5 T.Jr G__law_take hr (by decide) (Jjz (pv 1) (Jjz (pv 2) Jk1))) (fun _ _=>rfl)) (Jjz (Jkh Jkv Jk4 (Jk5 T.Jr G__law_take hr (by decide) (Jjz (pv 1) (Jjz Jk4 Jk1)))) Jk1)))) Jk1)))
          case r15 =>
           refine' Jk3 ?s19
           case s19 =>
            refine' Jkd ?e21_0
            case e21_0 =>
             refine' Jly ?e22_0
             case e22_0 =>
              refine' pa4 ?e23_0 ?e23_1 ?e23_2 ?e23_3
              case e23_0 =>
               exact (pv 3)
              case e23_1 =>
               exact (pv 4)
              case e23_2 =>
               exact (pv 6)
              case e23_3 =>
               exact (pv 7)
  refine ⟨_,rfl,c,rfl,fun p H1 hp s1 st=>?_⟩;refine ⟨_,rfl,p,12,rfl,st,by decide,by decide,fun r1 H2 r10 r11 b1=>⟨_,_,rfl,rfl,?_⟩⟩;refine ⟨_,rfl,p,16,rfl,b1.2,by decide,by decide,fun r2 H3 r20 r21 b2=>⟨_,_,rfl,rfl,(show 8 ≤ sizeLine by decide),fun L hL=>?_⟩⟩;have b12:=b1.trans b2;have nL : L ≠ p:=b12.2.ne hL;have b3:=But.of b12.2 (Same.upd (o:=.lst [V.int 1,V.int 2,V.int 3,V.int 4,V.int 2,V.int 3,V.int (5 + r1),V.int (1 + r2)]) hL);refine ⟨_,rfl,p,8,rfl,b3.2,by decide,by decide,fun r3 H4 r30 r31 b4=>?_⟩;obtain ⟨n,hat,n1,n16⟩ : ∃ n : Nat,atI [V.int 1,V.int 2,V.int 3,V.int 4,V.int 2,V.int 3,V.int (5 + r1),V.int (1 + r2)] r3 = some (.int n) ∧ 1 ≤ n ∧ n ≤ 16:=by
   have cs : r3 = 0 ∨ r3 = 1 ∨ r3 = 2 ∨ r3 = 3 ∨ r3 = 4 ∨ r3 = 5 ∨ r3 = 6 ∨ r3 = 7:=by omega
   rcases cs with rfl | rfl | rfl | rfl | rfl | rfl | rfl | rfl
   ·exact ⟨1,rfl,by omega,by omega⟩
   ·exact ⟨2,rfl,by omega,by omega⟩
   ·exact ⟨3,rfl,by omega,by omega⟩
   ·exact ⟨4,rfl,by omega,by omega⟩
   ·exact ⟨2,rfl,by omega,by omega⟩
   ·exact ⟨3,rfl,by omega,by omega⟩
   ·refine ⟨(5 + r1).toNat,?_,by omega,by omega⟩;rw [Int.toNat_of_nonneg (by omega)];rfl
   ·refine ⟨(1 + r2).toNat,?_,by omega,by omega⟩;rw [Int.toNat_of_nonneg (by omega)];rfl
  refine ⟨L,_,r3,_,rfl,rfl,SqL.of (b4.1 _ _ nL Jk0),hat,?_⟩;have b5:=(b12.trans b3).trans b4;refine ⟨_,rfl,p,13,rfl,b5.2,by decide,by decide,fun cl H5 c0 c1 b6=>?_⟩;refine ⟨_,rfl,_,rfl,_,_,rfl,rfl,p,cl + 1,rfl,b6.2,by omega,Jod (by omega),fun gn H6 g0 g1 b7=>?_⟩;refine ⟨_,rfl,_,rfl,p,n,rfl,b7.2,by omega,fun l f zs H7 hl b8 hl7 len nms=>?_⟩;have b57:=(b5.trans b6).trans (b7.trans b8);have nlp : l ≠ p:=b7.2.ne hl;refine ⟨_,rfl,l,rfl,⟨_,SqL.of hl7⟩,fun D hD=>?_⟩;have nD : D ≠ p:=b57.2.ne hD;refine Jlt (K:=K) (a:=l) (xs:=zs.map V.str) (D:=D) (fun i σ H'=>∃ (o : Option V) (bs : List V) (Bs : List Jm9),σ = [o,some (.ref p)] ∧ H' D = some (.lst bs) ∧ BTL p H' bs Bs ∧ Bs.length = i ∧ (∀ B ∈ Bs,Jta B) ∧ Bs.map (·.z) = zs.take i ∧ But p H7 H') ?_ ?_ ?_ ?_
  ·exact ⟨_,[],[],rfl,Jk0,True.intro,rfl,fun B hB=>absurd hB (by simp),rfl,But.of b57.2 (Same.upd hD)⟩
  ·rintro i σ H' _ ⟨o,bs,Bs,rfl,_,_,_,_,_,b⟩;exact SqL.of (b.1 _ _ nlp hl7)
  ·rintro i x σ H' hx ⟨o,bs,Bs,rfl,hDs,btl,hln,good,names,b⟩;rw [List.getElem?_map] at hx;cases ez : zs[i]? with
   | none=>rw [ez] at hx; cases hx
   | some z =>
    rw [ez] at hx;cases hx;have hi : i < zs.length:=(List.getElem?_eq_some_iff.mp ez).1;refine Jlm ⟨_,rfl,_,rfl,p,z,rfl,b.2,fun x B H8 b9 bt bg bz=>?_⟩;have btl8:=BTL.map (fun x B _ h=>h.but b.2 b9) good btl;have hD8:=b9.1 _ _ nD hDs;have blen:=btl.len;refine ⟨bs,hD8,Jl0 (by omega),_,bs ++ [x],Bs ++ [B],rfl,Jk0,?_,by rw [List.length_append]; show Bs.length + 1 = i + 1; omega,?_,?_,(b.trans b9).updD hD nD⟩
    ·exact BTL.snoc (bt.put bg hD8 btl.refs) (BTL.map (fun x B g h=>h.put g hD8 btl.refs) good btl8)
    ·intro B' hB';rcases List.mem_append.mp hB' with h | h
     ·exact good B' h
     ·rw [List.mem_singleton.mp h];exact bg
    ·rw [List.map_append,names,List.take_add_one,ez,List.map_singleton,bz];rfl
  rintro σ H8 ⟨o,bs,Bs,rfl,hDs,btl,hln,good,names,b9⟩;rw [List.length_map] at hln names;rw [List.take_length] at names;have st8 : Strm H8 p:=b9.2;have hl8:=b9.1 _ _ nlp hl7;refine ⟨(show 0 ≤ sizeLine by decide),fun lt hlt=>?_⟩;have nlt : lt ≠ p:=st8.ne hlt;have sA:=Same.upd (o:=.lst []) hlt;have bA:=But.of st8 sA;refine ⟨_,rfl,p,3,rfl,bA.2,by omega,fun l2 f2 ys HB hl2 bB hB len2 nms2=>?_⟩;have nl2 : l2 ≠ p:=bA.2.ne hl2;refine ⟨_,rfl,p,4,rfl,bB.2,by decide,by decide,fun r4 HC r40 r41 bC=>⟨_,rfl,l2,_,rfl,SqL.of (bC.1 _ _ nl2 hB),fun q hq=>?_⟩⟩;obtain ⟨us,eu,hus⟩:=Juw ys none (some r4);rw [eu];have bD:=(bA.trans bB).trans bC;have nq : q ≠ p:=bD.2.ne hq;have hltC : HC lt = some (.lst []):=bC.1 _ _ nlt (bB.1 _ _ nlt Jk0);have nql : q ≠ lt:=fun e=>by rw [e,hltC] at hq; cases hq
  have sq:=Same.upd (o:=.lst (us.map V.str)) hq;have ul : us.length ≤ 3:=by
   have:=hus.length_le;omega
  refine ⟨q,rfl,⟨_,SqL.of Jk0⟩,?_⟩;refine Jps (xs:=us.map V.str) (fun i σ H'=>∃ (o : Option V) (ts : List V) (Ts : List Jo3),σ = [some (.int c),some (.ref p),some (.int n),some (.int cl),some (.int gn),some (.ref l),some (.ref D),some (.ref lt),o] ∧ H' lt = some (.lst ts) ∧ TTL H' ts Ts ∧ Ts.length = i ∧ Ts.map (·.z) = us.take i ∧ (∀ B ∈ Ts,B.b ∈ zs ∧ 1 ≤ B.wt ∧ B.wt ≤ 6) ∧ But p H8 H' ∧ H' q = some (.lst (us.map V.str))) ?_ ?_ ?_ ?_
  ·exact ⟨_,[],[],rfl,sq _ _ hltC,True.intro,rfl,rfl,fun B hB=>absurd hB (by simp),bD.same sq,Jk0⟩
  ·rintro i σ H' _ ⟨_,_,_,_,_,_,_,_,_,_,h⟩;exact SqL.of h
  ·rintro i x σ H' hx ⟨o,ts,Ts,rfl,hts,ttl,tln,tnm,tgd,b,hq'⟩;rw [List.getElem?_map] at hx;cases ez : us[i]? with
   | none=>rw [ez] at hx; cases hx
   | some u =>
    rw [ez] at hx;cases hx;have hi : i < us.length:=(List.getElem?_eq_some_iff.mp ez).1;have tlen:=ttl.len;refine ⟨_,rfl,.inl ⟨rfl,_,SqL.of hts⟩,_,rfl,_,rfl,_,rfl,_,rfl,p,n,rfl,b.2,by omega,Jod (by omega),fun r5 HE e0 e1 bE=>?_⟩;have hr5 : r5.toNat < zs.length:=by omega
    refine ⟨l,_,r5,.str zs[r5.toNat],rfl,rfl,SqL.of (bE.1 _ _ nlp (b.1 _ _ nlp hl8)),atI_of (j:=r5.toNat) (by omega) (by rw [List.getElem?_map,List.getElem?_eq_getElem hr5]; rfl),?_⟩;refine ⟨_,rfl,p,6,rfl,bE.2,by decide,by decide,fun r6 HF f0 f1 bF=>⟨_,_,rfl,rfl,(show 3 ≤ sizeLine by decide),fun t ht=>?_⟩⟩;have bG:=bE.trans bF;have htsF:=bG.1 _ _ nlt hts;have sT:=Same.upd (o:=.tup [.str u,.str zs[r5.toNat],.int (1 + r6)]) ht;refine ⟨lt,_,_,rfl,rfl,sT _ _ htsF,Jl0 (by omega),?_⟩;refine ⟨_,ts ++ [.ref t],Ts ++ [⟨u,zs[r5.toNat],1 + r6⟩],rfl,Jk0,?_,by rw [List.length_append]; show Ts.length + 1 = i + 1; omega,?_,?_,((b.trans bG).same sT).updD hlt nlt,?_⟩
    ·refine TTL.snoc ?_ (TTL.map (fun x B h=>(((h.but b.2 bG).same sT).put (sT _ _ htsF))) ttl);exact TTAt.put (sT _ _ htsF) ⟨t,rfl,Jk0⟩
    ·rw [List.map_append,tnm,List.take_add_one,ez];rfl
    ·intro B hB;rcases List.mem_append.mp hB with h | h
     ·exact tgd B h
     ·rw [List.mem_singleton.mp h];exact ⟨List.getElem_mem hr5,by dsimp only; omega,by dsimp only; omega⟩
    ·rw [Jk7 nql];exact sT _ _ (bG.1 _ _ nq hq')
  ·rintro σ HZ ⟨o,ts,Ts,rfl,hts,ttl,tln,tnm,tgd,b,_⟩;rw [List.length_map] at tln tnm;rw [List.take_length] at tnm;refine ⟨_,rfl,_,rfl,_,rfl,_,rfl,(show 4 ≤ sizeLine by decide),fun t ht=>?_⟩;have sT:=Same.upd (o:=.tup [.int cl,.int gn,.ref D,.ref lt]) ht;have bZ:=((b57.trans b9).trans b).same sT;refine k (.ref t) ⟨cl,gn,Bs,Ts⟩ p _ hp (fun x u e=>bZ.1 _ _ (Jk8 e hp) (s1 _ _ e)) bZ.2 ⟨t,D,lt,bs,ts,rfl,Jk0,sT _ _ (b.1 _ _ nD hDs),BTL.map (fun x B _ h=>(h.but st8 b).same sT) good btl,sT _ _ hts,TTL.map (fun x B h=>h.same sT) ttl,nD,nlt⟩ ?_;have nameOf : ∀ (f : Int) (zs : List Str),Nms f zs → ∀ z ∈ zs,Joe z = true ∧ Ltr 8 z:=fun f zs h z hz=>by
    obtain ⟨k,hk,rfl⟩:=List.mem_iff_getElem.mp hz;have:=(h k _ (List.getElem?_eq_getElem hk)).mem;exact ⟨this.2,this.1⟩
   refine ⟨by dsimp only; omega,by dsimp only; omega,by dsimp only; omega,fun B hB=>⟨good B hB,nameOf f zs nms _ (by rw [← names]; exact List.mem_map_of_mem hB)⟩,by dsimp only; rw [names]; exact nms.nodup (by omega),by dsimp only; omega,fun B hB=>?_,?_⟩
   ·have hu : B.z ∈ us:=by rw [← tnm]; exact List.mem_map_of_mem hB
    have h1:=nameOf f2 ys nms2 _ (hus.subset hu);have h2:=tgd B hB;exact ⟨h1.1,h1.2,by dsimp only; rw [names]; exact h2.1,h2.2⟩
   ·dsimp only;rw [tnm];exact hus.nodup (nms2.nodup (by omega))
end
noncomputable def nOf (G : Jko) : Nat:=match G.sv with
 | some _=>1
 | none=>G.ns.length
noncomputable def GX (a : Ad) (H : Hp) (x : V) (G : Jko) : Prop:=∃ (g : Addr),GateAt (cOf a G.kd) H g (G.ns.map V.int) ∧ match G.sv with
 | none=>x = .ref g
 | some j=>∃ s dx,x = .ref s ∧ H s = some (.ins a.Jjv dx [("gate",.ref g),("setting",.int j)])
theorem GX.same {a : Ad} {H H' : Hp} {x : V} {G : Jko} (s : Same H H') (h : GX a H x G) : GX a H' x G:=by
 obtain ⟨g,ga,r⟩:=h;refine ⟨g,ga.same s,?_⟩;cases e : G.sv with
 | none=>rw [e] at r; exact r
 | some j =>
  rw [e] at r;obtain ⟨q,dx,r1,r2⟩:=r;exact ⟨q,dx,r1,s _ _ r2⟩
theorem GX.gs {K : W.Frag} {a : Ad} {H : Hp} {x : V} {G : Jko} (gg : GGood G) (h : GX a H x G) : GS K a H x (nOf G):=by
 obtain ⟨g,ga,r⟩:=h;unfold nOf;cases e : G.sv with
 | none =>
  rw [e] at r;subst r;have q:=GS.plain (K:=K) Jyg ga (by rw [List.length_map]; exact gg.len.2);rw [List.length_map] at q;exact q
 | some j =>
  rw [e] at r;obtain ⟨q,dx,rfl,r2⟩:=r;exact .stuck r2
noncomputable def spMG (K : W.Frag) (a : Ad) : Sp:=fun vs H Q _=>∃ (p : Addr) (x : V) (G : Jko),vs = [x] ∧ GTAt p H x G ∧ GGood G ∧ ∀ (g : V) (H' : Hp),Same H H' → GX a H' g G → Q g H'
theorem Juj {t1 t2 : TS} {D : Jqc} {σ : L2.St} {H : Hp} (Mid : L2.St → Hp → Prop) (h1 : ∀ R,(∀ σ H,Mid σ H → R σ H) → t1 { D with nx:=R } σ H) (h2 : ∀ σ H,Mid σ H → t2 D σ H) : tSeq t1 t2 D σ H:=h1 _ h2
section
variable {P : Program} {w : World} {K : W.Frag} {mg : Str → Option Value} {base : Heap} {a : Ad}
theorem Jo2 {H : Hp} {ns : List Int} {y : V} (h : y ∈ ns.map V.int) : Tm K H y:=by
 obtain ⟨i,_,rfl⟩:=List.mem_map.mp h;exact .inl ⟨i,rfl⟩
theorem Js1 {C : Addr} {lo : Int} {x : V} {H : Hp} {Q1 : Hp → Prop} {E : XK} {g dx : Addr} (c : Cls K C) (n : NoAttr K C "marks") (hg : H g = none) (hd : H dx = none) (ne : dx ≠ g)
  (h : ∃ xs,Sq H x xs ∧ (∀ y ∈ xs,Tm K H y) ∧ Jo6 lo xs = true ∧ ∀ H', Same H H' → GateAt C H' g xs → Q1 H') :
  Jul K a lo [.ref g,x] (upd (upd H dx (.own g)) g (.ins C dx [])) (fun v H2=>v = .non ∧ Q1 H2) E:=by
 have s1 : Same H (upd (upd H dx (.own g)) g (.ins C dx [])):=fun b o e=>by rw [Jk7 (Jk8 e hg),Jk7 (Jk8 e hd)]; exact e
 refine ⟨g,C,dx,x,rfl,Jk0,c,n,?_⟩;obtain ⟨xs,sq,tms,e,k⟩:=h;refine .inl ⟨xs,sq.same s1,fun y hy=>(tms y hy).same s1,e,fun t H' s' ht=>⟨rfl,?_⟩⟩;have ng : t ≠ g:=ne_of ht (s' _ _ Jk0) (by intro z; cases z);exact k _ (fun b o e=>by rw [Jk7 (Jk8 e hg)]; exact s' _ _ (s1 _ _ e)) ⟨dx,t,Jk0,by rw [Jk7 ng]; exact ht⟩
theorem sc_law_made_gate : Jkb ["_law_told","_law_kind","_law_marks","_law_stuck","_law_gate_here"] ["_law_told"] (Jk6 (top 71)):=%[|0]
theorem Jqu (T : Tx K mg a) : FnOk P w K mg base CX0 6 a.Jie a.Jif ["_law_told"] (spMG K a):=by
 have G_StepGate___init__:=%[Jqs|1];have G_FlapGate___init__:=%[Jqo|1];have G_PartGate___init__:=%[Jqr|1];have G_StuckGate___init__:=%[Jpy|1];refine T.Jw.fn.ok sc_law_made_gate (fun vs H Q E h=>?_) (fun cdv A outer s H vs Q E hr h=>?_)
 ·obtain ⟨p,x,G,rfl,_⟩:=h;rfl
 ·obtain ⟨p,x,⟨kd,ns,sv⟩,rfl,⟨t,m,rfl,ht,hm,_⟩,gg,k⟩:=h;refine ⟨?t,?B,?C⟩
  case B =>
   refine' Jk2 ?s1 ?r1
   case s1 =>
    exact (Jng (pv 0) (Jom rfl (Jkf (Jkc (i:=1) sc_law_made_gate.nd rfl (Or.inl rfl)) (Jkf (Jkc (i:=2) sc_law_made_gate.nd rfl (Or.inl rfl)) (Jkf (Jkc (i:=3) sc_law_made_gate.nd rfl (Or.inl rfl)) Jls)))))
   case r1 =>
    refine' Jk2 ?s4 ?r4
    case s4 =>
     refine' Jks ?c5 ?a5 ?b5
     case c5 =>
      exact (Jl6 Jnp (pv 1) Jn4 (Jkt _))
     case a5 =>
      refine' Jk3 ?s6
      case s6 =>
       exact (Jki (i:=4) sc_law_made_gate.nd rfl (Or.inl rfl) (Jn9 T.Jd6 G_StepGate___init__.calm (hr.mono (by decide)) (by rfl) T.Jbb T.Jbv.bd .nil Jnq (Jjz (Jkr Jlz (by rfl) T.Jaq Jmv (Jjz (pv 2) Jk1)) Jk1)))
     case b5 =>
      refine' Jk3 ?s8
      case s8 =>
       refine' Jks ?c9 ?a9 ?b9
       case c9 =>
        exact (Jl6 Jnp (pv 1) Jn4 (Jkt _))
       case a9 =>
        refine' Jk3 ?s10
        case s10 =>
         exact (Jki (i:=4) sc_law_made_gate.nd rfl (Or.inl rfl) (Jn9 T.Jdd G_FlapGate___init__.calm (hr.mono (by decide)) (by rfl) T.Jbc T.Jby.bd .nil Jnq (Jjz (Jkr Jlz (by rfl) T.Jaq Jmv (Jjz (pv 2) Jk1)) Jk1)))
       case b9 =>
        refine' Jk3 ?s12
        case s12 =>
         exact (Jki (i:=4) sc_law_made_gate.nd rfl (Or.inl rfl) (Jn9 T.Jdk G_PartGate___init__.calm (hr.mono (by decide)) (by rfl) T.Jbd T.Jc1.bd .nil Jnq (Jjz (Jkr Jlz (by rfl) T.Jaq Jmv (Jjz (pv 2) Jk1)) Jk1)))
    case r4 =>
     refine' Jk2 ?s14 ?r14
     case s14 =>
      refine' Jks ?c15 ?a15 ?b15
      case c15 =>
       exact (Jl6 Jw5 (pv 3) Jnz (Jkt _))
      case a15 =>
       refine' Jk3 ?s16
       case s16 =>
        exact (Jkd (pv 4))
      case b15 =>
       exact Jkg
     case r14 =>
      refine' Jk3 ?s20
      case s20 =>
       exact (Jkd (Jn9 T.Jdr G_StuckGate___init__.calm (hr.mono (by decide)) (by rfl) T.Jbe T.Jc4.bd .nil Jnq (Jjz (pv 4) (Jjz (pv 3) Jk1))))
  have hkd : Knd kd:=gg.kd;have har : Jo6 (Jmg kd) (ns.map V.int) = true:=gg.ns;have hsv : ∀ i,sv = some i → 0 ≤ i ∧ i < (ns.length : Int):=gg.sv;have hlen:=gg.len;dsimp only at ht hm hlen;refine ⟨_,rfl,t,_,rfl,SqT.of ht,rfl,_,_,rfl,_,_,rfl,_,_,rfl,rfl,?_⟩;dsimp only;refine Juj (fun σ H1=>∃ g : Addr,σ = [some (.ref t),some (.str kd),some (.ref m),some (svV sv),some (.ref g)] ∧ Same H H1 ∧ GateAt (cOf a kd) H1 g (ns.map V.int)) (fun R hR=>?_) ?_
  ·rcases hkd with rfl | rfl | rfl
   ·have e1 : Jmg "step" = 0:=if_neg ne_sp;have e2 : cOf a "step" = a.Jjs:=if_pos rfl;have hr' : Jo6 (0) (ns.map V.int) = true:=by rw [← e1]; exact har
    refine ⟨_,rfl,rfl,_,rfl,Jvu rfl ⟨_,rfl,m,_,rfl,.inl (SqL.of hm),fun l hl g dx hg hd ne=>Js1 T.Jd4 T.Jda hg hd ne ⟨ns.map V.int,.lst Jk0,fun y hy=>Jo2 hy,hr', fun H' s' ga=>?_⟩⟩⟩;exact hR _ _ ⟨g,rfl,(Same.upd hl).trans s', by rw [e2]; exact ga⟩
   ·have e1 : Jmg "flap" = 0:=if_neg ne_fp;have e2 : cOf a "flap" = a.Jjt:=by unfold cOf; rw [if_neg Jrb,if_pos rfl]
    have hr' : Jo6 (0) (ns.map V.int) = true:=by rw [← e1]; exact har
    refine ⟨_,rfl,rfl,_,rfl,Jtx (Jy7 Jrb) ⟨_,rfl,rfl,_,rfl,Jvu rfl ⟨_,rfl,m,_,rfl,.inl (SqL.of hm),fun l hl g dx hg hd ne=>Js1 T.Jdb T.Jdh hg hd ne ⟨ns.map V.int,.lst Jk0,fun y hy=>Jo2 hy,hr', fun H' s' ga=>?_⟩⟩⟩⟩;exact hR _ _ ⟨g,rfl,(Same.upd hl).trans s', by rw [e2]; exact ga⟩
   ·have e1 : Jmg "part" = 1:=if_pos rfl;have e2 : cOf a "part" = a.Jju:=by unfold cOf; rw [if_neg Jrd,if_neg Jrc]
    have hr' : Jo6 (1) (ns.map V.int) = true:=by rw [← e1]; exact har
    refine ⟨_,rfl,rfl,_,rfl,Jtx (Jy7 Jrd) ⟨_,rfl,rfl,_,rfl,Jtx (Jy7 Jrc) ⟨_,rfl,m,_,rfl,.inl (SqL.of hm),fun l hl g dx hg hd ne=>Js1 T.Jdi T.Jdo hg hd ne ⟨ns.map V.int,.lst Jk0,fun y hy=>Jo2 hy,hr', fun H' s' ga=>?_⟩⟩⟩⟩;exact hR _ _ ⟨g,rfl,(Same.upd hl).trans s', by rw [e2]; exact ga⟩
  ·rintro σ H1 ⟨g,rfl,s1,ga⟩;have gs : GS K a H1 (.ref g) ns.length:=by
    have q:=GS.plain (K:=K) Jyg ga (by rw [List.length_map]; exact hlen.2);rw [List.length_map] at q;exact q
   cases sv with
   | none=>exact ⟨_,rfl,rfl,_,rfl,Jvu rfl ⟨_,rfl,k _ _ s1 ⟨g,ga,rfl⟩⟩⟩
   | some j =>
    have hj:=hsv j rfl;refine ⟨_,rfl,rfl,_,rfl,Jtx (fun z=>by cases z) ⟨_,rfl,_,rfl,fun x dx hx hdx ne=>?_⟩⟩;have sn : Same H1 (upd (upd H1 dx (.own x)) x (.ins a.Jjv dx [])):=fun b o e=>by rw [Jk7 (Jk8 e hx),Jk7 (Jk8 e hdx)]; exact e
    refine ⟨x,dx,_,.int j,rfl,Jk0,.inr (.inr ⟨ns.length,gs.same sn,.inl ⟨j,rfl⟩,by simp [Jkl]; omega,rfl,?_⟩)⟩;have sx : Same H1 (upd (upd (upd H1 dx (.own x)) x (.ins a.Jjv dx [])) x (.ins a.Jjv dx [("gate",.ref g),("setting",.int j)])):=by
     rw [Jm1];exact fun b o e=>by rw [Jk7 (Jk8 e hx),Jk7 (Jk8 e hdx)]; exact e
    exact k _ _ (s1.trans sx) ⟨g,ga.same sx,x,dx,rfl,Jk0⟩
end
theorem GS.put {K : W.Frag} {a : Ad} {H : Hp} {x : V} {n : Nat} {D : Addr} {bs : List V} {o : HO} (hD : H D = some (.lst bs)) (h : GS K a H x n) : GS K a (upd H D o) x n:=by
 cases h with
 | plain i g l =>
  obtain ⟨dx,t,h1,h2⟩:=g;exact .plain i ⟨dx,t,by rw [Jk7 (fun z=>by rw [z,hD] at h1; cases h1)]; exact h1,by rw [Jk7 (fun z=>by rw [z,hD] at h2; cases h2)]; exact h2⟩ l
 | stuck e=>exact .stuck (by rw [Jk7 (fun z=>by rw [z,hD] at e; cases e)]; exact e)
theorem BasAt.put {K : W.Frag} {a : Ad} {H : Hp} {b D : Addr} {B : Bsn} {bs : List V} {o : HO} (hD : H D = some (.lst bs)) (h : BasAt K a H b B) : BasAt K a (upd H D o) b B:=by
 obtain ⟨dx,h1,h2⟩:=h;exact ⟨dx,by rw [Jk7 (fun z=>by rw [z,hD] at h1; cases h1)]; exact h1,h2.put hD⟩
theorem BasL.map {K : W.Frag} {a : Ad} {H H' : Hp} (f : ∀ x B,BasAt K a H x B → BasAt K a H' x B) : ∀ {xs : List Addr} {Bs : List Bsn},BasL K a H xs Bs → BasL K a H' xs Bs
 | [],[],_=>True.intro
 | _ :: _,_ :: _,⟨h,t⟩=>⟨f _ _ h,BasL.map f t⟩
theorem BasL.snoc {K : W.Frag} {a : Ad} {H : Hp} {x : Addr} {B : Bsn} (h : BasAt K a H x B) : ∀ {xs : List Addr} {Bs : List Bsn},BasL K a H xs Bs → BasL K a H (xs ++ [x]) (Bs ++ [B])
 | [],[],_=>⟨h,True.intro⟩
 | _ :: _,_ :: _,⟨a,t⟩=>⟨a,BasL.snoc h t⟩
theorem TwnAt.put {a : Ad} {H : Hp} {b D : Addr} {B : Twn} {bs : List V} {o : HO} (hD : H D = some (.lst bs)) (h : TwnAt a H b B) : TwnAt a (upd H D o) b B:=by
 obtain ⟨dx,h1⟩:=h;exact ⟨dx,by rw [Jk7 (fun z=>by rw [z,hD] at h1; cases h1)]; exact h1⟩
theorem TwnL.map {a : Ad} {H H' : Hp} (f : ∀ x B,TwnAt a H x B → TwnAt a H' x B) : ∀ {xs : List Addr} {Bs : List Twn},TwnL a H xs Bs → TwnL a H' xs Bs
 | [],[],_=>True.intro
 | _ :: _,_ :: _,⟨h,t⟩=>⟨f _ _ h,TwnL.map f t⟩
theorem TwnL.snoc {a : Ad} {H : Hp} {x : Addr} {B : Twn} (h : TwnAt a H x B) : ∀ {xs : List Addr} {Bs : List Twn},TwnL a H xs Bs → TwnL a H (xs ++ [x]) (Bs ++ [B])
 | [],[],_=>⟨h,True.intro⟩
 | _ :: _,_ :: _,⟨a,t⟩=>⟨a,TwnL.snoc h t⟩
theorem BTL.get {p : Addr} {H : Hp} : ∀ {xs : List V} {Bs : List Jm9} {i : Nat} {x : V},BTL p H xs Bs → xs[i]? = some x → ∃ B,Bs[i]? = some B ∧ BTAt p H x B:=by
 intro os
 induction os with
 | nil=>intro Bs i v h e; simp at e
 | cons o os ih=>
  intro Bs i v h e;cases Bs with
  | nil=>exact False.elim h
  | cons B Bs=>
   cases i with
   | zero=>cases e; exact ⟨B,rfl,And.left h⟩
   | succ i=>exact ih (Bs:=Bs) (i:=i) (And.right h) (by simpa using e)
theorem TTL.get {H : Hp} : ∀ {xs : List V} {Bs : List Jo3} {i : Nat} {x : V},TTL H xs Bs → xs[i]? = some x → ∃ B,Bs[i]? = some B ∧ TTAt H x B:=by
 intro os
 induction os with
 | nil=>intro Bs i v h e; simp at e
 | cons o os ih=>
  intro Bs i v h e;cases Bs with
  | nil=>exact False.elim h
  | cons B Bs=>
   cases i with
   | zero=>cases e; exact ⟨B,rfl,And.left h⟩
   | succ i=>exact ih (Bs:=Bs) (i:=i) (And.right h) (by simpa using e)
theorem GX.put {a : Ad} {H : Hp} {x : V} {G : Jko} {D : Addr} {bs : List V} {o : HO} (hD : H D = some (.lst bs)) (h : GX a H x G) : GX a (upd H D o) x G:=by
 obtain ⟨g,⟨dx,t,h1,h2⟩,r⟩:=h;refine ⟨g,⟨dx,t,by rw [Jk7 (fun z=>by rw [z,hD] at h1; cases h1)]; exact h1,by rw [Jk7 (fun z=>by rw [z,hD] at h2; cases h2)]; exact h2⟩,?_⟩;cases e : G.sv with
 | none=>rw [e] at r; exact r
 | some j =>
  rw [e] at r;obtain ⟨q,dx,r1,r2⟩:=r;exact ⟨q,dx,r1,by rw [Jk7 (fun z=>by rw [z,hD] at r2; cases r2)]; exact r2⟩
noncomputable def GXL (a : Ad) (H : Hp) : List V → List Jko → Prop
 | [],[]=>True
 | x :: xs,G :: Gs=>GX a H x G ∧ GXL a H xs Gs
 | _,_=>False
theorem GXL.map {a : Ad} {H H' : Hp} (f : ∀ x G,GX a H x G → GX a H' x G) : ∀ {xs : List V} {Gs : List Jko},GXL a H xs Gs → GXL a H' xs Gs
 | [],[],_=>True.intro
 | _ :: _,_ :: _,⟨h,t⟩=>⟨f _ _ h,GXL.map f t⟩
theorem GXL.snoc {a : Ad} {H : Hp} {x : V} {G : Jko} (h : GX a H x G) : ∀ {xs : List V} {Gs : List Jko},GXL a H xs Gs → GXL a H (xs ++ [x]) (Gs ++ [G])
 | [],[],_=>⟨h,True.intro⟩
 | _ :: _,_ :: _,⟨a,t⟩=>⟨a,GXL.snoc h t⟩
theorem GXL.get {a : Ad} {H : Hp} : ∀ {xs : List V} {Gs : List Jko} {i : Nat} {x : V},GXL a H xs Gs → xs[i]? = some x → ∃ G,Gs[i]? = some G ∧ GX a H x G
 | _ :: _,G :: _,0,_,⟨h,_⟩,e=>by cases e; exact ⟨G,rfl,h⟩
 | _ :: _,_ :: _,i + 1,_,⟨_,t⟩,e=>GXL.get (i:=i) t (by simpa using e)
 | [],[],i,_,_,e=>by simp at e
theorem GXL.same {a : Ad} {H H' : Hp} {xs : List V} {Gs : List Jko} (s : Same H H') (h : GXL a H xs Gs) : GXL a H' xs Gs:=h.map fun _ _ h=>h.same s
noncomputable def Jpp (B : Bsn) : Str × Int × Int × Int × Int × Nat:=(B.z,B.lo,B.hi,B.st,B.rn,B.n)
noncomputable def Jt8 (B : Jm9) : Str × Int × Int × Int × Int × Nat:=(B.z,B.lo,B.hi,B.st,B.rn,nOf B.G)
structure Jqe (R : Jl2) (S : Riv) : Prop where
 c : S.c = R.c
 g : S.g = R.g
 Bs : S.Bs.map Jpp = R.Bs.map Jt8
 Ts : S.Ts.map (fun B=>(B.z,B.b,B.wt)) = R.Ts.map (fun B=>(B.z,B.b,B.wt))
noncomputable def Yad (K : W.Frag) (a : Ad) : Sp:=fun vs H Q _=>∃ (p : Addr) (x : V) (R : Jl2),vs = [x] ∧ RTAt p H x R ∧ Jmd R ∧ ∀ (o : Addr) (S : Riv) (H' : Hp),Same H H' → RivAt K a H' o S → Jqe R S → GXL a H' (S.Bs.map (·.g)) (R.Bs.map (·.G)) → Q (.ref o) H'
section
variable {P : Program} {w : World} {K : W.Frag} {mg : Str → Option Value} {base : Heap} {a : Ad}
theorem GS.gti {H : Hp} {x : V} {n : Nat} (T : Tx K mg a) (g : GS K a H x n) : GtI K a H x true:=by
 cases g with
 | plain i ga l =>
  obtain ⟨dx,t,h1,h2⟩:=ga;rcases i with rfl | rfl | rfl
  ·exact ⟨_,.of (T.Jd5.ty T.Jd4 h1),T.Jej,T.Jet,_,T.Jep,fun _=>rfl,by intro w'; cases w'⟩
  ·exact ⟨_,.of (T.Jdc.ty T.Jdb h1),T.Jek,T.Jeu,_,T.Jeq,fun _=>rfl,by intro w'; cases w'⟩
  ·exact ⟨_,.of (T.Jdj.ty T.Jdi h1),T.Jel,T.Jev,_,T.Jer,fun _=>rfl,by intro w'; cases w'⟩
 | stuck h1=>exact ⟨_,.of (T.Jdq.ty T.Jdp h1),T.Jem,T.Jew,_,T.Jes,fun _=>rfl,by intro w'; cases w'⟩
theorem Jvy {H : Hp} {z : Str} (h : Ltr 8 z) : Nmd K H (.str z):=⟨.inr ⟨_,.of (.str z),rfl⟩,fun y e=>by cases e; exact ⟨Nat.le_trans h.len (by omega),h.wd.low⟩⟩
theorem sc_law_made : Jkb ["_law_told","_law_basins","_law_name","_law_low","_law_high","_law_start","_law_rain_here","_law_gate_here"] ["_law_told"] (Jk6 (top 72)):=%[|0]
theorem Jv6 (T : Tx K mg a) : FnOk P w K mg base CX0 7 a.Jig a.Jih ["_law_told"] (Yad K a):=by
 have G__law_made_gate:=%[Jqu|1];have G_Basin___init__:=%[Jsu|1];have G_Town___init__:=%[Jty|1];have G_River___init__:=%[Jsv|1];refine T.Jx.fn.ok sc_law_made (fun vs H Q E h=>?_) (fun cdv A outer s H vs Q E hr h=>?_)
 ·obtain ⟨p,x,R,rfl,_⟩:=h;rfl
 ·obtain ⟨p,x,R,rfl,⟨t,lb,lt,bs,ts,rfl,ht,hb,btl,htt,ttl,_,_⟩,rg,k⟩:=h;refine ⟨?t,?B,?C⟩
  case B =>
   refine' Jk2 ?s1 ?r1
   case s1 =>
    exact (Jki (i:=1) sc_law_made.nd rfl (Or.inl rfl) (Jnf Jk1))
   case r1 =>
    refine' Jk2 ?s3 ?r3
    case s3 =>
     refine' Jnh ?f4_0 ?f4_1 ?f4_2 ?f4_3 ?f4_4
     case f4_0 =>
      exact PassesOwn.never
     case f4_1 =>
      exact rfl
     case f4_2 =>
      exact (Jlg (Jke Jkj (pv 0) Jk4 (fun _ _=>rfl)))
     case f4_3 =>
      exact (Jom rfl (Jkf (Jkc (i:=2) sc_law_made.nd rfl (Or.inl rfl)) (Jkf (Jkc (i:=3) sc_law_made.nd rfl (Or.inl rfl)) (Jkf (Jkc (i:=4) sc_law_made.nd rfl (Or.inl rfl)) (Jkf (Jkc (i:=5) sc_law_made.nd rfl (Or.inl rfl)) (Jkf (Jkc (i:=6) sc_law_made.nd rfl (Or.inl rfl)) (Jkf (Jkc (i:=7) sc_law_made.nd rfl (Or.inl rfl)) Jls)))))))
     case f4_4 =>
      refine' Jk3 ?s5
      case s5 =>
       exact (Jml (Jse F.plainAttrs_list F.slot_list_append F.type_list_append Jno (pv 1) (Jjz (Jn9 T.Jdz G_Basin___init__.calm (hr.mono (by decide)) (by rfl) T.Jbf T.Jc7.bd .nil Jnq (pa6 (pv 2) (pv 3) (pv 4) (pv 5) (pv 6) (Jk5 T.Jw G__law_made_gate hr (by decide) (Jjz (pv 7) Jk1)))) Jk1)))
    case r3 =>
     refine' Jk3 ?s7
     case s7 =>
      refine' Jkd ?e9_0
      case e9_0 =>
       exact (Jn9 T.Jed G_River___init__.calm (hr.mono (by decide)) (by rfl) T.Jbh T.Jc9.bd .nil Jnq (pa4 (Jke Jkj (pv 0) Jk4 (fun _ _=>rfl)) (Jke Jkj (pv 0) Jk4 (fun _ _=>rfl)) (pv 1) (Jkz (N:=(["_law_name","_law_basin_here","_law_want"] : List Str)) (ini:=[none,none,none]) rfl (Jlg (Jke Jkj (pv 0) Jk4 (fun _ _=>rfl))) (fun _ _ _ _ _=>(Jna (K:=K) (n:=3) rfl rfl (Jkf (Jkc (i:=0) (by decide +kernel : (["_law_name","_law_basin_here","_law_want"] : List Str).Nodup) rfl (Or.inl rfl)) (Jkf (Jkc (i:=1) (by decide +kernel : (["_law_name","_law_basin_here","_law_want"] : List Str).Nodup) rfl (Or.inl rfl)) (Jkf (Jkc (i:=2) (by decide +kernel : (["_law_name","_law_basin_here","_law_want"] : List Str).Nodup) rfl (Or.inl rfl)) Jls))))) (fun _ _ _ _ _=>Jkx) (fun _ _ _ _ _=>(Jn9 T.Je8 G_Town___init__.calm (hr.mono (by decide)) (by rfl) T.Jbg T.Jc8.bd .nil Jnq (Jjz (pv 0) (Jjz (pv 1) (Jjz (pv 2) Jk1))))))))
  refine ⟨(show 0 ≤ sizeLine by decide),fun nb hnb=>?_⟩;have s0:=Same.upd (o:=.lst []) hnb;refine ⟨_,rfl,t,_,2,_,rfl,rfl,SqT.of (s0 _ _ ht),rfl,lb,rfl,⟨_,SqL.of (s0 _ _ hb)⟩,?_⟩;have blen:=btl.len;refine Jps (xs:=bs) (fun i σ H'=>∃ (o1 o2 o3 o4 o5 o6 : Option V) (os : List Addr) (Bs : List Bsn),σ = [some (.ref t),some (.ref nb),o1,o2,o3,o4,o5,o6] ∧ H' nb = some (.lst (os.map V.ref)) ∧ BasL K a H' os Bs ∧ Bs.length = i ∧ Bs.map Jpp = (R.Bs.take i).map Jt8 ∧ GXL a H' (Bs.map (·.g)) ((R.Bs.take i).map (·.G)) ∧ Same H H') ?_ ?_ ?_ ?_
  ·exact ⟨_,_,_,_,_,_,[],[],rfl,Jk0,True.intro,rfl,rfl,True.intro,s0⟩
  ·rintro i σ H' _ ⟨_,_,_,_,_,_,_,_,_,_,_,_,_,_,sm⟩;exact SqL.of (sm _ _ hb)
  ·rintro i x σ H' hx ⟨o1,o2,o3,o4,o5,o6,os,Bs,rfl,hnbs,bl,bln,bkey,gxl,sm⟩;obtain ⟨B,eB,⟨tb,g,rfl,htb,gt⟩⟩:=btl.get hx;have hB : B ∈ R.Bs:=List.mem_of_getElem? eB;obtain ⟨bg,bnm,blt⟩:=rg.Bs B hB;have olen:=bl.len;have hi : i < R.Bs.length:=(List.getElem?_eq_some_iff.mp eB).1;have hn:=rg.n;refine ⟨tb,_,rfl,SqT.of (sm _ _ htb),rfl,_,_,rfl,_,_,rfl,_,_,rfl,_,_,rfl,_,_,rfl,_,_,rfl,rfl,?_⟩;refine ⟨_,rfl,.inl ⟨rfl,_,SqL.of hnbs⟩,_,rfl,_,rfl,_,rfl,_,rfl,_,rfl,_,rfl,p,g,B.G,rfl,gt.same sm,bg.G,fun gv H1 s1 gx=>?_⟩;have gs : GS K a H1 gv (nOf B.G):=gx.gs bg.G;intro x dx hx1 hd1 ne;have sn : Same H1 (upd (upd H1 dx (.own x)) x (.ins a.Jjw dx [])):=fun b o e=>by rw [Jk7 (Jk8 e hx1),Jk7 (Jk8 e hd1)]; exact e
   refine ⟨x,dx,.str B.z,.int B.lo,.int B.hi,.int B.st,.int B.rn,gv,true,none,rfl,Jk0,Jvy blt,.inl ⟨_,rfl⟩,.inl ⟨_,rfl⟩,.inl ⟨_,rfl⟩,.inl ⟨_,rfl⟩,(gs.gti T).same sn,.good B.lo B.hi bnm rfl rfl (Jn7 bg.lo.1 bg.lo.2) (Jn7 bg.hi.1 bg.hi.2) (Jn7 bg.st.1 bg.st.2) (Jn7 bg.rn.1 bg.rn.2) rfl,fun H2 s2=>⟨rfl,?_⟩⟩;have s3 : Same H1 (upd H2 x (.ins a.Jjw dx (basF (.str B.z) (.int B.lo) (.int B.hi) (.int B.st) (.int B.rn) gv))):=fun b o e=>by rw [Jk7 (Jk8 e hx1)]; exact s2 _ _ (sn _ _ e)
   have s13:=s1.trans s3;have hnb3:=s13 _ _ hnbs;refine ⟨nb,_,_,rfl,rfl,hnb3,by rw [List.length_map]; exact Jl0 (by omega),?_⟩;refine ⟨_,_,_,_,_,_,os ++ [x],Bs ++ [⟨B.z,B.lo,B.hi,B.st,B.rn,gv,nOf B.G⟩],rfl,by rw [Jk0,List.map_append]; rfl,?_,by rw [List.length_append]; show Bs.length + 1 = i + 1; omega,?_,?_,?_⟩
   ·exact BasL.snoc (BasAt.put hnb3 ⟨dx,Jk0,gs.same s3⟩) (BasL.map (fun x B h=>(h.same s13).put hnb3) bl)
   ·rw [List.map_append,bkey,List.take_add_one,eB,List.map_append];rfl
   ·rw [List.map_append,List.take_add_one,eB,List.map_append];exact GXL.snoc (GX.put hnb3 (gx.same s3)) (GXL.map (fun x G h=>(h.same s13).put hnb3) gxl)
   ·intro b o e;rw [Jk7 (Jk8 e hnb)];exact s13 _ _ (sm _ _ e)
  ·rintro σ H1 ⟨o1,o2,o3,o4,o5,o6,os,Bs,rfl,hnbs,bl,bln,bkey,gxl,sm⟩;rw [List.take_of_length_le (by omega)] at bkey gxl;refine ⟨_,rfl,t,_,0,_,rfl,rfl,SqT.of (sm _ _ ht),rfl,?_⟩;refine ⟨_,rfl,t,_,1,_,rfl,rfl,SqT.of (sm _ _ ht),rfl,?_⟩;refine ⟨_,rfl,_,rfl,t,_,3,_,rfl,rfl,SqT.of (sm _ _ ht),rfl,lt,rfl,⟨_,SqL.of (sm _ _ htt)⟩,fun D hD=>?_⟩;have tlen:=ttl.len;refine Jlt (K:=K) (a:=lt) (xs:=ts) (D:=D) (fun i σ H'=>∃ (o1 o2 o3 : Option V) (ws : List Addr) (Ws : List Twn),σ = [o1,o2,o3] ∧ H' D = some (.lst (ws.map V.ref)) ∧ TwnL a H' ws Ws ∧ Ws.length = i ∧ Ws.map (fun B=>(B.z,B.b,B.wt)) = (R.Ts.take i).map (fun B=>(B.z,B.b,B.wt)) ∧ Same H1 H') ?_ ?_ ?_ ?_
   ·exact ⟨_,_,_,[],[],rfl,Jk0,True.intro,rfl,rfl,Same.upd hD⟩
   ·rintro i σ H' _ ⟨_,_,_,_,_,_,_,_,_,_,s1⟩;exact SqL.of (s1 _ _ (sm _ _ htt))
   ·rintro i x σ H' hx ⟨p1,p2,p3,ws,Ws,rfl,hDs,wl,wln,wkey,s1⟩;obtain ⟨B,eB,⟨tb,rfl,htb⟩⟩:=ttl.get hx;obtain ⟨bnm,blt,bin,bw⟩:=rg.Ts B (List.mem_of_getElem? eB);have hi : i < R.Ts.length:=(List.getElem?_eq_some_iff.mp eB).1;have h3:=rg.tn;have wlen:=wl.len;obtain ⟨Bb,hBb,ebb⟩:=List.mem_map.mp bin;have blb : Ltr 8 B.b:=by rw [← ebb]; exact (rg.Bs Bb hBb).2.2
    have bnb : Joe B.b = true:=by rw [← ebb]; exact (rg.Bs Bb hBb).2.1
    refine Jx5 (SqT.of (s1 _ _ (sm _ _ htb))) ⟨_,rfl,_,rfl,_,rfl,fun x dx hx1 hd1 ne=>?_⟩;have sn : Same H' (upd (upd H' dx (.own x)) x (.ins a.Jjx dx [])):=fun b o e=>by rw [Jk7 (Jk8 e hx1),Jk7 (Jk8 e hd1)]; exact e
    refine ⟨x,dx,.str B.z,.str B.b,.int B.wt,none,rfl,Jk0,Jvy blt,Jvy blb,.inl ⟨_,rfl⟩,.good bnm bnb (Jn7 bw.1 bw.2),fun H2 s2=>⟨rfl,?_⟩⟩;have s3 : Same H' (upd H2 x (.ins a.Jjx dx (twnF (.str B.z) (.str B.b) (.int B.wt)))):=fun b o e=>by rw [Jk7 (Jk8 e hx1)]; exact s2 _ _ (sn _ _ e)
    have hD3:=s3 _ _ hDs;refine ⟨_,hD3,by rw [List.length_map]; exact Jl0 (by omega),_,_,_,ws ++ [x],Ws ++ [⟨B.z,B.b,B.wt⟩],rfl,by rw [Jk0,List.map_append]; rfl,?_,by rw [List.length_append]; show Ws.length + 1 = i + 1; omega,?_,?_⟩
    ·exact TwnL.snoc (TwnAt.put hD3 ⟨dx,Jk0⟩) (TwnL.map (fun x B h=>(h.same s3).put hD3) wl)
    ·rw [List.map_append,wkey,List.take_add_one,eB,List.map_append];rfl
    ·intro b o e;rw [Jk7 (Jk8 e hD)];exact s3 _ _ (s1 _ _ e)
   ·rintro σ H2 ⟨p1,p2,p3,ws,Ws,rfl,hDs,wl,wln,wkey,s1⟩;rw [List.take_of_length_le (by omega)] at wkey;intro x dx hx1 hd1 ne;have sn : Same H2 (upd (upd H2 dx (.own x)) x (.ins a.Jjy dx [])):=fun b o e=>by rw [Jk7 (Jk8 e hx1),Jk7 (Jk8 e hd1)]; exact e
    have hz : Bs.map (·.z) = R.Bs.map (·.z):=by
     have:=congrArg (List.map (·.1)) bkey;simpa [List.map_map,Jpp,Jt8,Function.comp_def] using this
    have hr : Bs.map (·.rn) = R.Bs.map (·.rn):=by
     have:=congrArg (List.map (·.2.2.2.2.1)) bkey;simpa [List.map_map,Jpp,Jt8,Function.comp_def] using this
    have hw : Ws.map (·.z) = R.Ts.map (·.z):=by
     have:=congrArg (List.map (·.1)) wkey;simpa [List.map_map,Function.comp_def] using this
    have hwb : Ws.map (·.b) = R.Ts.map (·.b):=by
     have:=congrArg (List.map (·.2.1)) wkey;simpa [List.map_map,Function.comp_def] using this
    have n1:=rg.n;have n2:=rg.tn;refine ⟨x,dx,nb,D,R.c,R.g,os,ws,Bs,Ws,rfl,Jk0,rg.c,rg.g,sn _ _ (s1 _ _ hnbs),(bl.same s1).same sn,by omega,by rw [hz]; exact rg.nd,sn _ _ hDs,wl.same sn,by omega,by rw [hw]; exact rg.td,fun B hB=>?_,fun H3 b t s3 hb3 ht3 nb3 nt3=>⟨rfl,?_⟩⟩
    ·have : B.b ∈ R.Ts.map (·.b):=by rw [← hwb]; exact List.mem_map_of_mem hB
     obtain ⟨C,hC,e⟩:=List.mem_map.mp this;rw [hz,← e];exact (rg.Ts C hC).2.2.1
    ·have s4 : Same H2 (upd H3 x (.ins a.Jjy dx (rivF (.int R.c) (.int R.g) (.ref b) (.ref t)))):=fun b o e=>by rw [Jk7 (Jk8 e hx1)]; exact s3 _ _ (sn _ _ e)
     refine k x ⟨R.c,R.g,Bs,Ws⟩ _ ((sm.trans s1).trans s4) ⟨dx,b,t,os,ws,Jk0,by rw [Jk7 nb3]; exact hb3,(bl.same s1).same s4,by rw [Jk7 nt3]; exact ht3,wl.same s4,by dsimp only; omega,by dsimp only; omega,fun B hB=>?_⟩ ⟨rfl,rfl,bkey,wkey⟩ ((gxl.same s1).same s4);have : B.rn ∈ R.Bs.map (·.rn):=by rw [← hr]; exact List.mem_map_of_mem hB
     obtain ⟨C,hC,e⟩:=List.mem_map.mp this;rw [← e];exact (rg.Bs C hC).1.rn
end
theorem Jrx {K : W.Frag} {p a D : Addr} {xs : List V} {te : TE} {R : Hp → Prop} {H : Hp} {o : Option V} {rest : List (Option V)} (Pr : Nat → V → Prop) (st : Strm H p) (hD : H D = none) (sz : xs.length ≤ 2000) (hq : H a = some (.lst xs)) (na : a ≠ p)
  (he : ∀ (i : Nat) (x : V) (H' : Hp) (Q : VK),xs[i]? = some x → But p H H' → (∀ y H5,But p H' H5 → Pr i y → Q y H5) → te (some x :: rest) H' Q) (hd : ∀ ys H', But p H H' → H' D = some (.lst ys) → ys.length = xs.length → (∀ i y,ys[i]? = some y → Pr i y) → R H') :
  ∃ W : Nat → Nat → L2.St → Hp → Prop,(∃ m,W 0 m (o :: rest) (upd H D (.lst []))) ∧ ∀ i m σ' H', W i m σ' H' → ((Itl K a).stop i H' ∧ R H') ∨ ((Itl K a).go i H' ∧ ∃ N : L2.St → Hp → Prop,(∀ σ2 H2,N σ2 H2 → ∃ m', m' < m ∧ W (i + 1) m' σ2 H2) ∧
   ∀ x H2,(Itl K a).yld i H' x H2 → Jmq 0 x σ' H2 fun σ3 H3=>Jvi σ3 H3 fun b H4=>if b = true then te σ3 H4 (fun v H5=>∃ ys,H5 D = some (.lst ys) ∧ ys.length < sizeLine ∧ N σ3 (upd H5 D (.lst (ys ++ [v])))) else N σ3 H4):=by
 have nD : D ≠ p:=st.ne hD;refine Jlt (fun i σ H'=>(∃ o,σ = o :: rest) ∧ (∃ ys,H' D = some (.lst ys) ∧ ys.length = i ∧ ∀ j y,ys[j]? = some y → Pr j y) ∧ But p H H') ⟨⟨_,rfl⟩,⟨[],Jk0,rfl,fun j y e=>by simp at e⟩,But.of st (Same.upd hD)⟩ (fun i σ H' _ ⟨_,_,b⟩=>SqL.of (b.1 _ _ na hq)) ?_ ?_
 ·rintro i x σ H' hx ⟨⟨o,rfl⟩,⟨ys,hDs,hl,hy⟩,b⟩;have hi : i < xs.length:=(List.getElem?_eq_some_iff.mp hx).1;refine Jlm (he i x H' _ hx b fun y H5 b5 py=>⟨ys,b5.1 _ _ nD hDs,Jl0 (by omega),⟨_,rfl⟩,⟨ys ++ [y],Jk0,by rw [List.length_append]; show ys.length + 1 = i + 1; omega,fun j z ej=>?_⟩,(b.trans b5).updD hD nD⟩);rw [List.getElem?_append] at ej;split at ej
  ·exact hy j z ej
  ·have hj : j = i:=by
    have:=(List.getElem?_eq_some_iff.mp ej).1;simp at this;omega
   subst hj;rw [hl,Nat.sub_self] at ej;cases ej;exact py
 ·rintro σ H' ⟨_,⟨ys,hDs,hl,hy⟩,b⟩;exact hd ys H' b hDs hl hy
theorem RTAt.but {p : Addr} {H H' : Hp} {x : V} {R : Jl2} (rg : Jmd R) (st : Strm H p) (b : But p H H') (h : RTAt p H x R) : RTAt p H' x R :=by
 obtain ⟨t,lb,lt,bs,ts,e,h1,h2,h3,h4,h5,n1,n2⟩:=h;exact ⟨t,lb,lt,bs,ts,e,b.1 _ _ (Jmk st h1 (fun _ _ _ z=>by cases z)) h1,b.1 _ _ n1 h2,BTL.map (fun _ _ _ h=>h.but st b) (fun B hB=>(rg.Bs B hB).1) h3,b.1 _ _ n2 h4,TTL.map (fun _ _ h=>h.but st b) h5,n1,n2⟩
theorem RTAt.same {p : Addr} {H H' : Hp} {x : V} {R : Jl2} (rg : Jmd R) (s : Same H H') (h : RTAt p H x R) : RTAt p H' x R :=by
 obtain ⟨t,lb,lt,bs,ts,e,h1,h2,h3,h4,h5,n1,n2⟩:=h;exact ⟨t,lb,lt,bs,ts,e,s _ _ h1,s _ _ h2,BTL.map (fun _ _ _ h=>h.same s) (fun B hB=>(rg.Bs B hB).1) h3,s _ _ h4,TTL.map (fun _ _ h=>h.same s) h5,n1,n2⟩
theorem Jws {Pr : Nat → Int → Prop} : ∀ {ys : List V},(∀ i y,ys[i]? = some y → ∃ n : Int,y = .int n ∧ Pr i n) → ∃ ns : List Int,ys = ns.map V.int ∧ ∀ i n,ns[i]? = some n → Pr i n:=by
 intro ys h;refine ⟨ys.map Jr4,?_,fun i n e=>?_⟩
 ·rw [List.map_map];refine List.ext_getElem? fun i=>?_;rw [List.getElem?_map];cases e : ys[i]? with
  | none=>rfl
  | some y =>
   obtain ⟨n,rfl,_⟩:=h i y e;rfl
 ·rw [List.getElem?_map] at e;cases ey : ys[i]? with
  | none=>rw [ey] at e; cases e
  | some y =>
   rw [ey] at e;obtain ⟨m,rfl,pm⟩:=h i y ey;cases e;exact pm
noncomputable def spLSet : Sp:=fun vs H Q _=>∃ (p : Addr) (x : V) (G : Jko),vs = [x] ∧ GTAt p H x G ∧ ∀ H', Same H H' → Q (.int (nOf G : Nat)) H'
noncomputable def StdAt (H : Hp) (x : V) (R : Jl2) (ls : List Int) (wt : Int) : Prop:=(∃ y u : Addr,x = .ref y ∧ H y = some (.tup [.ref u,.int wt]) ∧ H u = some (.tup (ls.map V.int))) ∧ ls.length = R.Bs.length ∧ (∀ (i : Nat) (n : Int),ls[i]? = some n → ∃ B,R.Bs[i]? = some B ∧ B.lo ≤ n ∧ n ≤ B.hi) ∧ 0 ≤ wt ∧ wt ≤ R.c
noncomputable def Jzj : Sp:=fun vs H Q _=>∃ (p : Addr) (x : V) (R : Jl2),vs = [.ref p,x] ∧ Strm H p ∧ RTAt p H x R ∧ Jmd R ∧ ∀ (y : V) (ls : List Int) (wt : Int) (H' : Hp),But p H H' → StdAt H' y R ls wt → Q y H'
section
variable {P : Program} {w : World} {K : W.Frag} {mg : Str → Option Value} {base : Heap} {a : Ad}
theorem Jrn : Jkb ["_law_gate_here"] ["_law_gate_here"] (Jk6 (top 73)):=%[|0]
theorem Jrk (T : Tx K mg a) : FnOk P w K mg base CX0 1 a.Jii a.Jij ["_law_gate_here"] spLSet:=by
 refine T.Jy.fn.ok Jrn (fun vs H Q E h=>?_) (fun cdv A outer s H vs Q E hr h=>?_)
 ·obtain ⟨p,x,G,rfl,_⟩:=h;rfl
 ·obtain ⟨p,x,⟨kd,ns,sv⟩,rfl,⟨t,m,rfl,ht,hm,_⟩,k⟩:=h;refine ⟨?t,?B,?C⟩
  case B =>
   refine' Jk3 ?s1
   case s1 =>
    exact (Jkd (Jke Jky (Jnf (Jjz (Jka Jkm (by rfl) T.Jap Jlh (Jjz (Jke Jkj (pv 0) Jk4 (fun _ _=>rfl)) Jk1)) (Jjz Jk4 Jk1))) (Jkr Jnl (by rfl) T.Jan Jqj (Jjz (Jlk Ju8 (Jke Jkj (pv 0) Jk4 (fun _ _=>rfl)) Jnz (Jkt _)) Jk1)) (fun _ _=>rfl)))
  dsimp only at ht hm;refine ⟨_,rfl,t,_,1,_,rfl,rfl,SqT.of ht,rfl,m,_,rfl,.inl (SqL.of hm),(show 2 ≤ sizeLine by decide),fun D hD=>?_⟩;have s1:=Same.upd (o:=.lst [.int ((ns.map V.int).length : Nat),.int 1]) hD;refine ⟨_,rfl,t,_,2,_,rfl,rfl,SqT.of (s1 _ _ ht),rfl,rfl,.inr ⟨_,rfl,?_⟩⟩;cases sv with
  | none =>
   refine ⟨D,_,0,_,rfl,rfl,SqL.of Jk0,rfl,?_⟩;have:=k _ s1;rw [show nOf ⟨kd,ns,none⟩ = (ns.map V.int).length by rw [List.length_map]; rfl] at this;exact this
  | some j=>exact ⟨D,_,1,_,rfl,rfl,SqL.of Jk0,rfl,k _ s1⟩
theorem sc_law_standing : Jkb ["_law_stream_here","_law_told","_law_levels"] ["_law_stream_here","_law_told"] (Jk6 (top 74)):=%[|0]
theorem Jrl (T : Tx K mg a) : FnOk P w K mg base CX0 2 a.Jik a.Jil ["_law_stream_here","_law_told"] Jzj:=by
 have G__law_take:=%[Jlw|1];refine T.Jz.fn.ok sc_law_standing (fun vs H Q E h=>?_) (fun cdv A outer s H vs Q E hr h=>?_)
 ·obtain ⟨p,x,R,rfl,_⟩:=h;rfl
 ·obtain ⟨p,x,R,rfl,st,rt,rg,k⟩:=h;refine ⟨?t,?B,?C⟩
  case B =>
   refine' Jk2 ?s1 ?r1
   case s1 =>
    exact (Jki (i:=2) sc_law_standing.nd rfl (Or.inl rfl) (Jkr Jkw (by rfl) T.Jax Jl3 (Jjz (Jkz (N:=(["_law_one","_law_stream_here"] : List Str)) (ini:=[none,some 0]) rfl (Jlg (Jke Jkj (pv 1) Jk4 (fun _ _=>rfl))) (fun _ _ _ _ _=>(Jkc (i:=0) (by decide +kernel : (["_law_one","_law_stream_here"] : List Str).Nodup) rfl (Or.inl rfl))) (fun _ _ _ _ _=>Jkx) (fun _ _ _ _ _=>(Jkh Jkv (Jke (Jmb (K:=K) rfl) (pv 0) Jk4 (fun _ _=>rfl)) (Jk5 T.Jr G__law_take hr (by decide) (Jjz (pv 1) (Jjz (Jkh Jkv (Jkh Jla (Jke (Jmb (K:=K) rfl) (pv 0) Jk4 (fun _ _=>rfl)) (Jke (Jmb (K:=K) rfl) (pv 0) Jk4 (fun _ _=>rfl))) Jk4) Jk1)))))) Jk1)))
   case r1 =>
    refine' Jk3 ?s3
    case s3 =>
     exact (Jkd (Jly (Jjz (pv 2) (Jjz (Jk5 T.Jr G__law_take hr (by decide) (Jjz (pv 0) (Jjz (Jkh Jkv (Jke Jkj (pv 1) Jk4 (fun _ _=>rfl)) Jk4) Jk1))) Jk1))))
  obtain ⟨t,lb,lt,bs,ts,rfl,ht,hb,btl,htt,ttl,nb,nt⟩:=rt;refine ⟨_,rfl,t,_,2,_,rfl,rfl,SqT.of ht,rfl,lb,rfl,⟨_,SqL.of hb⟩,fun D hD=>?_⟩;have blen:=btl.len;have hn:=rg.n;refine Jrx (p:=p) (fun i y=>∃ n : Int,y = .int n ∧ ∃ B,R.Bs[i]? = some B ∧ B.lo ≤ n ∧ n ≤ B.hi) st hD (by omega) hb nb ?_ ?_
  ·intro i x H' Q' hx b k';obtain ⟨B,eB,tb,g,rfl,htb,gt⟩:=btl.get hx;have bg:=(rg.Bs B (List.mem_of_getElem? eB)).1;have htb':=b.1 _ _ (Jmk st htb (fun _ _ _ z=>by cases z)) htb;have q1:=bg.lo;have q2:=bg.hi;refine ⟨_,rfl,tb,_,1,_,rfl,rfl,SqT.of htb', rfl,_,rfl,_,rfl,tb,_,2,_,rfl,rfl,SqT.of htb', rfl,_,rfl,tb,_,1,_,rfl,rfl,SqT.of htb', rfl,_,_,rfl,rfl,_,_,rfl,rfl,p,_,rfl,b.2,by omega,Jod (by omega),fun r H5 r0 r1 b5=>⟨_,_,rfl,rfl,k' _ _ b5 ⟨_,rfl,B,eB,by omega,by omega⟩⟩⟩
  ·intro ys H1 b1 hD1 hl1 hy;obtain ⟨ns,rfl,hns⟩:=Jws hy;rw [List.length_map] at hl1;have nD : D ≠ p:=st.ne hD;refine ⟨D,_,rfl,.inl ⟨SqL.of hD1,fun u hu=>?_⟩⟩;have su:=Same.upd (o:=.tup (ns.map V.int)) hu;have b2:=b1.same su;have ht2:=b2.1 _ _ (Jmk st ht (fun _ _ _ z=>by cases z)) ht;have hc:=rg.c;refine ⟨_,rfl,_,rfl,_,rfl,t,_,0,_,rfl,rfl,SqT.of ht2,rfl,_,_,rfl,rfl,p,_,rfl,b2.2,by omega,Jod (by omega),fun r H5 r0 r1 b5=>⟨(show 2 ≤ sizeLine by decide),fun y hy=>?_⟩⟩;have sy:=Same.upd (o:=.tup [.ref u,.int r]) hy;have hu5 : H5 u = some (.tup (ns.map V.int)):=b5.1 _ _ (Jmk b2.2 Jk0 (fun _ _ _ z=>by cases z)) Jk0;exact k (.ref y) ns r _ ((b2.trans b5).same sy) ⟨⟨y,u,rfl,Jk0,sy _ _ hu5⟩,by omega,hns,r0,by omega⟩
end
noncomputable def TwnV (R : Jl2) (v : V) : Prop:=v = .non ∨ ∃ j : Int,v = .int j ∧ 0 ≤ j ∧ j < R.Ts.length
noncomputable def ChcAt (H : Hp) (x : V) (R : Jl2) (ns : List Int) (tv : V) : Prop:=(∃ y u : Addr,x = .ref y ∧ H y = some (.tup [.ref u,tv]) ∧ H u = some (.tup (ns.map V.int))) ∧ ns.length = R.Bs.length ∧ (∀ (i : Nat) (n : Int),ns[i]? = some n → 0 ≤ n ∧ n ≤ 4 ∧ ∃ B,R.Bs[i]? = some B ∧ n < (nOf B.G : Int)) ∧ TwnV R tv
noncomputable def Jy1 : Sp:=fun vs H Q _=>∃ (p : Addr) (x : V) (R : Jl2),vs = [.ref p,x] ∧ Strm H p ∧ RTAt p H x R ∧ Jmd R ∧ ∀ (y : V) (ns : List Int) (tv : V) (H' : Hp),But p H H' → ChcAt H' y R ns tv → Q y H'
theorem nOf_in {G : Jko} (h : GGood G) : 1 ≤ nOf G ∧ nOf G ≤ 4:=by
 have:=h.len;unfold nOf;split <;> omega
noncomputable def Jlu (R : Jl2) (wet : Int) : Int :=
 if (if wet + R.g - R.c > 0 then wet + R.g - R.c else 0) < (R.Bs.map (·.rn)).sum then (if wet + R.g - R.c > 0 then wet + R.g - R.c else 0) else (R.Bs.map (·.rn)).sum
noncomputable def Jy2 : Sp:=fun vs H Q _=>∃ (p : Addr) (x : V) (R : Jl2) (wet : Int),vs = [x,.int wet] ∧ RTAt p H x R ∧ Jmd R ∧ ∀ H', Same H H' → Q (.int (Jlu R wet)) H'
section
variable {P : Program} {w : World} {K : W.Frag} {mg : Str → Option Value} {base : Heap} {a : Ad}
theorem sc_law_choice : Jkb ["_law_stream_here","_law_told","_law_settings_here","_law_town"] ["_law_stream_here","_law_told"] (Jk6 (top 75)):=%[|0]
theorem Jsy (T : Tx K mg a) : FnOk P w K mg base CX0 2 a.Jim a.Jin ["_law_stream_here","_law_told"] Jy1:=by
 have G__law_take:=%[Jlw|1];have G__law_settings:=%[Jrk|1];refine T.Ja0.fn.ok sc_law_choice (fun vs H Q E h=>?_) (fun cdv A outer s H vs Q E hr h=>?_)
 ·obtain ⟨p,x,R,rfl,_⟩:=h;rfl
 ·obtain ⟨p,x,R,rfl,st,rt,rg,k⟩:=h;refine ⟨?t,?B,?C⟩
  case B =>
   refine' Jk2 ?s1 ?r1
   case s1 =>
    exact (Jki (i:=2) sc_law_choice.nd rfl (Or.inl rfl) (Jkr Jkw (by rfl) T.Jax Jl3 (Jjz (Jkz (N:=(["_law_one","_law_stream_here"] : List Str)) (ini:=[none,some 0]) rfl (Jlg (Jke Jkj (pv 1) Jk4 (fun _ _=>rfl))) (fun _ _ _ _ _=>(Jkc (i:=0) (by decide +kernel : (["_law_one","_law_stream_here"] : List Str).Nodup) rfl (Or.inl rfl))) (fun _ _ _ _ _=>Jkx) (fun _ _ _ _ _=>(Jk5 T.Jr G__law_take hr (by decide) (Jjz (pv 1) (Jjz (Jk5 T.Jy G__law_settings hr (by decide) (Jjz (Jke (Jmb (K:=K) rfl) (pv 0) Jk4 (fun _ _=>rfl)) Jk1)) Jk1))))) Jk1)))
   case r1 =>
    refine' Jk2 ?s3 ?r3
    case s3 =>
     exact (Jki (i:=3) sc_law_choice.nd rfl (Or.inl rfl) (Jkh Jla (Jk5 T.Jr G__law_take hr (by decide) (Jjz (pv 0) (Jjz (Jkh Jkv (Jka Jkm (by rfl) T.Jap Jlh (Jjz (Jke Jkj (pv 1) Jk4 (fun _ _=>rfl)) Jk1)) Jk4) Jk1))) Jk4))
    case r3 =>
     refine' Jk3 ?s5
     case s5 =>
      exact (Jkd (Jly (Jjz (pv 2) (Jjz (Jke Jky (Jnf (Jjz (pv 3) (Jjz Jnz Jk1))) (Jkr Jnl (by rfl) T.Jan Jqj (Jjz (Jlk Jz0 (pv 3) Jk4 (Jkt _)) Jk1)) (fun _ _=>rfl)) Jk1))))
  obtain ⟨t,lb,lt,bs,ts,rfl,ht,hb,btl,htt,ttl,nb,nt⟩:=rt;refine ⟨_,rfl,t,_,2,_,rfl,rfl,SqT.of ht,rfl,lb,rfl,⟨_,SqL.of hb⟩,fun D hD=>?_⟩;have blen:=btl.len;have hn:=rg.n;refine Jrx (p:=p) (fun i y=>∃ n : Int,y = .int n ∧ (0 ≤ n ∧ n ≤ 4 ∧ ∃ B,R.Bs[i]? = some B ∧ n < (nOf B.G : Int))) st hD (by omega) hb nb ?_ ?_
  ·intro i x H' Q' hx b k';obtain ⟨B,eB,bt⟩:=btl.get hx;obtain ⟨tb,g,rfl,htb', gt⟩:=bt.but st b;have bg:=(rg.Bs B (List.mem_of_getElem? eB)).1;have q1:=nOf_in bg.G;refine ⟨_,rfl,_,rfl,tb,_,5,_,rfl,rfl,SqT.of htb', rfl,p,g,B.G,rfl,gt,fun H2 s2=>?_⟩;exact ⟨p,_,rfl,b.2.same s2,by omega,Jod (by omega),fun r H5 r0 r1 b5=>k' _ _ ((But.of b.2 s2).trans b5) ⟨_,rfl,r0,by omega,B,eB,by omega⟩⟩
  ·intro ys H1 b1 hD1 hl1 hy;obtain ⟨ns,rfl,hns⟩:=Jws hy;rw [List.length_map] at hl1;refine ⟨D,_,rfl,.inl ⟨SqL.of hD1,fun u hu=>?_⟩⟩;have su:=Same.upd (o:=.tup (ns.map V.int)) hu;have b2:=b1.same su;have ht2:=b2.1 _ _ (Jmk st ht (fun _ _ _ z=>by cases z)) ht;have htt2:=b2.1 _ _ nt htt;have tlen:=ttl.len;have tn:=rg.tn;refine ⟨_,rfl,_,rfl,t,_,3,_,rfl,rfl,SqT.of ht2,rfl,lt,_,rfl,.inl (SqL.of htt2),_,_,rfl,rfl,p,_,rfl,b2.2,by omega,Jod (by omega),fun r H5 r0 r1 b5=>⟨_,_,rfl,rfl,?_⟩⟩;have hu5 : H5 u = some (.tup (ns.map V.int)):=b5.1 _ _ (Jmk b2.2 Jk0 (fun _ _ _ z=>by cases z)) Jk0;refine ⟨_,rfl,_,rfl,(show 2 ≤ sizeLine by decide),fun D2 hD2=>⟨_,rfl,_,_,rfl,rfl,.inr ⟨_,rfl,?_⟩⟩⟩;have s2:=Same.upd (o:=.lst [.int (r - 1),.non]) hD2;obtain ⟨tv,hat,htv⟩ : ∃ tv,atI [V.int (r - 1),.non] (if decide (r - 1 < 0) = true then 1 else 0) = some tv ∧ TwnV R tv:=by
    by_cases h : r - 1 < 0
    ·rw [decide_eq_true h];exact ⟨.non,rfl,.inl rfl⟩
    ·rw [decide_eq_false h];exact ⟨.int (r - 1),rfl,.inr ⟨_,rfl,by omega,by omega⟩⟩
   refine ⟨D2,_,_,tv,rfl,rfl,SqL.of Jk0,hat,(show 2 ≤ sizeLine by decide),fun y hy=>?_⟩;have sy:=s2.trans (Same.upd (o:=.tup [.ref u,tv]) hy);exact k (.ref y) ns tv _ ((b2.trans b5).same sy) ⟨⟨y,u,rfl,Jk0,sy _ _ hu5⟩,by omega,hns,htv⟩
theorem Jt5 : Jkb ["_law_told","_law_wet"] ["_law_told","_law_wet"] (Jk6 (top 76)):=%[|0]
theorem Jsz (T : Tx K mg a) : FnOk P w K mg base CX0 1 a.Jio a.Jip ["_law_told","_law_wet"] Jy2:=by
 refine T.Ja1.fn.ok Jt5 (fun vs H Q E h=>?_) (fun cdv A outer s H vs Q E hr h=>?_)
 ·obtain ⟨p,x,R,wet,rfl,_⟩:=h;rfl
 ·obtain ⟨p,x,R,wet,rfl,rt,rg,k⟩:=h;refine ⟨?t,?B,?C⟩
  case B =>
   refine' Jk3 ?s1
   case s1 =>
    exact (Jkd (Jka (Jm0 rfl) (by rfl) T.Jas Jnt (Jjz (Jka (Jm4 rfl) (by rfl) T.Jaw Jnc (Jjz (Jkz (N:=(["_law_one"] : List Str)) (ini:=[none]) rfl (Jlg (Jke Jkj (pv 0) Jk4 (fun _ _=>rfl))) (fun _ _ _ _ _=>(Jkc (i:=0) (by decide +kernel : (["_law_one"] : List Str).Nodup) rfl (Or.inl rfl))) (fun _ _ _ _ _=>Jkx) (fun _ _ _ _ _=>(Jke (Jmb (K:=K) rfl) (pv 0) Jk4 (fun _ _=>rfl)))) Jk1)) (Jjz (Jka (Jmf rfl) (by rfl) T.Jar Jpb (Jjz Jk4 (Jjz (Jkh Jla (Jkh Jkv (pv 1) (Jke Jkj (pv 0) Jk4 (fun _ _=>rfl))) (Jke Jkj (pv 0) Jk4 (fun _ _=>rfl))) Jk1))) Jk1))))
  obtain ⟨t,lb,lt,bs,ts,rfl,ht,hb,btl,htt,ttl,nb,nt⟩:=rt;have blen:=btl.len;have hn:=rg.n;refine ⟨_,rfl,t,_,2,_,rfl,rfl,SqT.of ht,rfl,lb,rfl,⟨_,SqL.of hb⟩,fun D hD=>?_⟩;refine Jnv ((R.Bs.map (·.rn)).map V.int) hD (by simp [blen]) (by omega) hb ?_ ?_
  ·intro i x y H' Q' hx hy sm k';obtain ⟨B,eB,tb,g,rfl,htb,gt⟩:=btl.get hx;rw [List.getElem?_map,List.getElem?_map,eB] at hy;cases hy;exact ⟨_,rfl,tb,_,4,_,rfl,rfl,SqT.of (sm _ _ htb),rfl,k' _ fun _ _ h=>h⟩
  intro H1 s1 hD1;refine ⟨D,_,rfl,.inl (SqL.of hD1),⟨by rw [List.length_map]; omega,fun n hn=>?_⟩,?_⟩
  ·obtain ⟨B,hB,rfl⟩:=List.mem_map.mp hn;have:=(rg.Bs B hB).1.rn;omega
  refine ⟨_,rfl,_,rfl,t,_,1,_,rfl,rfl,SqT.of (s1 _ _ ht),rfl,_,_,rfl,rfl,_,rfl,t,_,0,_,rfl,rfl,SqT.of (s1 _ _ ht),rfl,_,_,rfl,rfl,_,_,rfl,_,_,rfl,k _ s1⟩
end
noncomputable def Row6 (n : Nat) (ms : List Int) : Prop:=ms.length = n ∧ ∀ m ∈ ms,0 ≤ m ∧ m ≤ 6
theorem Row6.sml {n : Nat} {ms : List Int} (h : Row6 n ms) (hn : n ≤ 16) : Sml ms:=⟨by have:=h.1; omega,fun m hm=>by have:=h.2 m hm; omega⟩
theorem Jzs : ∀ {ms : List Int},(∀ m ∈ ms,0 ≤ m) → 0 ≤ ms.sum
 | [],_=>by simp
 | x :: r,h=>by
  have h1:=h x List.mem_cons_self;have h2:=Jzs (ms:=r) fun m hm=>h m (List.mem_cons_of_mem _ hm);rw [List.sum_cons];omega
noncomputable def RnB (R : Jl2) (ms : List Int) : Prop:=∀ (i : Nat) (m : Int) (B : Jm9),ms[i]? = some m → R.Bs[i]? = some B → 0 ≤ m ∧ m ≤ B.rn
noncomputable def RnIn (R : Jl2) (wet : Int) (ms : List Int) : Prop:=ms.length = R.Bs.length ∧ RnB R ms ∧ ms.sum ≤ wet ∧ Jlu R wet ≤ ms.sum
theorem RnB.row6 {R : Jl2} {ms : List Int} (rg : Jmd R) (ln : ms.length = R.Bs.length) (h : RnB R ms) : Row6 R.Bs.length ms:=⟨ln,fun m hm=>by
 obtain ⟨i,hi⟩:=List.getElem?_of_mem hm;have hi' : i < R.Bs.length:=by have:=(List.getElem?_eq_some_iff.mp hi).1; omega
 have q:=h i m R.Bs[i] hi (List.getElem?_eq_getElem hi');have:=(rg.Bs R.Bs[i] (List.getElem_mem hi')).1.rn;omega⟩
theorem Jx1 : ∀ {ms : List Int} {i : Nat} {v : Int} (h : i < ms.length),(ms.set i v).sum = ms.sum - ms[i] + v
 | m :: ms,0,v,_=>by
  show (v :: ms).sum = (m :: ms).sum - m + v;rw [List.sum_cons,List.sum_cons];omega
 | m :: ms,i + 1,v,h=>by
  have ih:=Jx1 (ms:=ms) (i:=i) (v:=v) (by simpa using h);show (m :: ms.set i v).sum = (m :: ms).sum - ms[i]'(by simpa using h) + v;rw [List.sum_cons,List.sum_cons,ih];omega
theorem Jxi {R : Jl2} {wet : Int} (rg : Jmd R) (hw : 0 ≤ wet) : Jlu R wet ≤ wet ∧ Jlu R wet ≤ (R.Bs.map (·.rn)).sum:=by
 have:=rg.g;unfold Jlu;split <;> split <;> omega
noncomputable def Jy3 : Sp:=fun vs H Q _=>∃ (p : Addr) (x : V) (R : Jl2) (wet : Int) (r : Addr) (ns : List Int),vs = [x,.int wet,.ref r] ∧ RTAt p H x R ∧ Jmd R ∧ 0 ≤ wet ∧ H r = some (.lst (ns.map V.int)) ∧ ns.length = R.Bs.length ∧ RnB R ns ∧ ns.sum ≤ wet ∧ ∀ (u : Addr) (ms : List Int) (H' : Hp),Same H H' → H' u = some (.tup (ms.map V.int)) → RnIn R wet ms → Q (.ref u) H'
noncomputable def Yaf : Sp:=fun vs H Q _=>∃ (p : Addr) (x : V) (R : Jl2) (wet : Int),vs = [.ref p,x,.int wet] ∧ Strm H p ∧ RTAt p H x R ∧ Jmd R ∧ (0 ≤ wet ∧ wet ≤ 12) ∧ ∀ (u : Addr) (ms : List Int) (H' : Hp),But p H H' → H' u = some (.tup (ms.map V.int)) → RnIn R wet ms → Q (.ref u) H'
section
variable {P : Program} {w : World} {K : W.Frag} {mg : Str → Option Value} {base : Heap} {a : Ad}
theorem sc_law_raised : Jkb ["_law_told","_law_wet","_law_row","_law_found","_law_k","_law_one"] ["_law_told","_law_wet","_law_row"] (Jk6 (top 77)):=%[|0]
theorem Jt0 (T : Tx K mg a) : FnOk P w K mg base CX0 2 a.Jiq a.Jir ["_law_told","_law_wet","_law_row"] Jy3:=by
 have G__law_forced:=%[Jsz|1];refine T.Ja2.fn.ok sc_law_raised (fun vs H Q E h=>?_) (fun cdv A outer s H vs Q E hr h=>?_)
 ·obtain ⟨p,x,R,wet,r,ns,rfl,_⟩:=h;rfl
 ·obtain ⟨p,x,R,wet,r,ns,rfl,rt,rg,hw,hr0,ln0,rb0,sw0,k⟩:=h;refine ⟨?t,?B,?C⟩
  case B =>
   refine' Jk2 ?s1 ?r1
   case s1 =>
    exact (Jki (i:=3) sc_law_raised.nd rfl (Or.inl rfl) (Jkr Jlz (by rfl) T.Jaq Jmv (Jjz (pv 2) Jk1)))
   case r1 =>
    refine' Jk2 ?s3 ?r3
    case s3 =>
     refine' Jnh ?f4_0 ?f4_1 ?f4_2 ?f4_3 ?f4_4
     case f4_0 =>
      exact PassesOwn.never
     case f4_1 =>
      exact rfl
     case f4_2 =>
      exact (Jwz (by rfl) T.Jam (Jjz (Jke Jkj (pv 0) Jk4 (fun _ _=>rfl)) Jk1))
     case f4_3 =>
      exact (Jom rfl (Jkf (Jkc (i:=4) sc_law_raised.nd rfl (Or.inl rfl)) (Jkf (Jkc (i:=5) sc_law_raised.nd rfl (Or.inl rfl)) Jls)))
     case f4_4 =>
      refine' Jk3 ?s5
      case s5 =>
       exact (Jng (Jkh Jkv (Jke Jky (pv 3) (pv 4) (fun _ _=>rfl)) (Jka (Jm0 rfl) (by rfl) T.Jas Jnt (Jjz (Jkh Jla (Jke Jkj (pv 5) Jk4 (fun _ _=>rfl)) (Jke Jky (pv 3) (pv 4) (fun _ _=>rfl))) (Jjz (Jka (Jmf rfl) (by rfl) T.Jar Jpb (Jjz Jk4 (Jjz (Jkh Jla (Jk5 T.Ja1 G__law_forced hr (by decide) (Jjz (pv 0) (Jjz (pv 1) Jk1))) (Jka (Jm4 rfl) (by rfl) T.Jaw Jnc (Jjz (pv 3) Jk1))) Jk1))) Jk1)))) (Jqy (pv 3) (pv 4) Jn6))
    case r3 =>
     refine' Jk3 ?s8
     case s8 =>
      exact (Jkd (Jkr Jkw (by rfl) T.Jax Jl3 (Jjz (pv 3) Jk1)))
  obtain ⟨t,lb,lt,bs,ts,rfl,ht,hb,btl,htt,ttl,nb,nt⟩:=id rt;have blen:=btl.len;have hn:=rg.n;have fl:=Jxi rg hw;refine ⟨_,rfl,r,_,rfl,.inl (SqL.of hr0),fun F hF=>?_⟩;have s1:=Same.upd (o:=.lst (ns.map V.int)) hF;refine ⟨_,rfl,t,_,2,_,rfl,rfl,SqT.of (s1 _ _ ht),rfl,?_⟩;refine ⟨lb,rfl,⟨_,SqL.of (s1 _ _ hb)⟩,?_⟩;refine Yi (xs:=bs) (fun i σ H'=>∃ (o1 o2 : Option V) (ms : List Int),σ = [some (.ref t),some (.int wet),some (.ref r),some (.ref F),o1,o2] ∧ H' F = some (.lst (ms.map V.int)) ∧ ms.length = R.Bs.length ∧ RnB R ms ∧ ms.sum ≤ wet ∧ (Jlu R wet ≤ ms.sum ∨ ∀ j,j < i → ∀ B,R.Bs[j]? = some B → ms[j]? = some B.rn) ∧ Same H H') ?_ ?_ ?_ ?_
  ·exact ⟨_,_,ns,rfl,Jk0,ln0,rb0,sw0,.inr fun j hj=>absurd hj (Nat.not_lt_zero j),s1⟩
  ·rintro i σ H' _ ⟨_,_,_,_,_,_,_,_,_,sm⟩;exact SqL.of (sm _ _ hb)
  ·rintro i x σ H' Ta hx ⟨o1,o2,ms,rfl,hFs,ln,rb,sw,dj,sm⟩ hT;obtain ⟨B,eB,tb,g,rfl,htb,gt⟩:=btl.get hx;have bg:=(rg.Bs B (List.mem_of_getElem? eB)).1;have sT:=Same.upd (o:=.tup [.int i,.ref tb]) hT;have hi : i < R.Bs.length:=(List.getElem?_eq_some_iff.mp eB).1;have hi' : i < ms.length:=by omega
   have htb':=sT _ _ (sm _ _ htb);have hFT:=sT _ _ hFs;have hat : atI (ms.map V.int) (i : Int) = some (.int ms[i]):=Jmj hi';have b6:=rb i ms[i] B (List.getElem?_eq_getElem hi') eB;have q6:=rb.row6 rg ln;refine ⟨Ta,_,rfl,SqT.of Jk0,rfl,_,_,rfl,_,_,rfl,rfl,?_⟩;refine ⟨_,rfl,_,rfl,F,_,_,_,rfl,rfl,SqL.of hFT,hat,?_⟩;refine ⟨_,rfl,tb,_,4,_,rfl,rfl,SqT.of htb', rfl,_,rfl,_,rfl,F,_,_,_,rfl,rfl,SqL.of hFT,hat,_,_,rfl,rfl,?_⟩;refine ⟨_,rfl,_,rfl,p,_,R,wet,rfl,rt.same rg (sm.trans sT),rg,fun H2 s2=>?_⟩;refine ⟨_,rfl,F,ms,rfl,.inl (SqL.of (s2 _ _ hFT)),q6.sml hn.2,_,_,rfl,rfl,_,_,rfl,_,_,rfl,_,_,rfl,rfl,?_⟩;have s3:=sm.trans (sT.trans s2);have hF2:=s2 _ _ hFT;have hix : ixN (ms.map V.int).length (i : Int) = some i:=by
    unfold ixN;rw [if_pos (by omega),if_pos (by rw [List.length_map]; omega)];rfl
   refine ⟨_,rfl,_,rfl,F,_,_,i,rfl,rfl,hF2,hix,?_⟩;generalize ev : ms[i] + (if (if Jlu R wet - ms.sum > 0 then Jlu R wet - ms.sum else 0) < B.rn - ms[i] then if Jlu R wet - ms.sum > 0 then Jlu R wet - ms.sum else 0 else B.rn - ms[i]) = v;have ss:=Jx1 (ms:=ms) (i:=i) (v:=v) hi';have hv : 0 ≤ v ∧ v ≤ B.rn ∧ ms.sum - ms[i] + v ≤ wet ∧ (Jlu R wet ≤ ms.sum - ms[i] + v ∨ (v = B.rn ∧ ¬ Jlu R wet ≤ ms.sum)):=by
    rw [← ev];split <;> split <;> omega
   have get_set : ∀ (j : Nat),(ms.set i v)[j]? = if i = j then some v else ms[j]?:=fun j=>by
    rw [List.getElem?_set];by_cases e : i = j
    ·subst e;rw [if_pos rfl,if_pos rfl,if_pos hi']
    ·rw [if_neg e,if_neg e]
   refine ⟨_,_,ms.set i v,rfl,by rw [Jk0,List.map_set,← ev],by rw [List.length_set]; exact ln,fun j m B' hm hB'=>?_,by rw [ss]; exact hv.2.2.1,?_,fun b o e=>?_⟩
   ·rw [get_set] at hm;split at hm
    ·rename_i e
     subst e;rw [eB] at hB';cases hB';cases hm;exact ⟨hv.1,hv.2.1⟩
    ·exact rb j m B' hm hB'
   ·rw [ss];rcases hv.2.2.2 with h | ⟨h,nf⟩
    ·exact .inl h
    ·refine .inr fun j hj B' hB'=>?_;rw [get_set];split
     ·rename_i e
      subst e;rw [eB] at hB';cases hB';rw [h]
     ·rename_i e
      rcases dj with d | d
      ·exact absurd d nf
      ·exact d j (by omega) B' hB'
   ·rw [Jk7 (Jk8 e hF)];exact s3 _ _ e
  ·rintro σ H1 ⟨o1,o2,ms,rfl,hFs,ln,rb,sw,dj,sm⟩;refine ⟨_,rfl,F,_,rfl,.inl ⟨SqL.of hFs,fun u hu=>k u ms _ (sm.trans (Same.upd hu)) Jk0 ⟨ln,rb,sw,?_⟩⟩⟩;rcases dj with d | d
   ·exact d
   ·have e : ms = R.Bs.map (·.rn):=by
     refine List.ext_getElem? fun j=>?_;by_cases hj : j < R.Bs.length
     ·rw [d j (by omega) R.Bs[j] (List.getElem?_eq_getElem hj),List.getElem?_map,List.getElem?_eq_getElem hj];rfl
     ·rw [List.getElem?_eq_none (by omega),List.getElem?_eq_none (by rw [List.length_map]; omega)]
    rw [e];exact fl.2
theorem sc_law_rain : Jkb ["_law_stream_here","_law_told","_law_wet","_law_found","_law_one"] ["_law_stream_here","_law_told","_law_wet"] (Jk6 (top 78)):=%[|0]
theorem Jv8 (T : Tx K mg a) : FnOk P w K mg base CX0 3 a.Jis a.Jit ["_law_stream_here","_law_told","_law_wet"] Yaf:=by
 have G__law_take:=%[Jlw|1];have G__law_raised:=%[Jt0|1];refine T.Ja3.fn.ok sc_law_rain (fun vs H Q E h=>?_) (fun cdv A outer s H vs Q E hr h=>?_)
 ·obtain ⟨p,x,R,wet,rfl,_⟩:=h;rfl
 ·obtain ⟨p,x,R,wet,rfl,st,rt,rg,hw,k⟩:=h;refine ⟨?t,?B,?C⟩
  case B =>
   refine' Jk2 ?s1 ?r1
   case s1 =>
    exact (Jki (i:=3) sc_law_rain.nd rfl (Or.inl rfl) (Jnf Jk1))
   case r1 =>
    refine' Jk2 ?s3 ?r3
    case s3 =>
     refine' Jnh ?f4_0 ?f4_1 ?f4_2 ?f4_3 ?f4_4
     case f4_0 =>
      exact PassesOwn.never
     case f4_1 =>
      exact rfl
     case f4_2 =>
      exact (Jlg (Jke Jkj (pv 1) Jk4 (fun _ _=>rfl)))
     case f4_3 =>
      exact (Jkc (i:=4) sc_law_rain.nd rfl (Or.inl rfl))
     case f4_4 =>
      refine' Jk3 ?s5
      case s5 =>
       exact (Jml (Jse F.plainAttrs_list F.slot_list_append F.type_list_append Jno (pv 3) (Jjz (Jk5 T.Jr G__law_take hr (by decide) (Jjz (pv 0) (Jjz (Jkh Jkv (Jka (Jm0 rfl) (by rfl) T.Jas Jnt (Jjz (Jke Jkj (pv 4) Jk4 (fun _ _=>rfl)) (Jjz (Jkh Jla (pv 2) (Jka (Jm4 rfl) (by rfl) T.Jaw Jnc (Jjz (pv 3) Jk1))) Jk1))) Jk4) Jk1))) Jk1)))
    case r3 =>
     refine' Jk3 ?s7
     case s7 =>
      exact (Jkd (Jk5 T.Ja2 G__law_raised hr (by decide) (Jjz (pv 1) (Jjz (pv 2) (Jjz (pv 3) Jk1)))))
  obtain ⟨t,lb,lt,bs,ts,rfl,ht,hb,btl,htt,ttl,nb,nt⟩:=id rt;have blen:=btl.len;have hn:=rg.n;refine ⟨(show 0 ≤ sizeLine by decide),fun F hF=>?_⟩;have s1:=Same.upd (o:=.lst []) hF;have nF : F ≠ p:=st.ne hF;refine ⟨_,rfl,t,_,2,_,rfl,rfl,SqT.of (s1 _ _ ht),rfl,lb,rfl,⟨_,SqL.of (s1 _ _ hb)⟩,?_⟩;refine Jps (xs:=bs) (fun i σ H'=>∃ (o1 : Option V) (ms : List Int),σ = [some (.ref p),some (.ref t),some (.int wet),some (.ref F),o1] ∧ H' F = some (.lst (ms.map V.int)) ∧ Row6 i ms ∧ RnB R ms ∧ ms.sum ≤ wet ∧ But p H H') ?_ ?_ ?_ ?_
  ·exact ⟨_,[],rfl,Jk0,⟨rfl,fun m hm=>absurd hm (by simp)⟩,(fun i m B h=>by simp at h),hw.1,But.of st s1⟩
  ·rintro i σ H' _ ⟨_,_,_,_,_,_,_,b⟩;exact SqL.of (b.1 _ _ nb hb)
  ·rintro i x σ H' hx ⟨o1,ms,rfl,hFs,q6,rb,hsum,b⟩;obtain ⟨B,eB,bt⟩:=btl.get hx;obtain ⟨tb,g,rfl,htb,gt⟩:=bt.but st b;have bg:=(rg.Bs B (List.mem_of_getElem? eB)).1;have hi : i < R.Bs.length:=(List.getElem?_eq_some_iff.mp eB).1;have rn:=bg.rn;have hl:=q6.1;have s0 : 0 ≤ ms.sum:=Jzs fun m hm=>(q6.2 m hm).1;refine ⟨_,rfl,.inl ⟨rfl,_,SqL.of hFs⟩,_,rfl,_,rfl,tb,_,4,_,rfl,rfl,SqT.of htb,rfl,_,rfl,_,rfl,F,ms,rfl,.inl (SqL.of hFs),q6.sml (by omega),_,_,rfl,rfl,_,_,rfl,_,_,rfl,rfl,?_⟩;have hm : 0 ≤ (if wet - ms.sum < B.rn then wet - ms.sum else B.rn) ∧ (if wet - ms.sum < B.rn then wet - ms.sum else B.rn) ≤ 6 ∧ (if wet - ms.sum < B.rn then wet - ms.sum else B.rn) ≤ wet - ms.sum ∧ (if wet - ms.sum < B.rn then wet - ms.sum else B.rn) ≤ B.rn:=by
    split <;> omega
   refine ⟨p,_,rfl,b.2,by omega,Jod (by omega),fun v H5 v0 v1 b5=>?_⟩;have hF5:=b5.1 _ _ nF hFs;refine ⟨F,_,_,rfl,rfl,hF5,by rw [List.length_map]; exact Jl0 (by omega),?_⟩;refine ⟨_,ms ++ [v],rfl,by rw [Jk0,List.map_append]; rfl,⟨by rw [List.length_append]; show ms.length + 1 = i + 1; omega,fun m hm'=>?_⟩,fun j m B' hj hB'=>?_,by rw [List.sum_append,List.sum_singleton]; omega,(b.trans b5).updD hF nF⟩
   ·rcases List.mem_append.mp hm' with h | h
    ·exact q6.2 m h
    ·rw [List.mem_singleton.mp h];exact ⟨v0,by omega⟩
   ·rw [List.getElem?_append] at hj;split at hj
    ·exact rb j m B' hj hB'
    ·rename_i nj
     have ej : j = i:=by
      have:=(List.getElem?_eq_some_iff.mp hj).1;simp at this;omega
     subst ej;rw [eB] at hB';cases hB';have em : v = m:=by simpa [hl] using hj
     omega
  ·rintro σ H1 ⟨o1,ms,rfl,hFs,q6,rb,hsum,b⟩;exact ⟨_,rfl,_,rfl,_,rfl,p,_,R,wet,F,ms,rfl,rt.but rg st b,rg,hw.1,hFs,by have:=q6.1; omega,rb,hsum,fun u ns H2 s2 hu r6=>k u ns H2 (b.same s2) hu r6⟩
end
noncomputable def Jn3 (kd : Str) (m lv : Int) : Int:=if kd = ("step" : Str) then (if lv < m then lv else m) else if kd = ("flap" : Str) then (if 0 > lv - m then 0 else lv - m) else lv / m
noncomputable def lvG (G : Jko) (s lv : Int) : Int:=Jn3 G.kd (G.ns.getD (match G.sv with | some j=>j | none=>s).toNat 0) lv
noncomputable def Jwf (C : Addr) (lo : Int) (f : Int → Int → Int) : Sp:=fun vs H Q _=>∃ (g : Addr) (ns : List Int) (s lv : Int),vs = [.ref g,.int s,.int lv] ∧ GateAt C H g (ns.map V.int) ∧ (0 ≤ s ∧ s < ns.length) ∧ (∀ n ∈ ns,lo ≤ n ∧ n ≤ 12) ∧ (0 ≤ lv ∧ lv ≤ 1000) ∧ Q (.int (f (ns.getD s.toNat 0) lv)) H
theorem Jpw {ns : List Int} {s : Int} (h : 0 ≤ s ∧ s < ns.length) : atI (ns.map V.int) s = some (.int (ns.getD s.toNat 0)) ∧ ns.getD s.toNat 0 ∈ ns:=by
 obtain ⟨i,rfl⟩:=Int.eq_ofNat_of_zero_le h.1;have hi : i < ns.length:=by omega
 have e : ns.getD (i : Int).toNat 0 = ns[i]:=by simp [List.getD_eq_getElem?_getD,hi]
 rw [e];exact ⟨Jmj hi,List.getElem_mem hi⟩
section
variable {P : Program} {w : World} {K : W.Frag} {mg : Str → Option Value} {base : Heap} {a : Ad}
theorem Jpn : Jkb ["self","setting","level"] ["self","setting","level"] (Jk6 (Jk9 (top 45) 2)):=%[|0]
theorem Jpf (T : Tx K mg a) : FnOk P w K mg base CX0 1 a.Jh0 a.Jh1 ["self","setting","level"] (Jwf a.Jjs 0 fun m lv=>if lv < m then lv else m):=by
 refine T.Jbx.fn.ok Jpn (fun vs H Q E h=>?_) (fun cdv A outer s H vs Q E hr h=>?_)
 ·obtain ⟨g,ns,s,lv,rfl,_⟩:=h;rfl
 ·obtain ⟨g,ns,s,lv,rfl,⟨dx,t,hg,ht⟩,hs,hn,hl,k⟩:=h;obtain ⟨hat,hin⟩:=Jpw hs;refine ⟨?t,?B,?C⟩
  case B =>
   refine' Jk3 ?s1
   case s1 =>
    exact (Jkd (Jka (Jm0 rfl) (by rfl) T.Jas Jnt (Jjz (Jke Jkj (Jkn (pv 0) (by rfl)) (pv 1) (fun _ _=>rfl)) (Jjz (pv 2) Jk1))))
  exact ⟨_,rfl,g,_,dx,_,_,rfl,hg,T.Jd4,T.Jda,rfl,_,rfl,t,_,_,_,rfl,rfl,SqT.of ht,hat,_,rfl,_,_,rfl,k⟩
theorem Jph : Jkb ["self","setting","level"] ["self","setting","level"] (Jk6 (Jk9 (top 46) 2)):=%[|0]
theorem Jpd (T : Tx K mg a) : FnOk P w K mg base CX0 1 a.Jh6 a.Jh7 ["self","setting","level"] (Jwf a.Jjt 0 fun m lv=>if 0 > lv - m then 0 else lv - m):=by
 refine T.Jc0.fn.ok Jph (fun vs H Q E h=>?_) (fun cdv A outer s H vs Q E hr h=>?_)
 ·obtain ⟨g,ns,s,lv,rfl,_⟩:=h;rfl
 ·obtain ⟨g,ns,s,lv,rfl,⟨dx,t,hg,ht⟩,hs,hn,hl,k⟩:=h;obtain ⟨hat,hin⟩:=Jpw hs;refine ⟨?t,?B,?C⟩
  case B =>
   refine' Jk3 ?s1
   case s1 =>
    exact (Jkd (Jka (Jmf rfl) (by rfl) T.Jar Jpb (Jjz (Jkh Jla (pv 2) (Jke Jkj (Jkn (pv 0) (by rfl)) (pv 1) (fun _ _=>rfl))) (Jjz Jk4 Jk1))))
  exact ⟨_,rfl,_,rfl,g,_,dx,_,_,rfl,hg,T.Jdb,T.Jdh,rfl,_,rfl,t,_,_,_,rfl,rfl,SqT.of ht,hat,_,_,rfl,rfl,_,_,rfl,k⟩
theorem Jpm : Jkb ["self","setting","level"] ["self","setting","level"] (Jk6 (Jk9 (top 47) 2)):=%[|0]
theorem Jpe (T : Tx K mg a) : FnOk P w K mg base CX0 1 a.Jhc a.Jhd ["self","setting","level"] (Jwf a.Jju 1 fun m lv=>lv / m):=by
 refine T.Jc3.fn.ok Jpm (fun vs H Q E h=>?_) (fun cdv A outer s H vs Q E hr h=>?_)
 ·obtain ⟨g,ns,s,lv,rfl,_⟩:=h;rfl
 ·obtain ⟨g,ns,s,lv,rfl,⟨dx,t,hg,ht⟩,hs,hn,hl,k⟩:=h;obtain ⟨hat,hin⟩:=Jpw hs;refine ⟨?t,?B,?C⟩
  case B =>
   refine' Jk3 ?s1
   case s1 =>
    exact (Jkd (Jkh Jq0 (pv 2) (Jke Jkj (Jkn (pv 0) (by rfl)) (pv 1) (fun _ _=>rfl))))
  have hm:=hn _ hin;refine ⟨_,rfl,_,rfl,g,_,dx,_,_,rfl,hg,T.Jdi,T.Jdo,rfl,_,rfl,t,_,_,_,rfl,rfl,SqT.of ht,hat,?_⟩;exact ⟨_,_,rfl,rfl,⟨by omega,Jod (by omega)⟩,k⟩
theorem Jtj : ∀ {ns : List Int} {lo : Int},Jli lo (ns.map V.int) = true → ∀ n ∈ ns,lo ≤ n ∧ n ≤ 12
 | [],_,_=>fun _ h=>nomatch h
 | x :: r,lo,h=>by
  have h' : ((decide (lo ≤ x) && decide (x ≤ 12)) && Jli (x + 1) (r.map V.int)) = true:=h;rw [Bool.and_eq_true,Bool.and_eq_true,decide_eq_true_eq,decide_eq_true_eq] at h';intro n hn;rcases List.mem_cons.mp hn with rfl | hn
  ·exact h'.1
  ·have:=Jtj h'.2 n hn;omega
theorem GGood.marks {G : Jko} (h : GGood G) : ∀ n ∈ G.ns,Jmg G.kd ≤ n ∧ n ≤ 12:=by
 have q : (decide (1 ≤ (G.ns.map V.int).length ∧ (G.ns.map V.int).length ≤ 4) && Jli (Jmg G.kd) (G.ns.map V.int)) = true:=h.ns;rw [Bool.and_eq_true] at q;exact Jtj q.2
theorem Jrf {H : Hp} {g : Addr} {kd : Str} {ns : List Int} {s lv : Int} {Q : VK} (T : Tx K mg a) (hk : Knd kd) (ga : GateAt (cOf a kd) H g (ns.map V.int)) (hs : 0 ≤ s ∧ s < ns.length) (hn : ∀ n ∈ ns,Jmg kd ≤ n ∧ n ≤ 12) (hl : 0 ≤ lv ∧ lv ≤ 1000) (k : Q (.int (Jn3 kd (ns.getD s.toNat 0) lv)) H) :
  ∃ C dx fs f fd ps sp,H g = some (.ins C dx fs) ∧ fs.lookup ("passes" : Str) = none ∧ Cls K C ∧ Jlv K C "passes" f ∧ FnOk P w K mg base CX0 1 f fd ps sp ∧ Binds K fd ps [] ∧ sp [.ref g,.int s,.int lv] H Q E0:=by
 obtain ⟨dx,t,h1,h2⟩:=id ga;rcases hk with rfl | rfl | rfl
 ·have e2 : cOf a "step" = a.Jjs:=if_pos rfl;rw [e2] at h1 ga;exact ⟨_,dx,_,_,_,_,_,h1,rfl,T.Jd4,T.Jd9,Jpf T,T.Jbx.bd,g,ns,s,lv,rfl,ga,hs,hn,hl,k⟩
 ·have e2 : cOf a "flap" = a.Jjt:=by unfold cOf; rw [if_neg Jrb,if_pos rfl]
  rw [e2] at h1 ga;have ek : Jn3 "flap" (ns.getD s.toNat 0) lv = (if 0 > lv - ns.getD s.toNat 0 then 0 else lv - ns.getD s.toNat 0):=by unfold Jn3; rw [if_neg Jrb,if_pos rfl]
  rw [ek] at k;exact ⟨_,dx,_,_,_,_,_,h1,rfl,T.Jdb,T.Jdg,Jpd T,T.Jc0.bd,g,ns,s,lv,rfl,ga,hs,hn,hl,k⟩
 ·have e2 : cOf a "part" = a.Jju:=by unfold cOf; rw [if_neg Jrd,if_neg Jrc]
  rw [e2] at h1 ga;have ek : Jn3 "part" (ns.getD s.toNat 0) lv = lv / ns.getD s.toNat 0:=by unfold Jn3; rw [if_neg Jrd,if_neg Jrc]
  rw [ek] at k;exact ⟨_,dx,_,_,_,_,_,h1,rfl,T.Jdi,T.Jdn,Jpe T,T.Jc3.bd,g,ns,s,lv,rfl,ga,hs,hn,hl,k⟩
theorem Jz4 {H : Hp} {g : Addr} {kd : Str} {xs : List V} (T : Tx K mg a) (hk : Knd kd) (ga : GateAt (cOf a kd) H g xs) : ∃ t,TyX K H (.ref g) t ∧ W.kitOne K t (.ref a.Jjv) = some false:=by
 obtain ⟨dx,t,h1,h2⟩:=ga;rcases hk with rfl | rfl | rfl
 ·rw [show cOf a "step" = a.Jjs from if_pos rfl] at h1;exact ⟨_,.of (T.Jd5.ty T.Jd4 h1),T.Jex⟩
 ·rw [show cOf a "flap" = a.Jjt by unfold cOf; rw [if_neg Jrb,if_pos rfl]] at h1;exact ⟨_,.of (T.Jdc.ty T.Jdb h1),T.Jey⟩
 ·rw [show cOf a "part" = a.Jju by unfold cOf; rw [if_neg Jrd,if_neg Jrc]] at h1;exact ⟨_,.of (T.Jdj.ty T.Jdi h1),T.Jez⟩
noncomputable def Yah (a : Ad) : Sp:=fun vs H Q _=>∃ (x g dx : Addr) (y : V) (kd : Str) (ns : List Int) (j lv : Int),vs = [.ref x,y,.int lv] ∧ H x = some (.ins a.Jjv dx [("gate",.ref g),("setting",.int j)]) ∧ Knd kd ∧ GateAt (cOf a kd) H g (ns.map V.int) ∧ (0 ≤ j ∧ j < ns.length) ∧ (∀ n ∈ ns,Jmg kd ≤ n ∧ n ≤ 12) ∧ (0 ≤ lv ∧ lv ≤ 1000) ∧ Q (.int (Jn3 kd (ns.getD j.toNat 0) lv)) H
theorem sc_StuckGate_passes : Jkb ["self","setting","level","inner"] ["self","setting","level"] (Jk6 (Jk9 (top 48) 2)):=%[|0]
theorem Joy (T : Tx K mg a) : FnOk P w K mg base CX0 2 a.Jhi a.Jhj ["self","setting","level"] (Yah a):=by
 refine T.Jc6.fn.ok sc_StuckGate_passes (fun vs H Q E h=>?_) (fun cdv A outer s H vs Q E hr h=>?_)
 ·obtain ⟨x,g,dx,y,kd,ns,j,lv,rfl,_⟩:=h;rfl
 ·obtain ⟨x,g,dx,y,kd,ns,j,lv,rfl,hx,hk,ga,hj,hn,hl,k⟩:=h;refine ⟨?t,?B,?C⟩
  case B =>
   refine' Jk2 ?s1 ?r1
   case s1 =>
    exact (Jki (i:=3) sc_StuckGate_passes.nd rfl (Or.inl rfl) (pv 0))
   case r1 =>
    refine' Jk2 ?s3 ?r3
    case s3 =>
     exact (Jz5 PassesOwn.never (Jkq (Jka Jld (by rfl) T.Jao Jkk (Jjz (Jkn (pv 3) (by rfl)) (Jjz (Jlb (by rfl) T.Jbe (v:=.ref _) rfl) Jk1)))) (Jk3 (Jki (i:=3) sc_StuckGate_passes.nd rfl (Or.inl rfl) (Jkn (pv 3) (by rfl)))))
    case r3 =>
     refine' Jk3 ?s5
     case s5 =>
      exact (Jkd (Jq1 (Jkn (pv 3) (by rfl)) hr (Jjz (Jkn (pv 3) (by rfl)) (Jjz (pv 2) Jk1))))
  obtain ⟨t,tg,et⟩:=Jz4 T hk ga;obtain ⟨C,dx', fs,f,fd,ps,sp,h1,h2,c,m,ok,bd,hsp⟩:=Jrf (P:=P) (w:=w) (base:=base) (Q:=Q) T hk ga hj hn hl k;refine ⟨_,rfl,fun _ σ' H'=>σ' = [some (.ref x),some y,some (.int lv),some (.ref x)] ∧ H' = H,⟨0,rfl,rfl⟩,?_⟩;rintro n σ' H' ⟨rfl,rfl⟩;refine ⟨_,rfl,x,_,dx,_,_,rfl,hx,T.Jdp,T.Jdv,rfl,_,_,_,t,false,rfl,rfl,tg,et,_,rfl,Jl1 ?_⟩;exact ⟨_,rfl,x,_,dx,_,_,rfl,hx,T.Jdp,T.Jdv,rfl,g,C,dx', fs,f,fd,ps,sp,1,rfl,h1,h2,c,m,ok,by decide,bd,_,rfl,x,_,dx,_,_,rfl,hx,T.Jdp,T.Jdw,rfl,_,rfl,hsp⟩
theorem GX.passes {H : Hp} {x : V} {G : Jko} {s lv : Int} {Q : VK} (T : Tx K mg a) (gg : GGood G) (gx : GX a H x G) (hs : 0 ≤ s ∧ s < (nOf G : Int)) (hl : 0 ≤ lv ∧ lv ≤ 1000) (k : Q (.int (lvG G s lv)) H) :
  ∃ o C dx fs f fd ps sp k', x = .ref o ∧ H o = some (.ins C dx fs) ∧ fs.lookup ("passes" : Str) = none ∧ Cls K C ∧ Jlv K C "passes" f ∧ FnOk P w K mg base CX0 k' f fd ps sp ∧ k' ≤ 2 ∧ Binds K fd ps [] ∧ sp [x,.int s,.int lv] H Q E0:=by
 obtain ⟨g,ga,r⟩:=gx;unfold lvG at k;unfold nOf at hs;cases e : G.sv with
 | none =>
  rw [e] at r k hs;subst r;obtain ⟨C,dx', fs,f,fd,ps,sp,h1,h2,c,m,ok,bd,hsp⟩:=Jrf (P:=P) (w:=w) (base:=base) (Q:=Q) T gg.kd ga hs gg.marks hl k;exact ⟨g,C,dx', fs,f,fd,ps,sp,1,rfl,h1,h2,c,m,ok,by decide,bd,hsp⟩
 | some j =>
  rw [e] at r k;obtain ⟨q,dx,rfl,r2⟩:=r;exact ⟨q,_,dx,_,_,_,_,_,2,rfl,r2,rfl,T.Jdp,T.Jdu,Joy T,by decide,T.Jc6.bd,q,g,dx,.int s,G.kd,G.ns,j,lv,rfl,r2,gg.kd,ga,gg.sv j e,gg.marks,hl,k⟩
noncomputable def Jzk (a : Ad) : Sp:=fun vs H Q _=>∃ (x : V) (G : Jko) (s lv : Int),vs = [x,.int s,.int lv] ∧ GX a H x G ∧ GGood G ∧ (0 ≤ s ∧ s < (nOf G : Int)) ∧ (0 ≤ lv ∧ lv ≤ 1000) ∧ Q (.int (lvG G s lv)) H
theorem Joq : Jkb ["self","thing"] ["self","thing"] (Jk6 (Jk9 (top 12) 0)):=%[|0]
theorem Jqq (T : Tx K mg a) : FnOk P w K mg base CX0 1 a.Jfi a.Jfj ["self","thing"] (Jmn K "thing"):=by
 refine T.Jbr.fn.ok Joq (fun vs H Q E h=>?_) (fun cdv A outer s H vs Q E hr h=>?_)
 ·obtain ⟨e,C,W,fI,y,rfl,_⟩:=h;rfl
 ·obtain ⟨e,C,W,fI,y,rfl,q,c,n,k⟩:=h;refine ⟨_,(Jk3 (Jmm (pv 0) (pv 1) rfl)),?_⟩;exact ⟨_,rfl,_,rfl,e,C,W,fI,true,rfl,q,c,n,k⟩
theorem Jug : Jkb ["self","setting","level"] ["self","setting","level"] (Jk6 (Jk9 (top 44) 0)):=%[|0]
theorem Jmw (T : Tx K mg a) : FnOk P w K mg base (CXX P w) 3 a.Jgu a.Jgv ["self","setting","level"] (Jzk a):=by
 have G_is_whole:=%[Jlf|1];have G_NoGate___init__:=%[Jmc|1];have G_NoNumber___init__:=%[Jqq|1];refine T.Jbu.fn.okX Jug (fun vs H Q E h=>?_) (fun cdv A outer s H vs Q E hr h=>?_)
 ·obtain ⟨x,G,s,lv,rfl,_⟩:=h;rfl
 ·obtain ⟨x,G,s,lv,rfl,gx,gg,hs,hl,k⟩:=h;refine ⟨?t,?B,?C⟩
  case B =>
   refine' Jk2 ?s1 ?r1
   case s1 =>
    refine' Jks ?c2 ?a2 ?b2
    case c2 =>
     exact (Jkp (Jkq (Jk5 T.J0 G_is_whole hr (by decide) (Jjz (pv 1) (Jjz Jk4 (Jjz (Jkh Jla (Jqx (pv 0) hr) Jk4) Jk1))))))
    case a2 =>
     refine' Jk3 ?s3
     case s3 =>
      exact (Jl4 Jl5 rfl (Jlr T.Jcd G_NoGate___init__ hr (by decide) T.Jbj.bd T.Jb0 (Jjz (pv 1) Jk1)))
    case b2 =>
     exact Jkg
   case r1 =>
    refine' Jk2 ?s6 ?r6
    case s6 =>
     refine' Jks ?c7 ?a7 ?b7
     case c7 =>
      exact (Jkp (Jkq (Jk5 T.J0 G_is_whole hr (by decide) (Jjz (pv 2) (Jjz Jk4 (Jjz (Jlb (by rfl) T.Jad (v:=.int 1000) ⟨_,rfl⟩) Jk1))))))
     case a7 =>
      refine' Jk3 ?s8
      case s8 =>
       exact (Jl4 Jl5 rfl (Jlr T.Jcr G_NoNumber___init__ hr (by decide) T.Jbr.bd T.Jb8 (Jjz (pv 2) Jk1)))
     case b7 =>
      exact Jkg
    case r6 =>
     refine' Jk3 ?s11
     case s11 =>
      exact (Jkd (Jq1 (pv 0) hr (Jjz (pv 1) (Jjz (pv 2) Jk1))))
  have gs : GS K a H x (nOf G):=gx.gs gg;obtain ⟨o,C,dx', fs,f,fd,ps,sp,k', rfl,h1,h2,c,m,ok,hk,bd,hsp⟩:=gx.passes (P:=P) (w:=w) (base:=base) (Q:=Q) T gg hs hl k;refine ⟨_,rfl,_,rfl,Jm6 T gs ⟨_,_,rfl,rfl,.int s,0,(nOf G : Int) - 1,rfl,.inl ⟨s,rfl⟩,_,rfl,ifF (by simp [Jkl]; omega) ?_⟩ (by decide)⟩;refine ⟨_,rfl,.int lv,0,1000,rfl,.inl ⟨lv,rfl⟩,_,rfl,ifF (by simp [Jkl]; omega) ?_⟩;exact ⟨_,rfl,o,C,dx', fs,f,fd,ps,sp,k', rfl,h1,h2,c,m,ok,hk,bd,_,rfl,_,rfl,hsp⟩
end
noncomputable def plc (S : Riv) (z : Str) : Nat:=(S.Bs.map (·.z)).idxOf z
noncomputable def Yai (K : W.Frag) (a : Ad) : Sp:=fun vs H Q _=>∃ (o : Addr) (S : Riv) (z : Str),vs = [.ref o,.str z] ∧ RivAt K a H o S ∧ z ∈ S.Bs.map (·.z) ∧ ∀ H', Same H H' → Q (.int (plc S z)) H'
noncomputable def TIn (S : Riv) : Prop:=∀ T ∈ S.Ts,T.b ∈ S.Bs.map (·.z) ∧ 1 ≤ T.wt ∧ T.wt ≤ 6
noncomputable def Ya9 (K : W.Frag) (a : Ad) : Sp:=fun vs H Q _=>∃ (o : Addr) (S : Riv) (t : Int) (T : Twn),vs = [.ref o,.int t] ∧ RivAt K a H o S ∧ TIn S ∧ 0 ≤ t ∧ S.Ts[t.toNat]? = some T ∧ ∀ H', Same H H' → Q (.int (plc S T.b)) H'
theorem TwnL.at {a : Ad} {H : Hp} : ∀ {xs : List Addr} {Bs : List Twn} {i : Nat} {B : Twn},TwnL a H xs Bs → Bs[i]? = some B → ∃ o,xs[i]? = some o ∧ TwnAt a H o B
 | o :: _,_ :: _,0,_,⟨h,_⟩,e=>by cases e; exact ⟨o,rfl,h⟩
 | _ :: _,_ :: _,i + 1,_,⟨_,t⟩,e=>TwnL.at (i:=i) t (by simpa using e)
 | [],[],i,_,_,e=>by simp at e
theorem Jys : ∀ {l : List Str} {i : Nat} {z : Str},l[i]? = some z → (∀ j,j < i → l[j]? ≠ some z) → l.idxOf z = i
 | [],_,_,h,_=>by simp at h
 | x :: l,0,z,h,_=>by
  have e : x = z:=by simpa using h
  rw [e];simp
 | x :: l,i + 1,z,h,n=>by
  have hx : x ≠ z:=fun e=>n 0 (by omega) (by simp [e]);have ih:=Jys (l:=l) (i:=i) (z:=z) (by simpa using h) (fun j hj=>by have:=n (j + 1) (by omega); simpa using this);have hb : (x == z) = false:=beq_false_of_ne hx;simp [List.idxOf_cons,hb,ih]
section
variable {P : Program} {w : World} {K : W.Frag} {mg : Str → Option Value} {base : Heap} {a : Ad}
theorem sc_River_place_of : Jkb ["self","name","place","basin"] ["self","name"] (Jk6 (Jk9 (top 62) 1)):=%[|0]
theorem Jpx (T : Tx K mg a) : FnOk P w K mg base CX0 1 a.Jhy a.Jhz ["self","name"] (Yai K a):=by
 refine T.Jca.fn.ok sc_River_place_of (fun vs H Q E h=>?_) (fun cdv A outer s H vs Q E hr h=>?_)
 ·obtain ⟨o,S,z,rfl,_⟩:=h;rfl
 ·obtain ⟨o,S,z,rfl,ro,hz,k⟩:=h;refine ⟨?t,?B,?C⟩
  case B =>
   refine' Jk2 ?s1 ?r1
   case s1 =>
    refine' Jnh ?f2_0 ?f2_1 ?f2_2 ?f2_3 ?f2_4
    case f2_0 =>
     exact PassesOwn.never
    case f2_1 =>
     exact rfl
    case f2_2 =>
     exact (Jva (by rfl) T.Jam (Jjz (Jkn (pv 0) (by rfl)) Jk1))
    case f2_3 =>
     exact (Jom rfl (Jkf (Jkc (i:=2) sc_River_place_of.nd rfl (Or.inl rfl)) (Jkf (Jkc (i:=3) sc_River_place_of.nd rfl (Or.inl rfl)) Jls)))
    case f2_4 =>
     refine' Jk3 ?s3
     case s3 =>
      refine' Jks ?c4 ?a4 ?b4
      case c4 =>
       exact (Jl6 Jnp (Jkn (pv 3) (by rfl)) (pv 1) (Jkt _))
      case a4 =>
       refine' Jk3 ?s5
       case s5 =>
        exact (Jkd (pv 2))
      case b4 =>
       exact Jkg
   case r1 =>
    refine' Jk3 ?s9
    case s9 =>
     exact (Jkd Jnz)
  obtain ⟨dx,b,t,os,ts,ho,hb,bl,ht,tl,n1,n2,n3⟩:=ro;have len:=bl.len;refine ⟨_,rfl,o,_,dx,_,_,rfl,ho,T.Jec,T.Jeh,rfl,b,rfl,⟨_,SqT.of hb⟩,?_⟩;refine Jyo (xs:=os.map V.ref) (fun i σ H'=>(∃ o1 o2,σ = [some (.ref o),some (.str z),o1,o2]) ∧ Same H H' ∧ ∀ j,j < i → ∀ B,S.Bs[j]? = some B → B.z ≠ z) ⟨⟨_,_,rfl⟩,Same.refl _,fun j hj=>absurd hj (Nat.not_lt_zero j)⟩ (fun i σ H' _ ⟨_,sm,_⟩=>SqT.of (sm _ _ hb)) ?_ ?_
  ·rintro i x σ H' Ta hx ⟨⟨o1,o2,rfl⟩,sm,no⟩ hT;obtain ⟨ob,B,rfl,hB,dxb,hob,gs⟩:=(bl.same sm).get hx;have sT:=Same.upd (o:=.tup [.int i,.ref ob]) hT;refine ⟨Ta,_,rfl,SqT.of Jk0,rfl,_,_,rfl,_,_,rfl,rfl,?_⟩;refine ⟨_,rfl,ob,_,dxb,_,_,rfl,sT _ _ hob,T.Jdx,T.Je0,rfl,_,rfl,rfl,_,rfl,?_⟩;by_cases e : B.z = z
   ·refine ifT (by simp [e]) ⟨_,rfl,?_⟩;have ei : plc S z = i:=by
     refine Jys (by rw [List.getElem?_map,hB,← e]; rfl) fun j hj z'=>?_;rw [List.getElem?_map] at z';obtain ⟨B', hB', ez⟩:=Option.map_eq_some_iff.mp z';exact no j hj B' hB' ez
    have k':=k _ (sm.trans sT);rw [ei] at k';exact k'
   ·refine ifF (by simp [e]) ⟨⟨_,_,rfl⟩,sm.trans sT,fun j hj B' hB'=>?_⟩;by_cases ej : j = i
    ·subst ej;rw [hB] at hB';cases hB';exact e
    ·exact no j (by omega) B' hB'
  ·rintro σ H' ⟨_,sm,no⟩;exfalso;have hm : (S.Bs.map (·.z)).idxOf z < (S.Bs.map (·.z)).length:=List.idxOf_lt_length_of_mem hz;have hj : (S.Bs.map (·.z)).idxOf z < S.Bs.length:=by rw [List.length_map] at hm; exact hm
   have g:=List.getElem_idxOf hm;rw [List.getElem_map] at g;exact no _ (by rw [List.length_map,len]; exact hj) _ (List.getElem?_eq_getElem hj) g
theorem Jp2 : Jkb ["river","town"] ["river","town"] (Jk6 (top 28)):=%[|0]
theorem Jms (T : Tx K mg a) : FnOk P w K mg base CX0 2 a.Jg6 a.Jg7 ["river","town"] (Ya9 K a):=by
 refine T.Jb.fn.ok Jp2 (fun vs H Q E h=>?_) (fun cdv A outer s H vs Q E hr h=>?_)
 ·obtain ⟨o,S,t,W,rfl,_⟩:=h;rfl
 ·obtain ⟨o,S,t,W,rfl,ro,ti,h0,hW,k⟩:=h;refine ⟨?t,?B,?C⟩
  case B =>
   refine' Jk3 ?s1
   case s1 =>
    exact (Jkd (Jq1 (pv 0) hr (Jjz (Jkn (Jke Jkj (Jkn (pv 0) (by rfl)) (pv 1) (fun _ _=>rfl)) (by rfl)) Jk1)))
  obtain ⟨dx,b,tt,os,ts,ho,hb,bl,ht,tl,n1,n2,n3⟩:=id ro;obtain ⟨ow,how,dw,hw⟩:=tl.at hW;obtain ⟨i,rfl⟩:=Int.eq_ofNat_of_zero_le h0;have hat : atI (ts.map V.ref) (i : Int) = some (.ref ow):=Jmu (by rw [List.getElem?_map]; simp at how; rw [how]; rfl);refine ⟨_,rfl,o,_,dx,_,_,_,_,_,1,rfl,ho,rfl,T.Jec,T.Jee,Jpx T,by decide,T.Jca.bd,?_⟩;refine ⟨_,rfl,o,_,dx,_,_,rfl,ho,T.Jec,T.Jei,rfl,_,rfl,tt,_,_,_,rfl,rfl,SqT.of ht,hat,ow,_,dw,_,_,rfl,hw,T.Je6,T.Jea,rfl,o,S,W.b,rfl,ro,(ti W (List.mem_of_getElem? hW)).1,k⟩
noncomputable def drw (S : Riv) (ls : List Int) : V → Int
 | .int t=>match S.Ts[t.toNat]? with
  | some T=>if ls.getD (plc S T.b) 0 ≥ T.wt then T.wt else 0
  | none=>0
 | _=>0
noncomputable def TwnIn (S : Riv) (v : V) : Prop:=v = .non ∨ ∃ j : Int,v = .int j ∧ 0 ≤ j ∧ j < S.Ts.length
noncomputable def StA (H : Hp) (x : V) (S : Riv) (ls : List Int) (wt : Int) : Prop:=∃ y u : Addr,x = .ref y ∧ H y = some (.tup [.ref u,.int wt]) ∧ H u = some (.tup (ls.map V.int)) ∧ ls.length = S.Bs.length
noncomputable def ChA (H : Hp) (x : V) (S : Riv) (cs : List Int) (tv : V) : Prop:=∃ y u : Addr,x = .ref y ∧ H y = some (.tup [.ref u,tv]) ∧ H u = some (.tup (cs.map V.int)) ∧ cs.length = S.Bs.length ∧ TwnIn S tv
theorem StA.same {H H' : Hp} {x : V} {S : Riv} {ls : List Int} {wt : Int} (s : Same H H') (h : StA H x S ls wt) : StA H' x S ls wt:=by obtain ⟨y,u,e,h1,h2,h3⟩:=h; exact ⟨y,u,e,s _ _ h1,s _ _ h2,h3⟩
theorem ChA.same {H H' : Hp} {x : V} {S : Riv} {cs : List Int} {tv : V} (s : Same H H') (h : ChA H x S cs tv) : ChA H' x S cs tv:=by obtain ⟨y,u,e,h1,h2,h3⟩:=h; exact ⟨y,u,e,s _ _ h1,s _ _ h2,h3⟩
theorem Jsj {S : Riv} {z : Str} (h : z ∈ S.Bs.map (·.z)) : plc S z < S.Bs.length:=by
 have hm : (S.Bs.map (·.z)).idxOf z < (S.Bs.map (·.z)).length:=List.idxOf_lt_length_of_mem h;rw [List.length_map] at hm;exact hm
theorem Jow {ns : List Int} {i : Nat} (h : i < ns.length) : atI (ns.map V.int) (i : Int) = some (.int (ns.getD i 0)):=by
 have e : ns.getD i 0 = ns[i]:=by simp [List.getD_eq_getElem?_getD,h]
 rw [e];exact Jmj h
noncomputable def spDraw (K : W.Frag) (a : Ad) : Sp:=fun vs H Q _=>∃ (o : Addr) (S : Riv) (x c : V) (ls cs : List Int) (wt : Int) (tv : V),vs = [.ref o,x,c] ∧ RivAt K a H o S ∧ TIn S ∧ StA H x S ls wt ∧ ChA H c S cs tv ∧ ∀ H', Same H H' → Q (.int (drw S ls tv)) H'
theorem sc_draw : Jkb ["river","standing","choice","town","want"] ["river","standing","choice"] (Jk6 (top 29)):=%[|0]
theorem Jww (T : Tx K mg a) : FnOk P w K mg base CX0 3 a.Jg8 a.Jg9 ["river","standing","choice"] (spDraw K a):=by
 have G_place_drawn_from:=%[Jms|1];refine T.Jc.fn.ok sc_draw (fun vs H Q E h=>?_) (fun cdv A outer s H vs Q E hr h=>?_)
 ·obtain ⟨o,S,x,c,ls,cs,wt,tv,rfl,_⟩:=h;rfl
 ·obtain ⟨o,S,x,c,ls,cs,wt,tv,rfl,ro,ti,⟨y,u,rfl,hy,hu,lu⟩,⟨z,v,rfl,hz,hv,lv,tw⟩,k⟩:=h;refine ⟨?t,?B,?C⟩
  case B =>
   refine' Jk2 ?s1 ?r1
   case s1 =>
    exact (Jki (i:=3) sc_draw.nd rfl (Or.inl rfl) (Jke Jkj (pv 2) Jk4 (fun _ _=>rfl)))
   case r1 =>
    refine' Jk2 ?s3 ?r3
    case s3 =>
     refine' Jks ?c4 ?a4 ?b4
     case c4 =>
      exact (Jl6 Jw5 (pv 3) Jnz (Jkt _))
     case a4 =>
      refine' Jk3 ?s5
      case s5 =>
       exact (Jkd Jk4)
     case b4 =>
      exact Jkg
    case r3 =>
     refine' Jk2 ?s9 ?r9
     case s9 =>
      exact (Jki (i:=4) sc_draw.nd rfl (Or.inl rfl) (Jkn (Jke Jkj (Jkn (pv 0) (by rfl)) (pv 3) (fun _ _=>rfl)) (by rfl)))
     case r9 =>
      refine' Jk3 ?s11
      case s11 =>
       exact (Jkd (Jz2 (Jl6 op_ge (Jke Jkj (Jke Jkj (pv 1) Jk4 (fun _ _=>rfl)) (Jk5 T.Jb G_place_drawn_from hr (by decide) (Jjz (pv 0) (Jjz (pv 3) Jk1))) (fun _ _=>rfl)) (pv 4) (Jkt _)) (pv 4) Jk4))
  obtain ⟨dx,b,tt,os,ts,ho,hb,bl,ht,tl,n1,n2,n3⟩:=id ro;refine ⟨_,rfl,z,_,1,tv,rfl,rfl,SqT.of hz,rfl,?_⟩;rcases tw with rfl | ⟨j,rfl,j0,j1⟩
  ·exact ⟨_,rfl,rfl,_,rfl,Jvu rfl (k _ fun _ _ h=>h)⟩
  ·obtain ⟨i,rfl⟩:=Int.eq_ofNat_of_zero_le j0;have hi : i < S.Ts.length:=by omega
   obtain ⟨ow,how,dw,hw⟩:=tl.at (i:=i) (B:=S.Ts[i]) (List.getElem?_eq_getElem hi);have hat : atI (ts.map V.ref) (i : Int) = some (.ref ow):=Jmu (by rw [List.getElem?_map,how]; rfl);have pin:=(ti _ (List.getElem_mem hi)).1;have pl:=Jsj pin;have e : drw S ls (.int (i : Int)) = if ls.getD (plc S S.Ts[i].b) 0 ≥ S.Ts[i].wt then S.Ts[i].wt else 0:=by
    show (match S.Ts[(i : Int).toNat]? with | some T=>_ | none=>_) = _;rw [Int.toNat_natCast,List.getElem?_eq_getElem hi]
   rw [e] at k;refine ⟨_,rfl,rfl,_,rfl,Jtx (fun z=>by cases z) ?_⟩;refine ⟨_,rfl,o,_,dx,_,_,rfl,ho,T.Jec,T.Jei,rfl,_,rfl,tt,_,_,_,rfl,rfl,SqT.of ht,hat,ow,_,dw,_,_,rfl,hw,T.Je6,T.Jeb,rfl,?_⟩;refine ⟨_,rfl,y,_,0,_,rfl,rfl,SqT.of hy,rfl,_,rfl,_,rfl,o,S,(i : Int),S.Ts[i],rfl,ro,ti,j0,(by simp [hi]),fun H1 s1=>?_⟩;refine ⟨u,_,_,_,rfl,rfl,SqT.of (s1 _ _ hu),Jow (by omega),_,rfl,_,_,rfl,rfl,_,rfl,?_⟩;by_cases q : S.Ts[i].wt ≤ ls.getD (plc S S.Ts[i].b) 0
   ·have k':=k _ s1;rw [if_pos q] at k';exact ifT (decide_eq_true q) ⟨_,rfl,k'⟩
   ·have k':=k _ s1;rw [if_neg q] at k';exact ifF (decide_eq_false q) k'
noncomputable def Jsi (S : Riv) : V → Nat
 | .int t=>match S.Ts[t.toNat]? with
  | some T=>plc S T.b
  | none=>0
 | _=>0
noncomputable def lft (S : Riv) (ls : List Int) (tv : V) : List Int:=if drw S ls tv > 0 then ls.set (Jsi S tv) (ls.getD (Jsi S tv) 0 - drw S ls tv) else ls
noncomputable def spLeft (K : W.Frag) (a : Ad) : Sp:=fun vs H Q _=>∃ (o : Addr) (S : Riv) (x c : V) (ls cs : List Int) (wt : Int) (tv : V),vs = [.ref o,x,c,.int (drw S ls tv)] ∧ RivAt K a H o S ∧ TIn S ∧ StA H x S ls wt ∧ ChA H c S cs tv ∧ ∀ l H', H l = none → Same H H' → H' l = some (.lst ((lft S ls tv).map V.int)) → Q (.ref l) H'
theorem sc_levels_left : Jkb ["river","standing","choice","drawn","left"] ["river","standing","choice","drawn"] (Jk6 (top 31)):=%[|0]
theorem Jsc (T : Tx K mg a) : FnOk P w K mg base CX0 3 a.Jgc a.Jgd ["river","standing","choice","drawn"] (spLeft K a):=by
 have G_place_drawn_from:=%[Jms|1];refine T.Je.fn.ok sc_levels_left (fun vs H Q E h=>?_) (fun cdv A outer s H vs Q E hr h=>?_)
 ·obtain ⟨o,S,x,c,ls,cs,wt,tv,rfl,_⟩:=h;rfl
 ·obtain ⟨o,S,x,c,ls,cs,wt,tv,rfl,ro,ti,⟨y,u,rfl,hy,hu,lu⟩,⟨z,v,rfl,hz,hv,lv,tw⟩,k⟩:=h;refine ⟨?t,?B,?C⟩
  case B =>
   refine' Jk2 ?s1 ?r1
   case s1 =>
    exact (Jki (i:=4) sc_levels_left.nd rfl (Or.inl rfl) (Jkr Jlz (by rfl) T.Jaq Jmv (Jjz (Jke Jkj (pv 1) Jk4 (fun _ _=>rfl)) Jk1)))
   case r1 =>
    refine' Jk2 ?s3 ?r3
    case s3 =>
     refine' Jks ?c4 ?a4 ?b4
     case c4 =>
      exact (Jl6 Jsd (pv 3) Jk4 (Jkt _))
     case a4 =>
      refine' Jk3 ?s5
      case s5 =>
       exact (Ya0 (pv 4) (Jk5 T.Jb G_place_drawn_from hr (by decide) (Jjz (pv 0) (Jjz (Jke Jkj (pv 2) Jk4 (fun _ _=>rfl)) Jk1))) Jyp (pv 3) ip_sub Jn6)
     case b4 =>
      exact Jkg
    case r3 =>
     refine' Jk3 ?s8
     case s8 =>
      exact (Jkd (pv 4))
  refine ⟨_,rfl,y,_,0,_,rfl,rfl,SqT.of hy,rfl,u,_,rfl,.inr (SqT.of hu),fun l hl=>?_⟩;have s1:=Same.upd (o:=.lst (ls.map V.int)) hl;refine ⟨_,rfl,_,_,rfl,rfl,_,rfl,?_⟩;by_cases hd : drw S ls tv > 0
  ·refine ifT (decide_eq_true hd) ?_;obtain ⟨j,rfl,j0,j1⟩ : ∃ j : Int,tv = .int j ∧ 0 ≤ j ∧ j < S.Ts.length:=by
    rcases tw with rfl | h
    ·exact absurd (show (0 : Int) > 0 from hd) (by decide)
    ·exact h
   obtain ⟨i,rfl⟩:=Int.eq_ofNat_of_zero_le j0;have hi : i < S.Ts.length:=by omega
   have pin:=(ti _ (List.getElem_mem hi)).1;have pl:=Jsj pin;have ep : Jsi S (.int (i : Int)) = plc S S.Ts[i].b:=by
    show (match S.Ts[(i : Int).toNat]? with | some T=>_ | none=>_) = _;rw [Int.toNat_natCast,List.getElem?_eq_getElem hi]
   refine ⟨_,rfl,_,rfl,_,rfl,z,_,1,_,rfl,rfl,SqT.of (s1 _ _ hz),rfl,o,S,(i : Int),S.Ts[i],rfl,ro.same s1,ti,j0,(by simp [hi]),fun H1 s2=>?_⟩;have hl1:=s2 _ _ (Jk0 (H:=H) (a:=l) (o:=.lst (ls.map V.int)));have pl' : plc S S.Ts[i].b < ls.length:=by omega
   have hix : ixN (ls.map V.int).length ((plc S S.Ts[i].b : Nat) : Int) = some (plc S S.Ts[i].b):=by
    unfold ixN;rw [if_pos (by omega),if_pos (by rw [List.length_map]; omega)];rfl
   refine ⟨l,_,_,_,rfl,rfl,SqL.of hl1,by omega,Jow pl', _,rfl,_,_,rfl,rfl,l,_,_,_,rfl,rfl,hl1,hix,_,rfl,?_⟩;have e : lft S ls (.int (i : Int)) = ls.set (plc S S.Ts[i].b) (ls.getD (plc S S.Ts[i].b) 0 - drw S ls (.int (i : Int))):=by
    unfold lft;rw [if_pos hd,ep]
   rw [e,List.map_set] at k;exact k l _ hl (fun b o e=>by rw [Jk7 (Jk8 e hl)]; exact (s1.trans s2) _ _ e) Jk0
  ·refine ifF (decide_eq_false hd) ?_;have e : lft S ls tv = ls:=if_neg hd;rw [e] at k;exact ⟨_,rfl,k l _ hl s1 Jk0⟩
end
noncomputable def Jpa : List Jko → List Int → List Int → List Int
 | G :: Gs,c :: cs,l :: ls=>lvG G c l :: Jpa Gs cs ls
 | _,_,_=>[]
theorem Jmh : ∀ {Gs : List Jko} {cs ls : List Int},Gs.length = cs.length → cs.length = ls.length → (Jpa Gs cs ls).length = Gs.length
 | [],_,_,_,_=>rfl
 | _ :: _,[],_,e,_=>by simp at e
 | _ :: _,_ :: _,[],_,e=>by simp at e
 | _ :: Gs,_ :: cs,_ :: ls,e1,e2=>by
  show (Jpa Gs cs ls).length + 1 = Gs.length + 1;rw [Jmh (by simpa using e1) (by simpa using e2)]
theorem Jqw : ∀ {Gs : List Jko} {cs ls : List Int} {i : Nat} {G : Jko} {c l : Int},Gs[i]? = some G → cs[i]? = some c → ls[i]? = some l → (Jpa Gs cs ls)[i]? = some (lvG G c l)
 | _ :: _,_ :: _,_ :: _,0,_,_,_,h1,h2,h3=>by cases h1; cases h2; cases h3; rfl
 | _ :: Gs,_ :: cs,_ :: ls,i + 1,_,_,_,h1,h2,h3=>Jqw (Gs:=Gs) (cs:=cs) (ls:=ls) (i:=i) (by simpa using h1) (by simpa using h2) (by simpa using h3)
 | [],_,_,_,_,_,_,h,_,_=>by simp at h
 | _ :: _,[],_,_,_,_,_,_,h,_=>by simp at h
 | _ :: _,_ :: _,[],_,_,_,_,_,_,h=>by simp at h
noncomputable def SetsOk : List Jko → List Int → List Int → Prop
 | [],[],[]=>True
 | G :: Gs,c :: cs,l :: ls=>(GGood G ∧ (0 ≤ c ∧ c < (nOf G : Int)) ∧ (0 ≤ l ∧ l ≤ 1000)) ∧ SetsOk Gs cs ls
 | _,_,_=>False
theorem SetsOk.len : ∀ {Gs : List Jko} {cs ls : List Int},SetsOk Gs cs ls → Gs.length = cs.length ∧ cs.length = ls.length
 | [],[],[],_=>⟨rfl,rfl⟩
 | _ :: Gs,_ :: cs,_ :: ls,⟨_,t⟩=>by
  have:=t.len;simp;omega
theorem SetsOk.get : ∀ {Gs : List Jko} {cs ls : List Int} {i : Nat} {G : Jko} {c l : Int},SetsOk Gs cs ls → Gs[i]? = some G → cs[i]? = some c → ls[i]? = some l → GGood G ∧ (0 ≤ c ∧ c < (nOf G : Int)) ∧ (0 ≤ l ∧ l ≤ 1000)
 | _ :: _,_ :: _,_ :: _,0,_,_,_,⟨h,_⟩,h1,h2,h3=>by cases h1; cases h2; cases h3; exact h
 | _ :: Gs,_ :: cs,_ :: ls,i + 1,_,_,_,⟨_,t⟩,h1,h2,h3=>t.get (i:=i) (by simpa using h1) (by simpa using h2) (by simpa using h3)
 | [],[],[],_,_,_,_,_,h,_,_=>by simp at h
noncomputable def spOuts (K : W.Frag) (a : Ad) : Sp:=fun vs H Q _=>∃ (o v l : Addr) (S : Riv) (Gs : List Jko) (cs ls : List Int),vs = [.ref o,.ref v,.ref l] ∧ RivAt K a H o S ∧ GXL a H (S.Bs.map (·.g)) Gs ∧ SetsOk Gs cs ls ∧ S.Bs.length = Gs.length ∧ H v = some (.tup (cs.map V.int)) ∧ H l = some (.lst (ls.map V.int)) ∧ ∀ u H', Same H H' → H' u = some (.tup ((Jpa Gs cs ls).map V.int)) → Q (.ref u) H'
noncomputable def Joa : Int → List Int → List Int → List Int → List Int
 | g,l :: ls,o :: os,r :: rs=>(l - o + g + r) :: Joa o ls os rs
 | _,_,_,_=>[]
theorem Jnj : ∀ {g : Int} {ls os rs : List Int},ls.length = os.length → ls.length = rs.length → (Joa g ls os rs).length = ls.length
 | _,[],_,_,_,_=>rfl
 | _,_ :: _,[],_,e,_=>by simp at e
 | _,_ :: _,_ :: _,[],_,e=>by simp at e
 | _,_ :: ls,o :: os,_ :: rs,e1,e2=>by
  show (Joa o ls os rs).length + 1 = ls.length + 1;rw [Jnj (by simpa using e1) (by simpa using e2)]
theorem Jrt : ∀ {g : Int} {ls os rs : List Int} {i : Nat} {l o f r : Int},ls[i]? = some l → os[i]? = some o → (g :: os)[i]? = some f → rs[i]? = some r → (Joa g ls os rs)[i]? = some (l - o + f + r)
 | _,_ :: _,_ :: _,_ :: _,0,_,_,_,_,h1,h2,h3,h4=>by cases h1; cases h2; cases h3; cases h4; rfl
 | _,_ :: ls,o :: os,_ :: rs,i + 1,_,_,_,_,h1,h2,h3,h4=>Jrt (g:=o) (ls:=ls) (os:=os) (rs:=rs) (i:=i) (by simpa using h1) (by simpa using h2) (by simpa using h3) (by simpa using h4)
 | _,[],_,_,_,_,_,_,_,h,_,_,_=>by simp at h
 | _,_ :: _,[],_,_,_,_,_,_,_,h,_,_=>by simp at h
 | _,_ :: _,_ :: _,[],_,_,_,_,_,_,_,_,h=>by simp at h
noncomputable def Jzc : Sp:=fun vs H Q _=>∃ (l u r : Addr) (ls os rs : List Int),vs = [.ref l,.ref u,.ref r] ∧ H l = some (.lst (ls.map V.int)) ∧ H u = some (.tup (os.map V.int)) ∧ H r = some (.tup (rs.map V.int)) ∧ ls.length = os.length ∧ ls.length = rs.length ∧ (1 ≤ ls.length ∧ ls.length ≤ 16) ∧ ∀ w H', Same H H' → H' w = some (.tup ((Joa 0 ls os rs).map V.int)) → Q (.ref w) H'
noncomputable def Jm2 : Nat → List Bsn → List Int → List Int
 | k,B :: Bs,l :: ls=>if B.lo ≤ l ∧ l ≤ B.hi then Jm2 (k + 1) Bs ls else (k : Int) :: Jm2 (k + 1) Bs ls
 | _,_,_=>[]
theorem Jqh : ∀ {k : Nat} {Bs : List Bsn} {ls : List Int} {B : Bsn} {l : Int},Bs.length = ls.length → Jm2 k (Bs ++ [B]) (ls ++ [l]) = Jm2 k Bs ls ++ (if B.lo ≤ l ∧ l ≤ B.hi then [] else [((k + Bs.length : Nat) : Int)])
 | k,[],[],B,l,_=>by
  show (if B.lo ≤ l ∧ l ≤ B.hi then _ else _) = _;split <;> rfl
 | _,[],_ :: _,_,_,e=>by simp at e
 | _,_ :: _,[],_,_,e=>by simp at e
 | k,B' :: Bs,l' :: ls,B,l,e=>by
  have ih:=Jqh (k:=k + 1) (Bs:=Bs) (ls:=ls) (B:=B) (l:=l) (by simpa using e);have ek : k + 1 + Bs.length = k + (B' :: Bs).length:=by rw [List.length_cons]; omega
  rw [ek] at ih;show (if B'.lo ≤ l' ∧ l' ≤ B'.hi then Jm2 (k + 1) (Bs ++ [B]) (ls ++ [l]) else (k : Int) :: Jm2 (k + 1) (Bs ++ [B]) (ls ++ [l])) = (if B'.lo ≤ l' ∧ l' ≤ B'.hi then Jm2 (k + 1) Bs ls else (k : Int) :: Jm2 (k + 1) Bs ls) ++ _;rw [ih];split <;> rfl
theorem Jpq : ∀ {k : Nat} {Bs : List Bsn} {ls : List Int},(Jm2 k Bs ls).length ≤ Bs.length
 | _,[],_=>by simp [Jm2]
 | _,_ :: _,[]=>by simp [Jm2]
 | k,B :: Bs,l :: ls=>by
  have:=Jpq (k:=k + 1) (Bs:=Bs) (ls:=ls);show (if B.lo ≤ l ∧ l ≤ B.hi then Jm2 (k + 1) Bs ls else (k : Int) :: Jm2 (k + 1) Bs ls).length ≤ _;split <;> simp <;> omega
noncomputable def Jzd (K : W.Frag) (a : Ad) : Sp:=fun vs H Q _=>∃ (o u : Addr) (S : Riv) (ls : List Int),vs = [.ref o,.ref u] ∧ RivAt K a H o S ∧ H u = some (.tup (ls.map V.int)) ∧ ls.length = S.Bs.length ∧ ∀ w H', Same H H' → H' w = some (.tup ((Jm2 0 S.Bs ls).map V.int)) → Q (.ref w) H'
section
variable {P : Program} {w : World} {K : W.Frag} {mg : Str → Option Value} {base : Heap} {a : Ad}
theorem GX.lets {H : Hp} {x : V} {G : Jko} {s lv : Int} (T : Tx K mg a) (gg : GGood G) (gx : GX a H x G) (hs : 0 ≤ s ∧ s < (nOf G : Int)) (hl : 0 ≤ lv ∧ lv ≤ 1000) :
  ∃ o C dx fs f fd ps sp k', x = .ref o ∧ H o = some (.ins C dx fs) ∧ fs.lookup ("lets" : Str) = none ∧ Cls K C ∧ Jlv K C "lets" f ∧ FnOk P w K mg base CX0 k' f fd ps sp ∧ k' ≤ 3 ∧ Binds K fd ps [] ∧ ∀ Q : VK,Q (.int (lvG G s lv)) H → sp [x,.int s,.int lv] H Q E0:=by
 have sp : ∀ Q : VK,Q (.int (lvG G s lv)) H → Jzk a [x,.int s,.int lv] H Q E0:=fun Q k=>⟨x,G,s,lv,rfl,gx,gg,hs,hl,k⟩;obtain ⟨g,ga,r⟩:=gx;obtain ⟨dx,t,h1,h2⟩:=id ga;cases e : G.sv with
 | none =>
  rw [e] at r;subst r;rcases gg.kd with q | q | q
  ·rw [q,show cOf a "step" = a.Jjs from if_pos rfl] at h1;exact ⟨g,_,dx,_,_,_,_,_,3,rfl,h1,rfl,T.Jd4,T.Jd7,(Jmw T).calm,by decide,T.Jbu.bd,sp⟩
  ·rw [q,show cOf a "flap" = a.Jjt by unfold cOf; rw [if_neg Jrb,if_pos rfl]] at h1;exact ⟨g,_,dx,_,_,_,_,_,3,rfl,h1,rfl,T.Jdb,T.Jde,(Jmw T).calm,by decide,T.Jbu.bd,sp⟩
  ·rw [q,show cOf a "part" = a.Jju by unfold cOf; rw [if_neg Jrd,if_neg Jrc]] at h1;exact ⟨g,_,dx,_,_,_,_,_,3,rfl,h1,rfl,T.Jdi,T.Jdl,(Jmw T).calm,by decide,T.Jbu.bd,sp⟩
 | some j =>
  rw [e] at r;obtain ⟨q,dq,rfl,r2⟩:=r;exact ⟨q,_,dq,_,_,_,_,_,3,rfl,r2,rfl,T.Jdp,T.Jds,(Jmw T).calm,by decide,T.Jbu.bd,sp⟩
theorem Jwb : Jkb ["river","settings","levels"] ["river","settings","levels"] (Jk6 (top 32)):=%[|0]
theorem Jw1 (T : Tx K mg a) : FnOk P w K mg base CX0 4 a.Jge a.Jgf ["river","settings","levels"] (spOuts K a):=by
 refine T.Jf.fn.ok Jwb (fun vs H Q E h=>?_) (fun cdv A outer s H vs Q E hr h=>?_)
 ·obtain ⟨o,v,l,S,Gs,cs,ls,rfl,_⟩:=h;rfl
 ·obtain ⟨o,v,l,S,Gs,cs,ls,rfl,ro,gxl,so,ln,hv,hl,k⟩:=h;refine ⟨?t,?B,?C⟩
  case B =>
   refine' Jk3 ?s1
   case s1 =>
    exact (Jkd (Jkr Jkw (by rfl) T.Jax Jl3 (Jjz (Jkz (N:=(["basin","setting","level"] : List Str)) (ini:=[none,none,none]) rfl (Jub true true false (by rfl) T.Jay (Jjz (Jkn (pv 0) (by rfl)) (Jjz (pv 1) (Jjz (pv 2) Jk1)))) (fun _ _ _ _ _=>(Jna (K:=K) (n:=3) rfl rfl (Jkf (Jkc (i:=0) (by decide +kernel : (["basin","setting","level"] : List Str).Nodup) rfl (Or.inl rfl)) (Jkf (Jkc (i:=1) (by decide +kernel : (["basin","setting","level"] : List Str).Nodup) rfl (Or.inl rfl)) (Jkf (Jkc (i:=2) (by decide +kernel : (["basin","setting","level"] : List Str).Nodup) rfl (Or.inl rfl)) Jls))))) (fun _ _ _ _ _=>Jkx) (fun _ _ _ _ _=>(Jxt (P:=P) (w:=w) (K:=K) (mg:=mg) (base:=base) rfl rfl rfl rfl rfl (Jm8 (K:=K) rfl (pv 0) (by rfl)) hr (Jjz (pv 1) (Jjz (pv 2) Jk1))))) Jk1)))
  obtain ⟨dx,b,tt,os,ts,ho,hb,bl,ht,tl,n1,n2,n3⟩:=id ro;have len:=bl.len;have sl:=so.len;refine ⟨_,rfl,o,_,dx,_,_,rfl,ho,T.Jec,T.Jeh,rfl,_,rfl,_,rfl,b,v,l,rfl,⟨_,SqT.of hb⟩,⟨_,SqT.of hv⟩,⟨_,SqL.of hl⟩,fun D hD=>?_⟩;have s0:=Same.upd (o:=.lst []) hD;refine Jqk (K:=K) (l1:=b) (l2:=v) (l3:=l) (b1:=true) (b2:=true) (b3:=false) (xs:=os.map V.ref) (ys:=cs.map V.int) (us:=ls.map V.int) (D:=D) (fun i σ H'=>(∃ o1 o2 o3,σ = [o1,o2,o3]) ∧ H' D = some (.lst (((Jpa Gs cs ls).take i).map V.int)) ∧ Same H H') ⟨⟨_,_,_,rfl⟩,Jk0,s0⟩ (fun i σ H' _ ⟨_,_,sm⟩=>⟨SqT.of (sm _ _ hb),SqT.of (sm _ _ hv),SqL.of (sm _ _ hl)⟩) (by rw [List.length_map,List.length_map]; omega) (by rw [List.length_map,List.length_map]; omega) ?_ ?_
  ·rintro i x y u σ H' Ta hx hy hu ⟨⟨o1,o2,o3,rfl⟩,hDs,sm⟩ hT;obtain ⟨ob,B,rfl,hB,dxb,hob,gs⟩:=(bl.same sm).get hx;rw [List.getElem?_map] at hy hu;obtain ⟨c,hc,rfl⟩:=Option.map_eq_some_iff.mp hy;obtain ⟨lv,hlv,rfl⟩:=Option.map_eq_some_iff.mp hu;obtain ⟨G,hG,gx⟩:=(gxl.same sm).get (i:=i) (x:=B.g) (by rw [List.getElem?_map,hB]; rfl);obtain ⟨gg,hs,hl'⟩:=so.get hG hc hlv;have sT:=Same.upd (o:=.tup [.ref ob,.int c,.int lv]) hT;have hi : i < os.length:=by have:=(List.getElem?_eq_some_iff.mp hx).1; rw [List.length_map] at this; exact this
   refine Jx5 (SqT.of Jk0) ⟨_,rfl,ob,_,dxb,_,_,rfl,sT _ _ hob,T.Jdx,T.Je5,rfl,?_⟩;obtain ⟨q,C,dxq,fs,f,fd,ps,sp,k', eq,h1,h2,c', m,ok,hk,bd,hsp⟩:=GX.lets (P:=P) (w:=w) (base:=base) T gg (gx.same sT) hs hl';refine ⟨q,C,dxq,fs,f,fd,ps,sp,k', eq,h1,h2,c', m,ok,hk,bd,_,rfl,_,rfl,hsp _ ⟨_,sT _ _ hDs,?_,⟨_,_,_,rfl⟩,?_,?_⟩⟩
   ·rw [List.length_map,List.length_take];exact Jl0 (by omega)
   ·rw [Jk0,List.take_add_one,Jqw hG hc hlv];simp
   ·intro c o z;rw [Jk7 (Jk8 z hD)];exact sT _ _ (sm _ _ z)
  rintro σ H1 ⟨_,hDs,sm⟩;rw [List.take_of_length_le (by rw [Jmh sl.1 sl.2,List.length_map]; omega)] at hDs;exact ⟨D,_,rfl,.inl ⟨SqL.of hDs,fun u hu=>k u _ (sm.trans (Same.upd hu)) Jk0⟩⟩
theorem Jyk (xs : List V) (h : 1 ≤ xs.length) : Jrz xs none (some (-1)) = xs.dropLast:=by
 unfold Jrz;rw [HT.sIx_none];have e : HT.sIx xs.length xs.length (some (-1)) = xs.length - 1:=by
  show (if (-1 : Int) < 0 then ((-1 : Int) + (xs.length : Int)).toNat else min (-1 : Int).toNat xs.length) = _;rw [if_pos (by decide)];omega
 rw [e,List.dropLast_eq_take];rfl
theorem Js6 {n : Nat} (h : 1 ≤ n) : ¬ (HT.sIx n 0 none = 0 ∧ HT.sIx n n (some (-1)) = n):=by
 have e : HT.sIx n n (some (-1)) = n - 1:=by
  show (if (-1 : Int) < 0 then ((-1 : Int) + (n : Int)).toNat else min (-1 : Int).toNat n) = _;rw [if_pos (by decide)];omega
 rw [e];omega
theorem sc_levels_behind : Jkb ["left","outs","rain","from_above"] ["left","outs","rain"] (Jk6 (top 33)):=%[|0]
theorem Jqv (T : Tx K mg a) : FnOk P w K mg base CX0 1 a.Jgg a.Jgh ["left","outs","rain"] Jzc:=by
 refine T.Jg.fn.ok sc_levels_behind (fun vs H Q E h=>?_) (fun cdv A outer s H vs Q E hr h=>?_)
 ·obtain ⟨l,u,r,ls,os,rs,rfl,_⟩:=h;rfl
 ·obtain ⟨l,u,r,ls,os,rs,rfl,hl,hu,hr0,e1,e2,n,k⟩:=h;refine ⟨?t,?B,?C⟩
  case B =>
   refine' Jk2 ?s1 ?r1
   case s1 =>
    exact (Jki (i:=3) sc_levels_behind.nd rfl (Or.inl rfl) (Jkh Yu (Jly (Jjz Jk4 Jk1)) (Jol Jwe (pv 1) Jq2 (Jq3 (pe_un Jzx Jk4)))))
   case r1 =>
    refine' Jk3 ?s3
    case s3 =>
     refine' Jkd ?e5_0
     case e5_0 =>
      exact (Jkr Jkw (by rfl) T.Jax Jl3 (Jjz (Jkz (N:=(["level","out","gained","cubes"] : List Str)) (ini:=[none,none,none,none]) rfl (Yz false true true true (by rfl) T.Jay (pa4 (pv 0) (pv 1) (pv 3) (pv 2))) (fun _ _ _ _ _=>(Jna (K:=K) (n:=4) rfl rfl (Jkf (Jkc (i:=0) (by decide +kernel : (["level","out","gained","cubes"] : List Str).Nodup) rfl (Or.inl rfl)) (Jkf (Jkc (i:=1) (by decide +kernel : (["level","out","gained","cubes"] : List Str).Nodup) rfl (Or.inl rfl)) (Jkf (Jkc (i:=2) (by decide +kernel : (["level","out","gained","cubes"] : List Str).Nodup) rfl (Or.inl rfl)) (Jkf (Jkc (i:=3) (by decide +kernel : (["level","out","gained","cubes"] : List Str).Nodup) rfl (Or.inl rfl)) Jls)))))) (fun _ _ _ _ _=>Jkx) (fun _ _ _ _ _=>(Jkh Jkv (Jkh Jkv (Jkh Jla (pv 0) (pv 1)) (pv 2)) (pv 3)))) Jk1))
  refine ⟨(show 1 ≤ sizeLine by decide),fun q1 h1=>?_⟩;have s1:=Same.upd (o:=.tup [.int 0]) h1;refine ⟨_,rfl,_,rfl,_,rfl,u,_,rfl,SqT.of (s1 _ _ hu),Js6 (by rw [List.length_map]; omega),fun q2 h2=>?_⟩;rw [Jyk _ (by rw [List.length_map]; omega)];have s2:=Same.upd (o:=.tup (os.map V.int).dropLast) h2;refine ⟨q1,q2,_,_,rfl,rfl,s2 _ _ Jk0,Jk0,Jmy _ (by simp; omega),fun f H3 s3 hf=>?_⟩;have s13:=(s1.trans s2).trans s3;have ef : [V.int 0] ++ (os.map V.int).dropLast = ((0 : Int) :: os.dropLast).map V.int:=by rw [List.map_cons,List.map_dropLast]; rfl
  rw [ef] at hf;refine ⟨_,rfl,_,rfl,_,rfl,_,rfl,l,u,f,r,rfl,⟨_,SqL.of (s13 _ _ hl)⟩,⟨_,SqT.of (s13 _ _ hu)⟩,⟨_,SqT.of hf⟩,⟨_,SqT.of (s13 _ _ hr0)⟩,fun D hD=>?_⟩;have s0:=Same.upd (o:=.lst []) hD;refine Jxg (K:=K) (l1:=l) (l2:=u) (l3:=f) (l4:=r) (b1:=false) (b2:=true) (b3:=true) (b4:=true) (xs:=ls.map V.int) (ys:=os.map V.int) (us:=((0 : Int) :: os.dropLast).map V.int) (vs:=rs.map V.int) (D:=D) (fun i σ H'=>(∃ o1 o2 o3 o4,σ = [o1,o2,o3,o4]) ∧ H' D = some (.lst (((Joa 0 ls os rs).take i).map V.int)) ∧ Same H3 H') ⟨⟨_,_,_,_,rfl⟩,Jk0,s0⟩ (fun i σ H' _ ⟨_,_,sm⟩=>⟨SqL.of (sm _ _ (s13 _ _ hl)),SqT.of (sm _ _ (s13 _ _ hu)),SqT.of (sm _ _ hf),SqT.of (sm _ _ (s13 _ _ hr0))⟩) (by simp; omega) (by simp; omega) (by simp; omega) ?_ ?_
  ·rintro i x y z v σ H' Ta hx hy hz hv ⟨⟨o1,o2,o3,o4,rfl⟩,hDs,sm⟩ hT;rw [List.getElem?_map] at hx hy hz hv;obtain ⟨lv,hlv,rfl⟩:=Option.map_eq_some_iff.mp hx;obtain ⟨ov,hov,rfl⟩:=Option.map_eq_some_iff.mp hy;obtain ⟨fv,hfv,rfl⟩:=Option.map_eq_some_iff.mp hz;obtain ⟨rv,hrv,rfl⟩:=Option.map_eq_some_iff.mp hv;have hi : i < ls.length:=(List.getElem?_eq_some_iff.mp hlv).1;have hfv' : ((0 : Int) :: os)[i]? = some fv:=by
    cases i with
    | zero=>simpa using hfv
    | succ j =>
     have e : os.dropLast[j]? = some fv:=by simpa using hfv
     rw [List.dropLast_eq_take,List.getElem?_take] at e;split at e
     ·simpa using e
     ·cases e
   have sT:=Same.upd (o:=.tup [.int lv,.int ov,.int fv,.int rv]) hT;refine turn4 (SqT.of Jk0) ⟨_,rfl,_,rfl,_,_,rfl,rfl,_,rfl,_,_,rfl,rfl,_,rfl,_,_,rfl,rfl,_,sT _ _ hDs,?_,⟨_,_,_,_,rfl⟩,?_,?_⟩
   ·rw [List.length_map,List.length_take];exact Jl0 (by omega)
   ·rw [Jk0,List.take_add_one,Jrt hlv hov hfv' hrv];simp
   ·intro c o z;rw [Jk7 (Jk8 z hD)];exact sT _ _ (sm _ _ z)
  rintro σ H4 ⟨_,hDs,sm⟩;rw [List.take_of_length_le (by rw [Jnj e1 e2,List.length_map]; omega)] at hDs;exact ⟨D,_,rfl,.inl ⟨SqL.of hDs,fun q hq=>k q _ ((s13.trans sm).trans (Same.upd hq)) Jk0⟩⟩
theorem Juh : Jkb ["river","levels"] ["river","levels"] (Jk6 (top 34)):=%[|0]
theorem Ju2 (T : Tx K mg a) : FnOk P w K mg base CX0 1 a.Jgi a.Jgj ["river","levels"] (Jzd K a):=by
 refine T.Jh.fn.ok Juh (fun vs H Q E h=>?_) (fun cdv A outer s H vs Q E hr h=>?_)
 ·obtain ⟨o,u,S,ls,rfl,_⟩:=h;rfl
 ·obtain ⟨o,u,S,ls,rfl,ro,hu,ln,k⟩:=h;refine ⟨?t,?B,?C⟩
  case B =>
   refine' Jk3 ?s1
   case s1 =>
    exact (Jkd (Jkr Jkw (by rfl) T.Jax Jl3 (Jjz (Jkz (N:=(["place","basin","levels"] : List Str)) (ini:=[none,none,some 1]) rfl (Jva (by rfl) T.Jam (Jjz (Jkn (pv 0) (by rfl)) Jk1)) (fun _ _ _ _ _=>(Jna (K:=K) (n:=2) rfl rfl (Jkf (Jkc (i:=0) (by decide +kernel : (["place","basin","levels"] : List Str).Nodup) rfl (Or.inl rfl)) (Jkf (Jkc (i:=1) (by decide +kernel : (["place","basin","levels"] : List Str).Nodup) rfl (Or.inl rfl)) Jls)))) (fun _ _ _ _ _=>(Jx0 (Jkp (Jsk Jo5 Jo5 (Jm8 (K:=K) rfl (pv 1) (by rfl)) (Jke (Jmb (K:=K) rfl) (pv 2) (pv 0) (fun _ _=>rfl)) (Jm8 (K:=K) rfl (pv 1) (by rfl)))))) (fun _ _ _ _ _=>(pv 0))) Jk1)))
  obtain ⟨dx,b,tt,os,ts,ho,hb,bl,ht,tl,n1,n2,n3⟩:=id ro;have len:=bl.len;refine ⟨_,rfl,o,_,dx,_,_,rfl,ho,T.Jec,T.Jeh,rfl,b,rfl,⟨_,SqT.of hb⟩,fun D hD=>?_⟩;have s0:=Same.upd (o:=.lst []) hD;refine Jxe (K:=K) (a:=b) (xs:=os.map V.ref) (D:=D) (fun i σ H'=>(∃ o1 o2,σ = [o1,o2,some (.ref u)]) ∧ H' D = some (.lst ((Jm2 0 (S.Bs.take i) (ls.take i)).map V.int)) ∧ Same H H') ⟨⟨_,_,rfl⟩,Jk0,s0⟩ (fun i σ H' _ ⟨_,_,sm⟩=>SqT.of (sm _ _ hb)) ?_ ?_
  ·rintro i x σ H' Ta hx ⟨⟨o1,o2,rfl⟩,hDs,sm⟩ hT;obtain ⟨ob,B,rfl,hB,dxb,hob,gs⟩:=(bl.same sm).get hx;have sT:=Same.upd (o:=.tup [.int i,.ref ob]) hT;have hi : i < S.Bs.length:=(List.getElem?_eq_some_iff.mp hB).1;have hil : i < ls.length:=by omega
   have hob':=sT _ _ hob;have hu':=sT _ _ (sm _ _ hu);have nx : Jm2 0 (S.Bs.take (i + 1)) (ls.take (i + 1)) = Jm2 0 (S.Bs.take i) (ls.take i) ++ (if B.lo ≤ ls[i] ∧ ls[i] ≤ B.hi then [] else [(i : Int)]):=by
    have q:=Jqh (k:=0) (Bs:=S.Bs.take i) (ls:=ls.take i) (B:=B) (l:=ls[i]) (by rw [List.length_take,List.length_take]; omega);rw [List.length_take,Nat.min_eq_left (by omega),Nat.zero_add] at q;rw [List.take_add_one,hB,List.take_add_one,List.getElem?_eq_getElem hil];exact q
   refine ⟨Ta,_,rfl,SqT.of Jk0,rfl,_,_,rfl,_,_,rfl,rfl,?_⟩;have bad : ¬ (B.lo ≤ ls[i] ∧ ls[i] ≤ B.hi) → ∃ vs,(upd H' Ta (.tup [.int i,.ref ob])) D = some (.lst vs) ∧ vs.length < sizeLine ∧ (∃ p1 p2,[some (V.int i),some (.ref ob),some (.ref u)] = [p1,p2,some (V.ref u)]) ∧ upd (upd H' Ta (.tup [.int i,.ref ob])) D (.lst (vs ++ [.int i])) D = some (.lst ((Jm2 0 (S.Bs.take (i + 1)) (ls.take (i + 1))).map V.int)) ∧ Same H (upd (upd H' Ta (.tup [.int i,.ref ob])) D (.lst (vs ++ [.int i]))):=fun q=>by
    refine ⟨_,sT _ _ hDs,?_,⟨_,_,rfl⟩,?_,?_⟩
    ·have:=Jpq (k:=0) (Bs:=S.Bs.take i) (ls:=ls.take i);rw [List.length_take] at this;rw [List.length_map];exact Jl0 (by omega)
    ·rw [Jk0,nx,if_neg q,List.map_append];rfl
    ·intro c o z;rw [Jk7 (Jk8 z hD)];exact sT _ _ (sm _ _ z)
   refine ⟨_,rfl,ob,_,dxb,_,_,rfl,hob', T.Jdx,T.Je1,rfl,_,rfl,_,rfl,u,_,_,_,rfl,rfl,SqT.of hu', Jmj hil,_,_,rfl,rfl,_,rfl,?_⟩;by_cases h1 : B.lo ≤ ls[i]
   ·rw [decide_eq_true h1];refine Jlc ⟨_,rfl,ob,_,dxb,_,_,rfl,hob', T.Jdx,T.Je2,rfl,_,_,rfl,rfl,_,rfl,?_⟩;by_cases h2 : ls[i] ≤ B.hi
    ·rw [decide_eq_true h2];refine Jl1 ⟨⟨_,_,rfl⟩,?_,sm.trans sT⟩;rw [nx,if_pos ⟨h1,h2⟩,List.append_nil];exact sT _ _ hDs
    ·rw [decide_eq_false h2];exact Jlc ⟨_,rfl,bad fun z=>h2 z.2⟩
   ·rw [decide_eq_false h1];exact Jl1 ⟨_,rfl,Jlc ⟨_,rfl,bad fun z=>h1 z.1⟩⟩
  rintro σ H1 ⟨_,hDs,sm⟩;rw [List.take_of_length_le (by rw [List.length_map]; omega),List.take_of_length_le (by rw [List.length_map]; omega)] at hDs;exact ⟨D,_,rfl,.inl ⟨SqL.of hDs,fun q hq=>k q _ (sm.trans (Same.upd hq)) Jk0⟩⟩
end
noncomputable def trnF (c r : V) (d : Int) (u lv : Addr) (wt : Int) (q : Addr) : List (Str × V):=[("choice",c),("rain",r),("drawn",.int d),("paid",.bl (decide (d > 0))),("outs",.ref u),("levels",.ref lv),("wet",.int wt),("broken",.ref q)]
structure TrnIn (K : W.Frag) (a : Ad) (H : Hp) (o : Addr) (S : Riv) (Gs : List Jko) (x c : V) (ls cs : List Int) (wt : Int) (tv : V) (ra : Addr) (rn : List Int) : Prop where
 ro : RivAt K a H o S
 ti : TIn S
 gx : GXL a H (S.Bs.map (·.g)) Gs
 ln : S.Bs.length = Gs.length
 st : StA H x S ls wt
 ch : ChA H c S cs tv
 hr : H ra = some (.tup (rn.map V.int))
 rl : rn.length = S.Bs.length
 sm : Sml rn
 so : SetsOk Gs cs (lft S ls tv)
 n1 : 1 ≤ S.Bs.length
theorem TrnIn.same {K : W.Frag} {a : Ad} {H H' : Hp} {o : Addr} {S : Riv} {Gs : List Jko} {x c : V} {ls cs : List Int} {wt : Int} {tv : V} {ra : Addr} {rn : List Int} (s : Same H H') (h : TrnIn K a H o S Gs x c ls cs wt tv ra rn) : TrnIn K a H' o S Gs x c ls cs wt tv ra rn :=
 ⟨h.ro.same s,h.ti,h.gx.same s,h.ln,h.st.same s,h.ch.same s,s _ _ h.hr,h.rl,h.sm,h.so,h.n1⟩
noncomputable def Jme (S : Riv) (Gs : List Jko) (ls cs : List Int) (tv : V) : List Int:=Jpa Gs cs (lft S ls tv)
noncomputable def Jn8 (S : Riv) (Gs : List Jko) (ls cs : List Int) (tv : V) (rn : List Int) : List Int:=Joa 0 (lft S ls tv) (Jme S Gs ls cs tv) rn
noncomputable def Jp4 (S : Riv) (wt : Int) (rn : List Int) : Int:=if S.c < wt - rn.sum + S.g then S.c else wt - rn.sum + S.g
noncomputable def TrnAt (a : Ad) (H : Hp) (p : Addr) (c r : V) (S : Riv) (Gs : List Jko) (ls cs : List Int) (wt : Int) (tv : V) (rn : List Int) : Prop:=∃ dx u lv q,H p = some (.ins a.Jjq dx (trnF c r (drw S ls tv) u lv (Jp4 S wt rn) q)) ∧ H u = some (.tup ((Jme S Gs ls cs tv).map V.int)) ∧ H lv = some (.tup ((Jn8 S Gs ls cs tv rn).map V.int)) ∧ H q = some (.tup ((Jm2 0 S.Bs (Jn8 S Gs ls cs tv rn)).map V.int))
noncomputable def Yam (K : W.Frag) (a : Ad) : Sp:=fun vs H Q _=>∃ (p dx o ra : Addr) (H0 : Hp) (S : Riv) (Gs : List Jko) (x c : V) (ls cs rn : List Int) (wt : Int) (tv : V),vs = [.ref p,.ref o,x,c,.ref ra] ∧ H0 p = none ∧ Same H0 H ∧ H p = some (.ins a.Jjq dx []) ∧ TrnIn K a H0 o S Gs x c ls cs wt tv ra rn ∧ ∀ H', Same H0 H' → TrnAt a H' p c (.ref ra) S Gs ls cs wt tv rn → Q .non H'
theorem Jox {S : Riv} {ls : List Int} {tv : V} : (lft S ls tv).length = ls.length:=by
 unfold lft;split
 ·rw [List.length_set]
 ·rfl
noncomputable def fs2 (c r : V) : List (Str × V):=[("choice",c),("rain",r)]
noncomputable def fs3 (c r : V) (d : Int) : List (Str × V):=[("choice",c),("rain",r),("drawn",.int d)]
noncomputable def fs4 (c r : V) (d : Int) : List (Str × V):=[("choice",c),("rain",r),("drawn",.int d),("paid",.bl (decide (d > 0)))]
noncomputable def fs5 (c r : V) (d : Int) (u : Addr) : List (Str × V):=[("choice",c),("rain",r),("drawn",.int d),("paid",.bl (decide (d > 0))),("outs",.ref u)]
noncomputable def fs6 (c r : V) (d : Int) (u lv : Addr) : List (Str × V):=[("choice",c),("rain",r),("drawn",.int d),("paid",.bl (decide (d > 0))),("outs",.ref u),("levels",.ref lv)]
noncomputable def fs7 (c r : V) (d : Int) (u lv : Addr) (wt : Int) : List (Str × V):=[("choice",c),("rain",r),("drawn",.int d),("paid",.bl (decide (d > 0))),("outs",.ref u),("levels",.ref lv),("wet",.int wt)]
theorem pf2 (c r : V) : Jlj "rain" r (Jlj "choice" c []) = fs2 c r:=Jl7 (show (["choice"] : List Str).contains "rain" = false by decide +kernel)
theorem pf3 (c r : V) (d : Int) : Jlj "drawn" (.int d) (fs2 c r) = fs3 c r d:=Jl7 (show (["choice","rain"] : List Str).contains "drawn" = false by decide +kernel)
theorem pf4 (c r : V) (d : Int) : Jlj "paid" (.bl (decide (0 < d))) (fs3 c r d) = fs4 c r d:=Jl7 (show (["choice","rain","drawn"] : List Str).contains "paid" = false by decide +kernel)
theorem pf5 (c r : V) (d : Int) (u : Addr) : Jlj "outs" (.ref u) (fs4 c r d) = fs5 c r d u:=Jl7 (show (["choice","rain","drawn","paid"] : List Str).contains "outs" = false by decide +kernel)
theorem pf6 (c r : V) (d : Int) (u lv : Addr) : Jlj "levels" (.ref lv) (fs5 c r d u) = fs6 c r d u lv:=Jl7 (show (["choice","rain","drawn","paid","outs"] : List Str).contains "levels" = false by decide +kernel)
theorem pf7 (c r : V) (d : Int) (u lv : Addr) (wt : Int) : Jlj "wet" (.int wt) (fs6 c r d u lv) = fs7 c r d u lv wt:=Jl7 (show (["choice","rain","drawn","paid","outs","levels"] : List Str).contains "wet" = false by decide +kernel)
theorem pf8 (c r : V) (d : Int) (u lv : Addr) (wt : Int) (q : Addr) : Jlj "broken" (.ref q) (fs7 c r d u lv wt) = trnF c r d u lv wt q:=Jl7 (show (["choice","rain","drawn","paid","outs","levels","wet"] : List Str).contains "broken" = false by decide +kernel)
section
variable {P : Program} {w : World} {K : W.Frag} {mg : Str → Option Value} {base : Heap} {a : Ad}
theorem sc_Turn___init__ : Jkb ["self","river","standing","choice","rain","left"] ["self","river","standing","choice","rain"] (Jk6 (Jk9 (top 35) 0)):=%[|0]
theorem Jtz (T : Tx K mg a) : FnOk P w K mg base CX0 5 a.Jgk a.Jgl ["self","river","standing","choice","rain"] (Yam K a):=by
 have G_draw:=%[Jww|1];have G_levels_left:=%[Jsc|1];have G_outs_at:=%[Jw1|1];have G_levels_behind:=%[Jqv|1];have G_broken_at:=%[Ju2|1];refine T.Jbs.fn.ok sc_Turn___init__ (fun vs H Q E h=>?_) (fun cdv A outer s H vs Q E hr h=>?_)
 ·obtain ⟨p,dx,o,ra,H0,S,Gs,x,c,ls,cs,rn,wt,tv,rfl,_⟩:=h;rfl
 ·obtain ⟨p,dx,o,ra,H0,S,Gs,x,c,ls,cs,rn,wt,tv,rfl,np,s0,hp,ti,k⟩:=h;refine ⟨?t,?B,?C⟩
  case B =>
   refine' Jk2 ?s1 ?r1
   case s1 =>
    exact (Jl8 (pv 0) (pv 3) rfl)
   case r1 =>
    refine' Jk2 ?s3 ?r3
    case s3 =>
     exact (Jl8 (pv 0) (pv 4) rfl)
    case r3 =>
     refine' Jk2 ?s5 ?r5
     case s5 =>
      exact (Jl8 (pv 0) (Jk5 T.Jc G_draw hr (by decide) (Jjz (pv 1) (Jjz (pv 2) (Jjz (pv 3) Jk1)))) rfl)
     case r5 =>
      refine' Jk2 ?s7 ?r7
      case s7 =>
       exact (Jl8 (pv 0) (Jlk Jsd (Jkn (pv 0) (by rfl)) Jk4 (Jkt _)) rfl)
      case r7 =>
       refine' Jk2 ?s9 ?r9
       case s9 =>
        exact (Jki (i:=5) sc_Turn___init__.nd rfl (Or.inl rfl) (Jk5 T.Je G_levels_left hr (by decide) (pa4 (pv 1) (pv 2) (pv 3) (Jkn (pv 0) (by rfl)))))
       case r9 =>
        refine' Jk2 ?s11 ?r11
        case s11 =>
         exact (Jl8 (pv 0) (Jk5 T.Jf G_outs_at hr (by decide) (Jjz (pv 1) (Jjz (Jke Jkj (pv 3) Jk4 (fun _ _=>rfl)) (Jjz (pv 5) Jk1)))) rfl)
        case r11 =>
         refine' Jk2 ?s13 ?r13
         case s13 =>
          exact (Jl8 (pv 0) (Jk5 T.Jg G_levels_behind hr (by decide) (Jjz (pv 5) (Jjz (Jkn (pv 0) (by rfl)) (Jjz (pv 4) Jk1)))) rfl)
         case r13 =>
          refine' Jk2 ?s15 ?r15
          case s15 =>
           exact (Jl8 (pv 0) (Jka (Jm0 rfl) (by rfl) T.Jas Jnt (Jjz (Jkh Jkv (Jkh Jla (Jke Jkj (pv 2) Jk4 (fun _ _=>rfl)) (Jka (Jm4 rfl) (by rfl) T.Jaw Jnc (Jjz (pv 4) Jk1))) (Jkn (pv 1) (by rfl))) (Jjz (Jkn (pv 1) (by rfl)) Jk1))) rfl)
          case r15 =>
           refine' Jk3 ?s17
           case s17 =>
            exact (Jl8 (pv 0) (Jk5 T.Jh G_broken_at hr (by decide) (Jjz (pv 1) (Jjz (Jkn (pv 0) (by rfl)) Jk1))) rfl)
  have new : ∀ {Ha : Hp} {ob : HO},Same H0 Ha → Same H0 (upd Ha p ob):=fun s b oo e=>by rw [Jk7 (Jk8 e np)]; exact s _ _ e
  refine ⟨_,rfl,_,rfl,p,_,dx,[],rfl,hp,T.Jcs,T.Jcw,by simp,?_⟩;refine ⟨_,rfl,_,rfl,p,_,dx,_,rfl,Jk0,T.Jcs,T.Jcx,by simp [Jlj],?_⟩;rw [Jm1,pf2];have h2 : Same H0 (upd H p (.ins a.Jjq dx (fs2 c (.ref ra)))):=new s0;have ti2:=ti.same h2;refine ⟨_,rfl,_,rfl,_,rfl,o,S,x,c,ls,cs,wt,tv,rfl,ti2.ro,ti2.ti,ti2.st,ti2.ch,fun H3 s3=>?_⟩;have p3:=s3 _ _ (Jk0 (H:=H) (a:=p) (o:=.ins a.Jjq dx (fs2 c (.ref ra))));have h3:=h2.trans s3;refine ⟨_,rfl,p,_,dx,_,rfl,p3,T.Jcs,T.Jcy,by simp [fs2],?_⟩;rw [pf3];refine ⟨_,rfl,p,_,dx,_,_,rfl,Jk0,T.Jcs,T.Jcy,rfl,_,_,rfl,rfl,?_⟩;refine ⟨_,rfl,p,_,dx,_,rfl,Jk0,T.Jcs,T.Jcz,by simp [fs3],?_⟩;rw [Jm1,pf4];have h4 : Same H0 (upd H3 p (.ins a.Jjq dx (fs4 c (.ref ra) (drw S ls tv)))):=new h3;have ti4:=ti.same h4;refine ⟨_,rfl,_,rfl,_,rfl,_,rfl,p,_,dx,_,_,rfl,Jk0,T.Jcs,T.Jcy,rfl,o,S,x,c,ls,cs,wt,tv,rfl,ti4.ro,ti4.ti,ti4.st,ti4.ch,fun l H5 hl0 s5 hl5=>?_⟩;have p5:=s5 _ _ (Jk0 (H:=H3) (a:=p) (o:=.ins a.Jjq dx (fs4 c (.ref ra) (drw S ls tv))));have h5:=h4.trans s5;have ti5:=ti.same h5;obtain ⟨y,yu,rfl,hy,hyu,ly⟩:=ti5.st;obtain ⟨z,v,rfl,hz,hv,lc,tw⟩:=ti5.ch;have sol:=ti.so.len;refine ⟨_,rfl,_,rfl,z,_,0,_,rfl,rfl,SqT.of hz,rfl,_,rfl,o,v,l,S,Gs,cs,lft S ls tv,rfl,ti5.ro,ti5.gx,ti5.so,ti5.ln,hv,hl5,fun u H6 s6 hu6=>?_⟩;have p6:=s6 _ _ p5;have np6 : ∀ {b : Addr} {ob : HO},H6 b = some ob → (∀ C d fs,ob ≠ .ins C d fs) → b ≠ p:=fun hb n e=>by rw [e,p6] at hb; exact n _ _ _ (Option.some.inj hb).symm
  refine ⟨_,rfl,p,_,dx,_,rfl,p6,T.Jcs,T.Jd0,by simp [fs4],?_⟩;rw [pf5];have h6 : Same H0 (upd H6 p (.ins a.Jjq dx (fs5 (.ref z) (.ref ra) (drw S ls tv) u))):=new (h5.trans s6);have ti6:=ti.same h6;have u6 : (upd H6 p (.ins a.Jjq dx (fs5 (.ref z) (.ref ra) (drw S ls tv) u))) u = some (.tup ((Jme S Gs ls cs tv).map V.int)):=by rw [Jk7 (np6 hu6 (fun _ _ _ z=>by cases z))]; exact hu6
  have l6 : (upd H6 p (.ins a.Jjq dx (fs5 (.ref z) (.ref ra) (drw S ls tv) u))) l = some (.lst ((lft S ls tv).map V.int)):=by rw [Jk7 (np6 (s6 _ _ hl5) (fun _ _ _ z=>by cases z))]; exact s6 _ _ hl5
  have n16 : S.Bs.length ≤ 16:=by obtain ⟨_,_,_,_,_,_,_,_,_,_,q,_⟩:=ti.ro; exact q
  have el : (lft S ls tv).length = S.Bs.length:=by rw [Jox]; exact ly
  have eo : (Jme S Gs ls cs tv).length = S.Bs.length:=by unfold Jme; rw [Jmh sol.1 sol.2]; exact ti.ln.symm
  have rl:=ti.rl;have n1:=ti.n1;refine ⟨_,rfl,_,rfl,p,_,dx,_,_,rfl,Jk0,T.Jcs,T.Jd0,rfl,_,rfl,l,u,ra,_,_,rn,rfl,l6,u6,ti6.hr,by omega,by omega,by omega,fun lv H7 s7 hlv7=>?_⟩;have p7:=s7 _ _ (Jk0 (H:=H6) (a:=p) (o:=.ins a.Jjq dx (fs5 (.ref z) (.ref ra) (drw S ls tv) u)));have np7 : ∀ {b : Addr} {ob : HO},H7 b = some ob → (∀ C d fs,ob ≠ .ins C d fs) → b ≠ p:=fun hb n e=>by rw [e,p7] at hb; exact n _ _ _ (Option.some.inj hb).symm
  refine ⟨_,rfl,p,_,dx,_,rfl,p7,T.Jcs,T.Jd1,by simp [fs5],?_⟩;rw [pf6];have h7 : Same H0 (upd H7 p (.ins a.Jjq dx (fs6 (.ref z) (.ref ra) (drw S ls tv) u lv))):=new (h6.trans s7);have ti7:=ti.same h7;obtain ⟨dxr,b,tt,os,ts,ho,hb,bl,ht,tl,m1,m2,m3⟩:=id ti7.ro;obtain ⟨y7,yu7,ey,hy7,hyu7,ly7⟩:=ti7.st;obtain rfl : y = y7:=V.ref.inj ey;refine ⟨_,rfl,y,_,1,_,rfl,rfl,SqT.of hy7,rfl,_,rfl,ra,rn,rfl,.inr (SqT.of ti7.hr),ti.sm,_,_,rfl,rfl,_,rfl,o,_,dxr,_,_,rfl,ho,T.Jec,T.Jeg,rfl,_,_,rfl,rfl,_,rfl,o,_,dxr,_,_,rfl,ho,T.Jec,T.Jef,rfl,_,_,rfl,?_⟩;refine ⟨_,rfl,p,_,dx,_,rfl,Jk0,T.Jcs,T.Jd2,by simp [fs6],?_⟩;rw [Jm1,pf7];have h8 : Same H0 (upd H7 p (.ins a.Jjq dx (fs7 (.ref z) (.ref ra) (drw S ls tv) u lv (Jp4 S wt rn)))):=new (h6.trans s7);have ti8:=ti.same h8;have lv8 : (upd H7 p (.ins a.Jjq dx (fs7 (.ref z) (.ref ra) (drw S ls tv) u lv (Jp4 S wt rn)))) lv = some (.tup ((Jn8 S Gs ls cs tv rn).map V.int)):=by rw [Jk7 (np7 hlv7 (fun _ _ _ z=>by cases z))]; exact hlv7
  have u8 : (upd H7 p (.ins a.Jjq dx (fs7 (.ref z) (.ref ra) (drw S ls tv) u lv (Jp4 S wt rn)))) u = some (.tup ((Jme S Gs ls cs tv).map V.int)):=by rw [Jk7 (np7 (s7 _ _ u6) (fun _ _ _ z=>by cases z))]; exact s7 _ _ u6
  have e8 : (Jn8 S Gs ls cs tv rn).length = S.Bs.length:=by unfold Jn8; rw [Jnj (by omega) (by omega)]; exact el
  refine ⟨_,rfl,_,rfl,p,_,dx,_,_,rfl,Jk0,T.Jcs,T.Jd1,rfl,o,lv,S,_,rfl,ti8.ro,lv8,e8,fun q H9 s9 hq9=>?_⟩;have p9:=s9 _ _ (Jk0 (H:=H7) (a:=p) (o:=.ins a.Jjq dx (fs7 (.ref z) (.ref ra) (drw S ls tv) u lv (Jp4 S wt rn))));have np9 : ∀ {b : Addr} {ob : HO},H9 b = some ob → (∀ C d fs,ob ≠ .ins C d fs) → b ≠ p:=fun hb n e=>by rw [e,p9] at hb; exact n _ _ _ (Option.some.inj hb).symm
  refine ⟨_,rfl,p,_,dx,_,rfl,p9,T.Jcs,T.Jd3,by simp [fs7],?_⟩;rw [pf8];have keep : ∀ {b : Addr} {ob ox : HO},H9 b = some ob → (∀ C d fs,ob ≠ .ins C d fs) → upd H9 p ox b = some ob:=fun hb n=>by rw [Jk7 (np9 hb n)]; exact hb
  exact k _ (new (h8.trans s9)) ⟨dx,u,lv,q,Jk0,keep (s9 _ _ u8) (fun _ _ _ z=>by cases z),keep (s9 _ _ lv8) (fun _ _ _ z=>by cases z),keep hq9 (fun _ _ _ z=>by cases z)⟩
end
theorem Y2 : ∀ {vs : List V} {ls hs : List Int},vs.length = ls.length → ls.length = hs.length → (wl vs ls hs).all id = true → ∃ ns : List Int,vs = ns.map V.int ∧ ns.length = ls.length ∧ ∀ (i : Nat) (n l h : Int),ns[i]? = some n → ls[i]? = some l → hs[i]? = some h → l ≤ n ∧ n ≤ h
 | [],[],_,_,_,_=>⟨[],rfl,rfl,fun i n l h e=>by simp at e⟩
 | [],_ :: _,_,e,_,_=>by simp at e
 | _ :: _,[],_,e,_,_=>by simp at e
 | _ :: _,_ :: _,[],_,e,_=>by simp at e
 | v :: vs,l :: ls,h :: hs,e1,e2,a=>by
  have a' : (Jkl v l h && (wl vs ls hs).all id) = true:=a;rw [Bool.and_eq_true] at a';obtain ⟨ns,rfl,ln,q⟩:=Y2 (vs:=vs) (ls:=ls) (hs:=hs) (by simpa using e1) (by simpa using e2) a'.2;obtain ⟨i,rfl⟩:=Jns a'.1;have h2 : (decide (l ≤ i) && decide (i ≤ h)) = true:=a'.1;have h3 : l ≤ i ∧ i ≤ h:=by simpa using h2
  refine ⟨i :: ns,rfl,by simp [ln],fun j n l' h' q1 q2 q3=>?_⟩;cases j with
  | zero=>cases q1; cases q2; cases q3; exact h3
  | succ j=>exact q j n l' h' (by simpa using q1) (by simpa using q2) (by simpa using q3)
theorem Jue {r : Option (List V)} {ls hs : List Int} (e : ls.length = hs.length) (h : Jn5 r ls hs = true) : ∃ ns : List Int,r = some (ns.map V.int) ∧ ns.length = ls.length ∧ ∀ (i : Nat) (n l h : Int),ns[i]? = some n → ls[i]? = some l → hs[i]? = some h → l ≤ n ∧ n ≤ h:=by
 cases r with
 | none=>cases h
 | some vs =>
  have h' : (decide (vs.length = ls.length) && (wl vs ls hs).all id) = true:=h;rw [Bool.and_eq_true,decide_eq_true_eq] at h';obtain ⟨ns,rfl,q⟩:=Y2 h'.1 e h'.2;exact ⟨ns,rfl,q⟩
structure RvX (K : W.Frag) (a : Ad) (H : Hp) (o : Addr) (S : Riv) (Gs : List Jko) : Prop where
 ro : RivAt K a H o S
 gx : GXL a H (S.Bs.map (·.g)) Gs
 ln : S.Bs.length = Gs.length
 ti : TIn S
 n1 : 1 ≤ S.Bs.length
 ok : ∀ (i : Nat) (B : Bsn) (G : Jko),S.Bs[i]? = some B → Gs[i]? = some G → GGood G ∧ B.n = nOf G ∧ 0 ≤ B.lo ∧ B.hi ≤ 12
theorem RvX.same {K : W.Frag} {a : Ad} {H H' : Hp} {o : Addr} {S : Riv} {Gs : List Jko} (s : Same H H') (h : RvX K a H o S Gs) : RvX K a H' o S Gs:=⟨h.ro.same s,h.gx.same s,h.ln,h.ti,h.n1,h.ok⟩
theorem RvX.n16 {K : W.Frag} {a : Ad} {H : Hp} {o : Addr} {S : Riv} {Gs : List Jko} (h : RvX K a H o S Gs) : S.Bs.length ≤ 16:=by
 obtain ⟨_,_,_,_,_,_,_,_,_,_,q,_⟩:=h.ro;exact q
noncomputable def LvIn (S : Riv) (ls : List Int) : Prop:=∀ (i : Nat) (n : Int) (B : Bsn),ls[i]? = some n → S.Bs[i]? = some B → B.lo ≤ n ∧ n ≤ B.hi
noncomputable def CsIn (S : Riv) (cs : List Int) : Prop:=∀ (i : Nat) (n : Int) (B : Bsn),cs[i]? = some n → S.Bs[i]? = some B → 0 ≤ n ∧ n ≤ (B.n : Int) - 1
theorem st_is {K : W.Frag} {H : Hp} {x : V} {S : Riv} {q : Pr} (h : stB S q = true) (p : PrT K H x q) : ∃ (ls : List Int) (wt : Int),StA H x S ls wt ∧ LvIn S ls ∧ (0 ≤ wt ∧ wt ≤ S.c) ∧ Jsq q = wt:=by
 cases q with
 | no=>cases h
 | oth=>cases h
 | two u w r =>
  have h' : (Jkl w 0 S.c && Jn5 r (S.Bs.map (·.lo)) (S.Bs.map (·.hi))) = true:=h;rw [Bool.and_eq_true] at h';obtain ⟨wt,rfl⟩:=Jns h'.1;have h2 : (decide (0 ≤ wt) && decide (wt ≤ S.c)) = true:=h'.1;obtain ⟨ls,rfl,ln,b⟩:=Jue (by simp) h'.2;obtain ⟨y,rfl,hy,⟨uu,rfl,hu,_,_⟩,_⟩:=p;refine ⟨ls,wt,⟨y,uu,rfl,hy,hu,by simpa using ln⟩,fun i n B e1 e2=>b i n B.lo B.hi e1 (by simp [e2]) (by simp [e2]),by simpa using h2,rfl⟩
theorem ch_is {K : W.Frag} {H : Hp} {x : V} {S : Riv} {q : Pr} (h : chB S q = true) (p : PrT K H x q) : ∃ (cs : List Int) (tv : V),ChA H x S cs tv ∧ CsIn S cs:=by
 cases q with
 | no=>cases h
 | oth=>cases h
 | two u w r =>
  have h' : (Jqa S.Ts.length w && Jn5 r (List.replicate S.Bs.length 0) (S.Bs.map fun B=>(B.n : Int) - 1)) = true:=h;rw [Bool.and_eq_true] at h';obtain ⟨cs,rfl,ln,b⟩:=Jue (by simp) h'.2;obtain ⟨y,rfl,hy,⟨uu,rfl,hu,_,_⟩,tw⟩:=p;have ln' : cs.length = S.Bs.length:=by simpa using ln
  refine ⟨cs,w,⟨y,uu,rfl,hy,hu,ln', ?_⟩,fun i n B e1 e2=>b i n 0 ((B.n : Int) - 1) e1 ?_ (by simp [e2])⟩
  ·by_cases hw : w = .non
   ·exact .inl hw
   ·have e : Jqa S.Ts.length w = Jkl w 0 ((S.Ts.length : Int) - 1):=by cases w <;> first | rfl | exact absurd rfl hw
    rw [e] at h';obtain ⟨j,rfl⟩:=Jns h'.1;have h2 : (decide (0 ≤ j) && decide (j ≤ (S.Ts.length : Int) - 1)) = true:=h'.1;have h3 : 0 ≤ j ∧ j ≤ (S.Ts.length : Int) - 1:=by simpa using h2
    exact .inr ⟨j,rfl,h3.1,by omega⟩
  ·have hi : i < S.Bs.length:=(List.getElem?_eq_some_iff.mp e2).1;simp [List.getElem?_replicate,hi]
theorem rn_is {K : W.Frag} {a : Ad} {H : Hp} {x : V} {o : Addr} {S : Riv} {wet : Int} {r : Option (List V)} (ro : RivAt K a H o S) (h : rnB S wet r = true) (p : RowT K H x r) : ∃ (ra : Addr) (rn : List Int),x = .ref ra ∧ H ra = some (.tup (rn.map V.int)) ∧ rn.length = S.Bs.length ∧ Sml rn:=by
 obtain ⟨dx,b,t,os,ts,ho,hb,bl,ht,tl,n1,n2,n3⟩:=ro;cases r with
 | none=>cases h
 | some vs =>
  have h' : (Jn5 (some vs) (List.replicate S.Bs.length 0) (S.Bs.map (·.rn)) && (decide (Jnw S wet ≤ Jum vs) && decide (Jum vs ≤ wet))) = true:=h;rw [Bool.and_eq_true] at h';obtain ⟨ns,e,ln,q⟩:=Jue (by simp) h'.1;cases e;obtain ⟨_,ms,e', em,sm⟩:=Jvc h'.1 n1 n3;cases e';have e2 : ns = ms:=by
   have:=congrArg (List.map Jr4) em;simpa [List.map_map,Function.comp_def,Jr4] using this
  subst e2;obtain ⟨ra,rfl,hr,_,_⟩:=p;exact ⟨ra,ns,rfl,hr,by simpa using ln,sm⟩
theorem SetsOk.of : ∀ {Gs : List Jko} {cs ls : List Int},Gs.length = cs.length → cs.length = ls.length → (∀ (i : Nat) (G : Jko) (c l : Int),Gs[i]? = some G → cs[i]? = some c → ls[i]? = some l → GGood G ∧ (0 ≤ c ∧ c < (nOf G : Int)) ∧ (0 ≤ l ∧ l ≤ 1000)) → SetsOk Gs cs ls
 | [],[],[],_,_,_=>True.intro
 | G :: Gs,c :: cs,l :: ls,e1,e2,h=>⟨h 0 G c l rfl rfl rfl,SetsOk.of (by simpa using e1) (by simpa using e2) fun i G c l q1 q2 q3=>h (i + 1) G c l (by simpa using q1) (by simpa using q2) (by simpa using q3)⟩
 | [],_ :: _,_,e,_,_=>by simp at e
 | _ :: _,[],_,e,_,_=>by simp at e
 | [],[],_ :: _,_,e,_=>by simp at e
 | _ :: _,_ :: _,[],_,e,_=>by simp at e
theorem Jvr {S : Riv} {ls : List Int} {tv : V} (ti : TIn S) : 0 ≤ drw S ls tv ∧ (drw S ls tv > 0 → drw S ls tv ≤ ls.getD (Jsi S tv) 0):=by
 cases tv with
 | int t =>
  show 0 ≤ (match S.Ts[t.toNat]? with | some T=>if ls.getD (plc S T.b) 0 ≥ T.wt then T.wt else 0 | none=>0) ∧ ((match S.Ts[t.toNat]? with | some T=>if ls.getD (plc S T.b) 0 ≥ T.wt then T.wt else 0 | none=>0) > 0 → (match S.Ts[t.toNat]? with | some T=>if ls.getD (plc S T.b) 0 ≥ T.wt then T.wt else 0 | none=>0) ≤ ls.getD (match S.Ts[t.toNat]? with | some T=>plc S T.b | none=>0) 0);cases e : S.Ts[t.toNat]? with
  | none=>simp
  | some T =>
   have:=ti T (List.mem_of_getElem? e);dsimp only;split <;> omega
 | _=>exact ⟨Int.le_refl 0,fun h=>absurd (show (0 : Int) > 0 from h) (by decide)⟩
theorem Jyx {S : Riv} {ls : List Int} {tv : V} (ti : TIn S) (h0 : ∀ n ∈ ls,0 ≤ n ∧ n ≤ 12) : ∀ n ∈ lft S ls tv,0 ≤ n ∧ n ≤ 12:=by
 have d:=Jvr (ls:=ls) (tv:=tv) ti;unfold lft;split
 ·rename_i hd
  intro n hn;rcases List.mem_or_eq_of_mem_set hn with h | h
  ·exact h0 n h
  ·by_cases hp : Jsi S tv < ls.length
   ·have e : ls.getD (Jsi S tv) 0 = ls[Jsi S tv]:=by simp [List.getD_eq_getElem?_getD,hp]
    have:=h0 _ (List.getElem_mem hp);rw [e] at h d;have:=d.2 hd;omega
   ·have e : ls.getD (Jsi S tv) 0 = 0:=by simp [List.getD_eq_getElem?_getD,hp]
    rw [e] at d;have:=d.2 hd;omega
 ·exact h0
theorem RvX.sets {K : W.Frag} {a : Ad} {H : Hp} {o : Addr} {S : Riv} {Gs : List Jko} {ls cs : List Int} {tv : V} (h : RvX K a H o S Gs) (l1 : ls.length = S.Bs.length) (l2 : cs.length = S.Bs.length) (hl : LvIn S ls) (hc : CsIn S cs) : SetsOk Gs cs (lft S ls tv):=by
 have ln:=h.ln;have all : ∀ n ∈ ls,0 ≤ n ∧ n ≤ 12:=fun n hn=>by
  obtain ⟨i,hi⟩:=List.getElem?_of_mem hn;have hi' : i < ls.length:=(List.getElem?_eq_some_iff.mp hi).1;have b:=hl i n S.Bs[i] hi (List.getElem?_eq_getElem (by omega));have k:=h.ok i S.Bs[i] (Gs[i]'(by omega)) (List.getElem?_eq_getElem (by omega)) (List.getElem?_eq_getElem (by omega));omega
 refine .of (by omega) (by rw [Jox]; omega) fun i G c l q1 q2 q3=>?_;have hi : i < Gs.length:=(List.getElem?_eq_some_iff.mp q1).1;have k:=h.ok i S.Bs[i] G (List.getElem?_eq_getElem (by omega)) q1;have b:=hc i c S.Bs[i] q2 (List.getElem?_eq_getElem (by omega));have f:=Jyx (tv:=tv) h.ti all l (List.mem_of_getElem? q3);exact ⟨k.1,by rw [← k.2.1]; omega,by omega⟩
noncomputable def Juq (a : Ad) (S : Riv) (H : Hp) (x c : V) (q r : Pr) (E : XK) (k : Prop) : Prop:=if stB S q = true then (if chB S r = true then k else ∀ cl eo H', RfC a.Jjn H H' c cl eo → E cl eo H') else ∀ cl eo H', RfC a.Jjm H H' x cl eo → E cl eo H'
noncomputable def spRefu (K : W.Frag) (a : Ad) : Sp:=fun vs H Q E=>∃ (o : Addr) (S : Riv) (x c : V) (q r : Pr),vs = [.ref o,x,c] ∧ RivAt K a H o S ∧ PrT K H x q ∧ PrT K H c r ∧ Juq a S H x c q r E (∀ H', Same H H' → Q .non H')
noncomputable def spPaid (K : W.Frag) (a : Ad) : Sp:=fun vs H Q E=>∃ (o : Addr) (S : Riv) (Gs : List Jko) (x c : V) (q r : Pr),vs = [.ref o,x,c] ∧ RvX K a H o S Gs ∧ PrT K H x q ∧ PrT K H c r ∧ Juq a S H x c q r E (∀ ls cs wt tv H', StA H x S ls wt → ChA H c S cs tv → Same H H' → Q (.bl (decide (drw S ls tv > 0))) H')
noncomputable def Jzo (K : W.Frag) (a : Ad) : Sp:=fun vs H Q E=>∃ (o : Addr) (S : Riv) (Gs : List Jko) (x c y : V) (q r : Pr) (rr : Option (List V)),vs = [.ref o,x,c,y] ∧ RvX K a H o S Gs ∧ PrT K H x q ∧ PrT K H c r ∧ RowT K H y rr ∧ Juq a S H x c q r E (if rnB S (Jsq q) rr = true then ∀ ls cs rn wt tv ra p H', StA H x S ls wt → ChA H c S cs tv → y = .ref ra → H ra = some (.tup (rn.map V.int)) → Same H H' → TrnAt a H' p c y S Gs ls cs wt tv rn → Q (.ref p) H' else ∀ cl eo H', RfC a.Jjo H H' y cl eo → E cl eo H')
section
variable {P : Program} {w : World} {K : W.Frag} {mg : Str → Option Value} {base : Heap} {a : Ad}
theorem Jop : Jkb ["self","thing"] ["self","thing"] (Jk6 (Jk9 (top 10) 0)):=%[|0]
theorem Jqp (T : Tx K mg a) : FnOk P w K mg base CX0 1 a.Jfe a.Jff ["self","thing"] (Jmn K "thing"):=by
 refine T.Jbp.fn.ok Jop (fun vs H Q E h=>?_) (fun cdv A outer s H vs Q E hr h=>?_)
 ·obtain ⟨e,C,W,fI,y,rfl,_⟩:=h;rfl
 ·obtain ⟨e,C,W,fI,y,rfl,q,c,n,k⟩:=h;refine ⟨_,(Jk3 (Jmm (pv 0) (pv 1) rfl)),?_⟩;exact ⟨_,rfl,_,rfl,e,C,W,fI,true,rfl,q,c,n,k⟩
theorem Jpk : Jkb ["self","thing"] ["self","thing"] (Jk6 (Jk9 (top 11) 0)):=%[|0]
theorem Js7 (T : Tx K mg a) : FnOk P w K mg base CX0 1 a.Jfg a.Jfh ["self","thing"] (Jmn K "thing"):=by
 refine T.Jbq.fn.ok Jpk (fun vs H Q E h=>?_) (fun cdv A outer s H vs Q E hr h=>?_)
 ·obtain ⟨e,C,W,fI,y,rfl,_⟩:=h;rfl
 ·obtain ⟨e,C,W,fI,y,rfl,q,c,n,k⟩:=h;refine ⟨_,(Jk3 (Jmm (pv 0) (pv 1) rfl)),?_⟩;exact ⟨_,rfl,_,rfl,e,C,W,fI,true,rfl,q,c,n,k⟩
theorem Jp3 : Jkb ["river","standing","choice"] ["river","standing","choice"] (Jk6 (top 27)):=%[|0]
theorem Jmt (T : Tx K mg a) : FnOk P w K mg base (CXX P w) 5 a.Jg4 a.Jg5 ["river","standing","choice"] (spRefu K a):=by
 have G_is_standing:=%[Jn1|1];have G_is_choice:=%[Ju3|1];have G_NoStanding___init__:=%[Jn0|1];have G_NoChoice___init__:=%[Jqp|1];refine T.Ja.fn.okX Jp3 (fun vs H Q E h=>?_) (fun cdv A outer s H vs Q E hr h=>?_)
 ·obtain ⟨o,S,x,c,q,r,rfl,_⟩:=h;rfl
 ·obtain ⟨o,S,x,c,q,r,rfl,ro,px,pc,k⟩:=h;refine ⟨?t,?B,?C⟩
  case B =>
   refine' Jk2 ?s1 ?r1
   case s1 =>
    refine' Jks ?c2 ?a2 ?b2
    case c2 =>
     exact (Jkp (Jkq (Jk5 T.J6 G_is_standing hr (by decide) (Jjz (pv 0) (Jjz (pv 1) Jk1)))))
    case a2 =>
     refine' Jk3 ?s3
     case s3 =>
      exact (Jl4 Jl5 rfl (Jlr T.Jcl G_NoStanding___init__ hr (by decide) T.Jbo.bd T.Jb5 (Jjz (pv 1) Jk1)))
    case b2 =>
     exact Jkg
   case r1 =>
    refine' Jk3 ?s6
    case s6 =>
     refine' Jks ?c7 ?a7 ?b7
     case c7 =>
      exact (Jkp (Jkq (Jk5 T.J7 G_is_choice hr (by decide) (Jjz (pv 0) (Jjz (pv 2) Jk1)))))
     case a7 =>
      refine' Jk3 ?s8
      case s8 =>
       exact (Jl4 Jl5 rfl (Jlr T.Jcn G_NoChoice___init__ hr (by decide) T.Jbp.bd T.Jb6 (Jjz (pv 2) Jk1)))
     case b7 =>
      exact Jkg
  unfold Juq at k;refine ⟨_,rfl,_,rfl,o,S,x,q,rfl,ro,px,fun H1 s1=>⟨_,rfl,?_⟩⟩;cases es : stB S q with
  | false =>
   rw [es] at k;exact Jlc (Jll T.Jcl T.Jcm rfl fun e dx h1 h2 h3=>k _ _ _ ((RfC.new h1 h2 h3).of s1))
  | true =>
   rw [if_pos es] at k;refine Jl1 ⟨_,rfl,_,rfl,o,S,c,r,rfl,ro.same s1,pc.same s1,fun H2 s2=>⟨_,rfl,?_⟩⟩;have s12:=s1.trans s2;cases ec : chB S r with
   | false =>
    rw [ec] at k;exact Jlc (Jll T.Jcn T.Jco rfl fun e dx h1 h2 h3=>k _ _ _ ((RfC.new h1 h2 h3).of s12))
   | true =>
    rw [if_pos ec] at k;exact Jl1 (k _ s12)
theorem Jwc : Jkb ["river","standing","choice"] ["river","standing","choice"] (Jk6 (top 30)):=%[|0]
theorem Jw2 (T : Tx K mg a) : FnOk P w K mg base (CXX P w) 6 a.Jga a.Jgb ["river","standing","choice"] (spPaid K a):=by
 have G_refuse_no_choice:=%[Jmt|1];have G_draw:=%[Jww|1];refine T.Jd.fn.okX Jwc (fun vs H Q E h=>?_) (fun cdv A outer s H vs Q E hr h=>?_)
 ·obtain ⟨o,S,Gs,x,c,q,r,rfl,_⟩:=h;rfl
 ·obtain ⟨o,S,Gs,x,c,q,r,rfl,rv,px,pc,k⟩:=h;refine ⟨?t,?B,?C⟩
  case B =>
   refine' Jk2 ?s1 ?r1
   case s1 =>
    exact (Jml (Jm5 T.Ja G_refuse_no_choice Jl5 hr (by decide) (Jjz (pv 0) (Jjz (pv 1) (Jjz (pv 2) Jk1)))))
   case r1 =>
    refine' Jk3 ?s3
    case s3 =>
     exact (Jkd (Jlk Jsd (Jk5 T.Jc G_draw hr (by decide) (Jjz (pv 0) (Jjz (pv 1) (Jjz (pv 2) Jk1)))) Jk4 (Jkt _)))
  refine ⟨_,rfl,_,rfl,_,rfl,o,S,x,c,q,r,rfl,rv.ro,px,pc,?_⟩;unfold Juq at k ⊢;cases es : stB S q with
  | false =>
   rw [es] at k;exact k
  | true =>
   rw [if_pos es] at k;rw [if_pos rfl];cases ec : chB S r with
   | false =>
    rw [ec] at k;exact k
   | true =>
    rw [if_pos ec] at k;rw [if_pos rfl];intro H1 s1;obtain ⟨ls,wt,sa,_,_,_⟩:=st_is es px;obtain ⟨cs,tv,ca,_⟩:=ch_is ec pc;refine ⟨_,rfl,_,rfl,_,rfl,o,S,x,c,ls,cs,wt,tv,rfl,rv.ro.same s1,rv.ti,sa.same s1,ca.same s1,fun H2 s2=>⟨_,_,rfl,rfl,?_⟩⟩;exact k ls cs wt tv _ sa ca (s1.trans s2)
theorem Jxx : Jkb ["river","standing","choice","rain"] ["river","standing","choice","rain"] (Jk6 (top 36)):=%[|0]
theorem Jxq (T : Tx K mg a) : FnOk P w K mg base (CXX P w) 7 a.Jgo a.Jgp ["river","standing","choice","rain"] (Jzo K a):=by
 have G_refuse_no_choice:=%[Jmt|1];have G_is_rain:=%[Jw0|1];have G_NoRain___init__:=%[Js7|1];have G_Turn___init__:=%[Jtz|1];refine T.Ji.fn.okX Jxx (fun vs H Q E h=>?_) (fun cdv A outer s H vs Q E hr h=>?_)
 ·obtain ⟨o,S,Gs,x,c,y,q,r,rr,rfl,_⟩:=h;rfl
 ·obtain ⟨o,S,Gs,x,c,y,q,r,rr,rfl,rv,px,pc,py,k⟩:=h;refine ⟨?t,?B,?C⟩
  case B =>
   refine' Jk2 ?s1 ?r1
   case s1 =>
    exact (Jml (Jm5 T.Ja G_refuse_no_choice Jl5 hr (by decide) (Jjz (pv 0) (Jjz (pv 1) (Jjz (pv 2) Jk1)))))
   case r1 =>
    refine' Jk2 ?s3 ?r3
    case s3 =>
     refine' Jks ?c4 ?a4 ?b4
     case c4 =>
      exact (Jkp (Jkq (Jm5 T.J9 G_is_rain Jl5 hr (by decide) (Jjz (pv 0) (Jjz (pv 1) (Jjz (pv 3) Jk1))))))
     case a4 =>
      refine' Jk3 ?s5
      case s5 =>
       exact (Jl4 Jl5 rfl (Jlr T.Jcp G_NoRain___init__ hr (by decide) T.Jbq.bd T.Jb7 (Jjz (pv 3) Jk1)))
     case b4 =>
      exact Jkg
    case r3 =>
     refine' Jk3 ?s8
     case s8 =>
      refine' Jkd ?e10_0
      case e10_0 =>
       exact (Jn9 T.Jcu G_Turn___init__ (hr.mono (by decide)) (by rfl) T.Jb9 T.Jbs.bd .nil Jnq (pa4 (pv 0) (pv 1) (pv 2) (pv 3)))
  refine ⟨_,rfl,_,rfl,_,rfl,o,S,x,c,q,r,rfl,rv.ro,px,pc,?_⟩;unfold Juq at k ⊢;cases es : stB S q with
  | false =>
   rw [es] at k;exact k
  | true =>
   rw [if_pos es] at k;rw [if_pos rfl];cases ec : chB S r with
   | false =>
    rw [ec] at k;exact k
   | true =>
    rw [if_pos ec] at k;rw [if_pos rfl];intro H1 s1;refine ⟨_,rfl,_,rfl,_,rfl,o,S,x,q,y,rr,rfl,rv.ro.same s1,px.same s1,py.same s1,?_⟩;rw [if_pos es];intro H2 s2;have s12:=s1.trans s2;refine ⟨_,rfl,?_⟩;cases er : rnB S (Jsq q) rr with
    | false =>
     rw [er] at k;exact Jlc (Jll T.Jcp T.Jcq rfl fun e dx h1 h2 h3=>k _ _ _ ((RfC.new h1 h2 h3).of s12))
    | true =>
     rw [if_pos er] at k;obtain ⟨ls,wt,sa,lvi,_,_⟩:=st_is es px;obtain ⟨cs,tv,ca,csi⟩:=ch_is ec pc;obtain ⟨ra,rn,rfl,hra,rl,sm⟩:=rn_is rv.ro er py;refine Jl1 ⟨_,rfl,_,rfl,_,rfl,_,rfl,fun p dx hp hd ne=>?_⟩;have sn : Same H2 (upd (upd H2 dx (.own p)) p (.ins a.Jjq dx [])):=fun b ob e=>by rw [Jk7 (Jk8 e hp),Jk7 (Jk8 e hd)]; exact e
     have la : ls.length = S.Bs.length:=by obtain ⟨_,_,_,_,_,z⟩:=sa; exact z
     have lc : cs.length = S.Bs.length:=by obtain ⟨_,_,_,_,_,z,_⟩:=ca; exact z
     have rv2:=rv.same s12;refine ⟨p,dx,o,ra,H2,S,Gs,x,c,ls,cs,rn,wt,tv,rfl,hp,sn,Jk0,⟨rv2.ro,rv2.ti,rv2.gx,rv2.ln,sa.same s12,ca.same s12,s12 _ _ hra,rl,sm,rv2.sets la lc lvi csi,rv2.n1⟩,fun H3 s3 ta=>⟨rfl,?_⟩⟩;exact k ls cs rn wt tv ra p H3 sa ca rfl hra (s12.trans s3) ta
end
section
variable {P : Program} {w : World} {K : W.Frag} {mg : Str → Option Value} {base : Heap} {a : Ad}
noncomputable def LL (H H' : Hp) : Prop:=∀ b o,H b = some o → H' b = some o ∨ ((∃ xs,o = .lst xs) ∧ ∃ ys,H' b = some (.lst ys))
theorem LL.but {p : Addr} {H H' : Hp} (st : Strm H p) (b : But p H H') : LL H H':=fun c o e=>by
 by_cases z : c = p
 ·subst z;obtain ⟨x,y,w', q⟩:=st;obtain ⟨x', y', w'', q'⟩:=b.2;rw [q] at e;exact .inr ⟨⟨_,(Option.some.inj e).symm⟩,_,q'⟩
 ·exact .inl (b.1 c o z e)
theorem LL.get {H H' : Hp} (s : LL H H') {b : Addr} {o : HO} (n : ∀ xs,o ≠ .lst xs) (e : H b = some o) : H' b = some o:=by
 rcases s b o e with h | ⟨⟨xs,w'⟩,_⟩
 ·exact h
 ·exact absurd w' (n xs)
end
section
variable {P : Program} {w : World} {K : W.Frag} {mg : Str → Option Value} {base : Heap} {a : Ad}
theorem Jrq {p : Addr} {H H' : Hp} (st : Strm H p) (b : But p H H') {c : Addr} {o : HO} (g : H c = some o) (n : ∀ x y z : Int,o ≠ .lst [.int x,.int y,.int z]) : H' c = some o:=b.1 _ _ (Jmk st g n) g
end
theorem GS.ll {K : W.Frag} {a : Ad} {H H' : Hp} {x : V} {n : Nat} (s : LL H H') (h : GS K a H x n) : GS K a H' x n:=by
 cases h with
 | plain i g l =>
  obtain ⟨dx,t,h1,h2⟩:=g;exact .plain i ⟨dx,t,s.get (by intro _ z; cases z) h1,s.get (by intro _ z; cases z) h2⟩ l
 | stuck e=>exact .stuck (s.get (by intro _ z; cases z) e)
theorem BasAt.ll {K : W.Frag} {a : Ad} {H H' : Hp} {b : Addr} {B : Bsn} (s : LL H H') (h : BasAt K a H b B) : BasAt K a H' b B:=by
 obtain ⟨dx,h1,h2⟩:=h;exact ⟨dx,s.get (by intro _ z; cases z) h1,h2.ll s⟩
theorem TwnAt.ll {a : Ad} {H H' : Hp} {b : Addr} {B : Twn} (s : LL H H') (h : TwnAt a H b B) : TwnAt a H' b B:=by
 obtain ⟨dx,h1⟩:=h;exact ⟨dx,s.get (by intro _ z; cases z) h1⟩
theorem RivAt.ll {K : W.Frag} {a : Ad} {H H' : Hp} {o : Addr} {R : Riv} (s : LL H H') (h : RivAt K a H o R) : RivAt K a H' o R:=by
 obtain ⟨dx,b,t,os,ts,h1,h2,h3,h4,h5,h6⟩:=h;exact ⟨dx,b,t,os,ts,s.get (by intro _ z; cases z) h1,s.get (by intro _ z; cases z) h2,h3.map fun _ _ h=>h.ll s,s.get (by intro _ z; cases z) h4,h5.map fun _ _ h=>h.ll s,h6⟩
theorem Joc {α : Type} {R : Jl2} {S : Riv} (h : Jqe R S) (f : Str × Int × Int × Int × Int × Nat → α) : S.Bs.map (fun B=>f (Jpp B)) = R.Bs.map (fun B=>f (Jt8 B)):=by
 have e1 : S.Bs.map (fun B=>f (Jpp B)) = (S.Bs.map Jpp).map f:=by rw [List.map_map]; rfl
 have e2 : R.Bs.map (fun B=>f (Jt8 B)) = (R.Bs.map Jt8).map f:=by rw [List.map_map]; rfl
 rw [e1,e2,h.Bs]
theorem Job {R : Jl2} {S : Riv} (h : Jqe R S) : S.Bs.length = R.Bs.length:=by
 have:=congrArg List.length h.Bs;simpa using this
theorem Jqn {R : Jl2} {S : Riv} (h : Jqe R S) : S.Ts.length = R.Ts.length:=by
 have:=congrArg List.length h.Ts;simpa using this
noncomputable def Yac : Sp:=fun vs H Q _=>∃ (p : Addr) (x : V) (G : Jko) (s lv : Int),vs = [x,.int s,.int lv] ∧ GTAt p H x G ∧ GGood G ∧ (0 ≤ s ∧ s < (nOf G : Int)) ∧ (0 ≤ lv ∧ lv ≤ 1000) ∧ ∀ H', Same H H' → Q (.int (lvG G s lv)) H'
noncomputable def Yae : Sp:=fun vs H Q _=>∃ (p : Addr) (td : V) (R : Jl2) (S : Riv) (L : Addr) (ls : List Int) (tv : V),vs = [td,.ref L,tv] ∧ RTAt p H td R ∧ Jmd R ∧ Jqe R S ∧ H L = some (.lst (ls.map V.int)) ∧ ls.length = R.Bs.length ∧ TwnV R tv ∧ ∀ H', Same H H' → Q (.bl (decide (drw S ls tv > 0))) H'
section
variable {P : Program} {w : World} {K : W.Frag} {mg : Str → Option Value} {base : Heap} {a : Ad}
theorem sc_law_lets : Jkb ["_law_gate_here","_law_setting","_law_level","_law_kind","_law_marks","_law_stuck","_law_mark"] ["_law_gate_here","_law_setting","_law_level"] (Jk6 (top 79)):=%[|0]
theorem Jv5 (T : Tx K mg a) : FnOk P w K mg base CX0 1 a.Jiu a.Jiv ["_law_gate_here","_law_setting","_law_level"] Yac:=by
 refine T.Ja4.fn.ok sc_law_lets (fun vs H Q E h=>?_) (fun cdv A outer s H vs Q E hr h=>?_)
 ·obtain ⟨p,x,G,s,lv,rfl,_⟩:=h;rfl
 ·obtain ⟨p,x,G,s,lv,rfl,⟨t,m,rfl,ht,hm,_⟩,gg,hs,hl,k⟩:=h;refine ⟨?t,?B,?C⟩
  case B =>
   refine' Jk2 ?s1 ?r1
   case s1 =>
    exact (Jng (pv 0) (Jom rfl (Jkf (Jkc (i:=3) sc_law_lets.nd rfl (Or.inl rfl)) (Jkf (Jkc (i:=4) sc_law_lets.nd rfl (Or.inl rfl)) (Jkf (Jkc (i:=5) sc_law_lets.nd rfl (Or.inl rfl)) Jls)))))
   case r1 =>
    refine' Jk2 ?s4 ?r4
    case s4 =>
     exact (Jki (i:=6) sc_law_lets.nd rfl (Or.inl rfl) (Jke Jky (pv 4) (Jke Jky (Jnf (Jjz (pv 1) (Jjz (pv 5) Jk1))) (Jkr Jnl (by rfl) T.Jan Jqj (Jjz (Jlk Ju8 (pv 5) Jnz (Jkt _)) Jk1)) (fun _ _=>rfl)) (fun _ _=>rfl)))
    case r4 =>
     refine' Jk2 ?s6 ?r6
     case s6 =>
      refine' Jks ?c7 ?a7 ?b7
      case c7 =>
       exact (Jl6 Jnp (pv 3) Jn4 (Jkt _))
      case a7 =>
       refine' Jk3 ?s8
       case s8 =>
        exact (Jkd (Jka (Jm0 rfl) (by rfl) T.Jas Jnt (Jjz (pv 6) (Jjz (pv 2) Jk1))))
      case b7 =>
       exact Jkg
     case r6 =>
      refine' Jk2 ?s12 ?r12
      case s12 =>
       refine' Jks ?c13 ?a13 ?b13
       case c13 =>
        exact (Jl6 Jnp (pv 3) Jn4 (Jkt _))
       case a13 =>
        refine' Jk3 ?s14
        case s14 =>
         exact (Jkd (Jka (Jmf rfl) (by rfl) T.Jar Jpb (Jjz Jk4 (Jjz (Jkh Jla (pv 2) (pv 6)) Jk1))))
       case b13 =>
        exact Jkg
      case r12 =>
       refine' Jk3 ?s18
       case s18 =>
        exact (Jkd (Jkh Jq0 (pv 2) (pv 6)))
  refine ⟨_,rfl,t,_,rfl,SqT.of ht,rfl,_,_,rfl,_,_,rfl,_,_,rfl,rfl,?_⟩;have hk:=gg.kd;have mk:=gg.marks;obtain ⟨j,hj,ej⟩ : ∃ j : Int,(0 ≤ j ∧ j < G.ns.length) ∧ atI [V.int s,svV G.sv] (if (!decide (svV G.sv = V.non)) = true then 1 else 0) = some (.int j) ∧ lvG G s lv = Jn3 G.kd (G.ns.getD j.toNat 0) lv:=by
   unfold lvG;unfold nOf at hs;cases e : G.sv with
   | none =>
    rw [e] at hs;exact ⟨s,hs,rfl,rfl⟩
   | some j=>exact ⟨j,gg.sv j e,rfl,rfl⟩
  obtain ⟨hat,hin⟩:=Jpw hj;have hb:=mk _ hin;rw [ej.2] at k;refine ⟨_,rfl,_,rfl,_,rfl,(show 2 ≤ sizeLine by decide),fun D hD=>⟨_,rfl,rfl,.inr ⟨_,rfl,D,_,_,_,rfl,rfl,SqL.of Jk0,ej.1,m,_,_,_,rfl,rfl,SqL.of (Same.upd hD _ _ hm),hat,?_⟩⟩⟩;have k1:=k _ (Same.upd (o:=.lst [.int s,svV G.sv]) hD);rcases hk with q | q | q
  ·rw [q] at k1;refine ⟨_,rfl,rfl,_,rfl,Jvu (by rw [q]) ⟨_,rfl,_,rfl,_,_,rfl,?_⟩⟩;unfold Jn3 at k1;rw [if_pos rfl] at k1;exact k1
  ·rw [q] at k1;refine ⟨_,rfl,rfl,_,rfl,Jtx (by rw [q]; exact Jy7 Jrb) ⟨_,rfl,rfl,_,rfl,Jvu (by rw [q]) ⟨_,rfl,_,rfl,_,_,rfl,rfl,_,_,rfl,?_⟩⟩⟩;unfold Jn3 at k1;rw [if_neg Jrb,if_pos rfl] at k1;have e : (if lv - G.ns.getD j.toNat 0 > 0 then lv - G.ns.getD j.toNat 0 else 0) = (if 0 > lv - G.ns.getD j.toNat 0 then 0 else lv - G.ns.getD j.toNat 0):=by
    split <;> split <;> omega
   rw [← e] at k1;exact k1
  ·rw [q] at k1 hb;have lo : Jmg "part" = 1:=if_pos rfl;rw [lo] at hb;refine ⟨_,rfl,rfl,_,rfl,Jtx (by rw [q]; exact Jy7 Jrd) ⟨_,rfl,rfl,_,rfl,Jtx (by rw [q]; exact Jy7 Jrc) ⟨_,rfl,_,rfl,_,_,rfl,rfl,⟨by omega,Jod (by omega)⟩,?_⟩⟩⟩;unfold Jn3 at k1;rw [if_neg Jrd,if_neg Jrc] at k1;exact k1
theorem sc_law_pays : Jkb ["_law_told","_law_levels","_law_town","_law_name","_law_basin_here","_law_want"] ["_law_told","_law_levels","_law_town"] (Jk6 (top 80)):=%[|0]
theorem Jv7 (T : Tx K mg a) : FnOk P w K mg base CX0 1 a.Jiw a.Jix ["_law_told","_law_levels","_law_town"] Yae:=by
 refine T.Ja5.fn.ok sc_law_pays (fun vs H Q E h=>?_) (fun cdv A outer s H vs Q E hr h=>?_)
 ·obtain ⟨p,td,R,S,L,ls,tv,rfl,_⟩:=h;rfl
 ·obtain ⟨p,td,R,S,L,ls,tv,rfl,rt,rg,lk,hL,ln,tw,k⟩:=h;refine ⟨?t,?B,?C⟩
  case B =>
   refine' Jk2 ?s1 ?r1
   case s1 =>
    refine' Jks ?c2 ?a2 ?b2
    case c2 =>
     exact (Jl6 Jw5 (pv 2) Jnz (Jkt _))
    case a2 =>
     refine' Jk3 ?s3
     case s3 =>
      exact (Jkd Jlx)
    case b2 =>
     exact Jkg
   case r1 =>
    refine' Jk2 ?s7 ?r7
    case s7 =>
     exact (Jng (Jke Jky (Jke Jkj (pv 0) Jk4 (fun _ _=>rfl)) (pv 2) (fun _ _=>rfl)) (Jom rfl (Jkf (Jkc (i:=3) sc_law_pays.nd rfl (Or.inl rfl)) (Jkf (Jkc (i:=4) sc_law_pays.nd rfl (Or.inl rfl)) (Jkf (Jkc (i:=5) sc_law_pays.nd rfl (Or.inl rfl)) Jls)))))
    case r7 =>
     refine' Jk3 ?s10
     case s10 =>
      exact (Jkd (Jlk op_ge (Jke Jky (pv 1) (Jse F.plainAttrs_list F.slot_list_index F.type_list_index Jv1 (Jkz (N:=(["_law_one"] : List Str)) (ini:=[none]) rfl (Jlg (Jke Jkj (pv 0) Jk4 (fun _ _=>rfl))) (fun _ _ _ _ _=>(Jkc (i:=0) (by decide +kernel : (["_law_one"] : List Str).Nodup) rfl (Or.inl rfl))) (fun _ _ _ _ _=>Jkx) (fun _ _ _ _ _=>(Jke (Jmb (K:=K) rfl) (pv 0) Jk4 (fun _ _=>rfl)))) (Jjz (pv 4) Jk1)) (fun _ _=>rfl)) (pv 5) (Jkt _)))
  obtain ⟨t,lb,lt,bs,ts,rfl,ht,hb,btl,htt,ttl,nb,nt⟩:=id rt;have blen:=btl.len;have tlen:=ttl.len;have hn:=rg.n;rcases tw with rfl | ⟨j,rfl,j0,j1⟩
  ·refine ⟨_,rfl,rfl,_,rfl,Jvu rfl ?_⟩;have k1:=k _ (Same.refl H);exact k1
  ·obtain ⟨i,rfl⟩:=Int.eq_ofNat_of_zero_le j0;have hi : i < R.Ts.length:=by omega
   have hit : i < ts.length:=by omega
   obtain ⟨C,eC,tc,ec,htc⟩:=ttl.get (i:=i) (x:=ts[i]) (List.getElem?_eq_getElem hit);have hat : atI ts (i : Int) = some (.ref tc):=Jmu (by rw [List.getElem?_eq_getElem hit,ec]);have hC:=rg.Ts C (List.mem_of_getElem? eC);refine ⟨_,rfl,rfl,_,rfl,Jtx (fun z=>by cases z) ?_⟩;refine ⟨_,rfl,t,_,3,_,rfl,rfl,SqT.of ht,rfl,_,rfl,lt,_,_,_,rfl,rfl,SqL.of htt,hat,tc,_,rfl,SqT.of htc,rfl,_,_,rfl,_,_,rfl,_,_,rfl,rfl,?_⟩;refine ⟨_,rfl,_,rfl,t,_,2,_,rfl,rfl,SqT.of ht,rfl,lb,rfl,⟨_,SqL.of hb⟩,fun D hD=>?_⟩;refine Jnv ((R.Bs.map (·.z)).map V.str) hD (by simp [blen]) (by omega) hb ?_ ?_
   ·intro i x y H' Q' hx hy sm k';obtain ⟨B,eB,tb,g,rfl,htb,gt⟩:=btl.get hx;rw [List.getElem?_map,List.getElem?_map,eB] at hy;cases hy;exact ⟨_,rfl,tb,_,0,_,rfl,rfl,SqT.of (sm _ _ htb),rfl,k' _ fun _ _ h=>h⟩
   intro H1 s1 hD1;have hz : S.Bs.map (·.z) = R.Bs.map (·.z):=Joc lk (·.1);have pl : plc S C.b < ls.length:=by
    have:=Jsj (S:=S) (z:=C.b) (by rw [hz]; exact hC.2.2.1);rw [Job lk] at this;omega
   have ep : ((R.Bs.map (·.z)).idxOf C.b : Nat) = plc S C.b:=by unfold plc; rw [hz]
   refine ⟨.inl ⟨rfl,_,SqL.of hD1⟩,_,rfl,D,_,C.b,rfl,rfl,hD1,hC.2.2.1,?_⟩;rw [ep];refine ⟨L,_,_,_,rfl,rfl,SqL.of (s1 _ _ hL),Jow pl,_,rfl,_,_,rfl,rfl,?_⟩;have k1:=k _ s1;have ed : decide (drw S ls (.int (i : Int)) > 0) = decide (C.wt ≤ ls.getD (plc S C.b) 0):=by
    have eT : (S.Ts.map (fun B=>(B.z,B.b,B.wt)))[i]? = some (C.z,C.b,C.wt):=by rw [lk.Ts,List.getElem?_map,eC]; rfl
    rw [List.getElem?_map] at eT;obtain ⟨W,hW,eW⟩:=Option.map_eq_some_iff.mp eT;have e1 : W.b = C.b:=congrArg (·.2.1) eW;have e2 : W.wt = C.wt:=congrArg (·.2.2) eW;have e3 : drw S ls (.int (i : Int)) = if ls.getD (plc S C.b) 0 ≥ C.wt then C.wt else 0:=by
     show (match S.Ts[(i : Int).toNat]? with | some T=>_ | none=>_) = _;rw [Int.toNat_natCast,hW];show (if ls.getD (plc S W.b) 0 ≥ W.wt then W.wt else 0) = _;rw [e1,e2]
    rw [e3];by_cases q : C.wt ≤ ls.getD (plc S C.b) 0
    ·rw [if_pos q,decide_eq_true q,decide_eq_true (by omega)]
    ·rw [if_neg q,decide_eq_false q];rfl
   rw [ed] at k1;exact k1
end
noncomputable def DueAt (H : Hp) (y : V) (S : Riv) (Gs : List Jko) (ls cs : List Int) (wt : Int) (tv : V) (rn : List Int) : Prop:=∃ t u1 u2 u3 : Addr,y = .ref t ∧ H t = some (.tup [.ref u1,.int (Jp4 S wt rn),.ref u2,.int (drw S ls tv),.bl (decide (drw S ls tv > 0)),.ref u3]) ∧ H u1 = some (.tup ((Jn8 S Gs ls cs tv rn).map V.int)) ∧ H u2 = some (.tup ((Jme S Gs ls cs tv).map V.int)) ∧ H u3 = some (.tup ((Jm2 0 S.Bs (Jn8 S Gs ls cs tv rn)).map V.int))
structure LTIn (p : Addr) (H : Hp) (td : V) (R : Jl2) (S : Riv) (x c : V) (ls cs : List Int) (wt : Int) (tv : V) (ra : Addr) (rn : List Int) : Prop where
 rt : RTAt p H td R
 rg : Jmd R
 lk : Jqe R S
 st : StA H x S ls wt
 ch : ChA H c S cs tv
 hr : H ra = some (.tup (rn.map V.int))
 rl : rn.length = S.Bs.length
 sm : Sml rn
 so : SetsOk (R.Bs.map (·.G)) cs (lft S ls tv)
theorem LTIn.same {p : Addr} {H H' : Hp} {td : V} {R : Jl2} {S : Riv} {x c : V} {ls cs : List Int} {wt : Int} {tv : V} {ra : Addr} {rn : List Int} (s : Same H H') (h : LTIn p H td R S x c ls cs wt tv ra rn) : LTIn p H' td R S x c ls cs wt tv ra rn:=⟨h.rt.same h.rg s,h.rg,h.lk,h.st.same s,h.ch.same s,s _ _ h.hr,h.rl,h.sm,h.so⟩
noncomputable def Jy4 : Sp:=fun vs H Q _=>∃ (p : Addr) (td : V) (R : Jl2) (S : Riv) (x c : V) (ls cs : List Int) (wt : Int) (tv : V) (ra : Addr) (rn : List Int),vs = [td,x,c,.ref ra] ∧ LTIn p H td R S x c ls cs wt tv ra rn ∧ ∀ y H', Same H H' → DueAt H' y S (R.Bs.map (·.G)) ls cs wt tv rn → Q y H'
theorem TwnIn.told {R : Jl2} {S : Riv} {tv : V} (lk : Jqe R S) (h : TwnIn S tv) : TwnV R tv:=by
 rcases h with h | ⟨j,h,j0,j1⟩
 ·exact .inl h
 ·exact .inr ⟨j,h,j0,by rw [← Jqn lk]; exact j1⟩
theorem Jni {α : Type} : ∀ {a b : List α} {i : Nat} {v : α},a.length = b.length → a[i]? = some v → (a.take i ++ b.drop i).set i v = a.take (i + 1) ++ b.drop (i + 1)
 | x :: a,y :: b,0,v,_,h=>by
  cases h;rfl
 | x :: a,y :: b,i + 1,v,e,h=>by
  have ih:=Jni (a:=a) (b:=b) (i:=i) (v:=v) (by simpa using e) (by simpa using h);show x :: (a.take i ++ b.drop i).set i v = x :: (a.take (i + 1) ++ b.drop (i + 1));rw [ih]
 | [],_,_,_,_,h=>by simp at h
 | _ :: _,[],_,_,e,_=>by simp at e
theorem Jq9 {α : Type} : ∀ {a b : List α} {i : Nat},a.length = b.length → (a.take i ++ b.drop i)[i]? = b[i]?
 | [],[],_,_=>by simp
 | x :: a,y :: b,0,_=>rfl
 | x :: a,y :: b,i + 1,e=>by
  have ih:=Jq9 (a:=a) (b:=b) (i:=i) (by simpa using e);show (x :: (a.take i ++ b.drop i))[i + 1]? = (y :: b)[i + 1]?;simpa using ih
 | [],_ :: _,_,e=>by simp at e
 | _ :: _,[],_,e=>by simp at e
theorem tin_of {R : Jl2} {S : Riv} (lk : Jqe R S) (rg : Jmd R) : TIn S:=fun T hT=>by
 have hz : S.Bs.map (·.z) = R.Bs.map (·.z):=Joc lk (·.1);have : (T.z,T.b,T.wt) ∈ R.Ts.map (fun B=>(B.z,B.b,B.wt)):=by rw [← lk.Ts]; exact List.mem_map_of_mem (f:=fun B : Twn=>(B.z,B.b,B.wt)) hT
 obtain ⟨C,hC,e⟩:=List.mem_map.mp this;have q:=rg.Ts C hC;have e2 : C.b = T.b:=congrArg (·.2.1) e;have e3 : C.wt = T.wt:=congrArg (·.2.2) e;rw [hz,← e2,← e3];exact ⟨q.2.2.1,q.2.2.2.1,q.2.2.2.2⟩
section
variable {P : Program} {w : World} {K : W.Frag} {mg : Str → Option Value} {base : Heap} {a : Ad}
theorem sc_law_turned : Jkb ["_law_told","_law_standing_here","_law_choice_here","_law_rain_here","_law_levels","_law_paid","_law_drawn","_law_name","_law_basin_here","_law_place","_law_outs","_law_k","_law_broken","_law_wet"] ["_law_told","_law_standing_here","_law_choice_here","_law_rain_here"] (Jk6 (top 81)):=%[|0]
theorem Jp9 (T : Tx K mg a) : FnOk P w K mg base CX0 2 a.Jiy a.Jiz ["_law_told","_law_standing_here","_law_choice_here","_law_rain_here"] Jy4:=by
 have G__law_pays:=%[Jv7|1];have G__law_lets:=%[Jv5|1];refine T.Ja6.fn.ok sc_law_turned (fun vs H Q E h=>?_) (fun cdv A outer s H vs Q E hr h=>?_)
 ·obtain ⟨p,td,R,S,x,c,ls,cs,wt,tv,ra,rn,rfl,_⟩:=h;rfl
 ·obtain ⟨p,td,R,S,x,c,ls,cs,wt,tv,ra,rn,rfl,li,k⟩:=h;refine ⟨?t,?B,?C⟩
  case B =>
   refine' Jk2 ?s1 ?r1
   case s1 =>
    exact (Jki (i:=4) sc_law_turned.nd rfl (Or.inr rfl) (Jkr Jlz (by rfl) T.Jaq Jmv (Jjz (Jke Jkj (pv 1) Jk4 (fun _ _=>rfl)) Jk1)))
   case r1 =>
    refine' Jk2 ?s3 ?r3
    case s3 =>
     exact (Jki (i:=5) sc_law_turned.nd rfl (Or.inl rfl) (Jk5 T.Ja5 G__law_pays hr (by decide) (Jjz (pv 0) (Jjz (pv 4) (Jjz (Jke Jkj (pv 2) Jk4 (fun _ _=>rfl)) Jk1)))))
    case r3 =>
     refine' Jk2 ?s5 ?r5
     case s5 =>
      exact (Jki (i:=6) sc_law_turned.nd rfl (Or.inl rfl) Jk4)
     case r5 =>
      refine' Jk2 ?s7 ?r7
      case s7 =>
       refine' Jks ?c8 ?a8 ?b8
       case c8 =>
        exact (Jz6 (pv 5) (fun _=>rfl))
       case a8 =>
        refine' Jk2 ?s9 ?r9
        case s9 =>
         exact (Jng (Jke Jky (Jke Jkj (pv 0) Jk4 (fun _ _=>rfl)) (Jke Jkj (pv 2) Jk4 (fun _ _=>rfl)) (fun _ _=>rfl)) (Jom rfl (Jkf (Jkc (i:=7) sc_law_turned.nd rfl (Or.inl rfl)) (Jkf (Jkc (i:=8) sc_law_turned.nd rfl (Or.inl rfl)) (Jkf (Jkc (i:=6) sc_law_turned.nd rfl (Or.inl rfl)) Jls)))))
        case r9 =>
         refine' Jk2 ?s12 ?r12
         case s12 =>
          exact (Jki (i:=9) sc_law_turned.nd rfl (Or.inl rfl) (Jse F.plainAttrs_list F.slot_list_index F.type_list_index Jv1 (Jkz (N:=(["_law_one"] : List Str)) (ini:=[none]) rfl (Jlg (Jke Jkj (pv 0) Jk4 (fun _ _=>rfl))) (fun _ _ _ _ _=>(Jkc (i:=0) (by decide +kernel : (["_law_one"] : List Str).Nodup) rfl (Or.inl rfl))) (fun _ _ _ _ _=>Jkx) (fun _ _ _ _ _=>(Jke (Jmb (K:=K) rfl) (pv 0) Jk4 (fun _ _=>rfl)))) (Jjz (pv 8) Jk1)))
         case r12 =>
          refine' Jk3 ?s14
          case s14 =>
           exact (Jng (Jkh Jla (Jke Jky (pv 4) (pv 9) (fun _ _=>rfl)) (pv 6)) (Jqy (pv 4) (pv 9) Jn6))
       case b8 =>
        exact Jkg
      case r7 =>
       refine' Jk2 ?s18 ?r18
       case s18 =>
        exact (Juc (i:=10) (N:=(["_law_one","_law_setting","_law_level"] : List Str)) (ini:=[none,none,none]) sc_law_turned.nd rfl (Or.inl rfl) rfl (Jub false true false (by rfl) T.Jay (Jjz (Jke Jkj (pv 0) Jk4 (fun _ _=>rfl)) (Jjz (Jke Jkj (pv 2) Jk4 (fun _ _=>rfl)) (Jjz (pv 4) Jk1)))) (fun _ _ _ _ _=>(Jna (K:=K) (n:=3) rfl rfl (Jkf (Jkc (i:=0) (by decide +kernel : (["_law_one","_law_setting","_law_level"] : List Str).Nodup) rfl (Or.inl rfl)) (Jkf (Jkc (i:=1) (by decide +kernel : (["_law_one","_law_setting","_law_level"] : List Str).Nodup) rfl (Or.inl rfl)) (Jkf (Jkc (i:=2) (by decide +kernel : (["_law_one","_law_setting","_law_level"] : List Str).Nodup) rfl (Or.inl rfl)) Jls))))) (fun _ _ _ _ _=>Jkx) (fun _ _ _ _ _=>(Jk5 T.Ja4 G__law_lets hr (by decide) (Jjz (Jke (Jmb (K:=K) rfl) (pv 0) Jk4 (fun _ _=>rfl)) (Jjz (pv 1) (Jjz (pv 2) Jk1))))))
       case r18 =>
        refine' Jk2 ?s20 ?r20
        case s20 =>
         refine' Jnh ?f21_0 ?f21_1 ?f21_2 ?f21_3 ?f21_4
         case f21_0 =>
          exact PassesOwn.never
         case f21_1 =>
          exact rfl
         case f21_2 =>
          exact (Jnr (by rfl) T.Jat (Jjz (Jka Jkm (by rfl) T.Jap Jlh (Jjz (pv 4) Jk1)) Jk1))
         case f21_3 =>
          exact (Jkc (i:=11) sc_law_turned.nd rfl (Or.inl rfl))
         case f21_4 =>
          refine' Jk2 ?s22 ?r22
          case s22 =>
           exact (Jng (Jkh Jkv (Jkh Jla (Jke Jky (pv 4) (pv 11) (fun _ _=>rfl)) (Jke Jky (pv 10) (pv 11) (fun _ _=>rfl))) (Jke Jkj (pv 3) (pv 11) (fun _ _=>rfl))) (Jqy (pv 4) (pv 11) Jn6))
          case r22 =>
           refine' Jk3 ?s25
           case s25 =>
            refine' Jks ?c26 ?a26 ?b26
            case c26 =>
             exact (Jl6 Jsd (pv 11) Jk4 (Jkt _))
            case a26 =>
             refine' Jk3 ?s27
             case s27 =>
              exact (Jng (Jkh Jkv (Jke Jky (pv 4) (pv 11) (fun _ _=>rfl)) (Jke Jky (pv 10) (Jkh Jla (pv 11) Jk4) (fun _ _=>rfl))) (Jqy (pv 4) (pv 11) Jn6))
            case b26 =>
             exact Jkg
        case r20 =>
         refine' Jk2 ?s31 ?r31
         case s31 =>
          exact (Juc (i:=12) (N:=(["_law_k","_law_one","_law_levels"] : List Str)) (ini:=[none,none,some 4]) sc_law_turned.nd rfl (Or.inl rfl) rfl (Jwz (by rfl) T.Jam (Jjz (Jke Jkj (pv 0) Jk4 (fun _ _=>rfl)) Jk1)) (fun _ _ _ _ _=>(Jna (K:=K) (n:=2) rfl rfl (Jkf (Jkc (i:=0) (by decide +kernel : (["_law_k","_law_one","_law_levels"] : List Str).Nodup) rfl (Or.inl rfl)) (Jkf (Jkc (i:=1) (by decide +kernel : (["_law_k","_law_one","_law_levels"] : List Str).Nodup) rfl (Or.inl rfl)) Jls)))) (fun _ _ _ _ _=>(Jx0 (Jq4 (Jl6 Jz0 (Jke (Juz (K:=K) rfl) (pv 2) (pv 0) (fun _ _=>rfl)) (Jke (Jmb (K:=K) rfl) (pv 1) Jk4 (fun _ _=>rfl)) (Jkt _)) (Jo0 (Jl6 Jsd (Jke (Juz (K:=K) rfl) (pv 2) (pv 0) (fun _ _=>rfl)) (Jke (Jmb (K:=K) rfl) (pv 1) Jk4 (fun _ _=>rfl)) (Jkt _)))).pt)) (fun _ _ _ _ _=>(pv 0)))
         case r31 =>
          refine' Jk2 ?s33 ?r33
          case s33 =>
           exact (Jki (i:=13) sc_law_turned.nd rfl (Or.inl rfl) (Jka (Jm0 rfl) (by rfl) T.Jas Jnt (Jjz (Jke Jkj (pv 0) Jk4 (fun _ _=>rfl)) (Jjz (Jkh Jkv (Jkh Jla (Jke Jkj (pv 1) Jk4 (fun _ _=>rfl)) (Jka (Jm4 rfl) (by rfl) T.Jaw Jnc (Jjz (pv 3) Jk1))) (Jke Jkj (pv 0) Jk4 (fun _ _=>rfl))) Jk1))))
          case r33 =>
           refine' Jk3 ?s35
           case s35 =>
            refine' Jkd ?e37_0
            case e37_0 =>
             refine' Jly ?e38_0
             case e38_0 =>
              refine' pa6 ?e39_0 ?e39_1 ?e39_2 ?e39_3 ?e39_4 ?e39_5
              case e39_0 =>
               exact (Jkr Jkw (by rfl) T.Jax Jl3 (Jjz (pv 4) Jk1))
              case e39_1 =>
               exact (pv 13)
              case e39_2 =>
               exact (Jkr Jkw (by rfl) T.Jax Jl3 (Jjz (pv 10) Jk1))
              case e39_3 =>
               exact (pv 6)
              case e39_4 =>
               exact (pv 5)
              case e39_5 =>
               exact (Jkr Jkw (by rfl) T.Jax Jl3 (Jjz (pv 12) Jk1))
  obtain ⟨y,yu,rfl,hy,hyu,ly⟩:=li.st;obtain ⟨z,zu,rfl,hz,hzu,lz,tw⟩:=li.ch;obtain ⟨t,lb,lt,bs,ts,rfl,ht,hb,btl,htt,ttl,nb,nt⟩:=id li.rt;have rg:=li.rg;have lk:=li.lk;have blen:=btl.len;have tlen:=ttl.len;have hn:=rg.n;have sl:=Job lk;refine ⟨_,rfl,y,_,0,_,rfl,rfl,SqT.of hy,rfl,yu,_,rfl,.inr (SqT.of hyu),fun L hL=>?_⟩;have s1:=Same.upd (o:=.lst (ls.map V.int)) hL;have li1:=li.same s1;refine ⟨_,rfl,_,rfl,_,rfl,z,_,1,_,rfl,rfl,SqT.of (s1 _ _ hz),rfl,p,_,R,S,L,ls,tv,rfl,li1.rt,rg,lk,Jk0,by omega,tw.told lk,fun H2 s2=>?_⟩;have s12:=s1.trans s2;have hL2:=s2 _ _ (Jk0 (H:=H) (a:=L) (o:=.lst (ls.map V.int)));dsimp only [Jmq];refine Juj (fun σ H1=>σ = [some (.ref t),some (.ref y),some (.ref z),some (.ref ra),some (.ref L),some (.bl (decide (drw S ls tv > 0))),some (.int 0),none,none,none,none,none,none,none] ∧ H1 = H2) (fun R' hR=>hR _ _ ⟨rfl,rfl⟩) ?_;rintro σ H1' ⟨rfl,rfl⟩;refine Juj (fun σ H1=>∃ o7 o8 o9 o10 o11 o12 o13,σ = [some (.ref t),some (.ref y),some (.ref z),some (.ref ra),some (.ref L),some (.bl (decide (drw S ls tv > 0))),some (.int (drw S ls tv)),o7,o8,o9,o10,o11,o12,o13] ∧ H1 L = some (.lst ((lft S ls tv).map V.int)) ∧ Same H H1) (fun R' hR=>?_) ?_
  ·refine ⟨_,rfl,_,rfl,?_⟩;by_cases hd : drw S ls tv > 0
   ·refine ifT (decide_eq_true hd) ?_;obtain ⟨j,rfl,j0,j1⟩ : ∃ j : Int,tv = .int j ∧ 0 ≤ j ∧ j < S.Ts.length:=by
     rcases tw with rfl | h
     ·exact absurd (show (0 : Int) > 0 from hd) (by decide)
     ·exact h
    obtain ⟨i,rfl⟩:=Int.eq_ofNat_of_zero_le j0;have tl:=Jqn lk;have hi : i < R.Ts.length:=by omega
    have hit : i < ts.length:=by omega
    obtain ⟨C,eC,tc,ec,htc⟩:=ttl.get (i:=i) (x:=ts[i]) (List.getElem?_eq_getElem hit);have hat : atI ts (i : Int) = some (.ref tc):=Jmu (by rw [List.getElem?_eq_getElem hit,ec]);have hC:=rg.Ts C (List.mem_of_getElem? eC);have hzn : S.Bs.map (·.z) = R.Bs.map (·.z):=Joc lk (·.1);have eT : (S.Ts.map (fun B=>(B.z,B.b,B.wt)))[i]? = some (C.z,C.b,C.wt):=by rw [lk.Ts,List.getElem?_map,eC]; rfl
    rw [List.getElem?_map] at eT;obtain ⟨W,hW,eW⟩:=Option.map_eq_some_iff.mp eT;have e1 : W.b = C.b:=congrArg (·.2.1) eW;have e2 : W.wt = C.wt:=congrArg (·.2.2) eW;have e3 : drw S ls (.int (i : Int)) = if ls.getD (plc S C.b) 0 ≥ C.wt then C.wt else 0:=by
     show (match S.Ts[(i : Int).toNat]? with | some T=>_ | none=>_) = _;rw [Int.toNat_natCast,hW];show (if ls.getD (plc S W.b) 0 ≥ W.wt then W.wt else 0) = _;rw [e1,e2]
    have e4 : drw S ls (.int (i : Int)) = C.wt:=by
     rw [e3] at hd ⊢;split at hd
     ·rename_i q
      rw [if_pos q]
     ·exact absurd hd (by decide)
    have e5 : Jsi S (.int (i : Int)) = plc S C.b:=by
     show (match S.Ts[(i : Int).toNat]? with | some T=>_ | none=>_) = _;rw [Int.toNat_natCast,hW];show plc S W.b = _;rw [e1]
    have pl : plc S C.b < ls.length:=by
     have:=Jsj (S:=S) (z:=C.b) (by rw [hzn]; exact hC.2.2.1);omega
    have ep : ((R.Bs.map (·.z)).idxOf C.b : Nat) = plc S C.b:=by unfold plc; rw [hzn]
    refine ⟨_,rfl,t,_,3,_,rfl,rfl,SqT.of (s12 _ _ ht),rfl,_,rfl,z,_,1,_,rfl,rfl,SqT.of (s12 _ _ hz),rfl,lt,_,_,_,rfl,rfl,SqL.of (s12 _ _ htt),hat,tc,_,rfl,SqT.of (s12 _ _ htc),rfl,_,_,rfl,_,_,rfl,_,_,rfl,rfl,?_⟩;refine ⟨_,rfl,t,_,2,_,rfl,rfl,SqT.of (s12 _ _ ht),rfl,lb,rfl,⟨_,SqL.of (s12 _ _ hb)⟩,fun D hD=>?_⟩;refine Jnv ((R.Bs.map (·.z)).map V.str) hD (by simp [blen]) (by omega) (s12 _ _ hb) ?_ ?_
    ·intro i x y H' Q' hx hy sm k';obtain ⟨B,eB,tb,g,rfl,htb,gt⟩:=btl.get hx;rw [List.getElem?_map,List.getElem?_map,eB] at hy;cases hy;exact ⟨_,rfl,tb,_,0,_,rfl,rfl,SqT.of (sm _ _ (s12 _ _ htb)),rfl,k' _ fun _ _ h=>h⟩
    intro H3 s3 hD3;refine ⟨.inl ⟨rfl,_,SqL.of hD3⟩,_,rfl,D,_,C.b,rfl,rfl,hD3,hC.2.2.1,?_⟩;rw [ep];have hL3:=s3 _ _ hL2;have hix : ixN (ls.map V.int).length ((plc S C.b : Nat) : Int) = some (plc S C.b):=by
     unfold ixN;rw [if_pos (by omega),if_pos (by rw [List.length_map]; omega)];rfl
    refine ⟨_,rfl,_,rfl,L,_,_,_,rfl,rfl,SqL.of hL3,Jow pl,_,rfl,_,_,rfl,rfl,_,rfl,_,rfl,L,_,_,_,rfl,rfl,hL3,hix,hR _ _ ⟨some (.str C.z),some (.str C.b),some (.int (plc S C.b)),none,none,none,none,?_,?_,?_⟩⟩
    ·rw [e4];rfl
    ·rw [Jk0];unfold lft;rw [if_pos hd,e5,e4,List.map_set]
    ·intro b o e;rw [Jk7 (Jk8 e hL)];exact s3 _ _ (s12 _ _ e)
   ·refine ifF (decide_eq_false hd) (hR _ _ ⟨none,none,none,none,none,none,none,?_,?_,s12⟩)
    ·have:=(Jvr (S:=S) (ls:=ls) (tv:=tv) (tin_of lk rg)).1;have e : drw S ls tv = 0:=by omega
     rw [e]
    ·have e : lft S ls tv = ls:=if_neg hd;rw [e];exact hL2
  ·rintro σ H3 ⟨o7,o8,o9,o10,o11,o12,o13,rfl,hL3,s3⟩;have li3:=li.same s3;have sol:=li.so.len;have gl : (R.Bs.map (·.G)).length = R.Bs.length:=List.length_map ..;refine ⟨_,rfl,t,_,2,_,rfl,rfl,SqT.of (s3 _ _ ht),rfl,_,rfl,z,_,0,_,rfl,rfl,SqT.of (s3 _ _ hz),rfl,_,rfl,lb,zu,L,rfl,⟨_,SqL.of (s3 _ _ hb)⟩,⟨_,SqT.of (s3 _ _ hzu)⟩,⟨_,SqL.of hL3⟩,fun D hD=>?_⟩;have sD:=Same.upd (o:=.lst []) hD;refine Jqk (K:=K) (l1:=lb) (l2:=zu) (l3:=L) (b1:=false) (b2:=true) (b3:=false) (xs:=bs) (ys:=cs.map V.int) (us:=(lft S ls tv).map V.int) (D:=D) (fun i σ H'=>(∃ o1 o2 o3,σ = [o1,o2,o3]) ∧ H' D = some (.lst (((Jme S (R.Bs.map (·.G)) ls cs tv).take i).map V.int)) ∧ Same H3 H') ⟨⟨_,_,_,rfl⟩,Jk0,sD⟩ (fun i σ H' _ ⟨_,_,sm⟩=>⟨SqL.of (sm _ _ (s3 _ _ hb)),SqT.of (sm _ _ (s3 _ _ hzu)),SqL.of (sm _ _ hL3)⟩) (by rw [List.length_map]; omega) (by rw [List.length_map]; omega) ?_ ?_
   ·rintro i x y' u σ H' Ta hx hy hu ⟨⟨p1,p2,p3,rfl⟩,hDs,sm⟩ hT;obtain ⟨B,eB,tb,g,rfl,htb,gt⟩:=btl.get hx;rw [List.getElem?_map] at hy hu;obtain ⟨c,hc,rfl⟩:=Option.map_eq_some_iff.mp hy;obtain ⟨lv,hlv,rfl⟩:=Option.map_eq_some_iff.mp hu;have hG : (R.Bs.map (·.G))[i]? = some B.G:=by rw [List.getElem?_map,eB]; rfl
    obtain ⟨gg,hs,hl'⟩:=li.so.get hG hc hlv;have sT:=Same.upd (o:=.tup [.ref tb,.int c,.int lv]) hT;have s4:=(s3.trans sm).trans sT;refine Jx5 (SqT.of Jk0) ⟨_,rfl,tb,_,5,_,rfl,rfl,SqT.of (s4 _ _ htb),rfl,_,rfl,_,rfl,p,g,B.G,c,lv,rfl,gt.same s4,gg,hs,hl', fun H5 s5=>⟨_,s5 _ _ (sT _ _ hDs),?_,⟨_,_,_,rfl⟩,?_,?_⟩⟩
    ·rw [List.length_map,List.length_take];have hi : i < bs.length:=(List.getElem?_eq_some_iff.mp hx).1;exact Jl0 (by omega)
    ·rw [Jk0,List.take_add_one];unfold Jme;rw [Jqw hG hc hlv];simp
    ·intro c o z;rw [Jk7 (Jk8 z hD)];exact s5 _ _ (sT _ _ (sm _ _ z))
   rintro σ' H4 ⟨_,hDs,sm⟩;have el : (lft S ls tv).length = S.Bs.length:=by rw [Jox]; exact ly
   have eo : (Jme S (R.Bs.map (·.G)) ls cs tv).length = S.Bs.length:=by unfold Jme; rw [Jmh sol.1 sol.2]; omega
   have rl:=li.rl;have e8 : (Jn8 S (R.Bs.map (·.G)) ls cs tv rn).length = S.Bs.length:=by unfold Jn8; rw [Jnj (by omega) (by omega)]; exact el
   rw [List.take_of_length_le (by omega)] at hDs;have s4:=s3.trans sm;have hL4:=sm _ _ hL3;generalize hGs : R.Bs.map (·.G) = Gs at *;generalize hlf : lft S ls tv = lf at *;have elv : Jn8 S Gs ls cs tv rn = Joa 0 lf (Jme S Gs ls cs tv) rn:=by unfold Jn8; rw [hlf]
   generalize hlv : Jn8 S Gs ls cs tv rn = lvv at *;generalize hos : Jme S Gs ls cs tv = os at *;refine ⟨_,rfl,L,_,rfl,.inl (SqL.of hL4),_,rfl,by rw [List.length_map]; omega,by rw [List.length_map]; omega,?_⟩;refine Jov (fun i σ H'=>∃ p11,σ = [some (.ref t),some (.ref y),some (.ref z),some (.ref ra),some (.ref L),some (.bl (decide (drw S ls tv > 0))),some (.int (drw S ls tv)),o7,o8,o9,some (.ref D),p11,o12,o13] ∧ H' L = some (.lst ((lvv.take i ++ lf.drop i).map V.int)) ∧ H' D = some (.lst (os.map V.int)) ∧ Same H H') ⟨_,rfl,by simpa using hL4,hDs,s4⟩ ?_ ?_
   ·rintro i σ H5 hi ⟨p11,rfl,hL5,hD5,s5⟩;have hi' : i < lf.length:=by rw [List.length_map] at hi; omega
    have e0 : (0 : Int) + (i : Int) = (i : Int):=by omega
    have clen : (lvv.take i ++ lf.drop i).length = lf.length:=by rw [List.length_append,List.length_take,List.length_drop]; omega
    have cat : (lvv.take i ++ lf.drop i)[i]? = some lf[i]:=by rw [Jq9 (by omega)]; exact List.getElem?_eq_getElem hi'
    have a1 : atI ((lvv.take i ++ lf.drop i).map V.int) ((0 : Int) + (i : Int)) = some (.int lf[i]):=by rw [e0]; exact Jmu (by rw [List.getElem?_map,cat]; rfl)
    have hio : i < os.length:=by omega
    have hir : i < rn.length:=by omega
    have a2 : atI (os.map V.int) ((0 : Int) + (i : Int)) = some (.int os[i]):=by rw [e0]; exact Jmj hio
    have a3 : atI (rn.map V.int) ((0 : Int) + (i : Int)) = some (.int rn[i]):=by rw [e0]; exact Jmj hir
    have hix : ∀ {ms : List Int},ms.length = lf.length → ixN (ms.map V.int).length ((0 : Int) + (i : Int)) = some i:=fun e=>by
     rw [e0];unfold ixN;rw [if_pos (by omega),if_pos (by rw [List.length_map]; omega)];rfl
    have keep : ∀ {Ha : Hp} {ob : HO},Same H Ha → Same H (upd Ha L ob):=fun s b oo e=>by rw [Jk7 (Jk8 e hL)]; exact s _ _ e
    have nDL : D ≠ L:=fun e=>by rw [e,hL3] at hD; cases hD
    refine ⟨_,rfl,_,rfl,L,_,_,_,rfl,rfl,SqL.of hL5,a1,_,rfl,_,rfl,D,_,_,_,rfl,rfl,SqL.of hD5,a2,_,_,rfl,rfl,_,rfl,_,rfl,ra,_,_,_,rfl,rfl,SqT.of (s5 _ _ li.hr),a3,_,_,rfl,rfl,?_⟩;refine ⟨_,rfl,_,rfl,L,_,_,_,rfl,rfl,hL5,hix clen,?_⟩;refine ⟨_,rfl,_,_,rfl,rfl,_,rfl,?_⟩;have hf : ∀ f : Int,((0 : Int) :: os)[i]? = some f → lvv[i]? = some (lf[i] - os[i] + f + rn[i]):=fun f h=>by
     rw [elv];exact Jrt (List.getElem?_eq_getElem hi') (List.getElem?_eq_getElem hio) h (List.getElem?_eq_getElem hir)
    by_cases h0 : (0 : Int) < 0 + (i : Int)
    ·refine ifT (decide_eq_true h0) ?_;have hp : i - 1 < os.length:=by omega
     have fv : ((0 : Int) :: os)[i]? = some os[i - 1]:=by
      cases i with
      | zero=>exact absurd h0 (by decide)
      | succ n=>simp
     have a4 : atI (((lvv.take i ++ lf.drop i).map V.int).set i (.int (lf[i] - os[i] + rn[i]))) ((0 : Int) + (i : Int)) = some (.int (lf[i] - os[i] + rn[i])):=by
      rw [e0];refine Jmu ?_;rw [List.getElem?_set,if_pos rfl,if_pos (by rw [List.length_map]; omega)]
     have a5 : atI (os.map V.int) ((0 : Int) + (i : Int) - 1) = some (.int os[i - 1]):=by
      rw [show (0 : Int) + (i : Int) - 1 = ((i - 1 : Nat) : Int) by omega];exact Jmj hp
     have hix2 : ixN (((lvv.take i ++ lf.drop i).map V.int).set i (.int (lf[i] - os[i] + rn[i]))).length ((0 : Int) + (i : Int)) = some i:=by
      rw [List.length_set];exact hix clen
     refine ⟨_,rfl,_,rfl,L,_,_,_,rfl,rfl,SqL.of Jk0,a4,_,rfl,_,rfl,_,_,rfl,rfl,D,_,_,_,rfl,rfl,SqL.of (by rw [Jk7 nDL]; exact hD5),a5,_,_,rfl,rfl,_,rfl,_,rfl,L,_,_,_,rfl,rfl,Jk0,hix2,?_⟩;refine ⟨_,rfl,?_,by rw [Jk7 nDL,Jk7 nDL]; exact hD5,keep (keep s5)⟩;rw [Jk0,List.set_set,← List.map_set,← Jni (by omega) (hf _ fv)];have e : lf[i] - os[i] + rn[i] + os[i - 1] = lf[i] - os[i] + os[i - 1] + rn[i]:=by omega
     rw [← e,List.map_set]
    ·refine ifF (decide_eq_false h0) ⟨_,rfl,?_,by rw [Jk7 nDL]; exact hD5,keep s5⟩;have ez : i = 0:=by omega
     subst ez;rw [Jk0,← Jni (by omega) (hf 0 rfl),List.map_set];have e : V.int (lf[0] - os[0] + rn[0]) = V.int (lf[0] - os[0] + 0 + rn[0]):=by rw [show lf[0] - os[0] + rn[0] = lf[0] - os[0] + 0 + rn[0] by omega]
     show some (HO.lst (List.set _ 0 (V.int (lf[0] - os[0] + rn[0])))) = _;rw [e];rfl
   rintro σ H5 ⟨p11,rfl,hL5,hD5,s5⟩;rw [List.length_map,show ((lf.length : Nat) : Int).toNat = lf.length by omega,List.take_of_length_le (by omega),List.drop_of_length_le (by omega),List.append_nil] at hL5;refine ⟨_,rfl,t,_,2,_,rfl,rfl,SqT.of (s5 _ _ ht),rfl,lb,rfl,⟨_,SqL.of (s5 _ _ hb)⟩,fun F hF=>?_⟩;have sF:=Same.upd (o:=.lst []) hF;refine Jyh (K:=K) (a:=lb) (xs:=bs) (D:=F) (fun i σ H'=>(∃ q1 q2,σ = [q1,q2,some (.ref L)]) ∧ H' F = some (.lst ((Jm2 0 (S.Bs.take i) (lvv.take i)).map V.int)) ∧ Same H5 H') ⟨⟨_,_,rfl⟩,Jk0,sF⟩ (fun i σ H' _ ⟨_,_,sm⟩=>SqL.of (sm _ _ (s5 _ _ hb))) ?_ ?_
   ·rintro i x σ H' Ta hx ⟨⟨q1,q2,rfl⟩,hFs,sm'⟩ hT;obtain ⟨B,eB,tb,g,rfl,htb,gt⟩:=btl.get hx;have hi : i < S.Bs.length:=by have:=(List.getElem?_eq_some_iff.mp eB).1; omega
    have hil : i < lvv.length:=by omega
    obtain ⟨B', hB', elo,ehi⟩ : ∃ B', S.Bs[i]? = some B' ∧ B'.lo = B.lo ∧ B'.hi = B.hi:=by
     have k1 : (S.Bs.map Jpp)[i]? = some (Jt8 B):=by rw [lk.Bs,List.getElem?_map,eB]; rfl
     rw [List.getElem?_map] at k1;obtain ⟨B', h1,h2⟩:=Option.map_eq_some_iff.mp k1;exact ⟨B', h1,congrArg (·.2.1) h2,congrArg (·.2.2.1) h2⟩
    have sT:=Same.upd (o:=.tup [.int i,.ref tb]) hT;have s6:=(s5.trans sm').trans sT;have hL6:=sT _ _ (sm' _ _ hL5);have nx : Jm2 0 (S.Bs.take (i + 1)) (lvv.take (i + 1)) = Jm2 0 (S.Bs.take i) (lvv.take i) ++ (if B.lo ≤ lvv[i] ∧ lvv[i] ≤ B.hi then [] else [(i : Int)]):=by
     have q:=Jqh (k:=0) (Bs:=S.Bs.take i) (ls:=lvv.take i) (B:=B') (l:=lvv[i]) (by rw [List.length_take,List.length_take]; omega);rw [List.length_take,Nat.min_eq_left (by omega),Nat.zero_add,elo,ehi] at q;rw [List.take_add_one,hB', List.take_add_one,List.getElem?_eq_getElem hil];exact q
    have bad : ¬ (B.lo ≤ lvv[i] ∧ lvv[i] ≤ B.hi) → ∃ vs,(upd H' Ta (.tup [.int i,.ref tb])) F = some (.lst vs) ∧ vs.length < sizeLine ∧ (∃ p1 p2,[some (V.int i),some (.ref tb),some (.ref L)] = [p1,p2,some (V.ref L)]) ∧ upd (upd H' Ta (.tup [.int i,.ref tb])) F (.lst (vs ++ [.int i])) F = some (.lst ((Jm2 0 (S.Bs.take (i + 1)) (lvv.take (i + 1))).map V.int)) ∧ Same H5 (upd (upd H' Ta (.tup [.int i,.ref tb])) F (.lst (vs ++ [.int i]))):=fun q=>by
     refine ⟨_,sT _ _ hFs,?_,⟨_,_,rfl⟩,?_,?_⟩
     ·have:=Jpq (k:=0) (Bs:=S.Bs.take i) (ls:=lvv.take i);rw [List.length_take] at this;rw [List.length_map];exact Jl0 (by omega)
     ·rw [Jk0,nx,if_neg q,List.map_append];rfl
     ·intro c o z;rw [Jk7 (Jk8 z hF)];exact sT _ _ (sm' _ _ z)
    refine ⟨Ta,_,rfl,SqT.of Jk0,rfl,_,_,rfl,_,_,rfl,rfl,?_⟩;refine ⟨_,rfl,_,rfl,L,_,_,_,rfl,rfl,SqL.of hL6,Jmj hil,_,rfl,tb,_,1,_,rfl,rfl,SqT.of (s6 _ _ htb),rfl,_,_,rfl,rfl,_,rfl,?_⟩;by_cases h1 : lvv[i] < B.lo
    ·exact ifT (decide_eq_true h1) (Jlc ⟨_,rfl,bad fun z=>by omega⟩)
    ·refine ifF (decide_eq_false h1) ⟨_,rfl,_,rfl,L,_,_,_,rfl,rfl,SqL.of hL6,Jmj hil,_,rfl,tb,_,2,_,rfl,rfl,SqT.of (s6 _ _ htb),rfl,_,_,rfl,rfl,_,rfl,?_⟩;by_cases h2 : B.hi < lvv[i]
     ·exact ifT (decide_eq_true h2) ⟨_,rfl,bad fun z=>by omega⟩
     ·refine ifF (decide_eq_false h2) ⟨⟨_,_,rfl⟩,?_,sm'.trans sT⟩;rw [nx,if_pos ⟨by omega,by omega⟩,List.append_nil];exact sT _ _ hFs
   rintro σ H6 ⟨_,hFs,sm'⟩;rw [List.take_of_length_le (by omega),List.take_of_length_le (by omega)] at hFs;have s6:=s5.trans sm';have ew : (if wt - rn.sum + R.g < R.c then wt - rn.sum + R.g else R.c) = Jp4 S wt rn:=by
    unfold Jp4;rw [lk.c,lk.g];split <;> split <;> omega
   refine ⟨_,rfl,t,_,0,_,rfl,rfl,SqT.of (s6 _ _ ht),rfl,_,rfl,y,_,1,_,rfl,rfl,SqT.of (s6 _ _ hy),rfl,_,rfl,ra,rn,rfl,.inr (SqT.of (s6 _ _ li.hr)),li.sm,_,_,rfl,rfl,_,rfl,t,_,1,_,rfl,rfl,SqT.of (s6 _ _ ht),rfl,_,_,rfl,rfl,_,_,rfl,?_⟩;refine ⟨_,rfl,L,_,rfl,.inl ⟨SqL.of (sm' _ _ hL5),fun u1 h1=>?_⟩⟩;have t1:=Same.upd (o:=.tup (lvv.map V.int)) h1;refine ⟨_,rfl,_,rfl,D,_,rfl,.inl ⟨SqL.of (t1 _ _ (sm' _ _ hD5)),fun u2 h2=>?_⟩⟩;have t2:=Same.upd (o:=.tup (os.map V.int)) h2;refine ⟨_,rfl,_,rfl,_,rfl,F,_,rfl,.inl ⟨SqL.of (t2 _ _ (t1 _ _ hFs)),fun u3 h3=>?_⟩⟩;have t3:=Same.upd (o:=.tup ((Jm2 0 S.Bs lvv).map V.int)) h3;refine ⟨(show 6 ≤ sizeLine by decide),fun q hq=>?_⟩;have t4:=Same.upd (o:=.tup [.ref u1,.int (if wt - rn.sum + R.g < R.c then wt - rn.sum + R.g else R.c),.ref u2,.int (drw S ls tv),.bl (decide (drw S ls tv > 0)),.ref u3]) hq;refine k _ _ (s6.trans (((t1.trans t2).trans t3).trans t4)) ⟨q,u1,u2,u3,rfl,?_,?_,?_,?_⟩
   ·rw [← ew];exact Jk0
   ·rw [hlv];exact t4 _ _ (t3 _ _ (t2 _ _ Jk0))
   ·rw [hos];exact t4 _ _ (t3 _ _ Jk0)
   ·rw [hlv];exact t4 _ _ Jk0
end
noncomputable def Alk (H : Hp) : Nat → V → V → Prop
 | 0,_,_=>False
 | d + 1,v,v'=>(v = v' ∧ (v = .non ∨ (∃ n,v = .int n) ∨ ∃ b,v = .bl b)) ∨ ∃ p q xs ys,v = .ref p ∧ v' = .ref q ∧ H p = some (.tup xs) ∧ H q = some (.tup ys) ∧ xs.length = ys.length ∧ xs.length < 100 ∧ ∀ (i : Nat) (x y : V),xs[i]? = some x → ys[i]? = some y → Alk H d x y
theorem Alk.same {H H' : Hp} (s : Same H H') : ∀ {d : Nat} {v v' : V},Alk H d v v' → Alk H' d v v'
 | 0,_,_,h=>h.elim
 | d + 1,_,_,h=>by
  rcases h with h | ⟨p,q,xs,ys,rfl,rfl,hp,hq,l,z,f⟩
  ·exact .inl h
  ·exact .inr ⟨p,q,xs,ys,rfl,rfl,s _ _ hp,s _ _ hq,l,z,fun i x y e1 e2=>Alk.same s (f i x y e1 e2)⟩
noncomputable def spSm (d : Nat) : Sp:=fun vs H Q _=>∃ v v', vs = [v,v'] ∧ Alk H d v v' ∧ ∀ H', Same H H' → Q (.bl true) H'
section
variable {P : Program} {w : World} {K : W.Frag} {mg : Str → Option Value} {base : Heap} {a : Ad}
theorem Jvf : Jkb ["_law_found","_law_due"] ["_law_found","_law_due"] (Jk6 (top 82)):=%[|0]
theorem Ju7 (T : Tx K mg a) (d : Nat) (G__law_same : FnOk P w K mg base CX0 d a.Jj0 a.Jj1 ["_law_found","_law_due"] (spSm d)) : FnOk P w K mg base CX0 (d + 1) a.Jj0 a.Jj1 ["_law_found","_law_due"] (spSm (d + 1)):=by
 refine T.Ja7.fn.ok Jvf (fun vs H Q E h=>?_) (fun cdv A outer s H vs Q E hr h=>?_)
 ·obtain ⟨v,v', rfl,_⟩:=h;rfl
 ·obtain ⟨v,v', rfl,al,k⟩:=h;refine ⟨?t,?B,?C⟩
  case B =>
   refine' Jk2 ?s1 ?r1
   case s1 =>
    refine' Jks ?c2 ?a2 ?b2
    case c2 =>
     exact (Jkq (Jka Jld (by rfl) T.Jao Jkk (Jjz (pv 1) (Jjz (Jlq (v:=.ty "tuple") (by rfl) T.Jax Jl3 rfl) Jk1))))
    case a2 =>
     refine' Jk2 ?s3 ?r3
     case s3 =>
      refine' Jks ?c4 ?a4 ?b4
      case c4 =>
       exact (Jq4 (Jkp (Jkq (Jka Jld (by rfl) T.Jao Jkk (Jjz (pv 0) (Jjz (Jlq (v:=.ty "tuple") (by rfl) T.Jax Jl3 rfl) Jk1))))) (Jo0 (Jl6 Jz1 (Jka Jkm (by rfl) T.Jap Jlh (Jjz (pv 0) Jk1)) (Jka Jkm (by rfl) T.Jap Jlh (Jjz (pv 1) Jk1)) (Jkt _)))).pt
      case a4 =>
       refine' Jk3 ?s5
       case s5 =>
        exact (Jkd Jlx)
      case b4 =>
       exact Jkg
     case r3 =>
      refine' Jk3 ?s9
      case s9 =>
       exact (Jkd (Jka (Jnk rfl) (by rfl) T.Jak Jqi (Jjz (Jkz (N:=(["_law_one","_law_other"] : List Str)) (ini:=[none,none]) rfl (Yy true true (by rfl) T.Jay (Jjz (pv 0) (Jjz (pv 1) Jk1))) (fun _ _ _ _ _=>(Jna (K:=K) (n:=2) rfl rfl (Jkf (Jkc (i:=0) (by decide +kernel : (["_law_one","_law_other"] : List Str).Nodup) rfl (Or.inl rfl)) (Jkf (Jkc (i:=1) (by decide +kernel : (["_law_one","_law_other"] : List Str).Nodup) rfl (Or.inl rfl)) Jls)))) (fun _ _ _ _ _=>Jkx) (fun _ _ _ _ _=>(Jk5 T.Ja7 G__law_same hr (Nat.le_refl _) (Jjz (pv 0) (Jjz (pv 1) Jk1))))) Jk1)))
    case b2 =>
     exact Jkg
   case r1 =>
    refine' Jk3 ?s13
    case s13 =>
     exact (Jkd (Ju9 (Jlk Jnp (Jka Jld (by rfl) T.Jao Jkk (Jjz (pv 0) (Jjz (Jlq (v:=.ty "bool") (by rfl) T.Jal Jts rfl) Jk1))) (Jka Jld (by rfl) T.Jao Jkk (Jjz (pv 1) (Jjz (Jlq (v:=.ty "bool") (by rfl) T.Jal Jts rfl) Jk1))) (Jkt _)) (Jua (Jlk Jnp (pv 0) (pv 1) (Jkt _)))))
  rcases al with ⟨rfl,al⟩ | ⟨p,q,xs,ys,rfl,rfl,hp,hq,l,z,f⟩
  ·obtain ⟨t,b,ty,e1,e2,sc⟩ : ∃ t b,TyX K H v t ∧ W.kitOne K t (.type "tuple") = some false ∧ W.kitOne K t (.type "bool") = some b ∧ scal v v = true:=by
    rcases al with rfl | ⟨n,rfl⟩ | ⟨b,rfl⟩
    ·exact ⟨_,_,.of .non,rfl,rfl,rfl⟩
    ·exact ⟨_,_,.of (.int n),rfl,rfl,rfl⟩
    ·exact ⟨_,_,.of (.bl b),rfl,rfl,rfl⟩
   refine ⟨_,rfl,_,_,_,_,_,rfl,rfl,ty,e1,_,rfl,Jl1 ?_⟩;refine ⟨_,rfl,_,_,_,_,_,rfl,rfl,ty,e2,_,rfl,_,_,_,_,_,rfl,rfl,ty,e2,rfl,?_⟩;rw [decide_eq_true rfl];refine ⟨_,rfl,Jlc ⟨_,rfl,_,rfl,sc,?_⟩⟩;rw [decide_eq_true rfl];exact k _ (Same.refl H)
  ·refine ⟨_,rfl,_,_,_,_,_,rfl,rfl,.of (.tup hq),(by rfl : W.kitOne K (.type "tuple") (.type "tuple") = some true),_,rfl,Jlc ?_⟩;refine ⟨_,rfl,_,_,_,_,_,rfl,rfl,.of (.tup hp),(by rfl : W.kitOne K (.type "tuple") (.type "tuple") = some true),_,rfl,Jl1 ?_⟩;refine ⟨_,rfl,p,xs,rfl,.inr (SqT.of hp),_,rfl,q,ys,rfl,.inr (SqT.of hq),rfl,_,rfl,ifF (by rw [l]; simp) ?_⟩;refine ⟨_,rfl,_,rfl,p,q,rfl,⟨_,SqT.of hp⟩,⟨_,SqT.of hq⟩,fun D hD=>?_⟩;have sD:=Same.upd (o:=.lst []) hD;refine Jxf (K:=K) (l1:=p) (l2:=q) (b1:=true) (b2:=true) (xs:=xs) (ys:=ys) (D:=D) (fun i σ H'=>(∃ o1 o2,σ = [o1,o2]) ∧ H' D = some (.lst ((List.replicate i true).map V.bl)) ∧ Same H H') ⟨⟨_,_,rfl⟩,Jk0,sD⟩ (fun i σ H' _ ⟨_,_,sm⟩=>⟨SqT.of (sm _ _ hp),SqT.of (sm _ _ hq)⟩) l ?_ ?_
   ·rintro i x y σ H' Ta hx hy ⟨⟨o1,o2,rfl⟩,hDs,sm⟩ hT;have hi : i < xs.length:=(List.getElem?_eq_some_iff.mp hx).1;have sT:=Same.upd (o:=.tup [x,y]) hT;refine turn2 (SqT.of Jk0) ⟨_,rfl,_,rfl,x,y,rfl,Alk.same (sm.trans sT) (f i x y hx hy),fun H5 s5=>⟨_,s5 _ _ (sT _ _ hDs),?_,⟨_,_,rfl⟩,?_,?_⟩⟩
    ·rw [List.length_map,List.length_replicate];exact Jl0 (by omega)
    ·rw [Jk0,List.replicate_succ', List.map_append];rfl
    ·intro c o e;rw [Jk7 (Jk8 e hD)];exact s5 _ _ (sT _ _ (sm _ _ e))
   ·rintro σ H' ⟨_,hDs,sm⟩;refine ⟨D,_,rfl,SqL.of hDs,?_⟩;rw [show (List.replicate xs.length true).all id = true by simp];exact k _ sm
theorem Jre (T : Tx K mg a) : ∀ d : Nat,FnOk P w K mg base CX0 d a.Jj0 a.Jj1 ["_law_found","_law_due"] (spSm d)
 | 0=>⟨fun _ _ _ _ h=>by
   obtain ⟨_,_,_,h,_⟩:=h;exact h.elim,fun _ _ _ _ _ _ _ _ _ _ _ _ _ h=>by
   obtain ⟨_,_,_,h,_⟩:=h;exact h.elim⟩
 | d + 1=>Ju7 T d (Jre T d)
end
theorem Jwl : ∀ {g : Int} {ls os rs : List Int},ls.length = os.length → ls.length = rs.length → (Joa g ls os rs).sum + os.getLast?.getD g = ls.sum + g + rs.sum
 | g,[],[],[],_,_=>by simp [Joa]
 | _,[],_ :: _,_,e,_=>by simp at e
 | _,[],[],_ :: _,_,e=>by simp at e
 | _,_ :: _,[],_,e,_=>by simp at e
 | _,_ :: _,_ :: _,[],_,e=>by simp at e
 | g,l :: ls,o :: os,r :: rs,e1,e2=>by
  have ih:=Jwl (g:=o) (ls:=ls) (os:=os) (rs:=rs) (by simpa using e1) (by simpa using e2);show ((l - o + g + r) :: Joa o ls os rs).sum + _ = _;rw [List.getLast?_cons,List.sum_cons,List.sum_cons,List.sum_cons];show l - o + g + r + (Joa o ls os rs).sum + os.getLast?.getD o = _;omega
theorem Jvg : ∀ {ls : List Int} {i : Nat} {d : Int},i < ls.length → (ls.set i (ls.getD i 0 - d)).sum = ls.sum - d
 | l :: ls,0,d,_=>by
  show (l - d) + ls.sum = l + ls.sum - d;omega
 | l :: ls,i + 1,d,h=>by
  have ih:=Jvg (ls:=ls) (i:=i) (d:=d) (by simpa using h);show l + (ls.set i (ls.getD i 0 - d)).sum = l + ls.sum - d;omega
 | [],_,_,h=>by simp at h
theorem Yh {S : Riv} {ls : List Int} {tv : V} (ti : TIn S) (h : drw S ls tv > 0) : Jsi S tv < S.Bs.length:=by
 cases tv with
 | int t =>
  unfold drw at h;unfold Jsi;dsimp only at h ⊢;cases e : S.Ts[t.toNat]? with
  | none=>rw [e] at h; exact absurd (show (0 : Int) > 0 from h) (by decide)
  | some T=>exact Jsj (ti T (List.mem_of_getElem? e)).1
 | _=>exact absurd (show (0 : Int) > 0 from h) (by decide)
theorem Yo {S : Riv} {ls : List Int} {tv : V} (ti : TIn S) (l : ls.length = S.Bs.length) : (lft S ls tv).sum = ls.sum - drw S ls tv:=by
 have d:=(Jvr (ls:=ls) (tv:=tv) ti).1;unfold lft;split
 ·rename_i h
  exact Jvg (by rw [l]; exact Yh ti h)
 ·omega
theorem Jzw {S : Riv} {Gs : List Jko} {ls cs rn : List Int} {tv : V} (ti : TIn S) (l : ls.length = S.Bs.length) (so : SetsOk Gs cs (lft S ls tv)) (g : Gs.length = S.Bs.length) (r : rn.length = S.Bs.length) : ls.sum + rn.sum = (Jn8 S Gs ls cs tv rn).sum + drw S ls tv + (Jme S Gs ls cs tv).getLast?.getD 0:=by
 have e:=so.len;have ol : (Jme S Gs ls cs tv).length = Gs.length:=Jmh e.1 e.2;have fl : (lft S ls tv).length = ls.length:=Jox;have a:=Jwl (g:=0) (ls:=lft S ls tv) (os:=Jme S Gs ls cs tv) (rs:=rn) (by omega) (by omega);have b:=Yo (tv:=tv) ti l;unfold Jn8;omega
theorem Ym {os : List Int} (h : 1 ≤ os.length) : atI (os.map V.int) (-1) = some (.int (os.getLast?.getD 0)):=by
 unfold atI;have e : ixN (os.map V.int).length (-1) = some (os.length - 1):=by
  unfold ixN;rw [List.length_map,if_neg (by omega)];rw [if_pos (by omega)];congr 1;omega
 rw [e];show (os.map V.int)[os.length - 1]? = _;rw [List.getElem?_map,List.getLast?_eq_getElem?,List.getElem?_eq_getElem (by omega)];rfl
theorem Y3 : ∀ {k : Nat} {Bs : List Bsn} {ls : List Int},ls.length = Bs.length → (wl (ls.map V.int) (Bs.map (·.lo)) (Bs.map (·.hi))).all id = decide (Jm2 k Bs ls = [])
 | _,[],[],_=>rfl
 | _,[],_ :: _,e=>by simp at e
 | _,_ :: _,[],e=>by simp at e
 | k,B :: Bs,l :: ls,e=>by
  have ih:=Y3 (k:=k + 1) (Bs:=Bs) (ls:=ls) (by simpa using e);show ((decide (B.lo ≤ l) && decide (l ≤ B.hi)) && (wl (ls.map V.int) (Bs.map (·.lo)) (Bs.map (·.hi))).all id) = decide ((if B.lo ≤ l ∧ l ≤ B.hi then Jm2 (k + 1) Bs ls else (k : Int) :: Jm2 (k + 1) Bs ls) = []);rw [ih];by_cases h : B.lo ≤ l ∧ l ≤ B.hi
  ·rw [if_pos h,decide_eq_true h.1,decide_eq_true h.2];rfl
  ·rw [if_neg h];have : (decide (B.lo ≤ l) && decide (l ≤ B.hi)) = false:=by
    rw [Bool.and_eq_false_iff,decide_eq_false_iff_not,decide_eq_false_iff_not];omega
   rw [this];simp
theorem Jz7 : ∀ {ns los his : List Int},ns.length = los.length → los.length = his.length → (∀ (i : Nat) (n l h : Int),ns[i]? = some n → los[i]? = some l → his[i]? = some h → l ≤ n ∧ n ≤ h) → (wl (ns.map V.int) los his).all id = true
 | [],[],_,_,_,_=>rfl
 | [],_ :: _,_,e,_,_=>by simp at e
 | _ :: _,[],_,e,_,_=>by simp at e
 | _ :: _,_ :: _,[],_,e,_=>by simp at e
 | n :: ns,l :: los,h :: his,e1,e2,f=>by
  have ih:=Jz7 (ns:=ns) (los:=los) (his:=his) (by simpa using e1) (by simpa using e2) fun i n l h q1 q2 q3=>f (i + 1) n l h (by simpa using q1) (by simpa using q2) (by simpa using q3);have q:=f 0 n l h rfl rfl rfl;show ((decide (l ≤ n) && decide (n ≤ h)) && (wl (ns.map V.int) los his).all id) = true;rw [ih,decide_eq_true q.1,decide_eq_true q.2];rfl
theorem Jud {ns los his : List Int} (e1 : ns.length = los.length) (e2 : los.length = his.length) (f : ∀ (i : Nat) (n l h : Int),ns[i]? = some n → los[i]? = some l → his[i]? = some h → l ≤ n ∧ n ≤ h) : Jn5 (some (ns.map V.int)) los his = true:=by
 show (decide ((ns.map V.int).length = los.length) && (wl (ns.map V.int) los his).all id) = true;rw [Jz7 e1 e2 f,List.length_map,decide_eq_true e1];rfl
theorem Jzq {S : Riv} {u : V} {lv : List Int} {wet : Int} (l : lv.length = S.Bs.length) (w : 0 ≤ wet ∧ wet ≤ S.c) : stB S (.two u (.int wet) (some (lv.map V.int))) = decide (Jm2 0 S.Bs lv = []):=by
 show ((decide (0 ≤ wet) && decide (wet ≤ S.c)) && (decide ((lv.map V.int).length = (S.Bs.map (·.lo)).length) && (wl (lv.map V.int) (S.Bs.map (·.lo)) (S.Bs.map (·.hi))).all id)) = _;rw [Y3 (k:=0) l,decide_eq_true w.1,decide_eq_true w.2,List.length_map,List.length_map,decide_eq_true l];rfl
theorem Jyf : ∀ {k : Nat} {Bs : List Bsn} {ls : List Int},Jm2 k Bs ls = [] → ∀ (i : Nat) (n : Int) (B : Bsn),ls[i]? = some n → Bs[i]? = some B → B.lo ≤ n ∧ n ≤ B.hi
 | k,B :: Bs,l :: ls,h,i,n,C,e1,e2=>by
  have h' : (if B.lo ≤ l ∧ l ≤ B.hi then Jm2 (k + 1) Bs ls else (k : Int) :: Jm2 (k + 1) Bs ls) = []:=h;split at h'
  ·rename_i q
   cases i with
   | zero=>cases e1; cases e2; exact q
   | succ i=>exact Jyf h' i n C (by simpa using e1) (by simpa using e2)
  ·cases h'
 | _,[],_,_,_,_,_,_,e=>by simp at e
 | _,_ :: _,[],_,_,_,_,e,_=>by simp at e
theorem Jv0 {R : Jl2} {S : Riv} (h : Jqe R S) (wet : Int) : Jnw S wet = Jlu R wet:=by
 unfold Jnw Jlu;rw [h.c,h.g,show S.Bs.map (·.rn) = R.Bs.map (·.rn) from Joc h (·.2.2.2.2.1)];generalize (R.Bs.map (·.rn)).sum = m;generalize wet + R.g - R.c = n;split <;> split <;> split <;> (try split) <;> omega
theorem Yw {kd : Str} {m lv : Int} (h : Knd kd) (hm : Jmg kd ≤ m) (l : 0 ≤ lv) : 0 ≤ Jn3 kd m lv ∧ Jn3 kd m lv ≤ lv:=by
 have m0 : 0 ≤ m:=by
  unfold Jmg at hm;split at hm <;> omega
 unfold Jn3;split
 ·split <;> omega
 ·split
  ·split <;> omega
  ·exact ⟨Int.ediv_nonneg l m0,Int.ediv_le_self m l⟩
theorem lvG_in {G : Jko} {s lv : Int} (gg : GGood G) (hs : 0 ≤ s ∧ s < (nOf G : Int)) (hl : 0 ≤ lv) : 0 ≤ lvG G s lv ∧ lvG G s lv ≤ lv:=by
 obtain ⟨j,hj,e⟩ : ∃ j : Int,(0 ≤ j ∧ j < G.ns.length) ∧ lvG G s lv = Jn3 G.kd (G.ns.getD j.toNat 0) lv:=by
  unfold lvG;unfold nOf at hs;cases e : G.sv with
  | none =>
   rw [e] at hs;exact ⟨s,hs,rfl⟩
  | some j=>exact ⟨j,gg.sv j e,rfl⟩
 rw [e];exact Yw gg.kd (gg.marks _ (Jpw hj).2).1 hl
theorem Jwx : ∀ {Gs : List Jko} {cs ls : List Int},SetsOk Gs cs ls → (∀ l ∈ ls,0 ≤ l ∧ l ≤ 12) → ∀ n ∈ Jpa Gs cs ls,0 ≤ n ∧ n ≤ 12
 | [],[],[],_,_,n,h=>by simp [Jpa] at h
 | G :: Gs,c :: cs,l :: ls,⟨⟨g,hc,hl⟩,t⟩,b,n,h=>by
  have h' : n ∈ lvG G c l :: Jpa Gs cs ls:=h;rcases List.mem_cons.mp h' with rfl | h'
  ·have:=lvG_in g hc hl.1;have:=b l (by simp);omega
  ·exact Jwx t (fun l hl=>b l (by simp [hl])) n h'
theorem Jye : ∀ {g : Int} {ls os rs : List Int},(0 ≤ g ∧ g ≤ 12) → (∀ n ∈ ls,0 ≤ n ∧ n ≤ 12) → (∀ n ∈ os,0 ≤ n ∧ n ≤ 12) → (∀ n ∈ rs,0 ≤ n ∧ n ≤ 6) → ∀ n ∈ Joa g ls os rs,-12 ≤ n ∧ n ≤ 36
 | g,l :: ls,o :: os,r :: rs,hg,h1,h2,h3,n,h=>by
  have h' : n ∈ (l - o + g + r) :: Joa o ls os rs:=h;have a1:=h1 l (by simp);have a2:=h2 o (by simp);have a3:=h3 r (by simp);rcases List.mem_cons.mp h' with rfl | h'
  ·omega
  ·exact Jye a2 (fun n h=>h1 n (by simp [h])) (fun n h=>h2 n (by simp [h])) (fun n h=>h3 n (by simp [h])) n h'
 | _,[],_,_,_,_,_,_,_,h=>by simp [Joa] at h
 | _,_ :: _,[],_,_,_,_,_,_,h=>by simp [Joa] at h
 | _,_ :: _,_ :: _,[],_,_,_,_,_,h=>by simp [Joa] at h
noncomputable def Jzn (a : Ad) : Sp:=fun vs H Q _=>∃ (p dx u lv q : Addr) (c r : V) (d wt : Int),vs = [.ref p] ∧ H p = some (.ins a.Jjq dx (trnF c r d u lv wt q)) ∧ ∀ t H', Same H H' → H' t = some (.tup [.ref lv,.int wt]) → Q (.ref t) H'
noncomputable def Jzh (K : W.Frag) (a : Ad) : Sp:=fun vs H Q _=>∃ (p o : Addr) (td : V) (R : Jl2) (S : Riv) (x c : V) (ls cs : List Int) (wt : Int) (tv : V) (ra : Addr) (rn : List Int),vs = [td,.ref o,x,c,.ref ra] ∧ RTAt p H td R ∧ Jmd R ∧ Jqe R S ∧ RvX K a H o S (R.Bs.map (·.G)) ∧ StdAt H x R ls wt ∧ ChcAt H c R cs tv ∧ H ra = some (.tup (rn.map V.int)) ∧ RnIn R wt rn ∧ ∀ H', Same H H' → Q (.bl true) H'
theorem Js2 {as bs : List Int} (h : as.map V.int = bs.map V.int) : as = bs:=by
 have:=congrArg (List.map Jr4) h;simpa [List.map_map,Function.comp_def,Jr4] using this
theorem StA.inj {H : Hp} {x : V} {S : Riv} {ls ls' : List Int} {wt wt' : Int} (h : StA H x S ls wt) (h' : StA H x S ls' wt') : ls' = ls ∧ wt' = wt:=by
 obtain ⟨y,u,rfl,h1,h2,_⟩:=h;obtain ⟨y', u', e,h1', h2', _⟩:=h';cases e;rw [h1] at h1';cases h1';rw [h2] at h2';have e : ls.map V.int = ls'.map V.int:=by simpa using h2'
 exact ⟨(Js2 e).symm,rfl⟩
theorem ChA.inj {H : Hp} {x : V} {S : Riv} {ls ls' : List Int} {wt wt' : V} (h : ChA H x S ls wt) (h' : ChA H x S ls' wt') : ls' = ls ∧ wt' = wt:=by
 obtain ⟨y,u,rfl,h1,h2,_⟩:=h;obtain ⟨y', u', e,h1', h2', _⟩:=h';cases e;rw [h1] at h1';cases h1';rw [h2] at h2';have e : ls.map V.int = ls'.map V.int:=by simpa using h2'
 exact ⟨(Js2 e).symm,rfl⟩
theorem Jpv {R : Jl2} {S : Riv} (lk : Jqe R S) {i : Nat} {B : Bsn} {C : Jm9} (h1 : S.Bs[i]? = some B) (h2 : R.Bs[i]? = some C) : Jpp B = Jt8 C:=by
 have k1 : (S.Bs.map Jpp)[i]? = some (Jpp B):=by rw [List.getElem?_map,h1]; rfl
 rw [lk.Bs,List.getElem?_map,h2] at k1;exact (Option.some.inj k1).symm
structure RgIn (K : W.Frag) (a : Ad) (p : Addr) (H : Hp) (o : Addr) (td : V) (R : Jl2) (S : Riv) (x c : V) (ls cs : List Int) (wt : Int) (tv : V) (ra : Addr) (rn : List Int) (q r : Pr) : Prop where
 rv : RvX K a H o S (R.Bs.map (·.G))
 li : LTIn p H td R S x c ls cs wt tv ra rn
 px : PrT K H x q
 sb : stB S q = true
 wq : Jsq q = wt
 pc : PrT K H c r
 cb : chB S r = true
 rr : RowT K H (.ref ra) (some (rn.map V.int))
 rb : rnB S wt (some (rn.map V.int)) = true
 w0 : 0 ≤ Jp4 S wt rn ∧ Jp4 S wt rn ≤ S.c
 lb : ∀ n ∈ ls,0 ≤ n ∧ n ≤ 12
 rd : ∀ n ∈ rn,0 ≤ n ∧ n ≤ 6
theorem RgIn.of {K : W.Frag} {a : Ad} {p o : Addr} {H : Hp} {td : V} {R : Jl2} {S : Riv} {x c : V} {ls cs : List Int} {wt : Int} {tv : V} {ra : Addr} {rn : List Int} (rt : RTAt p H td R) (rg : Jmd R) (lk : Jqe R S) (rv : RvX K a H o S (R.Bs.map (·.G))) (sd : StdAt H x R ls wt) (ch : ChcAt H c R cs tv) (hra : H ra = some (.tup (rn.map V.int))) (ri : RnIn R wt rn) : ∃ q r,RgIn K a p H o td R S x c ls cs wt tv ra rn q r:=by
 have hl:=Job lk;have hn:=rg.n;obtain ⟨⟨y,u,rfl,hy,hu⟩,lls,lin,w0,w1⟩:=id sd;obtain ⟨⟨z,zu,rfl,hz,hzu⟩,lcs,cin,tw⟩:=id ch;obtain ⟨rl,rb,rs,rf⟩:=ri;have twS : TwnIn S tv:=by
  rcases tw with h | ⟨j,h,j0,j1⟩
  ·exact .inl h
  ·exact .inr ⟨j,h,j0,by rw [Jqn lk]; exact j1⟩
 have lvi : LvIn S ls:=fun i n B e1 e2=>by
  obtain ⟨C,eC,b⟩:=lin i n e1;have q:=Jpv lk e2 eC;have q1 : B.lo = C.lo:=congrArg (·.2.1) q;have q2 : B.hi = C.hi:=congrArg (·.2.2.1) q;rw [q1,q2];exact b
 have csi : CsIn S cs:=fun i n B e1 e2=>by
  obtain ⟨n0,_,C,eC,b⟩:=cin i n e1;have q:=Jpv lk e2 eC;have q1 : B.n = nOf C.G:=congrArg (·.2.2.2.2.2) q;omega
 have rd : ∀ n ∈ rn,0 ≤ n ∧ n ≤ 6:=fun n hn=>by
  obtain ⟨i,hi⟩:=List.getElem?_of_mem hn;have hi' : i < rn.length:=(List.getElem?_eq_some_iff.mp hi).1;have e : R.Bs[i]? = some (R.Bs[i]'(by omega)):=List.getElem?_eq_getElem (by omega);have:=rb i n _ hi e;have:=(rg.Bs _ (List.mem_of_getElem? e)).1.rn;omega
 have sm : Sml rn:=⟨by omega,fun n hn=>by
  have:=rd n hn;omega⟩
 have lb : ∀ n ∈ ls,0 ≤ n ∧ n ≤ 12:=fun n hn=>by
  obtain ⟨i,hi⟩:=List.getElem?_of_mem hn;obtain ⟨C,eC,b⟩:=lin i n hi;have g:=(rg.Bs _ (List.mem_of_getElem? eC)).1;have:=g.lo;have:=g.hi;omega
 have st : StA H (.ref y) S ls wt:=⟨y,u,rfl,hy,hu,by omega⟩;have chA : ChA H (.ref z) S cs tv:=⟨z,zu,rfl,hz,hzu,by omega,twS⟩;have so:=rv.sets (tv:=tv) (ls:=ls) (cs:=cs) (by omega) (by omega) lvi csi;refine ⟨.two (.ref u) (.int wt) (some (ls.map V.int)),.two (.ref zu) tv (some (cs.map V.int)),rv,⟨rt,rg,lk,st,chA,hra,by omega,sm,so⟩,⟨y,rfl,hy,⟨u,rfl,hu,fun v hv=>Jo2 hv,by rw [List.length_map]; omega⟩,.inl ⟨wt,rfl⟩⟩,?_,rfl,⟨z,rfl,hz,⟨zu,rfl,hzu,fun v hv=>Jo2 hv,by rw [List.length_map]; omega⟩,?_⟩,?_,⟨ra,rfl,hra,fun v hv=>Jo2 hv,by rw [List.length_map]; omega⟩,?_,?_,lb,rd⟩
 ·show ((decide (0 ≤ wt) && decide (wt ≤ S.c)) && Jn5 (some (ls.map V.int)) (S.Bs.map (·.lo)) (S.Bs.map (·.hi))) = true;rw [Jud (by rw [List.length_map]; omega) (by simp),decide_eq_true w0,decide_eq_true (by rw [lk.c]; exact w1)]
  ·rfl
  ·intro i n l h e1 e2 e3;rw [List.getElem?_map] at e2 e3;obtain ⟨B,hB,rfl⟩:=Option.map_eq_some_iff.mp e2;rw [hB] at e3;cases e3;exact lvi i n B e1 hB
 ·rcases tw with rfl | ⟨j,rfl,_⟩
  ·exact Yap rfl
  ·exact .inl ⟨j,rfl⟩
 ·show (Jqa S.Ts.length tv && Jn5 (some (cs.map V.int)) (List.replicate S.Bs.length 0) (S.Bs.map fun B=>(B.n : Int) - 1)) = true;rw [Jud (by rw [List.length_replicate]; omega) (by simp)]
  ·rcases twS with rfl | ⟨j,rfl,j0,j1⟩
   ·rfl
   ·show ((decide (0 ≤ j) && decide (j ≤ (S.Ts.length : Int) - 1)) && true) = true;rw [decide_eq_true j0,decide_eq_true (show j ≤ (S.Ts.length : Int) - 1 by omega)];rfl
  ·intro i n l h e1 e2 e3;rw [List.getElem?_map] at e3;obtain ⟨B,hB,rfl⟩:=Option.map_eq_some_iff.mp e3;rw [List.getElem?_replicate] at e2;split at e2
   ·cases e2;exact csi i n B e1 hB
   ·cases e2
 ·show (Jn5 (some (rn.map V.int)) (List.replicate S.Bs.length 0) (S.Bs.map (·.rn)) && (decide (Jnw S wt ≤ Jum (rn.map V.int)) && decide (Jum (rn.map V.int) ≤ wt))) = true;rw [Jud (by rw [List.length_replicate]; omega) (by simp),Jtn,Jv0 lk,decide_eq_true rs,decide_eq_true rf]
  ·rfl
  ·intro i n l h e1 e2 e3;rw [List.getElem?_map] at e3;obtain ⟨B,hB,rfl⟩:=Option.map_eq_some_iff.mp e3;have hi : i < S.Bs.length:=(List.getElem?_eq_some_iff.mp hB).1;rw [List.getElem?_replicate,if_pos hi] at e2;cases e2;have eC : R.Bs[i]? = some (R.Bs[i]'(by omega)):=List.getElem?_eq_getElem (by omega);have q1 : B.rn = (R.Bs[i]'(by omega)).rn:=congrArg (·.2.2.2.2.1) (Jpv lk hB eC);rw [q1];exact rb i n _ e1 eC
 ·have:=rg.c;have:=rg.g;unfold Jp4;rw [lk.c,lk.g];split <;> omega
theorem RgIn.same {K : W.Frag} {a : Ad} {p o : Addr} {H H' : Hp} {td : V} {R : Jl2} {S : Riv} {x c : V} {ls cs : List Int} {wt : Int} {tv : V} {ra : Addr} {rn : List Int} {q r : Pr} (s : Same H H') (h : RgIn K a p H o td R S x c ls cs wt tv ra rn q r) : RgIn K a p H' o td R S x c ls cs wt tv ra rn q r :=
 ⟨h.rv.same s,h.li.same s,h.px.same s,h.sb,h.wq,h.pc.same s,h.cb,h.rr.same s,h.rb,h.w0,h.lb,h.rd⟩
theorem TrnAt.same {a : Ad} {H H' : Hp} {p : Addr} {c r : V} {S : Riv} {Gs : List Jko} {ls cs : List Int} {wt : Int} {tv : V} {rn : List Int} (s : Same H H') (h : TrnAt a H p c r S Gs ls cs wt tv rn) : TrnAt a H' p c r S Gs ls cs wt tv rn:=by obtain ⟨dx,u,lv,q,h1,h2,h3,h4⟩:=h; exact ⟨dx,u,lv,q,s _ _ h1,s _ _ h2,s _ _ h3,s _ _ h4⟩
theorem Alk.int {H : Hp} {d : Nat} (n : Int) : Alk H (d + 1) (.int n) (.int n):=.inl ⟨rfl,.inr (.inl ⟨n,rfl⟩)⟩
theorem Alk.bl {H : Hp} {d : Nat} (n : Bool) : Alk H (d + 1) (.bl n) (.bl n):=.inl ⟨rfl,.inr (.inr ⟨n,rfl⟩)⟩
theorem Alk.ints {H : Hp} {d : Nat} {u v : Addr} {ns : List Int} (h1 : H u = some (.tup (ns.map V.int))) (h2 : H v = some (.tup (ns.map V.int))) (l : ns.length < 100) : Alk H (d + 2) (.ref u) (.ref v) :=
 .inr ⟨u,v,_,_,rfl,rfl,h1,h2,rfl,by rw [List.length_map]; exact l,fun i x y e1 e2=>by
  rw [e1] at e2;cases e2;rw [List.getElem?_map] at e1;obtain ⟨n,_,rfl⟩:=Option.map_eq_some_iff.mp e1;exact .int n⟩
theorem Alk.two {H : Hp} {d : Nat} {u v : Addr} {x y x' y' : V} (h1 : H u = some (.tup [x,y])) (h2 : H v = some (.tup [x', y'])) (a1 : Alk H d x x') (a2 : Alk H d y y') : Alk H (d + 1) (.ref u) (.ref v) :=
 .inr ⟨u,v,_,_,rfl,rfl,h1,h2,rfl,by simp,fun i p q e1 e2=>by
  match i with
  | 0=>cases e1; cases e2; exact a1
  | 1=>cases e1; cases e2; exact a2
  | i + 2=>simp at e1⟩
theorem Alk.six {H : Hp} {d : Nat} {u v : Addr} {x1 x2 x3 x4 x5 x6 y1 y2 y3 y4 y5 y6 : V} (h1 : H u = some (.tup [x1,x2,x3,x4,x5,x6])) (h2 : H v = some (.tup [y1,y2,y3,y4,y5,y6])) (a1 : Alk H d x1 y1) (a2 : Alk H d x2 y2) (a3 : Alk H d x3 y3) (a4 : Alk H d x4 y4) (a5 : Alk H d x5 y5) (a6 : Alk H d x6 y6) : Alk H (d + 1) (.ref u) (.ref v) :=
 .inr ⟨u,v,_,_,rfl,rfl,h1,h2,rfl,by simp,fun i p q e1 e2=>by
  match i with
  | 0=>cases e1; cases e2; exact a1
  | 1=>cases e1; cases e2; exact a2
  | 2=>cases e1; cases e2; exact a3
  | 3=>cases e1; cases e2; exact a4
  | 4=>cases e1; cases e2; exact a5
  | 5=>cases e1; cases e2; exact a6
  | i + 6=>simp at e1⟩
theorem Js0 {K : W.Frag} {H : Hp} : ∀ ns : List Int,DatVs K H (ns.map V.int) (ns.map PyData.int)
 | []=>.nil
 | _ :: r=>.cons (.int _) (Js0 r)
theorem Jq8 (ns : List Int) : SeqAt.shaped (.tuple (ns.map PyData.int)) = true:=by
 have e1 : ∀ l : List Int,PyData.canLayAll0 (l.map PyData.int) = true:=by
  intro l
  induction l with
  | nil=>rfl
  | cons c r ih=>simp only [List.map_cons,PyData.canLayAll0,PyData.canLay0,ih,Bool.and_self]
 have e2 : ∀ l : List Int,PyData.depthAll (l.map PyData.int) = 0:=by
  intro l
  induction l with
  | nil=>rfl
  | cons c r ih=>simp [PyData.depthAll,PyData.depth,ih]
 simp [SeqAt.shaped,PyData.canLay0,PyData.depth,e1 ns,e2]
theorem Juy (ns : List Int) : PyData.eqv (.tuple (ns.map PyData.int)) (.tuple []) = decide (ns = []):=by
 cases ns <;> rfl
section
variable {P : Program} {w : World} {K : W.Frag} {mg : Str → Option Value} {base : Heap} {a : Ad}
theorem Jr0 : Jkb ["self"] ["self"] (Jk6 (Jk9 (top 35) 1)):=%[|0]
theorem Jqt (T : Tx K mg a) : FnOk P w K mg base CX0 1 a.Jgm a.Jgn ["self"] (Jzn a):=by
 refine T.Jbt.fn.ok Jr0 (fun vs H Q E h=>?_) (fun cdv A outer s H vs Q E hr h=>?_)
 ·obtain ⟨p,dx,u,lv,q,c,r,d,wt,rfl,_⟩:=h;rfl
 ·obtain ⟨p,dx,u,lv,q,c,r,d,wt,rfl,hp,k⟩:=h;refine ⟨?t,?B,?C⟩
  case B =>
   refine' Jk3 ?s1
   case s1 =>
    exact (Jkd (Jly (Jjz (Jkn (pv 0) (by rfl)) (Jjz (Jkn (pv 0) (by rfl)) Jk1))))
  refine ⟨_,rfl,p,_,dx,_,_,rfl,hp,T.Jcs,T.Jd1,rfl,_,rfl,p,_,dx,_,_,rfl,hp,T.Jcs,T.Jd2,rfl,(show 2 ≤ sizeLine by decide),fun t ht=>k t _ (Same.upd ht) Jk0⟩
theorem sc_law_turn_right : Jkb ["_law_told","_law_river_here","_law_standing_here","_law_choice_here","_law_rain_here","_law_turn","_law_due","_law_found"] ["_law_told","_law_river_here","_law_standing_here","_law_choice_here","_law_rain_here"] (Jk6 (top 83)):=%[|0]
theorem Jpz (T : Tx K mg a) : FnOk P w K mg base CX0 8 a.Jj2 a.Jj3 ["_law_told","_law_river_here","_law_standing_here","_law_choice_here","_law_rain_here"] (Jzh K a):=by
 have G_turned:=%[Jxq|1];have G_paid_by:=%[Jw2|1];have G_is_standing:=%[Jn1|1];have G_Turn_standing:=%[Jqt|1];have G__law_turned:=%[Jp9|1];have G__law_same:=Jre (P:=P) (w:=w) (base:=base) T 4;refine T.Ja8.fn.ok sc_law_turn_right (fun vs H Q E h=>?_) (fun cdv A outer s H vs Q E hr h=>?_)
 ·obtain ⟨p,o,td,R,S,x,c,ls,cs,wt,tv,ra,rn,rfl,_⟩:=h;rfl
 ·obtain ⟨p,o,td,R,S,x,c,ls,cs,wt,tv,ra,rn,rfl,rt,rg,lk,rv,sd,ch,hra,ri,k⟩:=h;have hu64:=Jwr hr;refine ⟨?t,?B,?C⟩
  case B =>
   refine' Jk2 ?s1 ?r1
   case s1 =>
    exact (Jki (i:=5) sc_law_turn_right.nd rfl (Or.inl rfl) (Jk5 T.Ji G_turned.calm hr (by decide) (pa4 (pv 1) (pv 2) (pv 3) (pv 4))))
   case r1 =>
    refine' Jk2 ?s3 ?r3
    case s3 =>
     exact (Jki (i:=6) sc_law_turn_right.nd rfl (Or.inl rfl) (Jk5 T.Ja6 G__law_turned hr (by decide) (pa4 (pv 0) (pv 2) (pv 3) (pv 4))))
    case r3 =>
     refine' Jk2 ?s5 ?r5
     case s5 =>
      exact (Jki (i:=7) sc_law_turn_right.nd rfl (Or.inl rfl) (Jly (pa6 (Jkn (pv 5) (by rfl)) (Jkn (pv 5) (by rfl)) (Jkn (pv 5) (by rfl)) (Jkn (pv 5) (by rfl)) (Jkn (pv 5) (by rfl)) (Jkn (pv 5) (by rfl)))))
     case r5 =>
      refine' Jk2 ?s7 ?r7
      case s7 =>
       refine' Jks ?c8 ?a8 ?b8
       case c8 =>
        exact (Jq4 (Jkp (Jkq (Jka Jld (by rfl) T.Jao Jkk (Jjz (pv 5) (Jjz (Jlb (by rfl) T.Jb9 (v:=.ref _) rfl) Jk1))))) (Jo0 (Jkp (Jkq (Jk5 T.Ja7 G__law_same hr (by decide) (Jjz (pv 7) (Jjz (pv 6) Jk1))))))).pt
       case a8 =>
        refine' Jk3 ?s9
        case s9 =>
         exact (Jkd Jlx)
       case b8 =>
        exact Jkg
      case r7 =>
       refine' Jk2 ?s13 ?r13
       case s13 =>
        refine' Jks ?c14 ?a14 ?b14
        case c14 =>
         exact (Jq4 (Jkp (Jkq (Jk5 T.Ja7 G__law_same hr (by decide) (Jjz (Jly (Jjz (Jkn (pv 5) (by rfl)) (Jjz (Jkn (pv 5) (by rfl)) Jk1))) (Jjz (Jly (Jjz (pv 3) (Jjz (pv 4) Jk1))) Jk1))))) (Jo0 (Jkp (Jkq (Jk5 T.Ja7 G__law_same hr (by decide) (Jjz (Jv9 (pv 5) T.Jcs T.Jcv G_Turn_standing (hr.mono (by decide)) T.Jbt.bd .nil Jnq) (Jjz (Jol Jwe (pv 6) Jq2 (Jq3 Jk4)) Jk1))))))).pt
        case a14 =>
         refine' Jk3 ?s15
         case s15 =>
          exact (Jkd Jlx)
        case b14 =>
         exact Jkg
       case r13 =>
        refine' Jk2 ?s19 ?r19
        case s19 =>
         refine' Jks ?c20 ?a20 ?b20
         case c20 =>
          exact (Jkp (Jkq (Jk5 T.Ja7 G__law_same hr (by decide) (Jjz (Jk5 T.Jd G_paid_by.calm hr (by decide) (Jjz (pv 1) (Jjz (pv 2) (Jjz (pv 3) Jk1)))) (Jjz (Jke Jkj (pv 6) Jk4 (fun _ _=>rfl)) Jk1)))))
         case a20 =>
          refine' Jk3 ?s21
          case s21 =>
           exact (Jkd Jlx)
         case b20 =>
          exact Jkg
        case r19 =>
         refine' Jk2 ?s25 ?r25
         case s25 =>
          refine' Jks ?c26 ?a26 ?b26
          case c26 =>
           exact (Jl6 Jz1 (Jkh Jkv (Jka (Jm4 rfl) (by rfl) T.Jaw Jnc (Jjz (Jke Jkj (pv 2) Jk4 (fun _ _=>rfl)) Jk1)) (Jka (Jm4 rfl) (by rfl) T.Jaw Jnc (Jjz (pv 4) Jk1))) (Jkh Jkv (Jkh Jkv (Jka (Jm4 rfl) (by rfl) T.Jaw Jnc (Jjz (Jkn (pv 5) (by rfl)) Jk1)) (Jkn (pv 5) (by rfl))) (Jke Jkj (Jkn (pv 5) (by rfl)) (pe_un Jzx Jk4) (fun _ _=>rfl))) (Jkt _))
          case a26 =>
           refine' Jk3 ?s27
           case s27 =>
            exact (Jkd Jlx)
          case b26 =>
           exact Jkg
         case r25 =>
          refine' Jk3 ?s31
          case s31 =>
           exact (Jkd (Jlk Jnp (Jk5 T.J6 G_is_standing hr (by decide) (Jjz (pv 1) (Jjz (Jv9 (pv 5) T.Jcs T.Jcv G_Turn_standing (hr.mono (by decide)) T.Jbt.bd .nil Jnq) Jk1))) (Jlk (op_eqD hu64) (Jke Jkj (pv 6) Jk4 (fun _ _=>rfl)) (Jly Jk1) (Jkt _)) (Jkt _)))
  obtain ⟨q,r,g⟩:=RgIn.of rt rg lk rv sd ch hra ri;refine ⟨_,rfl,_,rfl,_,rfl,_,rfl,o,S,_,x,c,.ref ra,q,r,_,rfl,rv,g.px,g.pc,g.rr,?_⟩;unfold Juq;rw [if_pos g.sb,if_pos g.cb,g.wq,if_pos g.rb];intro ls' cs' rn' wt' tv' ra' t H1 st' ch' er hr' s1 tr;obtain ⟨rfl,rfl⟩:=StA.inj g.li.st st';obtain ⟨rfl,rfl⟩:=ChA.inj g.li.ch ch';cases er;rw [hra] at hr';obtain rfl : rn = rn':=Js2 (by simpa using hr');have g1:=g.same s1;refine ⟨_,rfl,_,rfl,_,rfl,_,rfl,p,td,R,S,x,c,ls', cs', wt', tv', ra,rn,rfl,g1.li,fun yd H2 s2 du=>?_⟩;have g2:=g1.same s2;obtain ⟨dx,u,lv,b,ht,hu,hlv,hb⟩:=tr.same s2;obtain ⟨d,u1,u2,u3,rfl,hd,h1,h2,h3⟩:=id du;refine ⟨_,rfl,t,_,dx,_,_,rfl,ht,T.Jcs,T.Jd1,rfl,_,rfl,t,_,dx,_,_,rfl,ht,T.Jcs,T.Jd2,rfl,_,rfl,t,_,dx,_,_,rfl,ht,T.Jcs,T.Jd0,rfl,_,rfl,t,_,dx,_,_,rfl,ht,T.Jcs,T.Jcy,rfl,_,rfl,t,_,dx,_,_,rfl,ht,T.Jcs,T.Jcz,rfl,_,rfl,t,_,dx,_,_,rfl,ht,T.Jcs,T.Jd3,rfl,(show 6 ≤ sizeLine by decide),fun f hf=>?_⟩;have s3:=Same.upd (o:=.tup [.ref lv,.int (Jp4 S wt' rn),.ref u,.int (drw S ls' tv'),.bl (decide (drw S ls' tv' > 0)),.ref b]) hf;have yT : W.kitOne K (.ref a.Jjq) (.ref a.Jjq) = some true:=by simp [W.kitOne]
  refine ⟨_,rfl,_,_,_,_,true,rfl,rfl,.of (T.Jct.ty T.Jcs (s3 _ _ ht)),yT,_,rfl,Jl1 ?_⟩;have n16:=rv.n16;have sl:=g.li.so.len;have gl : (R.Bs.map (·.G)).length = S.Bs.length:=rv.ln.symm;have fl : (lft S ls' tv').length = ls'.length:=Jox;have ol : (Jme S (R.Bs.map (·.G)) ls' cs' tv').length = S.Bs.length:=by
   rw [← gl];exact Jmh sl.1 sl.2
  have rl:=g.li.rl;have ll : (Jn8 S (R.Bs.map (·.G)) ls' cs' tv' rn).length = S.Bs.length:=by
   have : (Jn8 S (R.Bs.map (·.G)) ls' cs' tv' rn).length = (lft S ls' tv').length:=Jnj (by omega) (by omega);omega
  have bl:=Jpq (k:=0) (Bs:=S.Bs) (ls:=Jn8 S (R.Bs.map (·.G)) ls' cs' tv' rn);refine ⟨_,rfl,_,rfl,_,_,rfl,Alk.six (d:=3) Jk0 (s3 _ _ hd) (.ints (s3 _ _ hlv) (s3 _ _ h1) (by omega)) (.int _) (.ints (s3 _ _ hu) (s3 _ _ h2) (by omega)) (.int _) (.bl _) (.ints (s3 _ _ hb) (s3 _ _ h3) (by omega)),fun H4 s4=>⟨_,rfl,Jl1 ?_⟩⟩;have s34:=s3.trans s4;have g4:=g2.same s34;have ht4:=s34 _ _ ht;obtain ⟨z,zu,rfl,hz,hzu,cl,twS⟩:=g4.li.ch;refine ⟨_,rfl,t,_,dx,_,_,rfl,ht4,T.Jcs,T.Jcw,rfl,_,rfl,t,_,dx,_,_,rfl,ht4,T.Jcs,T.Jcx,rfl,(show 2 ≤ sizeLine by decide),fun f2 hf2=>?_⟩;have s5:=Same.upd (o:=.tup [.ref z,.ref ra]) hf2;refine ⟨_,rfl,_,rfl,(show 2 ≤ sizeLine by decide),fun f3 hf3=>?_⟩;have s6:=Same.upd (o:=.tup [.ref z,.ref ra]) hf3;have s56:=s5.trans s6;have at' : ∀ H', Alk H' 2 tv' tv':=fun H'=>by
   rcases twS with rfl | ⟨j,rfl,_⟩
   ·exact .inl ⟨rfl,.inl rfl⟩
   ·exact .int j
  refine ⟨_,_,rfl,Alk.two (d:=3) (s6 _ _ Jk0) Jk0 (.two (s56 _ _ hz) (s56 _ _ hz) (.ints (s56 _ _ hzu) (s56 _ _ hzu) (by omega)) (at' _)) (.ints (s56 _ _ g4.li.hr) (s56 _ _ g4.li.hr) (by omega)),fun H7 s7=>⟨_,rfl,Jl1 ?_⟩⟩;have s567:=s56.trans s7;have g7:=g4.same s567;have ht7:=s567 _ _ ht4;refine ⟨_,rfl,t,dx,_,rfl,ht7,rfl,t,dx,u,lv,b,_,_,_,_,rfl,ht7,fun t2 H8 s8 ht2=>?_⟩;have s478:=s34.trans (s567.trans s8);have hd8:=s478 _ _ hd;refine ⟨_,rfl,_,rfl,d,_,rfl,SqT.of hd8,(show ¬ (HT.sIx 6 0 none = 0 ∧ HT.sIx 6 6 (some 2) = 6) by decide),fun t3 ht3=>?_⟩;have s9:=Same.upd (o:=.tup [.ref u1,.int (Jp4 S wt' rn)]) ht3;have s49:=s478.trans s9;refine ⟨_,_,rfl,Alk.two (d:=3) (s9 _ _ ht2) Jk0 (.ints (s49 _ _ hlv) (s49 _ _ h1) (by omega)) (.int _),fun H10 s10=>⟨_,rfl,Jl1 ?_⟩⟩;have s410:=s49.trans s10;have g10:=g2.same s410;have hd10:=s410 _ _ hd;refine ⟨_,rfl,_,rfl,_,rfl,o,S,_,x,.ref z,q,r,rfl,g10.rv,g10.px,g10.pc,?_⟩;unfold Juq;rw [if_pos g.sb,if_pos g.cb];intro ls2 cs2 wt2 tv2 H11 st2 ch2 s11;obtain ⟨rfl,rfl⟩:=StA.inj g10.li.st st2;obtain ⟨rfl,rfl⟩:=ChA.inj g10.li.ch ch2;refine ⟨_,rfl,d,_,4,_,rfl,rfl,SqT.of (s11 _ _ hd10),rfl,_,_,rfl,.bl _,fun H12 s12=>⟨_,rfl,Jl1 ?_⟩⟩;have s412:=s410.trans (s11.trans s12);have g12:=g2.same s412;obtain ⟨y,yu,rfl,hy,hyu,yl⟩:=g12.li.st;have ht12:=s412 _ _ ht;refine ⟨_,rfl,y,_,0,_,rfl,rfl,SqT.of hy,rfl,yu,ls2,rfl,.inr (SqT.of hyu),?sm1,_,rfl,ra,rn,rfl,.inr (SqT.of g12.li.hr),g12.li.sm,_,_,rfl,rfl,?_⟩
  case sm1=>exact ⟨by omega,fun n hn=>by have:=g.lb n hn; omega⟩
  refine ⟨_,rfl,t,_,dx,_,_,rfl,ht12,T.Jcs,T.Jd1,rfl,lv,_,rfl,.inr (SqT.of (s412 _ _ hlv)),?sm2,_,rfl,t,_,dx,_,_,rfl,ht12,T.Jcs,T.Jcy,rfl,_,_,rfl,rfl,?_⟩
  case sm2 =>
   refine ⟨by omega,fun n hn=>?_⟩;have fi:=Jyx (tv:=tv2) rv.ti g.lb;have:=Jye ⟨Int.le_refl 0,by decide⟩ fi (Jwx g.li.so fi) g.rd n hn;omega
  refine ⟨_,rfl,t,_,dx,_,_,rfl,ht12,T.Jcs,T.Jd0,rfl,_,rfl,u,_,-1,_,rfl,rfl,SqT.of (s412 _ _ hu),Ym (by have:=rv.n1; omega),?_⟩;have tot:=Jzw (rn:=rn) rv.ti (by omega) g.li.so gl rl;refine ⟨_,_,rfl,rfl,rfl,_,rfl,ifF (by show (!decide (V.int (ls2.sum + rn.sum) = V.int _)) = false; rw [tot,decide_eq_true rfl]; rfl) ?_⟩;refine ⟨_,rfl,_,rfl,t,dx,_,rfl,ht12,rfl,t,dx,u,lv,b,_,_,_,_,rfl,ht12,fun t4 H13 s13 ht13=>?_⟩;have s413:=s412.trans s13;refine ⟨o,S,.ref t4,.two (.ref lv) (.int (Jp4 S wt2 rn)) (some ((Jn8 S (R.Bs.map (·.G)) ls2 cs2 tv2 rn).map V.int)),rfl,(g12.rv.same s13).ro,⟨t4,rfl,ht13,⟨lv,rfl,s413 _ _ hlv,fun v hv=>Jo2 hv,by rw [List.length_map]; omega⟩,.inl ⟨_,rfl⟩⟩,fun H14 s14=>?_⟩;have s414:=s413.trans s14;refine ⟨_,rfl,d,_,5,_,rfl,rfl,SqT.of (s414 _ _ hd),rfl,(show 0 ≤ sizeLine by decide),fun e he=>?_⟩;have s15:=Same.upd (o:=.tup []) he;have s415:=s414.trans s15;refine ⟨_,_,.tup (SqT.of (s415 _ _ h3)) (Js0 _),.tup (SqT.of Jk0) .nil,Jq8 _,rfl,rfl,?_⟩;rw [Jzq ll g.w0,if_neg (by decide),Juy,decide_eq_true rfl];exact k _ (s1.trans (s2.trans s415))
end
theorem rvx_of {K : W.Frag} {a : Ad} {H : Hp} {o : Addr} {S : Riv} {R : Jl2} (ro : RivAt K a H o S) (lk : Jqe R S) (rg : Jmd R) (gx : GXL a H (S.Bs.map (·.g)) (R.Bs.map (·.G))) : RvX K a H o S (R.Bs.map (·.G)):=by
 have hl:=Job lk;have hz : S.Bs.map (·.z) = R.Bs.map (·.z):=Joc lk (·.1);refine ⟨ro,gx,by rw [List.length_map]; exact hl,fun T hT=>?_,by have:=rg.n; omega,fun i B G hB hG=>?_⟩
 ·have : (T.z,T.b,T.wt) ∈ R.Ts.map (fun B=>(B.z,B.b,B.wt)):=by rw [← lk.Ts]; exact List.mem_map_of_mem (f:=fun B : Twn=>(B.z,B.b,B.wt)) hT
  obtain ⟨C,hC,e⟩:=List.mem_map.mp this;have q:=rg.Ts C hC;have e2 : C.b = T.b:=congrArg (·.2.1) e;have e3 : C.wt = T.wt:=congrArg (·.2.2) e;rw [hz,← e2,← e3];exact ⟨q.2.2.1,q.2.2.2.1,q.2.2.2.2⟩
 ·rw [List.getElem?_map] at hG;obtain ⟨C,hC,rfl⟩:=Option.map_eq_some_iff.mp hG;have k1 : (S.Bs.map Jpp)[i]? = some (Jpp B):=by rw [List.getElem?_map,hB]; rfl
  rw [lk.Bs,List.getElem?_map,hC] at k1;have e : Jt8 C = Jpp B:=Option.some.inj k1;have bg:=(rg.Bs C (List.mem_of_getElem? hC)).1;have e1 : C.lo = B.lo:=congrArg (·.2.1) e;have e2 : C.hi = B.hi:=congrArg (·.2.2.1) e;have e3 : nOf C.G = B.n:=congrArg (·.2.2.2.2.2) e;exact ⟨bg.G,e3.symm,by rw [← e1]; exact bg.lo.1,by rw [← e2]; exact bg.hi.2⟩
noncomputable def spLaw (K : W.Frag) : Sp:=fun vs H Q _=>∃ (a : Addr) (ns : List Int),vs = [.ref a] ∧ SqL K H a (ns.map V.int) ∧ ns.length ≤ 63 ∧ ∀ H', Q (.bl true) H'
theorem RTAt.move {p q : Addr} {H : Hp} {x : V} {R : Jl2} (rg : Jmd R) (hq : H q = none) (h : RTAt p H x R) : RTAt q H x R:=by
 obtain ⟨t,lb,lt,bs,ts,e,ht,hb,btl,htt,ttl,nb,nt⟩:=h;exact ⟨t,lb,lt,bs,ts,e,ht,hb,btl.map (fun _ _ _ h=>h.move hq) (fun B hB=>(rg.Bs B hB).1),htt,ttl,Jk8 hb hq,Jk8 htt hq⟩
theorem GXL.ll {a : Ad} {H H' : Hp} {xs : List V} {Gs : List Jko} (s : LL H H') (h : GXL a H xs Gs) : GXL a H' xs Gs:=h.map fun x G h=>by
 obtain ⟨g,⟨dx,t,h1,h2⟩,r⟩:=h;refine ⟨g,⟨dx,t,s.get (by intro _ z; cases z) h1,s.get (by intro _ z; cases z) h2⟩,?_⟩;cases e : G.sv with
 | none=>rw [e] at r; exact r
 | some j =>
  rw [e] at r;obtain ⟨q,dx,r1,r2⟩:=r;exact ⟨q,dx,r1,s.get (by intro _ z; cases z) r2⟩
theorem RvX.ll {K : W.Frag} {a : Ad} {H H' : Hp} {o : Addr} {S : Riv} {Gs : List Jko} (s : LL H H') (h : RvX K a H o S Gs) : RvX K a H' o S Gs:=⟨h.ro.ll s,h.gx.ll s,h.ln,h.ti,h.n1,h.ok⟩
theorem StdAt.but {p : Addr} {H H' : Hp} {x : V} {R : Jl2} {ls : List Int} {wt : Int} (st : Strm H p) (b : But p H H') (h : StdAt H x R ls wt) : StdAt H' x R ls wt :=by
 obtain ⟨⟨y,u,e,h1,h2⟩,r⟩:=h;exact ⟨⟨y,u,e,Jrq st b h1 (by intro _ _ _ z; cases z),Jrq st b h2 (by intro _ _ _ z; cases z)⟩,r⟩
theorem ChcAt.but {p : Addr} {H H' : Hp} {x : V} {R : Jl2} {ls : List Int} {tv : V} (st : Strm H p) (b : But p H H') (h : ChcAt H x R ls tv) : ChcAt H' x R ls tv :=by
 obtain ⟨⟨y,u,e,h1,h2⟩,r⟩:=h;exact ⟨⟨y,u,e,Jrq st b h1 (by intro _ _ _ z; cases z),Jrq st b h2 (by intro _ _ _ z; cases z)⟩,r⟩
section
variable {P : Program} {w : World} {K : W.Frag} {mg : Str → Option Value} {base : Heap} {a : Ad}
theorem sc_law : Jkb ["_law_script","_law_told","_law_river_here","_law_k","_law_stream_here","_law_standing_here","_law_lap","_law_choice_here","_law_rain_here","_law_due"] ["_law_script"] (Jk6 (top 84)):=%[|0]
theorem ok_law (T : Tx K mg a) : FnOk P w K mg base CX0 9 a.a_law a.d_law ["_law_script"] (spLaw K):=by
 have G__law_cell:=%[Jv3|1];have G__law_stream:=%[Jp8|1];have G__law_river:=%[Ju6|1];have G__law_made:=%[Jv6|1];have G__law_standing:=%[Jrl|1];have G__law_choice:=%[Jsy|1];have G__law_rain:=%[Jv8|1];have G__law_turned:=%[Jp9|1];have G__law_turn_right:=%[Jpz|1];refine T.f_law.fn.ok sc_law (fun vs H Q E h=>?_) (fun cdv A outer s H vs Q E hr h=>?_)
 ·obtain ⟨x,ns,rfl,_⟩:=h;rfl
 ·obtain ⟨x,ns,rfl,hS,hl,k⟩:=h;have hu64:=Jwr hr;refine ⟨?t,?B,?C⟩
  case B =>
   refine' Jk2 ?s1 ?r1
   case s1 =>
    exact (Jki (i:=1) sc_law.nd rfl (Or.inl rfl) (Jk5 T.Jv G__law_river hr (by decide) (Jjz (Jk5 T.Jp G__law_cell hr (by decide) (Jjz (pv 0) (Jjz Jk4 Jk1))) Jk1)))
   case r1 =>
    refine' Jk2 ?s3 ?r3
    case s3 =>
     exact (Jki (i:=2) sc_law.nd rfl (Or.inl rfl) (Jk5 T.Jx G__law_made hr (by decide) (Jjz (pv 1) Jk1)))
    case r3 =>
     refine' Jk2 ?s5 ?r5
     case s5 =>
      refine' Jnh ?f6_0 ?f6_1 ?f6_2 ?f6_3 ?f6_4
      case f6_0 =>
       exact PassesOwn.never
      case f6_1 =>
       exact rfl
      case f6_2 =>
       exact (Jxu (by rfl) T.Jat (Jjz Jk4 (Jjz (Jka (Jmf rfl) (by rfl) T.Jar Jpb (Jjz Jk4 (Jjz (Jka (Jm0 rfl) (by rfl) T.Jas Jnt (Jjz (Jka Jkm (by rfl) T.Jap Jlh (Jjz (pv 0) Jk1)) (Jjz Jk4 Jk1))) Jk1))) Jk1)))
      case f6_3 =>
       exact (Jkc (i:=3) sc_law.nd rfl (Or.inl rfl))
      case f6_4 =>
       refine' Jk2 ?s7 ?r7
       case s7 =>
        exact (Jki (i:=4) sc_law.nd rfl (Or.inl rfl) (Jk5 T.Jq G__law_stream hr (by decide) (Jjz (Jk5 T.Jp G__law_cell hr (by decide) (Jjz (pv 0) (Jjz (pv 3) Jk1))) Jk1)))
       case r7 =>
        refine' Jk2 ?s9 ?r9
        case s9 =>
         exact (Jki (i:=5) sc_law.nd rfl (Or.inl rfl) (Jk5 T.Jz G__law_standing hr (by decide) (Jjz (pv 4) (Jjz (pv 1) Jk1))))
        case r9 =>
         refine' Jk3 ?s11
         case s11 =>
          refine' Jnh ?f12_0 ?f12_1 ?f12_2 ?f12_3 ?f12_4
          case f12_0 =>
           exact PassesOwn.never
          case f12_1 =>
           exact rfl
          case f12_2 =>
           exact (Jnr (by rfl) T.Jat (Jjz Jk4 Jk1))
          case f12_3 =>
           exact (Jkc (i:=6) sc_law.nd rfl (Or.inl rfl))
          case f12_4 =>
           refine' Jk2 ?s13 ?r13
           case s13 =>
            exact (Jki (i:=7) sc_law.nd rfl (Or.inl rfl) (Jk5 T.Ja0 G__law_choice hr (by decide) (Jjz (pv 4) (Jjz (pv 1) Jk1))))
           case r13 =>
            refine' Jk2 ?s15 ?r15
            case s15 =>
             exact (Jki (i:=8) sc_law.nd rfl (Or.inl rfl) (Jk5 T.Ja3 G__law_rain hr (by decide) (Jjz (pv 4) (Jjz (pv 1) (Jjz (Jke Jkj (pv 5) Jk4 (fun _ _=>rfl)) Jk1)))))
            case r15 =>
             refine' Jk2 ?s17 ?r17
             case s17 =>
              refine' Jks ?c18 ?a18 ?b18
              case c18 =>
               exact (Jkp (Jkq (Jk5 T.Ja8 G__law_turn_right hr (by decide) (pa5 (pv 1) (pv 2) (pv 5) (pv 7) (pv 8)))))
              case a18 =>
               refine' Jk3 ?s19
               case s19 =>
                exact (Jkd Jlx)
              case b18 =>
               exact Jkg
             case r17 =>
              refine' Jk2 ?s23 ?r23
              case s23 =>
               exact (Jki (i:=9) sc_law.nd rfl (Or.inl rfl) (Jk5 T.Ja6 G__law_turned hr (by decide) (pa4 (pv 1) (pv 5) (pv 7) (pv 8))))
              case r23 =>
               refine' Jk3 ?s25
               case s25 =>
                refine' Jks ?c26 ?a26 ?b26
                case c26 =>
                 exact (Jl6 (op_neD hu64) (Jke Jkj (pv 9) Jk4 (fun _ _=>rfl)) (Jly Jk1) (Jkt _))
                case a26 =>
                 refine' Jk3 ?s27
                 case s27 =>
                  exact (Jki (i:=5) sc_law.nd rfl (Or.inl rfl) (Jk5 T.Jz G__law_standing hr (by decide) (Jjz (pv 4) (Jjz (pv 1) Jk1))))
                case b26 =>
                 refine' Jk3 ?s29
                 case s29 =>
                  exact (Jki (i:=5) sc_law.nd rfl (Or.inl rfl) (Jol Jwe (pv 9) Jq2 (Jq3 Jk4)))
     case r5 =>
      refine' Jk3 ?s31
      case s31 =>
       exact (Jkd Jlx)
  refine ⟨_,rfl,x,ns,0,rfl,hS,fun c0=>⟨c0,rfl,fun td R p0 H1 hp0 s1 st0 rt rg=>?_⟩⟩;refine ⟨_,rfl,p0,td,R,rfl,rt,rg,fun o S H2 s2 ro lk gx=>?_⟩;have rt2:=rt.same rg s2;have s12:=s1.trans s2;have rv2:=rvx_of ro lk rg gx;have rc:=rg.c;refine ⟨_,rfl,x,_,rfl,.inl (s12.seq hS),_,_,rfl,_,_,rfl,_,_,rfl,⟨by decide,by decide,?_,?_⟩,?_⟩
  ·split <;> split <;> omega
  ·split <;> split <;> omega
  refine Jov (fun i σ H'=>∃ o3 o4 o5 o6 o7 o8 o9,σ = [some (.ref x),some td,some (.ref o),o3,o4,o5,o6,o7,o8,o9] ∧ Same H2 H') ⟨_,_,_,_,_,_,_,rfl,Same.refl _⟩ ?_ ?_
  ·rintro i σ Hs hi ⟨o3,o4,o5,o6,o7,o8,o9,rfl,sH⟩;refine ⟨_,rfl,_,rfl,x,ns,1 + i,by simp,(s12.trans sH).seq hS,fun cl=>⟨cl,rfl,fun p H3 hp s3 st=>?_⟩⟩;have rt3:=((rt2.same rg sH).move rg hp).same rg s3;have rv3:=(rv2.same sH).same s3;refine ⟨_,rfl,_,rfl,p,td,R,rfl,st,rt3,rg,fun sv0 ls0 wt0 H4 b4 sd0=>?_⟩;refine ⟨4,rfl,by decide,by decide,?_⟩;refine Jov (fun j σ H'=>∃ p6 p7 p8 p9 sv ls wt,σ = [some (.ref x),some td,some (.ref o),some (.int (1 + i)),some (.ref p),some sv,p6,p7,p8,p9] ∧ But p H3 H' ∧ StdAt H' sv R ls wt) ⟨_,_,_,_,sv0,ls0,wt0,rfl,b4,sd0⟩ ?_ ?_
   ·rintro j σ H' hj ⟨p6,p7,p8,p9,sv,ls,wt,rfl,b,sd⟩;have rt':=rt3.but rg st b;refine ⟨_,rfl,_,rfl,p,td,R,rfl,b.2,rt', rg,fun cv cs tv H5 b5 ch=>?_⟩;have rt5:=rt'.but rg b.2 b5;have sd5:=sd.but b.2 b5;obtain ⟨⟨y,u,rfl,hy,hu⟩,lls,lin,w0,w1⟩:=id sd5;refine ⟨_,rfl,_,rfl,_,rfl,y,_,1,_,rfl,rfl,SqT.of hy,rfl,p,td,R,wt,rfl,b5.2,rt5,rg,by omega,fun ru ms H6 b6 hru ri=>?_⟩;have rt6:=rt5.but rg b5.2 b6;have sd6:=sd5.but b5.2 b6;have ch6:=ch.but b5.2 b6;have b36:=(b.trans b5).trans b6;have rv6:=rv3.ll (LL.but st b36);refine ⟨_,rfl,_,rfl,_,rfl,_,rfl,_,rfl,p,o,td,R,S,.ref y,cv,ls,cs,wt,tv,ru,ms,rfl,rt6,rg,lk,rv6,sd6,ch6,hru,ri,fun H7 s7=>⟨_,rfl,Jl1 ?_⟩⟩;obtain ⟨q,r,g⟩:=RgIn.of rt6 rg lk rv6 sd6 ch6 hru ri;have g7:=g.same s7;refine ⟨_,rfl,_,rfl,_,rfl,_,rfl,p,td,R,S,.ref y,cv,ls,cs,wt,tv,ru,ms,rfl,g7.li,fun dv H8 s8 du=>?_⟩;obtain ⟨d,u1,u2,u3,rfl,hd,h1,h2,h3⟩:=id du;refine ⟨_,rfl,d,_,5,_,rfl,rfl,SqT.of hd,rfl,(show 0 ≤ sizeLine by decide),fun e he=>?_⟩;have s9:=Same.upd (o:=.tup []) he;have s79:=s7.trans (s8.trans s9);have b39:=b36.same s79;refine ⟨_,_,.tup (SqT.of (s9 _ _ h3)) (Js0 _),.tup (SqT.of Jk0) .nil,Jq8 _,rfl,_,rfl,?_⟩;rw [if_pos rfl,Juy];by_cases hb : Jm2 0 S.Bs (Jn8 S (R.Bs.map (·.G)) ls cs tv ms) = []
    ·rw [decide_eq_true hb];refine Jl1 ⟨_,rfl,_,rfl,d,_,rfl,SqT.of (s9 _ _ hd),(show ¬ (HT.sIx 6 0 none = 0 ∧ HT.sIx 6 6 (some 2) = 6) by decide),fun t3 ht3=>?_⟩;have s10:=Same.upd (o:=.tup [.ref u1,.int (Jp4 S wt ms)]) ht3;have gl : (R.Bs.map (·.G)).length = S.Bs.length:=rv6.ln.symm;have sl:=g.li.so.len;have fl : (lft S ls tv).length = ls.length:=Jox;have ol : (Jme S (R.Bs.map (·.G)) ls cs tv).length = S.Bs.length:=by
      rw [← gl];exact Jmh sl.1 sl.2
     have rl:=g.li.rl;have hl':=Job lk;have ll : (Jn8 S (R.Bs.map (·.G)) ls cs tv ms).length = (lft S ls tv).length:=Jnj (by omega) (by omega);refine ⟨_,_,_,_,.ref t3,Jn8 S (R.Bs.map (·.G)) ls cs tv ms,Jp4 S wt ms,rfl,b39.same s10,⟨⟨t3,u1,rfl,Jk0,s10 _ _ (s9 _ _ h1)⟩,by omega,fun n v e1=>?_,g.w0.1,by rw [← lk.c]; exact g.w0.2⟩⟩;have hn : n < (Jn8 S (R.Bs.map (·.G)) ls cs tv ms).length:=(List.getElem?_eq_some_iff.mp e1).1;have eB : S.Bs[n]? = some (S.Bs[n]'(by omega)):=List.getElem?_eq_getElem (by omega);have eC : R.Bs[n]? = some (R.Bs[n]'(by omega)):=List.getElem?_eq_getElem (by omega);have q:=Jyf hb n v _ e1 eB;have key:=Jpv lk eB eC;have q1 : (S.Bs[n]'(by omega)).lo = (R.Bs[n]'(by omega)).lo:=congrArg (·.2.1) key;have q2 : (S.Bs[n]'(by omega)).hi = (R.Bs[n]'(by omega)).hi:=congrArg (·.2.2.1) key;exact ⟨_,eC,by omega,by omega⟩
    ·rw [decide_eq_false hb];refine Jlc ⟨_,rfl,_,rfl,p,td,R,rfl,b39.2,rt6.same rg s79,rg,fun sv' ls' wt' H10 b10 sd'=>?_⟩;exact ⟨_,_,_,_,sv', ls', wt', rfl,b39.trans b10,sd'⟩
   rintro σ H' ⟨p6,p7,p8,p9,sv,ls,wt,rfl,b,sd⟩;exact ⟨_,_,_,_,_,_,_,rfl,fun c ob e=>b.1 _ _ (Jk8 (sH _ _ e) hp) (s3 _ _ (sH _ _ e))⟩
  ·rintro σ H' ⟨o3,o4,o5,o6,o7,o8,o9,rfl,sH⟩;exact k _
end
theorem tx_mk {K : W.Frag} {mg : Str → Option Value} {f1 f2 f3 f4 f5 f6 f7 f8 f9 f10 f11 f12 f13 f14 f15 f16 f17 f18 f19 f20 f21 f22 f23 f24 f25 f26 f27 f28 f29 f30 f31 f32 f33 f35 f36 f37 f38 f40 f41 f42 f44 f45 f46 f48 f49 f50 f52 f53 f54 f55 f56 f57 f58 f59 f61 f62 f63 f64 f65 f66 f67 f68 f69 f70 f71 f72 f73 f74 f75 f76 f77 f78 f79 f80 f81 C0 C1 C2 C3 C4 C5 C6 C7 C8 C9 C10 C11 C12 C13 C14 C15 C16 C17 C18 C19 : Addr} {d1 d2 d3 d4 d5 d6 d7 d8 d9 d10 d11 d12 d13 d14 d15 d16 d17 d18 d19 d20 d21 d22 d23 d24 d25 d26 d27 d28 d29 d30 d31 d32 d33 d35 d36 d37 d38 d40 d41 d42 d44 d45 d46 d48 d49 d50 d52 d53 d54 d55 d56 d57 d58 d59 d61 d62 d63 d64 d65 d66 d67 d68 d69 d70 d71 d72 d73 d74 d75 d76 d77 d78 d79 d80 d81 : FuncData} {t0 t1 t2 t3 t4 t5 t6 t7 t8 t9 t10 : Tok}
(p0 : FT K mg "is_whole" (top 16) ["thing","low","high"] f11 d11)
(p1 : FT K mg "is_made_of" (top 17) ["text","signs"] f12 d12)
(p2 : FT K mg "is_name" (top 18) ["thing"] f13 d13)
(p3 : FT K mg "is_row" (top 20) ["thing","lows","highs"] f14 d14)
(p4 : FT K mg "is_row_up_to" (top 21) ["thing","highs"] f15 d15)
(p5 : FT K mg "is_pair" (top 22) ["thing"] f16 d16)
(p6 : FT K mg "is_standing" (top 23) ["river","thing"] f17 d17)
(p7 : FT K mg "is_choice" (top 24) ["river","thing"] f18 d18)
(p8 : FT K mg "forced_rain" (top 25) ["river","wet"] f19 d19)
(p9 : FT K mg "is_rain" (top 26) ["river","standing","thing"] f20 d20)
(p10 : FT K mg "refuse_no_choice" (top 27) ["river","standing","choice"] f21 d21)
(p11 : FT K mg "place_drawn_from" (top 28) ["river","town"] f22 d22)
(p12 : FT K mg "draw" (top 29) ["river","standing","choice"] f23 d23)
(p13 : FT K mg "paid_by" (top 30) ["river","standing","choice"] f24 d24)
(p14 : FT K mg "levels_left" (top 31) ["river","standing","choice","drawn"] f25 d25)
(p15 : FT K mg "outs_at" (top 32) ["river","settings","levels"] f26 d26)
(p16 : FT K mg "levels_behind" (top 33) ["left","outs","rain"] f27 d27)
(p17 : FT K mg "broken_at" (top 34) ["river","levels"] f28 d28)
(p18 : FT K mg "turned" (top 36) ["river","standing","choice","rain"] f31 d31)
(p19 : FT K mg "are_marks" (top 41) ["thing","lowest"] f32 d32)
(p20 : FT K mg "kept_marks" (top 42) ["marks","lowest"] f33 d33)
(p21 : FT K mg "refuse_no_level" (top 56) ["thing","low","high"] f52 d52)
(p22 : FT K mg "are_unlike" (top 59) ["names"] f55 d55)
(p23 : FT K mg "are_basins" (top 60) ["thing"] f56 d56)
(p24 : FT K mg "are_towns" (top 61) ["thing","basins"] f57 d57)
(p25 : FT K mg "_law_cell" (top 64) ["_law_script","_law_k"] f61 d61)
(p26 : FT K mg "_law_stream" (top 65) ["_law_cell_here"] f62 d62)
(p27 : FT K mg "_law_take" (top 66) ["_law_stream_here","_law_many"] f63 d63)
(p28 : FT K mg "_law_names" (top 67) ["_law_stream_here","_law_many"] f64 d64)
(p29 : FT K mg "_law_gate" (top 68) ["_law_stream_here"] f65 d65)
(p30 : FT K mg "_law_basin" (top 69) ["_law_stream_here","_law_name"] f66 d66)
(p31 : FT K mg "_law_river" (top 70) ["_law_cell_here"] f67 d67)
(p32 : FT K mg "_law_made_gate" (top 71) ["_law_told"] f68 d68)
(p33 : FT K mg "_law_made" (top 72) ["_law_told"] f69 d69)
(p34 : FT K mg "_law_settings" (top 73) ["_law_gate_here"] f70 d70)
(p35 : FT K mg "_law_standing" (top 74) ["_law_stream_here","_law_told"] f71 d71)
(p36 : FT K mg "_law_choice" (top 75) ["_law_stream_here","_law_told"] f72 d72)
(p37 : FT K mg "_law_forced" (top 76) ["_law_told","_law_wet"] f73 d73)
(p38 : FT K mg "_law_raised" (top 77) ["_law_told","_law_wet","_law_row"] f74 d74)
(p39 : FT K mg "_law_rain" (top 78) ["_law_stream_here","_law_told","_law_wet"] f75 d75)
(p40 : FT K mg "_law_lets" (top 79) ["_law_gate_here","_law_setting","_law_level"] f76 d76)
(p41 : FT K mg "_law_pays" (top 80) ["_law_told","_law_levels","_law_town"] f77 d77)
(p42 : FT K mg "_law_turned" (top 81) ["_law_told","_law_standing_here","_law_choice_here","_law_rain_here"] f78 d78)
(p43 : FT K mg "_law_same" (top 82) ["_law_found","_law_due"] f79 d79)
(p44 : FT K mg "_law_turn_right" (top 83) ["_law_told","_law_river_here","_law_standing_here","_law_choice_here","_law_rain_here"] f80 d80)
(p45 : FT K mg "law" (top 84) ["_law_script"] f81 d81)
(p46 : mg "LETTERS" = some (.str "abcdefghijklmnopqrstuvwxyz" t0))
(p47 : mg "MOST_LETTERS" = some (.int 8 t1))
(p48 : mg "MOST_SETTINGS" = some (.int 4 t2))
(p49 : mg "HIGHEST_MARK" = some (.int 12 t3))
(p50 : mg "HIGHEST_LEVEL" = some (.int 1000 t4))
(p51 : mg "HIGHEST" = some (.int 12 t5))
(p52 : mg "MOST_RAIN" = some (.int 6 t6))
(p53 : mg "MOST_WANT" = some (.int 6 t7))
(p54 : mg "MOST_CLOUD" = some (.int 12 t8))
(p55 : mg "MOST_BASINS" = some (.int 16 t9))
(p56 : mg "MOST_TOWNS" = some (.int 3 t10))
(p57 : mg "all" = none)
(p58 : mg "bool" = none)
(p59 : mg "enumerate" = none)
(p60 : mg "int" = none)
(p61 : mg "isinstance" = none)
(p62 : mg "len" = none)
(p63 : mg "list" = none)
(p64 : mg "max" = none)
(p65 : mg "min" = none)
(p66 : mg "range" = none)
(p67 : mg "set" = none)
(p68 : mg "str" = none)
(p69 : mg "sum" = none)
(p70 : mg "tuple" = none)
(p71 : mg "zip" = none)
(p72 : mg "WeirError" = some (.ref C0))
(p73 : mg "NoName" = some (.ref C1))
(p74 : mg "NoGate" = some (.ref C2))
(p75 : mg "NoBasin" = some (.ref C3))
(p76 : mg "NoTown" = some (.ref C4))
(p77 : mg "NoCloud" = some (.ref C5))
(p78 : mg "NoRiver" = some (.ref C6))
(p79 : mg "NoStanding" = some (.ref C7))
(p80 : mg "NoChoice" = some (.ref C8))
(p81 : mg "NoRain" = some (.ref C9))
(p82 : mg "NoNumber" = some (.ref C10))
(p83 : mg "Turn" = some (.ref C11))
(p84 : mg "Gate" = some (.ref C12))
(p85 : mg "StepGate" = some (.ref C13))
(p86 : mg "FlapGate" = some (.ref C14))
(p87 : mg "PartGate" = some (.ref C15))
(p88 : mg "StuckGate" = some (.ref C16))
(p89 : mg "Basin" = some (.ref C17))
(p90 : mg "Town" = some (.ref C18))
(p91 : mg "River" = some (.ref C19))
(p92 : W.findIn K (.ref C1) "__init__" = some (some (.ref f1)))
(p93 : FM K "__init__" "NoName.__init__" (Jk9 (top 3) 0) ["self","thing"] f1 d1)
(p94 : W.findIn K (.ref C2) "__init__" = some (some (.ref f2)))
(p95 : FM K "__init__" "NoGate.__init__" (Jk9 (top 4) 0) ["self","thing"] f2 d2)
(p96 : W.findIn K (.ref C3) "__init__" = some (some (.ref f3)))
(p97 : FM K "__init__" "NoBasin.__init__" (Jk9 (top 5) 0) ["self","thing"] f3 d3)
(p98 : W.findIn K (.ref C4) "__init__" = some (some (.ref f4)))
(p99 : FM K "__init__" "NoTown.__init__" (Jk9 (top 6) 0) ["self","thing"] f4 d4)
(p100 : W.findIn K (.ref C5) "__init__" = some (some (.ref f5)))
(p101 : FM K "__init__" "NoCloud.__init__" (Jk9 (top 7) 0) ["self","thing"] f5 d5)
(p102 : W.findIn K (.ref C6) "__init__" = some (some (.ref f6)))
(p103 : FM K "__init__" "NoRiver.__init__" (Jk9 (top 8) 0) ["self","thing"] f6 d6)
(p104 : W.findIn K (.ref C7) "__init__" = some (some (.ref f7)))
(p105 : FM K "__init__" "NoStanding.__init__" (Jk9 (top 9) 0) ["self","thing"] f7 d7)
(p106 : W.findIn K (.ref C8) "__init__" = some (some (.ref f8)))
(p107 : FM K "__init__" "NoChoice.__init__" (Jk9 (top 10) 0) ["self","thing"] f8 d8)
(p108 : W.findIn K (.ref C9) "__init__" = some (some (.ref f9)))
(p109 : FM K "__init__" "NoRain.__init__" (Jk9 (top 11) 0) ["self","thing"] f9 d9)
(p110 : W.findIn K (.ref C10) "__init__" = some (some (.ref f10)))
(p111 : FM K "__init__" "NoNumber.__init__" (Jk9 (top 12) 0) ["self","thing"] f10 d10)
(p112 : W.findIn K (.ref C11) "__init__" = some (some (.ref f29)))
(p113 : FM K "__init__" "Turn.__init__" (Jk9 (top 35) 0) ["self","river","standing","choice","rain"] f29 d29)
(p114 : W.findIn K (.ref C11) "standing" = some (some (.ref f30)))
(p115 : FM K "standing" "Turn.standing" (Jk9 (top 35) 1) ["self"] f30 d30)
(p116 : W.findIn K (.ref C12) "lets" = some (some (.ref f35)))
(p117 : FM K "lets" "Gate.lets" (Jk9 (top 44) 0) ["self","setting","level"] f35 d35)
(p118 : W.findIn K (.ref C13) "__init__" = some (some (.ref f36)))
(p119 : FM K "__init__" "StepGate.__init__" (Jk9 (top 45) 0) ["self","marks"] f36 d36)
(p120 : W.findIn K (.ref C13) "settings" = some (some (.ref f37)))
(p121 : FM K "settings" "StepGate.settings" (Jk9 (top 45) 1) ["self"] f37 d37)
(p122 : W.findIn K (.ref C13) "passes" = some (some (.ref f38)))
(p123 : FM K "passes" "StepGate.passes" (Jk9 (top 45) 2) ["self","setting","level"] f38 d38)
(p124 : W.findIn K (.ref C14) "__init__" = some (some (.ref f40)))
(p125 : FM K "__init__" "FlapGate.__init__" (Jk9 (top 46) 0) ["self","marks"] f40 d40)
(p126 : W.findIn K (.ref C14) "settings" = some (some (.ref f41)))
(p127 : FM K "settings" "FlapGate.settings" (Jk9 (top 46) 1) ["self"] f41 d41)
(p128 : W.findIn K (.ref C14) "passes" = some (some (.ref f42)))
(p129 : FM K "passes" "FlapGate.passes" (Jk9 (top 46) 2) ["self","setting","level"] f42 d42)
(p130 : W.findIn K (.ref C15) "__init__" = some (some (.ref f44)))
(p131 : FM K "__init__" "PartGate.__init__" (Jk9 (top 47) 0) ["self","marks"] f44 d44)
(p132 : W.findIn K (.ref C15) "settings" = some (some (.ref f45)))
(p133 : FM K "settings" "PartGate.settings" (Jk9 (top 47) 1) ["self"] f45 d45)
(p134 : W.findIn K (.ref C15) "passes" = some (some (.ref f46)))
(p135 : FM K "passes" "PartGate.passes" (Jk9 (top 47) 2) ["self","setting","level"] f46 d46)
(p136 : W.findIn K (.ref C16) "__init__" = some (some (.ref f48)))
(p137 : FM K "__init__" "StuckGate.__init__" (Jk9 (top 48) 0) ["self","gate","setting"] f48 d48)
(p138 : W.findIn K (.ref C16) "settings" = some (some (.ref f49)))
(p139 : FM K "settings" "StuckGate.settings" (Jk9 (top 48) 1) ["self"] f49 d49)
(p140 : W.findIn K (.ref C16) "passes" = some (some (.ref f50)))
(p141 : FM K "passes" "StuckGate.passes" (Jk9 (top 48) 2) ["self","setting","level"] f50 d50)
(p142 : W.findIn K (.ref C17) "__init__" = some (some (.ref f53)))
(p143 : FM K "__init__" "Basin.__init__" (Jk9 (top 57) 0) ["self","name","low","high","start","rain","gate"] f53 d53)
(p144 : W.findIn K (.ref C18) "__init__" = some (some (.ref f54)))
(p145 : FM K "__init__" "Town.__init__" (Jk9 (top 58) 0) ["self","name","basin","want"] f54 d54)
(p146 : W.findIn K (.ref C19) "__init__" = some (some (.ref f58)))
(p147 : FM K "__init__" "River.__init__" (Jk9 (top 62) 0) ["self","cloud","gain","basins","towns"] f58 d58)
(p148 : W.findIn K (.ref C19) "place_of" = some (some (.ref f59)))
(p149 : FM K "place_of" "River.place_of" (Jk9 (top 62) 1) ["self","name"] f59 d59)
(p150 : XCls K C1 C0 f1)
(p151 : W.findIn K (.ref C1) "thing" = some none)
(p152 : XCls K C2 C0 f2)
(p153 : W.findIn K (.ref C2) "thing" = some none)
(p154 : XCls K C3 C0 f3)
(p155 : W.findIn K (.ref C3) "thing" = some none)
(p156 : XCls K C4 C0 f4)
(p157 : W.findIn K (.ref C4) "thing" = some none)
(p158 : XCls K C5 C0 f5)
(p159 : XCls K C6 C0 f6)
(p160 : XCls K C7 C0 f7)
(p161 : W.findIn K (.ref C7) "thing" = some none)
(p162 : XCls K C8 C0 f8)
(p163 : W.findIn K (.ref C8) "thing" = some none)
(p164 : XCls K C9 C0 f9)
(p165 : W.findIn K (.ref C9) "thing" = some none)
(p166 : XCls K C10 C0 f10)
(p167 : Cls K C11)
(p168 : YCls K C11)
(p169 : Mk K C11 f29)
(p170 : Jlv K C11 "standing" f30)
(p171 : W.findIn K (.ref C11) "choice" = some none)
(p172 : W.findIn K (.ref C11) "rain" = some none)
(p173 : W.findIn K (.ref C11) "drawn" = some none)
(p174 : W.findIn K (.ref C11) "paid" = some none)
(p175 : W.findIn K (.ref C11) "outs" = some none)
(p176 : W.findIn K (.ref C11) "levels" = some none)
(p177 : W.findIn K (.ref C11) "wet" = some none)
(p178 : W.findIn K (.ref C11) "broken" = some none)
(p179 : Cls K C13)
(p180 : YCls K C13)
(p181 : Mk K C13 f36)
(p182 : Jlv K C13 "lets" f35)
(p183 : Jlv K C13 "settings" f37)
(p184 : Jlv K C13 "passes" f38)
(p185 : W.findIn K (.ref C13) "marks" = some none)
(p186 : Cls K C14)
(p187 : YCls K C14)
(p188 : Mk K C14 f40)
(p189 : Jlv K C14 "lets" f35)
(p190 : Jlv K C14 "settings" f41)
(p191 : Jlv K C14 "passes" f42)
(p192 : W.findIn K (.ref C14) "marks" = some none)
(p193 : Cls K C15)
(p194 : YCls K C15)
(p195 : Mk K C15 f44)
(p196 : Jlv K C15 "lets" f35)
(p197 : Jlv K C15 "settings" f45)
(p198 : Jlv K C15 "passes" f46)
(p199 : W.findIn K (.ref C15) "marks" = some none)
(p200 : Cls K C16)
(p201 : YCls K C16)
(p202 : Mk K C16 f48)
(p203 : Jlv K C16 "lets" f35)
(p204 : Jlv K C16 "settings" f49)
(p205 : Jlv K C16 "passes" f50)
(p206 : W.findIn K (.ref C16) "gate" = some none)
(p207 : W.findIn K (.ref C16) "setting" = some none)
(p208 : Cls K C17)
(p209 : YCls K C17)
(p210 : Mk K C17 f53)
(p211 : W.findIn K (.ref C17) "name" = some none)
(p212 : W.findIn K (.ref C17) "low" = some none)
(p213 : W.findIn K (.ref C17) "high" = some none)
(p214 : W.findIn K (.ref C17) "start" = some none)
(p215 : W.findIn K (.ref C17) "rain" = some none)
(p216 : W.findIn K (.ref C17) "gate" = some none)
(p217 : Cls K C18)
(p218 : YCls K C18)
(p219 : Mk K C18 f54)
(p220 : W.findIn K (.ref C18) "name" = some none)
(p221 : W.findIn K (.ref C18) "basin" = some none)
(p222 : W.findIn K (.ref C18) "want" = some none)
(p223 : Cls K C19)
(p224 : Mk K C19 f58)
(p225 : Jlv K C19 "place_of" f59)
(p226 : W.findIn K (.ref C19) "cloud" = some none)
(p227 : W.findIn K (.ref C19) "gain" = some none)
(p228 : W.findIn K (.ref C19) "basins" = some none)
(p229 : W.findIn K (.ref C19) "towns" = some none)
(p230 : W.kitOne K (.ref C13) (.ref C12) = some true)
(p231 : W.kitOne K (.ref C14) (.ref C12) = some true)
(p232 : W.kitOne K (.ref C15) (.ref C12) = some true)
(p233 : W.kitOne K (.ref C16) (.ref C12) = some true)
(p234 : W.kitOne K (.ref C17) (.ref C17) = some true)
(p235 : W.kitOne K (.ref C18) (.ref C18) = some true)
(p236 : W.kitOne K (.ref C13) (.type "bool") = some false)
(p237 : W.kitOne K (.ref C14) (.type "bool") = some false)
(p238 : W.kitOne K (.ref C15) (.type "bool") = some false)
(p239 : W.kitOne K (.ref C16) (.type "bool") = some false)
(p240 : W.kitAny K (.ref C13) [.ref C13,.ref C14,.ref C15,.ref C16] = some true)
(p241 : W.kitAny K (.ref C14) [.ref C13,.ref C14,.ref C15,.ref C16] = some true)
(p242 : W.kitAny K (.ref C15) [.ref C13,.ref C14,.ref C15,.ref C16] = some true)
(p243 : W.kitAny K (.ref C16) [.ref C13,.ref C14,.ref C15,.ref C16] = some true)
(p244 : W.kitOne K (.ref C13) (.ref C16) = some false)
(p245 : W.kitOne K (.ref C14) (.ref C16) = some false)
(p246 : W.kitOne K (.ref C15) (.ref C16) = some false) :
  ∃ a : Ad,a.d_law = d81 ∧ Tx K mg a:=⟨⟨f1,d1,f2,d2,f3,d3,f4,d4,f5,d5,f6,d6,f7,d7,f8,d8,f9,d9,f10,d10,f11,d11,f12,d12,f13,d13,f14,d14,f15,d15,f16,d16,f17,d17,f18,d18,f19,d19,f20,d20,f21,d21,f22,d22,f23,d23,f24,d24,f25,d25,f26,d26,f27,d27,f28,d28,f29,d29,f30,d30,f31,d31,f32,d32,f33,d33,f35,d35,f36,d36,f37,d37,f38,d38,f40,d40,f41,d41,f42,d42,f44,d44,f45,d45,f46,d46,f48,d48,f49,d49,f50,d50,f52,d52,f53,d53,f54,d54,f55,d55,f56,d56,f57,d57,f58,d58,f59,d59,f61,d61,f62,d62,f63,d63,f64,d64,f65,d65,f66,d66,f67,d67,f68,d68,f69,d69,f70,d70,f71,d71,f72,d72,f73,d73,f74,d74,f75,d75,f76,d76,f77,d77,f78,d78,f79,d79,f80,d80,f81,d81,t0,t1,t2,t3,t4,t5,t6,t7,t8,t9,t10,C0,C1,C2,C3,C4,C5,C6,C7,C8,C9,C10,C11,C12,C13,C14,C15,C16,C17,C18,C19⟩,rfl,⟨p0,p1,p2,p3,p4,p5,p6,p7,p8,p9,p10,p11,p12,p13,p14,p15,p16,p17,p18,p19,p20,p21,p22,p23,p24,p25,p26,p27,p28,p29,p30,p31,p32,p33,p34,p35,p36,p37,p38,p39,p40,p41,p42,p43,p44,p45,p46,p47,p48,p49,p50,p51,p52,p53,p54,p55,p56,p57,p58,p59,p60,p61,p62,p63,p64,p65,p66,p67,p68,p69,p70,p71,p73,p74,p75,p76,p77,p78,p79,p80,p81,p82,p83,p84,p85,p86,p87,p88,p89,p90,p91,p93,p95,p97,p99,p101,p103,p105,p107,p109,p111,p113,p115,p117,p119,p121,p123,p125,p127,p129,p131,p133,p135,p137,p139,p141,p143,p145,p147,p149,p150,p151,p152,p153,p154,p155,p156,p157,p158,p159,p160,p161,p162,p163,p164,p165,p166,p167,p168,p169,p170,p171,p172,p173,p174,p175,p176,p177,p178,p179,p180,p181,p182,p183,p184,p185,p186,p187,p188,p189,p190,p191,p192,p193,p194,p195,p196,p197,p198,p199,p200,p201,p202,p203,p204,p205,p206,p207,p208,p209,p210,p211,p212,p213,p214,p215,p216,p217,p218,p219,p220,p221,p222,p223,p224,p225,p226,p227,p228,p229,p230,p231,p232,p233,p234,p235,p236,p237,p238,p239,p240,p241,p242,p243,p244,p245,p246⟩⟩
theorem tx_fin {K : W.Frag} {mg : Str → Option Value} {d : FuncData} (h : ∃ a : Ad,a.d_law = d ∧ Tx K mg a) (b : ∀ (s : Shared) (v : Value),BindsTo s d ⟨[v],[]⟩ [("_law_script",v)]) : ∃ a : Ad,(∀ (s : Shared) (v : Value),BindsTo s a.d_law ⟨[v],[]⟩ [("_law_script",v)]) ∧ Tx K mg a:=by
 obtain ⟨a,e,T⟩:=h;exact ⟨a,by rw [e]; exact b,T⟩
end K12
end
namespace PySem.W.Fast
def tw10044592884514795023:=()
def tw10048918301948787371:=()
def tw10091442588149717412:=()
def tw10132454010199947206:=()
def tw10149102012587678764:=()
def tw10155876127819992690:=()
def tw10155876185727985946:=()
def tw10187978901835471963:=()
def tw10188961325889564757:=()
def tw1022071008895071246:=()
def tw10250569907535878670:=()
def tw10290434670498564988:=()
def tw10305919734429520266:=()
def tw10441360708972236461:=()
def tw10496857316857629343:=()
def tw10503184922352310998:=()
def tw10542015220030420591:=()
def tw10555591232547223408:=()
def tw10557686092148343774:=()
def tw10572456675271798417:=()
def tw10586709776210189417:=()
def tw10668872976755005864:=()
def tw10760513900647388517:=()
def tw10797770595219481755:=()
def tw1087937401109797920:=()
def tw10879957629734792407:=()
def tw10885985073081742913:=()
def tw10895191947954592849:=()
def tw10935651941926892552:=()
def tw10946841369164183444:=()
def tw10973104544400742385:=()
def tw11031185982139665400:=()
def tw11032819195014393812:=()
def tw11110113203406004558:=()
def tw11229855587595436540:=()
def tw1131832138529461925:=()
def tw11399834986946502395:=()
def tw11423380676314095554:=()
def tw11444971716917101760:=()
def tw11449103869870161805:=()
def tw11559533919359037164:=()
def tw1156535681910784864:=()
def tw11576751029953474416:=()
def tw11626022410431823271:=()
def tw11638753473543092107:=()
def tw11689292116027791558:=()
def tw1172570650299732881:=()
def tw11769047708820957575:=()
def tw11781857694972259006:=()
def tw11824539563191273232:=()
def tw11918248246710014836:=()
def tw11932689765267132422:=()
def tw1193845527388007085:=()
def tw11951268337621492428:=()
def tw11983766147325574167:=()
def tw12083979676544033785:=()
def tw12189505430590781699:=()
def tw12321315241672173409:=()
def tw1232737263715219493:=()
def tw12331155836970490469:=()
def tw12346258157442277455:=()
def tw12428006595342459124:=()
def tw12505543867139880626:=()
def tw12553268557682089393:=()
def tw12612365662064263722:=()
def tw12635525622097386083:=()
def tw1277364483127484418:=()
def tw1282904417084835633:=()
def tw12843637549566796698:=()
def tw12853946225032610440:=()
def tw12889868450138727649:=()
def tw12932976015469565197:=()
def tw12942524178794570190:=()
def tw12975150818469703056:=()
def tw12994575987706383449:=()
def tw13046052836435752930:=()
def tw13055437105984783989:=()
def tw13179327508441645824:=()
def tw13203971056225043051:=()
def tw13250506038419786236:=()
def tw13341714638858084189:=()
def tw13424461276765962036:=()
def tw13451354648294131040:=()
def tw13471093171341510894:=()
def tw13525206272035157251:=()
def tw13641110034426709524:=()
def tw13676856834746866848:=()
def tw1372225733801564591:=()
def tw1373027748175427535:=()
def tw13761710394062520080:=()
def tw13783740014452726138:=()
def tw13934349428620791493:=()
def tw13947373784200043858:=()
def tw14032849766107549213:=()
def tw14095283571327557836:=()
def tw14123690828870974751:=()
def tw14126531762640831167:=()
def tw14161202454302753875:=()
def tw1417474305047188219:=()
def tw14175403117126164854:=()
def tw14208265074023974806:=()
def tw14286949871605930318:=()
def tw14297790899807084932:=()
def tw14331084395360029334:=()
def tw1433933518910193598:=()
def tw14364965534000142630:=()
def tw14408127140488096166:=()
def tw14443207783914140502:=()
def tw14472255400822858961:=()
def tw14479649127494057180:=()
def tw14641479846596491895:=()
def tw14654389511793677244:=()
def tw14656294803016977472:=()
def tw14757712472699534089:=()
def tw148401122542502603:=()
def tw14871162354667276458:=()
def tw14937426049955888799:=()
def tw14955958588217248976:=()
def tw14956762571517710206:=()
def tw14973640453294932062:=()
def tw15039105508310709789:=()
def tw15081719606482643045:=()
def tw15092689695209686959:=()
def tw15096102940525445916:=()
def tw15161848220027204518:=()
def tw15226734581895247223:=()
def tw15259444145519975386:=()
def tw15270668592758065854:=()
def tw15287668735294140178:=()
def tw1531894794897992474:=()
def tw15319483244517843649:=()
def tw15340599314083762050:=()
def tw15365315085713559107:=()
def tw15422726928946276283:=()
def tw15430001093705090422:=()
def tw15481813371661271094:=()
def tw15546299877391373229:=()
def tw15550296643105570204:=()
def tw15576162030097560033:=()
def tw15645917690477852691:=()
def tw15648419134505440060:=()
def tw15669196949785580255:=()
def tw15710806807561750429:=()
def tw15761963506746684872:=()
def tw15796684248646320665:=()
def tw15797914887812309593:=()
def tw15811841131961189040:=()
def tw15840748536739226690:=()
def tw15938420940121479988:=()
def tw15939979020627405344:=()
def tw15948680919997274963:=()
def tw15993190159294619644:=()
def tw15998153296259098458:=()
def tw16047845698572039457:=()
def tw16078542351080064413:=()
def tw16099990841125481409:=()
def tw16125812618313853392:=()
def tw16131661728336424534:=()
def tw16169402168190275898:=()
def tw16171175847751337501:=()
def tw16183130010082334539:=()
def tw16225179987192323949:=()
def tw16250511874729763597:=()
def tw16266892411006037543:=()
def tw16365835934729671601:=()
def tw1643307713709349807:=()
def tw1644448223738250581:=()
def tw16481355015842352454:=()
def tw16583096283069431106:=()
def tw16591362910859329481:=()
def tw16672075804800706379:=()
def tw16765427234574617783:=()
def tw16789564077947383981:=()
def tw1683325905342382062:=()
def tw16924656539921028792:=()
def tw17012486557199439022:=()
def tw1701448527511639841:=()
def tw17076892010973083140:=()
def tw17103756316289440131:=()
def tw17140774813252590616:=()
def tw17145706108609794641:=()
def tw17153927587696129714:=()
def tw17175349776221810516:=()
def tw17184523442760035904:=()
def tw17209578853016000045:=()
def tw17245352174010040455:=()
def tw17276870459183638200:=()
def tw17363822077252544344:=()
def tw17409473978511280403:=()
def tw17428217488742474491:=()
def tw17448129085847533289:=()
def tw17455103904729825965:=()
def tw17458829290551080490:=()
def tw17459434382294139017:=()
def tw17586274691169304338:=()
def tw17620124175073553732:=()
def tw17668941497669028890:=()
def tw17700539560865439099:=()
def tw17770499090618206656:=()
def tw1777159888672620313:=()
def tw17819035927306898638:=()
def tw17858707436900661916:=()
def tw17937832907825979290:=()
def tw17986239411699457578:=()
def tw17994056284524987028:=()
def tw18014817194735840194:=()
def tw18064386868230412561:=()
def tw18142103911146250608:=()
def tw18181372335643931106:=()
def tw18242207620320904576:=()
def tw1842890559379466210:=()
def tw1855107377673815938:=()
def tw1891370652219980349:=()
def tw1933494328911230199:=()
def tw2029443757292552994:=()
def tw2045197060164559612:=()
def tw2086702127293302876:=()
def tw2252837634235124794:=()
def tw2266417775200733065:=()
def tw228559908786041569:=()
def tw2297842078799229297:=()
def tw2314813602134349162:=()
def tw245594097084533436:=()
def tw2487355749878424584:=()
def tw2509404448215778494:=()
def tw2533469189710923981:=()
def tw2548676203412296595:=()
def tw2582699342444033444:=()
def tw2589842113698363115:=()
def tw2736401512427214170:=()
def tw2834973327729694739:=()
def tw2840743010057832369:=()
def tw2841785144341275754:=()
def tw2861366821226427868:=()
def tw289060952788730629:=()
def tw2921583218806517188:=()
def tw2957654937585316517:=()
def tw3004693968914462422:=()
def tw3005627480428609875:=()
def tw3046696480326275793:=()
def tw3072510484692294732:=()
def tw3151297669281250989:=()
def tw3259497580708665213:=()
def tw333312556866422186:=()
def tw3451438890923546862:=()
def tw356217912613086393:=()
def tw3583912977800208216:=()
def tw3588117602931371935:=()
def tw3616215762741208279:=()
def tw3684619105693373063:=()
def tw3708327976152533654:=()
def tw3730514717838053816:=()
def tw3768550015032581847:=()
def tw3784316454136900210:=()
def tw3807154282525286722:=()
def tw3810383718436093310:=()
def tw3863263368332063151:=()
def tw386947555596512477:=()
def tw3872539244020215481:=()
def tw3888634413240062655:=()
def tw3897223378124903549:=()
def tw3905318585125490344:=()
def tw3908471165803987960:=()
def tw3922736156047758778:=()
def tw3924485010162057388:=()
def tw4069149348505143704:=()
def tw4074509580674591043:=()
def tw4169485107766573955:=()
def tw4263926964947800862:=()
def tw4404816999321664378:=()
def tw4452638645459110143:=()
def tw4545652923905887462:=()
def tw4606484160905521926:=()
def tw462528626260752486:=()
def tw4626536239683197999:=()
def tw4653277288204110728:=()
def tw4655417011412178494:=()
def tw4677923959549200648:=()
def tw4679599963621403123:=()
def tw4692844584605772567:=()
def tw4700945469079992392:=()
def tw4835783120738209357:=()
def tw48511984437002405:=()
def tw4932091416529791784:=()
def tw4995320933988881894:=()
def tw505939284772615409:=()
def tw5071349395567963518:=()
def tw5078953033607589682:=()
def tw5082705741868405296:=()
def tw5104226504920134952:=()
def tw5133282948536125946:=()
def tw523513103444915184:=()
def tw5274988311280843366:=()
def tw5303926320837873782:=()
def tw5335248277337866570:=()
def tw5345169393897606900:=()
def tw5402980820033494175:=()
def tw5418670014481943680:=()
def tw5438745172721558624:=()
def tw5438916649112576991:=()
def tw5479710496402481771:=()
def tw5498274162593457425:=()
def tw5509230127659571655:=()
def tw5541629813374502116:=()
def tw559591980793733389:=()
def tw5680719372038756631:=()
def tw5718690134401157256:=()
def tw6007592091798372648:=()
def tw607542670315212337:=()
def tw6076115339854546339:=()
def tw6170316822329125968:=()
def tw6195097073740572141:=()
def tw6214030695872728694:=()
def tw6260535170770570539:=()
def tw6295778865919859169:=()
def tw6329627422124966313:=()
def tw6387369979981102781:=()
def tw6409665412548625298:=()
def tw6419131502408475356:=()
def tw6490209854912340317:=()
def tw650324522754274331:=()
def tw6506952852155687692:=()
def tw656852705436631820:=()
def tw6588930376921250525:=()
def tw6611669306335053208:=()
def tw6641478415823836476:=()
def tw6650513949221727293:=()
def tw6651342918587554480:=()
def tw6667450471634956122:=()
def tw6677462756278345947:=()
def tw6682850010500858430:=()
def tw6687498831993047777:=()
def tw6750396698896016957:=()
def tw6751060009110060143:=()
def tw6768647841522742793:=()
def tw6789303199188577695:=()
def tw6834798567712663454:=()
def tw6888660229595722818:=()
def tw688893107335349015:=()
def tw7078448684398234725:=()
def tw709563618308631867:=()
def tw7177994129167935565:=()
def tw7216759948244027057:=()
def tw7236374399945143119:=()
def tw7236871072461931994:=()
def tw7314531048582843620:=()
def tw7318407916433663578:=()
def tw7338519540849117182:=()
def tw7379170653024758904:=()
def tw7399655855652836441:=()
def tw7405689833468146826:=()
def tw74065925730628618:=()
def tw7430353618815367410:=()
def tw7468359884598769827:=()
def tw7481573993302844326:=()
def tw7489112734981545095:=()
def tw7541785976312573966:=()
def tw7550303709013127466:=()
def tw7562946347290636003:=()
def tw7598149138799274089:=()
def tw7618049259857574384:=()
def tw7630470356608257535:=()
def tw7681432230221822229:=()
def tw7705150739591588680:=()
def tw7708046585038976398:=()
def tw7729107302581127192:=()
def tw7729803355739740705:=()
def tw7737328091458794837:=()
def tw776664890854930376:=()
def tw7816764054777168127:=()
def tw7831201640908454902:=()
def tw7831551230295456035:=()
def tw7894026558675701931:=()
def tw7905831568685553901:=()
def tw7916228162068719798:=()
def tw7961375085417523315:=()
def tw8034486849312482343:=()
def tw8097927398220681685:=()
def tw8131644535789804682:=()
def tw8278632602623101937:=()
def tw8312146176262228629:=()
def tw8347219903626593192:=()
def tw8364647057031391526:=()
def tw8367367846042151848:=()
def tw8388605233922708789:=()
def tw8393816335231253726:=()
def tw842525042494109264:=()
def tw8432750260684805646:=()
def tw854039538527995979:=()
def tw8607950875380140785:=()
def tw8682310308169851042:=()
def tw8715302286345998822:=()
def tw871723032004746556:=()
def tw8760234812843216565:=()
def tw8801684456905325294:=()
def tw8829092534021619176:=()
def tw8873576044264125033:=()
def tw8913252915326950749:=()
def tw9037786426735240306:=()
def tw9040630318342351618:=()
def tw9046141161238127766:=()
def tw9068570118351891283:=()
def tw9076281699664541590:=()
def tw9082763889670192193:=()
def tw9123055505575448752:=()
def tw9138755946086445951:=()
def tw9156016541495617868:=()
def tw9260455635318909145:=()
def tw9271193918984814501:=()
def tw936885838279557262:=()
def tw9376612619072579978:=()
def tw945250246845662856:=()
def tw9504556446620676870:=()
def tw9559693017288723447:=()
def tw9577511934870000923:=()
def tw9754959832488564849:=()
def tw9882589985618864749:=()
def tw9888360682216921689:=()
def tw9927951105763094185:=()
def tw9987139699031038681:=()
def tw3636978059345867239:=()
end PySem.W.Fast
open PySem PySem.W PyProof.Rows
set_option maxRecDepth 100000 in
set_option maxHeartbeats 0 in
theorem PySem.Challenge.cw_weirwatch_k12_whole_one_turn_holds : PySem.Challenge.rw_weirwatch_k12_whole_one_turn.Holds := by
 w_on; o_law; k_head; (case hw=>w_witness2)
 k_fill
 refine L2.walk_ofK (l:=PySem.Challenge.rw_weirwatch_k12_whole_one_turn) (n:=63) (k:=9) (x := "_law_script") (CX:=L2.CX0) (sp:=K12.spLaw) rfl (by decide) rfl ⟨rfl,by decide,by decide⟩ (fun w h Y=>PySem.W.kIn_of Y) ?F ?S ?C
 case F =>
  intro w mg fa h KX G hmg;have T : ∃ a : K12.Ad,(∀ (s : Shared) (v : Value),BindsTo s a.d_law ⟨[v],[]⟩ [("_law_script",v)]) ∧ K12.Tx (L2.KOf KX) mg a:=by
   dsimp only [L2.KOf];refine' K12.tx_fin ?tx ?bb
   case tx =>
    refine' K12.tx_mk (L2.ft_mk KX G ?h0 ?h1 ?h2 ?h3 fun _ _ _ _ _ _ u h=>match u,h with | [_,_,_],_=>rfl) (L2.ft_mk KX G ?h4 ?h5 ?h6 ?h7 fun _ _ _ _ _ _ u h=>match u,h with | [_,_],_=>rfl) (L2.ft_mk KX G ?h8 ?h9 ?h10 ?h11 fun _ _ _ _ _ _ u h=>match u,h with | [_],_=>rfl) (L2.ft_mk KX G ?h12 ?h13 ?h14 ?h15 fun _ _ _ _ _ _ u h=>match u,h with | [_,_,_],_=>rfl) (L2.ft_mk KX G ?h16 ?h17 ?h18 ?h19 fun _ _ _ _ _ _ u h=>match u,h with | [_,_],_=>rfl) (L2.ft_mk KX G ?h20 ?h21 ?h22 ?h23 fun _ _ _ _ _ _ u h=>match u,h with | [_],_=>rfl) (L2.ft_mk KX G ?h24 ?h25 ?h26 ?h27 fun _ _ _ _ _ _ u h=>match u,h with | [_,_],_=>rfl) (L2.ft_mk KX G ?h28 ?h29 ?h30 ?h31 fun _ _ _ _ _ _ u h=>match u,h with | [_,_],_=>rfl) (L2.ft_mk KX G ?h32 ?h33 ?h34 ?h35 fun _ _ _ _ _ _ u h=>match u,h with | [_,_],_=>rfl) (L2.ft_mk KX G ?h36 ?h37 ?h38 ?h39 fun _ _ _ _ _ _ u h=>match u,h with | [_,_,_],_=>rfl) (L2.ft_mk KX G ?h40 ?h41 ?h42 ?h43 fun _ _ _ _ _ _ u h=>match u,h with | [_,_,_],_=>rfl) (L2.ft_mk KX G ?h44 ?h45 ?h46 ?h47 fun _ _ _ _ _ _ u h=>match u,h with | [_,_],_=>rfl) (L2.ft_mk KX G ?h48 ?h49 ?h50 ?h51 fun _ _ _ _ _ _ u h=>match u,h with | [_,_,_],_=>rfl) (L2.ft_mk KX G ?h52 ?h53 ?h54 ?h55 fun _ _ _ _ _ _ u h=>match u,h with | [_,_,_],_=>rfl) (L2.ft_mk KX G ?h56 ?h57 ?h58 ?h59 fun _ _ _ _ _ _ u h=>match u,h with | [_,_,_,_],_=>rfl) (L2.ft_mk KX G ?h60 ?h61 ?h62 ?h63 fun _ _ _ _ _ _ u h=>match u,h with | [_,_,_],_=>rfl) (L2.ft_mk KX G ?h64 ?h65 ?h66 ?h67 fun _ _ _ _ _ _ u h=>match u,h with | [_,_,_],_=>rfl) (L2.ft_mk KX G ?h68 ?h69 ?h70 ?h71 fun _ _ _ _ _ _ u h=>match u,h with | [_,_],_=>rfl) (L2.ft_mk KX G ?h72 ?h73 ?h74 ?h75 fun _ _ _ _ _ _ u h=>match u,h with | [_,_,_,_],_=>rfl) (L2.ft_mk KX G ?h76 ?h77 ?h78 ?h79 fun _ _ _ _ _ _ u h=>match u,h with | [_,_],_=>rfl) (L2.ft_mk KX G ?h80 ?h81 ?h82 ?h83 fun _ _ _ _ _ _ u h=>match u,h with | [_,_],_=>rfl) (L2.ft_mk KX G ?h84 ?h85 ?h86 ?h87 fun _ _ _ _ _ _ u h=>match u,h with | [_,_,_],_=>rfl) (L2.ft_mk KX G ?h88 ?h89 ?h90 ?h91 fun _ _ _ _ _ _ u h=>match u,h with | [_],_=>rfl) (L2.ft_mk KX G ?h92 ?h93 ?h94 ?h95 fun _ _ _ _ _ _ u h=>match u,h with | [_],_=>rfl) (L2.ft_mk KX G ?h96 ?h97 ?h98 ?h99 fun _ _ _ _ _ _ u h=>match u,h with | [_,_],_=>rfl) (L2.ft_mk KX G ?h100 ?h101 ?h102 ?h103 fun _ _ _ _ _ _ u h=>match u,h with | [_,_],_=>rfl) (L2.ft_mk KX G ?h104 ?h105 ?h106 ?h107 fun _ _ _ _ _ _ u h=>match u,h with | [_],_=>rfl) (L2.ft_mk KX G ?h108 ?h109 ?h110 ?h111 fun _ _ _ _ _ _ u h=>match u,h with | [_,_],_=>rfl) (L2.ft_mk KX G ?h112 ?h113 ?h114 ?h115 fun _ _ _ _ _ _ u h=>match u,h with | [_,_],_=>rfl) (L2.ft_mk KX G ?h116 ?h117 ?h118 ?h119 fun _ _ _ _ _ _ u h=>match u,h with | [_],_=>rfl) (L2.ft_mk KX G ?h120 ?h121 ?h122 ?h123 fun _ _ _ _ _ _ u h=>match u,h with | [_,_],_=>rfl) (L2.ft_mk KX G ?h124 ?h125 ?h126 ?h127 fun _ _ _ _ _ _ u h=>match u,h with | [_],_=>rfl) (L2.ft_mk KX G ?h128 ?h129 ?h130 ?h131 fun _ _ _ _ _ _ u h=>match u,h with | [_],_=>rfl) (L2.ft_mk KX G ?h132 ?h133 ?h134 ?h135 fun _ _ _ _ _ _ u h=>match u,h with | [_],_=>rfl) (L2.ft_mk KX G ?h136 ?h137 ?h138 ?h139 fun _ _ _ _ _ _ u h=>match u,h with | [_],_=>rfl) (L2.ft_mk KX G ?h140 ?h141 ?h142 ?h143 fun _ _ _ _ _ _ u h=>match u,h with | [_,_],_=>rfl) (L2.ft_mk KX G ?h144 ?h145 ?h146 ?h147 fun _ _ _ _ _ _ u h=>match u,h with | [_,_],_=>rfl) (L2.ft_mk KX G ?h148 ?h149 ?h150 ?h151 fun _ _ _ _ _ _ u h=>match u,h with | [_,_],_=>rfl) (L2.ft_mk KX G ?h152 ?h153 ?h154 ?h155 fun _ _ _ _ _ _ u h=>match u,h with | [_,_,_],_=>rfl) (L2.ft_mk KX G ?h156 ?h157 ?h158 ?h159 fun _ _ _ _ _ _ u h=>match u,h with | [_,_,_],_=>rfl) (L2.ft_mk KX G ?h160 ?h161 ?h162 ?h163 fun _ _ _ _ _ _ u h=>match u,h with | [_,_,_],_=>rfl) (L2.ft_mk KX G ?h164 ?h165 ?h166 ?h167 fun _ _ _ _ _ _ u h=>match u,h with | [_,_,_],_=>rfl) (L2.ft_mk KX G ?h168 ?h169 ?h170 ?h171 fun _ _ _ _ _ _ u h=>match u,h with | [_,_,_,_],_=>rfl) (L2.ft_mk KX G ?h172 ?h173 ?h174 ?h175 fun _ _ _ _ _ _ u h=>match u,h with | [_,_],_=>rfl) (L2.ft_mk KX G ?h176 ?h177 ?h178 ?h179 fun _ _ _ _ _ _ u h=>match u,h with | [_,_,_,_,_],_=>rfl) (L2.ft_mk KX G ?h180 ?h181 ?h182 ?h183 fun _ _ _ _ _ _ u h=>match u,h with | [_],_=>rfl) (PySem.W.mg_of KX G ?h184) (PySem.W.mg_of KX G ?h185) (PySem.W.mg_of KX G ?h186) (PySem.W.mg_of KX G ?h187) (PySem.W.mg_of KX G ?h188) (PySem.W.mg_of KX G ?h189) (PySem.W.mg_of KX G ?h190) (PySem.W.mg_of KX G ?h191) (PySem.W.mg_of KX G ?h192) (PySem.W.mg_of KX G ?h193) (PySem.W.mg_of KX G ?h194) (PySem.W.mg_none_of KX G ?h195) (PySem.W.mg_none_of KX G ?h196) (PySem.W.mg_none_of KX G ?h197) (PySem.W.mg_none_of KX G ?h198) (PySem.W.mg_none_of KX G ?h199) (PySem.W.mg_none_of KX G ?h200) (PySem.W.mg_none_of KX G ?h201) (PySem.W.mg_none_of KX G ?h202) (PySem.W.mg_none_of KX G ?h203) (PySem.W.mg_none_of KX G ?h204) (PySem.W.mg_none_of KX G ?h205) (PySem.W.mg_none_of KX G ?h206) (PySem.W.mg_none_of KX G ?h207) (PySem.W.mg_none_of KX G ?h208) (PySem.W.mg_none_of KX G ?h209) (PySem.W.mg_of KX G ?h210) (PySem.W.mg_of KX G ?h211) (PySem.W.mg_of KX G ?h212) (PySem.W.mg_of KX G ?h213) (PySem.W.mg_of KX G ?h214) (PySem.W.mg_of KX G ?h215) (PySem.W.mg_of KX G ?h216) (PySem.W.mg_of KX G ?h217) (PySem.W.mg_of KX G ?h218) (PySem.W.mg_of KX G ?h219) (PySem.W.mg_of KX G ?h220) (PySem.W.mg_of KX G ?h221) (PySem.W.mg_of KX G ?h222) (PySem.W.mg_of KX G ?h223) (PySem.W.mg_of KX G ?h224) (PySem.W.mg_of KX G ?h225) (PySem.W.mg_of KX G ?h226) (PySem.W.mg_of KX G ?h227) (PySem.W.mg_of KX G ?h228) (PySem.W.mg_of KX G ?h229) ?h230 (L2.fm_mk ?h231 ?h232 ?h233 fun _ _ _ _ _ _ u h=>match u,h with | [_,_],_=>rfl) ?h234 (L2.fm_mk ?h235 ?h236 ?h237 fun _ _ _ _ _ _ u h=>match u,h with | [_,_],_=>rfl) ?h238 (L2.fm_mk ?h239 ?h240 ?h241 fun _ _ _ _ _ _ u h=>match u,h with | [_,_],_=>rfl) ?h242 (L2.fm_mk ?h243 ?h244 ?h245 fun _ _ _ _ _ _ u h=>match u,h with | [_,_],_=>rfl) ?h246 (L2.fm_mk ?h247 ?h248 ?h249 fun _ _ _ _ _ _ u h=>match u,h with | [_,_],_=>rfl) ?h250 (L2.fm_mk ?h251 ?h252 ?h253 fun _ _ _ _ _ _ u h=>match u,h with | [_,_],_=>rfl) ?h254 (L2.fm_mk ?h255 ?h256 ?h257 fun _ _ _ _ _ _ u h=>match u,h with | [_,_],_=>rfl) ?h258 (L2.fm_mk ?h259 ?h260 ?h261 fun _ _ _ _ _ _ u h=>match u,h with | [_,_],_=>rfl) ?h262 (L2.fm_mk ?h263 ?h264 ?h265 fun _ _ _ _ _ _ u h=>match u,h with | [_,_],_=>rfl) ?h266 (L2.fm_mk ?h267 ?h268 ?h269 fun _ _ _ _ _ _ u h=>match u,h with | [_,_],_=>rfl) ?h270 (L2.fm_mk ?h271 ?h272 ?h273 fun _ _ _ _ _ _ u h=>match u,h with | [_,_,_,_,_],_=>rfl) ?h274 (L2.fm_mk ?h275 ?h276 ?h277 fun _ _ _ _ _ _ u h=>match u,h with | [_],_=>rfl) ?h278 (L2.fm_mk ?h279 ?h280 ?h281 fun _ _ _ _ _ _ u h=>match u,h with | [_,_,_],_=>rfl) ?h282 (L2.fm_mk ?h283 ?h284 ?h285 fun _ _ _ _ _ _ u h=>match u,h with | [_,_],_=>rfl) ?h286 (L2.fm_mk ?h287 ?h288 ?h289 fun _ _ _ _ _ _ u h=>match u,h with | [_],_=>rfl) ?h290 (L2.fm_mk ?h291 ?h292 ?h293 fun _ _ _ _ _ _ u h=>match u,h with | [_,_,_],_=>rfl) ?h294 (L2.fm_mk ?h295 ?h296 ?h297 fun _ _ _ _ _ _ u h=>match u,h with | [_,_],_=>rfl) ?h298 (L2.fm_mk ?h299 ?h300 ?h301 fun _ _ _ _ _ _ u h=>match u,h with | [_],_=>rfl) ?h302 (L2.fm_mk ?h303 ?h304 ?h305 fun _ _ _ _ _ _ u h=>match u,h with | [_,_,_],_=>rfl) ?h306 (L2.fm_mk ?h307 ?h308 ?h309 fun _ _ _ _ _ _ u h=>match u,h with | [_,_],_=>rfl) ?h310 (L2.fm_mk ?h311 ?h312 ?h313 fun _ _ _ _ _ _ u h=>match u,h with | [_],_=>rfl) ?h314 (L2.fm_mk ?h315 ?h316 ?h317 fun _ _ _ _ _ _ u h=>match u,h with | [_,_,_],_=>rfl) ?h318 (L2.fm_mk ?h319 ?h320 ?h321 fun _ _ _ _ _ _ u h=>match u,h with | [_,_,_],_=>rfl) ?h322 (L2.fm_mk ?h323 ?h324 ?h325 fun _ _ _ _ _ _ u h=>match u,h with | [_],_=>rfl) ?h326 (L2.fm_mk ?h327 ?h328 ?h329 fun _ _ _ _ _ _ u h=>match u,h with | [_,_,_],_=>rfl) ?h330 (L2.fm_mk ?h331 ?h332 ?h333 fun _ _ _ _ _ _ u h=>match u,h with | [_,_,_,_,_,_,_],_=>rfl) ?h334 (L2.fm_mk ?h335 ?h336 ?h337 fun _ _ _ _ _ _ u h=>match u,h with | [_,_,_,_],_=>rfl) ?h338 (L2.fm_mk ?h339 ?h340 ?h341 fun _ _ _ _ _ _ u h=>match u,h with | [_,_,_,_,_],_=>rfl) ?h342 (L2.fm_mk ?h343 ?h344 ?h345 fun _ _ _ _ _ _ u h=>match u,h with | [_,_],_=>rfl) (L2.xc_mk ?h346 ?h347 ?h348) ?h349 (L2.xc_mk ?h350 ?h351 ?h352) ?h353 (L2.xc_mk ?h354 ?h355 ?h356) ?h357 (L2.xc_mk ?h358 ?h359 ?h360) ?h361 (L2.xc_mk ?h362 ?h363 ?h364) (L2.xc_mk ?h365 ?h366 ?h367) (L2.xc_mk ?h368 ?h369 ?h370) ?h371 (L2.xc_mk ?h372 ?h373 ?h374) ?h375 (L2.xc_mk ?h376 ?h377 ?h378) ?h379 (L2.xc_mk ?h380 ?h381 ?h382) ⟨?h383,?h384,?h385,?h386⟩ ⟨?h387,?h388,?h389,?h390⟩ ⟨?h391,?h392,?h393,?h394⟩ ⟨?h395,?h396,?h397⟩ ?h398 ?h399 ?h400 ?h401 ?h402 ?h403 ?h404 ?h405 ⟨?h406,?h407,?h408,?h409⟩ ⟨?h410,?h411,?h412,?h413⟩ ⟨?h414,?h415,?h416,?h417⟩ ⟨?h418,?h419,?h420⟩ ⟨?h421,?h422,?h423⟩ ⟨?h424,?h425,?h426⟩ ?h427 ⟨?h428,?h429,?h430,?h431⟩ ⟨?h432,?h433,?h434,?h435⟩ ⟨?h436,?h437,?h438,?h439⟩ ⟨?h440,?h441,?h442⟩ ⟨?h443,?h444,?h445⟩ ⟨?h446,?h447,?h448⟩ ?h449 ⟨?h450,?h451,?h452,?h453⟩ ⟨?h454,?h455,?h456,?h457⟩ ⟨?h458,?h459,?h460,?h461⟩ ⟨?h462,?h463,?h464⟩ ⟨?h465,?h466,?h467⟩ ⟨?h468,?h469,?h470⟩ ?h471 ⟨?h472,?h473,?h474,?h475⟩ ⟨?h476,?h477,?h478,?h479⟩ ⟨?h480,?h481,?h482,?h483⟩ ⟨?h484,?h485,?h486⟩ ⟨?h487,?h488,?h489⟩ ⟨?h490,?h491,?h492⟩ ?h493 ?h494 ⟨?h495,?h496,?h497,?h498⟩ ⟨?h499,?h500,?h501,?h502⟩ ⟨?h503,?h504,?h505,?h506⟩ ?h507 ?h508 ?h509 ?h510 ?h511 ?h512 ⟨?h513,?h514,?h515,?h516⟩ ⟨?h517,?h518,?h519,?h520⟩ ⟨?h521,?h522,?h523,?h524⟩ ?h525 ?h526 ?h527 ⟨?h528,?h529,?h530,?h531⟩ ⟨?h532,?h533,?h534,?h535⟩ ⟨?h536,?h537,?h538⟩ ?h539 ?h540 ?h541 ?h542 ?h543 ?h544 ?h545 ?h546 ?h547 ?h548 ?h549 ?h550 ?h551 ?h552 ?h553 ?h554 ?h555 ?h556 ?h557 ?h558 ?h559
    case h0=>k_is
    case h1=>k_is
    case h2=>k_is
    case h3=>k_is
    case h4=>k_is
    case h5=>k_is
    case h6=>k_is
    case h7=>k_is
    case h8=>k_is
    case h9=>k_is
    case h10=>k_is
    case h11=>k_is
    case h12=>k_is
    case h13=>k_is
    case h14=>k_is
    case h15=>k_is
    case h16=>k_is
    case h17=>k_is
    case h18=>k_is
    case h19=>k_is
    case h20=>k_is
    case h21=>k_is
    case h22=>k_is
    case h23=>k_is
    case h24=>k_is
    case h25=>k_is
    case h26=>k_is
    case h27=>k_is
    case h28=>k_is
    case h29=>k_is
    case h30=>k_is
    case h31=>k_is
    case h32=>k_is
    case h33=>k_is
    case h34=>k_is
    case h35=>k_is
    case h36=>k_is
    case h37=>k_is
    case h38=>k_is
    case h39=>k_is
    case h40=>k_is
    case h41=>k_is
    case h42=>k_is
    case h43=>k_is
    case h44=>k_is
    case h45=>k_is
    case h46=>k_is
    case h47=>k_is
    case h48=>k_is
    case h49=>k_is
    case h50=>k_is
    case h51=>k_is
    case h52=>k_is
    case h53=>k_is
    case h54=>k_is
    case h55=>k_is
    case h56=>k_is
    case h57=>k_is
    case h58=>k_is
    case h59=>k_is
    case h60=>k_is
    case h61=>k_is
    case h62=>k_is
    case h63=>k_is
    case h64=>k_is
    case h65=>k_is
    case h66=>k_is
    case h67=>k_is
    case h68=>k_is
    case h69=>k_is
    case h70=>k_is
    case h71=>k_is
    case h72=>k_is
    case h73=>k_is
    case h74=>k_is
    case h75=>k_is
    case h76=>k_is
    case h77=>k_is
    case h78=>k_is
    case h79=>k_is
    case h80=>k_is
    case h81=>k_is
    case h82=>k_is
    case h83=>k_is
    case h84=>k_is
    case h85=>k_is
    case h86=>k_is
    case h87=>k_is
    case h88=>k_is
    case h89=>k_is
    case h90=>k_is
    case h91=>k_is
    case h92=>k_is
    case h93=>k_is
    case h94=>k_is
    case h95=>k_is
    case h96=>k_is
    case h97=>k_is
    case h98=>k_is
    case h99=>k_is
    case h100=>k_is
    case h101=>k_is
    case h102=>k_is
    case h103=>k_is
    case h104=>k_is
    case h105=>k_is
    case h106=>k_is
    case h107=>k_is
    case h108=>k_is
    case h109=>k_is
    case h110=>k_is
    case h111=>k_is
    case h112=>k_is
    case h113=>k_is
    case h114=>k_is
    case h115=>k_is
    case h116=>k_is
    case h117=>k_is
    case h118=>k_is
    case h119=>k_is
    case h120=>k_is
    case h121=>k_is
    case h122=>k_is
    case h123=>k_is
    case h124=>k_is
    case h125=>k_is
    case h126=>k_is
    case h127=>k_is
    case h128=>k_is
    case h129=>k_is
    case h130=>k_is
    case h131=>k_is
    case h132=>k_is
    case h133=>k_is
    case h134=>k_is
    case h135=>k_is
    case h136=>k_is
    case h137=>k_is
    case h138=>k_is
    case h139=>k_is
    case h140=>k_is
    case h141=>k_is
    case h142=>k_is
    case h143=>k_is
    case h144=>k_is
    case h145=>k_is
    case h146=>k_is
    case h147=>k_is
    case h148=>k_is
    case h149=>k_is
    case h150=>k_is
    case h151=>k_is
    case h152=>k_is
    case h153=>k_is
    case h154=>k_is
    case h155=>k_is
    case h156=>k_is
    case h157=>k_is
    case h158=>k_is
    case h159=>k_is
    case h160=>k_is
    case h161=>k_is
    case h162=>k_is
    case h163=>k_is
    case h164=>k_is
    case h165=>k_is
    case h166=>k_is
    case h167=>k_is
    case h168=>k_is
    case h169=>k_is
    case h170=>k_is
    case h171=>k_is
    case h172=>k_is
    case h173=>k_is
    case h174=>k_is
    case h175=>k_is
    case h176=>k_is
    case h177=>k_is
    case h178=>k_is
    case h179=>k_is
    case h180=>k_is
    case h181=>k_is
    case h182=>k_is
    case h183=>k_is
    case h184=>k_is
    case h185=>k_is
    case h186=>k_is
    case h187=>k_is
    case h188=>k_is
    case h189=>k_is
    case h190=>k_is
    case h191=>k_is
    case h192=>k_is
    case h193=>k_is
    case h194=>k_is
    case h195=>k_is
    case h196=>k_is
    case h197=>k_is
    case h198=>k_is
    case h199=>k_is
    case h200=>k_is
    case h201=>k_is
    case h202=>k_is
    case h203=>k_is
    case h204=>k_is
    case h205=>k_is
    case h206=>k_is
    case h207=>k_is
    case h208=>k_is
    case h209=>k_is
    case h210=>k_is
    case h211=>k_is
    case h212=>k_is
    case h213=>k_is
    case h214=>k_is
    case h215=>k_is
    case h216=>k_is
    case h217=>k_is
    case h218=>k_is
    case h219=>k_is
    case h220=>k_is
    case h221=>k_is
    case h222=>k_is
    case h223=>k_is
    case h224=>k_is
    case h225=>k_is
    case h226=>k_is
    case h227=>k_is
    case h228=>k_is
    case h229=>k_is
    case h230=>k_is
    case h231=>k_is
    case h232=>k_is
    case h233=>k_is
    case h234=>k_is
    case h235=>k_is
    case h236=>k_is
    case h237=>k_is
    case h238=>k_is
    case h239=>k_is
    case h240=>k_is
    case h241=>k_is
    case h242=>k_is
    case h243=>k_is
    case h244=>k_is
    case h245=>k_is
    case h246=>k_is
    case h247=>k_is
    case h248=>k_is
    case h249=>k_is
    case h250=>k_is
    case h251=>k_is
    case h252=>k_is
    case h253=>k_is
    case h254=>k_is
    case h255=>k_is
    case h256=>k_is
    case h257=>k_is
    case h258=>k_is
    case h259=>k_is
    case h260=>k_is
    case h261=>k_is
    case h262=>k_is
    case h263=>k_is
    case h264=>k_is
    case h265=>k_is
    case h266=>k_is
    case h267=>k_is
    case h268=>k_is
    case h269=>k_is
    case h270=>k_is
    case h271=>k_is
    case h272=>k_is
    case h273=>k_is
    case h274=>k_is
    case h275=>k_is
    case h276=>k_is
    case h277=>k_is
    case h278=>k_is
    case h279=>k_is
    case h280=>k_is
    case h281=>k_is
    case h282=>k_is
    case h283=>k_is
    case h284=>k_is
    case h285=>k_is
    case h286=>k_is
    case h287=>k_is
    case h288=>k_is
    case h289=>k_is
    case h290=>k_is
    case h291=>k_is
    case h292=>k_is
    case h293=>k_is
    case h294=>k_is
    case h295=>k_is
    case h296=>k_is
    case h297=>k_is
    case h298=>k_is
    case h299=>k_is
    case h300=>k_is
    case h301=>k_is
    case h302=>k_is
    case h303=>k_is
    case h304=>k_is
    case h305=>k_is
    case h306=>k_is
    case h307=>k_is
    case h308=>k_is
    case h309=>k_is
    case h310=>k_is
    case h311=>k_is
    case h312=>k_is
    case h313=>k_is
    case h314=>k_is
    case h315=>k_is
    case h316=>k_is
    case h317=>k_is
    case h318=>k_is
    case h319=>k_is
    case h320=>k_is
    case h321=>k_is
    case h322=>k_is
    case h323=>k_is
    case h324=>k_is
    case h325=>k_is
    case h326=>k_is
    case h327=>k_is
    case h328=>k_is
    case h329=>k_is
    case h330=>k_is
    case h331=>k_is
    case h332=>k_is
    case h333=>k_is
    case h334=>k_is
    case h335=>k_is
    case h336=>k_is
    case h337=>k_is
    case h338=>k_is
    case h339=>k_is
    case h340=>k_is
    case h341=>k_is
    case h342=>k_is
    case h343=>k_is
    case h344=>k_is
    case h345=>k_is
    case h346=>k_is
    case h347=>kernel_rfl
    case h348=>kernel_rfl
    case h349=>k_is
    case h350=>k_is
    case h351=>kernel_rfl
    case h352=>kernel_rfl
    case h353=>k_is
    case h354=>k_is
    case h355=>kernel_rfl
    case h356=>kernel_rfl
    case h357=>k_is
    case h358=>k_is
    case h359=>kernel_rfl
    case h360=>kernel_rfl
    case h361=>k_is
    case h362=>k_is
    case h363=>kernel_rfl
    case h364=>kernel_rfl
    case h365=>k_is
    case h366=>kernel_rfl
    case h367=>kernel_rfl
    case h368=>k_is
    case h369=>kernel_rfl
    case h370=>kernel_rfl
    case h371=>k_is
    case h372=>k_is
    case h373=>kernel_rfl
    case h374=>kernel_rfl
    case h375=>k_is
    case h376=>k_is
    case h377=>kernel_rfl
    case h378=>kernel_rfl
    case h379=>k_is
    case h380=>k_is
    case h381=>kernel_rfl
    case h382=>kernel_rfl
    case h383=>k_is
    case h384=>k_is
    case h385=>k_is
    case h386=>k_is
    case h387=>k_is
    case h388=>k_is
    case h389=>k_is
    case h390=>k_is
    case h391=>k_is
    case h392=>k_is
    case h393=>k_is
    case h394=>k_is
    case h395=>k_is
    case h396=>k_is
    case h397=>k_is
    case h398=>k_is
    case h399=>k_is
    case h400=>k_is
    case h401=>k_is
    case h402=>k_is
    case h403=>k_is
    case h404=>k_is
    case h405=>k_is
    case h406=>k_is
    case h407=>k_is
    case h408=>k_is
    case h409=>k_is
    case h410=>k_is
    case h411=>k_is
    case h412=>k_is
    case h413=>k_is
    case h414=>k_is
    case h415=>k_is
    case h416=>k_is
    case h417=>k_is
    case h418=>k_is
    case h419=>k_is
    case h420=>k_is
    case h421=>k_is
    case h422=>k_is
    case h423=>k_is
    case h424=>k_is
    case h425=>k_is
    case h426=>k_is
    case h427=>k_is
    case h428=>k_is
    case h429=>k_is
    case h430=>k_is
    case h431=>k_is
    case h432=>k_is
    case h433=>k_is
    case h434=>k_is
    case h435=>k_is
    case h436=>k_is
    case h437=>k_is
    case h438=>k_is
    case h439=>k_is
    case h440=>k_is
    case h441=>k_is
    case h442=>k_is
    case h443=>k_is
    case h444=>k_is
    case h445=>k_is
    case h446=>k_is
    case h447=>k_is
    case h448=>k_is
    case h449=>k_is
    case h450=>k_is
    case h451=>k_is
    case h452=>k_is
    case h453=>k_is
    case h454=>k_is
    case h455=>k_is
    case h456=>k_is
    case h457=>k_is
    case h458=>k_is
    case h459=>k_is
    case h460=>k_is
    case h461=>k_is
    case h462=>k_is
    case h463=>k_is
    case h464=>k_is
    case h465=>k_is
    case h466=>k_is
    case h467=>k_is
    case h468=>k_is
    case h469=>k_is
    case h470=>k_is
    case h471=>k_is
    case h472=>k_is
    case h473=>k_is
    case h474=>k_is
    case h475=>k_is
    case h476=>k_is
    case h477=>k_is
    case h478=>k_is
    case h479=>k_is
    case h480=>k_is
    case h481=>k_is
    case h482=>k_is
    case h483=>k_is
    case h484=>k_is
    case h485=>k_is
    case h486=>k_is
    case h487=>k_is
    case h488=>k_is
    case h489=>k_is
    case h490=>k_is
    case h491=>k_is
    case h492=>k_is
    case h493=>k_is
    case h494=>k_is
    case h495=>k_is
    case h496=>k_is
    case h497=>k_is
    case h498=>k_is
    case h499=>k_is
    case h500=>k_is
    case h501=>k_is
    case h502=>k_is
    case h503=>k_is
    case h504=>k_is
    case h505=>k_is
    case h506=>k_is
    case h507=>k_is
    case h508=>k_is
    case h509=>k_is
    case h510=>k_is
    case h511=>k_is
    case h512=>k_is
    case h513=>k_is
    case h514=>k_is
    case h515=>k_is
    case h516=>k_is
    case h517=>k_is
    case h518=>k_is
    case h519=>k_is
    case h520=>k_is
    case h521=>k_is
    case h522=>k_is
    case h523=>k_is
    case h524=>k_is
    case h525=>k_is
    case h526=>k_is
    case h527=>k_is
    case h528=>k_is
    case h529=>k_is
    case h530=>k_is
    case h531=>k_is
    case h532=>k_is
    case h533=>k_is
    case h534=>k_is
    case h535=>k_is
    case h536=>k_is
    case h537=>k_is
    case h538=>k_is
    case h539=>k_is
    case h540=>k_is
    case h541=>k_is
    case h542=>k_is
    case h543=>kernel_rfl
    case h544=>kernel_rfl
    case h545=>kernel_rfl
    case h546=>kernel_rfl
    case h547=>kernel_rfl
    case h548=>kernel_rfl
    case h549=>kernel_rfl
    case h550=>kernel_rfl
    case h551=>kernel_rfl
    case h552=>kernel_rfl
    case h553=>kernel_rfl
    case h554=>kernel_rfl
    case h555=>kernel_rfl
    case h556=>kernel_rfl
    case h557=>kernel_rfl
    case h558=>kernel_rfl
    case h559=>kernel_rfl
   case bb=>exact fun s v=>.of_eq rfl
  obtain ⟨a,b,T⟩:=T;have e:=hmg.symm.trans T.f_law.mgx;cases e;exact ⟨a.d_law,b,fun base kb nb=>K12.ok_law T⟩
 case S=>exact fun K H a ns hl hO hS=>⟨a,ns,rfl,hS,hl,fun _=>rfl⟩
 case C=>exact fun _ _ _ _ z=>z
#print axioms PySem.Challenge.cw_weirwatch_k12_whole_one_turn_holds
