import PyProof.Rows.All
import Wide.All
import OpenK.AllK
import Wide.FinOn
import Lean
import PyProof.EqAt
import PyProof.EqKinds
import PyProof.TupleCall
import PySem.Challenge.RW_weirwatch_k15_told_keepers_and_skies
set_option Elab.async false
set_option linter.all false
set_option maxRecDepth 100000
namespace L2
open PySem PySem.Spec PyProof.Rows
abbrev Key:=Sum Int Str
def Jqf : Key → Value → Bool
 | .inl k,v=>Value.isInt k v
 | .inr x,v=>Value.isStrOf x v
def keyH (w : World) : Key → Int
 | .inl k=>hashInt k
 | .inr x=>hashStr w x
theorem Jjg : ∀ {k : Key} {v : Value},Jqf k v = true → (∃ i t,k = Sum.inl i ∧ v = Value.int i t) ∨ (∃ x t,k = Sum.inr x ∧ v = Value.str x t)
 | .inl i,v,h=>by
  obtain ⟨t,e⟩:=Value.isInt_shape (k:=i) (v:=v) h
  exact .inl ⟨i,t,rfl,e⟩
 | .inr x,v,h=>by
  obtain ⟨t,e⟩:=Value.isStrOf_shape (x:=x) (v:=v) h
  exact .inr ⟨x,t,rfl,e⟩
theorem Jui (i : Int) (t : Tok) : Jqf (.inl i) (.int i t) = true:=by simp [Jqf,Value.isInt]
theorem Juj (x : Str) (t : Tok) : Jqf (.inr x) (.str x t) = true:=by simp [Jqf,Value.isStrOf]
theorem key_ll (a b : Int) : decide ((Sum.inl a : Key) = Sum.inl b) = (a == b):=by
 by_cases e : a = b
 ·subst e; simp
 ·have h : ¬ (Sum.inl a : Key) = Sum.inl b:=fun q=>e (Sum.inl.inj q)
  rw [decide_eq_false h]
  exact (beq_eq_false_iff_ne.mpr e).symm
theorem key_rr (a b : Str) : decide ((Sum.inr a : Key) = Sum.inr b) = decide (a = b):=by
 by_cases e : a = b
 ·subst e; simp
 ·have h : ¬ (Sum.inr a : Key) = Sum.inr b:=fun q=>e (Sum.inr.inj q)
  rw [decide_eq_false h,decide_eq_false e]
theorem key_lr (a : Int) (b : Str) : decide ((Sum.inl a : Key) = Sum.inr b) = false:=decide_eq_false (fun q=>nomatch q)
theorem key_rl (a : Str) (b : Int) : decide ((Sum.inr a : Key) = Sum.inl b) = false:=decide_eq_false (fun q=>nomatch q)
def Jj4 (prog : Program) (w : World) : PySem.KeyKind prog w Key where
 is:=Jqf
 hash:=keyH w
 inj:=fun v a b ha hb=>by
  rcases Jjg ha with ⟨i,t,rfl,rfl⟩ | ⟨x,t,rfl,rfl⟩
  ·rcases Jjg hb with ⟨j,u,rfl,e⟩ | ⟨y,u,rfl,e⟩
   ·injection e with e1 _; rw [e1]
   ·exact nomatch e
  ·rcases Jjg hb with ⟨j,u,rfl,e⟩ | ⟨y,u,rfl,e⟩
   ·exact nomatch e
   ·injection e with e1 _; rw [e1]
 byValue:=fun k v h=>by
  rcases Jjg h with ⟨i,t,rfl,rfl⟩ | ⟨x,t,rfl,rfl⟩ <;> rfl
 pyHash:=fun hv h=>by
  rcases Jjg hv with ⟨i,t,rfl,rfl⟩ | ⟨x,t,rfl,rfl⟩
  ·exact wpAny_pyHash_int h
  ·exact wpAny_pyHash_str h
 eqBool:=fun hu hv h=>by
  rcases Jjg hu with ⟨i,t,rfl,rfl⟩ | ⟨x,t,rfl,rfl⟩
  ·rcases Jjg hv with ⟨j,u,rfl,rfl⟩ | ⟨y,u,rfl,rfl⟩
   ·rw [key_ll] at h; exact wpAny_eqBool_int h
   ·rw [key_lr] at h; exact SeqAt.EqAt.int_str i t y u _ _ _ _ h
  ·rcases Jjg hv with ⟨j,u,rfl,rfl⟩ | ⟨y,u,rfl,rfl⟩
   ·rw [key_rl] at h; exact SeqAt.EqAt.str_int x t j u _ _ _ _ h
   ·rw [key_rr] at h; exact wpAny_eqBool_str h
 «strs»:=fun k x t v h=>by
  rcases Jjg h with ⟨i,u,rfl,e⟩ | ⟨y,u,rfl,e⟩
  ·exact nomatch e
  ·injection e with e1 _
   subst e1
   cases v <;> rfl
theorem Jrz (prog : Program) (w : World) (i : Int) (t : Tok) : (Jj4 prog w).is (.inl i) (.int i t) = true:=Jui i t
theorem Jlz (prog : Program) (w : World) (x : Str) (t : Tok) : (Jj4 prog w).is (.inr x) (.str x t) = true:=Juj x t
end L2
namespace L2
open PySem PySem.Spec PyProof.Rows
inductive V where
 | non | bl (b : Bool) | int (i : Int) | str (x : Str) | byt (b : Array UInt8) | flt (b : UInt64) | ref (a : Addr) | ty (n : String)
 deriving DecidableEq
def RelV : V → Value → Prop
 | .non,u=>u = Value.none
 | .bl b,u=>u = Value.bool b
 | .int i,u=>∃ t,u = Value.int i t
 | .str x,u=>∃ t,u = Value.str x t
 | .byt b,u=>∃ t,u = Value.bytes b t
 | .flt b,u=>∃ t,u = Value.float b t
 | .ref a,u=>u = Value.ref a
 | .ty n,u=>u = Value.type n
abbrev Vals : List V → List Value → Prop:=Paired RelV
theorem Vals.length {xs : List V} {us : List Value} (r : Vals xs us) : xs.length = us.length:=Paired.length r
theorem Vals.get : ∀ {xs : List V} {us : List Value} {i : Nat} {x : V},Vals xs us → xs[i]? = some x → ∃ u,us[i]? = some u ∧ RelV x u
 | _,_,_,_,.nil,e=>by simp at e
 | _,_,0,_,.cons r _,e=>by simp at e; subst e; exact ⟨_,rfl,r⟩
 | _,_,i + 1,x,.cons _ t,e=>by
  obtain ⟨u,h1,h2⟩:=Vals.get (i:=i) (x:=x) t (by simpa using e)
  exact ⟨u,by simpa using h1,h2⟩
theorem Vals.set {x : V} {u : Value} (r : RelV x u) : ∀ {xs : List V} {us : List Value} (i : Nat),Vals xs us → Vals (xs.set i x) (us.set i u)
 | _,_,_,.nil=>.nil
 | _,_,0,.cons _ t=>.cons r t
 | _,_,i + 1,.cons q t=>.cons q (Vals.set r i t)
theorem Vals.append : ∀ {xs ys : List V} {us ws : List Value},Vals xs us → Vals ys ws → Vals (xs ++ ys) (us ++ ws)
 | _,_,_,_,.nil,s=>s
 | _,_,_,_,.cons r t,s=>.cons r (Vals.append t s)
theorem Vals.take : ∀ {xs : List V} {us : List Value} (n : Nat),Vals xs us → Vals (xs.take n) (us.take n)
 | _,_,0,_=>.nil
 | _,_,_ + 1,.nil=>.nil
 | _,_,n + 1,.cons r t=>.cons r (Vals.take n t)
theorem Vals.drop : ∀ {xs : List V} {us : List Value} (n : Nat),Vals xs us → Vals (xs.drop n) (us.drop n)
 | _,_,0,r=>r
 | _,_,_ + 1,.nil=>.nil
 | _,_,n + 1,.cons _ t=>Vals.drop n t
def RelO : Option V → Option Value → Prop
 | some v,some u=>RelV v u
 | none,none=>True
 | _,_=>False
def KV {κ : Type} : List (κ × V) → List (κ × Value) → Prop:=Paired fun (p : κ × V) (q : κ × Value)=>p.1 = q.1 ∧ RelV p.2 q.2
def kV : Key → V
 | .inl i=>.int i
 | .inr x=>.str x
inductive HO where
 | lst (xs : List V)
 | tup (xs : List V)
 | dK (kvs : List (Key × V)) | dT (kvs : List (List Key × V))
 | set (S : Int → Bool) (n : Nat)
 | ins (C dx : Addr) (fs : List (Str × V))
 | own (x : Addr)
 | xd (fs : List (Str × V))
 | cod (q : Str)
 | rng (lo hi : Int)
 | frz (o : Obj) (u : HO)
 | tbl (ps : Array (Nat × Nat × Str))
 | ext (φ : Heap → Prop)
abbrev Hp:=Addr → Option HO
def upd (H : Hp) (a : Addr) (o : HO) : Hp:=fun b=>if b = a then some o else H b
theorem Ji3 {H : Hp} {a : Addr} {o : HO} : upd H a o a = some o:=by unfold upd; rw [if_pos rfl]
theorem Ji9 {H : Hp} {a b : Addr} {o : HO} (h : b ≠ a) : upd H a o b = H b:=by unfold upd; rw [if_neg h]
theorem Jka {H : Hp} {a : Addr} {o u : HO} : upd (upd H a o) a u = upd H a u:=by
 funext b; unfold upd; split <;> rfl
theorem ne_of {H : Hp} {a b : Addr} {o u : HO} (h : H a = some o) (h' : H b = some u) (d : o ≠ u) : a ≠ b:=by
 intro e; subst e; rw [h] at h'; exact d (Option.some.inj h')
theorem Ji8 {H : Hp} {a b : Addr} {o : HO} (h : H a = some o) (h' : H b = none) : a ≠ b:=by
 intro e; subst e; rw [h] at h'; cases h'
def celF (o : Obj) : HO:=.frz o (.ext fun _=>True)
def TrOk (H : Hp) (lb : Array (Nat × Nat × Str)) : List Value → Prop
 | []=>True
 | .int l _ :: .int c _ :: v :: r=>(∃ (n m : Nat) (q : Str) (a : Addr),(n,m,q) ∈ lb ∧ l = n ∧ c = m ∧ v = .ref a ∧ H a = some (.cod q)) ∧ TrOk H lb r
 | _=>False
theorem TrOk.mono {H H' : Hp} {lb : Array (Nat × Nat × Str)} (k : ∀ b q,H b = some (.cod q) → H' b = some (.cod q)) {l : List Value} (x : TrOk H lb l) : TrOk H' lb l:=by
 fun_induction TrOk H lb l with
 | case1=>exact True.intro
 | case2 l _ c _ v r ih =>
  obtain ⟨⟨n,m,q,a,h1,h2,h3,h4,h5⟩,h6⟩:=x
  exact ⟨⟨n,m,q,a,h1,h2,h3,h4,k _ _ h5⟩,ih h6⟩
 | case3=>exact x.elim
section
variable (P : Program) (w : World)
def ObjOk (H : Hp) (h : Heap) (a : Addr) : HO → Prop
 | .lst xs=>xs.length ≤ sizeLine ∧ ∃ (its : List Value) (n : Nat),Vals xs its ∧ h.get? a = some { cls:=.type "list",data:=.seq its.toArray n }
 | .tup xs=>xs.length ≤ sizeLine ∧ ∃ its : List Value,Vals xs its ∧ IsTup h a its.toArray
 | .dK kvs=>kvs.length ≤ sizeLine ∧ (a == sysModules) = false ∧ ∃ vs,KV kvs vs ∧ h.DictOf (Jj4 P w) a vs
 | .dT kvs=>kvs.length ≤ sizeLine ∧ (a == sysModules) = false ∧ ∃ xs : List (List Key × Addr × Value),
   Paired (fun (p : List Key × V) (q : List Key × Addr × Value)=>p.1 = q.1 ∧ H q.2.1 = some (.tup (p.1.map kV)) ∧ RelV p.2 q.2.2) kvs xs ∧
   ∃ o es ep,h.get? a = some o ∧ o.ExactDict ∧ o.data = .dict es ep ∧ es.toList = xs.map (entryOfKey (tupleKind (Jj4 P w))) ∧ (xs.map (·.1)).Nodup
 | .set S n=>h.SetOf (intKind P w) a S n
 | .ins C dx fs=>H dx = some (.own a) ∧ fs.length ≤ 1000 ∧ dx ≠ a ∧ h.get? a = some (PySem.W.instObj C dx) ∧
   ∃ mA,h.Ns1 dx mA ∧ (∀ f,RelO (fs.lookup f) (mA f)) ∧ PySem.Within mA (fs.map (·.1))
 | .own _=>∃ o,h.get? a = some o
 | .xd fs=>∃ mA,h.Ns1 a mA ∧ ∀ f,RelO (fs.lookup f) (mA f)
 | .rng lo hi=>∃ t u v,h.get? a = some { cls:=.type "range",data:=.fields #[.int lo t,.int hi u,.int 1 v] }
 | .frz o u=>h.get? a = some o ∧ ObjOk H h a u
 | .tbl lb=>∃ ts : Array Value,h.get? a = some ⟨.none,none,.fields ts,#[]⟩ ∧ TrOk H lb ts.toList
 | .cod q=>h.CodeRec (.ref a) q
 | .ext φ=>φ h ∧ (∃ o,h.get? a = some o) ∧ ∀ h1 h2 : Heap,φ h1 → (∀ o,h1.get? a = some o → h2.get? a = some o) → φ h2
def HOk (H : Hp) (h : Heap) : Prop:=∀ a o,H a = some o → ObjOk P w H h a o
end
section
variable {P : Program} {w : World} {H H' : Hp} {h h' : Heap} {a : Addr} {o : HO}
theorem ObjOk.lt (x : ObjOk P w H h a o) : a < h.objs.size:=by
 cases o with
 | lst xs=>obtain ⟨_,_,_,_,e⟩:=x; exact Heap.lt_size e
 | tup xs=>obtain ⟨_,_,_,p⟩:=x; exact p.lt
 | dK kvs=>obtain ⟨_,_,_,_,o,_,_,e,_⟩:=x; exact Heap.lt_size e
 | dT kvs=>obtain ⟨_,_,_,_,o,_,_,e,_⟩:=x; exact Heap.lt_size e
 | set S n=>obtain ⟨o,_,_,_,e,_⟩:=x; exact Heap.lt_size e
 | ins C dx fs=>obtain ⟨_,_,_,e,_⟩:=x; exact Heap.lt_size e
 | own y=>obtain ⟨_,e⟩:=x; exact Heap.lt_size e
 | xd fs=>obtain ⟨_,⟨_,_,_,e,_⟩,_⟩:=x; exact Heap.lt_size e
 | rng lo hi=>obtain ⟨_,_,_,e⟩:=x; exact Heap.lt_size e
 | frz ob u=>obtain ⟨e,_⟩:=x; exact Heap.lt_size e
 | tbl lb=>obtain ⟨_,e,_⟩:=x; exact Heap.lt_size e
 | cod q=>obtain ⟨_,_,_,_,e1,e2,_⟩:=x; cases e1; exact Heap.lt_size e2
 | ext φ=>obtain ⟨_,⟨_,e⟩,_⟩:=x; exact Heap.lt_size e
theorem Paired.mapP {α β : Type} {F G : α → β → Prop} : ∀ {l₁ : List α} {l₂ : List β},Paired F l₁ l₂ → (∀ a b,F a b → G a b) → Paired G l₁ l₂
 | _,_,.nil,_=>.nil
 | _,_,.cons r t,f=>.cons (f _ _ r) (Paired.mapP t f)
theorem ObjOk.stay (x : ObjOk P w H h a o) (k : ∀ b u,(b = a ∨ H b = some (.own a)) → h.get? b = some u → h'.get? b = some u)
  (ho : ∀ b,H b = some (.own a) → H' b = some (.own a)) (ht : ∀ b xs,H b = some (.tup xs) → H' b = some (.tup xs)) (hc : ∀ b q,H b = some (.cod q) → H' b = some (.cod q)) : ObjOk P w H' h' a o:=by
 induction o with
 | lst xs=>obtain ⟨z,its,n,r,e⟩:=x; exact ⟨z,its,n,r,k _ _ (.inl rfl) e⟩
 | tup xs=>obtain ⟨z,its,r,ob,e,c⟩:=x; exact ⟨z,its,r,ob,k _ _ (.inl rfl) e,c⟩
 | dK kvs=>obtain ⟨z,y,vs,r,ob,es,ep,e,c⟩:=x; exact ⟨z,y,vs,r,ob,es,ep,k _ _ (.inl rfl) e,c⟩
 | dT kvs =>
  obtain ⟨z,y,xs,r,ob,es,ep,e,c⟩:=x
  exact ⟨z,y,xs,Paired.mapP r fun p q z=>⟨z.1,ht _ _ z.2.1,z.2.2⟩,ob,es,ep,k _ _ (.inl rfl) e,c⟩
 | set S n=>obtain ⟨ob,es,ep,t,e,c⟩:=x; exact ⟨ob,es,ep,t,k _ _ (.inl rfl) e,c⟩
 | ins C dx fs =>
  obtain ⟨d,z,ne,e,mA,⟨od,es,ep,e2,c⟩,r⟩:=x
  exact ⟨ho _ d,z,ne,k _ _ (.inl rfl) e,mA,⟨od,es,ep,k _ _ (.inr d) e2,c⟩,r⟩
 | own y=>obtain ⟨ob,e⟩:=x; exact ⟨ob,k _ _ (.inl rfl) e⟩
 | xd fs=>obtain ⟨mA,⟨od,es,ep,e,c⟩,r⟩:=x; exact ⟨mA,⟨od,es,ep,k _ _ (.inl rfl) e,c⟩,r⟩
 | rng lo hi=>obtain ⟨t,u,v,e⟩:=x; exact ⟨t,u,v,k _ _ (.inl rfl) e⟩
 | frz ob u ih=>obtain ⟨e,q⟩:=x; exact ⟨k _ _ (.inl rfl) e,ih q⟩
 | tbl lb=>obtain ⟨ts,e,r⟩:=x; exact ⟨ts,k _ _ (.inl rfl) e,r.mono hc⟩
 | cod q=>obtain ⟨c,o,vs,t,e1,e2,e3,e4⟩:=x; cases e1; exact ⟨_,o,vs,t,rfl,k _ _ (.inl rfl) e2,e3,e4⟩
 | ext φ=>obtain ⟨p,⟨o,e⟩,st⟩:=x; exact ⟨st _ _ p fun o q=>k _ _ (.inl rfl) q,⟨o,k _ _ (.inl rfl) e⟩,st⟩
theorem HOk.lt (x : HOk P w H h) (e : H a = some o) : a < h.objs.size:=(x a o e).lt
theorem HOk.fresh (x : HOk P w H h) (e : h.objs.size ≤ a) : H a = none:=by
 cases q : H a with
 | none=>rfl
 | some u=>exact absurd (Nat.lt_of_lt_of_le (x.lt q) e) (Nat.lt_irrefl _)
theorem HOk.kept (x : HOk P w H h) (k : ∀ b u,h.get? b = some u → h'.get? b = some u) : HOk P w H h':=fun a o e =>
 (x a o e).stay (fun b u _ q=>k b u q) (fun _ q=>q) (fun _ _ q=>q) fun _ _ q=>q
theorem HOk.laid (x : HOk P w H h) (k : ∀ b u,h.get? b = some u → h'.get? b = some u) (hp : h.objs.size ≤ a) (new : ObjOk P w (upd H a o) h' a o) : HOk P w (upd H a o) h':=fun b u e=>by
 have hn:=x.fresh hp
 by_cases hb : b = a
 ·subst hb; rw [Ji3] at e; cases e; exact new
 ·rw [Ji9 hb] at e
  exact (x b u e).stay (fun c v _ q=>k c v q) (fun c q=>by rw [Ji9 (Ji8 q hn)]; exact q) (fun c xs q=>by rw [Ji9 (Ji8 q hn)]; exact q) fun c xs q=>by rw [Ji9 (Ji8 q hn)]; exact q
end
def Rd (H : Hp) (a : Addr) (u : HO) : Prop:=H a = some u ∨ ∃ o,H a = some (.frz o u)
theorem Rd.ok {P : Program} {w : World} {H : Hp} {h : Heap} {a : Addr} {u : HO} (r : Rd H a u) (x : HOk P w H h) : ObjOk P w H h a u:=by
 rcases r with r | ⟨o,r⟩
 ·exact x a u r
 ·obtain ⟨_,q⟩:=x a _ r
  exact q
def Mut : Option HO → Prop
 | some (.lst _)=>True
 | some (.dK _)=>True
 | some (.dT _)=>True
 | some (.set _ _)=>True
 | some (.ins _ _ _)=>True
 | some (.ext _)=>True
 | _=>False
section
variable {P : Program} {w : World} {H : Hp} {h h' : Heap} {x e : Addr} {o' : HO}
theorem HOk.write (ok : HOk P w H h) (mu : Mut (H x)) (he : e = x ∨ H e = some (.own x)) (k : ∀ b u,b ≠ e → h.get? b = some u → h'.get? b = some u) (heo : ∃ u,h'.get? e = some u)
  (new : ObjOk P w (upd H x o') h' x o') : HOk P w (upd H x o') h':=fun b u q=>by
 have nown : ∀ c y,H c = some (.own y) → c ≠ x:=fun c y r z=>by subst z; rw [r] at mu; exact mu
 have ntup : ∀ c xs,H c = some (.tup xs) → c ≠ x:=fun c xs r z=>by subst z; rw [r] at mu; exact mu
 by_cases hb : b = x
 ·subst hb; rw [Ji3] at q; cases q; exact new
 ·rw [Ji9 hb] at q
  by_cases hbe : b = e
  ·have q' : H b = some (.own x):=by
    rcases he with z | z
    ·exact absurd (hbe.trans z) hb
    ·rw [hbe]; exact z
   rw [q] at q'; cases q'
   obtain ⟨v,hv⟩:=heo
   exact ⟨v,by rw [hbe]; exact hv⟩
  ·refine (ok b u q).stay (fun c v hc r=>k c v ?_ r) (fun c r=>by rw [Ji9 (nown c b r)]; exact r) (fun c xs r=>by rw [Ji9 (ntup c xs r)]; exact r) fun c xs r=>by rw [Ji9 fun z=>by subst z; rw [r] at mu; exact mu]; exact r
   rcases hc with rfl | hc
   ·exact hbe
   ·rintro rfl
    rcases he with z | z
    ·exact nown c b hc z
    ·rw [hc] at z; cases z; exact hb rfl
end
structure Un (fs ex : List Addr) (H H' : Hp) (h h' : Heap) : Prop where
 keep : ∀ b o,h.get? b = some o → H b = none → b ∉ fs → b ∉ ex → h'.get? b = some o
 slot : ∀ b o,h.get? b = some o → H b = none → b ∈ fs → b ∉ ex → ∃ sl,h'.get? b = some { o with slots:=sl }
 free : ∀ b o,h.get? b = some o → H b = none → b ∉ ex → H' b = none
 there : ∀ b o,h.get? b = some o → b ∉ ex → ∃ o', h'.get? b = some o'
 tups : ∀ b xs,H b = some (.tup xs) → H' b = some (.tup xs)
 frzs : ∀ b o u,H b = some (.frz o u) → H' b = some (.frz o u)
 tbls : ∀ b ps,H b = some (.tbl ps) → ∃ more,H' b = some (.tbl (ps ++ more))
section
variable {fs fs' ex ex' : List Addr} {H H1 H2 : Hp} {h h1 h2 h' : Heap} {a x e : Addr} {o : HO}
theorem Un.any (u : Un fs ex H H1 h h1) {b : Addr} {ob : Obj} (q : h.get? b = some ob) (n : H b = none) (hx : b ∉ ex) : ∃ sl,h1.get? b = some { ob with slots:=sl }:=by
 by_cases hb : b ∈ fs
 ·exact u.slot b ob q n hb hx
 ·exact ⟨ob.slots,u.keep b ob q n hb hx⟩
theorem Un.trans (a : Un fs ex H H1 h h1) (b : Un fs ex H1 H2 h1 h2) : Un fs ex H H2 h h2 where
 keep:=fun c ob q n hc hx=>b.keep c ob (a.keep c ob q n hc hx) (a.free c ob q n hx) hc hx
 slot:=fun c ob q n hc hx=>by
  obtain ⟨sl,e1⟩:=a.slot c ob q n hc hx
  obtain ⟨sl', e2⟩:=b.slot c _ e1 (a.free c ob q n hx) hc hx
  exact ⟨sl', e2⟩
 free:=fun c ob q n hx=>by
  obtain ⟨o', e1⟩:=a.there c ob q hx
  exact b.free c o' e1 (a.free c ob q n hx) hx
 there:=fun c ob q hx=>by
  obtain ⟨o', e1⟩:=a.there c ob q hx
  exact b.there c o' e1 hx
 tups:=fun c xs q=>b.tups c xs (a.tups c xs q)
 frzs:=fun c ob xs q=>b.frzs c ob xs (a.frzs c ob xs q)
 tbls:=fun c ps q=>by
  obtain ⟨m1,e1⟩:=a.tbls c ps q
  obtain ⟨m2,e2⟩:=b.tbls c _ e1
  exact ⟨m1 ++ m2,by rw [e2,Array.append_assoc]⟩
theorem Un.kept (k : ∀ b u,h.get? b = some u → h'.get? b = some u) : Un fs ex H H h h' :=
 ⟨fun b ob q _ _ _=>k b ob q,fun b ob q _ _ _=>⟨ob.slots,k b ob q⟩,fun _ _ _ n _=>n,fun b ob q _=>⟨ob,k b ob q⟩,fun _ _ q=>q,fun _ _ _ q=>q,fun _ ps q=>⟨#[],by rw [q]; simp⟩⟩
theorem Un.refl : Un fs ex H H h h:=Un.kept fun _ _ q=>q
theorem Un.laid (k : ∀ b u,h.get? b = some u → h'.get? b = some u) (hp : h.objs.size ≤ a) (hn : H a = none) : Un fs ex H (upd H a o) h h' where
 keep:=fun b u q _ _ _=>k b u q
 slot:=fun b u q _ _ _=>⟨u.slots,k b u q⟩
 free:=fun b u q n _=>by rw [Ji9 (Nat.ne_of_lt (Nat.lt_of_lt_of_le (Heap.lt_size q) hp))]; exact n
 there:=fun b u q _=>⟨u,k b u q⟩
 tups:=fun b xs q=>by rw [Ji9 (Ji8 q hn)]; exact q
 frzs:=fun b u xs q=>by rw [Ji9 (Ji8 q hn)]; exact q
 tbls:=fun b ps q=>⟨#[],by rw [Ji9 (Ji8 q hn),q]; simp⟩
theorem Un.write (mu : Mut (H x)) (he : e = x ∨ H e = some (.own x)) (k : ∀ b u,b ≠ e → h.get? b = some u → h'.get? b = some u) (heo : ∃ u,h'.get? e = some u) : Un fs ex H (upd H x o) h h':=by
 have hx : ∀ b,H b = none → b ≠ x:=fun b n z=>by subst z; rw [n] at mu; exact mu
 have hb : ∀ b,H b = none → b ≠ e:=fun b n z=>by
  subst z
  rcases he with r | r
  ·exact hx b n r
  ·rw [n] at r; cases r
 have hm : ∀ b u,H b = some u → ¬ Mut (some u) → b ≠ x:=fun b u q nm z=>by subst z; rw [q] at mu; exact nm mu
 refine ⟨fun b u q n _ _=>k b u (hb b n) q,fun b u q n _ _=>⟨u.slots,k b u (hb b n) q⟩,fun b u q n _=>by rw [Ji9 (hx b n)]; exact n,fun b u q _=>?_,
  fun b xs q=>by rw [Ji9 (hm b _ q fun z=>z)]; exact q,fun b u xs q=>by rw [Ji9 (hm b _ q fun z=>z)]; exact q,fun b ps q=>⟨#[],by rw [Ji9 (hm b _ q fun z=>z),q]; simp⟩⟩
 by_cases hbe : b = e
 ·subst hbe; exact heo
 ·exact ⟨u,k b u hbe q⟩
end
def trk (h : Heap) (H : Hp) : List Addr:=(List.range h.objs.size).filter fun a=>(H a).isSome
def Jr1 (h : Heap) (H : Hp) : Heap:=PySem.W.hideAll h (trk h H)
theorem Jug (h : Heap) (H : Hp) : (Jr1 h H).objs.size = h.objs.size:=PySem.W.hideAll_size _ _
theorem Jp1 {h : Heap} {H : Hp} {b : Addr} {o : Obj} (e : h.get? b = some o) (n : H b = none) : (Jr1 h H).get? b = some o :=
 PySem.W.hideAll_get _ e fun hm=>by
  have q : (H b).isSome = true:=(List.mem_filter.mp hm).2
  rw [n] at q; simp at q
theorem Jxj {h : Heap} {H : Hp} {b : Addr} {o : Obj} (e : (Jr1 h H).get? b = some o) : h.get? b = some o ∧ H b = none:=by
 have e' : h.get? b = some o:=PySem.W.of_hideAll (trk h H) e
 refine ⟨e', ?_⟩
 cases q : H b with
 | none=>rfl
 | some x =>
  have hm : b ∈ trk h H:=List.mem_filter.mpr ⟨List.mem_range.mpr (Heap.lt_size e'),by simp [q]⟩
  have z : (Jr1 h H).get? b = none:=PySem.W.hideAll_none (trk h H) hm
  rw [z] at e; cases e
end L2
namespace L2
open PySem PySem.Spec PyProof.Rows
structure Mod (K : PySem.W.Frag) (mg : Str → Option Value) (base : Heap) : Prop where
 kin : K.In base
 glob : base.Ns mainGlobals mg
 blt : ∃ mb,base.Ns builtinsNs mb ∧ ∀ x : Str,x ≠ "__name__" → mb x = bootBuiltins x
 nolimit : base.NoLimit
structure Cx where
 prog : Program
 w : World
 K : PySem.W.Frag
 mg : Str → Option Value
 base : Heap
 A : Around
 N : List Str
 s₀ : Shared
 H₀ : Hp
 env : Env
 outer : List Env
 stack : List Env
 ex : List Addr
 fn : Str → Bool
 calm : Bool
 pn : List (Addr × Obj)
 xe : Value → Shared → Prop
def frs (l : List Env) : List Addr:=l.filterMap (·.frame)
abbrev Cx.fs (X : Cx) : List Addr:=frs X.outer
def Vis (sc : Scope) (x : Str) : Prop:=sc.names.lookup x = some .local ∨ sc.names.lookup x = some .cell ∨ sc.names.lookup x = some .free
def Loc (sc : Scope) (x : Str) : Prop:=sc.names.lookup x = some .local ∨ sc.names.lookup x = some .cell
def Look (env : Env) (h : Heap) (m : Str → Option Value) (x : Str) (u : Value) : Prop :=
 (env.kindOf x = some .local ∧ m x = some u) ∨ ((env.kindOf x = some .cell ∨ env.kindOf x = some .free) ∧ ∃ c,env.cells.lookup x = some c ∧ h.IsCell c (some u))
structure Cx.Ok (X : Cx) : Prop where
 mod : Mod X.K X.mg X.base
 kind : X.env.scope.kind = .function
 glob : X.env.globals = mainGlobals
 blt : X.env.builtins = builtinsNs
 above : X.s₀.heap.objs.size ≤ X.env.locals
 inj : ∀ x y c,X.env.cells.lookup x = some c → X.env.cells.lookup y = some c → x = y
 has : ∀ x,(X.env.kindOf x = some .cell ∨ X.env.kindOf x = some .free) → ∃ c,X.env.cells.lookup x = some c
 cab : ∀ x c,X.fn x = true → X.env.cells.lookup x = some c → X.s₀.heap.objs.size ≤ c
 hd : X.calm = true → X.A.handled = none
 frames : X.A.frames = some X.stack
 stk : X.stack = X.outer ∨ (X.stack = X.env :: X.outer ∧ X.env.frame = some X.env.locals)
 exf : ∀ b ∈ X.ex,b ≠ X.env.locals ∧ ∀ x c,X.env.cells.lookup x = some c → c ≠ b
 bs : ∀ b o,X.base.get? b = some o → X.s₀.heap.get? b = some o ∧ X.H₀ b = none
 bsz : X.base.objs.size ≤ X.s₀.heap.objs.size
 noex : ∀ b o,X.base.get? b = some o → b ∉ X.ex
 exfs : ∀ b ∈ X.ex,b ∉ X.fs
 funs : X.s₀.heap.FunFrames X.base X.outer
 frf : ∀ b ∈ X.fs,X.H₀ b = none
structure Inv (X : Cx) (pins : List (Addr × Obj)) (σ : List (Option V)) (H : Hp) (s : Shared) : Prop where
 ok : X.Ok
 os : s.os = X.s₀.os
 bare : AllBare s.gens
 base : Un X.fs X.ex X.H₀ H X.s₀.heap s.heap
 loc : ∃ m,s.heap.Ns X.env.locals m ∧ ∀ (i : Nat) (x : Str) (v : V),X.N[i]? = some x → σ[i]? = some (some v) → Vis X.env.scope x → ∃ u,RelV v u ∧ Look X.env s.heap m x u
 cell : ∀ x c,X.env.cells.lookup x = some c → ∃ v,s.heap.IsCell c v
 free : H X.env.locals = none
 freeC : ∀ x c,X.env.cells.lookup x = some c → H c = none ∨ (X.fn x = false ∧ ∃ o,H c = some (celF o))
 pin : ∀ p ∈ X.pn ++ pins,s.heap.get? p.1 = some p.2 ∧ H p.1 = none ∧ p.1 ≠ X.env.locals ∧ p.1 ∉ X.fs ∧ ∀ v,p.2.data ≠ .cell v
 hok : HOk X.prog X.w H s.heap
 len : σ.length = X.N.length
section
variable {X : Cx} {pins : List (Addr × Obj)} {σ : List (Option V)} {H H' : Hp} {s : Shared} {h' : Heap}
theorem Cx.Ok.nofr (ok : X.Ok) {b : Addr} {o : Obj} (e : X.base.get? b = some o) : b ∉ X.fs:=fun hb=>by
 have:=(ok.funs.mem hb).1
 rw [e] at this; cases this
theorem Inv.bs (I : Inv X pins σ H s) : ∀ b o,X.base.get? b = some o → s.heap.get? b = some o ∧ H b = none:=fun b o e =>
 ⟨I.base.keep b o (I.ok.bs b o e).1 (I.ok.bs b o e).2 (I.ok.nofr e) (I.ok.noex b o e),I.base.free b o (I.ok.bs b o e).1 (I.ok.bs b o e).2 (I.ok.noex b o e)⟩
theorem Inv.bk (I : Inv X pins σ H s) : ∀ b o,X.base.get? b = some o → s.heap.get? b = some o:=fun b o e=>(I.bs b o e).1
theorem Inv.mod (I : Inv X pins σ H s) : Mod X.K X.mg X.base:=I.ok.mod
theorem Inv.kIn (I : Inv X pins σ H s) : X.K.In s.heap:=I.ok.mod.kin.keeps I.bk
theorem Inv.lt (I : Inv X pins σ H s) : X.env.locals < s.heap.objs.size:=let ⟨_,hn,_⟩:=I.loc; hn.lt
theorem Inv.sz (I : Inv X pins σ H s) : X.s₀.heap.objs.size ≤ s.heap.objs.size:=Nat.le_trans I.ok.above (Nat.le_of_lt I.lt)
theorem Inv.nofs (I : Inv X pins σ H s) {a : Addr} (h : s.heap.objs.size ≤ a) : a ∉ X.fs:=fun hb=>by
 obtain ⟨_,o,ho,_⟩:=I.ok.funs.mem hb
 exact absurd (Nat.lt_of_lt_of_le (Heap.lt_size ho) (Nat.le_trans I.sz h)) (Nat.lt_irrefl _)
theorem Inv.cne (I : Inv X pins σ H s) : ∀ x c,X.env.cells.lookup x = some c → c ≠ X.env.locals:=fun x c e z=>by
 obtain ⟨v,o,ho,hd⟩:=I.cell x c e
 obtain ⟨m,⟨o', es,ep,ho', hd', _⟩,_⟩:=I.loc
 rw [z,ho'] at ho; cases ho; rw [hd'] at hd; cases hd
theorem Inv.funs (I : Inv X pins σ H s) : s.heap.FunFrames X.base X.outer:=by
 have all : ∀ (l : List Env),(∀ b ∈ frs l,b ∈ X.fs) → X.s₀.heap.FunFrames X.base l → s.heap.FunFrames X.base l:=by
  intro l
  induction l with
  | nil=>intro _ _; trivial
  | cons env r ih =>
   intro hs hl
   obtain ⟨hk,⟨L,o,hf,hn,ho,hd⟩,hr⟩:=hl
   have hL : L ∈ X.fs:=hs L (by unfold frs; rw [List.filterMap_cons,hf]; exact List.mem_cons_self)
   obtain ⟨sl,e⟩:=I.base.slot L o ho (I.ok.frf L hL) hL fun z=>I.ok.exfs L z hL
   exact ⟨hk,⟨L,_,hf,hn,e,hd⟩,ih (fun b hb=>hs b (by unfold frs; rw [List.filterMap_cons,hf]; exact List.mem_cons_of_mem _ hb)) hr⟩
 exact all X.outer (fun _ hb=>hb) I.ok.funs
theorem Inv.stack (I : Inv X pins σ H s) : s.heap.FunFrames X.base X.stack:=by
 rcases I.ok.stk with e | ⟨e,hf⟩
 ·rw [e]; exact I.funs
 ·rw [e]
  obtain ⟨m,hn,_⟩:=I.loc
  refine .cons (by rw [I.ok.kind]; decide) hf hn ?_ I.funs
  exact Heap.get?_none_of_le (Nat.le_trans I.ok.bsz I.ok.above)
theorem Inv.stkSub (I : Inv X pins σ H s) : ∀ b ∈ frs X.stack,b ∈ X.env.locals :: X.fs:=fun b hb=>by
 rcases I.ok.stk with e | ⟨e,hf⟩
 ·rw [e] at hb; exact List.mem_cons_of_mem _ hb
 ·rw [e] at hb
  unfold frs at hb
  rw [List.filterMap_cons,hf] at hb
  exact hb
theorem Inv.stkFree (I : Inv X pins σ H s) : ∀ b ∈ frs X.stack,H b = none:=fun b hb=>by
 rcases List.mem_cons.mp (I.stkSub b hb) with e | hb
 ·rw [e]; exact I.free
 ·obtain ⟨_,o,ho,_⟩:=I.ok.funs.mem hb
  exact I.base.free b o ho (I.ok.frf b hb) fun z=>I.ok.exfs b z hb
theorem Inv.step {g' : Array GenState} {t' : Nat} {d' : Drawn} {ch : List Addr} (I : Inv X pins σ H s)
  (hch : ∀ b ∈ ch,(b ∈ X.ex ∨ X.s₀.heap.objs.size ≤ b) ∧ b ≠ X.env.locals ∧ (∀ x c,X.env.cells.lookup x = some c → c ≠ b) ∧ ∀ p ∈ X.pn ++ pins,p.1 ≠ b)
  (keep : ∀ b o,b ≠ X.env.locals → b ∉ X.fs → b ∉ ch → s.heap.get? b = some o → H b = none → h'.get? b = some o)
  (slot : ∀ b o,b ≠ X.env.locals → b ∈ X.fs → b ∉ ch → s.heap.get? b = some o → H b = none → ∃ sl,h'.get? b = some { o with slots:=sl }) (free : ∀ b o,b ∉ ch → s.heap.get? b = some o → H b = none → H' b = none)
  (there : ∀ b o,b ∉ ch → s.heap.get? b = some o → ∃ o', h'.get? b = some o')
  (tups : ∀ b xs,H b = some (.tup xs) → H' b = some (.tup xs)) (frzs : ∀ b o u,H b = some (.frz o u) → H' b = some (.frz o u)) (tbls : ∀ b ps,H b = some (.tbl ps) → ∃ more,H' b = some (.tbl (ps ++ more)))
  (ns : ∀ m,s.heap.Ns X.env.locals m → h'.Ns X.env.locals m) (hok : HOk X.prog X.w H' h') (hg : AllBare g') :
  Inv X pins σ H' { s with heap:=h', gens:=g', drawn:=d', toks:=t' }:=by
 have neL : ∀ b o,X.s₀.heap.get? b = some o → b ≠ X.env.locals:=fun b o e=>Nat.ne_of_lt (Nat.lt_of_lt_of_le (Heap.lt_size e) I.ok.above)
 have neC : ∀ b o,X.s₀.heap.get? b = some o → b ∉ X.ex → b ∉ ch:=fun b o e hx hb=>by
  rcases (hch b hb).1 with z | z
  ·exact hx z
  ·exact absurd (Nat.lt_of_lt_of_le (Heap.lt_size e) z) (Nat.lt_irrefl _)
 have cellK : ∀ x c,X.env.cells.lookup x = some c → ∀ v,s.heap.IsCell c v → h'.IsCell c v:=fun x c e v ⟨o,ho,hd⟩=>by
  have nch : c ∉ ch:=fun z=>(hch c z).2.2.1 x c e rfl
  rcases I.freeC x c e with n | ⟨_,ob,q⟩
  ·by_cases hc : c ∈ X.fs
   ·obtain ⟨sl,q⟩:=slot c o (I.cne x c e) hc nch ho n
    exact ⟨_,q,hd⟩
   ·exact ⟨o,keep c o (I.cne x c e) hc nch ho n,hd⟩
  ·obtain ⟨e1,_⟩:=I.hok c _ q
   obtain ⟨e2,_⟩:=hok c _ (frzs c ob _ q)
   rw [ho] at e1; cases e1
   exact ⟨_,e2,hd⟩
 refine ⟨I.ok,I.os,hg,⟨fun b o e n hb hx=>?_,fun b o e n hb hx=>?_,fun b o e n hx=>?_,fun b o e hx=>?_,fun b xs e=>tups b xs (I.base.tups b xs e),fun b o xs e=>frzs b o xs (I.base.frzs b o xs e),fun b ps e=>?_⟩,?_,fun x c e=>?_,?_,fun x c e=>?_,fun p hp=>?_,hok,I.len⟩
 ·exact keep b o (neL b o e) hb (neC b o e hx) (I.base.keep b o e n hb hx) (I.base.free b o e n hx)
 ·obtain ⟨sl,e1⟩:=I.base.slot b o e n hb hx
  obtain ⟨sl', e2⟩:=slot b _ (neL b o e) hb (neC b o e hx) e1 (I.base.free b o e n hx)
  exact ⟨sl', e2⟩
 ·obtain ⟨o', e1⟩:=I.base.there b o e hx
  exact free b o' (neC b o e hx) e1 (I.base.free b o e n hx)
 ·obtain ⟨o', e1⟩:=I.base.there b o e hx
  exact there b o' (neC b o e hx) e1
 ·obtain ⟨m1,e1⟩:=I.base.tbls b ps e
  obtain ⟨m2,e2⟩:=tbls b _ e1
  exact ⟨m1 ++ m2,by rw [e2,Array.append_assoc]⟩
 ·obtain ⟨m,hn,hl⟩:=I.loc
  refine ⟨m,ns m hn,fun i x v e1 e2 e3=>?_⟩
  obtain ⟨u,r,l⟩:=hl i x v e1 e2 e3
  refine ⟨u,r,?_⟩
  rcases l with l | ⟨k,c,e,z⟩
  ·exact .inl l
  ·exact .inr ⟨k,c,e,cellK x c e _ z⟩
 ·obtain ⟨v,z⟩:=I.cell x c e
  exact ⟨v,cellK x c e v z⟩
 ·obtain ⟨m,⟨o,_,_,ho,_⟩,_⟩:=I.loc
  exact free _ o (fun z=>(hch _ z).2.1 rfl) ho I.free
 ·obtain ⟨v,o,ho,hd⟩:=I.cell x c e
  rcases I.freeC x c e with n | ⟨hf,ob,q⟩
  ·exact .inl (free c o (fun z=>(hch c z).2.2.1 x c e rfl) ho n)
  ·exact .inr ⟨hf,ob,frzs c ob _ q⟩
 ·obtain ⟨e,n,ne,nf,d⟩:=I.pin p hp
  have nch : p.1 ∉ ch:=fun z=>(hch p.1 z).2.2.2 p hp rfl
  exact ⟨keep p.1 p.2 ne nf nch e n,free p.1 p.2 nch e n,ne,nf,d⟩
theorem Inv.un {t' : Nat} (I : Inv X pins σ H s) (u : Un X.fs [] H H' s.heap h') (hok : HOk X.prog X.w H' h') : Inv X pins σ H' { s with heap:=h', toks:=t' }:=by
 obtain ⟨m,⟨o,es,ep,ho,r⟩,_⟩:=id I.loc
 obtain ⟨sl,hL⟩:=u.any ho I.free (by simp)
 exact I.step (g':=s.gens) (d':=s.drawn) (ch:=[]) (fun _ z=>nomatch z) (fun b o _ hb _ e n=>u.keep b o e n hb (by simp)) (fun b o _ hb _ e n=>u.slot b o e n hb (by simp)) (fun b o _ e n=>u.free b o e n (by simp)) (fun b o _ e=>u.there b o e (by simp)) u.tups u.frzs u.tbls (fun m' hm=>by
  obtain ⟨o', es', ep', ho', r'⟩:=hm
  rw [ho] at ho'; cases ho'
  exact ⟨_,es', ep', hL,r'⟩) hok I.bare
theorem Inv.call {g' : Array GenState} {t' : Nat} {d' : Drawn} {ch : List Addr} (I : Inv X pins σ H s) (u : Un (frs X.stack) ch H H' s.heap h') (hok : HOk X.prog X.w H' h') (hg : AllBare g')
  (hch : ∀ b ∈ ch,(b ∈ X.ex ∨ X.s₀.heap.objs.size ≤ b) ∧ b ≠ X.env.locals ∧ (∀ x c,X.env.cells.lookup x = some c → c ≠ b) ∧ ∀ p ∈ X.pn ++ pins,p.1 ≠ b) :
  Inv X pins σ H' { s with heap:=h', gens:=g', drawn:=d', toks:=t' }:=by
 obtain ⟨m,⟨o,es,ep,ho,r⟩,_⟩:=id I.loc
 obtain ⟨sl,hL⟩:=u.any ho I.free fun z=>(hch _ z).2.1 rfl
 exact I.step (ch:=ch) hch (fun b o hL hb hc e n=>u.keep b o e n (fun z=>(List.mem_cons.mp (I.stkSub b z)).elim hL hb) hc) (fun b o _ _ hc e n=>u.any e n hc) (fun b o hc e n=>u.free b o e n hc) (fun b o hc e=>u.there b o e hc) u.tups u.frzs u.tbls (fun m' hm=>by
  obtain ⟨o', es', ep', ho', r'⟩:=hm
  rw [ho] at ho'; cases ho'
  exact ⟨_,es', ep', hL,r'⟩) hok hg
theorem Inv.turned {t' : Nat} {it : Addr} (I : Inv X pins σ H s) (k : ∀ b o,b ≠ it → s.heap.get? b = some o → h'.get? b = some o) (hn : H it = none) (hL : it ≠ X.env.locals)
  (h1 : it ∈ X.ex ∨ X.s₀.heap.objs.size ≤ it) (h2 : ∀ x c,X.env.cells.lookup x = some c → c ≠ it) (h3 : ∀ p ∈ X.pn ++ pins,p.1 ≠ it) : Inv X pins σ H { s with heap:=h', toks:=t' }:=by
 have nit : ∀ b u,H b = some u → b ≠ it:=fun b u e z=>by rw [z,hn] at e; cases e
 refine I.step (g':=s.gens) (d':=s.drawn) (ch:=[it]) (fun b hb=>?_) (fun b o _ _ hc e _=>k b o (fun z=>hc (by simp [z])) e) (fun b o _ _ hc e _=>⟨o.slots,k b o (fun z=>hc (by simp [z])) e⟩) (fun _ _ _ _ n=>n)
  (fun b o hc e=>⟨o,k b o (fun z=>hc (by simp [z])) e⟩) (fun _ _ e=>e) (fun _ _ _ e=>e) (fun b ps e=>⟨#[],by rw [e]; simp⟩) (fun m hm=>?_) (fun b u e=>?_) I.bare
 ·have e : b = it:=by simpa using hb
  subst e
  exact ⟨h1,hL,h2,h3⟩
 ·obtain ⟨o,es,ep,ho,r⟩:=hm
  exact ⟨o,es,ep,k _ o (Ne.symm hL) ho,r⟩
 ·refine (I.hok b u e).stay (fun c v hc q=>k c v ?_ q) (fun _ q=>q) (fun _ _ q=>q) fun _ _ q=>q
  rcases hc with z | z
  ·rw [z]; exact nit b u e
  ·exact nit c _ z
theorem Inv.tok (I : Inv X pins σ H s) (t : Nat) : Inv X pins σ H { s with toks:=t }:=I.un (h':=s.heap) (t':=t) Un.refl I.hok
theorem Inv.kept {t' : Nat} (I : Inv X pins σ H s) (k : ∀ b u,s.heap.get? b = some u → h'.get? b = some u) : Inv X pins σ H { s with heap:=h', toks:=t' }:=I.un (Un.kept k) (I.hok.kept k)
theorem Inv.laid {a : Addr} {o : HO} {t' : Nat} (I : Inv X pins σ H s) (k : ∀ b u,s.heap.get? b = some u → h'.get? b = some u) (hp : s.heap.objs.size ≤ a) (new : ObjOk X.prog X.w (upd H a o) h' a o) :
  Inv X pins σ (upd H a o) { s with heap:=h', toks:=t' }:=I.un (Un.laid k hp (I.hok.fresh hp)) (I.hok.laid k hp new)
theorem Inv.write {x e : Addr} {o : HO} {t' : Nat} (I : Inv X pins σ H s) (mu : Mut (H x)) (he : e = x ∨ H e = some (.own x)) (k : ∀ b u,b ≠ e → s.heap.get? b = some u → h'.get? b = some u) (heo : ∃ u,h'.get? e = some u)
  (new : ObjOk X.prog X.w (upd H x o) h' x o) : Inv X pins σ (upd H x o) { s with heap:=h', toks:=t' }:=I.un (Un.write mu he k heo) (I.hok.write mu he k heo new)
theorem Inv.pins_of {pins' : List (Addr × Obj)} (I : Inv X pins σ H s) (h : ∀ p ∈ pins', s.heap.get? p.1 = some p.2 ∧ H p.1 = none ∧ p.1 ≠ X.env.locals ∧ p.1 ∉ X.fs ∧ ∀ v,p.2.data ≠ .cell v) : Inv X pins' σ H s :=
 ⟨I.ok,I.os,I.bare,I.base,I.loc,I.cell,I.free,I.freeC,fun p hp=>(List.mem_append.mp hp).elim (fun z=>I.pin p (List.mem_append_left _ z)) (h p),I.hok,I.len⟩
theorem Jp6 {N : List Str} (hN : N.Nodup) {i j : Nat} {x : Str} (a : N[i]? = some x) (b : N[j]? = some x) : i = j:=by
 obtain ⟨h1,e1⟩:=List.getElem?_eq_some_iff.mp a
 obtain ⟨h2,e2⟩:=List.getElem?_eq_some_iff.mp b
 exact (List.getElem_inj hN).mp (e1.trans e2.symm)
theorem Jqm {M : Model} {A : Around} {E : Value → Shared → Prop} {i : Nat} {x : Str} {v : V} {u : Value} {Q : Unit → Shared → Prop} (I : Inv X pins σ H s) (hN : X.N.Nodup) (hi : X.N[i]? = some x) (hx : Loc X.env.scope x) (r : RelV v u)
  (h : ∀ s', Inv X pins (σ.set i (some v)) H s' → (∃ a,Heap.SameBut a s.heap s'.heap ∧ (a = X.env.locals ∨ X.env.cells.lookup x = some a)) → Q () s') (hf : X.fn x = true ∨ X.env.scope.names.lookup x = some .local:=by first | exact .inl rfl | exact .inr rfl | assumption) : wpAny M A (storeName X.env x u) Q E s:=by
 obtain ⟨m,hn,hl⟩:=id I.loc
 have hcls : (X.env.scope.kind == .class || (X.env.scope.kind == .module && X.env.locals != X.env.globals)) = false:=by rw [I.ok.kind]; rfl
 have hiσ : i < σ.length:=by rw [I.len]; exact (List.getElem?_eq_some_iff.mp hi).1
 have cne:=I.cne
 have tracked : ∀ {a : Addr} {h' : Heap},(∃ o,s.heap.get? a = some o ∧ H a = none) → Heap.SameBut a s.heap h' → HOk X.prog X.w H h':=fun {a h'} ha hs b ob e=>by
  obtain ⟨_,_,hfree⟩:=ha
  refine (I.hok b ob e).stay (fun c w' hc q=>(hs.2 c ?_).trans q) (fun _ q=>q) (fun _ _ q=>q) fun _ _ q=>q
  rintro rfl
  rcases hc with rfl | hc
  ·rw [hfree] at e; cases e
  ·rw [hfree] at hc; cases hc
 rcases hx with hk | hk
 ·refine wpAny_storeName_local hk hn (fun h' hn' hs=>?_) hcls
  obtain ⟨oL,_,_,hoL,_⟩:=id hn
  refine h _ ⟨I.ok,I.os,I.bare,⟨fun b o e n hb hx=>?_,fun b o e n hb hx=>?_,I.base.free,fun b o e hx=>?_,I.base.tups,I.base.frzs,I.base.tbls⟩,⟨_,hn', fun j y v' e1 e2 e3=>?_⟩,fun y c e=>?_,I.free,I.freeC,fun p hp=>?_,tracked ⟨oL,hoL,I.free⟩ hs,by simpa using I.len⟩ ⟨_,hs,.inl rfl⟩
  ·exact (hs.2 b (Nat.ne_of_lt (Nat.lt_of_lt_of_le (Heap.lt_size e) I.ok.above))).trans (I.base.keep b o e n hb hx)
  ·obtain ⟨sl,e1⟩:=I.base.slot b o e n hb hx
   exact ⟨sl,(hs.2 b (Nat.ne_of_lt (Nat.lt_of_lt_of_le (Heap.lt_size e) I.ok.above))).trans e1⟩
  ·obtain ⟨o', e1⟩:=I.base.there b o e hx
   exact ⟨o', (hs.2 b (Nat.ne_of_lt (Nat.lt_of_lt_of_le (Heap.lt_size e) I.ok.above))).trans e1⟩
  ·by_cases hj : j = i
   ·subst hj
    rw [hi] at e1; cases e1
    rw [List.getElem?_set_self hiσ] at e2
    cases e2
    exact ⟨u,r,.inl ⟨hk,by simp⟩⟩
   ·rw [List.getElem?_set_ne (Ne.symm hj)] at e2
    obtain ⟨u', r', q⟩:=hl j y v' e1 e2 e3
    refine ⟨u', r', ?_⟩
    rcases q with ⟨k,e⟩ | ⟨k,c,e,z⟩
    ·refine .inl ⟨k,?_⟩
     have : y ≠ x:=fun e=>hj (Jp6 hN e1 (e ▸ hi))
     simp [this,e]
    ·exact .inr ⟨k,c,e,z.sameBut hs (cne y c e)⟩
  ·obtain ⟨w', z⟩:=I.cell y c e
   exact ⟨w', z.sameBut hs (cne y c e)⟩
  ·obtain ⟨e,n,ne,nf,d⟩:=I.pin p hp
   exact ⟨(hs.2 p.1 ne).trans e,n,ne,nf,d⟩
 ·have hfn : X.fn x = true:=by
   rcases hf with z | z
   ·exact z
   ·rw [z] at hk; cases hk
  obtain ⟨c,hc⟩:=I.ok.has x (.inl hk)
  obtain ⟨w', z⟩:=I.cell x c hc
  refine wpAny_storeName_cell I.ok.kind hk hc z (fun h' hc' hs=>?_)
  obtain ⟨oc,hoc,hocd⟩:=id z
  refine h { s with heap:=h' } ⟨I.ok,I.os,I.bare,⟨fun b o e n hb hx=>?_,fun b o e n hb hx=>?_,I.base.free,fun b o e hx=>?_,I.base.tups,I.base.frzs,I.base.tbls⟩,⟨m,hn.sameBut hs (Ne.symm (cne x c hc)),fun j y v' e1 e2 e3=>?_⟩,fun y c' e=>?_,I.free,I.freeC,fun p hp=>?_,tracked ⟨oc,hoc,(I.freeC x c hc).elim id fun z=>by rw [hfn] at z; cases z.1⟩ hs,by simpa using I.len⟩ ⟨c,hs,.inr hc⟩
  ·exact (hs.2 b (Nat.ne_of_lt (Nat.lt_of_lt_of_le (Heap.lt_size e) (I.ok.cab x c hfn hc)))).trans (I.base.keep b o e n hb hx)
  ·obtain ⟨sl,e1⟩:=I.base.slot b o e n hb hx
   exact ⟨sl,(hs.2 b (Nat.ne_of_lt (Nat.lt_of_lt_of_le (Heap.lt_size e) (I.ok.cab x c hfn hc)))).trans e1⟩
  ·obtain ⟨o', e1⟩:=I.base.there b o e hx
   exact ⟨o', (hs.2 b (Nat.ne_of_lt (Nat.lt_of_lt_of_le (Heap.lt_size e) (I.ok.cab x c hfn hc)))).trans e1⟩
  ·by_cases hj : j = i
   ·subst hj
    rw [hi] at e1; cases e1
    rw [List.getElem?_set_self hiσ] at e2
    cases e2
    exact ⟨u,r,.inr ⟨.inl hk,c,hc,hc'⟩⟩
   ·rw [List.getElem?_set_ne (Ne.symm hj)] at e2
    obtain ⟨u', r', q⟩:=hl j y v' e1 e2 e3
    refine ⟨u', r', ?_⟩
    rcases q with q | ⟨k,c', e,z'⟩
    ·exact .inl q
    ·refine .inr ⟨k,c', e,z'.sameBut hs ?_⟩
     rintro rfl
     exact hj (Jp6 hN e1 (I.ok.inj _ _ _ e hc ▸ hi))
  ·by_cases hcc : c' = c
   ·subst hcc; exact ⟨_,hc'⟩
   ·obtain ⟨w2,z2⟩:=I.cell y c' e
    exact ⟨w2,z2.sameBut hs hcc⟩
  ·obtain ⟨e,n,ne,nf,d⟩:=I.pin p hp
   refine ⟨(hs.2 p.1 ?_).trans e,n,ne,nf,d⟩
   intro q
   rw [q,hoc] at e
   have q' : oc = p.2:=Option.some.inj e
   exact d w' (by rw [← q']; exact hocd)
theorem Jmi {M : Model} {A : Around} {E : Value → Shared → Prop} {i : Nat} {x : Str} {v : V} {u : Value} {Q : Unit → Shared → Prop} (I : Inv X pins σ H s) (hN : X.N.Nodup) (hi : X.N[i]? = some x) (hx : Loc X.env.scope x) (r : RelV v u)
  (h : ∀ s', Inv X pins (σ.set i (some v)) H s' → Q () s') (hf : X.fn x = true ∨ X.env.scope.names.lookup x = some .local:=by first | exact .inl rfl | exact .inr rfl | assumption) : wpAny M A (storeName X.env x u) Q E s :=
 Jqm I hN hi hx r (fun s' I' _=>h s' I') hf
theorem Inv.call' {s' : Shared} {ch : List Addr} (I : Inv X pins σ H s) (ho : s'.os = s.os) (u : Un (frs X.stack) ch H H' s.heap s'.heap) (hok : HOk X.prog X.w H' s'.heap) (hg : AllBare s'.gens)
  (hch : ∀ b ∈ ch,(b ∈ X.ex ∨ X.s₀.heap.objs.size ≤ b) ∧ b ≠ X.env.locals ∧ (∀ x c,X.env.cells.lookup x = some c → c ≠ b) ∧ ∀ p ∈ X.pn ++ pins,p.1 ≠ b) : Inv X pins σ H' s':=by
 obtain ⟨h', g', d', t', o'⟩:=s'
 have e : o' = s.os:=ho
 subst e
 exact I.call (g':=g') (t':=t') (d':=d') u hok hg hch
end
abbrev XK:=Value → Option Addr → Hp → Prop
abbrev St:=List (Option V)
abbrev VK:=V → Hp → Prop
abbrev TE:=St → Hp → VK → Prop
abbrev TT:=St → Hp → (Bool → Hp → Prop) → Prop
abbrev TA:=St → Hp → (List V → Hp → Prop) → Prop
structure Ends where
 nx : St → Hp → Prop
 rt : VK
 bk : St → Hp → Prop:=fun _ _=>False
 ct : St → Hp → Prop:=fun _ _=>False
abbrev TS:=Ends → St → Hp → Prop
def EP (X : Cx) (pins : List (Addr × Obj)) (σ : St) (Q : VK) (u : Value) (s' : Shared) : Prop:=∃ v H', Inv X pins σ H' s' ∧ RelV v u ∧ Q v H'
def TP (X : Cx) (pins : List (Addr × Obj)) (σ : St) (Q : Bool → Hp → Prop) (b : Bool) (s' : Shared) : Prop:=∃ H', Inv X pins σ H' s' ∧ Q b H'
def AP (X : Cx) (pins : List (Addr × Obj)) (σ : St) (Q : List V → Hp → Prop) (us : List Value) (s' : Shared) : Prop:=∃ vs H', Inv X pins σ H' s' ∧ Vals vs us ∧ Q vs H'
def SP (X : Cx) (pins : List (Addr × Obj)) (D : Ends) (f : Flow) (s' : Shared) : Prop :=
 match f with
 | .next=>∃ σ' H', Inv X pins σ' H' s' ∧ D.nx σ' H'
 | .brk=>∃ σ' H', Inv X pins σ' H' s' ∧ D.bk σ' H'
 | .cont=>∃ σ' H', Inv X pins σ' H' s' ∧ D.ct σ' H'
 | .ret u=>∃ v σ' H', Inv X pins σ' H' s' ∧ RelV v u ∧ D.rt v H'
def PE (X : Cx) (e : Expr) (t : TE) : Prop :=
 ∀ (pins : List (Addr × Obj)) (s : Shared) (σ : St) (H : Hp) (Q : VK),Inv X pins σ H s → t σ H Q → wpAny (model X.prog X.w) X.A (eval e X.env) (EP X pins σ Q) X.xe s
def PT (X : Cx) (e : Expr) (t : TT) : Prop :=
 ∀ (pins : List (Addr × Obj)) (s : Shared) (σ : St) (H : Hp) (Q : Bool → Hp → Prop),Inv X pins σ H s → t σ H Q → wpAny (model X.prog X.w) X.A (isTrue e X.env (eval e X.env)) (TP X pins σ Q) X.xe s
def PW (X : Cx) (e : Expr) (t : TT) : Prop :=
 ∀ (whole : Sem Value) (pins : List (Addr × Obj)) (s : Shared) (σ : St) (H : Hp) (Q : Bool → Hp → Prop),Inv X pins σ H s → t σ H Q → wpAny (model X.prog X.w) X.A (isTrue e X.env whole) (TP X pins σ Q) X.xe s
theorem PW.pt {X : Cx} {e : Expr} {t : TT} (h : PW X e t) : PT X e t:=h _
def PA (X : Cx) (es : List Expr) (t : TA) : Prop :=
 ∀ (pos : Pos) (pins : List (Addr × Obj)) (s : Shared) (σ : St) (H : Hp) (Q : List V → Hp → Prop),Inv X pins σ H s → t σ H Q → wpAny (model X.prog X.w) X.A (spliced (backTo pos (starEach es X.env))) (AP X pins σ Q) X.xe s
def PS (X : Cx) (st : Stmt) (t : TS) : Prop :=
 ∀ (pins : List (Addr × Obj)) (s : Shared) (σ : St) (H : Hp) (D : Ends),Inv X pins σ H s → t D σ H → wpAny (model X.prog X.w) X.A (exec st X.env) (SP X pins D) X.xe s
def PSs (X : Cx) (st : List Stmt) (t : TS) : Prop :=
 ∀ (pins : List (Addr × Obj)) (s : Shared) (σ : St) (H : Hp) (D : Ends),Inv X pins σ H s → t D σ H → wpAny (model X.prog X.w) X.A (execs st X.env) (SP X pins D) X.xe s
theorem thn {α : Type} {t : Sem α} {Q Q' : α → Shared → Prop} {M : Model} {A : Around} {E : Value → Shared → Prop} {s : Shared} (h : wpAny M A t Q E s) (hQ : ∀ a s,Q a s → Q' a s) : wpAny M A t Q' E s:=wpAny_mono h hQ fun _ _ x=>x
end L2
namespace L2
open PySem PySem.Spec PyProof.Rows
section
variable {X : Cx}
def Jq4 (i : Nat) : TE:=fun σ H Q=>∃ v,σ[i]? = some (some v) ∧ Q v H
def tC (v : V) : TE:=fun _ H Q=>Q v H
theorem Jw4 {i : Nat} {x : Str} {pos : Pos} (hN : X.N[i]? = some x) (hv : Vis X.env.scope x) (hd : (x == ("__debug__" : Str)) = false:=by decide) (hcd : (x == ("__classdict__" : Str)) = false:=by decide) : PE X (.Name x pos) (Jq4 i):=by
 intro pins s σ H Q I h
 obtain ⟨v,e,h⟩:=h
 obtain ⟨m,hn,hl⟩:=I.loc
 obtain ⟨u,r,l⟩:=hl i x v hN e hv
 have fin : EP X pins σ Q u s:=⟨v,H,I,r,h⟩
 rcases l with ⟨hk,hm⟩ | ⟨hk,c,hc,hcell⟩
 ·exact wpAny_Name (wpAny_loadName_local I.ok.kind hk hn hm fin) hd
 ·rcases hk with hk | hk
  ·exact wpAny_Name (wpAny_loadName_cell I.ok.kind hk hc hcell fin) hd
  ·exact wpAny_Name (wpAny_loadName_free I.ok.kind hk hc hcell fin hcd) hd
theorem Ji5 {i j pos} : PE X (.Constant (.int i) j pos) (tC (.int i)):=fun _ _ _ H _ I h=>wpAny_Constant_int ⟨.int i,H,I.tok _,⟨_,rfl⟩,h⟩
theorem Jjx {b j pos} : PE X (.Constant (.bool b) j pos) (tC (.bl b)):=fun _ _ _ H _ I h=>Constant_bool ⟨.bl b,H,I,rfl,h⟩
theorem Jl2 {j pos} : PE X (.Constant .none j pos) (tC .non):=fun _ _ _ H _ I h=>Constant_none ⟨.non,H,I,rfl,h⟩
theorem Jks {x j pos} : PE X (.Constant (.str x) j pos) (tC (.str x)):=fun _ _ _ H _ I h=>Calls.Constant_str ⟨.str x,H,I.tok _,⟨_,rfl⟩,h⟩
def Gl (X : Cx) (x : Str) : Prop:=X.env.kindOf x = some .globalImplicit
theorem Jmk {E : Value → Shared → Prop} {pins : List (Addr × Obj)} {s : Shared} {σ : St} {H : Hp} {x : Str} {u : Value} {pos : Pos} {Q : Value → Shared → Prop} (I : Inv X pins σ H s) (hg : Gl X x) (hm : X.mg x = some u) (h : Q u s)
  (hd : (x == ("__debug__" : Str)) = false:=by decide) : wpAny (model X.prog X.w) X.A (eval (.Name x pos) X.env) Q E s :=
 Calls.Name_function_global I.ok.kind hg (Calls.loadGlobal_global (by rw [I.ok.glob]; exact I.mod.glob.keeps I.bk) hm h) hd
theorem Jlx {E : Value → Shared → Prop} {pins : List (Addr × Obj)} {s : Shared} {σ : St} {H : Hp} {x : Str} {u : Value} {pos : Pos} {Q : Value → Shared → Prop} (I : Inv X pins σ H s) (hg : Gl X x) (hm : X.mg x = none) (hv : bootBuiltins x = some u) (h : Q u s)
  (hn : x ≠ "__name__" := by decide) (hd : (x == ("__debug__" : Str)) = false:=by decide) : wpAny (model X.prog X.w) X.A (eval (.Name x pos) X.env) Q E s:=by
 obtain ⟨mb,h1,h2⟩:=I.mod.blt
 exact Calls.Name_function_global I.ok.kind hg (Calls.loadGlobal_builtin (by rw [I.ok.glob]; exact I.mod.glob.keeps I.bk) hm (by rw [I.ok.blt]; exact h1.keeps I.bk) ((h2 x hn).trans hv) h) hd
theorem Jjd {x : Str} {v : V} {u : Value} {pos : Pos} (hg : Gl X x) (hm : X.mg x = some u) (r : RelV v u) (hd : (x == ("__debug__" : Str)) = false:=by decide) : PE X (.Name x pos) (tC v) :=
 fun _ _ _ H _ I h=>Jmk I hg hm ⟨v,H,I,r,h⟩ hd
theorem Jjm {x : Str} {v : V} {u : Value} {pos : Pos} (hg : Gl X x) (hm : X.mg x = none) (hv : bootBuiltins x = some u) (r : RelV v u) (hn : x ≠ "__name__" := by decide) (hd : (x == ("__debug__" : Str)) = false:=by decide) : PE X (.Name x pos) (tC v) :=
 fun _ _ _ H _ I h=>Jlx I hg hm hv ⟨v,H,I,r,h⟩ hn hd
variable {a b : Expr} {ta tb : TE} {pos : Pos}
def tB (t : TE) : TT:=fun σ H Q=>t σ H fun x H1=>∃ c,x = .bl c ∧ Q c H1
theorem Jiq {e : Expr} {t : TE} (h : PE X e t) (he : ∀ whole,isTrue e X.env whole = (do let v ← whole; standAt e.pos; holding [v] (truthy v)):=by intro _; rfl) : PT X e (tB t):=by
 intro pins s σ H Q I hw
 refine isTrue_plain (thn (h pins s σ H _ I hw) fun v s1 ⟨x,H1,I1,r1,q1⟩=>?_) (he _)
 obtain ⟨d,rfl,q⟩:=q1
 cases r1
 exact wpAny_truthy_bool ⟨H1,I1,q⟩
variable {tA tB' : TT} {rest : List Expr}
def tOr (t u : TT) : TT:=fun σ H Q=>t σ H fun c H1=>if c = true then Q true H1 else u σ H1 Q
def tNot (t : TT) : TT:=fun σ H Q=>t σ H fun c H1=>Q (!c) H1
theorem Jlj (ha : PT X a tA) : PW X (.BoolOp .Or [a] pos) tA:=by
 intro wh pins s σ H Q I h
 refine isTrue_or (thn (ha pins s σ H Q I h) fun c s1 e=>?_)
 cases c with
 | false=>exact isTrue_or_nil e
 | true=>exact e
theorem Jm9 (ha : PT X a tA) (hb : PW X (.BoolOp .Or (b :: rest) pos) tB') : PW X (.BoolOp .Or (a :: b :: rest) pos) (tOr tA tB'):=by
 intro wh pins s σ H Q I h
 refine isTrue_or (thn (ha pins s σ H _ I h) fun c s1 ⟨H1,I1,q1⟩=>?_)
 cases c with
 | true=>exact ⟨H1,I1,q1⟩
 | false=>exact hb wh pins s1 σ H1 Q I1 q1
theorem Jip (ha : PT X a tA) : PT X (.UnaryOp .Not a pos) (tNot tA):=by
 intro pins s σ H Q I h
 exact isTrue_not (ha pins s σ H (fun c H1=>Q (!c) H1) I h)
def tAndV (ta tb : TE) : TE:=fun σ H Q=>ta σ H fun x H1=>∃ c,x = .bl c ∧ if c = true then tb σ H1 Q else Q (.bl false) H1
theorem Jrc {op} {t : TE} (h : PE X a t) : PE X (.BoolOp op [a] pos) t:=fun pins s σ H Q I hw=>BoolOp_one (h pins s σ H Q I hw)
theorem Jrb (ha : PE X a ta) (hb : PE X (.BoolOp .And (b :: rest) pos) tb) : PE X (.BoolOp .And (a :: b :: rest) pos) (tAndV ta tb):=by
 intro pins s σ H Q I h
 refine BoolOp_and (thn (ha pins s σ H _ I h) fun v s1 ⟨x,H1,I1,r1,q1⟩=>?_)
 obtain ⟨c,rfl,q1⟩:=q1
 cases r1
 refine wpAny_truthy_bool ?_
 cases c with
 | true=>exact hb pins s1 σ H1 Q I1 q1
 | false=>exact ⟨.bl false,H1,I1,rfl,q1⟩
def tIf (t : TT) (ta tb : TE) : TE:=fun σ H Q=>t σ H fun c H1=>if c = true then ta σ H1 Q else tb σ H1 Q
theorem Jw3 {c : Expr} (hc : PT X c tA) (ha : PE X a ta) (hb : PE X b tb) : PE X (.IfExp c a b pos) (tIf tA ta tb):=by
 intro pins s σ H Q I h
 refine wpAny_IfExp (thn (hc pins s σ H _ I h) fun d s1 ⟨H1,I1,q1⟩=>?_)
 cases d with
 | true=>exact ha pins s1 σ H1 Q I1 q1
 | false=>exact hb pins s1 σ H1 Q I1 q1
end
end L2
namespace L2
open PySem PySem.Spec PyProof.Rows
def SqL (K : PySem.W.Frag) (H : Hp) (a : Addr) (xs : List V) : Prop :=
 Rd H a (.lst xs) ∨
  ∃ (o : Obj) (its : Array Value) (n : Nat),K.lookup a = some o ∧ o.cls = .type "list" ∧ o.dict = none ∧ o.data = .seq its n ∧ its.size ≤ sizeLine ∧ Vals xs its.toList
def SqT (K : PySem.W.Frag) (H : Hp) (a : Addr) (xs : List V) : Prop :=
 Rd H a (.tup xs) ∨
  ∃ (o : Obj) (its : Array Value) (n : Nat),K.lookup a = some o ∧ o.cls = .type "tuple" ∧ o.data = .seq its n ∧ its.size ≤ sizeLine ∧ Vals xs its.toList
def absV : Value → Option V
 | .none=>some .non
 | .bool b=>some (.bl b)
 | .int i _=>some (.int i)
 | .str x _=>some (.str x)
 | .bytes b _=>some (.byt b)
 | .float b _=>some (.flt b)
 | .ref a=>some (.ref a)
 | .type n=>some (.ty n)
 | _=>none
theorem RelV.abs {x : V} {u : Value} (r : RelV x u) : absV u = some x:=by
 cases x with
 | non=>cases r; rfl
 | bl _=>cases r; rfl
 | int _=>obtain ⟨t,rfl⟩:=r; rfl
 | str _=>obtain ⟨t,rfl⟩:=r; rfl
 | byt _=>obtain ⟨t,rfl⟩:=r; rfl
 | flt _=>obtain ⟨t,rfl⟩:=r; rfl
 | ref _=>cases r; rfl
 | ty _=>cases r; rfl
theorem RelV.inj {x y : V} {u : Value} (r : RelV x u) (q : RelV y u) : x = y:=Option.some.inj (r.abs.symm.trans q.abs)
theorem Vals.inj : ∀ {xs ys : List V} {us : List Value},Vals xs us → Vals ys us → xs = ys
 | _,_,_,.nil,.nil=>rfl
 | _,_,_,.cons r t,.cons r' t'=>by rw [r.inj r', Vals.inj t t']
section
variable {X : Cx} {pins : List (Addr × Obj)} {σ : St} {H : Hp} {s : Shared} {a : Addr} {xs ys : List V}
theorem SqL.of {K : PySem.W.Frag} (h : H a = some (.lst xs)) : SqL K H a xs:=.inl (.inl h)
theorem SqT.of {K : PySem.W.Frag} (h : H a = some (.tup xs)) : SqT K H a xs:=.inl (.inl h)
theorem Inv.list (I : Inv X pins σ H s) (h : SqL X.K H a xs) : ∃ its : List Value,Vals xs its ∧ PlainL s.heap a its.toArray ∧ xs.length ≤ sizeLine:=by
 rcases h with h | ⟨o,its,n,hk,hc,hd,hs,hz,r⟩
 ·obtain ⟨z,its,n,r,e⟩:=h.ok I.hok
  exact ⟨its,r,⟨_,n,e,rfl,rfl,rfl⟩,z⟩
 ·refine ⟨its.toList,r,⟨o,n,I.kIn a o hk,hc,hd,by simpa using hs⟩,?_⟩
  have e:=r.length
  simp only [Array.length_toList] at e
  omega
theorem Inv.tuple (I : Inv X pins σ H s) (h : SqT X.K H a xs) : ∃ its : List Value,Vals xs its ∧ IsTup s.heap a its.toArray ∧ xs.length ≤ sizeLine:=by
 rcases h with h | ⟨o,its,n,hk,hc,hs,hz,r⟩
 ·obtain ⟨z,its,r,p⟩:=h.ok I.hok
  exact ⟨its,r,p,z⟩
 ·refine ⟨its.toList,r,⟨o,I.kIn a o hk,hc,n,by simpa using hs⟩,?_⟩
  have e:=r.length
  simp only [Array.length_toList] at e
  omega
theorem Inv.list_inj (I : Inv X pins σ H s) (h : SqL X.K H a xs) (h' : SqL X.K H a ys) : xs = ys:=by
 obtain ⟨its,r,⟨o,n,e,_,_,d⟩,_⟩:=I.list h
 obtain ⟨its', r', ⟨o', n', e', _,_,d'⟩,_⟩:=I.list h'
 rw [e] at e'; cases e'
 rw [d] at d'
 injection d' with d1 _
 have : its = its':=by simpa using congrArg Array.toList d1
 subst this
 exact r.inj r'
theorem Inv.tuple_inj (I : Inv X pins σ H s) (h : SqT X.K H a xs) (h' : SqT X.K H a ys) : xs = ys:=by
 obtain ⟨its,r,⟨o,e,_,n,d⟩,_⟩:=I.tuple h
 obtain ⟨its', r', ⟨o', e', _,n', d'⟩,_⟩:=I.tuple h'
 rw [e] at e'; cases e'
 rw [d] at d'
 injection d' with d1 _
 have : its = its':=by simpa using congrArg Array.toList d1
 subst this
 exact r.inj r'
end
abbrev Cx.wish (X : Cx) (E : Value → Shared → Prop) : Cx:={ X with xe:=E }
abbrev Cx.nox (X : Cx) : Cx:=X.wish fun _ _=>False
theorem Cx.Ok.wish {X : Cx} (ok : X.Ok) (E : Value → Shared → Prop) : (X.wish E).Ok :=
 ⟨ok.mod,ok.kind,ok.glob,ok.blt,ok.above,ok.inj,ok.has,ok.cab,ok.hd,ok.frames,ok.stk,ok.exf,ok.bs,ok.bsz,ok.noex,ok.exfs,ok.funs,ok.frf⟩
theorem Cx.Ok.unwish {X : Cx} {E : Value → Shared → Prop} (ok : (X.wish E).Ok) : X.Ok :=
 ⟨ok.mod,ok.kind,ok.glob,ok.blt,ok.above,ok.inj,ok.has,ok.cab,ok.hd,ok.frames,ok.stk,ok.exf,ok.bs,ok.bsz,ok.noex,ok.exfs,ok.funs,ok.frf⟩
section
variable {X : Cx} {pins : List (Addr × Obj)} {σ : St} {H : Hp} {s : Shared} {E : Value → Shared → Prop}
theorem Inv.wish (I : Inv X pins σ H s) (E : Value → Shared → Prop) : Inv (X.wish E) pins σ H s:=⟨I.ok.wish E,I.os,I.bare,I.base,I.loc,I.cell,I.free,I.freeC,I.pin,I.hok,I.len⟩
theorem Inv.unwish (I : Inv (X.wish E) pins σ H s) : Inv X pins σ H s:=⟨I.ok.unwish,I.os,I.bare,I.base,I.loc,I.cell,I.free,I.freeC,I.pin,I.hok,I.len⟩
theorem SP.unwish {D : Ends} {f : Flow} {s' : Shared} (h : SP (X.wish E) pins D f s') : SP X pins D f s':=by
 cases f with
 | next=>obtain ⟨σ', H', I,q⟩:=h; exact ⟨σ', H', I.unwish,q⟩
 | brk=>obtain ⟨σ', H', I,q⟩:=h; exact ⟨σ', H', I.unwish,q⟩
 | cont=>obtain ⟨σ', H', I,q⟩:=h; exact ⟨σ', H', I.unwish,q⟩
 | ret u=>obtain ⟨v,σ', H', I,r,q⟩:=h; exact ⟨v,σ', H', I.unwish,r,q⟩
theorem PSs.nox {st : List Stmt} {t : TS} (h : PSs X.nox st t) : PSs X st t:=fun pins s σ H D I hw =>
 wpAny_mono (h pins s σ H D (I.wish _) hw) (fun _ _ q=>q.unwish) fun _ _ z=>False.elim z
end
section
variable {X : Cx} {st : Stmt} {rest : List Stmt} {t u : TS} {e : Expr} {te : TE} {pos : Pos}
def tNext : TS:=fun D σ H=>D.nx σ H
def tSeq (t u : TS) : TS:=fun D σ H=>t { D with nx:=u D } σ H
theorem Jik : PSs X [] tNext:=fun _ _ σ H _ I h=>wpAny_execs_nil ⟨σ,H,I,h⟩
theorem Ji4 (h1 : PS X st t) (h2 : PSs X rest u) : PSs X (st :: rest) (tSeq t u):=by
 intro pins s σ H D I h
 refine wpAny_execs_cons (thn (h1 pins s σ H { D with nx:=u D } I h) fun f s1 q=>?_)
 cases f with
 | next =>
  obtain ⟨σ', H', I', q⟩:=q
  exact h2 pins s1 σ' H' D I' q
 | ret v=>exact q
 | brk=>exact q
 | cont=>exact q
theorem Ji7 (h1 : PS X st t) : PSs X [st] t:=by
 intro pins s σ H D I h
 refine wpAny_execs_cons (thn (h1 pins s σ H D I h) fun f s1 q=>?_)
 cases f with
 | next=>exact wpAny_execs_nil q
 | ret v=>exact q
 | brk=>exact q
 | cont=>exact q
theorem Inv.quiet {pins : List (Addr × Obj)} {σ : St} {H : Hp} {s : Shared} (I : Inv X pins σ H s) : interactive X.env = false:=by simp [interactive,I.ok.kind]
def tDrop (te : TE) : TS:=fun D σ H=>te σ H fun _ H1=>D.nx σ H1
theorem Jjv (he : PE X e te) (hs : swapsWith e none pos.line X.env = pure false:=by rfl) : PS X (.Expr e pos) (tDrop te):=by
 intro pins s σ H D I h
 exact wpAny_Expr_any (thn (he pins s σ H _ I h) fun v s1 ⟨x,H1,I1,r1,q1⟩=>⟨σ,H1,I1,q1⟩) I.quiet hs
def tRet (te : TE) : TS:=fun D σ H=>te σ H D.rt
theorem Jif (he : PE X e te) : PS X (.Return (some e) pos) (tRet te):=by
 intro pins s σ H D I h
 exact wpAny_Return_some (thn (he pins s σ H _ I h) fun v s1 ⟨x,H1,I1,r1,q1⟩=>⟨x,σ,H1,I1,r1,q1⟩)
def tIfS (c : TT) (t u : TS) : TS:=fun D σ H=>c σ H fun b H1=>if b = true then t D σ H1 else u D σ H1
theorem Jiy {c : Expr} {a b : List Stmt} {tc : TT} (hc : PT X c tc) (ha : PSs X a t) (hb : PSs X b u) : PS X (.If c a b pos) (tIfS tc t u):=by
 intro pins s σ H D I h
 refine wpAny_If (thn (hc pins s σ H _ I h) fun d s1 ⟨H1,I1,q1⟩=>?_)
 cases d with
 | true=>exact ha pins s1 σ H1 D I1 q1
 | false=>exact hb pins s1 σ H1 D I1 q1
end
abbrev TG:=V → St → Hp → (St → Hp → Prop) → Prop
abbrev TGs:=List V → St → Hp → (St → Hp → Prop) → Prop
def PG (X : Cx) (target : Expr) (t : TG) : Prop :=
 ∀ (pins : List (Addr × Obj)) (s : Shared) (σ : St) (H : Hp) (v : V) (u : Value) (Q : St → Hp → Prop),Inv X pins σ H s → RelV v u → t v σ H Q →
  wpAny (model X.prog X.w) X.A (assign target X.env u) (fun _ s'=>∃ σ' H', Inv X pins σ' H' s' ∧ Q σ' H') X.xe s
def PGs (X : Cx) (ts : List Expr) (t : TGs) : Prop :=
 ∀ (pins : List (Addr × Obj)) (s : Shared) (σ : St) (H : Hp) (vs : List V) (us : List Value) (Q : St → Hp → Prop),Inv X pins σ H s → Vals vs us → t vs σ H Q →
  wpAny (model X.prog X.w) X.A (assignInOrder ((assignEach ts X.env).map (·.2)) us) (fun _ s'=>∃ σ' H', Inv X pins σ' H' s' ∧ Q σ' H') X.xe s
abbrev TSet:=V → V → V → Hp → (Hp → Prop) → Prop
def PSet (X : Cx) (t : TSet) : Prop :=
 ∀ (pins : List (Addr × Obj)) (s : Shared) (σ : St) (H : Hp) (o i v : V) (ov iv u : Value) (Q : Hp → Prop),Inv X pins σ H s → RelV o ov → RelV i iv → RelV v u → t o i v H Q →
  wpAny (model X.prog X.w) X.A (setItem ov iv u) (fun _ s'=>∃ H', Inv X pins σ H' s' ∧ Q H') X.xe s
abbrev TIp:=V → V → Hp → VK → Prop
def PIp (X : Cx) (op : Operator) (t : TIp) : Prop :=
 ∀ (pins : List (Addr × Obj)) (s : Shared) (σ : St) (H : Hp) (x y : V) (v u : Value) (Q : VK),Inv X pins σ H s → RelV x v → RelV y u → t x y H Q →
  wpAny (model X.prog X.w) X.A (inplaceOp op v u) (EP X pins σ Q) X.xe s
section
variable {X : Cx} {pos : Pos}
def Jmq (i : Nat) : TG:=fun v σ H Q=>Q (σ.set i (some v)) H
theorem Jie {i : Nat} {x : Str} (hN : X.N.Nodup) (hi : X.N[i]? = some x) (hx : Loc X.env.scope x) (hf : X.fn x = true ∨ X.env.scope.names.lookup x = some .local:=by first | exact .inl rfl | exact .inr rfl | assumption) : PG X (.Name x pos) (Jmq i):=by
 intro pins s σ H v u Q I r h
 exact wpAny_assign_Name (Jmi I hN hi hx r (fun s' I'=>⟨_,H,I', h⟩) hf)
def gNil : TGs:=fun vs σ H Q=>vs = [] ∧ Q σ H
def Jtp (t : TG) (u : TGs) : TGs:=fun vs σ H Q=>∃ v r,vs = v :: r ∧ t v σ H fun σ' H'=>u r σ' H' Q
theorem Jky : PGs X [] gNil:=by
 intro pins s σ H vs us Q I r h
 obtain ⟨e,h⟩:=h
 subst e
 cases r
 exact assignInOrder_nil ⟨σ,H,I,h⟩
theorem Jio {e : Expr} {es : List Expr} {t : TG} {u : TGs} (h1 : PG X e t) (h2 : PGs X es u)
  (hs : (assignEach (e :: es) X.env).map (·.2) = assign e X.env :: (assignEach es X.env).map (·.2):=by rfl) : PGs X (e :: es) (Jtp t u):=by
 intro pins s σ H vs us Q I r h
 obtain ⟨v,vr,e1,h⟩:=h
 subst e1
 cases r with
 | cons r rr =>
  rw [hs]
  refine assignInOrder_cons (thn (h1 pins s σ H _ _ _ I r h) fun _ s1 ⟨σ1,H1,I1,q1⟩=>?_)
  exact h2 pins s1 σ1 H1 _ _ Q I1 rr q1
def gTup (K : PySem.W.Frag) (n : Nat) (t : TGs) : TG:=fun v σ H Q=>∃ a xs,v = .ref a ∧ SqT K H a xs ∧ xs.length = n ∧ t xs σ H Q
theorem Jn3 {es : List Expr} {k : Nat} {t : TGs} {n : Nat} (hc : X.calm = true) (h : PGs X es t)
  (hn : (assignEach es X.env).length = n:=by rfl) (hst : (assignEach es X.env).findIdx? (·.1) = none:=by rfl) : PG X (.Tuple es k pos) (gTup X.K n t):=by
 intro pins s σ H v u Q I r hw
 obtain ⟨a,xs,e1,hq,hl,hw⟩:=hw
 subst e1
 cases r
 obtain ⟨its,rv,ht,hz⟩:=I.tuple hq
 refine assign_Tuple_tuple (I.ok.hd hc) ht (by simp [hn,← hl,rv.length]) hst fun h' hx=>?_
 have I1 : Inv X pins σ H { s with heap:=h' }:=I.kept (t':=s.toks) fun b o e=>hx b o (Nat.ne_of_lt (Heap.lt_size e)) e
 exact h pins _ σ H xs _ Q I1 (by simpa using rv) hw
def gSub (to ti : TE) (t : TSet) : TG:=fun v σ H Q=>to σ H fun o H1=>ti σ H1 fun i H2=>t o i v H2 fun H3=>Q σ H3
theorem Jt3 {o i : Expr} {to ti : TE} {t : TSet} (ho : PE X o to) (hi : PE X i ti) (hs : PSet X t)
  (ha : ∀ v,assign (.Subscript o i pos) X.env v = (do
   let ov ← holding [v] (eval o X.env)
   let iv ← holding [v,ov] (eval i X.env)
   standAt pos
   holding [v,ov,iv] (setItem ov iv v)
   release [v,ov,iv] []):=by intro _; rfl) : PG X (.Subscript o i pos) (gSub to ti t):=by
 intro pins s σ H v u Q I r h
 rw [ha]
 refine wpAny_bind (wpAny_holding (thn (ho pins s σ H _ I h) fun ov s1 ⟨x,H1,I1,r1,q1⟩=>?_))
 refine wpAny_bind (wpAny_holding (thn (hi pins s1 σ H1 _ I1 q1) fun iv s2 ⟨y,H2,I2,r2,q2⟩=>?_))
 refine wpAny_bind (wpAny_standAt (wpAny_bind (wpAny_holding (thn (hs pins s2 σ H2 x y v ov iv u _ I2 r1 r2 r q2) fun _ s3 ⟨H3,I3,q3⟩=>?_))))
 exact wpAny_release ⟨σ,H3,I3,q3⟩
def tAsg (te : TE) (g : TG) : TS:=fun D σ H=>te σ H fun x H1=>g x σ H1 D.nx
theorem Jre {tg e : Expr} {te : TE} {g : TG} (he : PE X e te) (hg : PG X tg g) (hs : swapsWithSole [tg] e pos.line X.env = pure false:=by rfl) (hw : swappedStores [tg] e X.env = pure none:=by rfl)
  (h1 : (assignEach [tg] X.env).map (·.2) = [assign tg X.env]:=by rfl) : PS X (.Assign [tg] e pos) (tAsg te g):=by
 intro pins s σ H D I h
 refine wpAny_Assign_stores (thn (he pins s σ H _ I h) fun v s1 ⟨x,H1,I1,r1,q1⟩=>?_) hs hw
 rw [h1]
 exact thn (hg pins s1 σ H1 x v _ I1 r1 q1) fun _ s2 q=>q
theorem Jig {i : Nat} {x : Str} {e : Expr} {te : TE} {pos' : Pos} (hN : X.N.Nodup) (hi : X.N[i]? = some x) (hx : Loc X.env.scope x) (he : PE X e te) (hs : swapsWith e (some (.Name x pos')) pos.line X.env = pure false:=by rfl) (hf : X.fn x = true ∨ X.env.scope.names.lookup x = some .local:=by first | exact .inl rfl | exact .inr rfl | assumption) :
  PS X (.Assign [.Name x pos'] e pos) (tAsg te (Jmq i)):=by
 intro pins s σ H D I h
 refine wpAny_Assign_Name (thn (he pins s σ H _ I h) fun v s1 ⟨y,H1,I1,r1,q1⟩=>?_) hs
 exact Jmi I1 hN hi hx r1 (fun s2 I2=>⟨_,H1,I2,q1⟩) hf
def tAug (i : Nat) (te : TE) (ti : TIp) : TS:=fun D σ H=>∃ x,σ[i]? = some (some x) ∧ te σ H fun y H1=>ti x y H1 fun z H2=>D.nx (σ.set i (some z)) H2
theorem ps_aug {i : Nat} {x : Str} {e : Expr} {te : TE} {op : Operator} {ti : TIp} {pos' : Pos} (hN : X.N.Nodup) (hi : X.N[i]? = some x) (hx : Loc X.env.scope x) (he : PE X e te) (ho : PIp X op ti) (hf : X.fn x = true ∨ X.env.scope.names.lookup x = some .local:=by first | exact .inl rfl | exact .inr rfl | assumption) :
  PS X (.AugAssign (.Name x pos') op e pos) (tAug i te ti):=by
 intro pins s σ H D I h
 obtain ⟨v,e1,h⟩:=h
 obtain ⟨m,hn,hl⟩:=I.loc
 have vis : Vis X.env.scope x:=by rcases hx with k | k; exact .inl k; exact .inr (.inl k)
 obtain ⟨u,r,l⟩:=hl i x v hi e1 vis
 refine wpAny_AugAssign_Name ?_
 have go : wpAny (model X.prog X.w) X.A (eval e X.env) (fun w s₂=>wpAny (model X.prog X.w) X.A (inplaceOp op u w) (fun r s₃=>wpAny (model X.prog X.w) X.A (storeName X.env x r) (fun _=>SP X pins D .next) X.xe s₃) X.xe s₂) X.xe s:=by
  refine thn (he pins s σ H _ I h) fun w s1 ⟨y,H1,I1,r1,q1⟩=>?_
  refine thn (ho pins s1 σ H1 v y u w _ I1 r r1 q1) fun z s2 ⟨zv,H2,I2,r2,q2⟩=>?_
  exact Jmi I2 hN hi hx r2 (fun s3 I3=>⟨_,H2,I3,q2⟩) hf
 rcases l with ⟨hk,hm⟩ | ⟨hk,c,hc,hcell⟩
 ·exact wpAny_loadName_local I.ok.kind hk hn hm go
 ·rcases hk with hk | hk
  ·exact wpAny_loadName_cell I.ok.kind hk hc hcell go
  ·rcases hx with k | k
   ·have : X.env.scope.names.lookup x = some .free:=hk
    rw [k] at this; cases this
   ·have : X.env.scope.names.lookup x = some .free:=hk
    rw [k] at this; cases this
def ipI (f : Int → Int → Int) : TIp:=fun x y H Q=>∃ i j,x = .int i ∧ y = .int j ∧ Q (.int (f i j)) H
theorem ip_sub : PIp X .Sub (ipI fun i j=>i - j):=by
 intro pins s σ H x y v u Q I r1 r2 h
 obtain ⟨i,j,e1,e2,q⟩:=h
 subst e1; subst e2
 obtain ⟨t,rfl⟩:=r1
 obtain ⟨t', rfl⟩:=r2
 exact isub_int ⟨.int _,H,I.tok _,⟨_,rfl⟩,q⟩
end
section
variable {X : Cx} {pos : Pos}
end
structure It where
 go : Nat → Hp → Prop
 yld : Nat → Hp → V → Hp → Prop
 stop : Nat → Hp → Prop
def Jnl (X : Cx) (pins : List (Addr × Obj)) (H : Hp) (b : Addr) : Prop :=
 H b = none ∧ b ≠ X.env.locals ∧ b ∉ X.fs ∧ (b ∈ X.ex ∨ X.s₀.heap.objs.size ≤ b) ∧ (∀ x c,X.env.cells.lookup x = some c → c ≠ b) ∧ ∀ p ∈ X.pn ++ pins,p.1 ≠ b
theorem Inv.fpOk {X : Cx} {pins : List (Addr × Obj)} {σ : St} {H H' : Hp} {s : Shared} {b : Addr} (I : Inv X pins σ H s) (hb : s.heap.objs.size ≤ b) (hn : H' b = none) : Jnl X pins H' b:=by
 refine ⟨hn,Nat.ne_of_gt (Nat.lt_of_lt_of_le I.lt hb),I.nofs hb,.inr (Nat.le_trans I.sz hb),fun x c e z=>?_,fun p hp z=>?_⟩
 ·obtain ⟨v,q⟩:=I.cell x c e
  exact absurd (Nat.lt_of_lt_of_le q.lt (by rw [z]; exact hb)) (Nat.lt_irrefl _)
 ·exact absurd (Nat.lt_of_lt_of_le (Heap.lt_size (I.pin p hp).1) (by rw [z]; exact hb)) (Nat.lt_irrefl _)
structure Jpm (P : Program) (w : World) (K : PySem.W.Frag) (tg : Expr) (J : It) (fp : List Addr) (it : Addr) (tn : Nat → Heap → Prop) : Prop where
 mem : it ∈ fp
 obj : ∀ i h,tn i h → ∀ b ∈ fp,∃ o,h.get? b = some o ∧ ∀ v,o.data ≠ .cell v
 keep : ∀ i h h', tn i h → (∀ b ∈ fp,∀ o,h.get? b = some o → h'.get? b = some o) → tn i h'
 item : ∀ (X : Cx),X.prog = P → X.w = w → X.K = K → X.calm = true → ∀ (i : Nat) (pins : List (Addr × Obj)) (s : Shared) (σ : St) (H : Hp) (E : Value → Shared → Prop),Inv X pins σ H s → (∀ b ∈ fp,Jnl X pins H b) → tn i s.heap → J.go i H →
  wpAny (model P w) X.A (pyNext (.ref it)) (fun r s1=>∃ u,r = some u ∧
   wpAny (model P w) X.A (letOwnedTupleGo tg (.ref it) u) (fun _ s2=>∃ x H', Inv X pins σ H' s2 ∧ RelV x u ∧ J.yld i H x H' ∧ tn (i + 1) s2.heap ∧ ∀ b ∈ fp,H' b = none) E s1) E s
 done : ∀ (X : Cx),X.prog = P → X.w = w → X.K = K → X.calm = true → ∀ (i : Nat) (pins : List (Addr × Obj)) (s : Shared) (σ : St) (H : Hp) (E : Value → Shared → Prop),Inv X pins σ H s → (∀ b ∈ fp,Jnl X pins H b) → tn i s.heap → J.stop i H →
  wpAny (model P w) X.A (pyNext (.ref it)) (fun r s1=>r = none ∧ Inv X pins σ H s1) E s
 self : ∀ (A : Around) (i : Nat) (s : Shared) (Q : Value → Shared → Prop) (E : Value → Shared → Prop),tn i s.heap → Q (.ref it) s → wpAny (model P w) A (pyIter (.ref it)) Q E s
abbrev TI:=St → Hp → (It → Hp → Prop) → Prop
def PIE (X : Cx) (pins : List (Addr × Obj)) (σ : St) (tg : Expr) (R : It → Hp → Prop) (itv : Value) (s2 : Shared) : Prop :=
 ∃ (it : Addr) (fp : List Addr) (tn : Nat → Heap → Prop) (J : It) (H' : Hp),itv = .ref it ∧ Inv X pins σ H' s2 ∧ Jpm X.prog X.w X.K tg J fp it tn ∧ tn 0 s2.heap ∧ (∀ b ∈ fp,Jnl X pins H' b) ∧ R J H'
def PI (X : Cx) (tg iter : Expr) (wi : TI) : Prop :=
 ∀ (pins : List (Addr × Obj)) (s : Shared) (σ : St) (H : Hp) (R : It → Hp → Prop),Inv X pins σ H s → wi σ H R →
  wpAny (model X.prog X.w) X.A (eval iter X.env) (fun v s1=>wpAny (model X.prog X.w) X.A (pyIter v) (PIE X pins σ tg R) X.xe s1) X.xe s
theorem Jtq {M : Model} {A : Around} {E : Value → Shared → Prop} {s : Shared} {tg : Expr} {it : Addr} {u : Value} {o : Obj} {n : String} {vs : Array Value} {Q : Unit → Shared → Prop} (ho : s.heap.get? it = some o) (hc : o.cls = .type n) (hd : o.data = .fields vs)
  (hn : ["enumerate","zip","dict_itemiterator","dict_reverseitemiterator","odict_iterator","itertools.zip_longest","itertools.pairwise"].contains n = false) (hQ : Q () s) : wpAny M A (letOwnedTupleGo tg (.ref it) u) Q E s:=by
 unfold letOwnedTupleGo
 cases tg <;> first
  | exact wpAny_pure hQ
  | (cases u <;> first
    | exact wpAny_pure hQ
    | (refine wpAny_bind (wpAny_load ho ?_)
       rw [hc,hd]
       show wpAny M A (if (["enumerate","zip","dict_itemiterator","dict_reverseitemiterator","odict_iterator","itertools.zip_longest","itertools.pairwise"].contains n && vs[0]? == some (rawInt _)) = true then _ else _) Q E s
       rw [if_neg (by intro h; rw [hn,Bool.false_and] at h; cases h)]
       exact wpAny_pure hQ))
def Itl (K : PySem.W.Frag) (a : Addr) : It :=
 ⟨fun i H=>∃ xs x,SqL K H a xs ∧ xs[i]? = some x,fun i H x H'=>H' = H ∧ ∀ xs,SqL K H a xs → xs[i]? = some x,fun i H=>∃ xs,SqL K H a xs ∧ xs.length ≤ i⟩
def Itt (K : PySem.W.Frag) (a : Addr) : It :=
 ⟨fun i H=>∃ xs x,SqT K H a xs ∧ xs[i]? = some x,fun i H x H'=>H' = H ∧ ∀ xs,SqT K H a xs → xs[i]? = some x,fun i H=>∃ xs,SqT K H a xs ∧ xs.length ≤ i⟩
def Itr (lo : Int) (n : Nat) : It:=⟨fun i _=>i < n,fun i H x H'=>H' = H ∧ x = .int (lo + i),fun i _=>n ≤ i⟩
theorem Jqo {P : Program} {w : World} {K : PySem.W.Frag} {tg : Expr} (a it : Addr) : Jpm P w K tg (Itl K a) [it] it (fun i h=>h.IsListIter it a i) where
 mem:=by simp
 obj:=fun i h st b hb=>by
  have e : b = it:=by simpa using hb
  subst e
  obtain ⟨o,e,c,d⟩:=st
  exact ⟨o,e,fun v z=>by rw [d] at z; cases z⟩
 keep:=fun i h h' st k=>st.at fun o e=>k it (by simp) o e
 item:=by
  intro X hP hw hK hc i pins s σ H E I hf st hg
  subst hP hw hK
  obtain ⟨xs,x,hq,hx⟩:=hg
  obtain ⟨its,rv,p,hz⟩:=I.list hq
  obtain ⟨u,hu,ru⟩:=rv.get hx
  obtain ⟨f0,f1,f2,f3,f4,f5⟩:=hf it (by simp)
  refine wpAny_pyNext_list_item st p.isList (x:=u) (by simpa using hu) fun h' st' sb=>?_
  have I1 : Inv X pins σ H { s with heap:=h' }:=I.turned (t':=s.toks) (fun b o hb e=>(sb.2 b hb).trans e) f0 f1 f3 f4 f5
  obtain ⟨o,e,c,d⟩:=id st'
  exact ⟨u,rfl,Jtq (s:={ s with heap:=h' }) e c d (by decide) ⟨x,H,I1,ru,⟨rfl,fun ys hy=>by rw [I.list_inj hy hq]; exact hx⟩,st', fun b hb=>(hf b hb).1⟩⟩
 done:=by
  intro X hP hw hK hc i pins s σ H E I hf st hg
  subst hP hw hK
  obtain ⟨xs,hq,hx⟩:=hg
  obtain ⟨its,rv,p,hz⟩:=I.list hq
  obtain ⟨f0,f1,f2,f3,f4,f5⟩:=hf it (by simp)
  have hl:=rv.length
  exact wpAny_pyNext_list_end (I.ok.hd hc) st p.isList (by simp; omega) fun h' eb=>⟨rfl,I.turned (t':=s.toks) (fun b o hb e=>eb b o hb e) f0 f1 f3 f4 f5⟩
 self:=fun _ _ _ _ _ st h=>wpAny_pyIter_listiter st h
theorem Jpj {P : Program} {w : World} {K : PySem.W.Frag} {tg : Expr} (a it : Addr) : Jpm P w K tg (Itt K a) [it] it (fun i h=>h.IsTupleIter it a i) where
 mem:=by simp
 obj:=fun i h st b hb=>by
  have e : b = it:=by simpa using hb
  subst e
  obtain ⟨o,e,c,d⟩:=st
  exact ⟨o,e,fun v z=>by rw [d] at z; cases z⟩
 keep:=fun i h h' st k=>st.at fun o e=>k it (by simp) o e
 item:=by
  intro X hP hw hK hc i pins s σ H E I hf st hg
  subst hP hw hK
  obtain ⟨xs,x,hq,hx⟩:=hg
  obtain ⟨its,rv,p,hz⟩:=I.tuple hq
  obtain ⟨u,hu,ru⟩:=rv.get hx
  obtain ⟨f0,f1,f2,f3,f4,f5⟩:=hf it (by simp)
  refine wpAny_pyNext_tuple_item st (show s.heap.IsTuple a its.toArray from p) (x:=u) (by simpa using hu) fun h' st' sb=>?_
  have I1 : Inv X pins σ H { s with heap:=h' }:=I.turned (t':=s.toks) (fun b o hb e=>(sb.2 b hb).trans e) f0 f1 f3 f4 f5
  obtain ⟨o,e,c,d⟩:=id st'
  exact ⟨u,rfl,Jtq (s:={ s with heap:=h' }) e c d (by decide) ⟨x,H,I1,ru,⟨rfl,fun ys hy=>by rw [I.tuple_inj hy hq]; exact hx⟩,st', fun b hb=>(hf b hb).1⟩⟩
 done:=by
  intro X hP hw hK hc i pins s σ H E I hf st hg
  subst hP hw hK
  obtain ⟨xs,hq,hx⟩:=hg
  obtain ⟨its,rv,p,hz⟩:=I.tuple hq
  obtain ⟨f0,f1,f2,f3,f4,f5⟩:=hf it (by simp)
  have hl:=rv.length
  exact wpAny_pyNext_tuple_end (I.ok.hd hc) st (show s.heap.IsTuple a its.toArray from p) (by simp; omega) fun h' eb=>⟨rfl,I.turned (t':=s.toks) (fun b o hb e=>eb b o hb e) f0 f1 f3 f4 f5⟩
 self:=fun _ _ _ _ _ st h=>wpAny_pyIter_tupleiter st h
theorem Jte {P : Program} {w : World} {K : PySem.W.Frag} {tg : Expr} (it : Addr) (lo : Int) (n : Nat) : Jpm P w K tg (Itr lo n) [it] it (fun i h=>IsRangeIter h it (lo + (i : Nat) * 1) ((n : Int) - (i : Nat)) 1) where
 mem:=by simp
 obj:=fun i h st b hb=>by
  have e : b = it:=by simpa using hb
  subst e
  exact ⟨_,st,fun v z=>by
   have z' : Data.fields _ = Data.cell v:=z
   cases z'⟩
 keep:=fun i h h' st k=>k it (by simp) _ st
 item:=by
  intro X hP hw hK hc i pins s σ H E I hf st hg
  subst hP hw hK
  obtain ⟨f0,f1,f2,f3,f4,f5⟩:=hf it (by simp)
  have W:=Walks.range (prog:=X.prog) (w:=X.w) (I.ok.hd hc) it lo 1 n
  refine W.item i s _ _ hg st fun v h' tk hv st' kk=>?_
  obtain ⟨t,rfl⟩:=hv
  have I1 : Inv X pins σ H { s with heap:=h', toks:=tk }:=I.turned (fun b o hb e=>kk b o (by simpa using hb) e) f0 f1 f3 f4 f5
  refine ⟨_,rfl,Jtq (s:={ s with heap:=h', toks:=tk }) (n := "range_iterator") st' rfl rfl (by decide) ⟨.int (lo + i),H,I1,⟨t,?_⟩,⟨rfl,rfl⟩,st', fun b hb=>(hf b hb).1⟩⟩
  rw [Int.mul_one]
 done:=by
  intro X hP hw hK hc i pins s σ H E I hf st hg
  subst hP hw hK
  obtain ⟨f0,f1,f2,f3,f4,f5⟩:=hf it (by simp)
  exact wpAny_pyNext_range_end (I.ok.hd hc) st (by have : n ≤ i:=hg; omega) fun h' eb=>⟨rfl,I.turned (t':=s.toks) (fun b o hb e=>eb b o hb e) f0 f1 f3 f4 f5⟩
 self:=fun _ _ _ _ _ st h=>wpAny_pyIter_rangeiter st h
end L2
namespace L2
open PySem PySem.Spec PyProof.Rows
section
variable {X : Cx} {tg : Expr}
def iList (K : PySem.W.Frag) (tl : TE) : TI:=fun σ H R=>tl σ H fun x H1=>∃ a,x = .ref a ∧ (∃ xs,SqL K H1 a xs) ∧ R (Itl K a) H1
def iTup (K : PySem.W.Frag) (tl : TE) : TI:=fun σ H R=>tl σ H fun x H1=>∃ a,x = .ref a ∧ (∃ xs,SqT K H1 a xs) ∧ R (Itt K a) H1
theorem Jj8 {l : Expr} {tl : TE} (hl : PE X l tl) : PI X tg l (iList X.K tl):=by
 intro pins s σ H R I h
 refine thn (hl pins s σ H _ I h) fun v s1 ⟨x,H1,I1,r1,q1⟩=>?_
 obtain ⟨a,e,⟨xs,hq⟩,q⟩:=q1
 subst e
 cases r1
 obtain ⟨its,rv,p,hz⟩:=I1.list hq
 refine wpAny_pyIter_list p.isList ?_
 refine ⟨s1.heap.objs.size,[s1.heap.objs.size],_,_,H1,rfl,I1.kept (t':=s1.toks) fun b o e=>Heap.get?_push_of_some _ e,Jqo a _,⟨_,Heap.get?_push_size _ rfl,rfl,rfl⟩,fun b hb=>?_,q⟩
 have e : b = s1.heap.objs.size:=by simpa using hb
 subst e
 exact I1.fpOk (Nat.le_refl _) (I1.hok.fresh (Nat.le_refl _))
theorem Jpd {l : Expr} {tl : TE} (hl : PE X l tl) : PI X tg l (iTup X.K tl):=by
 intro pins s σ H R I h
 refine thn (hl pins s σ H _ I h) fun v s1 ⟨x,H1,I1,r1,q1⟩=>?_
 obtain ⟨a,e,⟨xs,hq⟩,q⟩:=q1
 subst e
 cases r1
 obtain ⟨its,rv,p,hz⟩:=I1.tuple hq
 refine wpAny_pyIter_tuple (show s1.heap.IsTuple a its.toArray from p) ?_
 refine ⟨s1.heap.objs.size,[s1.heap.objs.size],_,_,H1,rfl,I1.kept (t':=s1.toks) fun b o e=>Heap.get?_push_of_some _ e,Jpj a _,⟨_,Heap.get?_push_size _ rfl,rfl,rfl⟩,fun b hb=>?_,q⟩
 have e : b = s1.heap.objs.size:=by simpa using hb
 subst e
 exact I1.fpOk (Nat.le_refl _) (I1.hok.fresh (Nat.le_refl _))
theorem Js9 {pins : List (Addr × Obj)} {σ : St} {H : Hp} {s : Shared} {R : It → Hp → Prop} {E : Value → Shared → Prop} {lo hi : Int} {t u v : Tok} {tk : Nat} (I : Inv X pins σ H s) (h1 : -(2 ^ 62) ≤ lo) (h2 : lo < 2 ^ 62) (h3 : -(2 ^ 62) ≤ hi) (h4 : hi < 2 ^ 62)
  (q : R (Itr lo (hi - lo).toNat) H) : wpAny (model X.prog X.w) X.A (pyIter (.ref s.heap.objs.size)) (PIE X pins σ tg R) E { s with heap:=s.heap.push { cls:=.type "range",data:=.fields #[.int lo t,.int hi u,.int 1 v] },toks:=tk }:=by
 refine wpAny_pyIter_range (IsRange.new ..) (small_one h1 h2 h3 h4) ?_
 have I1 : Inv X pins σ H { s with heap:=s.heap.push { cls:=.type "range",data:=.fields #[.int lo t,.int hi u,.int 1 v] },toks:=tk }:=I.kept fun b o e=>Heap.get?_push_of_some _ e
 refine ⟨(s.heap.push { cls:=.type "range",data:=.fields #[.int lo t,.int hi u,.int 1 v] }).objs.size,[(s.heap.push { cls:=.type "range",data:=.fields #[.int lo t,.int hi u,.int 1 v] }).objs.size],_,_,H,rfl,
  I1.kept (t':=tk) fun b o e=>Heap.get?_push_of_some _ e,Jte _ lo (hi - lo).toNat,?_,fun b hb=>?_,q⟩
 ·have e1 : lo + ((0 : Nat) : Int) * 1 = lo:=by simp
  have e2 : (((hi - lo).toNat : Nat) : Int) - ((0 : Nat) : Int) = Builtin.Range.rangeSize lo hi 1:=by rw [rangeSize_one]; split <;> omega
  show IsRangeIter _ _ (lo + ((0 : Nat) : Int) * 1) ((((hi - lo).toNat : Nat) : Int) - ((0 : Nat) : Int)) 1
  rw [e1,e2]
  exact Heap.get?_push_size _ rfl
 ·have e : b = (s.heap.push { cls:=.type "range",data:=.fields #[.int lo t,.int hi u,.int 1 v] }).objs.size:=by simpa using hb
  subst e
  exact I1.fpOk (Nat.le_refl _) (I1.hok.fresh (Nat.le_refl _))
def iRng1 (ta : TA) : TI:=fun σ H R=>ta σ H fun vs H1=>∃ j : Int,vs = [.int j] ∧ -(2 ^ 62) ≤ j ∧ j < 2 ^ 62 ∧ R (Itr 0 j.toNat) H1
def iRng2 (ta : TA) : TI:=fun σ H R=>ta σ H fun vs H1=>∃ i j : Int,vs = [.int i,.int j] ∧ (-(2 ^ 62) ≤ i ∧ i < 2 ^ 62 ∧ -(2 ^ 62) ≤ j ∧ j < 2 ^ 62) ∧ R (Itr i (j - i).toNat) H1
theorem Jl8 {a : Expr} {ta : TA} {p pos : Pos} (hg : Gl X "range") (hm : X.mg "range" = none) (ha : PA X [a] ta) (hs : starEach [a] X.env = [(false,eval a X.env)]:=by rfl) : PI X tg (.Call (.Name "range" p) [a] [] pos) (iRng1 ta):=by
 intro pins s σ H R I h
 refine Call_ (Jlx I hg hm boot_range (PyProof.Rows.callWith_type1 (thn (ha pos pins s σ H _ I h) fun us s1 ⟨vs,H1,I1,r1,q1⟩=>?_) hs rfl))
 obtain ⟨j,e,q1,q2,q⟩:=q1
 subst e
 cases r1 with
 | cons r rr =>
  cases rr
  obtain ⟨t,rfl⟩:=r
  exact call_range_1 (Js9 I1 (by omega) (by omega) q1 q2 (by simpa using q))
theorem Jus {a b : Expr} {ta : TA} {p pos : Pos} (hg : Gl X "range") (hm : X.mg "range" = none) (ha : PA X [a,b] ta) (hs : starEach [a,b] X.env = [(false,eval a X.env),(false,eval b X.env)]:=by rfl) (hs2 : starEach [b] X.env = [(false,eval b X.env)]:=by rfl) :
  PI X tg (.Call (.Name "range" p) [a,b] [] pos) (iRng2 ta):=by
 intro pins s σ H R I h
 refine Call_ (Jlx I hg hm boot_range (PyProof.Rows.callWith_type1 (thn (ha pos pins s σ H _ I h) fun us s1 ⟨vs,H1,I1,r1,q1⟩=>?_) (by rw [hs,hs2]) (by rw [hs2]; rfl)))
 obtain ⟨i,j,e,⟨q1,q2,q3,q4⟩,q⟩:=q1
 subst e
 cases r1 with
 | cons r rr =>
  cases rr with
  | cons r' rr =>
   cases rr
   obtain ⟨t,rfl⟩:=r
   obtain ⟨t', rfl⟩:=r'
   exact call_range_2 (Js9 I1 q1 q2 q3 q4 q)
def tFor (wi : TI) (g : TG) (tb : TS) : TS:=fun D σ H=>wi σ H fun J H1=>∃ W : Nat → Nat → St → Hp → Prop,(∃ m,W 0 m σ H1) ∧ ∀ i m σ H,W i m σ H →
 (J.stop i H ∧ D.nx σ H) ∨ (J.go i H ∧ ∃ N : St → Hp → Prop,(∀ σ' H', N σ' H' → ∃ m', m' < m ∧ W (i + 1) m' σ' H') ∧ ∀ x H', J.yld i H x H' → g x σ H' fun σ2 H2=>tb { D with nx:=N,ct:=N,bk:=D.nx } σ2 H2)
def Jpe (fp : List Addr) (h : Heap) : List (Addr × Obj):=fp.filterMap fun b=>(h.get? b).map fun o=>(b,o)
theorem Jlg {fp : List Addr} {h : Heap} {b : Addr} {o : Obj} (hb : b ∈ fp) (e : h.get? b = some o) : (b,o) ∈ Jpe fp h:=List.mem_filterMap.mpr ⟨b,hb,by rw [e]; rfl⟩
theorem Jun {fp : List Addr} {h : Heap} {p : Addr × Obj} (hp : p ∈ Jpe fp h) : p.1 ∈ fp ∧ h.get? p.1 = some p.2:=by
 obtain ⟨b,hb,e⟩:=List.mem_filterMap.mp hp
 cases q : h.get? b with
 | none=>rw [q] at e; cases e
 | some o =>
  rw [q] at e
  have e' : (b,o) = p:=Option.some.inj e
  subst e'
  exact ⟨hb,q⟩
theorem Inv.pinned {pins : List (Addr × Obj)} {σ : St} {H : Hp} {s : Shared} {fp : List Addr} (I : Inv X pins σ H s) (hf : ∀ b ∈ fp,Jnl X pins H b) (ho : ∀ b ∈ fp,∃ o,s.heap.get? b = some o ∧ ∀ v,o.data ≠ .cell v) : Inv X (pins ++ Jpe fp s.heap) σ H s :=
 I.pins_of fun p hp=>(List.mem_append.mp hp).elim (fun z=>I.pin p (List.mem_append_right _ z)) fun z=>by
  obtain ⟨hb,e⟩:=Jun z
  obtain ⟨f0,f1,f2,_⟩:=hf p.1 hb
  obtain ⟨o,e', d⟩:=ho p.1 hb
  rw [e] at e'; cases e'
  exact ⟨e,f0,f1,f2,d⟩
theorem Inv.unpinned {pins pl : List (Addr × Obj)} {σ : St} {H : Hp} {s : Shared} (I : Inv X (pins ++ pl) σ H s) : Inv X pins σ H s:=I.pins_of fun p hp=>I.pin p (List.mem_append_right _ (List.mem_append_left _ hp))
theorem Jkl {iter : Expr} {body : List Stmt} {wi : TI} {g : TG} {tb : TS} {pos : Pos} (hp : PassesOwn (model X.prog X.w) X.A X.env X.xe) (hc : X.calm = true) (hi : PI X tg iter wi) (hg : PG X tg g) (hb : PSs X body tb)
  (hs : ∀ x,foldedSetIterable iter X.env x = pure x:=by intro _; rfl) : PS X (.For tg iter body [] pos) (tFor wi g tb):=by
 intro pins s σ H D I h
 refine wpAny_For (thn (hi pins s σ H _ I h) fun v s1 h1=>thn h1 fun itv s2 h2=>?_) hs
 obtain ⟨it,fp,tn,J,H2,e,I2,T,st2,f2,W,⟨m0,w0⟩,turn⟩:=h2
 subst e
 have stat : ∀ {H' : Hp},(∀ b ∈ fp,H' b = none) → ∀ b ∈ fp,Jnl X pins H' b:=fun hn b hb=>⟨hn b hb,(f2 b hb).2⟩
 refine codeAny_forLoop_any (fun n s'=>∃ i σ' H', Inv X pins σ' H' s' ∧ tn i s'.heap ∧ (∀ b ∈ fp,H' b = none) ∧ W i n σ' H') ?_ m0 ⟨0,σ,H2,I2,st2,fun b hb=>(f2 b hb).1,w0⟩
 rintro n s3 ⟨i,σ3,H3,I3,st3,fr3,w3⟩
 rcases turn i n σ3 H3 w3 with ⟨stop,qn⟩ | ⟨go,N,hN,step⟩
 ·refine wpAny_passesOwn hp (thn (T.done X rfl rfl rfl hc i pins s3 σ3 H3 X.xe I3 (stat fr3) st3 stop) fun r s4 ⟨hr,I4⟩=>?_)
  subst hr
  exact wpAny_execs_nil ⟨σ3,H3,I4,qn⟩
 ·refine wpAny_passesOwn hp (thn (T.item X rfl rfl rfl hc i pins s3 σ3 H3 X.xe I3 (stat fr3) st3 go) fun r s4 ⟨u,hr,h4⟩=>?_)
  subst hr
  refine wpAny_passesOwn hp (thn h4 fun _ s5 ⟨x,H5,I5,r5,y5,st5,fr5⟩=>?_)
  have I5':=I5.pinned (stat fr5) (T.obj _ _ st5)
  refine wpAny_passesOwn hp (thn (hg _ s5 σ3 H5 x u _ I5' r5 (step x H5 y5)) fun _ s6 ⟨σ6,H6,I6,q6⟩=>?_)
  refine wpAny_passesOwn hp (thn (hb _ s6 σ6 H6 _ I6 q6) fun f s7 q7=>?_)
  have again : ∀ {σ7 : St} {H7 : Hp},Inv X (pins ++ Jpe fp s5.heap) σ7 H7 s7 → N σ7 H7 → ∃ m,m < n ∧ ∃ i σ' H', Inv X pins σ' H' s7 ∧ tn i s7.heap ∧ (∀ b ∈ fp,H' b = none) ∧ W i m σ' H':=fun {σ7 H7} I7 n7=>by
   obtain ⟨m', hm,w7⟩:=hN σ7 H7 n7
   refine ⟨m', hm,i + 1,σ7,H7,I7.unpinned,T.keep _ _ _ st5 fun b hb o e=>(I7.pin (b,o) (List.mem_append_right _ (List.mem_append_right _ (Jlg hb e)))).1,fun b hb=>?_,w7⟩
   obtain ⟨o,e,d⟩:=T.obj _ _ st5 b hb
   exact (I7.pin (b,o) (List.mem_append_right _ (List.mem_append_right _ (Jlg hb e)))).2.1
  cases f with
  | next=>obtain ⟨σ7,H7,I7,n7⟩:=q7; exact again I7 n7
  | cont=>obtain ⟨σ7,H7,I7,n7⟩:=q7; exact again I7 n7
  | brk=>obtain ⟨σ7,H7,I7,q7⟩:=q7; exact ⟨σ7,H7,I7.unpinned,q7⟩
  | ret v=>obtain ⟨x7,σ7,H7,I7,r7,q7⟩:=q7; exact ⟨x7,σ7,H7,I7.unpinned,r7,q7⟩
end
theorem Jlw {K : PySem.W.Frag} {a : Addr} {xs : List V} {g : TG} {tb : TS} {D : Ends} {σ : St} {H : Hp} (Pv : Nat → St → Hp → Prop) (h0 : Pv 0 σ H) (hl : ∀ i σ H,i ≤ xs.length → Pv i σ H → SqL K H a xs)
  (hs : ∀ i x σ H,xs[i]? = some x → Pv i σ H → g x σ H fun σ2 H2=>tb { D with nx:=Pv (i + 1),ct:=Pv (i + 1),bk:=D.nx } σ2 H2) (hd : ∀ σ H,Pv xs.length σ H → D.nx σ H) :
  ∃ W : Nat → Nat → St → Hp → Prop,(∃ m,W 0 m σ H) ∧ ∀ i m σ H,W i m σ H →
   ((Itl K a).stop i H ∧ D.nx σ H) ∨ ((Itl K a).go i H ∧ ∃ N : St → Hp → Prop,(∀ σ' H', N σ' H' → ∃ m', m' < m ∧ W (i + 1) m' σ' H') ∧ ∀ x H', (Itl K a).yld i H x H' → g x σ H' fun σ2 H2=>tb { D with nx:=N,ct:=N,bk:=D.nx } σ2 H2):=by
 refine ⟨fun i m σ H=>m = xs.length - i ∧ i ≤ xs.length ∧ Pv i σ H,⟨xs.length,by simp,Nat.zero_le _,h0⟩,?_⟩
 rintro i m σ H ⟨rfl,hi,p⟩
 have q:=hl i σ H hi p
 by_cases hlt : i < xs.length
 ·refine .inr ⟨⟨xs,xs[i],q,by simp [hlt]⟩,Pv (i + 1),fun σ' H' p'=>⟨xs.length - (i + 1),by omega,rfl,hlt,p'⟩,fun x H' y=>?_⟩
  obtain ⟨e,y⟩:=y
  subst e
  exact hs i x σ _ (y xs q) p
 ·have e : i = xs.length:=by omega
  subst e
  exact .inl ⟨⟨xs,q,Nat.le_refl _⟩,hd σ H p⟩
theorem Jxa {K : PySem.W.Frag} {a : Addr} {xs : List V} {g : TG} {tb : TS} {D : Ends} {σ : St} {H : Hp} (Pv : Nat → St → Hp → Prop) (h0 : Pv 0 σ H) (hl : ∀ i σ H,i ≤ xs.length → Pv i σ H → SqT K H a xs)
  (hs : ∀ i x σ H,xs[i]? = some x → Pv i σ H → g x σ H fun σ2 H2=>tb { D with nx:=Pv (i + 1),ct:=Pv (i + 1),bk:=D.nx } σ2 H2) (hd : ∀ σ H,Pv xs.length σ H → D.nx σ H) :
  ∃ W : Nat → Nat → St → Hp → Prop,(∃ m,W 0 m σ H) ∧ ∀ i m σ H,W i m σ H →
   ((Itt K a).stop i H ∧ D.nx σ H) ∨ ((Itt K a).go i H ∧ ∃ N : St → Hp → Prop,(∀ σ' H', N σ' H' → ∃ m', m' < m ∧ W (i + 1) m' σ' H') ∧ ∀ x H', (Itt K a).yld i H x H' → g x σ H' fun σ2 H2=>tb { D with nx:=N,ct:=N,bk:=D.nx } σ2 H2):=by
 refine ⟨fun i m σ H=>m = xs.length - i ∧ i ≤ xs.length ∧ Pv i σ H,⟨xs.length,by simp,Nat.zero_le _,h0⟩,?_⟩
 rintro i m σ H ⟨rfl,hi,p⟩
 have q:=hl i σ H hi p
 by_cases hlt : i < xs.length
 ·refine .inr ⟨⟨xs,xs[i],q,by simp [hlt]⟩,Pv (i + 1),fun σ' H' p'=>⟨xs.length - (i + 1),by omega,rfl,hlt,p'⟩,fun x H' y=>?_⟩
  obtain ⟨e,y⟩:=y
  subst e
  exact hs i x σ _ (y xs q) p
 ·have e : i = xs.length:=by omega
  subst e
  exact .inl ⟨⟨xs,q,Nat.le_refl _⟩,hd σ H p⟩
theorem Jns {lo : Int} {n : Nat} {g : TG} {tb : TS} {D : Ends} {σ : St} {H : Hp} (Pv : Nat → St → Hp → Prop) (h0 : Pv 0 σ H)
  (hs : ∀ i σ H,i < n → Pv i σ H → g (.int (lo + i)) σ H fun σ2 H2=>tb { D with nx:=Pv (i + 1),ct:=Pv (i + 1),bk:=D.nx } σ2 H2) (hd : ∀ σ H,Pv n σ H → D.nx σ H) :
  ∃ W : Nat → Nat → St → Hp → Prop,(∃ m,W 0 m σ H) ∧ ∀ i m σ H,W i m σ H →
   ((Itr lo n).stop i H ∧ D.nx σ H) ∨ ((Itr lo n).go i H ∧ ∃ N : St → Hp → Prop,(∀ σ' H', N σ' H' → ∃ m', m' < m ∧ W (i + 1) m' σ' H') ∧ ∀ x H', (Itr lo n).yld i H x H' → g x σ H' fun σ2 H2=>tb { D with nx:=N,ct:=N,bk:=D.nx } σ2 H2):=by
 refine ⟨fun i m σ H=>m = n - i ∧ i ≤ n ∧ Pv i σ H,⟨n,by simp,Nat.zero_le _,h0⟩,?_⟩
 rintro i m σ H ⟨rfl,hi,p⟩
 by_cases hlt : i < n
 ·refine .inr ⟨hlt,Pv (i + 1),fun σ' H' p'=>⟨n - (i + 1),by omega,rfl,hlt,p'⟩,fun x H' y=>?_⟩
  obtain ⟨e,y⟩:=y
  subst e y
  exact hs i σ _ hlt p
 ·have e : i = n:=by omega
  subst e
  exact .inl ⟨Nat.le_refl _,hd σ H p⟩
end L2
namespace L2
open PySem PySem.Spec PyProof.Rows
abbrev R2:=V → V → Hp → VK → Prop
def OpR (X : Cx) (f : Value → Value → Sem Value) (r : R2) : Prop :=
 ∀ (pins : List (Addr × Obj)) (s : Shared) (σ : St) (H : Hp) (x y : V) (v u : Value) (Q : VK),Inv X pins σ H s → RelV x v → RelV y u → r x y H Q →
  wpAny (model X.prog X.w) X.A (f v u) (EP X pins σ Q) X.xe s
def Jkd (X : Cx) (f : Value) (r : List V → Hp → VK → Prop) : Prop :=
 ∀ (pins : List (Addr × Obj)) (s : Shared) (σ : St) (H : Hp) (xs : List V) (us : List Value) (Q : VK),Inv X pins σ H s → Vals xs us → r xs H Q →
  wpAny (model X.prog X.w) X.A (call f us) (EP X pins σ Q) X.xe s
def tOp (r : R2) (ta tb : TE) : TE:=fun σ H Q=>ta σ H fun x H1=>tb σ H1 fun y H2=>r x y H2 Q
def rI (C : Int → Int → Prop) (g : Int → Int → V) : R2:=fun x y H Q=>∃ i j,x = .int i ∧ y = .int j ∧ C i j ∧ Q (g i j) H
def rI0 (g : Int → Int → V) : R2:=fun x y H Q=>∃ i j,x = .int i ∧ y = .int j ∧ Q (g i j) H
section
variable {X : Cx} {a b c : Expr} {ta tb tc : TE} {pos : Pos}
theorem binT (ha : PE X a ta) (hb : PE X b tb) {pins : List (Addr × Obj)} {s : Shared} {σ : St} {H : Hp} {R : V → V → Hp → Prop} (I : Inv X pins σ H s)
  (h : ta σ H fun x H1=>tb σ H1 fun y H2=>R x y H2) {Q : Value → Shared → Prop} {f : Value → Value → Sem Value}
  (hf : ∀ v u s2 x y H2,Inv X pins σ H2 s2 → RelV x v → RelV y u → R x y H2 → wpAny (model X.prog X.w) X.A (f v u) Q X.xe s2) :
  wpAny (model X.prog X.w) X.A (eval a X.env) (fun v s₁=>wpAny (model X.prog X.w) X.A (eval b X.env) (fun u s₂=>wpAny (model X.prog X.w) X.A (f v u) Q X.xe s₂) X.xe s₁) X.xe s:=by
 refine thn (ha pins s σ H _ I h) fun v s1 ⟨x,H1,I1,r1,q1⟩=>?_
 refine thn (hb pins s1 σ H1 _ I1 q1) fun u s2 ⟨y,H2,I2,r2,q2⟩=>?_
 exact hf v u s2 x y H2 I2 r1 r2 q2
theorem Jij {op : Operator} {r : R2} (ho : OpR X (binaryOp op) r) (ha : PE X a ta) (hb : PE X b tb) : PE X (.BinOp a op b pos) (tOp r ta tb):=by
 intro pins s σ H Q I h
 exact wpAny_BinOp (binT ha hb I h fun v u s2 x y H2 I2 rx ry q=>ho pins s2 σ H2 x y v u Q I2 rx ry q)
theorem opI {f : Value → Value → Sem Value} {C : Int → Int → Prop} {g : Int → Int → Int}
  (rule : ∀ (i j : Int) (t u : Tok) (s : Shared) (Q : Value → Shared → Prop) (E : Value → Shared → Prop),C i j → Q (.int (g i j) s.toks) { s with toks:=s.toks + 1 } → wpAny (model X.prog X.w) X.A (f (.int i t) (.int j u)) Q E s) :
  OpR X f (rI C fun i j=>.int (g i j)):=by
 intro pins s σ H x y v u Q I rx ry h
 obtain ⟨i,j,rfl,rfl,hc,q⟩:=h
 obtain ⟨t,rfl⟩:=rx
 obtain ⟨t', rfl⟩:=ry
 exact rule i j t t' s _ _ hc ⟨.int (g i j),H,I.tok _,⟨_,rfl⟩,q⟩
theorem opI0 {f : Value → Value → Sem Value} {g : Int → Int → Int}
  (rule : ∀ (i j : Int) (t u : Tok) (s : Shared) (Q : Value → Shared → Prop) (E : Value → Shared → Prop),Q (.int (g i j) s.toks) { s with toks:=s.toks + 1 } → wpAny (model X.prog X.w) X.A (f (.int i t) (.int j u)) Q E s) :
  OpR X f (rI0 fun i j=>.int (g i j)):=by
 intro pins s σ H x y v u Q I rx ry h
 obtain ⟨i,j,rfl,rfl,q⟩:=h
 obtain ⟨t,rfl⟩:=rx
 obtain ⟨t', rfl⟩:=ry
 exact rule i j t t' s _ _ ⟨.int (g i j),H,I.tok _,⟨_,rfl⟩,q⟩
theorem opB0 {f : Value → Value → Sem Value} {g : Int → Int → Bool}
  (rule : ∀ (i j : Int) (t u : Tok) (s : Shared) (Q : Value → Shared → Prop) (E : Value → Shared → Prop),Q (.bool (g i j)) s → wpAny (model X.prog X.w) X.A (f (.int i t) (.int j u)) Q E s) :
  OpR X f (rI0 fun i j=>.bl (g i j)):=by
 intro pins s σ H x y v u Q I rx ry h
 obtain ⟨i,j,rfl,rfl,q⟩:=h
 obtain ⟨t,rfl⟩:=rx
 obtain ⟨t', rfl⟩:=ry
 exact rule i j t t' s _ _ ⟨.bl (g i j),H,I,rfl,q⟩
def CPow (i j : Int) : Prop:=0 ≤ j ∧ j ≤ 1000000 ∧ i.natAbs < 2 ^ 64
def CMul (i j : Int) : Prop:=(-(2 ^ 64) < i ∧ i < 2 ^ 64) ∨ (-(2 ^ 64) < j ∧ j < 2 ^ 64)
theorem CMul.ok {i j : Int} (h : CMul i j) : IntMulOk i j:=by
 rcases h with ⟨h1,h2⟩ | ⟨h1,h2⟩
 ·exact .of_left (intBits_le_64 h1 h2)
 ·exact .of_right (intBits_le_64 h1 h2)
theorem Jj1 : OpR X (binaryOp .Add) (rI0 fun i j=>.int (i + j)):=opI0 fun _ _ _ _ _ _ _ q=>add_int q
theorem Jjt : OpR X (binaryOp .Sub) (rI0 fun i j=>.int (i - j)):=opI0 fun _ _ _ _ _ _ _ q=>sub_int q
theorem Jm7 : OpR X (binaryOp .Mult) (rI CMul fun i j=>.int (i * j)):=opI fun _ _ _ _ _ _ _ hc q=>mul_int q hc.ok
theorem Jm6 : OpR X (binaryOp .Mod) (rI (fun _ j=>0 < j) fun i j=>.int (i % j)):=opI fun i j _ _ _ _ _ hc q=>by
 have h1 : (0 : Int) < j:=hc
 exact mod_int' (by omega) (by rw [Int.fmod_eq_emod_of_nonneg i (by omega)]; exact q)
theorem Jvy : OpR X (binaryOp .Pow) (rI CPow fun i j=>.int (i ^ j.toNat)):=opI fun _ _ _ _ _ _ _ hc q=>pow_int_small hc.1 hc.2.1 hc.2.2 q
end
def scal : V → V → Bool
 | .non,.non=>true | .non,.int _=>true | .int _,.non=>true | .non,.bl _=>true | .bl _,.non=>true | .non,.str _=>true | .str _,.non=>true
 | .int _,.int _=>true | .bl _,.bl _=>true | .str _,.str _=>true | .byt _,.byt _=>true
 | .int _,.str _=>true | .str _,.int _=>true | .bl _,.str _=>true | .str _,.bl _=>true
 | _,_=>false
def rEq : R2:=fun x y H Q=>scal x y = true ∧ Q (.bl (decide (x = y))) H
def rNe : R2:=fun x y H Q=>scal x y = true ∧ Q (.bl (!decide (x = y))) H
theorem Jtm {i j : Int} : decide (V.int i = V.int j) = (i == j):=by
 rw [Bool.eq_iff_iff]
 simp
theorem Jvg {i j : Bool} : decide (V.bl i = V.bl j) = (i == j):=by
 rw [Bool.eq_iff_iff]
 simp
theorem Jtn {i j : Str} : decide (V.str i = V.str j) = (i == j):=by
 rw [Bool.eq_iff_iff]
 simp
theorem Jtl {i j : Array UInt8} : decide (V.byt i = V.byt j) = (i.toList == j.toList):=by
 rw [Bool.eq_iff_iff]
 cases i
 cases j
 simp
section
variable {X : Cx} {a b c : Expr} {ta tb tc : TE} {pos : Pos}
theorem Jir {pins : List (Addr × Obj)} {σ : St} {H : Hp} {s : Shared} {Q : VK} {k k' : Bool} (I : Inv X pins σ H s) (q : Q (.bl k) H) (e : k = k') : EP X pins σ Q (.bool k') s:=by
 subst e
 exact ⟨.bl k,H,I,rfl,q⟩
theorem Jmv : OpR X (compareOp .Eq) rEq:=by
 intro pins s σ H x y v u Q I rx ry h
 obtain ⟨hs,q⟩:=h
 cases x with
 | non =>
  cases rx
  cases y with
  | non=>cases ry; exact PySem.EqNone.eq_none_none (Jir I q (by simp))
  | bl j=>cases ry; exact PySem.EqNone.eq_none_bool (Jir I q (by simp))
  | int j=>obtain ⟨t', rfl⟩:=ry; exact PySem.EqNone.eq_none_int (Jir I q (by simp))
  | str j=>obtain ⟨t', rfl⟩:=ry; exact PySem.EqNone.eq_none_str (Jir I q (by simp))
  | _=>exact absurd (show false = true from hs) Bool.false_ne_true
 | bl i =>
  cases rx
  cases y with
  | non=>cases ry; exact PySem.EqNone.eq_bool_none (Jir I q (by simp))
  | bl j=>cases ry; exact eq_bool (Jir I q Jvg)
  | str j=>obtain ⟨t', rfl⟩:=ry; exact PySem.EqMixed.eq_bool_str (Jir I q (by simp))
  | _=>exact absurd (show false = true from hs) Bool.false_ne_true
 | int i =>
  obtain ⟨t,rfl⟩:=rx
  cases y with
  | non=>cases ry; exact PySem.EqNone.eq_int_none (Jir I q (by simp))
  | int j=>obtain ⟨t', rfl⟩:=ry; exact eq_int (Jir I q Jtm)
  | str j=>obtain ⟨t', rfl⟩:=ry; exact PySem.EqMixed.eq_int_str (Jir I q (by simp))
  | _=>exact absurd (show false = true from hs) Bool.false_ne_true
 | str i =>
  obtain ⟨t,rfl⟩:=rx
  cases y with
  | non=>cases ry; exact PySem.EqNone.eq_str_none (Jir I q (by simp))
  | bl j=>cases ry; exact PySem.EqMixed.eq_str_bool (Jir I q (by simp))
  | int j=>obtain ⟨t', rfl⟩:=ry; exact PySem.EqMixed.eq_str_int (Jir I q (by simp))
  | str j=>obtain ⟨t', rfl⟩:=ry; exact eq_str (Jir I q Jtn)
  | _=>exact absurd (show false = true from hs) Bool.false_ne_true
 | byt i =>
  obtain ⟨t,rfl⟩:=rx
  cases y with
  | byt j=>obtain ⟨t', rfl⟩:=ry; exact PySem.W.eq_bytes (Jir I q Jtl)
  | _=>exact absurd (show false = true from hs) Bool.false_ne_true
 | _=>cases y <;> exact absurd (show false = true from hs) Bool.false_ne_true
theorem Jvw : OpR X (compareOp .NotEq) rNe:=by
 intro pins s σ H x y v u Q I rx ry h
 obtain ⟨hs,q⟩:=h
 cases x with
 | non =>
  cases rx
  cases y with
  | non=>cases ry; exact PySem.EqNone.ne_none_none (Jir I q (by simp))
  | bl j=>cases ry; exact PySem.EqNone.ne_none_bool (Jir I q (by simp))
  | int j=>obtain ⟨t', rfl⟩:=ry; exact PySem.EqNone.ne_none_int (Jir I q (by simp))
  | str j=>obtain ⟨t', rfl⟩:=ry; exact PySem.EqNone.ne_none_str (Jir I q (by simp))
  | _=>exact absurd (show false = true from hs) Bool.false_ne_true
 | bl i =>
  cases rx
  cases y with
  | non=>cases ry; exact PySem.EqNone.ne_bool_none (Jir I q (by simp))
  | bl j=>cases ry; exact ne_bool (Jir I q (congrArg not Jvg))
  | str j=>obtain ⟨t', rfl⟩:=ry; exact PySem.EqMixed.ne_bool_str (Jir I q (by simp))
  | _=>exact absurd (show false = true from hs) Bool.false_ne_true
 | int i =>
  obtain ⟨t,rfl⟩:=rx
  cases y with
  | non=>cases ry; exact PySem.EqNone.ne_int_none (Jir I q (by simp))
  | int j=>obtain ⟨t', rfl⟩:=ry; exact ne_int (Jir I q (congrArg not Jtm))
  | str j=>obtain ⟨t', rfl⟩:=ry; exact PySem.EqMixed.ne_int_str (Jir I q (by simp))
  | _=>exact absurd (show false = true from hs) Bool.false_ne_true
 | str i =>
  obtain ⟨t,rfl⟩:=rx
  cases y with
  | non=>cases ry; exact PySem.EqNone.ne_str_none (Jir I q (by simp))
  | bl j=>cases ry; exact PySem.EqMixed.ne_str_bool (Jir I q (by simp))
  | int j=>obtain ⟨t', rfl⟩:=ry; exact PySem.EqMixed.ne_str_int (Jir I q (by simp))
  | str j=>obtain ⟨t', rfl⟩:=ry; exact ne_str (Jir I q (congrArg not Jtn))
  | _=>exact absurd (show false = true from hs) Bool.false_ne_true
 | byt i =>
  obtain ⟨t,rfl⟩:=rx
  cases y with
  | byt j=>obtain ⟨t', rfl⟩:=ry; exact PySem.W.ne_bytes (Jir I q (congrArg not Jtl))
  | _=>exact absurd (show false = true from hs) Bool.false_ne_true
 | _=>cases y <;> exact absurd (show false = true from hs) Bool.false_ne_true
theorem Jvv : OpR X (compareOp .Lt) (rI0 fun i j=>.bl (decide (i < j))):=opB0 fun _ _ _ _ _ _ _ q=>lt_int q
theorem Jmw : OpR X (compareOp .LtE) (rI0 fun i j=>.bl (decide (i ≤ j))):=opB0 fun _ _ _ _ _ _ _ q=>le_int q
theorem op_gt : OpR X (compareOp .Gt) (rI0 fun i j=>.bl (decide (j < i))):=opB0 fun _ _ _ _ _ _ _ q=>gt_int q
theorem Juq : OpR X (compareOp .In) (fun x y H Q=>∃ i j,x = .str i ∧ y = .str j ∧ Q (.bl (!(Builtin.Str.occurrences j i 0 j.length 1).isEmpty)) H):=by
 intro pins s σ H x y v u Q I rx ry h
 obtain ⟨i,j,rfl,rfl,q⟩:=h
 obtain ⟨t,rfl⟩:=rx
 obtain ⟨t', rfl⟩:=ry
 exact in_str (Jir I q rfl)
theorem Jvu : OpR X (compareOp .Is) (fun x y H Q=>y = .non ∧ Q (.bl (decide (x = .non))) H):=by
 intro pins s σ H x y v u Q I rx ry h
 obtain ⟨rfl,q⟩:=h
 cases ry
 refine is_none_gen (Jir I q ?_)
 cases x <;> first
  | (cases rx; rfl)
  | (obtain ⟨t,rfl⟩:=rx; rfl)
theorem Jtx : OpR X (compareOp .IsNot) (fun x y H Q=>y = .non ∧ Q (.bl (!decide (x = .non))) H):=by
 intro pins s σ H x y v u Q I rx ry h
 obtain ⟨rfl,q⟩:=h
 cases ry
 refine isnot_none_gen (Jir I q ?_)
 cases x <;> first
  | (cases rx; rfl)
  | (obtain ⟨t,rfl⟩:=rx; rfl)
theorem Jj7 (b : Expr) {op : CmpOp} (h : op ≠ .In:=by decide) (h2 : op ≠ .NotIn:=by decide) : behindInMarks op b = false:=by
 have e1 : (op == CmpOp.In) = false:=by cases op <;> first | rfl | exact absurd rfl h
 have e2 : (op == CmpOp.NotIn) = false:=by cases op <;> first | rfl | exact absurd rfl h2
 cases b <;> simp [behindInMarks,e1,e2]
theorem Jki {op : CmpOp} {r : R2} (ho : OpR X (compareOp op) r) (ha : PE X a ta) (hb : PE X b tb) (hm : behindInMarks op b = false) : PE X (.Compare a [op] [b] pos) (tOp r ta tb):=by
 intro pins s σ H Q I h
 exact wpAny_Compare1 (binT ha hb I h fun v u s2 x y H2 I2 rx ry q=>ho pins s2 σ H2 x y v u Q I2 rx ry q) hm
def tTest (t : TE) : TT:=fun σ H Q=>t σ H fun x H'=>∃ k,x = .bl k ∧ Q k H'
theorem Jji {op : CmpOp} {r : R2} (ho : OpR X (compareOp op) r) (ha : PE X a ta) (hb : PE X b tb) (hm : behindInMarks op b = false) : PT X (.Compare a [op] [b] pos) (tTest (tOp r ta tb)):=by
 intro pins s σ H Q I h
 refine wpAny_isTrue_Compare1 (thn (ha pins s σ H _ I h) fun v s1 ⟨x,H1,I1,r1,q1⟩=>thn (hb pins s1 σ H1 _ I1 q1) fun u s2 ⟨y,H2,I2,r2,q2⟩ =>
  thn (ho pins s2 σ H2 x y v u _ I2 r1 r2 q2) fun c s3 ⟨z,H3,I3,r3,k,e,q3⟩=>?_) hm
 subst e
 cases r3
 exact wpAny_truthy_bool ⟨H3,I3,q3⟩
def Jwn (r r' : R2) (ta tb tc : TE) : TE:=fun σ H Q=>ta σ H fun x H1=>tb σ H1 fun y H2=>r x y H2 fun z H3=>∃ k,z = .bl k ∧
 (if k = true then tc σ H3 fun w' H4=>r' y w' H4 Q else Q (.bl false) H3)
theorem Jpb {op op' : CmpOp} {r r' : R2} (ho : OpR X (compareOp op) r) (ho' : OpR X (compareOp op') r') (ha : PE X a ta) (hb : PE X b tb) (hc : PE X c tc)
  (hm : lastMarks [op,op'] [b,c] = false:=by with_unfolding_all rfl) : PE X (.Compare a [op,op'] [b,c] pos) (Jwn r r' ta tb tc):=by
 intro pins s σ H Q I h
 refine Compare_chain (thn (ha pins s σ H _ I h) fun v s1 ⟨x,H1,I1,r1,q1⟩=>chain_link (thn (hb pins s1 σ H1 _ I1 q1) fun u s2 ⟨y,H2,I2,r2,q2⟩ =>
  thn (ho pins s2 σ H2 x y v u _ I2 r1 r2 q2) fun d s3 ⟨z,H3,I3,r3,k,e,q3⟩=>?_)) hm
 subst e
 cases r3
 refine wpAny_truthy_bool ?_
 cases k with
 | false=>exact ite_ff ⟨.bl false,H3,I3,rfl,q3⟩
 | true=>exact ite_tt (chain_last (thn (hc pins s3 σ H3 _ I3 q3) fun w' s4 ⟨z', H4,I4,r4,q4⟩=>ho' pins s4 σ H4 y z' u w' Q I4 r2 r4 q4))
theorem Js7 {op op' : CmpOp} {r r' : R2} (ho : OpR X (compareOp op) r) (ho' : OpR X (compareOp op') r') (ha : PE X a ta) (hb : PE X b tb) (hc : PE X c tc)
  (hm : lastMarks [op,op'] [b,c] = false:=by with_unfolding_all rfl) : PT X (.Compare a [op,op'] [b,c] pos) (tTest (Jwn r r' ta tb tc)):=by
 intro pins s σ H Q I h
 refine isTrue_chain (thn (ha pins s σ H _ I h) fun v s1 ⟨x,H1,I1,r1,q1⟩=>test_link (thn (hb pins s1 σ H1 _ I1 q1) fun u s2 ⟨y,H2,I2,r2,q2⟩ =>
  thn (ho pins s2 σ H2 x y v u _ I2 r1 r2 q2) fun d s3 ⟨z,H3,I3,r3,k,e,q3⟩=>?_)) hm
 subst e
 cases r3
 refine wpAny_truthy_bool ?_
 cases k with
 | false =>
  obtain ⟨k', e', q'⟩:=q3
  cases e'
  exact ite_ff ⟨H3,I3,q'⟩
 | true =>
  refine ite_tt (test_last (thn (hc pins s3 σ H3 _ I3 q3) fun w' s4 ⟨z', H4,I4,r4,q4⟩=>thn (ho' pins s4 σ H4 y z' u w' _ I4 r2 r4 q4) fun d' s5 ⟨z2,H5,I5,r5,k2,e2,q5⟩=>?_))
  subst e2
  cases r5
  exact wpAny_truthy_bool ⟨H5,I5,q5⟩
theorem Jnu : (sizeLine : Nat) < 2 ^ 63:=by rw [sizeLine_eq]; decide
theorem Jt1 : OpR X (binaryOp .Add) (fun x y H Q=>∃ i j,x = .str i ∧ y = .str j ∧ i.length + j.length ≤ sizeLine ∧ Q (.str (i ++ j)) H):=by
 intro pins s σ H x y v u Q I rx ry h
 obtain ⟨i,j,rfl,rfl,hz,q⟩:=h
 obtain ⟨t,rfl⟩:=rx
 obtain ⟨t', rfl⟩:=ry
 exact add_str (fun t' tk=>⟨.str (i ++ j),H,I.tok _,⟨_,rfl⟩,q⟩) hz
theorem Jlo {x : V} {us : List Value} (r : Vals [x] us) : ∃ u,us = [u] ∧ RelV x u:=by
 cases r with
 | cons r1 r2=>cases r2; exact ⟨_,rfl,r1⟩
theorem Jsk {x y : V} {us : List Value} (r : Vals [x,y] us) : ∃ u w', us = [u,w'] ∧ RelV x u ∧ RelV y w':=by
 cases r with
 | cons r1 r2 =>
  cases r2 with
  | cons r3 r4=>cases r4; exact ⟨_,_,rfl,r1,r3⟩
theorem Jkn (hc : X.calm = true) : Jkd X (.builtin "max") (fun xs H Q=>∃ i j,xs = [.int i,.int j] ∧ Q (.int (if j > i then j else i)) H):=by
 intro pins s σ H xs us Q I r h
 obtain ⟨i,j,rfl,q⟩:=h
 obtain ⟨u,w', rfl,⟨t,rfl⟩,⟨t', rfl⟩⟩:=Jsk r
 refine max_two_ints (I.ok.hd hc) fun h' tk k=>⟨_,H,I.kept k,?_,q⟩
 by_cases hj : j > i
 ·rw [if_pos hj,if_pos hj]; exact ⟨_,rfl⟩
 ·rw [if_neg hj,if_neg hj]; exact ⟨_,rfl⟩
theorem Jke (hc : X.calm = true) : Jkd X (.builtin "min") (fun xs H Q=>∃ i j,xs = [.int i,.int j] ∧ Q (.int (if j < i then j else i)) H):=by
 intro pins s σ H xs us Q I r h
 obtain ⟨i,j,rfl,q⟩:=h
 obtain ⟨u,w', rfl,⟨t,rfl⟩,⟨t', rfl⟩⟩:=Jsk r
 refine min_two_ints (I.ok.hd hc) fun h' tk k=>⟨_,H,I.kept k,?_,q⟩
 by_cases hj : j < i
 ·rw [if_pos hj,if_pos hj]; exact ⟨_,rfl⟩
 ·rw [if_neg hj,if_neg hj]; exact ⟨_,rfl⟩
theorem Jmj : Jkd X (.type "int") (fun xs H Q=>(∃ i,xs = [.int i] ∧ Q (.int i) H) ∨ ∃ k,xs = [.bl k] ∧ Q (.int (if k then 1 else 0)) H):=by
 intro pins s σ H xs us Q I r h
 rcases h with ⟨i,rfl,q⟩ | ⟨k,rfl,q⟩
 ·obtain ⟨u,rfl,t,rfl⟩:=Jlo r
  exact call_int_int ⟨.int i,H,I,⟨_,rfl⟩,q⟩
 ·obtain ⟨u,rfl,r1⟩:=Jlo r
  cases r1
  exact call_int_bool ⟨.int (if k then 1 else 0),H,I.tok _,⟨_,rfl⟩,q⟩
end
end L2
namespace L2
open PySem PySem.Spec PyProof.Rows
structure ObjM (h : Heap) (x dx C : Addr) (mA : Str → Option Value) : Prop where
 obj : h.get? x = some (PySem.W.instObj C dx)
 ns : h.Ns1 dx mA
 ne : dx ≠ x
theorem Jqg {h : Heap} {dx : Addr} {mA : Str → Option Value} (n : h.Ns1 dx mA) : ∃ od,h.get? dx = some od ∧ ∀ name,PySem.W.lookIn name od = some (mA name):=by
 obtain ⟨o,es,ep,ho,hd,hk,_,hm⟩:=n
 refine ⟨o,ho,fun name=>?_⟩
 have e:=hm name
 unfold nsFind findBy at e
 rw [← Array.find?_toList] at e
 unfold PySem.W.lookIn
 rw [hd]
 dsimp only
 split
 ·rename_i y q
  rw [q] at e
  exact congrArg some e
 ·rename_i q
  rw [q] at e
  have a : es.toList.any (·.refKey) = false:=by
   rw [List.any_eq_false]
   intro y hy
   obtain ⟨z,t,hkey⟩:=hk y (Array.mem_toList_iff.mp hy)
   simp [DictEntry.refKey,hkey]
  have a' : ¬ es.toList.any (·.refKey) = true:=by rw [a]; exact Bool.false_ne_true
  rw [if_neg a']
  exact congrArg some e
theorem ObjM.look {h : Heap} {x dx C : Addr} {mA : Str → Option Value} (I : ObjM h x dx C mA) : ∃ od,PySem.W.InstAt h x (PySem.W.instObj C dx) C (some od) ∧ ∀ name,PySem.W.lookIn name od = some (mA name) :=
 let ⟨od,ho,hl⟩:=Jqg I.ns
 ⟨od,⟨I.obj,rfl,rfl,ho⟩,hl⟩
section
variable {prog : Program} {w : World} {A : Around} {E : Value → Shared → Prop} {s : Shared} {K : PySem.W.Frag} {x dx C f : Addr} {mA : Str → Option Value} {name : Str} {v : Value}
theorem Jxb {expr : Bool} {Q : Value → Shared → Prop} (X : K.In s.heap) (I : ObjM s.heap x dx C mA) (hg : PySem.W.plainGet K C name = true) (hh : PySem.W.hasDictIn K C = true)
  (ha : PySem.W.findIn K (.ref C) name = some none) (hv : mA name = some v) (hv' : PySem.W.handedIn v = true) (h : Q v { s with toks:=s.toks + 1 }) :
  wpAny (model prog w) A (getAttr (.ref x) name expr) Q E s:=by
 obtain ⟨od,J,hl⟩:=I.look
 exact PySem.W.get_value X J (PySem.W.plainGet_of hg).1 (PySem.W.findObj_own hh ha rfl (by rw [hl,hv])) hv' h
theorem Jvm {pl : Sem Bool} {Q : Value × List Value → Shared → Prop} (X : K.In s.heap) (I : ObjM s.heap x dx C mA) (hg : PySem.W.plainGet K C name = true)
  (hf : PySem.W.findIn K (.ref C) name = some (some (.ref f))) (ht : PySem.W.isFn K (.ref f) = true) (hv : mA name = none) (h : Q (.ref f,[.ref x]) s) :
  wpAny (model prog w) A (getMethod (.ref x) name pl) Q E s:=by
 obtain ⟨od,J,hl⟩:=I.look
 exact PySem.W.method_fn X J (PySem.W.plainGet_of hg).1 (PySem.W.plainGet_of hg).2 hf (beq_iff_eq.mp ht) (by show (PySem.W.lookIn name od).map (·.isSome) = some false; rw [hl,hv]; rfl) h
theorem Jxv {ns : List Str} {Q : Unit → Shared → Prop} (X : K.In s.heap) (I : ObjM s.heap x dx C mA)
  (hs : PySem.W.findIn K (.ref C) "__setattr__" = some (some (.builtin "object.__setattr__"))) (hp : PySem.W.plainOver K C = true) (ht : PySem.W.takerIn K C name = some none) (hh : PySem.W.hasDictIn K C = true)
  (hw : PySem.Within mA ns) (hsz : ns.length ≤ sizeLine)
  (h : ∀ h', ObjM h' x dx C (fun y=>if y = name then some v else mA y) → Heap.SameBut dx s.heap h' → Q () { s with heap:=h', toks:=s.toks + 2 }) :
  wpAny (model prog w) A (setAttr (.ref x) name v) Q E s:=by
 obtain ⟨od,J,hl⟩:=I.look
 refine PySem.W.set_plain X J hs (PySem.W.osa_open (s:={ s with toks:=s.toks + 1 }) (r:=none) X J hp ht fun b=>?_)
 obtain ⟨cd,hc,hd'⟩:=PySem.W.any_some hh
 have hx : s.heap.get? x = some ⟨.ref C,some dx,.plain,#[]⟩:=I.obj
 refine wpAny_bind (wpAny_pure (wpAny_bind (wpAny_bind (wpAny_loadPart hx (wpAny_bind (PySem.W.Looks.here (s:={ s with toks:=s.toks + 1 }) (PySem.W.looks_clsIn X hc) ?_))))))
 rw [hd']
 refine wpAny_pure (a:=some dx) (wpAny_bind (wpAny_pure (wpAny_bind ?_)))
 refine wpAny_nsSet1 (s:={ s with toks:=s.toks + 1 }) I.ns fun h' hn2 hs2=>?_
 obtain ⟨oD,esD,epD,hoD,hdD,hcD⟩:=hn2.count (PySem.Within.cons name v hw)
 refine wpAny_bind (wpAny_lookBehind hoD (by rw [hdD]; exact pastItsLine_dict (Nat.le_trans hcD (by rw [List.length_cons]; omega))) ?_)
 exact wpAny_pure (h _ ⟨(hs2.2 _ (Ne.symm I.ne)).trans I.obj,hn2,I.ne⟩ hs2)
theorem Jvs {R : Result → Shared → Prop} {vs : List Value} {kw : List (Str × Value)} (X : K.In s.heap) (hm : PySem.W.makesIn K C = true)
  (hi : PySem.W.findIn K (.ref C) "__init__" = some (some (.ref f))) (hf : PySem.W.typeIn K (.ref f) = some (.type "function"))
  (h : codeAny (model prog w) (A.under (.builtin "type.__call__" ⟨.ref C :: vs,kw⟩)) (.call (.ref f) ⟨.ref (s.heap.objs.size + 1) :: vs,kw⟩) (PySem.W.InitBack (s.heap.objs.size + 1) R)
   { s with heap:=(s.heap.push PySem.W.emptyDict).push (PySem.W.instObj C s.heap.objs.size) }) :
  codeAny (model prog w) A (.call (.ref C) ⟨vs,kw⟩) R s:=by
 obtain ⟨hh,g,d,t,os⟩:=s
 exact PySem.W.make_core (PySem.W.makes_of X hm) (PySem.W.looks_findIn X hi) (fun self=>PySem.W.bind_fn X self hf) (.inl rfl) h
end
def Jjz (f : Str) (v : V) : List (Str × V) → List (Str × V)
 | []=>[(f,v)]
 | (g,x) :: r=>if g = f then (g,v) :: r else (g,x) :: Jjz f v r
theorem Jo3 (f g : Str) (v : V) : ∀ fs : List (Str × V),(Jjz f v fs).lookup g = if g = f then some v else fs.lookup g
 | []=>by
  show List.lookup g [(f,v)] = _
  by_cases h : g = f
  ·have hb : (g == f) = true:=beq_iff_eq.mpr h
   simp only [List.lookup,hb,if_pos h]
  ·have hb : (g == f) = false:=beq_eq_false_iff_ne.mpr h
   simp only [List.lookup,hb,if_neg h]
 | (k,x) :: r=>by
  have ih:=Jo3 f g v r
  rw [show Jjz f v ((k,x) :: r) = (if k = f then (k,v) :: r else (k,x) :: Jjz f v r) from rfl]
  by_cases hk : k = f
  ·rw [if_pos hk]
   by_cases h : g = k
   ·have hb : (g == k) = true:=beq_iff_eq.mpr h
    simp only [List.lookup,hb,if_pos (h.trans hk)]
   ·have hb : (g == k) = false:=beq_eq_false_iff_ne.mpr h
    simp only [List.lookup,hb,if_neg (fun e : g = f=>h (e.trans hk.symm))]
  ·rw [if_neg hk]
   by_cases h : g = k
   ·have hb : (g == k) = true:=beq_iff_eq.mpr h
    simp only [List.lookup,hb,if_neg (fun e : g = f=>hk (h.symm.trans e))]
   ·have hb : (g == k) = false:=beq_eq_false_iff_ne.mpr h
    simp only [List.lookup,hb]
    exact ih
theorem Jnt (f : Str) (v : V) : ∀ fs : List (Str × V),f ∈ (Jjz f v fs).map (·.1) ∧ ∀ g,g ∈ fs.map (·.1) → g ∈ (Jjz f v fs).map (·.1)
 | []=>⟨by simp [Jjz],fun g h=>by simp at h⟩
 | (k,x) :: r=>by
  obtain ⟨i1,i2⟩:=Jnt f v r
  rw [show Jjz f v ((k,x) :: r) = (if k = f then (k,v) :: r else (k,x) :: Jjz f v r) from rfl]
  by_cases hk : k = f
  ·rw [if_pos hk]
   subst hk
   exact ⟨by simp,fun g h=>by simpa using h⟩
  ·rw [if_neg hk]
   refine ⟨?_,fun g h=>?_⟩
   ·rw [List.map_cons]
    exact List.mem_cons_of_mem _ i1
   ·rw [List.map_cons] at h ⊢
    rcases List.mem_cons.mp h with e | e
    ·exact List.mem_cons.mpr (.inl e)
    ·exact List.mem_cons_of_mem _ (i2 g e)
theorem Jo2 (f : Str) (v : V) : ∀ fs : List (Str × V),(Jjz f v fs).length ≤ fs.length + 1
 | []=>by simp [Jjz]
 | (k,x) :: r=>by
  have ih:=Jo2 f v r
  rw [show Jjz f v ((k,x) :: r) = (if k = f then (k,v) :: r else (k,x) :: Jjz f v r) from rfl]
  by_cases hk : k = f
  ·rw [if_pos hk,List.length_cons,List.length_cons]; omega
  ·rw [if_neg hk,List.length_cons,List.length_cons]; omega
theorem RelO.some_of {v : V} {o : Option Value} (r : RelO (some v) o) : ∃ u,o = some u ∧ RelV v u:=by
 cases o with
 | none=>exact (show False from r).elim
 | some u=>exact ⟨u,rfl,r⟩
theorem RelO.none_of {o : Option Value} (r : RelO none o) : o = none:=by
 cases o with
 | none=>rfl
 | some u=>exact (show False from r).elim
theorem Jqd {v : V} {u : Value} (r : RelV v u) : PySem.W.handedIn u = true:=by
 cases v with
 | non=>cases (show u = Value.none from r); rfl
 | bl b=>cases (show u = Value.bool b from r); rfl
 | int i=>obtain ⟨t,e⟩:=(show ∃ t,u = Value.int i t from r); cases e; rfl
 | str x=>obtain ⟨t,e⟩:=(show ∃ t,u = Value.str x t from r); cases e; rfl
 | byt b=>obtain ⟨t,e⟩:=(show ∃ t,u = Value.bytes b t from r); cases e; rfl
 | flt b=>obtain ⟨t,e⟩:=(show ∃ t,u = Value.float b t from r); cases e; rfl
 | ref a=>cases (show u = Value.ref a from r); rfl
 | ty n=>cases (show u = Value.type n from r); rfl
section
variable {P : Program} {w : World} {H H' : Hp} {h h' : Heap} {a C dx : Addr} {fs fs' : List (Str × V)}
theorem Joj (hok : HOk P w H h) (e : H a = some (.ins C dx fs)) : ∃ mA,ObjM h a dx C mA ∧ (∀ f,RelO (fs.lookup f) (mA f)) ∧ PySem.Within mA (fs.map (·.1)) ∧ fs.length ≤ 1000 ∧ H dx = some (.own a):=by
 obtain ⟨d,z,ne,ob,mA,n,r,q⟩:=(show ObjOk P w H h a (.ins C dx fs) from hok a _ e)
 exact ⟨mA,⟨ob,n,ne⟩,r,q,z,d⟩
end
structure Cls (K : PySem.W.Frag) (C : Addr) : Prop where
 pg : PySem.W.plainGet K C Str.empty = true
 hd : PySem.W.hasDictIn K C = true
 po : PySem.W.plainOver K C = true
 sa : PySem.W.findIn K (.ref C) "__setattr__" = some (some (.builtin "object.__setattr__"))
theorem Cls.get {K : PySem.W.Frag} {C : Addr} (c : Cls K C) (f : Str) : PySem.W.plainGet K C f = true:=c.pg
def NoAttr (K : PySem.W.Frag) (C : Addr) (f : Str) : Prop:=PySem.W.findIn K (.ref C) f = some none
theorem NoAttr.taker {K : PySem.W.Frag} {C : Addr} {f : Str} (n : NoAttr K C f) : PySem.W.takerIn K C f = some none:=by
 unfold PySem.W.takerIn
 rw [show PySem.W.findIn K (.ref C) f = some none from n]
 rfl
structure Con (K : PySem.W.Frag) (C : Addr) (f : Str) (v : V) (u : Value) : Prop where
 at_ : PySem.W.findIn K (.ref C) f = some (some u)
 rel : RelV v u
 get : PySem.W.specialIn K u "__get__" = some none
 cp : PySem.W.copiedNames.contains f = false
structure Jon (K : PySem.W.Frag) (C : Addr) (m : Str) (f : Addr) : Prop where
 at_ : PySem.W.findIn K (.ref C) m = some (some (.ref f))
 fn : PySem.W.isFn K (.ref f) = true
 kp : PySem.W.keepIn K (.ref f) = true
section
variable {X : Cx} {pins : List (Addr × Obj)} {σ : St} {H : Hp} {s : Shared} {a C dx : Addr} {fs : List (Str × V)} {f : Str} {v : V} {A : Around} {E : Value → Shared → Prop}
theorem Jsp {b : Bool} {Q : Value → Shared → Prop} (I : Inv X pins σ H s) (e : H a = some (.ins C dx fs)) (c : Cls X.K C) (n : NoAttr X.K C f) (l : fs.lookup f = some v)
  (h : ∀ u s', Inv X pins σ H s' → RelV v u → Q u s') : wpAny (model X.prog X.w) A (getAttr (.ref a) f b) Q E s:=by
 obtain ⟨mA,O,r,_,_,_⟩:=Joj I.hok e
 obtain ⟨u,hu,ru⟩:=RelO.some_of (v:=v) (o:=mA f) (by rw [← l]; exact r f)
 exact Jxb I.kIn O (c.get f) c.hd n hu (Jqd ru) (h u _ (I.tok _) ru)
theorem Jsq {m : Str} {g : Addr} {pl : Sem Bool} {Q : Value × List Value → Shared → Prop} (I : Inv X pins σ H s) (e : H a = some (.ins C dx fs)) (c : Cls X.K C) (k : Jon X.K C m g) (l : fs.lookup m = none)
  (h : Q (.ref g,[.ref a]) s) : wpAny (model X.prog X.w) A (getMethod (.ref a) m pl) Q E s:=by
 obtain ⟨mA,O,r,_,_,_⟩:=Joj I.hok e
 have hn : mA m = none:=RelO.none_of (by rw [← l]; exact r m)
 exact Jvm I.kIn O (c.get m) k.at_ k.fn hn h
theorem Jt8 {y : V} {u : Value} {Q : Unit → Shared → Prop} (I : Inv X pins σ H s) (e : H a = some (.ins C dx fs)) (c : Cls X.K C) (n : NoAttr X.K C f) (hl : fs.length < 1000) (ry : RelV y u)
  (h : ∀ s', Inv X pins σ (upd H a (.ins C dx (Jjz f y fs))) s' → Q () s') : wpAny (model X.prog X.w) A (setAttr (.ref a) f u) Q E s:=by
 obtain ⟨mA,O,r,wi,_,ho⟩:=Joj I.hok e
 have hz : (fs.map (·.1)).length ≤ sizeLine:=by rw [List.length_map,sizeLine_eq]; omega
 refine Jxv I.kIn O c.sa c.po n.taker c.hd wi hz fun h' O' sb=>h _ ?_
 have hd : ∃ o,h'.get? dx = some o:=let ⟨o,_,_,e', _⟩:=O'.ns; ⟨o,e'⟩
 refine I.write (x:=a) (e:=dx) (by rw [e]; exact True.intro) (.inr ho) (fun b q hb z=>(sb.2 b hb).trans z) hd ?_
 refine ⟨by rw [Ji9 O.ne]; exact ho,?_,O.ne,O'.obj,_,O'.ns,fun g=>?_,fun g hg=>?_⟩
 ·have:=Jo2 f y fs; omega
 ·show RelO ((Jjz f y fs).lookup g) (if g = f then some u else mA g)
  rw [Jo3]
  by_cases q : g = f
  ·rw [if_pos q,if_pos q]; exact ry
  ·rw [if_neg q,if_neg q]; exact r g
 ·by_cases q : g = f
  ·rw [q]; exact (Jnt f y fs).1
  ·refine (Jnt f y fs).2 g (wi g fun z=>hg ?_)
   show (if g = f then some u else mA g) = none
   rw [if_neg q]; exact z
theorem Inv.made (I : Inv X pins σ H s) : Inv X pins σ (upd (upd H s.heap.objs.size (.own (s.heap.objs.size + 1))) (s.heap.objs.size + 1) (.ins C s.heap.objs.size []))
  { s with heap:=(s.heap.push PySem.W.emptyDict).push (PySem.W.instObj C s.heap.objs.size) }:=by
 have e1 : (s.heap.push PySem.W.emptyDict).get? s.heap.objs.size = some PySem.W.emptyDict:=Heap.get?_push_size s.heap rfl
 have e2 : ((s.heap.push PySem.W.emptyDict).push (PySem.W.instObj C s.heap.objs.size)).get? (s.heap.objs.size + 1) = some (PySem.W.instObj C s.heap.objs.size):=by
  have:=Heap.get?_push_size (s.heap.push PySem.W.emptyDict) (o:=PySem.W.instObj C s.heap.objs.size) rfl
  rwa [Heap.size_push] at this
 have e3 : (s.heap.push PySem.W.emptyDict).Ns s.heap.objs.size (fun _=>none):=⟨PySem.W.emptyDict,#[],_,e1,rfl,(fun e he=>absurd he (by simp)),fun _=>rfl⟩
 have I1:=I.laid (a:=s.heap.objs.size) (o:=.own (s.heap.objs.size + 1)) (h':=s.heap.push PySem.W.emptyDict) (t':=s.toks) (fun b u q=>Heap.get?_push_of_some _ q) (Nat.le_refl _) ⟨_,e1⟩
 refine I1.laid (a:=s.heap.objs.size + 1) (o:=.ins C s.heap.objs.size []) (t':=s.toks) (fun b u q=>Heap.get?_push_of_some _ q) (Nat.le_of_eq (Heap.size_push _ _)) ?_
 have ne : s.heap.objs.size ≠ s.heap.objs.size + 1:=Nat.ne_of_lt (Nat.lt_succ_self _)
 refine ⟨by rw [Ji9 ne,Ji3],Nat.zero_le _,ne,e2,fun _=>none,(Heap.Ns1.of_empty e3).at fun o q=>Heap.get?_push_of_some _ q,fun _=>True.intro,fun y hy=>absurd rfl hy⟩
theorem Jti {prog : Program} {w : World} {env : Env} {e : Expr} {f : Str} {pos : Pos} {s : Shared} {Q : Value → Shared → Prop} (hb : attributeBase e f env (eval e env) = eval e env)
  (h : wpAny (model prog w) A (eval e env) (fun o s₁=>wpAny (model prog w) A (getAttr o f true) Q E s₁) E s) : wpAny (model prog w) A (eval (.Attribute e f pos) env) Q E s :=
 Attribute_any_ h (by rw [arm_eval_Attribute,hb])
end
def tFld (K : PySem.W.Frag) (ta : TE) (f : Str) : TE:=fun σ H Q=>ta σ H fun x H1=>∃ a C dx fs v,x = .ref a ∧ H1 a = some (.ins C dx fs) ∧ Cls K C ∧ NoAttr K C f ∧ fs.lookup f = some v ∧ Q v H1
def sFld (K : PySem.W.Frag) (ta tv : TE) (f : Str) : TS:=fun D σ H=>tv σ H fun y H1=>ta σ H1 fun x H2=>∃ a C dx fs,x = .ref a ∧ H2 a = some (.ins C dx fs) ∧ Cls K C ∧ NoAttr K C f ∧ fs.length < 1000 ∧
 D.nx σ (upd H2 a (.ins C dx (Jjz f y fs)))
section
variable {X : Cx} {o e value : Expr} {f : Str} {pos pos' tpos : Pos} {ta tv : TE}
theorem Jk0 (he : PE X e ta) (hb : attributeBase e f X.env (eval e X.env) = eval e X.env) : PE X (.Attribute e f pos) (tFld X.K ta f):=by
 intro pins s σ H Q I h
 refine Jti hb (thn (he pins s σ H _ I h) fun u s1 ⟨x,H1,I1,rx,a,C,dx,fs,v,ex,ea,c,n,l,q⟩=>?_)
 subst ex
 obtain rfl : u = Value.ref a:=rx
 exact Jsp I1 ea c n l fun u' s2 I2 ru=>⟨v,H1,I2,ru,q⟩
theorem Jju (ha : PE X o ta) (hv : PE X value tv) (hs : swapsWith value (some (.Attribute o f pos')) pos.line X.env = pure false) : PS X (.Assign [.Attribute o f pos'] value pos) (sFld X.K ta tv f):=by
 intro pins s σ H D I h
 refine plainObj_wpAny_Assign_Attribute (thn (hv pins s σ H _ I h) fun u s1 ⟨y,H1,I1,ry,q⟩=>thn (ha pins s1 σ H1 _ I1 q) fun ov s2 ⟨x,H2,I2,rx,a,C,dx,fs,ex,ea,c,n,l,q2⟩=>?_) hs
 subst ex
 obtain rfl : ov = Value.ref a:=rx
 exact Jt8 I2 ea c n l ry fun s3 I3=>⟨σ,_,I3,q2⟩
end
section
variable {X : Cx} {pins : List (Addr × Obj)} {σ : St} {H : Hp} {s : Shared} {A : Around} {E : Value → Shared → Prop} {Q : Value → Shared → Prop} {c : Value} {b : Bool}
inductive Jnm (K : PySem.W.Frag) (H : Hp) : V → Value → Prop where
 | non : Jnm K H .non (.type "NoneType")
 | bl (x : Bool) : Jnm K H (.bl x) (.type "bool")
 | int (i : Int) : Jnm K H (.int i) (.type "int")
 | str (x : Str) : Jnm K H (.str x) (.type "str")
 | flt (x : UInt64) : Jnm K H (.flt x) (.type "float")
 | lst {a : Addr} {xs : List V} (e : H a = some (.lst xs)) : Jnm K H (.ref a) (.type "list")
 | frz {a : Addr} {o : Obj} {xs : List V} (e : H a = some (.frz o (.lst xs))) : Jnm K H (.ref a) (.type "list")
 | tup {a : Addr} {xs : List V} (e : H a = some (.tup xs)) : Jnm K H (.ref a) (.type "tuple")
 | dK {a : Addr} {kvs : List (Key × V)} (e : H a = some (.dK kvs)) : Jnm K H (.ref a) (.type "dict")
 | dT {a : Addr} {kvs : List (List Key × V)} (e : H a = some (.dT kvs)) : Jnm K H (.ref a) (.type "dict")
 | ins {a C dx : Addr} {fs : List (Str × V)} (e : H a = some (.ins C dx fs)) (cl : Cls K C) (ha : PySem.W.findIn K (.ref C) "__class__" = some (some (.builtin "object.__class__")))
   (hn : PySem.W.specialIn K (.builtin "object.__class__") "__get__" = some (some (.builtin "getset_descriptor.__get__"))) (htk : PySem.W.takesIn K (.builtin "object.__class__") = some true)
   (hm : PySem.W.mroIn K C (.type "object") = some true) : Jnm K H (.ref a) (.ref C)
end
end L2
namespace L2
open PySem PySem.Spec PyProof.Rows
structure Room (k : Nat) (A : Around) : Prop where
 hd : A.handled = none
 dp : A.depth + 3 * k + 5 < recursionLimit
 un : A.units + 16 * k + 200 < cLine
theorem Room.mono {j k : Nat} {A : Around} (r : Room k A) (h : j ≤ k) : Room j A:=⟨r.hd,by have:=r.dp; omega,by have:=r.un; omega⟩
theorem Room.deeper {k : Nat} {A : Around} (r : Room (k + 1) A) (env : Env) : Room k (A.deeper env) :=
 ⟨r.hd,by have:=r.dp; show A.depth + 1 + 3 * k + 5 < _; omega,by have:=r.un; show A.units + 3 + 16 * k + 200 < _; omega⟩
theorem Jss {A : Around} {C : Addr} {us : List Value} {kw : List (Str × Value)} : (A.under (.builtin "type.__call__" ⟨.ref C :: us,kw⟩)).depth = A.depth + 1:=by
 first | rfl | simp [Around.under,Code.weight,Code.isCreation,Code.isGuard,Code.isCaller,Code.frames,Code.isFrame,guardIds]
theorem Jst {A : Around} {C : Addr} {us : List Value} {kw : List (Str × Value)} : (A.under (.builtin "type.__call__" ⟨.ref C :: us,kw⟩)).units = A.units + 1:=by
 first | rfl | simp [Around.under,Code.cUnits,Code.frames,Code.isFrame]
theorem Room.make {k : Nat} {A : Around} (r : Room (k + 1) A) (C : Addr) (us : List Value) (kw : List (Str × Value)) : Room k (A.under (.builtin "type.__call__" ⟨.ref C :: us,kw⟩)) :=
 ⟨r.hd,by have:=r.dp; rw [Jss]; omega,by have:=r.un; rw [Jst]; omega⟩
theorem Room.depth {k : Nat} {A : Around} (r : Room k A) : A.depth < recursionLimit:=by have:=r.dp; omega
theorem Room.units {k : Nat} {A : Around} (r : Room k A) : A.units + 64 < cLine:=by have:=r.un; omega
def Jpi : TA:=fun _ H Q=>Q [] H
def Jj0 (ta : TE) (tr : TA) : TA:=fun σ H Q=>ta σ H fun x H1=>tr σ H1 fun xs H2=>Q (x :: xs) H2
section
variable {X : Cx} {e : Expr} {es : List Expr} {te : TE} {t : TA} {pos : Pos}
theorem Ji2 : PA X [] Jpi:=fun _ _ _ _ H Q I h=>Calls.spliced_nil ⟨[],H,I,.nil,h⟩
theorem Ji1 (ha : PE X e te) (hr : PA X es t) (hs : starEach (e :: es) X.env = (false,eval e X.env) :: starEach es X.env:=by rfl) : PA X (e :: es) (Jj0 te t):=by
 intro pos pins s σ H Q I h
 rw [hs]
 show wpAny _ _ (spliced ((false,eval e X.env) :: backTo pos (starEach es X.env))) _ _ s
 refine Calls.spliced_cons (thn (ha pins s σ H _ I h) fun u s1 ⟨x,H1,I1,r1,q1⟩=>?_)
 exact thn (hr pos pins s1 σ H1 _ I1 q1) fun us s2 ⟨xs,H2,I2,r2,q2⟩=>⟨x :: xs,H2,I2,.cons r1 r2,q2⟩
def tTup (t : TA) : TE:=fun σ H Q=>t σ H fun xs H1=>xs.length ≤ sizeLine ∧ ∀ p,H1 p = none → Q (.ref p) (upd H1 p (.tup xs))
def tLst (t : TA) : TE:=fun σ H Q=>t σ H fun xs H1=>xs.length ≤ sizeLine ∧ ∀ p,H1 p = none → Q (.ref p) (upd H1 p (.lst xs))
theorem Jk9 {x1} (h : PA X es t) : PE X (.Tuple es x1 pos) (tTup t):=by
 intro pins s σ H Q I hq
 refine wpAny_Tuple_spliced (thn (h pos pins s σ H _ I hq) fun us s1 ⟨xs,H1,I1,r,z,q⟩=>⟨by rw [← r.length]; exact z,?_⟩)
 have hf : H1 s1.heap.objs.size = none:=I1.hok.fresh (Nat.le_refl _)
 refine ⟨.ref s1.heap.objs.size,upd H1 s1.heap.objs.size (.tup xs),I1.laid (t':=s1.toks) (fun b u e=>Heap.get?_push_of_some _ e) (Nat.le_refl _) ?_,rfl,q _ hf⟩
 exact ⟨z,us,r,⟨_,Heap.get?_push_size _ rfl,rfl,_,rfl⟩⟩
theorem Jjn (h : PA X es t) : PE X (.List es pos) (tLst t):=by
 intro pins s σ H Q I hq
 refine wpAny_List_spliced (thn (h pos pins s σ H _ I hq) fun us s1 ⟨xs,H1,I1,r,z,q⟩=>⟨by rw [← r.length]; exact z,?_⟩)
 have hf : H1 s1.heap.objs.size = none:=I1.hok.fresh (Nat.le_refl _)
 refine ⟨.ref s1.heap.objs.size,upd H1 s1.heap.objs.size (.lst xs),I1.laid (t':=s1.toks) (fun b u e=>Heap.get?_push_of_some _ e) (Nat.le_refl _) ?_,rfl,q _ hf⟩
 exact ⟨z,us,0,r,Heap.get?_push_size _ rfl⟩
end
abbrev Sp:=List V → Hp → VK → XK → Prop
abbrev CXT:=List Env → Hp → Shared → XK → Value → Shared → Prop
structure Env0 (P : Program) (w : World) (K : PySem.W.Frag) (mg : Str → Option Value) (base : Heap) (A : Around) (outer : List Env) (s : Shared) (H : Hp) : Prop where
 frames : A.frames = some outer
 mod : Mod K mg base
 bs : ∀ b o,base.get? b = some o → s.heap.get? b = some o ∧ H b = none
 bsz : base.objs.size ≤ s.heap.objs.size
 funs : s.heap.FunFrames base outer
 frf : ∀ b ∈ frs outer,H b = none
 hok : HOk P w H s.heap
 bare : AllBare s.gens
def CE (outer : List Env) (P : Program) (w : World) (H : Hp) (s : Shared) (Q : VK) (u : Value) (s' : Shared) : Prop :=
 ∃ v H', s'.os = s.os ∧ AllBare s'.gens ∧ Un (frs outer) [] H H' s.heap s'.heap ∧ HOk P w H' s'.heap ∧ RelV v u ∧ Q v H'
def CR (CX : CXT) (outer : List Env) (P : Program) (w : World) (H : Hp) (s : Shared) (Q : VK) (E : XK) (r : Result) (s' : Shared) : Prop :=
 match r with
 | .ok (.ret u)=>CE outer P w H s Q u s'
 | .ok _=>False
 | .error e=>CX outer H s E e s'
structure FnOk (P : Program) (w : World) (K : PySem.W.Frag) (mg : Str → Option Value) (base : Heap) (CX : CXT) (k : Nat) (f : Addr) (fd : FuncData) (ps : List Str) (sp : Sp) : Prop where
 len : ∀ vs H Q E,sp vs H Q E → vs.length = ps.length
 run : ∀ (A : Around) (outer : List Env) (s : Shared) (H : Hp) (args : Args) (us : List Value) (vs : List V) (Q : VK) (E : XK),Room k A → Env0 P w K mg base A outer s H → BindsTo s fd args (ps.zip us) → Vals vs us → sp vs H Q E →
  codeAny (model P w) A (.call (.ref f) args) (CR CX outer P w H s Q E) s
theorem Env0.make {P : Program} {w : World} {K : PySem.W.Frag} {mg : Str → Option Value} {base : Heap} {A : Around} {outer : List Env} {s : Shared} {H : Hp} (e : Env0 P w K mg base A outer s H) (C : Addr) (us : List Value) (kw : List (Str × Value)) :
  Env0 P w K mg base (A.under (.builtin "type.__call__" ⟨.ref C :: us,kw⟩)) outer s H:=⟨by first | exact e.frames | (simpa [Around.under,Code.envs,Code.isFrame,pushEnvs] using e.frames),e.mod,e.bs,e.bsz,e.funs,e.frf,e.hok,e.bare⟩
section
variable {X : Cx} {pins : List (Addr × Obj)} {σ : St} {H : Hp} {s s' : Shared}
theorem Inv.env0 (I : Inv X pins σ H s) : Env0 X.prog X.w X.K X.mg X.base X.A X.stack s H :=
 ⟨I.ok.frames,I.ok.mod,I.bs,Nat.le_trans I.ok.bsz I.sz,I.stack,I.stkFree,I.hok,I.bare⟩
theorem Inv.after {Q : VK} {u : Value} (I : Inv X pins σ H s) (h : CE X.stack X.prog X.w H s Q u s') : EP X pins σ Q u s':=by
 obtain ⟨v,H', os,bare,un,hok,r,q⟩:=h
 obtain ⟨hh,g,d,t,os'⟩:=s'
 obtain rfl : os' = s.os:=os
 exact ⟨v,H', I.call (h':=hh) (g':=g) (d':=d) (t':=t) (ch:=[]) un hok bare (fun b z=>absurd z (by simp)),r,q⟩
end
def Jsf (sp : Sp) (dvs : List V) (E : XK) (t : TA) : TE:=fun σ H Q=>t σ H fun vs H1=>sp (vs ++ dvs) H1 Q E
def tMake (C : Addr) (sp : Sp) (dvs : List V) (E : XK) (t : TA) : TE:=fun σ H Q=>t σ H fun vs H1=>∀ x dx,H1 x = none → H1 dx = none → dx ≠ x →
 sp (.ref x :: (vs ++ dvs)) (upd (upd H1 dx (.own x)) x (.ins C dx [])) (fun v H2=>v = .non ∧ Q (.ref x) H2) E
def Binds (K : PySem.W.Frag) (fd : FuncData) (ps : List Str) (ds : List Value) : Prop :=
 ∀ (s : Shared) (us : List Value),K.In s.heap → (us ++ ds).length = ps.length → BindsTo s fd ⟨us,[]⟩ (ps.zip (us ++ ds))
theorem Binds.all {K : PySem.W.Frag} {fd : FuncData} {ps : List Str} (h : ∀ us : List Value,us.length = ps.length → bindArgs fd ⟨us,[]⟩ = pure (ps.zip us)) : Binds K fd ps []:=fun s us _ hl=>by
 rw [List.append_nil] at hl ⊢
 exact .of_eq (h us hl)
def Joo (CX : CXT) (X : Cx) (E : XK) : Prop:=∀ (pins : List (Addr × Obj)) (σ : St) (H : Hp) (s : Shared) (e : Value) (s' : Shared),Inv X pins σ H s → CX X.stack H s E e s' → X.xe e s'
section
variable {X : Cx} {CX : CXT} {k : Nat} {f C : Addr} {fd : FuncData} {ps : List Str} {sp : Sp} {dvs : List V} {ds : List Value} {E : XK} {x m : Str} {p pos apos : Pos} {e o : Expr} {es : List Expr} {ta : TE} {t : TA}
theorem Jw7 {pins : List (Addr × Obj)} {σ : St} {H : Hp} {s : Shared} {Q : VK} {us : List Value} {vs : List V} (F : FnOk X.prog X.w X.K X.mg X.base CX k f fd ps sp) (hr : Room k X.A) (hb : Binds X.K fd ps ds) (hd : Vals dvs ds) (hx : Joo CX X E)
  (I : Inv X pins σ H s) (r : Vals vs us) (h : sp (vs ++ dvs) H Q E) : wpAny (model X.prog X.w) X.A (call (.ref f) us) (EP X pins σ Q) X.xe s:=by
 have r2 : Vals (vs ++ dvs) (us ++ ds):=r.append hd
 have hl : (us ++ ds).length = ps.length:=by rw [← r2.length]; exact F.len _ _ _ _ h
 refine wpAny_call (codeAny_mono (F.run X.A X.stack s H ⟨us,[]⟩ (us ++ ds) (vs ++ dvs) Q E hr I.env0 (hb s us I.kIn hl) r2 h) fun r s' hq=>?_)
 cases r with
 | error e=>exact hx pins σ H s e s' I hq
 | ok fl =>
  cases fl with
  | ret u=>exact I.after hq
  | next=>exact False.elim hq
  | brk=>exact False.elim hq
  | cont=>exact False.elim hq
theorem Jxk (F : FnOk X.prog X.w X.K X.mg X.base CX k f fd ps sp) (hr : Room k X.A) (hg : Gl X x) (hm : X.mg x = some (.ref f)) (hk : PySem.W.keepIn X.K (.ref f) = true) (hb : Binds X.K fd ps ds) (hd : Vals dvs ds) (hx : Joo CX X E)
  (ha : PA X (e :: es) t) (hdb : (x == ("__debug__" : Str)) = false:=by decide) (he : starEach (e :: es) X.env = (false,eval e X.env) :: starEach es X.env:=by rfl) (hpl : (backTo pos (starEach es X.env)).any (·.1) = false:=by rfl) :
  PE X (.Call (.Name x p) (e :: es) [] pos) (Jsf sp dvs E t):=by
 intro pins s σ H Q I h
 refine wpAny_Call_Name_kw (Jmk I hg hm ?_ hdb)
 refine PySem.W.callWith_K (h₀:=X.base) I.ok.mod.kin hk (thn (ha pos pins s σ H _ I h) fun us s1 ⟨vs,H1,I1,r,q⟩=>⟨I1.kIn,?_⟩) he hpl
 exact Jw7 F hr hb hd hx I1 r q
structure Mk (K : PySem.W.Frag) (C f : Addr) : Prop where
 makes : PySem.W.makesIn K C = true
 init : PySem.W.findIn K (.ref C) "__init__" = some (some (.ref f))
 fn : PySem.W.isFn K (.ref f) = true
 kp : PySem.W.keepIn K (.ref C) = true
theorem Jw8 {pins : List (Addr × Obj)} {σ : St} {H : Hp} {s : Shared} {Q : VK} {us : List Value} {vs : List V} (M : Mk X.K C f) (F : FnOk X.prog X.w X.K X.mg X.base CX k f fd ps sp) (hr : Room (k + 1) X.A) (hb : Binds X.K fd ps ds) (hd : Vals dvs ds)
  (hx : Joo CX X E) (I : Inv X pins σ H s) (r : Vals vs us)
  (h : ∀ x dx,H x = none → H dx = none → dx ≠ x → sp (.ref x :: (vs ++ dvs)) (upd (upd H dx (.own x)) x (.ins C dx [])) (fun v H2=>v = .non ∧ Q (.ref x) H2) E) :
  wpAny (model X.prog X.w) X.A (call (.ref C) us) (EP X pins σ Q) X.xe s:=by
 have hq:=h (s.heap.objs.size + 1) s.heap.objs.size (I.hok.fresh (Nat.le_succ _)) (I.hok.fresh (Nat.le_refl _)) (Nat.ne_of_lt (Nat.lt_succ_self _))
 have I2:=Inv.made (C:=C) I
 have r2 : Vals (V.ref (s.heap.objs.size + 1) :: (vs ++ dvs)) (Value.ref (s.heap.objs.size + 1) :: (us ++ ds)):=.cons rfl (r.append hd)
 have hl : (Value.ref (s.heap.objs.size + 1) :: us ++ ds).length = ps.length:=by
  have e:=r2.length
  rw [F.len _ _ _ _ hq] at e
  exact e.symm
 refine wpAny_call (Jvs (f:=f) I.kIn M.makes M.init (beq_iff_eq.mp M.fn) (codeAny_mono (F.run _ X.stack _ _ ⟨Value.ref (s.heap.objs.size + 1) :: us,[]⟩ (Value.ref (s.heap.objs.size + 1) :: (us ++ ds)) _ _ E (hr.make C us [])
  (I2.env0.make C us []) (hb _ (Value.ref (s.heap.objs.size + 1) :: us) I2.kIn hl) r2 hq) fun r s' hq'=>?_))
 cases r with
 | error e=>exact hx pins σ _ _ e s' I2 hq'
 | ok fl =>
  cases fl with
  | ret u =>
   obtain ⟨v,H', I3,rv,ev,q3⟩:=I2.after hq'
   subst ev
   exact ⟨rv,⟨V.ref (s.heap.objs.size + 1),H', I3,rfl,q3⟩⟩
  | next=>exact False.elim hq'
  | brk=>exact False.elim hq'
  | cont=>exact False.elim hq'
theorem Jli (M : Mk X.K C f) (F : FnOk X.prog X.w X.K X.mg X.base CX k f fd ps sp) (hr : Room (k + 1) X.A) (hg : Gl X x) (hm : X.mg x = some (.ref C)) (hb : Binds X.K fd ps ds) (hd : Vals dvs ds) (hx : Joo CX X E)
  (ha : PA X (e :: es) t) (hdb : (x == ("__debug__" : Str)) = false:=by decide) (he : starEach (e :: es) X.env = (false,eval e X.env) :: starEach es X.env:=by rfl) (hpl : (backTo pos (starEach es X.env)).any (·.1) = false:=by rfl) :
  PE X (.Call (.Name x p) (e :: es) [] pos) (tMake C sp dvs E t):=by
 intro pins s σ H Q I h
 refine wpAny_Call_Name_kw (Jmk I hg hm ?_ hdb)
 refine PySem.W.callWith_K (h₀:=X.base) I.ok.mod.kin M.kp (thn (ha pos pins s σ H _ I h) fun us s1 ⟨vs,H1,I1,r,q⟩=>⟨I1.kIn,?_⟩) he hpl
 exact Jw8 M F hr hb hd hx I1 r q
end
section
variable {X : Cx} {CX : CXT} {k : Nat} {f C : Addr} {fd : FuncData} {ps ks : List Str} {sp : Sp} {E : XK} {x m : Str} {p pos apos kpos : Pos} {e o : Expr} {es : List Expr} {kws : List Keyword} {te ta : TE} {t tk : TA} {nm : Option Str}
structure KBinds (K : PySem.W.Frag) (fd : FuncData) (ps ks : List Str) (g : List Value → List Value → List Value) (gV : List V → List V → List V) : Prop where
 to : ∀ (s : Shared) (us ws : List Value),K.In s.heap → (g us ws).length = ps.length → BindsTo s fd ⟨us,ks.zip ws⟩ (ps.zip (g us ws))
 rel : ∀ {vs : List V} {us : List Value} {zs : List V} {ws : List Value},Vals vs us → Vals zs ws → Vals (gV vs zs) (g us ws)
variable {g : List Value → List Value → List Value} {gV : List V → List V → List V}
end
structure Jic (N P : List Str) (sc : Scope) : Prop where
 kind : sc.kind = .function
 co : sc.isCoroutine = false
 gen : sc.isGenerator = false
 nd : N.Nodup
 pre : N.take P.length = P
 par : ∀ x ∈ P,sc.names.lookup x = some .local ∨ sc.names.lookup x = some .cell
 nofree : ∀ y ∈ sc.names,y.2 ≠ .free
theorem Jq9 {kindOf : Str → Option NameKind} {x : Str} : ∀ {binds : List (Str × Value)} {m : Str → Option Value},(∀ v,(x,v) ∉ binds) → bindL kindOf binds m x = m x
 | [],_,_=>rfl
 | (n,v) :: r,m,h=>by
  unfold bindL
  rw [Jq9 fun w hw=>h w (List.mem_cons_of_mem _ hw)]
  split
  ·have : x ≠ n:=by rintro rfl; exact h v List.mem_cons_self
   simp [this]
  ·rfl
theorem Jq8 {kindOf : Str → Option NameKind} {x : Str} : ∀ {binds : List (Str × Value)} {m : Str → Option Value},(∀ v,(x,v) ∉ binds) → bindC kindOf binds m x = m x
 | [],_,_=>rfl
 | (n,v) :: r,m,h=>by
  unfold bindC
  rw [Jq8 fun w hw=>h w (List.mem_cons_of_mem _ hw)]
  split
  ·rfl
  ·have : x ≠ n:=by rintro rfl; exact h v List.mem_cons_self
   simp [this]
theorem Jno {kindOf : Str → Option NameKind} {x : Str} {v : Value} : ∀ {P : List Str} {vs : List Value} {i : Nat} {m : Str → Option Value},P.Nodup → P[i]? = some x → vs[i]? = some v → kindOf x = some .local →
  bindL kindOf (P.zip vs) m x = some v
 | [],_,_,_,_,h,_,_=>by simp at h
 | _ :: _,[],_,_,_,_,h,_=>by simp at h
 | p :: P,w :: vs,0,m,nd,h1,h2,hk=>by
  simp at h1 h2; subst h1; subst h2
  show bindL kindOf ((p,w) :: P.zip vs) m p = _
  unfold bindL
  rw [Jq9 fun v hv=>(List.nodup_cons.mp nd).1 (List.of_mem_zip hv).1,if_pos hk]
  simp
 | p :: P,w :: vs,i + 1,m,nd,h1,h2,hk=>by
  show bindL kindOf ((p,w) :: P.zip vs) m x = _
  unfold bindL
  exact Jno (i:=i) (List.nodup_cons.mp nd).2 (by simpa using h1) (by simpa using h2) hk
theorem Jnn {kindOf : Str → Option NameKind} {x : Str} {v : Value} : ∀ {P : List Str} {vs : List Value} {i : Nat} {m : Str → Option Value},P.Nodup → P[i]? = some x → vs[i]? = some v → kindOf x ≠ some .local →
  bindC kindOf (P.zip vs) m x = some v
 | [],_,_,_,_,h,_,_=>by simp at h
 | _ :: _,[],_,_,_,_,h,_=>by simp at h
 | p :: P,w :: vs,0,m,nd,h1,h2,hk=>by
  simp at h1 h2; subst h1; subst h2
  show bindC kindOf ((p,w) :: P.zip vs) m p = _
  unfold bindC
  rw [Jq8 fun v hv=>(List.nodup_cons.mp nd).1 (List.of_mem_zip hv).1,if_neg hk]
  simp
 | p :: P,w :: vs,i + 1,m,nd,h1,h2,hk=>by
  show bindC kindOf ((p,w) :: P.zip vs) m x = _
  unfold bindC
  exact Jnn (i:=i) (List.nodup_cons.mp nd).2 (by simpa using h1) (by simpa using h2) hk
def start (N : List Str) (vs : List V) : St:=vs.map some ++ List.replicate (N.length - vs.length) none
def Jqz (CX : CXT) (P : Program) (w : World) (K : PySem.W.Frag) (mg : Str → Option Value) (base : Heap) (N : List Str) (qual : Str) (scope : Scope) (f : Addr) (cd : Value) (A : Around) (outer : List Env) (s : Shared) (H : Hp) (E : XK) : Cx where
 prog:=P
 w:=w
 K:=K
 mg:=mg
 base:=base
 A:=A.deeper (envOfC qual scope s.heap.objs.size f cd)
 N:=N
 s₀:=s
 H₀:=H
 env:=envOfC qual scope s.heap.objs.size f cd
 outer:=outer
 stack:=envOfC qual scope s.heap.objs.size f cd :: outer
 ex:=[]
 calm:=true
 fn:=fun _=>true
 pn:=[]
 xe:=fun e s'=>wpAny (model P w) (A.deeper (envOfC qual scope s.heap.objs.size f cd)) (leaving (envOfC qual scope s.heap.objs.size f cd) e) (fun _ s''=>CX outer H s E e s'') (fun e' s''=>CX outer H s E e' s'') s'
theorem Jl5 {sc : Scope} {n : Nat} {x : Str} (h : sc.names.lookup x = some .cell) : ∃ c,(cellsFrom n sc.names []).lookup x = some c:=by
 have q:=PySem.W.cellsFrom_some sc.names n [] (.inl h)
 exact Option.isSome_iff_exists.mp q
theorem Jqe {CX : CXT} {P : Program} {w : World} {K : PySem.W.Frag} {mg : Str → Option Value} {base : Heap} {N ps : List Str} {qual : Str} {scope : Scope} {f : Addr} {cd : Value} {A : Around} {outer : List Env} {s s1 : Shared} {H : Hp} {E : XK} {us : List Value} {vs : List V}
  (S : Jic N ps scope) (hd : A.handled = none) (e0 : Env0 P w K mg base A outer s H) (hl : vs.length = ps.length) (r : Vals vs us)
  (x : InCallC s s.heap.objs.size (bindL (envOfC qual scope s.heap.objs.size f cd).kindOf (ps.zip us) fun _=>none) (cellsFrom (s.heap.objs.size + 1) scope.names []) (bindC (envOfC qual scope s.heap.objs.size f cd).kindOf (ps.zip us) fun _=>none) s1) :
  Inv (Jqz CX P w K mg base N qual scope f cd A outer s H E) [] (start N vs) H s1:=by
 have hpl : ps.length ≤ N.length:=by have:=congrArg List.length S.pre; rw [List.length_take] at this; omega
 obtain ⟨h1,tk,rfl,hk⟩:=x.done
 have noA : ∀ b : Addr,b ∉ (Jqz CX P w K mg base N qual scope f cd A outer s H E).ex:=fun b z=>absurd (show b ∈ ([] : List Addr) from z) (by simp)
 refine ⟨⟨e0.mod,S.kind,rfl,rfl,Nat.le_refl _,fun y z c h1 h2=>?_,fun y hy=>?_,fun y c _ h=>?_,fun _=>hd,Around.frames_deeper e0.frames,.inr ⟨rfl,rfl⟩,fun b z=>absurd z (noA b),e0.bs,e0.bsz,fun b _ _=>noA b,fun b z=>absurd z (noA b),e0.funs,e0.frf⟩,
  rfl,e0.bare,Un.kept hk,⟨_,x.toInCall.ns,fun i y v h1 h2 h3=>?_⟩,fun y c h=>⟨_,x.cell y c h⟩,e0.hok.fresh (Nat.le_refl _),fun y c h=>?_,fun p hp=>absurd (show p ∈ ([] : List (Addr × Obj)) from hp) (by simp),e0.hok.kept hk,?_⟩
 ·exact name_of_addr x.apart (PySem.mem_of_lookup h1) (PySem.mem_of_lookup h2)
 ·have hy : scope.names.lookup y = some .cell ∨ scope.names.lookup y = some .free:=hy
  rcases hy with hy | hy
  ·exact Jl5 hy
  ·exact absurd rfl (S.nofree _ (PySem.mem_of_lookup hy))
 ·exact Nat.le_of_lt (x.above y c (PySem.mem_of_lookup h))
 ·have hi : i < vs.length:=by
   unfold start at h2
   by_cases hi : i < vs.length
   ·exact hi
   ·rw [List.getElem?_append_right (by simpa using hi)] at h2
    rw [List.getElem?_replicate] at h2
    split at h2 <;> cases h2
  have ha : vs[i]? = some v:=by
   unfold start at h2
   rw [List.getElem?_append_left (by simpa using hi),List.getElem?_map] at h2
   cases e : vs[i]? with
   | none=>rw [e] at h2; cases h2
   | some a=>rw [e] at h2; cases h2; rfl
  obtain ⟨u,hu,rv⟩:=r.get ha
  have hp : ps[i]? = some y:=by
   rw [← S.pre,List.getElem?_take_of_lt (by omega)]; exact h1
  have ndP : ps.Nodup:=by rw [← S.pre]; exact S.nd.sublist (List.take_sublist _ _)
  refine ⟨u,rv,?_⟩
  rcases S.par y (List.mem_of_getElem? hp) with k | k
  ·exact .inl ⟨k,Jno ndP hp hu k⟩
  ·obtain ⟨c,e⟩:=Jl5 (n:=s.heap.objs.size + 1) k
   refine .inr ⟨.inl k,c,e,?_⟩
   have q:=x.cell y c e
   rw [Jnn ndP hp hu (by show scope.names.lookup y ≠ _; rw [k]; decide)] at q
   exact q
 ·exact .inl (e0.hok.fresh (Nat.le_of_lt (x.above y c (PySem.mem_of_lookup h))))
 ·unfold start
  show _ = N.length
  rw [List.length_append,List.length_map,List.length_replicate]
  omega
theorem fn_of {CX : CXT} {P : Program} {w : World} {K : PySem.W.Frag} {mg : Str → Option Value} {base : Heap} {k : Nat} {f : Addr} {name qual : Str} {params : Arguments} {body : List Stmt} {scope : Scope} {dV kV doc pm cdv ct oc : Value} {an od : Option Addr}
  {osl : Array (Option Value)} {N ps : List Str} {sp : Sp} (lk : K.lookup f = some ⟨oc,od,.func (PySem.W.fnOf name qual params body scope dV kV doc pm an cdv ct),osl⟩) (hcd : PySem.W.codeIn K cdv qual = true) (S : Jic N ps scope)
  (len : ∀ vs H Q E,sp vs H Q E → vs.length = ps.length)
  (hbody : ∀ (A : Around) (outer : List Env) (s : Shared) (H : Hp) (vs : List V) (Q : VK) (E : XK),Room k (A.deeper (envOfC qual scope s.heap.objs.size f cdv)) → sp vs H Q E →
   ∃ t,PSs (Jqz CX P w K mg base N qual scope f cdv A outer s H E) body t ∧ t { nx:=fun _ H'=>Q .non H', rt:=Q } (start N vs) H) :
  FnOk P w K mg base CX (k + 1) f (PySem.W.fnOf name qual params body scope dV kV doc pm an cdv ct) ps sp:=by
 refine ⟨len,fun A outer s H args us vs Q E hr e0 hb r hsp=>?_⟩
 have hl:=len _ _ _ _ hsp
 have KX : K.In s.heap:=e0.mod.kin.keeps fun b o e=>(e0.bs b o e).1
 have lim : s.heap.NoLimit:=e0.mod.nolimit.keeps fun b o e=>(e0.bs b o e).1
 have hkind : ∀ y ∈ ps.zip us,scope.names.lookup y.1 = some .local ∨ (scope.names.lookup y.1 = some .cell ∧ ((cellsFrom (s.heap.objs.size + 1) scope.names []).lookup y.1).isSome = true):=fun ⟨n,v⟩ hy=>by
  rcases S.par n (List.of_mem_zip hy).1 with q | q
  ·exact .inl q
  ·exact .inr ⟨q,PySem.W.cellsFrom_some _ _ _ (.inl q)⟩
 refine codeAny_call_function hr.depth (KX _ _ lk) rfl S.co S.gen rfl (PySem.W.codeRec_of KX hcd) (hb _ _ _ _ ?_)
 refine wpAny_newFunctionEnv_cells S.kind hkind fun env he s1 x=>?_
 subst he
 refine ⟨lim.keeps x.toInCall.keep,codeAny_func ?_⟩
 obtain ⟨t,ht,hq⟩:=hbody A outer s H vs Q E (hr.deeper _) hsp
 have I : Inv (Jqz CX P w K mg base N qual scope f cdv A outer s H E) [] (start N vs) H s1:=Jqe S hr.hd e0 hl r x
 refine wpAny_mono (ht [] s1 (start N vs) H _ I hq) (fun fl s' hs=>?_) fun e s' hs=>hs
 have fin : ∀ {σ' : St} {H' : Hp} {v : V} {u : Value},Inv (Jqz CX P w K mg base N qual scope f cdv A outer s H E) [] σ' H' s' → RelV v u → Q v H' → CE outer P w H s Q u s' :=
  fun {σ' H' v u} J rv q=>⟨v,H', J.os,J.bare,J.base,J.hok,rv,q⟩
 cases fl with
 | ret u =>
  obtain ⟨v,σ', H', J,rv,q⟩:=hs
  exact fin J rv q
 | next =>
  obtain ⟨σ', H', J,q⟩:=hs
  exact fin (v:=V.non) (u:=Value.none) J rfl q
 | brk =>
  obtain ⟨_,_,_,q⟩:=hs
  exact False.elim q
 | cont =>
  obtain ⟨_,_,_,q⟩:=hs
  exact False.elim q
end L2
namespace L2
open PySem PySem.Spec PyProof.Rows
section
variable {X : Cx} {x : Str} {p pos : Pos} {e : Expr} {es : List Expr} {t : TA} {id T : String} {r : List V → Hp → VK → Prop}
def tCB (r : List V → Hp → VK → Prop) (t : TA) : TE:=fun σ H Q=>t σ H fun vs H1=>r vs H1 Q
theorem Jib (hc : Jkd X (.builtin id) r) (hg : Gl X x) (hm : X.mg x = none) (hv : bootBuiltins x = some (.builtin id)) (ha : PA X (e :: es) t) (hn : x ≠ "__name__" := by decide) (hdb : (x == ("__debug__" : Str)) = false:=by decide)
  (he : starEach (e :: es) X.env = (false,eval e X.env) :: starEach es X.env:=by rfl) (hpl : (backTo pos (starEach es X.env)).any (·.1) = false:=by rfl) : PE X (.Call (.Name x p) (e :: es) [] pos) (tCB r t):=by
 intro pins s σ H Q I h
 refine wpAny_Call_Name_kw (Jlx I hg hm hv ?_ hn hdb)
 exact PyProof.Rows.callWith_builtin1 (thn (ha pos pins s σ H _ I h) fun us s1 ⟨vs,H1,I1,r1,q1⟩=>hc pins s1 σ H1 vs us Q I1 r1 q1) he hpl
theorem Jin (hc : Jkd X (.type T) r) (hg : Gl X x) (hm : X.mg x = none) (hv : bootBuiltins x = some (.type T)) (ha : PA X (e :: es) t) (hn : x ≠ "__name__" := by decide) (hdb : (x == ("__debug__" : Str)) = false:=by decide)
  (he : starEach (e :: es) X.env = (false,eval e X.env) :: starEach es X.env:=by rfl) (hpl : (backTo pos (starEach es X.env)).any (·.1) = false:=by rfl) : PE X (.Call (.Name x p) (e :: es) [] pos) (tCB r t):=by
 intro pins s σ H Q I h
 refine wpAny_Call_Name_kw (Jlx I hg hm hv ?_ hn hdb)
 exact PyProof.Rows.callWith_type1 (thn (ha pos pins s σ H _ I h) fun us s1 ⟨vs,H1,I1,r1,q1⟩=>hc pins s1 σ H1 vs us Q I1 r1 q1) he hpl
end
end L2
namespace HT
open PySem PyProof.Rows
section
open PySem.SeqAt
open PySem.AutoSeq1 (wpAny_loadPart')
open PySem.MeetsSeq PySem.MeetsSeq2 PySem.MeetsSeq3
end
section
variable {prog : Program} {w : World} {A : Around} {E : Value → Shared → Prop} {s : Shared}
def sIx (n d : Nat) : Option Int → Nat
 | none=>d
 | some v=>if v < 0 then (v + (n : Int)).toNat else min v.toNat n
theorem sIx_nat (n d k : Nat) : sIx n d (some (k : Int)) = min k n:=by
 show (if (k : Int) < 0 then ((k : Int) + (n : Int)).toNat else min (k : Int).toNat n) = min k n
 rw [if_neg (by omega),Int.toNat_natCast]
end
end HT
namespace L2
open PySem PySem.Spec PyProof.Rows
abbrev TO:=St → Hp → (Option Int → Hp → Prop) → Prop
def PO (X : Cx) (e : Option Expr) (t : TO) : Prop :=
 ∀ (pins : List (Addr × Obj)) (s : Shared) (σ : St) (H : Hp) (Q : Option Int → Hp → Prop),Inv X pins σ H s → t σ H Q →
  wpAny (model X.prog X.w) X.A (evalPart e X.env) (fun u s'=>∃ o H', Inv X pins σ H' s' ∧ IsPart u o ∧ Q o H') X.xe s
def Jy7 : TO:=fun _ H Q=>Q none H
def tPart (t : TE) : TO:=fun σ H Q=>t σ H fun x H1=>∃ i,x = .int i ∧ Q (some i) H1
section
variable {X : Cx} {e : Expr} {te : TE} {lo hi : Option Expr} {tl th : TO} {pos p2 : Pos}
theorem Ju0 : PO X none Jy7:=by
 intro pins s σ H Q I h
 rw [evalPart_none]
 exact wpAny_pure ⟨none,H,I,.none,h⟩
theorem Jol (h : PE X e te) : PO X (some e) (tPart te):=by
 intro pins s σ H Q I hw
 rw [evalPart_some]
 refine thn (h pins s σ H _ I hw) fun u s1 ⟨x,H1,I1,r1,q1⟩=>?_
 obtain ⟨i,rfl,q⟩:=q1
 obtain ⟨t,rfl⟩:=r1
 exact ⟨some i,H1,I1,.int i t,q⟩
def SlR (X : Cx) (r : V → Option Int → Option Int → Hp → VK → Prop) : Prop :=
 ∀ (pins : List (Addr × Obj)) (s : Shared) (σ : St) (H : Hp) (x : V) (v vl vu : Value) (lo hi : Option Int) (sl : Addr) (Q : VK),Inv X pins σ H s → RelV x v → s.heap.IsSliceOf sl vl vu .none → IsPart vl lo → IsPart vu hi → r x lo hi H Q →
  ∃ T id,typeLookup (.type T) "__getitem__" = pure (some (.builtin id)) ∧ s.TypeIs v T ∧ wpAny (model X.prog X.w) X.A (getItem v (.ref sl)) (EP X pins σ Q) X.xe s
def tSl (r : V → Option Int → Option Int → Hp → VK → Prop) (te : TE) (tl th : TO) : TE:=fun σ H Q=>te σ H fun x H1=>tl σ H1 fun l H2=>th σ H2 fun u H3=>r x l u H3 Q
theorem Jpc {r : V → Option Int → Option Int → Hp → VK → Prop} (hr : SlR X r) (he : PE X e te) (hl : PO X lo tl) (hu : PO X hi th) : PE X (.Subscript e (.Slice lo hi none p2) pos) (tSl r te tl th):=by
 intro pins s σ H Q I h
 refine Subscript_ (thn (he pins s σ H _ I h) fun v s1 ⟨x,H1,I1,r1,q1⟩=>?_)
 refine wpAny_Slice (thn (hl pins s1 σ H1 _ I1 q1) fun vl s2 ⟨l,H2,I2,pl,q2⟩=>thn (hu pins s2 σ H2 _ I2 q2) fun vu s3 ⟨u,H3,I3,pu,q3⟩=>?_)
 rw [evalPart_none]
 refine wpAny_pure ?_
 have I4 : Inv X pins σ H3 { s3 with heap:=s3.heap.push { cls:=.type "slice",data:=.fields #[vl,vu,.none] } }:=I3.kept (t':=s3.toks) fun b ob q=>Heap.get?_push_of_some _ q
 obtain ⟨T,id,hT,ht,hg⟩:=hr pins { s3 with heap:=s3.heap.push { cls:=.type "slice",data:=.fields #[vl,vu,.none] } } σ H3 x v vl vu l u s3.heap.objs.size Q I4 r1 (Heap.IsSliceOf.new ..) pl pu q3
 show wpAny (model X.prog X.w) X.A (subscriptTail e (.Slice lo hi none p2) v (.ref s3.heap.objs.size)) (EP X pins σ Q) X.xe { s3 with heap:=s3.heap.push { cls:=.type "slice",data:=.fields #[vl,vu,.none] } }
 exact tail_any (ops:=[.ref s3.heap.objs.size,v]) ht hT hg (by with_unfolding_all rfl)
def Jn9 (xs : List V) (lo hi : Option Int) : List V:=(xs.drop (HT.sIx xs.length 0 lo)).take (HT.sIx xs.length xs.length hi - HT.sIx xs.length 0 lo)
theorem Jrp (xs : List V) (lo hi : Option Int) : (Jn9 xs lo hi).length ≤ xs.length:=by
 unfold Jn9
 rw [List.length_take,List.length_drop]
 omega
end
end L2
namespace L2
open PySem PySem.Spec PyProof.Rows
def ixN (n : Nat) (i : Int) : Option Nat:=if 0 ≤ i then (if i < n then some i.toNat else none) else if -(n : Int) ≤ i then some (i + n).toNat else none
def atI {α : Type} (xs : List α) (i : Int) : Option α:=(ixN xs.length i).bind fun j=>xs[j]?
theorem Jtt {n : Nat} {i : Int} {j : Nat} (h : ixN n i = some j) : seqIndex? i n = some j ∧ j < n ∧ -(n : Int) ≤ i ∧ i < n:=by
 unfold ixN at h
 by_cases h0 : 0 ≤ i
 ·rw [if_pos h0] at h
  by_cases h1 : i < n
  ·rw [if_pos h1] at h
   have e : i.toNat = j:=Option.some.inj h
   exact ⟨by rw [seqIndex_of h0 h1,e],by omega,by omega,h1⟩
  ·rw [if_neg h1] at h; cases h
 ·rw [if_neg h0] at h
  by_cases h1 : -(n : Int) ≤ i
  ·rw [if_pos h1] at h
   have e : (i + n).toNat = j:=Option.some.inj h
   exact ⟨by rw [seqIndex_neg (by omega) h1,e],by omega,h1,by omega⟩
  ·rw [if_neg h1] at h; cases h
theorem Jqu {α : Type} {xs : List α} {i : Int} {v : α} (h : atI xs i = some v) : ∃ j,seqIndex? i xs.length = some j ∧ xs[j]? = some v ∧ j < xs.length ∧ -(xs.length : Int) ≤ i ∧ i < xs.length:=by
 unfold atI at h
 cases e : ixN xs.length i with
 | none=>rw [e] at h; cases h
 | some j =>
  rw [e] at h
  obtain ⟨h1,h2,h3,h4⟩:=Jtt e
  exact ⟨j,h1,h,h2,h3,h4⟩
theorem Jlb {α : Type} {xs : List α} {j : Nat} {v : α} (h : xs[j]? = some v) : atI xs (j : Int) = some v:=by
 have hj : j < xs.length:=(List.getElem?_eq_some_iff.mp h).1
 have e : ixN xs.length (j : Int) = some j:=by
  unfold ixN
  rw [if_pos (by omega),if_pos (by omega)]; simp
 unfold atI; rw [e]; exact h
def Jx5 (b : Expr) : Prop:=∀ o i,subscripted b false o i = operate [o,i] (getItem o i)
def IxR (X : Cx) (r : R2) : Prop :=
 ∀ (value slice : Expr) (pins : List (Addr × Obj)) (s : Shared) (σ : St) (H : Hp) (x y : V) (v u : Value) (Q : VK),Inv X pins σ H s → RelV x v → RelV y u → r x y H Q →
  subscripted slice false v u = operate [v,u] (getItem v u) → wpAny (model X.prog X.w) X.A (subscriptTail value slice v u) (EP X pins σ Q) X.xe s
def MtR (X : Cx) (id : String) (r : V → List V → Hp → VK → Prop) : Prop :=
 ∀ (pins : List (Addr × Obj)) (s : Shared) (σ : St) (H : Hp) (x : V) (xs : List V) (v : Value) (us : List Value) (Q : VK),Inv X pins σ H s → RelV x v → Vals xs us → r x xs H Q →
  wpAny (model X.prog X.w) X.A (call (.builtin id) (v :: us)) (EP X pins σ Q) X.xe s
section
variable {X : Cx} {a b : Expr} {ta tb : TE} {pos : Pos}
theorem Jim {r : R2} (hr : IxR X r) (ha : PE X a ta) (hb : PE X b tb) (hs : Jx5 b) : PE X (.Subscript a b pos) (tOp r ta tb):=by
 intro pins s σ H Q I h
 exact Subscript_ (binT ha hb I h fun v u s2 x y H2 I2 rx ry q=>hr a b pins s2 σ H2 x y v u Q I2 rx ry q (hs _ _))
def rIxL (K : PySem.W.Frag) : R2:=fun x y H Q=>∃ p xs i v,x = .ref p ∧ y = .int i ∧ SqL K H p xs ∧ atI xs i = some v ∧ Q v H
def rIxT (K : PySem.W.Frag) : R2:=fun x y H Q=>∃ p xs i v,x = .ref p ∧ y = .int i ∧ SqT K H p xs ∧ atI xs i = some v ∧ Q v H
def rIxS : R2:=fun x y H Q=>∃ z i c,x = .str z ∧ y = .int i ∧ z.length ≤ sizeLine ∧ atI z.cps.toList i = some c ∧ Q (.str ⟨#[c]⟩) H
theorem Jiw : IxR X (rIxL X.K):=by
 intro value slice pins s σ H x y v u Q I rx ry h hs
 obtain ⟨p,xs,i,z,rfl,rfl,hq,he,q⟩:=h
 cases rx
 obtain ⟨t,rfl⟩:=ry
 obtain ⟨its,r,pl,hz⟩:=I.list hq
 obtain ⟨j,h1,h2,h3,h4,h5⟩:=Jqu he
 obtain ⟨w,ew,rw'⟩:=r.get h2
 have hl:=r.length
 have hn:=Jnu
 have fin : EP X pins σ Q w s:=⟨z,H,I,rw', q⟩
 by_cases h0 : 0 ≤ i
 ·have hj : i.toNat = j:=by
   rw [seqIndex_of h0 h5] at h1
   exact Option.some.inj h1
  exact item_listR pl.isList h0 (by omega) (by rw [hj]; simpa using ew) fin hs
 ·have hj : (i + (its.toArray.size : Int)).toNat = j:=by
   rw [seqIndex_neg (by omega) h4] at h1
   rw [List.size_toArray,← hl]
   exact Option.some.inj h1
  exact subscriptTail_builtinR (x:=w) pl.isList.typeIs slot_list_getitem.lookup
   (wpAny_getItem_list_neg (Q:=fun r s'=>r = w ∧ EP X pins σ Q r s') pl.isList (by omega) (by rw [List.size_toArray] <;> omega) (by omega) (by rw [hj]; simpa using ew) ⟨rfl,fin⟩) hs
theorem Jj5 : IxR X (rIxT X.K):=by
 intro value slice pins s σ H x y v u Q I rx ry h hs
 obtain ⟨p,xs,i,z,rfl,rfl,hq,he,q⟩:=h
 cases rx
 obtain ⟨t,rfl⟩:=ry
 obtain ⟨its,r,pl,hz⟩:=I.tuple hq
 obtain ⟨j,h1,h2,h3,h4,h5⟩:=Jqu he
 obtain ⟨w,ew,rw'⟩:=r.get h2
 have hl:=r.length
 have hn:=Jnu
 have fin : EP X pins σ Q w s:=⟨z,H,I,rw', q⟩
 exact subscriptTail_builtinR (x:=w) pl.typeIs slot_tuple_getitem.lookup
  (getItem_tuple (j:=j) (Q:=fun r s'=>r = w ∧ EP X pins σ Q r s') pl (by omega) (by omega) (by rw [List.size_toArray,← hl]; exact h1) (by simpa using ew) ⟨rfl,fin⟩) hs
theorem Jvo : IxR X rIxS:=by
 intro value slice pins s σ H x y v u Q I rx ry h hs
 obtain ⟨z,i,c,rfl,rfl,hz,he,q⟩:=h
 obtain ⟨t,rfl⟩:=rx
 obtain ⟨t', rfl⟩:=ry
 obtain ⟨j,h1,h2,h3,h4,h5⟩:=Jqu he
 have hl : z.cps.toList.length = z.length:=by simp [Str.length]
 rw [hl] at h1 h4 h5
 have hn:=Jnu
 exact tail_any (typeIs_str s z t) slot_str_getitem.lookup (getItem_str (c:=c) (by
  have e1 : decide (i < -(2 ^ 63 : Int)) = false:=decide_eq_false (by omega)
  have e2 : decide (i ≥ 2 ^ 63) = false:=decide_eq_false (by omega)
  rw [e1,e2,Bool.or_false]) (by rw [h1]; simpa using h2) ⟨.str ⟨#[c]⟩,H,I.tok _,⟨_,rfl⟩,q⟩) hs
theorem Jsu (its : List Value) (n j : Nat) (u : Value) : Obj.mapSeq (·.setIfInBounds j u) { cls:=.type "list",data:=.seq its.toArray n } = { cls:=.type "list",data:=.seq (its.set j u).toArray n }:=by
 simp [Obj.mapSeq]
theorem Inv.lst {pins : List (Addr × Obj)} {σ : St} {H : Hp} {s : Shared} {p : Addr} {xs : List V} (I : Inv X pins σ H s) (h : H p = some (.lst xs)) :
  ∃ (its : List Value) (n : Nat),Vals xs its ∧ s.heap.get? p = some { cls:=.type "list",data:=.seq its.toArray n } ∧ xs.length ≤ sizeLine:=by
 obtain ⟨z,its,n,r,e⟩:=I.hok p _ h
 exact ⟨its,n,r,e,z⟩
theorem Inv.lstUpd {pins : List (Addr × Obj)} {σ : St} {H : Hp} {s : Shared} {p : Addr} {xs ys : List V} {its its' : List Value} {n n' : Nat} {f : Obj → Obj} (I : Inv X pins σ H s) (h : H p = some (.lst xs))
  (ho : s.heap.get? p = some { cls:=.type "list",data:=.seq its.toArray n }) (hf : f { cls:=.type "list",data:=.seq its.toArray n } = { cls:=.type "list",data:=.seq its'.toArray n' }) (r : Vals ys its') (hz : ys.length ≤ sizeLine) (t : Nat) :
  Inv X pins σ (upd H p (.lst ys)) { s with heap:=s.heap.update p f,toks:=t }:=by
 have e : (s.heap.update p f).get? p = some { cls:=.type "list",data:=.seq its'.toArray n' }:=by
  rw [Heap.get?_update_self f ho (by rw [hf] <;> rfl),hf]
 refine I.write (x:=p) (e:=p) (by rw [h]; trivial) (.inl rfl) (fun b u hb q=>(Heap.get?_update_other _ _ (Ne.symm hb)).trans q) ⟨_,e⟩ ?_
 exact ⟨hz,its', n', r,e⟩
def rSetL : V → V → V → Hp → (Hp → Prop) → Prop:=fun o i v H Q=>∃ p xs k j,o = .ref p ∧ i = .int k ∧ H p = some (.lst xs) ∧ ixN xs.length k = some j ∧ Q (upd H p (.lst (xs.set j v)))
theorem Jph : PSet X rSetL:=by
 intro pins s σ H o i v ov iv u Q I ro ri rv h
 obtain ⟨p,xs,k,j,rfl,rfl,hp,hj,q⟩:=h
 cases ro
 obtain ⟨t,rfl⟩:=ri
 obtain ⟨its,n,r,ho,hz⟩:=I.lst hp
 obtain ⟨h1,h2,h3,h4⟩:=Jtt hj
 have hl:=r.length
 have hn:=Jnu
 have I' : Inv X pins σ (upd H p (.lst (xs.set j v))) { s with heap:=s.heap.update p (Obj.mapSeq (·.setIfInBounds j u)) } :=
  I.lstUpd hp ho (Jsu its n j u) (r.set rv j) (by rw [List.length_set]; exact hz) s.toks
 by_cases h0 : 0 ≤ k
 ·have hk : k.toNat = j:=by
   rw [seqIndex_of h0 h4] at h1
   exact Option.some.inj h1
  exact PySem.W.ki_setAt ho h0 (by omega) (by rw [List.size_toArray,← hl]; exact h4) (by rw [hk]; exact ⟨_,I', q⟩)
 ·have hk : (k + (its.toArray.size : Int)).toNat = j:=by
   rw [seqIndex_neg (by omega) h3] at h1
   rw [List.size_toArray,← hl]
   exact Option.some.inj h1
  exact PySem.W.ki_setBack ho (by omega) (by rw [List.size_toArray,← hl]; exact h3) (by omega) (by rw [hk]; exact ⟨_,I', q⟩)
theorem Jri (lo hi : Option Int) (n : Nat) : (sliceBounds lo hi none n).1 = ((HT.sIx n 0 lo : Nat) : Int) ∧ (sliceBounds lo hi none n).2.1 = ((HT.sIx n n hi : Nat) : Int) ∧ (sliceBounds lo hi none n).2.2 = 1:=by
 refine ⟨?_,?_,rfl⟩
 ·cases lo with
  | none=>simp [sliceBounds,HT.sIx]
  | some i =>
   simp only [sliceBounds,HT.sIx,Option.getD_none,show (1 : Int) > 0 by decide,if_true]
   by_cases h : i < 0
   ·simp only [h,if_true] <;> omega
   ·simp only [h,if_false] <;> omega
 ·cases hi with
  | none=>simp [sliceBounds,HT.sIx]
  | some i =>
   simp only [sliceBounds,HT.sIx,Option.getD_none,show (1 : Int) > 0 by decide,if_true]
   by_cases h : i < 0
   ·simp only [h,if_true] <;> omega
   ·simp only [h,if_false] <;> omega
theorem Jq3 (its : List Value) (lo hi : Option Int) : slicePick its.toArray lo hi none = ((its.drop (HT.sIx its.length 0 lo)).take (HT.sIx its.length its.length hi - HT.sIx its.length 0 lo)).toArray:=by
 obtain ⟨h1,h2,h3⟩:=Jri lo hi its.toArray.size
 unfold slicePick
 rw [h1,h2,h3]
 simp only [sliceRange_one,pick_run,List.size_toArray] <;> rfl
def rSlL (K : PySem.W.Frag) : V → Option Int → Option Int → Hp → VK → Prop:=fun x lo hi H Q=>∃ a xs,x = .ref a ∧ SqL K H a xs ∧ ∀ p,H p = none → Q (.ref p) (upd H p (.lst (Jn9 xs lo hi)))
theorem Jrh : SlR X (rSlL X.K):=by
 intro pins s σ H x v vl vu lo hi sl Q I rx hs pl pu h
 obtain ⟨a,xs,rfl,hx,q⟩:=h
 cases rx
 obtain ⟨its,r,ht,hz⟩:=I.list hx
 have hlen:=r.length
 refine ⟨"list",_,slot_list_getitem.lookup,ht.isList.typeIs,?_⟩
 refine wpAny_getItem_list_slice ht.isList hs pl pu .none (by simp) ?_ (by rw [List.size_toArray] <;> omega)
 rw [Jq3,← hlen]
 refine ⟨.ref s.heap.objs.size,_,I.laid (t':=s.toks) (o:=.lst (Jn9 xs lo hi)) (fun b ob q=>Heap.get?_push_of_some _ q) (Nat.le_refl _) ?_,rfl,q _ (I.hok.fresh (Nat.le_refl _))⟩
 exact ⟨Nat.le_trans (Jrp xs lo hi) hz,_,0,(r.drop (HT.sIx xs.length 0 lo)).take (HT.sIx xs.length xs.length hi - HT.sIx xs.length 0 lo),Heap.get?_push_size _ rfl⟩
def Jkj : V → Bool
 | .non=>true
 | .bl _=>true
 | .int _=>true
 | .str _=>true
 | _=>false
def eqV : V → V → Bool
 | .non,.non=>true
 | .bl a,.bl b=>a == b
 | .bl a,.int b=>(if a then 1 else 0) == b
 | .int a,.bl b=>a == (if b then 1 else 0)
 | .int a,.int b=>a == b
 | .str a,.str b=>a == b
 | _,_=>false
theorem Jvj {A : Around} {s : Shared} {y x : V} {u v : Value} (ry : RelV y u) (rx : RelV x v) (fy : Jkj y = true) (fx : Jkj x = true) : SeqAt.EqAt A s u v (eqV y x):=by
 cases y with
 | non =>
  cases ry
  cases x with
  | non=>cases rx; exact SeqAt.EqAt.same _
  | bl b=>cases rx; exact SeqAt.EqAt.none_bool b
  | int b=>obtain ⟨t,rfl⟩:=rx; exact SeqAt.EqAt.none_int b t
  | str b=>obtain ⟨t,rfl⟩:=rx; exact SeqAt.EqAt.none_str b t
  | _=>exact absurd (show false = true from fx) Bool.false_ne_true
 | bl a =>
  cases ry
  cases x with
  | non=>cases rx; exact SeqAt.EqAt.bool_none a
  | bl b=>cases rx; exact SeqAt.EqAt.bool_bool a b
  | int b=>obtain ⟨t,rfl⟩:=rx; exact SeqAt.EqAt.bool_int a b t
  | str b=>obtain ⟨t,rfl⟩:=rx; exact SeqAt.EqAt.bool_str a b t
  | _=>exact absurd (show false = true from fx) Bool.false_ne_true
 | int a =>
  obtain ⟨t', rfl⟩:=ry
  cases x with
  | non=>cases rx; exact SeqAt.EqAt.int_none a t'
  | bl b=>cases rx; exact SeqAt.EqAt.int_bool a t' b
  | int b=>obtain ⟨t,rfl⟩:=rx; exact SeqAt.EqAt.int_int a t' b t
  | str b=>obtain ⟨t,rfl⟩:=rx; exact SeqAt.EqAt.int_str a t' b t
  | _=>exact absurd (show false = true from fx) Bool.false_ne_true
 | str a =>
  obtain ⟨t', rfl⟩:=ry
  cases x with
  | non=>cases rx; exact SeqAt.EqAt.str_none a t'
  | bl b=>cases rx; exact SeqAt.EqAt.str_bool a t' b
  | int b=>obtain ⟨t,rfl⟩:=rx; exact SeqAt.EqAt.str_int a t' b t
  | str b=>obtain ⟨t,rfl⟩:=rx; exact SeqAt.EqAt.str_str a t' b t
  | _=>exact absurd (show false = true from fx) Bool.false_ne_true
 | _=>exact absurd (show false = true from fy) Bool.false_ne_true
def eqU (x : V) (u : Value) : Bool:=match u with
 | .none=>eqV .non x
 | .bool b=>eqV (.bl b) x
 | .int i _=>eqV (.int i) x
 | .str z _=>eqV (.str z) x
 | _=>false
theorem Jvk {x y : V} {u : Value} (r : RelV y u) (f : Jkj y = true) : eqU x u = eqV y x:=by
 cases y with
 | non=>cases r; rfl
 | bl b=>cases r; rfl
 | int i=>obtain ⟨t,rfl⟩:=r; rfl
 | str z=>obtain ⟨t,rfl⟩:=r; rfl
 | _=>exact absurd (show false = true from f) Bool.false_ne_true
theorem Jqs {x : V} : ∀ {xs : List V} {us : List Value},Vals xs us → xs.all Jkj = true → us.any (eqU x) = xs.any fun y=>eqV y x
 | _,_,.nil,_=>rfl
 | y :: xs,u :: us,.cons r t,f=>by
  rw [List.all_cons,Bool.and_eq_true] at f
  rw [List.any_cons,List.any_cons,Jvk r f.1,Jqs t f.2]
theorem Jp3 {A : Around} {s : Shared} {x : V} {v : Value} (rx : RelV x v) (fx : Jkj x = true) : ∀ {xs : List V} {us : List Value},Vals xs us → xs.all Jkj = true → ∀ u ∈ us,SeqAt.EqAt A s u v (eqU x u)
 | _,_,.nil,_=>fun u hu=>by cases hu
 | y :: xs,u :: us,.cons r t,f=>fun u' hu=>by
  rw [List.all_cons,Bool.and_eq_true] at f
  rcases List.mem_cons.mp hu with rfl | hu
  ·rw [Jvk r f.1]; exact Jvj r rx f.1 fx
  ·exact Jp3 rx fx t f.2 u' hu
def inV (x : V) (xs : List V) : Bool:=xs.any fun y=>eqV y x
def rIn (K : PySem.W.Frag) (neg : Bool) : R2:=fun x y H Q=>∃ p xs,y = .ref p ∧ (SqL K H p xs ∨ SqT K H p xs) ∧ Jkj x = true ∧ xs.all Jkj = true ∧ Q (.bl (if neg then !inV x xs else inV x xs)) H
theorem Jup : OpR X (compareOp .In) (rIn X.K false):=by
 intro pins s σ H x y v u Q I rx ry h
 obtain ⟨p,xs,rfl,hq,fx,fs,q⟩:=h
 cases ry
 rcases hq with hq | hq
 ·obtain ⟨its,r,pl,hz⟩:=I.list hq
  refine SeqAt.in_listAt (eqU x) pl.isList (fun w hw=>Jp3 rx fx r fs w (by simpa using hw)) ⟨.bl _,H,I,rfl,?_⟩
  rw [show its.toArray.any (eqU x) = its.any (eqU x) by simp,Jqs r fs]
  exact q
 ·obtain ⟨its,r,pl,hz⟩:=I.tuple hq
  refine SeqAt.in_tupleAt (eqU x) pl (fun w hw=>Jp3 rx fx r fs w (by simpa using hw)) ⟨.bl _,H,I,rfl,?_⟩
  rw [show its.toArray.any (eqU x) = its.any (eqU x) by simp,Jqs r fs]
  exact q
theorem Jih : Jkd X (.builtin "len") (fun xs H Q=>∃ p ys,xs = [.ref p] ∧ (SqL X.K H p ys ∨ SqT X.K H p ys) ∧ Q (.int ys.length) H):=by
 intro pins s σ H xs us Q I r h
 obtain ⟨p,ys,rfl,hq,q⟩:=h
 obtain ⟨u,rfl,rx⟩:=Jlo r
 cases rx
 have hn:=Jnu
 rcases hq with hq | hq
 ·obtain ⟨its,r', pl,hz⟩:=I.list hq
  have hlen:=r'.length
  exact Calls.call_len_list pl.isList (by simp only [List.size_toArray] <;> omega) ⟨.int ys.length,H,I.tok _,⟨s.toks + 1,by rw [List.size_toArray,hlen]⟩,q⟩
 ·obtain ⟨its,r', pl,hz⟩:=I.tuple hq
  have hlen:=r'.length
  exact len_tuple pl (by simp only [List.size_toArray] <;> omega) ⟨.int ys.length,H,I.tok _,⟨s.toks + 1,by rw [List.size_toArray,hlen]⟩,q⟩
theorem Jqx : Jkd X (.builtin "len") (fun xs H Q=>∃ z,xs = [.str z] ∧ z.length ≤ sizeLine ∧ Q (.int z.length) H):=by
 intro pins s σ H xs us Q I r h
 obtain ⟨z,rfl,hz,q⟩:=h
 obtain ⟨u,rfl,t,rfl⟩:=Jlo r
 have hn:=Jnu
 exact len_str (by omega) ⟨.int z.length,H,I.tok _,⟨_,rfl⟩,q⟩
theorem Jjl : Jkd X (.type "list") (fun xs H Q=>∃ p ys,xs = [.ref p] ∧ (SqL X.K H p ys ∨ SqT X.K H p ys) ∧ ∀ l,H l = none → Q (.ref l) (upd H l (.lst ys))):=by
 intro pins s σ H xs us Q I r h
 obtain ⟨p,ys,rfl,hq,q⟩:=h
 obtain ⟨u,rfl,rx⟩:=Jlo r
 cases rx
 have fin : ∀ (its : List Value),Vals ys its → ys.length ≤ sizeLine → ∀ (h' : Heap) (c' : Nat),(∀ b o', s.heap.get? b = some o' → h'.get? b = some o') →
   h'.get? s.heap.objs.size = some { cls:=.type "list",dict:=none,data:=.seq its.toArray c', slots:=#[] } → EP X pins σ Q (.ref s.heap.objs.size) { s with heap:=h' }:=fun its r' hz h' c' kp e =>
  ⟨.ref s.heap.objs.size,_,I.laid (t':=s.toks) kp (Nat.le_refl _) (show ObjOk X.prog X.w _ h' _ (.lst ys) from ⟨hz,its,c', r', e⟩),rfl,q _ (I.hok.fresh (Nat.le_refl _))⟩
 rcases hq with hq | hq
 ·obtain ⟨its,r', pl,hz⟩:=I.list hq
  have hlen:=r'.length
  obtain ⟨o,ho,hc,n,hd⟩:=pl.isList
  exact call_list_seq p (.inl rfl) ho hc hd (fun h' c' kp e=>fin its r' hz h' c' kp e) (by simp only [List.size_toArray] <;> omega)
 ·obtain ⟨its,r', pl,hz⟩:=I.tuple hq
  have hlen:=r'.length
  obtain ⟨o,ho,hc,n,hd⟩:=pl
  exact call_list_seq p (.inr rfl) ho hc hd (fun h' c' kp e=>fin its r' hz h' c' kp e) (by simp only [List.size_toArray] <;> omega)
theorem Jis : Jkd X (.type "tuple") (fun xs H Q=>∃ p ys,xs = [.ref p] ∧ ((SqL X.K H p ys ∧ ∀ l,H l = none → Q (.ref l) (upd H l (.tup ys))) ∨ (SqT X.K H p ys ∧ Q (.ref p) H))):=by
 intro pins s σ H xs us Q I r h
 obtain ⟨p,ys,rfl,h⟩:=h
 obtain ⟨u,rfl,rx⟩:=Jlo r
 cases rx
 rcases h with ⟨hq,q⟩ | ⟨hq,q⟩
 ·obtain ⟨its,r', pl,hz⟩:=I.list hq
  have hlen:=r'.length
  refine call_tuple_list pl.isList (fun h' kp=>?_) (by simp only [List.size_toArray] <;> omega)
  have I1 : Inv X pins σ H { s with heap:=h' }:=I.kept (t':=s.toks) kp
  have I2 : Inv X pins σ (upd H h'.objs.size (.tup ys)) { s with heap:=h'.push { cls:=.type "tuple",data:=.seq its.toArray } } :=
   I1.laid (t':=s.toks) (fun b o e=>Heap.get?_push_of_some _ e) (Nat.le_refl _) (show ObjOk X.prog X.w _ _ _ (.tup ys) from ⟨hz,its,r', IsTup.new _ _⟩)
  exact ⟨.ref h'.objs.size,_,I2,rfl,q _ (I1.hok.fresh (Nat.le_refl _))⟩
 ·obtain ⟨its,r', pl,hz⟩:=I.tuple hq
  exact call_tuple_same pl ⟨.ref p,H,I,rfl,q⟩
def tyV (K : PySem.W.Frag) (T : String) (x : V) (H : Hp) : Prop:=match x with
 | .str _=>T = "str"
 | .int _=>T = "int"
 | .ref p=>(T = "list" ∧ ∃ xs,SqL K H p xs) ∨ (T = "tuple" ∧ ∃ o,K.lookup p = some o ∧ o.cls = .type "tuple" ∧ o.dict = none) ∨
   (T = "dict" ∧ ((∃ kvs,H p = some (.dK kvs)) ∨ ∃ kvs,H p = some (.dT kvs))) ∨ (T = "set" ∧ ∃ S n,H p = some (.set S n))
 | _=>False
theorem Jwr {pins : List (Addr × Obj)} {σ : St} {H : Hp} {s : Shared} {T : String} {x : V} {v : Value} (I : Inv X pins σ H s) (r : RelV x v) (ty : tyV X.K T x H) :
  s.TypeIs v T ∧ ∀ a,v = .ref a → ∃ ob,s.heap.get? a = some ob ∧ ob.dict = none:=by
 cases x with
 | str z =>
  obtain ⟨t,rfl⟩:=r
  cases (show T = "str" from ty)
  exact ⟨typeIs_str s z t,fun _ e=>nomatch e⟩
 | int i =>
  obtain ⟨t,rfl⟩:=r
  cases (show T = "int" from ty)
  exact ⟨typeIs_int s i t,fun _ e=>nomatch e⟩
 | ref p =>
  cases r
  rcases ty with ⟨rfl,xs,hq⟩ | ⟨rfl,o,hk,hc,hd⟩ | ⟨rfl,hk⟩ | ⟨rfl,S,n,hk⟩
  ·obtain ⟨its,_,pl,_⟩:=I.list hq
   refine ⟨pl.isList.typeIs,fun a e=>?_⟩
   cases e
   obtain ⟨o,n,e,c,hd,_⟩:=pl
   exact ⟨o,e,hd⟩
  ·refine ⟨⟨o,I.kIn p o hk,hc⟩,fun a e=>?_⟩
   cases e
   exact ⟨o,I.kIn _ o hk,hd⟩
  ·have z : ∃ o,s.heap.get? p = some o ∧ o.ExactDict:=by
    rcases hk with ⟨kvs,hk⟩ | ⟨kvs,hk⟩
    ·obtain ⟨_,_,_,_,o,_,_,e,ex,_⟩:=I.hok p _ hk
     exact ⟨o,e,ex⟩
    ·obtain ⟨_,_,_,_,o,_,_,e,ex,_⟩:=I.hok p _ hk
     exact ⟨o,e,ex⟩
   obtain ⟨o,e,ex⟩:=z
   refine ⟨⟨o,e,ex.1⟩,fun a e2=>?_⟩
   cases e2
   exact ⟨o,e,ex.2.1⟩
  ·obtain ⟨o,_,_,_,e,ex,_⟩:=I.hok p _ hk
   refine ⟨⟨o,e,ex.1⟩,fun a e2=>?_⟩
   cases e2
   exact ⟨o,e,ex.2.1⟩
 | _=>exact False.elim ty
def tBM0 (K : PySem.W.Frag) (T : String) (r : V → List V → Hp → VK → Prop) (to : TE) : TE:=fun σ H Q=>to σ H fun x H1=>tyV K T x H1 ∧ r x [] H1 Q
def tBM (K : PySem.W.Frag) (T : String) (r : V → List V → Hp → VK → Prop) (to : TE) (t : TA) : TE:=fun σ H Q=>to σ H fun x H1=>tyV K T x H1 ∧ t σ H1 fun xs H2=>r x xs H2 Q
variable {o e : Expr} {es : List Expr} {to : TE} {t : TA} {name : Str} {apos cpos : Pos} {T id : String} {r : V → List V → Hp → VK → Prop}
theorem Jw1 (pa : PlainAttrs T) (slot : Slot T name id) (hty : typeOf (.builtin id) = pure (.type "method_descriptor")) (hm : MtR X id r) (ho : PE X o to)
  (hbase : attributeBase o name X.env (eval o X.env) = eval o X.env:=by rfl) (hline : (apos.endLine == cpos.line) = true:=by rfl) : PE X (.Call (.Attribute o name apos) [] [] cpos) (tBM0 X.K T r to):=by
 intro pins s σ H Q I h
 refine wpAny_Call_method0_late hbase hline (thn (ho pins s σ H _ I h) fun v s1 ⟨x,H1,I1,r1,ty,q1⟩=>?_)
 obtain ⟨h1,h2⟩:=Jwr I1 r1 ty
 exact ⟨T,id,pa,slot,hty,h1,h2,Calls.callWith_builtin rfl (PySem.evalArgs_none (hm pins s1 σ H1 x [] v [] Q I1 r1 .nil q1))⟩
theorem Jo7 (pa : PlainAttrs T) (slot : Slot T name id) (hty : typeOf (.builtin id) = pure (.type "method_descriptor")) (hm : MtR X id r) (ho : PE X o to) (ha : PA X (e :: es) t)
  (hbase : attributeBase o name X.env (eval o X.env) = eval o X.env:=by rfl)
  (hfew : ((backTo cpos (starEach (e :: es) X.env)).all (fun x=>!x.1) && (backToKw cpos (keywordEach [] X.env)).all (fun x=>x.1.isSome)
   && decide ((e :: es).length + ([] : List Keyword).length + (if ([] : List Keyword).isEmpty then 0 else 1) < 30)) = true:=by rfl)
  (hline : (apos.endLine == cpos.line) = true:=by rfl) (hs : starEach (e :: es) X.env = (false,eval e X.env) :: starEach es X.env:=by rfl) (hplain : (backTo cpos (starEach es X.env)).any (·.1) = false:=by rfl) :
  PE X (.Call (.Attribute o name apos) (e :: es) [] cpos) (tBM X.K T r to t):=by
 intro pins s σ H Q I h
 refine wpAny_Call_method_late hbase hfew hline rfl (thn (ho pins s σ H _ I h) fun v s1 ⟨x,H1,I1,r1,ty,q1⟩=>?_)
 obtain ⟨h1,h2⟩:=Jwr I1 r1 ty
 refine ⟨T,id,pa,slot,hty,h1,h2,?_⟩
 have hA:=ha cpos pins s1 σ H1 _ I1 q1
 rw [hs] at hA ⊢
 refine Calls.callWith_builtin (by show (false || (backTo cpos (starEach es X.env)).any (·.1)) = false; rw [hplain] <;> rfl) (Calls.evalArgs_plain ?_)
 exact thn hA fun us s2 ⟨vs,H2,I2,r2,q2⟩=>hm pins s2 σ H2 x vs v us Q I2 r1 r2 q2
end
end L2
namespace L2
open PySem PySem.Spec PyProof.Rows
def MtM (X : Cx) (id : String) (r : V → List V → Hp → VK → Prop) : Prop :=
 ∀ (pins : List (Addr × Obj)) (s : Shared) (σ : St) (H : Hp) (x : V) (xs : List V) (v : Value) (us : List Value) (Q : VK),Inv X pins σ H s → RelV x v → Vals xs us → r x xs H Q →
  wpAny (model X.prog X.w) X.A (call (.builtin id) (v :: us)) (EP X pins σ Q) X.xe s
theorem Vals.one : ∀ {x : V} {us : List Value},Vals [x] us → ∃ u,us = [u] ∧ RelV x u
 | _,_,.cons r .nil=>⟨_,rfl,r⟩
theorem Vals.zero : ∀ {us : List Value},Vals [] us → us = []
 | _,.nil=>rfl
section
variable {X : Cx} {pins : List (Addr × Obj)} {σ : St} {H : Hp} {s : Shared} {l b : Addr} {xs ys zs : List V}
theorem Inv.lset {its its' : List Value} {n : Nat} {f : Array Value → Array Value} {t' : Nat} (I : Inv X pins σ H s) (hH : H l = some (.lst xs))
  (e : s.heap.get? l = some { cls:=.type "list",data:=.seq its.toArray n }) (hf : f its.toArray = its'.toArray) (hv : Vals ys its') (hz : ys.length ≤ sizeLine) :
  Inv X pins σ (upd H l (.lst ys)) { s with heap:=s.heap.update l (Obj.mapSeq f),toks:=t' }:=by
 have q:=PySem.IsL.update e f
 rw [hf] at q
 refine I.write (x:=l) (e:=l) (by rw [hH]; exact trivial) (.inl rfl) (fun b' u hb hu=>(Heap.get?_update_other s.heap (Obj.mapSeq f) (Ne.symm hb)).trans hu) ⟨_,q⟩ ?_
 exact ⟨hz,its', _,hv,q⟩
theorem Inv.lnew {its : List Value} {t' : Nat} (I : Inv X pins σ H s) (hv : Vals ys its) (hz : ys.length ≤ sizeLine) :
  Inv X pins σ (upd H s.heap.objs.size (.lst ys)) { s with heap:=s.heap.push { cls:=.type "list",data:=.seq its.toArray },toks:=t' } :=
 I.laid (fun _ _ q=>Heap.get?_push_of_some _ q) (Nat.le_refl _) ⟨hz,its,0,hv,Heap.get?_push_size _ rfl⟩
theorem Inv.fresh (I : Inv X pins σ H s) : H s.heap.objs.size = none:=I.hok.fresh (Nat.le_refl _)
theorem Inv.lstM (I : Inv X pins σ H s) (hH : H l = some (.lst xs)) : xs.length ≤ sizeLine ∧ ∃ (its : List Value) (n : Nat),Vals xs its ∧ xs.length = its.length ∧ s.heap.get? l = some { cls:=.type "list",data:=.seq its.toArray n }:=by
 obtain ⟨z,its,n,r,e⟩:=I.hok l _ hH
 exact ⟨z,its,n,r,r.length,e⟩
end
section
variable {X : Cx}
def Jxp : V → List V → Hp → VK → Prop:=fun x vs H Q=>∃ l xs y,x = .ref l ∧ vs = [y] ∧ H l = some (.lst xs) ∧ xs.length < sizeLine ∧ Q .non (upd H l (.lst (xs ++ [y])))
theorem Jk5 : MtM X "list.append" Jxp:=by
 intro pins s σ H x vs v us Q I rx rv h
 obtain ⟨l,xs,y,rfl,rfl,hH,hz,q⟩:=h
 cases rx
 obtain ⟨u,rfl,ru⟩:=rv.one
 obtain ⟨z,its,n,r,hl,e⟩:=I.lstM hH
 refine call_meets F.slot_list_append ⟨_,e,rfl⟩ F.entry_list_append (F.args_list_append_2 _ _) (PySem.list_append l its.toArray n u (by rw [List.size_toArray]; omega)) ⟨e,?_⟩
 refine ⟨.non,_,I.lset (its':=its ++ [u]) hH e (by simp) (r.append (.cons ru .nil)) ?_,rfl,q⟩
 rw [List.length_append,List.length_singleton]
 omega
def rClear : V → List V → Hp → VK → Prop:=fun x vs H Q=>∃ l xs,x = .ref l ∧ vs = [] ∧ H l = some (.lst xs) ∧ Q .non (upd H l (.lst []))
theorem Js0 : MtM X "list.clear" rClear:=by
 intro pins s σ H x vs v us Q I rx rv h
 obtain ⟨l,xs,rfl,rfl,hH,q⟩:=h
 cases rx
 have hus:=rv.zero
 subst hus
 obtain ⟨z,its,n,r,hl,e⟩:=I.lstM hH
 refine call_meets F.slot_list_clear ⟨_,e,rfl⟩ F.entry_list_clear (F.args_list_clear_1 _) (AutoSeq1.list_clear_list_0 l its.toArray n (by rw [List.size_toArray]; omega)) ⟨e,?_⟩
 exact ⟨.non,_,I.lset (its':=[]) (ys:=[]) hH e rfl .nil (Nat.zero_le _),rfl,q⟩
def rCat : R2:=fun x y H Q=>∃ l b xs zs,x = .ref l ∧ y = .ref b ∧ H l = some (.lst xs) ∧ H b = some (.lst zs) ∧ xs.length + zs.length ≤ sizeLine ∧ ∀ p,H p = none → Q (.ref p) (upd H p (.lst (xs ++ zs)))
theorem op_cat : OpR X (binaryOp .Add) rCat:=by
 intro pins s σ H x y v u Q I rx ry h
 obtain ⟨l,b,xs,zs,rfl,rfl,hH,hB,hz,q⟩:=h
 cases rx
 cases ry
 obtain ⟨z,its,n,r,hl,e⟩:=I.lstM hH
 obtain ⟨z2,its2,n2,r2,hl2,e2⟩:=I.lstM hB
 refine PySem.P.add_list e e2 ?_ (by rw [List.size_toArray,List.size_toArray]; omega)
 have ea : its.toArray ++ its2.toArray = (its ++ its2).toArray:=by simp
 rw [ea]
 exact ⟨.ref _,_,I.lnew (t':=s.toks) (r.append r2) (by rw [List.length_append]; omega),rfl,q _ I.fresh⟩
end
section
variable {prog : Program} {w : World} {A : Around} {E : Value → Shared → Prop} {s : Shared}
end
section
variable {X : Cx}
end
end L2
namespace L2
open PySem PySem.Spec PyProof.Rows
section
variable {κ : Type} [DecidableEq κ]
def Js8 (kvs : List (κ × V)) (k : κ) (v : V) : List (κ × V) :=
 if (kvs.any fun kv=>decide (kv.1 = k)) = true then kvs.map (fun kv=>if kv.1 = k then (kv.1,v) else kv) else kvs ++ [(k,v)]
theorem Jrw (kvs : List (κ × V)) (k : κ) (v : V) : (Js8 kvs k v).length ≤ kvs.length + 1:=by
 unfold Js8
 split
 ·rw [List.length_map]; omega
 ·rw [List.length_append,List.length_cons,List.length_nil]; omega
theorem KV.any {kvs : List (κ × V)} {vs : List (κ × Value)} (r : KV kvs vs) (k : κ) : (kvs.any fun kv=>decide (kv.1 = k)) = vs.any fun kv=>decide (kv.1 = k):=by
 unfold KV at r
 induction r with
 | nil=>rfl
 | cons h t ih=>rw [List.any_cons,List.any_cons,ih,h.1]
theorem KV.repl {kvs : List (κ × V)} {vs : List (κ × Value)} (r : KV kvs vs) (k : κ) {y : V} {u : Value} (ry : RelV y u) :
  KV (kvs.map fun kv=>if kv.1 = k then (kv.1,y) else kv) (vs.map fun kv=>if kv.1 = k then (kv.1,u) else kv):=by
 unfold KV at r ⊢
 induction r with
 | nil=>exact .nil
 | @cons p q ps qs h t ih =>
  rw [List.map_cons,List.map_cons]
  refine .cons ?_ ih
  obtain ⟨h1,h2⟩:=h
  by_cases e : p.1 = k
  ·rw [if_pos e,if_pos (h1.symm.trans e)]; exact ⟨h1,ry⟩
  ·rw [if_neg e,if_neg (fun z=>e (h1.trans z))]; exact ⟨h1,h2⟩
theorem KV.put {kvs : List (κ × V)} {vs : List (κ × Value)} (r : KV kvs vs) (k : κ) {y : V} {u : Value} (ry : RelV y u) : KV (Js8 kvs k y) (stored vs k u):=by
 unfold Js8 stored
 rw [r.any k]
 by_cases e : (vs.any fun kv=>decide (kv.1 = k)) = true
 ·rw [if_pos e,if_pos e]; exact r.repl k ry
 ·rw [if_neg e,if_neg e]; exact Paired.snoc r ⟨rfl,ry⟩
end
theorem kV_is {P : Program} {w : World} {k : Key} {u : Value} (r : RelV (kV k) u) : (Jj4 P w).is k u = true:=by
 cases k with
 | inl i=>obtain ⟨t,e⟩:=(show ∃ t,u = Value.int i t from r); subst e; exact Jrz P w i t
 | inr x=>obtain ⟨t,e⟩:=(show ∃ t,u = Value.str x t from r); subst e; exact Jlz P w x t
section
variable {P : Program} {w : World} {H : Hp} {h : Heap} {a : Addr}
theorem rd_of {u : HO} (ok : HOk P w H h) (e : Rd H a u) : ObjOk P w H h a u:=e.ok ok
theorem dk_rd {kvs : List (Key × V)} (ok : HOk P w H h) (e : Rd H a (.dK kvs)) : kvs.length ≤ sizeLine ∧ (a == sysModules) = false ∧ ∃ vs,KV kvs vs ∧ h.DictOf (Jj4 P w) a vs :=
 show ObjOk P w H h a (.dK kvs) from rd_of ok e
theorem Jvi {kvs : List (Key × V)} (ok : HOk P w H h) (e : H a = some (.dK kvs)) : kvs.length ≤ sizeLine ∧ (a == sysModules) = false ∧ ∃ vs,KV kvs vs ∧ h.DictOf (Jj4 P w) a vs:=dk_rd ok (.inl e)
end
section
variable {X : Cx} {pins : List (Addr × Obj)} {σ : St} {H : Hp} {s : Shared} {a : Addr} {y v : V} {u r : Value} {o : Option V} {A : Around} {E : Value → Shared → Prop}
theorem Inv.big (I : Inv X pins σ H s) : sysModules < s.heap.objs.size:=by
 have h : mainGlobals < s.heap.objs.size:=(I.mod.glob.keeps I.bk).lt
 exact Nat.lt_trans (by decide) h
theorem Jx7 {h' : Heap} {t' : Nat} {ob : HO} (I : Inv X pins σ H s) (mu : Mut (H a)) (hs : Heap.SameBut a s.heap h') (he : ∃ q,h'.get? a = some q) (new : ObjOk X.prog X.w (upd H a ob) h' a ob) :
  Inv X pins σ (upd H a ob) { s with heap:=h', toks:=t' } :=
 I.write (x:=a) (e:=a) mu (.inl rfl) (fun b q hb z=>(hs.2 b hb).trans z) he new
theorem dk_new {P : Program} {w : World} {H' : Hp} {h' : Heap} {kvs : List (Key × V)} {vs : List (Key × Value)} (z : kvs.length ≤ sizeLine) (hd : (a == sysModules) = false) (rel : KV kvs vs) (dd : h'.DictOf (Jj4 P w) a vs) :
  ObjOk P w H' h' a (.dK kvs):=⟨z,hd,vs,rel,dd⟩
end
section
variable {X : Cx} {pins : List (Addr × Obj)} {σ : St} {H : Hp} {s : Shared} {a : Addr} {kvs : List (Key × V)} {k : Key} {u : Value} {A : Around} {E : Value → Shared → Prop}
end
section
variable {X : Cx} {o i e value : Expr} {pos pos' tpos : Pos} {td ty tv : TE}
end
theorem Jrr {P : Program} {w : World} {H : Hp} (h : Heap) (hb : sysModules < h.objs.size) : ObjOk P w H (h.push { cls:=.type "dict",data:=.dict #[] }) h.objs.size (.dK []) :=
 ⟨Nat.zero_le _,beq_eq_false_iff_ne.mpr (Ne.symm (Nat.ne_of_lt hb)),[],.nil,Heap.DictOf.new h⟩
def tDNewK : TE:=fun _ H Q=>∀ p,H p = none → Q (.ref p) (upd H p (.dK []))
section
variable {X : Cx} {pos : Pos}
theorem Jw2 : PE X (.Dict [] [] pos) tDNewK:=fun pins s σ H Q I h =>
 wpAny_Dict_empty ⟨.ref s.heap.objs.size,_,I.laid (a:=s.heap.objs.size) (o:=.dK []) (t':=s.toks) (fun _ _ q=>Heap.get?_push_of_some _ q) (Nat.le_refl _) (Jrr s.heap I.big),rfl,h _ (I.hok.fresh (Nat.le_refl _))⟩
end
def Jtc : List (TE × TE) → St → Hp → (List (V × V) → Hp → Prop) → Prop
 | [],_,H,Q=>Q [] H
 | (tk,tv) :: r,σ,H,Q=>tk σ H fun x H1=>tv σ H1 fun y H2=>Jtc r σ H2 fun ps H3=>Q ((x,y) :: ps) H3
abbrev VV : List (V × V) → List (Value × Value) → Prop:=Paired fun p q=>RelV p.1 q.1 ∧ RelV p.2 q.2
def PPs (X : Cx) (pos : Pos) (keys : List (Option Expr)) (values : List Expr) (trs : List (TE × TE)) : Prop :=
 ∀ (pins : List (Addr × Obj)) (s : Shared) (σ : St) (H : Hp) (Q : List (V × V) → Hp → Prop),Inv X pins σ H s → Jtc trs σ H Q →
  wpAny (model X.prog X.w) X.A (evalPairs (pairTrees keys values X.env pos)) (fun vs s'=>∃ ps H', Inv X pins σ H' s' ∧ VV ps vs ∧ Q ps H') X.xe s
theorem Jxo {X : Cx} {pos : Pos} : PPs X pos [] [] []:=fun pins s σ H Q I h=>pairTrees_nil_walk ⟨[],H,I,.nil,h⟩
theorem Jw5 {X : Cx} {pos : Pos} {k v : Expr} {ks : List (Option Expr)} {vs : List Expr} {tk tv : TE} {trs : List (TE × TE)} (hk : PE X k tk) (hv : PE X v tv) (hr : PPs X pos ks vs trs) :
  PPs X pos (some k :: ks) (v :: vs) ((tk,tv) :: trs):=fun pins s σ H Q I h =>
 pairTrees_cons_walk (thn (hk pins s σ H _ I h) fun u s1 ⟨x,H1,I1,rx,q1⟩=>thn (hv pins s1 σ H1 _ I1 q1) fun w2 s2 ⟨y,H2,I2,ry,q2⟩ =>
  thn (hr pins s2 σ H2 _ I2 q2) fun ws s3 ⟨ps,H3,I3,rel,q3⟩=>⟨(x,y) :: ps,H3,I3,.cons ⟨rx,ry⟩ rel,q3⟩)
def Jly (kvs more : List (Key × V)) : List (Key × V):=more.foldl (fun acc kv=>Js8 acc kv.1 kv.2) kvs
theorem KV.merge : ∀ {more : List (Key × V)} {rs : List (Key × Value)} {kvs : List (Key × V)} {vs : List (Key × Value)},KV more rs → KV kvs vs → KV (Jly kvs more) (merged vs rs):=by
 intro more rs kvs vs r
 unfold KV at r
 induction r generalizing kvs vs with
 | nil=>intro q; exact q
 | @cons p q ps qs h t ih =>
  intro r0
  have e : KV (Js8 kvs p.1 p.2) (stored vs q.1 q.2):=by
   have:=r0.put p.1 h.2
   rw [← h.1]; exact this
  exact ih e
theorem Jmr : ∀ (more kvs : List (Key × V)),(Jly kvs more).length ≤ kvs.length + more.length
 | [],kvs=>by show kvs.length ≤ kvs.length + 0; omega
 | p :: r,kvs=>by
  have h1:=Jmr r (Js8 kvs p.1 p.2)
  have h2:=Jrw kvs p.1 p.2
  show (Jly (Js8 kvs p.1 p.2) r).length ≤ _
  rw [List.length_cons]; omega
theorem Jox {P : Program} {w : World} : ∀ {kvs : List (Key × V)} {ws : List (Value × Value)},VV (kvs.map fun kv=>(kV kv.1,kv.2)) ws → ∃ rs,Carries (Jj4 P w) ws rs ∧ KV kvs rs
 | [],_,r=>by rw [List.map_nil] at r; cases r; exact ⟨[],True.intro,.nil⟩
 | p :: kvs,_,r=>by
  rw [List.map_cons] at r
  cases r with
  | @cons a b as bs h t =>
   obtain ⟨rs,c,q⟩:=Jox (P:=P) (w:=w) t
   obtain ⟨b1,b2⟩:=b
   exact ⟨(p.1,b2) :: rs,⟨kV_is h.1,rfl,c⟩,.cons ⟨rfl,h.2⟩ q⟩
def tDisp (trs : List (TE × TE)) : TE:=fun σ H Q=>∀ p,H p = none → Jtc trs σ (upd H p (.dK [])) fun ps H2=>H2 p = some (.dK []) ∧ ∃ kvs : List (Key × V),ps = kvs.map (fun kv=>(kV kv.1,kv.2)) ∧ kvs.length ≤ 15 ∧ Q (.ref p) (upd H2 p (.dK (Jly [] kvs)))
theorem Jxl {X : Cx} {pos : Pos} {keys : List (Option Expr)} {values : List Expr} {trs : List (TE × TE)} (h : PPs X pos keys values trs) (hall : keys.all (·.isSome) = true) (hl : keys.length = values.length) (h0 : keys ≠ [])
  (h15 : keys.length ≤ 15) : PE X (.Dict keys values pos) (tDisp trs):=by
 intro pins s σ H Q I q
 have hn:=I.hok.fresh (Nat.le_refl s.heap.objs.size)
 have I1:=I.laid (a:=s.heap.objs.size) (o:=.dK []) (h':=s.heap.push { cls:=.type "dict",data:=.dict #[] }) (t':=s.toks) (fun _ _ q=>Heap.get?_push_of_some _ q) (Nat.le_refl _) (Jrr s.heap I.big)
 refine wpAny_Dict_walk (knd:=Jj4 X.prog X.w) hall hl h0 h15 (thn (h pins _ σ _ _ I1 (q _ hn)) fun ws s2 ⟨ps,H2,I2,rel,e,kvs,ep,lk,q2⟩=>?_)
 subst ep
 obtain ⟨rs,c,rk⟩:=Jox (P:=X.prog) (w:=X.w) rel
 obtain ⟨z,hd,vs0,r0,dd⟩:=Jvi I2.hok e
 cases r0
 refine ⟨rs,c,dd,fun h' dd' hs=>⟨.ref s.heap.objs.size,_,?_,rfl,q2⟩⟩
 have hz : (Jly [] kvs).length ≤ sizeLine:=by
  have h1:=Jmr kvs []
  rw [List.length_nil] at h1
  rw [sizeLine_eq]; omega
 have he : ∃ q,h'.get? s.heap.objs.size = some q:=let ⟨q,_,_,hq,_⟩:=dd'; ⟨q,hq⟩
 exact Jx7 I2 (by rw [e]; exact True.intro) hs he (dk_new hz hd (rk.merge .nil) dd')
structure M1 (X : Cx) (o : Expr) (m : Str) (apos : Pos) (e : Expr) (cpos : Pos) : Prop where
 base : attributeBase o m X.env (eval o X.env) = eval o X.env
 few : ((backTo cpos (starEach [e] X.env)).all (fun x=>!x.1) && (backToKw cpos (keywordEach [] X.env)).all (fun x=>x.1.isSome)
  && decide (([e] : List Expr).length + ([] : List Keyword).length + (if ([] : List Keyword).isEmpty then 0 else 1) < 30)) = true
 line : (apos.endLine == cpos.line) = true
 trees : backTo cpos (starEach [e] X.env) = [(false,eval e X.env)]
structure M2 (X : Cx) (o : Expr) (m : Str) (apos : Pos) (e f : Expr) (cpos : Pos) : Prop where
 base : attributeBase o m X.env (eval o X.env) = eval o X.env
 few : ((backTo cpos (starEach [e,f] X.env)).all (fun x=>!x.1) && (backToKw cpos (keywordEach [] X.env)).all (fun x=>x.1.isSome)
  && decide (([e,f] : List Expr).length + ([] : List Keyword).length + (if ([] : List Keyword).isEmpty then 0 else 1) < 30)) = true
 line : (apos.endLine == cpos.line) = true
 trees : backTo cpos (starEach [e,f] X.env) = [(false,eval e X.env),(false,eval f X.env)]
section
variable {X : Cx} {pins : List (Addr × Obj)} {σ : St} {H : Hp} {s : Shared} {a : Addr} {y d : V} {u r : Value} {o : Option V} {A : Around} {E : Value → Shared → Prop}
end
section
variable {X : Cx} {o e f : Expr} {apos cpos : Pos} {td ty tx : TE}
end
section
variable {X : Cx} {pins : List (Addr × Obj)} {σ : St} {H : Hp} {s : Shared} {a : Addr} {kvs : List (Key × V)} {A : Around} {E : Value → Shared → Prop}
end
section
variable {X : Cx} {pins : List (Addr × Obj)} {σ : St} {H : Hp} {s : Shared} {a : Addr} {y : V} {u : Value} {A : Around} {E : Value → Shared → Prop}
end
end L2
namespace Att
open PySem PySem.W PySem.Calls PyProof.Rows
theorem Jo8 {P : Params} {h : Heap} : ∀ (ns : List Int) (vs : List Value),WellAll P h vs (ns.map WData.int) → IntsAre vs ns:=by
 intro ns
 induction ns with
 | nil =>
  intro vs w
  rw [List.map_nil] at w
  cases w
  exact .nil
 | cons n ns ih =>
  intro vs w
  rw [List.map_cons] at w
  cases w with
  | cons a b =>
   cases a
   exact .cons _ _ (ih _ b)
theorem Juv {l : OpenLaw} {n : Nat} (hn : l.most = some n) {P : Params} {h : Heap} {args : List WData} {vals : List Value}
  (hpre : l.row.toRowW.claim.pre args = true) (hwl : WellAll P h vals args) :
  ∃ a vs ns,vals = [Value.ref a] ∧ args = [WData.list (ns.map WData.int)] ∧ h.get? a = some { cls:=.type "list",data:=.seq vs.toArray } ∧ IntsAre vs ns ∧ ns.length ≤ n:=by
 have hsh : WShape.hasAll [] args [.list .int] = true:=(pre_splitW hpre).1
 have hc : l.pre.holds [] { args:=args } = true:=(pre_splitW hpre).2
 obtain ⟨d,r,rfl,h1,h2⟩:=hasAllW_cons hsh
 obtain rfl:=hasAllW_nil h2
 obtain ⟨xs,rfl,h3⟩:=hasW_list h1
 obtain ⟨ns,rfl⟩:=items_int h3
 have hlen : ns.length ≤ n:=by
  unfold OpenLaw.pre at hc
  have h4 : (WTm.not (.lt (.lit (.int (n : Int))) (.len (.arg 0)))).holds [] { args:=[.list (ns.map .int)] } = true:=by
   have h4:=(holds_andW hc).1
   rw [hn] at h4
   exact h4
  have h5:=condW_of h4 (w_not (w_lt w_lit (w_len_list (w_arg rfl))))
  rw [List.length_map] at h5
  refine Nat.le_of_not_lt fun q=>?_
  have q' : (n : Int) < ((ns.length : Nat) : Int):=by omega
  first
   | (rw [decide_eq_true q'] at h5; exact absurd h5 (by decide))
   | (simp at h5; omega)
 cases hwl with
 | cons w1 w2 =>
  cases w2
  cases w1 with
  | list ho hall=>exact ⟨_,_,ns,rfl,rfl,ho,Jo8 ns _ hall,hlen⟩
theorem Jut (l : OpenLaw) (args : List WData) : l.row.toRowW.claim.post args (.bool true) args = true :=
 postW_of (r:=l.row.toRowW) (X:=(true == true))
  (show WShape.has [] (.bool true) .bool = true by first | rfl | decide | simp [WShape.has,WShape.arms,WShape.armsAll])
  (show (WTm.eq .res (.lit (.bool true))).value [] { args:=args,res:=some (.bool true),after:=args } = some (.bool (true == true)) from w_eq_bool (w_res rfl) w_lit) rfl
theorem attach_call {l : OpenLaw} {n : Nat} {q : Program} {loose : List Str} {XP : (Str → Option Value) → Heap → Prop} {YP : World → Heap → Prop} {d : DefRec}
  (hn : l.most = some n) (hdf : d.params.defaults = [])
  (call : ∀ (w : World) (s₀ s₁ : Shared) (mg mb : Str → Option Value) (fa : Addr) (o : Obj) (pm cd doc : Value) (a : Addr) (vs : List Value) (ns : List Int),
   Ground q loose [] XP w s₀ mg mb s₁.heap → YP w s₁.heap →
   s₁.heap.get? fa = some o → o.data = .func (docDef d.name d.params d.body d.scope pm cd doc) → s₁.heap.CodeRec cd d.name → mg d.name = some (.ref fa) →
   s₁.heap.get? a = some { cls:=.type "list",data:=.seq vs.toArray } → IntsAre vs ns → ns.length ≤ n → s₁.gens = #[] →
   codeAny (model l.prog w) callerA (.call (.ref fa) ⟨[.ref a],[]⟩) (fun r s'=>r = .ok (.ret (.bool true)) ∧ OldK s₁.heap s'.heap ∧ s'.os = s₁.os ∧ AllBare s'.gens) s₁) :
  WalkO q loose XP YP l.row.toRowW d [] (fun f vs=>PySem.call f vs):=by
 intro w s₀ s₁ mg mb G Y fa o pm cd doc dV kV ho hd hcd hD hmg hg args vals as hpre hlay hrd hwl hlo
 obtain rfl : dV = .none:=Dflts.none hD hdf
 obtain rfl : kV = .none:=Dflts.noKw hD
 obtain ⟨a,vs,ns,rfl,rfl,hobj,hints,hlen⟩:=Juv hn hpre hwl
 refine enter_call (codeAny_mono (call w s₀ s₁ mg mb fa o pm cd doc a vs ns G Y ho (fd_plain hd) hcd hmg hobj hints hlen hg) fun r s' hq=>?_)
 obtain ⟨rfl,h2,h3,h4⟩:=hq
 exact ⟨.inl ⟨.bool true,.bool true,[],rfl,fun _=>rfl,.bool true,Jut l _,fun _=>⟨List.Pairwise.nil,fun _ hm=>(nomatch hm)⟩⟩,h2,h3,h4⟩
section
variable {prog : Program} {w : World} {A : Around} {E : Value → Shared → Prop} {s : Shared} {K : Frag}
end
end Att
namespace L2
open PySem PySem.Spec PyProof.Rows
theorem Jqp : ∀ {vs : List Value} {ns : List Int},IntsAre vs ns → Vals (ns.map V.int) vs
 | _,_,.nil=>.nil
 | _,_,.cons n t h=>.cons ⟨t,rfl⟩ (Jqp h)
end L2
namespace L2
open PySem PySem.Spec PyProof.Rows
abbrev KOf {K : PySem.W.Frag} {h : Heap} (_ : K.In h) : PySem.W.Frag:=K
end L2
namespace L2
open PySem PySem.Spec PyProof.Rows
def Jid (s : Stmt) (j : Nat) : Stmt:=match s with
 | .ClassDef _ _ _ body _ _ _ _ _ _ _=>body.getD j (.Pass ⟨0,0,0,0⟩)
 | _=>.Pass ⟨0,0,0,0⟩
def Jj2 (s : Stmt) : Arguments:=match s with
 | .FunctionDef _ a _ _ _ _ _ _ _ _=>a
 | _=>{ posonlyargs:=[],args:=[],vararg:=none,kwonlyargs:=[],kw_defaults:=[],kwarg:=none,defaults:=[] }
def Jiv (s : Stmt) : List Stmt:=match s with
 | .FunctionDef _ _ b _ _ _ _ _ _ _=>b
 | _=>[]
def Ji6 (s : Stmt) : Scope:=match s with
 | .FunctionDef _ _ _ _ _ _ sc _ _ _=>sc
 | _=>{ kind:=.function,names:=[],isGenerator:=false,isCoroutine:=false }
abbrev CX0 : CXT:=fun _ _ _ _ _ _=>False
abbrev E0 : XK:=fun _ _ _=>False
theorem Jnd {X : Cx} : Joo CX0 X E0:=fun _ _ _ _ _ _ _ h=>h.elim
structure Fun (K : PySem.W.Frag) (x qual : Str) (st : Stmt) (f : Addr) (fd : FuncData) : Prop where
 ex : ∃ (oc : Value) (od : Option Addr) (kV doc pm : Value) (an : Option Addr) (cdv ct : Value) (osl : Array (Option Value)),
  fd = PySem.W.fnOf x qual (Jj2 st) (Jiv st) (Ji6 st) .none kV doc pm an cdv ct ∧ K.lookup f = some ⟨oc,od,.func fd,osl⟩ ∧ PySem.W.codeIn K cdv qual = true
 kp : PySem.W.keepIn K (.ref f) = true
section
variable {P : Program} {w : World} {K : PySem.W.Frag} {mg : Str → Option Value} {base : Heap}
theorem Fun.ok {x qual : Str} {st : Stmt} {f : Addr} {fd : FuncData} {N ps : List Str} {k : Nat} {sp : Sp} (F : Fun K x qual st f fd) (S : Jic N ps (Ji6 st)) (len : ∀ vs H Q E,sp vs H Q E → vs.length = ps.length)
  (hbody : ∀ (cdv : Value) (A : Around) (outer : List Env) (s : Shared) (H : Hp) (vs : List V) (Q : VK) (E : XK),Room k (A.deeper (envOfC qual (Ji6 st) s.heap.objs.size f cdv)) → sp vs H Q E →
   ∃ t,PSs (Jqz CX0 P w K mg base N qual (Ji6 st) f cdv A outer s H E).nox (Jiv st) t ∧ t { nx:=fun _ H'=>Q .non H', rt:=Q } (start N vs) H) : FnOk P w K mg base CX0 (k + 1) f fd ps sp:=by
 obtain ⟨oc,od,kV,doc,pm,an,cdv,ct,osl,rfl,lk,hcd⟩:=F.ex
 refine fn_of lk hcd S len fun A outer s H vs Q E hr hsp=>?_
 obtain ⟨t,h,q⟩:=hbody cdv A outer s H vs Q E hr hsp
 exact ⟨t,h.nox,q⟩
theorem Fun.binds {x qual : Str} {st : Stmt} {f : Addr} {fd : FuncData} {ps : List Str} (F : Fun K x qual st f fd)
  (h : ∀ (kV doc pm : Value) (an : Option Addr) (cdv ct : Value) (us : List Value),us.length = ps.length → bindArgs (PySem.W.fnOf x qual (Jj2 st) (Jiv st) (Ji6 st) .none kV doc pm an cdv ct) ⟨us,[]⟩ = pure (ps.zip us)) : Binds K fd ps []:=by
 obtain ⟨oc,od,kV,doc,pm,an,cdv,ct,osl,rfl,lk,hcd⟩:=F.ex
 exact .all (h kV doc pm an cdv ct)
theorem Jr0 {x qual : Str} {st : Stmt} {f : Addr} {oc : Value} {od an : Option Addr} {osl : Array (Option Value)} {kV doc pm cdv ct : Value} (l : K.lookup f = some ⟨oc,od,.func (PySem.W.fnOf x qual (Jj2 st) (Jiv st) (Ji6 st) .none kV doc pm an cdv ct),osl⟩)
  (c : PySem.W.codeIn K cdv qual = true) (k : PySem.W.keepIn K (.ref f) = true) : Fun K x qual st f (PySem.W.fnOf x qual (Jj2 st) (Jiv st) (Ji6 st) .none kV doc pm an cdv ct):=⟨⟨oc,od,kV,doc,pm,an,cdv,ct,osl,rfl,l,c⟩,k⟩
end
section
variable {X : Cx}
theorem pv (i : Nat) {x : Str} {pos : Pos} (hN : X.N[i]? = some x:=by rfl) (hv : Vis X.env.scope x:=by first | exact Or.inl rfl | exact Or.inr (Or.inl rfl) | exact Or.inr (Or.inr rfl)) (hd : (x == ("__debug__" : Str)) = false:=by decide)
  (hcd : (x == ("__classdict__" : Str)) = false:=by decide) : PE X (.Name x pos) (Jq4 i):=Jw4 hN hv hd hcd
end
theorem Jj3 {A B : Prop} (h : B) : if false = true then A else B:=by
 rw [if_neg Bool.false_ne_true]
 exact h
theorem Jjr {A B : Prop} (h : A) : if true = true then A else B:=by
 rw [if_pos rfl]
 exact h
theorem ite2 {c A B : Prop} [Decidable c] (h1 : c → A) (h2 : ¬ c → B) : if c then A else B:=by
 by_cases h : c
 ·rw [if_pos h]
  exact h1 h
 ·rw [if_neg h]
  exact h2 h
def Same (H H' : Hp) : Prop:=∀ b o,H b = some o → H' b = some o
theorem Same.refl (H : Hp) : Same H H:=fun _ _ h=>h
theorem Same.trans {H H1 H2 : Hp} (a : Same H H1) (b : Same H1 H2) : Same H H2:=fun c o h=>b c o (a c o h)
theorem Same.free {H H' : Hp} (e : Same H H') {l : Addr} (h : H' l = Option.none) : H l = Option.none:=by
 cases q : H l with
 | none=>rfl
 | some o =>
  rw [e l o q] at h
  cases h
theorem Same.seq {K : PySem.W.Frag} {H H' : Hp} {a : Addr} {xs : List V} (e : Same H H') (h : SqL K H a xs) : SqL K H' a xs:=by
 rcases h with (h | ⟨o,h⟩) | h
 ·exact .inl (.inl (e _ _ h))
 ·exact .inl (.inr ⟨o,e _ _ h⟩)
 ·exact .inr h
section
variable {κ : Type} [DecidableEq κ]
end
end L2
set_option Elab.async false
set_option linter.all false
set_option maxRecDepth 100000
set_option maxHeartbeats 4000000
namespace L2
open PySem PySem.Spec PyProof.Rows
def Jk4 (cells : List (Str × Addr)) : List (Str × NameKind) → List (Str × Addr) → List (Str × Addr)
 | [],acc=>acc
 | (n,k) :: r,acc=>if (k == NameKind.free) = true then (match cells.lookup n with | some c=>Jk4 cells r ((n,c) :: acc) | none=>Jk4 cells r acc) else Jk4 cells r acc
theorem Jkq {cells : List (Str × Addr)} : ∀ (ns : List (Str × NameKind)) (acc : List (Str × Addr)),(∀ x c,acc.lookup x = some c → cells.lookup x = some c) → ∀ x c,(Jk4 cells ns acc).lookup x = some c → cells.lookup x = some c
 | [],_,h,x,c,e=>h x c e
 | (n,k) :: r,acc,h,x,c,e=>by
  unfold Jk4 at e
  by_cases hk : (k == NameKind.free) = true
  ·rw [if_pos hk] at e
   cases hc : cells.lookup n with
   | none=>rw [hc] at e; exact Jkq r acc h x c e
   | some d =>
    rw [hc] at e
    refine Jkq r ((n,d) :: acc) (fun y b q=>?_) x c e
    rw [List.lookup_cons] at q
    by_cases hy : (y == n) = true
    ·rw [hy] at q
     have hy' : y = n:=beq_iff_eq.mp hy
     rw [hy', hc]
     exact q
    ·have hy' : (y == n) = false:=by simpa using hy
     rw [hy'] at q
     exact h y b q
  ·rw [if_neg hk] at e
   exact Jkq r acc h x c e
theorem Jle {cells : List (Str × Addr)} : ∀ (ns : List (Str × NameKind)) (acc : List (Str × Addr)) (x : Str),(acc.lookup x).isSome = true → ((Jk4 cells ns acc).lookup x).isSome = true
 | [],_,_,h=>h
 | (n,k) :: r,acc,x,h=>by
  unfold Jk4
  by_cases hk : (k == NameKind.free) = true
  ·rw [if_pos hk]
   cases hc : cells.lookup n with
   | none=>exact Jle r acc x h
   | some d =>
    refine Jle r ((n,d) :: acc) x ?_
    rw [List.lookup_cons]
    cases hy : x == n with
    | true=>rfl
    | false=>exact h
  ·rw [if_neg hk]
   exact Jle r acc x h
theorem Jkf {cells : List (Str × Addr)} {x : Str} : ∀ (ns : List (Str × NameKind)) (acc : List (Str × Addr)),(x,NameKind.free) ∈ ns → (∃ c,cells.lookup x = some c) → ((Jk4 cells ns acc).lookup x).isSome = true
 | [],_,h,_=>by simp at h
 | (n,k) :: r,acc,h,hc=>by
  unfold Jk4
  rcases List.mem_cons.mp h with e | e
  ·cases e
   obtain ⟨c,hc⟩:=hc
   rw [if_pos (by decide),hc]
   exact Jle r _ x (by rw [List.lookup_cons,beq_self_eq_true]; rfl)
  ·by_cases hk : (k == NameKind.free) = true
   ·rw [if_pos hk]
    cases hd : cells.lookup n with
    | none=>exact Jkf r acc e hc
    | some d=>exact Jkf r _ e hc
   ·rw [if_neg hk]
    exact Jkf r acc e hc
theorem Jmp {sc : Scope} {env : Env} (h : ∀ y ∈ sc.names,y.2 = .free → ∃ c,env.cells.lookup y.1 = some c) : closureFor sc env = pure (Jk4 env.cells sc.names []):=by
 have key : ∀ (ns : List (Str × NameKind)) (acc : List (Str × Addr)),(∀ y ∈ ns,y.2 = .free → ∃ c,env.cells.lookup y.1 = some c) →
   (forIn ns acc fun (x : Str × NameKind) (r : List (Str × Addr))=>if (x.2 == NameKind.free) = true then (cellOf env x.1 >>= fun c=>pure (ForInStep.yield ((x.1,c) :: r)) : Sem _) else pure (ForInStep.yield r)) = (pure (Jk4 env.cells ns acc) : Sem _):=by
  intro ns
  induction ns with
  | nil=>intro acc _; rfl
  | cons y r ih =>
   intro acc hy
   obtain ⟨n,k⟩:=y
   rw [List.forIn_cons]
   unfold Jk4
   by_cases hk : (k == NameKind.free) = true
   ·have hk' : k = .free:=by simpa using hk
    obtain ⟨c,hc⟩:=hy (n,k) List.mem_cons_self hk'
    have hc' : env.cells.lookup n = some c:=hc
    simp only [hk,if_true]
    have e1 : cellOf env n = pure c:=by unfold cellOf; rw [hc']
    rw [e1,hc']
    exact ih _ fun z hz=>hy z (List.mem_cons_of_mem _ hz)
   ·simp only [hk,if_false]
    exact ih _ fun z hz=>hy z (List.mem_cons_of_mem _ hz)
 have k0:=key sc.names [] h
 unfold closureFor
 first
  | exact k0
  | (refine Eq.trans ?_ (congrArg (fun m : Sem (List (Str × Addr))=>m >>= fun r=>pure r) k0); rfl)
def blk (X : Cx) (sc : Scope) (N : List Str) (C : Addr) (s : Shared) (H : Hp) (fp : List Addr) (pn : List (Addr × Obj)) : Cx :=
 { X with N:=N,s₀:=s,H₀:=H,env:=compEnvC sc (Jk4 X.env.cells sc.names []) C X.env,outer:=X.stack,ex:=fp,fn:=fun _=>false,pn:=pn,xe:=fun _ _=>False }
def Jud (ini : List (Option Nat)) (σ : St) : St:=ini.map fun o=>match o with | none=>none | some j=>(σ[j]?).join
def scB (sc : Scope) : Bool:=decide (sc.kind = .function) && sc.names.all (fun y=>decide (y.2 ≠ .cell)) && sc.names.all (fun y=>!decide (y.2 = .local) || decide (sc.names.lookup y.1 = some .local))
def frB (outer : List (Str × NameKind)) (sc : Scope) : Bool:=sc.names.all fun y=>!decide (y.2 = .free) || (decide (outer.lookup y.1 = some .cell) || decide (outer.lookup y.1 = some .free))
def iniB (No N : List Str) (ini : List (Option Nat)) (outer : List (Str × NameKind)) (sc : Scope) : Bool :=
 (N.zip ini).all fun y=>match y.2 with | none=>true | some j=>decide (No[j]? = some y.1) && decide (sc.names.lookup y.1 = some .free) && (decide (outer.lookup y.1 = some .cell) || decide (outer.lookup y.1 = some .free))
def PIf (X : Cx) (ifs : List Expr) (t : TT) : Prop :=
 ∀ (pins : List (Addr × Obj)) (s : Shared) (σ : St) (H : Hp) (Q : Bool → Hp → Prop),Inv X pins σ H s → t σ H Q →
  wpAny (model X.prog X.w) X.A (forIn ifs true fun c r=>if r = true then do let ok ← isTrue c X.env (eval c X.env); pure (ForInStep.yield ok) else pure (ForInStep.yield r)) (TP X pins σ Q) X.xe s
def Jv4 : TT:=fun _ H Q=>Q true H
theorem Jit {X : Cx} : PIf X [] Jv4:=fun _ _ _ H _ I h=>wpAny_tests_nil ⟨H,I,h⟩
def Jwo (wi : TI) (ini : List (Option Nat)) (g : TG) (tt : TT) (te : TE) : TE:=fun σ H Q=>wi σ H fun J H1=>∀ D,H1 D = none → ∃ W : Nat → Nat → St → Hp → Prop,(∃ m,W 0 m (Jud ini σ) (upd H1 D (.lst []))) ∧
 ∀ i m σ' H', W i m σ' H' → (J.stop i H' ∧ Q (.ref D) H') ∨ (J.go i H' ∧ ∃ N : St → Hp → Prop,(∀ σ2 H2,N σ2 H2 → ∃ m', m' < m ∧ W (i + 1) m' σ2 H2) ∧
  ∀ x H2,J.yld i H' x H2 → g x σ' H2 fun σ3 H3=>tt σ3 H3 fun b H4=>if b = true then te σ3 H4 (fun v H5=>∃ ys,H5 D = some (.lst ys) ∧ ys.length < sizeLine ∧ N σ3 (upd H5 D (.lst (ys ++ [v])))) else N σ3 H4)
section
variable {prog : Program} {w : World} {A : Around} {R : Result → Shared → Prop} {s : Shared}
theorem Jqy {elt target iter : Expr} {ifs : List Expr} {scope : Scope} {pos : Pos} {it acc : Value} {env : Env} (I : Nat → Shared → Prop)
  (turn : ∀ n s,I n s → wpAny (model prog w) A (pyNext it) (fun r s1=>match r with
   | none=>R (.ok .next) s1
   | some v=>wpAny (model prog w) A (letOwnedTupleGo target it v) (fun _ s1'=>wpAny (model prog w) A (assign target env v) (fun _ s2 =>
     wpAny (model prog w) A (forIn ifs true fun c r=>if r = true then do let ok ← isTrue c env (eval c env); pure (ForInStep.yield ok) else pure (ForInStep.yield r)) (fun ok s3 =>
      if ok = true then wpAny (model prog w) A (eval elt env) (fun x s4 =>
       wpAny (model prog w) A (call (.builtin "list.append") [acc,x]) (fun _ s5=>∃ m,m < n ∧ I m s5) (fun _ _=>False) s4) (fun _ _=>False) s3
      else ∃ m,m < n ∧ I m s3) (fun _ _=>False) s2) (fun _ _=>False) s1') (fun _ _=>False) s1) (fun _ _=>False) s)
  (n : Nat) (h : I n s) : codeAny (model prog w) A (.compLoop (.ListComp elt [⟨target,iter,ifs,0⟩] scope pos) 0 it acc env) R s:=by
 refine codeAny_loop rfl I (fun n s hI=>?_) n h
 show wpAny _ A ((compTurn (.ListComp elt [⟨target,iter,ifs,0⟩] scope pos) 0 it acc env).onRaise (fun x=>do noteFrame x env; theTreesLotGoes x)) _ _ s
 refine wpAny_noted (wpAny_noRaise ?_)
 rw [compTurn_list]
 refine wpAny_bind (wpAny_standAt (wpAny_bind (wpAny_mono (turn n s hI) (fun r s1 h1=>?_) fun _ _ h'=>h')))
 cases r with
 | none=>exact wpAny_pure h1
 | some v =>
  refine wpAny_bind (wpAny_mono h1 (fun _ s1' h1'=>?_) fun _ _ h'=>h')
  refine wpAny_bind (wpAny_mono h1' (fun _ s2 h2=>wpAny_bind (wpAny_mono h2 (fun ok s3 h3=>?_) fun _ _ h'=>h')) fun _ _ h'=>h')
  cases ok with
  | false=>exact wpAny_pure ⟨rfl,h3⟩
  | true =>
   exact wpAny_bind (wpAny_bind (wpAny_mono h3 (fun x s4 h4=>wpAny_bind (wpAny_mono h4 (fun _ s5 h5=>wpAny_pure (wpAny_pure ⟨rfl,h5⟩)) fun _ _ h'=>h')) fun _ _ h'=>h'))
end
section
variable {X : Cx} {pins : List (Addr × Obj)} {σ : St} {H : Hp} {s : Shared}
theorem blk_ok {sc : Scope} {N : List Str} {C : Addr} {fp : List Addr} {pn : List (Addr × Obj)} (I : Inv X pins σ H s) (hk : sc.kind = .function) (hcell : ∀ y ∈ sc.names,y.2 ≠ .cell)
  (hfr : ∀ y ∈ sc.names,y.2 = .free → X.env.kindOf y.1 = some .cell ∨ X.env.kindOf y.1 = some .free) (hC : C = s.heap.objs.size) (hf : ∀ b ∈ fp,Jnl X pins H b ∧ b < s.heap.objs.size) : (blk X sc N C s H fp pn).Ok:=by
 have hin : ∀ x c,(Jk4 X.env.cells sc.names []).lookup x = some c → X.env.cells.lookup x = some c:=Jkq sc.names [] (fun x c e=>by simp at e)
 refine ⟨I.ok.mod,hk,I.ok.glob,I.ok.blt,Nat.le_of_eq hC.symm,fun x y c h1 h2=>I.ok.inj x y c (hin _ _ h1) (hin _ _ h2),fun x hx=>?_,fun x c h _=>(by cases h),I.ok.hd,I.ok.frames,.inl rfl,fun b hb=>?_,I.bs,Nat.le_trans I.ok.bsz I.sz,fun b o e hb=>?_,fun b hb z=>?_,I.stack,I.stkFree⟩
 ·have hx' : (relabel sc X.env).names.lookup x = some .cell ∨ (relabel sc X.env).names.lookup x = some .free:=hx
  have hm : (x,NameKind.free) ∈ sc.names:=by
   have : ∀ k,(relabel sc X.env).names.lookup x = some k → (k = .cell ∨ k = .free) → (x,NameKind.free) ∈ sc.names:=fun k e hkk=>by
    have m:=PySem.mem_of_lookup e
    obtain ⟨⟨n', k'⟩,m1,m2⟩:=List.mem_map.mp m
    dsimp only at m2
    by_cases hc : (k' == NameKind.free && X.env.scope.kind == .function && X.env.kindOf n' == some .cell) = true
    ·rw [if_pos hc] at m2
     have e1 : n' = x:=congrArg Prod.fst m2
     have e2 : k' = NameKind.free:=by simp at hc; exact hc.1.1
     rw [← e1,← e2]
     exact m1
    ·rw [if_neg hc] at m2
     have e1 : n' = x:=congrArg Prod.fst m2
     have e2 : k' = k:=congrArg Prod.snd m2
     rcases hkk with z | z
     ·exact absurd (e2.trans z) (hcell _ m1)
     ·rw [← e1,← z,← e2]; exact m1
   rcases hx' with e | e
   ·exact this _ e (.inl rfl)
   ·exact this _ e (.inr rfl)
  have hh:=Jkf (cells:=X.env.cells) sc.names [] hm (I.ok.has x (hfr _ hm rfl))
  exact Option.isSome_iff_exists.mp hh
 ·obtain ⟨⟨f0,f1,f2,f3,f4,f5⟩,lt⟩:=hf b hb
  exact ⟨fun z=>Nat.ne_of_lt lt (z.trans hC),fun x c e=>f4 x c (hin _ _ e)⟩
 ·obtain ⟨⟨f0,f1,f2,f3,f4,f5⟩,lt⟩:=hf b hb
  rcases f3 with z | z
  ·exact I.ok.noex b o e z
  ·exact absurd (Nat.lt_of_lt_of_le (Heap.lt_size (I.ok.bs b o e).1) z) (Nat.lt_irrefl _)
 ·obtain ⟨⟨f0,f1,f2,f3,f4,f5⟩,lt⟩:=hf b hb
  rcases List.mem_cons.mp (I.stkSub b z) with e | e
  ·exact f1 e
  ·exact f2 e
theorem Jx6 {sc : Scope} {N : List Str} {ini : List (Option Nat)} {fp : List Addr} {h1 : Heap} {t' : Nat} (I : Inv X pins σ H s) (hk : sc.kind = .function) (hcell : ∀ y ∈ sc.names,y.2 ≠ .cell)
  (hfr : ∀ y ∈ sc.names,y.2 = .free → X.env.kindOf y.1 = some .cell ∨ X.env.kindOf y.1 = some .free) (hf : ∀ b ∈ fp,Jnl X pins H b ∧ b < s.heap.objs.size) (hlen : N.length = ini.length)
  (hini : ∀ (i : Nat) (x : Str) (j : Nat),N[i]? = some x → ini[i]? = some (some j) → X.N[j]? = some x ∧ sc.names.lookup x = some .free ∧ (X.env.kindOf x = some .cell ∨ X.env.kindOf x = some .free))
  (hn : h1.Ns s.heap.objs.size (fun _=>none)) (kp : ∀ b o,s.heap.get? b = some o → h1.get? b = some o) :
  Inv (blk X sc N s.heap.objs.size s H fp (X.pn ++ pins)) [] (Jud ini σ) H { s with heap:=h1,toks:=t' }:=by
 have hin : ∀ x c,(Jk4 X.env.cells sc.names []).lookup x = some c → X.env.cells.lookup x = some c:=Jkq sc.names [] (fun x c e=>by simp at e)
 refine ⟨blk_ok I hk hcell hfr rfl hf,rfl,I.bare,Un.kept kp,⟨_,hn,fun i x v e1 e2 e3=>?_⟩,fun x c e=>?_,I.hok.fresh (Nat.le_refl _),fun x c e=>(I.freeC x c (hin _ _ e)).imp id fun z=>⟨rfl,z.2⟩,fun p hp=>?_,I.hok.kept kp,?_⟩
 ·have e1' : N[i]? = some x:=e1
  have e2' : (Jud ini σ)[i]? = some (some v):=e2
  unfold Jud at e2'
  rw [List.getElem?_map] at e2'
  cases hi : ini[i]? with
  | none=>rw [hi] at e2'; cases e2'
  | some o =>
   rw [hi] at e2'
   cases o with
   | none=>cases e2'
   | some j =>
    have e4 : (σ[j]?).join = some v:=Option.some.inj e2'
    have e5 : σ[j]? = some (some v):=by
     cases q : σ[j]? with
     | none=>rw [q] at e4; cases e4
     | some z=>rw [q] at e4; exact congrArg some e4
    obtain ⟨a1,a2,a3⟩:=hini i x j e1' hi
    obtain ⟨m,hm,hl⟩:=I.loc
    have hvis : Vis X.env.scope x:=by
     rcases a3 with z | z
     ·exact .inr (.inl z)
     ·exact .inr (.inr z)
    obtain ⟨u,r,l⟩:=hl j x v a1 e5 hvis
    refine ⟨u,r,.inr ⟨?_,?_⟩⟩
    ·have hm2:=PySem.mem_of_lookup a2
     have e3' : Vis (relabel sc X.env) x:=e3
     rcases e3' with z | z | z
     ·exfalso
      have m1:=PySem.mem_of_lookup z
      obtain ⟨⟨n', k'⟩,m2,m3⟩:=List.mem_map.mp m1
      dsimp only at m3
      have key : ∀ {ns : List (Str × NameKind)},ns.lookup x = some .free → (ns.map fun (n,k)=>if (k == NameKind.free && X.env.scope.kind == .function && X.env.kindOf n == some .cell) then (n,NameKind.cell) else (n,k)).lookup x ≠ some .local:=by
       intro ns
       induction ns with
       | nil=>intro q; simp at q
       | cons y r ih =>
        obtain ⟨n,k⟩:=y
        intro q
        rw [List.lookup_cons] at q
        rw [List.map_cons]
        dsimp only
        cases hx : x == n with
        | true =>
         rw [hx] at q
         have q' : k = .free:=Option.some.inj q
         subst q'
         split
         ·rw [List.lookup_cons,hx]; intro z; cases z
         ·rw [List.lookup_cons,hx]; intro z; cases z
        | false =>
         rw [hx] at q
         split
         ·rw [List.lookup_cons,hx]; exact ih q
         ·rw [List.lookup_cons,hx]; exact ih q
      exact key a2 z
     ·exact .inl z
     ·exact .inr z
    ·rcases l with ⟨k1,_⟩ | ⟨_,c,hc,hcl⟩
     ·exfalso
      rcases a3 with z | z
      ·rw [z] at k1; cases k1
      ·rw [z] at k1; cases k1
     ·have hh:=Jkf (cells:=X.env.cells) sc.names [] (PySem.mem_of_lookup a2) ⟨c,hc⟩
      obtain ⟨c', hc'⟩:=Option.isSome_iff_exists.mp hh
      have : c' = c:=by
       have q:=hin _ _ hc'
       rw [hc] at q
       exact (Option.some.inj q).symm
      subst this
      obtain ⟨oc,hoc,hod⟩:=hcl
      exact ⟨c', hc', oc,kp _ _ hoc,hod⟩
 ·obtain ⟨v,oc,hoc,hod⟩:=I.cell x c (hin _ _ e)
  exact ⟨v,oc,kp _ _ hoc,hod⟩
 ·have hp' : p ∈ X.pn ++ pins:=by simpa [blk] using hp
  obtain ⟨e,n,ne,nf,d⟩:=I.pin p hp'
  refine ⟨kp _ _ e,n,Nat.ne_of_lt (Heap.lt_size e),fun z=>?_,d⟩
  rcases List.mem_cons.mp (I.stkSub p.1 z) with q | q
  ·exact ne q
  ·exact nf q
 ·unfold Jud
  show (ini.map _).length = N.length
  rw [List.length_map]
  exact hlen.symm
end
end L2
namespace L2
open PySem PySem.Spec PyProof.Rows
section
variable {X : Cx} {elt iter tg : Expr} {ifs : List Expr} {sc : Scope} {pos : Pos} {N : List Str} {ini : List (Option Nat)} {wi : TI} {g : TG} {tt : TT} {te : TE}
theorem Jqc {pins : List (Addr × Obj)} {σ : St} {H : Hp} {s : Shared} {Q : VK} {use : Option (Value → Sem Unit)} {Q' : Value → Shared → Prop} {p : Pos} (hc : X.calm = true) (hi : PI X tg iter wi)
  (hsc : scB sc = true) (hfr : frB X.env.scope.names sc = true) (hlen : N.length = ini.length) (hini : iniB X.N N ini X.env.scope.names sc = true)
  (hg : ∀ C s H fp pn,PG (blk X sc N C s H fp pn) tg g) (ht : ∀ C s H fp pn,PIf (blk X sc N C s H fp pn) ifs tt) (he : ∀ C s H fp pn,PE (blk X sc N C s H fp pn) elt te)
  (hs : ∀ x,foldedSetIterable iter X.env x = pure x) (I : Inv X pins σ H s) (h : Jwo wi ini g tt te σ H Q)
  (hfin : ∀ (D : Addr) (H' : Hp) (s' : Shared) (C : Addr) (m : Str → Option Value),Inv X pins σ H' s' → Jnl X pins H' C → s'.heap.Ns C m → Q (.ref D) H' → compPost (model X.prog X.w) X.A X.xe use Q' (.ref D) C (.ok .next) s') :
  wpAny (model X.prog X.w) X.A (comprehension (.ListComp elt [⟨tg,iter,ifs,0⟩] sc pos) sc X.env p (newList []) false (eval iter X.env) use) Q' X.xe s:=by
 have hsc':=hsc
 unfold scB at hsc'
 rw [Bool.and_eq_true,Bool.and_eq_true] at hsc'
 obtain ⟨⟨hk0,hcell0⟩,hnames0⟩:=hsc'
 have hk : sc.kind = .function:=of_decide_eq_true hk0
 have hcell : ∀ y ∈ sc.names,y.2 ≠ .cell:=fun y hy=>of_decide_eq_true (List.all_eq_true.mp hcell0 y hy)
 have hnames : ∀ y ∈ sc.names,y.2 = .local → sc.names.lookup y.1 = some .local:=fun y hy hl=>by
  have q:=List.all_eq_true.mp hnames0 y hy
  rw [decide_eq_true hl] at q
  exact of_decide_eq_true (by simpa using q)
 have hfrP : ∀ y ∈ sc.names,y.2 = .free → X.env.kindOf y.1 = some .cell ∨ X.env.kindOf y.1 = some .free:=fun y hy hl=>by
  have q:=List.all_eq_true.mp hfr y hy
  rw [decide_eq_true hl] at q
  have q2 : decide (X.env.scope.names.lookup y.1 = some .cell) = true ∨ decide (X.env.scope.names.lookup y.1 = some .free) = true:=by simpa using q
  rcases q2 with z | z
  ·exact .inl (of_decide_eq_true z)
  ·exact .inr (of_decide_eq_true z)
 have hiniP : ∀ (i : Nat) (x : Str) (j : Nat),N[i]? = some x → ini[i]? = some (some j) → X.N[j]? = some x ∧ sc.names.lookup x = some .free ∧ (X.env.kindOf x = some .cell ∨ X.env.kindOf x = some .free):=fun i x j e1 e2=>by
  have hm : (x,some j) ∈ N.zip ini:=by
   refine List.mem_of_getElem? (i:=i) ?_
   rw [List.getElem?_zip_eq_some]
   exact ⟨e1,e2⟩
  have q:=List.all_eq_true.mp hini _ hm
  dsimp only at q
  rw [Bool.and_eq_true,Bool.and_eq_true,Bool.or_eq_true] at q
  obtain ⟨⟨q1,q2⟩,q3⟩:=q
  refine ⟨of_decide_eq_true q1,of_decide_eq_true q2,?_⟩
  rcases q3 with z | z
  ·exact .inl (of_decide_eq_true z)
  ·exact .inr (of_decide_eq_true z)
 refine wpAny_comprehension_free (use:=use) rfl hs (Jmp fun y hy hl=>I.ok.has y.1 (hfrP y hy hl)) hk hnames ?_
 refine thn (hi pins s σ H _ I h) fun v s1 h1=>thn h1 fun itv s2 h2=>?_
 obtain ⟨it,fp,tn,J,H2,e,I2,T,st2,f2,step⟩:=h2
 subst e
 refine wpAny_newObj_type (wpAny_newFunctionEnv hcell (by intro y hy; simp at hy) (fun h1 hns1 hsb1=>?_) hk)
 dsimp only at hns1 hsb1 ⊢
 have hD : H2 s2.heap.objs.size = none:=I2.hok.fresh (Nat.le_refl _)
 have kp3 : ∀ b o,s2.heap.get? b = some o → (s2.heap.push { cls:=.type "list",dict:=none,data:=.seq ([] : List Value).toArray }).get? b = some o:=fun b o e=>Heap.get?_push_of_some _ e
 have I3 : Inv X pins σ (upd H2 s2.heap.objs.size (.lst [])) { s2 with heap:=s2.heap.push { cls:=.type "list",dict:=none,data:=.seq ([] : List Value).toArray } } :=
  I2.laid (t':=s2.toks) kp3 (Nat.le_refl _) ⟨Nat.zero_le _,[],0,.nil,Heap.get?_push_size _ rfl⟩
 obtain ⟨W,⟨m0,w0⟩,turn⟩:=step s2.heap.objs.size hD
 generalize hs3 : ({ s2 with heap:=s2.heap.push { cls:=.type "list",dict:=none,data:=.seq ([] : List Value).toArray } } : Shared) = s3 at I3
 have e3h : s3.heap = s2.heap.push { cls:=.type "list",dict:=none,data:=.seq ([] : List Value).toArray }:=by rw [← hs3]
 rw [← e3h] at hns1 hsb1 kp3 ⊢
 have sz3 : s2.heap.objs.size < s3.heap.objs.size:=by rw [e3h,Heap.size_push]; exact Nat.lt_succ_self _
 have hf3 : ∀ b ∈ fp,Jnl X pins (upd H2 s2.heap.objs.size (.lst [])) b ∧ b < s3.heap.objs.size:=fun b hb=>by
  obtain ⟨o,eo,_⟩:=T.obj 0 _ st2 b hb
  have lt:=Heap.lt_size eo
  obtain ⟨f0,fr⟩:=f2 b hb
  exact ⟨⟨by rw [Ji9 (Nat.ne_of_lt lt)]; exact f0,fr⟩,Nat.lt_trans lt sz3⟩
 have kp4 : ∀ b o,s3.heap.get? b = some o → h1.get? b = some o:=fun b o e=>(hsb1.2 b (Nat.ne_of_lt (Heap.lt_size e))).trans (Heap.get?_push_of_some _ e)
 have I4 : Inv (blk X sc N s3.heap.objs.size s3 (upd H2 s2.heap.objs.size (.lst [])) fp (X.pn ++ pins)) [] (Jud ini σ) (upd H2 s2.heap.objs.size (.lst [])) { s3 with heap:=h1,toks:=s3.toks + ([] : List (Str × Value)).length } :=
  Jx6 I3 hk hcell hfrP hf3 hlen hiniP hns1 kp4
 have st4 : tn 0 h1:=T.keep 0 _ _ st2 fun b hb o e=>kp4 b o (kp3 b o e)
 have e4s : ({ s2 with heap:=h1,toks:=s2.toks + ([] : List (Str × Value)).length } : Shared) = { s3 with heap:=h1,toks:=s3.toks + ([] : List (Str × Value)).length }:=by rw [← hs3]
 have stat : ∀ {H' : Hp},(∀ b ∈ fp,H' b = none) → ∀ b ∈ fp,Jnl (blk X sc N s3.heap.objs.size s3 (upd H2 s2.heap.objs.size (.lst [])) fp (X.pn ++ pins)) [] H' b:=fun {H'} hn b hb=>by
  obtain ⟨⟨f0,f1,f2', f3,f4,f5⟩,lt⟩:=hf3 b hb
  refine ⟨hn b hb,Nat.ne_of_lt lt,fun z=>?_,.inl hb,fun x c e=>f4 x c (Jkq sc.names [] (fun x c e=>by simp at e) x c e),fun p hp=>f5 p (by simpa [blk] using hp)⟩
  rcases List.mem_cons.mp (I3.stkSub b z) with q | q
  ·exact f1 q
  ·exact f2' q
 have loop : ∀ s4 : Shared,s4 = { s3 with heap:=h1,toks:=s3.toks + ([] : List (Str × Value)).length } → codeAny (model X.prog X.w) X.A (.compLoop (.ListComp elt [⟨tg,iter,ifs,0⟩] sc pos) 0 (.ref it) (.ref s2.heap.objs.size) (compEnvC sc (Jk4 X.env.cells sc.names []) s3.heap.objs.size X.env))
   (compPost (model X.prog X.w) X.A X.xe use Q' (.ref s2.heap.objs.size) s3.heap.objs.size) s4:=by
  rintro s4 rfl
  refine Jqy (fun n s'=>∃ i σ' H', Inv (blk X sc N s3.heap.objs.size s3 (upd H2 s2.heap.objs.size (.lst [])) fp (X.pn ++ pins)) [] σ' H' s' ∧ tn i s'.heap ∧ (∀ b ∈ fp,H' b = none) ∧ W i n σ' H') ?_ m0
   ⟨0,_,_,I4,st4,fun b hb=>(hf3 b hb).1.1,w0⟩
  rintro n s5 ⟨i,σ5,H5,I5,st5,fr5,w5⟩
  rcases turn i n σ5 H5 w5 with ⟨stop,q⟩ | ⟨go,N', hN', step'⟩
  ·refine thn (T.done (blk X sc N s3.heap.objs.size s3 (upd H2 s2.heap.objs.size (.lst [])) fp (X.pn ++ pins)) rfl rfl rfl hc i [] s5 σ5 H5 _ I5 (stat fr5) st5 stop) fun r s6 ⟨hr,I6⟩=>?_
   subst hr
   have un : Un (frs X.stack) fp H2 H5 s2.heap s6.heap:=(Un.laid (fs:=frs X.stack) (ex:=fp) kp3 (Nat.le_refl _) hD).trans I6.base
   have os6 : s6.os = s2.os:=I6.os.trans (show s3.os = s2.os by rw [← hs3])
   have IX : Inv X pins σ H5 s6:=I2.call' (ch:=fp) os6 un I6.hok I6.bare fun b hb=>by
    obtain ⟨⟨f0,f1,f2', f3,f4,f5⟩,lt⟩:=hf3 b hb
    exact ⟨f3,f1,f4,f5⟩
   obtain ⟨m,hm,_⟩:=I6.loc
   exact hfin _ H5 s6 s3.heap.objs.size m IX (I2.fpOk (Nat.le_of_lt sz3) I6.free) hm q
  ·refine thn (T.item (blk X sc N s3.heap.objs.size s3 (upd H2 s2.heap.objs.size (.lst [])) fp (X.pn ++ pins)) rfl rfl rfl hc i [] s5 σ5 H5 _ I5 (stat fr5) st5 go) fun r s6 ⟨u,hr,h6⟩=>?_
   subst hr
   refine thn h6 fun _ s7 ⟨x,H7,I7,r7,y7,st7,fr7⟩=>?_
   have I7':=I7.pinned (stat fr7) (T.obj _ _ st7)
   refine thn (hg _ _ _ _ _ _ s7 σ5 H7 x u _ I7' r7 (step' x H7 y7)) fun _ s8 ⟨σ8,H8,I8,q8⟩=>?_
   refine thn (ht _ _ _ _ _ _ s8 σ8 H8 _ I8 q8) fun ok s9 ⟨H9,I9,q9⟩=>?_
   have again : ∀ {σ' : St} {H' : Hp} {s' : Shared},Inv (blk X sc N s3.heap.objs.size s3 (upd H2 s2.heap.objs.size (.lst [])) fp (X.pn ++ pins)) ([] ++ Jpe fp s7.heap) σ' H' s' → N' σ' H' →
     ∃ m,m < n ∧ ∃ i σ' H', Inv (blk X sc N s3.heap.objs.size s3 (upd H2 s2.heap.objs.size (.lst [])) fp (X.pn ++ pins)) [] σ' H' s' ∧ tn i s'.heap ∧ (∀ b ∈ fp,H' b = none) ∧ W i m σ' H':=fun {σ' H' s'} J n'=>by
    obtain ⟨m', hm,w'⟩:=hN' σ' H' n'
    refine ⟨m', hm,i + 1,σ', H', J.unpinned,T.keep _ _ _ st7 fun b hb o e=>(J.pin (b,o) (List.mem_append_right _ (List.mem_append_right _ (Jlg hb e)))).1,fun b hb=>?_,w'⟩
    obtain ⟨o,e,d⟩:=T.obj _ _ st7 b hb
    exact (J.pin (b,o) (List.mem_append_right _ (List.mem_append_right _ (Jlg hb e)))).2.1
   cases ok with
   | false =>
    rw [if_neg Bool.false_ne_true] at q9 ⊢
    exact again I9 q9
   | true =>
    rw [if_pos rfl] at q9 ⊢
    refine thn (he _ _ _ _ _ _ s9 σ8 H9 _ I9 q9) fun v10 s10 ⟨x10,H10,I10,r10,ys,hys,hyl,q10⟩=>?_
    refine thn (Jk5 _ s10 σ8 H10 (.ref s2.heap.objs.size) [x10] _ [v10] (fun _ H'=>N' σ8 H') I10 rfl (.cons r10 .nil) ⟨_,ys,x10,rfl,rfl,hys,hyl,q10⟩) fun _ s11 ⟨_,H11,I11,_,q11⟩=>?_
    exact again I11 q11
 have fin:=codeAny_compStart_list (R:=compPost (model X.prog X.w) X.A X.xe use Q' (.ref s2.heap.objs.size) s3.heap.objs.size) (loop _ rfl) (T.self X.A 0 { s3 with heap:=h1,toks:=s3.toks + ([] : List (Str × Value)).length } _ _ st4 (loop _ rfl))
 rw [← e4s] at fin
 exact fin
theorem Jiz (hc : X.calm = true) (hi : PI X tg iter wi) (hg : ∀ C s H fp pn,PG (blk X sc N C s H fp pn) tg g) (ht : ∀ C s H fp pn,PIf (blk X sc N C s H fp pn) ifs tt) (he : ∀ C s H fp pn,PE (blk X sc N C s H fp pn) elt te)
  (hsc : scB sc = true:=by rfl) (hfr : frB X.env.scope.names sc = true:=by rfl) (hlen : N.length = ini.length:=by rfl) (hini : iniB X.N N ini X.env.scope.names sc = true:=by rfl)
  (hs : ∀ x,foldedSetIterable iter X.env x = pure x:=by intro _; rfl) : PE X (.ListComp elt [⟨tg,iter,ifs,0⟩] sc pos) (Jwo wi ini g tt te):=by
 intro pins s σ H Q I h
 rw [eval_ListComp]
 refine Jqc (use:=none) hc hi hsc hfr hlen hini hg ht he hs I h fun D H' s' C m I' f hn q=>?_
 obtain ⟨f0,f1,f2,f3,f4,f5⟩:=f
 exact ⟨m,hn,fun h' sb=>⟨.ref D,H', I'.turned (it:=C) (t':=s'.toks) (fun b o hb e=>(sb.2 b hb).trans e) f0 f1 f3 f4 f5,rfl,q⟩⟩
def tSetC (i : Nat) (te : TE) : TS:=fun D σ H=>te σ H fun v H1=>D.nx (σ.set i (some v)) H1
theorem Ju1 {i : Nat} {y : Str} {py spos : Pos} (hN : X.N.Nodup) (hiy : X.N[i]? = some y) (hx : Loc X.env.scope y) (hc : X.calm = true) (hi : PI X tg iter wi) (hg : ∀ C s H fp pn,PG (blk X sc N C s H fp pn) tg g) (ht : ∀ C s H fp pn,PIf (blk X sc N C s H fp pn) ifs tt) (he : ∀ C s H fp pn,PE (blk X sc N C s H fp pn) elt te)
  (hf : X.fn y = true ∨ X.env.scope.names.lookup y = some .local:=by first | exact .inl rfl | exact .inr rfl | assumption)
  (hsw : swapsWith (.ListComp elt [⟨tg,iter,ifs,0⟩] sc pos) (some (.Name y py)) spos.line X.env = pure true:=by rfl)
  (hsc : scB sc = true:=by rfl) (hfr : frB X.env.scope.names sc = true:=by rfl) (hlen : N.length = ini.length:=by rfl) (hini : iniB X.N N ini X.env.scope.names sc = true:=by rfl)
  (hs : ∀ x,foldedSetIterable iter X.env x = pure x:=by intro _; rfl) : PS X (.Assign [.Name y py] (.ListComp elt [⟨tg,iter,ifs,0⟩] sc pos) spos) (tSetC i (Jwo wi ini g tt te)):=by
 intro pins s σ H D I h
 rw [exec_Assign_Name_used _ _ _ _ hsw]
 refine wpAny_bind (wpAny_standAt (wpAny_bind ?_))
 show wpAny _ X.A (do let _ ← comprehension (.ListComp elt [⟨tg,iter,ifs,0⟩] sc pos) sc X.env _ (newList []) false (eval iter X.env) (some (assign (.Name y py) X.env))) _ _ s
 refine wpAny_bind (wpAny_mono (Jqc (use:=some (assign (.Name y py) X.env)) (Q':=fun _ s'=>SP X pins D .next s') hc hi hsc hfr hlen hini hg ht he hs I h fun D' H' s' C m I' f hn q=>?_) (fun _ s' hq=>wpAny_pure (wpAny_pure hq)) fun _ _ e=>e)
 obtain ⟨f0,f1,f2,f3,f4,f5⟩:=f
 show wpAny _ X.A (assign (.Name y py) X.env (.ref D')) _ _ _
 refine wpAny_assign_Name (Jqm I' hN hiy hx (v:=.ref D') rfl (fun s'' I'' sb=>?_) hf)
 obtain ⟨a,sb,ha⟩:=sb
 have hCa : C ≠ a:=by
  rcases ha with z | z
  ·rw [z]; exact f1
  ·exact fun e=>f4 y a z e.symm
 refine ⟨m,hn.sameBut sb hCa,fun h' sb'=>⟨_,H', I''.turned (it:=C) (t':=s''.toks) (fun b o hb e=>(sb'.2 b hb).trans e) f0 f1 f3 f4 f5,q⟩⟩
end
section
variable {g : TG} {tt : TT} {te : TE} {H : Hp} {D : Addr} {σ : St} {R : Hp → Prop}
theorem Jn0 {lo : Int} {n : Nat} (Pv : Nat → St → Hp → Prop) (h0 : Pv 0 σ H)
  (hs : ∀ i σ H,i < n → Pv i σ H → g (.int (lo + i)) σ H fun σ3 H3=>tt σ3 H3 fun b H4=>if b = true then te σ3 H4 (fun v H5=>∃ ys,H5 D = some (.lst ys) ∧ ys.length < sizeLine ∧ Pv (i + 1) σ3 (upd H5 D (.lst (ys ++ [v])))) else Pv (i + 1) σ3 H4)
  (hd : ∀ σ H,Pv n σ H → R H) :
  ∃ W : Nat → Nat → St → Hp → Prop,(∃ m,W 0 m σ H) ∧ ∀ i m σ' H', W i m σ' H' → ((Itr lo n).stop i H' ∧ R H') ∨ ((Itr lo n).go i H' ∧ ∃ N : St → Hp → Prop,(∀ σ2 H2,N σ2 H2 → ∃ m', m' < m ∧ W (i + 1) m' σ2 H2) ∧
   ∀ x H2,(Itr lo n).yld i H' x H2 → g x σ' H2 fun σ3 H3=>tt σ3 H3 fun b H4=>if b = true then te σ3 H4 (fun v H5=>∃ ys,H5 D = some (.lst ys) ∧ ys.length < sizeLine ∧ N σ3 (upd H5 D (.lst (ys ++ [v])))) else N σ3 H4):=by
 refine ⟨fun i m σ H=>m = n - i ∧ i ≤ n ∧ Pv i σ H,⟨n,by simp,Nat.zero_le _,h0⟩,?_⟩
 rintro i m σ H ⟨rfl,hi,p⟩
 by_cases hlt : i < n
 ·refine .inr ⟨hlt,Pv (i + 1),fun σ' H' p'=>⟨n - (i + 1),by omega,rfl,hlt,p'⟩,fun x H' y=>?_⟩
  obtain ⟨e,y⟩:=y
  subst e y
  exact hs i σ _ hlt p
 ·have e : i = n:=by omega
  subst e
  exact .inl ⟨Nat.le_refl _,hd σ H p⟩
theorem Jjq {K : PySem.W.Frag} {a : Addr} {xs : List V} (Pv : Nat → St → Hp → Prop) (h0 : Pv 0 σ H) (hl : ∀ i σ H,i ≤ xs.length → Pv i σ H → SqL K H a xs)
  (hs : ∀ i x σ H,xs[i]? = some x → Pv i σ H → g x σ H fun σ3 H3=>tt σ3 H3 fun b H4=>if b = true then te σ3 H4 (fun v H5=>∃ ys,H5 D = some (.lst ys) ∧ ys.length < sizeLine ∧ Pv (i + 1) σ3 (upd H5 D (.lst (ys ++ [v])))) else Pv (i + 1) σ3 H4)
  (hd : ∀ σ H,Pv xs.length σ H → R H) :
  ∃ W : Nat → Nat → St → Hp → Prop,(∃ m,W 0 m σ H) ∧ ∀ i m σ' H', W i m σ' H' → ((Itl K a).stop i H' ∧ R H') ∨ ((Itl K a).go i H' ∧ ∃ N : St → Hp → Prop,(∀ σ2 H2,N σ2 H2 → ∃ m', m' < m ∧ W (i + 1) m' σ2 H2) ∧
   ∀ x H2,(Itl K a).yld i H' x H2 → g x σ' H2 fun σ3 H3=>tt σ3 H3 fun b H4=>if b = true then te σ3 H4 (fun v H5=>∃ ys,H5 D = some (.lst ys) ∧ ys.length < sizeLine ∧ N σ3 (upd H5 D (.lst (ys ++ [v])))) else N σ3 H4):=by
 refine ⟨fun i m σ H=>m = xs.length - i ∧ i ≤ xs.length ∧ Pv i σ H,⟨xs.length,by simp,Nat.zero_le _,h0⟩,?_⟩
 rintro i m σ H ⟨rfl,hi,p⟩
 have q:=hl i σ H hi p
 by_cases hlt : i < xs.length
 ·refine .inr ⟨⟨xs,xs[i],q,by simp [hlt]⟩,Pv (i + 1),fun σ' H' p'=>⟨xs.length - (i + 1),by omega,rfl,hlt,p'⟩,fun x H' y=>?_⟩
  obtain ⟨e,y⟩:=y
  subst e
  exact hs i x σ _ (y xs q) p
 ·have e : i = xs.length:=by omega
  subst e
  exact .inl ⟨⟨xs,q,Nat.le_refl _⟩,hd σ H p⟩
end
theorem Jjh {i : Nat} {v : V} {σ : St} {H : Hp} {A B : St → Hp → Prop} (h : A (σ.set i (some v)) H) : Jmq i v σ H fun σ3 H3=>Jv4 σ3 H3 fun b H4=>if b = true then A σ3 H4 else B σ3 H4:=by
 show if true = true then A (σ.set i (some v)) H else B (σ.set i (some v)) H
 rw [if_pos rfl]
 exact h
def sgn (c : Nat) : V:=.str ⟨#[c]⟩
def Its (z : Str) : It:=⟨fun i _=>i < z.cps.size,fun i H x H'=>H' = H ∧ ∃ c,z.cps[i]? = some c ∧ x = sgn c,fun i _=>z.cps.size = i⟩
def iStr (tl : TE) : TI:=fun σ H R=>tl σ H fun x H1=>∃ z,x = .str z ∧ R (Its z) H1
theorem Jsh {P : Program} {w : World} {K : PySem.W.Frag} {tg : Expr} {z : Str} {it : Addr} {n : String} {fl : Nat → Array Value} {St : Nat → Heap → Prop}
  (Wk : ∀ A' : Around,A'.handled = none → Walks P w A' it [it] [it] z.cps.size (SignAt z) St) (hst : ∀ i h,St i h → ∃ o,h.get? it = some o ∧ o.cls = .type n ∧ ∃ a,o.data = .fields a)
  (hn : ["enumerate","zip","dict_itemiterator","dict_reverseitemiterator","odict_iterator","itertools.zip_longest","itertools.pairwise"].contains n = false)
  (hself : ∀ (A : Around) (i : Nat) (s : Shared) (Q : Value → Shared → Prop) (E : Value → Shared → Prop),St i s.heap → Q (.ref it) s → wpAny (model P w) A (pyIter (.ref it)) Q E s) : Jpm P w K tg (Its z) [it] it St where
 mem:=by simp
 obj:=fun i h st b hb=>by
  have e : b = it:=by simpa using hb
  subst e
  obtain ⟨o,e,_,a,d⟩:=hst i h st
  exact ⟨o,e,fun v z=>by rw [d] at z; cases z⟩
 keep:=fun i h h' st k=>by
  have W0:=Wk callerA rfl
  exact W0.frame i h h' st fun b hb o e=>k b hb o e
 item:=by
  intro X hP hw hK hc i pins s σ H E I hf st hg
  subst hP hw hK
  obtain ⟨f0,f1,f2,f3,f4,f5⟩:=hf it (by simp)
  have W:=Wk X.A (I.ok.hd hc)
  refine W.item i s _ _ hg st fun v h' tk hv st' kk=>?_
  obtain ⟨c,u,hcp,rfl⟩:=hv
  have I1 : Inv X pins σ H { s with heap:=h', toks:=tk }:=I.turned (fun b o hb e=>kk b o (by simpa using hb) e) f0 f1 f3 f4 f5
  obtain ⟨o,e,cl,a,d⟩:=hst _ _ st'
  exact ⟨_,rfl,Jtq (s:={ s with heap:=h', toks:=tk }) e cl d hn ⟨sgn c,H,I1,⟨u,rfl⟩,⟨rfl,c,hcp,rfl⟩,st', fun b hb=>(hf b hb).1⟩⟩
 done:=by
  intro X hP hw hK hc i pins s σ H E I hf st hg
  subst hP hw hK
  obtain ⟨f0,f1,f2,f3,f4,f5⟩:=hf it (by simp)
  have W:=Wk X.A (I.ok.hd hc)
  have hg' : z.cps.size = i:=hg
  subst hg'
  exact W.done s _ _ st fun h' tk kk=>⟨rfl,I.turned (fun b o hb e=>kk b o (by simpa using hb) e) f0 f1 f3 f4 f5⟩
 self:=hself
theorem pi_str {X : Cx} {tg l : Expr} {tl : TE} (hl : PE X l tl) : PI X tg l (iStr tl):=by
 intro pins s σ H R I h
 refine thn (hl pins s σ H _ I h) fun v s1 ⟨x,H1,I1,r1,z,e,q⟩=>?_
 subst e
 obtain ⟨t,rfl⟩:=r1
 have fin : ∀ (o : Obj) (St : Nat → Heap → Prop) (n : String),Jpm X.prog X.w X.K tg (Its z) [s1.heap.objs.size] s1.heap.objs.size St → St 0 (s1.heap.push o) → PIE X pins σ tg R (.ref s1.heap.objs.size) { s1 with heap:=s1.heap.push o }:=fun o St n T st0=>by
  refine ⟨s1.heap.objs.size,[s1.heap.objs.size],St,Its z,H1,rfl,I1.kept (t':=s1.toks) fun b o e=>Heap.get?_push_of_some _ e,T,st0,fun b hb=>?_,q⟩
  have e : b = s1.heap.objs.size:=by simpa using hb
  subst e
  exact I1.fpOk (Nat.le_refl _) (I1.hok.fresh (Nat.le_refl _))
 cases ha : z.cps.all (· < 128)
 ·refine wpAny_pyIter_wide ha (fin _ (fun i h=>h.IsStrIter s1.heap.objs.size "str_iterator" z t i) "str_iterator" (Jsh (n := "str_iterator") (fl:=fun _=>#[]) (fun A' hA=>Walks.strWide hA _ z t) (fun i h st=>?_) (by decide) (fun A i s Q E st q=>wpAny_pyIter_striter_wide st q)) ⟨_,Heap.get?_push_size _ rfl,rfl,rfl⟩)
  obtain ⟨o,e,c,d⟩:=st
  exact ⟨o,e,c,_,d⟩
 ·refine wpAny_pyIter_ascii ha (fin _ (fun i h=>h.IsStrIter s1.heap.objs.size "str_ascii_iterator" z t i) "str_ascii_iterator" (Jsh (n := "str_ascii_iterator") (fl:=fun _=>#[]) (fun A' hA=>Walks.strAscii hA _ z t) (fun i h st=>?_) (by decide) (fun A i s Q E st q=>wpAny_pyIter_striter_ascii st q)) ⟨_,Heap.get?_push_size _ rfl,rfl,rfl⟩)
  obtain ⟨o,e,c,d⟩:=st
  exact ⟨o,e,c,_,d⟩
theorem Jve {z : Str} {g : TG} {tt : TT} {te : TE} {H : Hp} {D : Addr} {σ : St} {R : Hp → Prop} (Pv : Nat → St → Hp → Prop) (h0 : Pv 0 σ H)
  (hs : ∀ i c σ H,z.cps[i]? = some c → Pv i σ H → g (sgn c) σ H fun σ3 H3=>tt σ3 H3 fun b H4=>if b = true then te σ3 H4 (fun v H5=>∃ ys,H5 D = some (.lst ys) ∧ ys.length < sizeLine ∧ Pv (i + 1) σ3 (upd H5 D (.lst (ys ++ [v])))) else Pv (i + 1) σ3 H4)
  (hd : ∀ σ H,Pv z.cps.size σ H → R H) :
  ∃ W : Nat → Nat → St → Hp → Prop,(∃ m,W 0 m σ H) ∧ ∀ i m σ' H', W i m σ' H' → ((Its z).stop i H' ∧ R H') ∨ ((Its z).go i H' ∧ ∃ N : St → Hp → Prop,(∀ σ2 H2,N σ2 H2 → ∃ m', m' < m ∧ W (i + 1) m' σ2 H2) ∧
   ∀ x H2,(Its z).yld i H' x H2 → g x σ' H2 fun σ3 H3=>tt σ3 H3 fun b H4=>if b = true then te σ3 H4 (fun v H5=>∃ ys,H5 D = some (.lst ys) ∧ ys.length < sizeLine ∧ N σ3 (upd H5 D (.lst (ys ++ [v])))) else N σ3 H4):=by
 refine ⟨fun i m σ H=>m = z.cps.size - i ∧ i ≤ z.cps.size ∧ Pv i σ H,⟨z.cps.size,by simp,Nat.zero_le _,h0⟩,?_⟩
 rintro i m σ H ⟨rfl,hi,p⟩
 by_cases hlt : i < z.cps.size
 ·refine .inr ⟨hlt,Pv (i + 1),fun σ' H' p'=>⟨z.cps.size - (i + 1),by omega,rfl,hlt,p'⟩,fun x H' y=>?_⟩
  obtain ⟨e,c,hcp,y⟩:=y
  subst e y
  exact hs i c σ _ hcp p
 ·have e : i = z.cps.size:=by omega
  subst e
  exact .inl ⟨rfl,hd σ H p⟩
end L2
namespace L2
open PySem PySem.Spec PyProof.Rows
section
variable {X : Cx}
theorem Js6 : OpR X (binaryOp .FloorDiv) (rI (fun _ j=>0 < j ∧ j.natAbs.log2 < 9000) fun i j=>.int (i / j)):=opI fun i j _ _ _ _ _ hc q=>by
 have h1 : (0 : Int) < j:=hc.1
 exact floordiv_int (by omega) (by rw [Int.fdiv_eq_ediv_of_nonneg i (by omega)]; exact q) (.inl (PyProof.noPylong_of_log2 hc.2))
def clsV : V → Option Value
 | .ty n=>some (.type n)
 | .ref a=>some (.ref a)
 | _=>none
theorem Ju3 : ∀ {ys : List Str} {us : List Value},Vals (ys.map V.str) us → StrsAre us ys
 | [],_,.nil=>.nil
 | _ :: _,_,.cons ⟨_,rfl⟩ t=>.cons _ _ (Ju3 t)
def rJoin (K : PySem.W.Frag) : V → List V → Hp → VK → Prop:=fun x xs H Q=>∃ (z : Str) (a : Addr) (ys : List Str),x = .str z ∧ xs = [.ref a] ∧ SqL K H a (ys.map V.str) ∧ (ys.map (·.length)).sum + ys.length * z.length ≤ 16777216 ∧ Q (.str (Txt.join z ys)) H
theorem Jxf : MtR X "str.join" (rJoin X.K):=by
 intro pins s σ H x xs v us Q I rx rs h
 obtain ⟨z,a,ys,rfl,rfl,hq,hz,q⟩:=h
 obtain ⟨t,rfl⟩:=rx
 obtain ⟨u,rfl,ru⟩:=Jlo rs
 cases ru
 obtain ⟨its,r,pl,_⟩:=I.list hq
 exact join_list pl.isList (by simpa using Ju3 r) hz fun t' k=>⟨.str _,H,I.tok _,⟨_,rfl⟩,q⟩
def rAll (K : PySem.W.Frag) : List V → Hp → VK → Prop:=fun xs H Q=>∃ (a : Addr) (bs : List Bool),xs = [.ref a] ∧ SqL K H a (bs.map V.bl) ∧ Q (.bl (bs.all id)) H
theorem Jlu (hc : X.calm = true) : Jkd X (.builtin "all") (rAll X.K):=by
 intro pins s σ H xs us Q I r h
 obtain ⟨a,bs,rfl,hq,q⟩:=h
 obtain ⟨u,rfl,ru⟩:=Jlo r
 cases ru
 obtain ⟨its,rv,pl,hz⟩:=I.list hq
 have hlen:=rv.length
 refine call_all_walk (wpAny_pyIter_list pl.isList ⟨s.heap.objs.size,[s.heap.objs.size,a],[s.heap.objs.size],its.toArray.size,_,_,fun i=>bs.getD i true,rfl,Walks.list (prog:=X.prog) (w:=X.w) (A:=X.A.in1) (show X.A.in1.handled = none from I.ok.hd hc) s.heap.objs.size a ?_ its.toArray,⟨⟨_,Heap.get?_push_size _ rfl,rfl,rfl⟩,pl.isList.at fun o e=>Heap.get?_push_of_some _ e⟩,?_,fun h' tk k=>?_⟩)
 ·obtain ⟨o,_,e,_⟩:=pl
  exact Nat.ne_of_lt (Heap.lt_size e)
 ·intro i v s' Q' E' hv hq'
  have hv' : its[i]? = some v:=by simpa using hv
  have hi : i < its.length:=(List.getElem?_eq_some_iff.mp hv').1
  have hb : i < bs.length:=by rw [List.length_map] at hlen; omega
  obtain ⟨u', hu', ru'⟩:=rv.get (i:=i) (x:=V.bl bs[i]) (by rw [List.getElem?_map,List.getElem?_eq_getElem hb]; rfl)
  rw [hv'] at hu'
  cases hu'
  cases ru'
  refine wpAny_truthy_bool ?_
  have : bs.getD i true = bs[i]:=by rw [List.getD_eq_getElem?_getD,List.getElem?_eq_getElem hb]; rfl
  rw [← this]
  exact hq'
 ·have e : ((List.range its.toArray.size).all fun i=>bs.getD i true) = bs.all id:=by
   have hl2 : its.toArray.size = bs.length:=by rw [List.length_map] at hlen; rw [List.size_toArray]; exact hlen.symm
   rw [hl2,Bool.eq_iff_iff,List.all_eq_true,List.all_eq_true]
   constructor
   ·intro hh b hb
    obtain ⟨i,hi,rfl⟩:=List.getElem_of_mem hb
    have:=hh i (List.mem_range.mpr hi)
    rw [List.getD_eq_getElem?_getD,List.getElem?_eq_getElem hi] at this
    exact this
   ·intro hh i hi
    have hi':=List.mem_range.mp hi
    rw [List.getD_eq_getElem?_getD,List.getElem?_eq_getElem hi']
    exact hh _ (List.getElem_mem hi')
  rw [e]
  exact ⟨.bl _,H,I.kept fun b o e=>k b o (fun z=>by
   have z' : b = s.heap.objs.size:=by simpa using z
   exact absurd (Heap.lt_size e) (by rw [z']; exact Nat.lt_irrefl _)) (Heap.get?_push_of_some _ e),rfl,q⟩
end
mutual
inductive DatV (K : PySem.W.Frag) (H : Hp) : V → PyData → Prop
 | non : DatV K H .non .none
 | bl (b : Bool) : DatV K H (.bl b) (.bool b)
 | int (i : Int) : DatV K H (.int i) (.int i)
 | str (z : Str) : DatV K H (.str z) (.str z)
 | lst {a : Addr} {xs : List V} {ds : List PyData} : SqL K H a xs → DatVs K H xs ds → DatV K H (.ref a) (.list ds)
 | tup {a : Addr} {xs : List V} {ds : List PyData} : SqT K H a xs → DatVs K H xs ds → DatV K H (.ref a) (.tuple ds)
inductive DatVs (K : PySem.W.Frag) (H : Hp) : List V → List PyData → Prop
 | nil : DatVs K H [] []
 | cons {x : V} {d : PyData} {xs : List V} {ds : List PyData} : DatV K H x d → DatVs K H xs ds → DatVs K H (x :: xs) (d :: ds)
end
section
variable {X : Cx} {pins : List (Addr × Obj)} {σ : St} {H : Hp} {s : Shared}
mutual
theorem DatV.reads (I : Inv X pins σ H s) : ∀ {x : V} {d : PyData},DatV X.K H x d → ∀ {v : Value},RelV x v → ∃ as,Reads s.heap v d as
 | _,_,.non,_,r=>by cases r; exact ⟨_,.none⟩
 | _,_,.bl b,_,r=>by cases r; exact ⟨_,.bool b⟩
 | _,_,.int i,_,r=>by obtain ⟨t,rfl⟩:=r; exact ⟨_,.int i t⟩
 | _,_,.str z,_,r=>by obtain ⟨t,rfl⟩:=r; exact ⟨_,.str z t⟩
 | _,_,.lst (a:=a) hq hd,_,r=>by
  cases r
  obtain ⟨its,rv,⟨o,n,e,c,dd,dt⟩,_⟩:=I.list hq
  obtain ⟨as,ra⟩:=DatVs.reads I hd rv
  exact ⟨_,.list e c dt (by simpa using ra)⟩
 | _,_,.tup (a:=a) hq hd,_,r=>by
  cases r
  obtain ⟨its,rv,⟨o,e,c,n,dt⟩,_⟩:=I.tuple hq
  obtain ⟨as,ra⟩:=DatVs.reads I hd rv
  exact ⟨_,.tuple e c dt (by simpa using ra)⟩
theorem DatVs.reads (I : Inv X pins σ H s) : ∀ {xs : List V} {ds : List PyData},DatVs X.K H xs ds → ∀ {us : List Value},Vals xs us → ∃ as,ReadsAll s.heap us ds as
 | _,_,.nil,_,r=>by cases r; exact ⟨_,.nil⟩
 | _,_,.cons h t,_,r=>by
  cases r with
  | cons r1 r2 =>
   obtain ⟨as,ra⟩:=DatV.reads I h r1
   obtain ⟨bs,rb⟩:=DatVs.reads I t r2
   exact ⟨_,.cons ra rb⟩
end
end
end L2
namespace L2
open PySem PySem.Spec PyProof.Rows
theorem Jii : bootBuiltins "isinstance" = some (.builtin "isinstance"):=by decide +kernel
theorem Jjb : bootBuiltins "len" = some (.builtin "len"):=by decide +kernel
theorem Jnp : bootBuiltins "max" = some (.builtin "max"):=by decide +kernel
theorem Jlc : bootBuiltins "min" = some (.builtin "min"):=by decide +kernel
theorem Jos : bootBuiltins "all" = some (.builtin "all"):=by decide +kernel
theorem Jot : bootBuiltins "int" = some (.type "int"):=by decide +kernel
theorem bt_str : bootBuiltins "str" = some (.type "str"):=by decide +kernel
theorem Jqv : bootBuiltins "bool" = some (.type "bool"):=by decide +kernel
theorem Jk7 : bootBuiltins "list" = some (.type "list"):=by decide +kernel
theorem Jj6 : bootBuiltins "tuple" = some (.type "tuple"):=by decide +kernel
structure FT (K : PySem.W.Frag) (mg : Str → Option Value) (x : Str) (st : Stmt) (ps : List Str) (f : Addr) (fd : FuncData) : Prop where
 mgx : mg x = some (.ref f)
 fn : Fun K x x st f fd
 bd : Binds K fd ps []
section
variable {X : Cx} {x : Str} {st : Stmt} {ps : List Str} {f : Addr} {fd : FuncData} {sp : Sp} {k j : Nat} {p pos : Pos} {e : Expr} {es : List Expr} {t : TA}
theorem Jia (F : FT X.K X.mg x st ps f fd) (G : FnOk X.prog X.w X.K X.mg X.base CX0 k f fd ps sp) (hr : Room j X.A) (hk : k ≤ j) (ha : PA X (e :: es) t) (hg : Gl X x:=by rfl) (hdb : (x == ("__debug__" : Str)) = false:=by decide)
  (he : starEach (e :: es) X.env = (false,eval e X.env) :: starEach es X.env:=by rfl) (hpl : (backTo pos (starEach es X.env)).any (·.1) = false:=by rfl) : PE X (.Call (.Name x p) (e :: es) [] pos) (Jsf sp [] E0 t) :=
 Jxk G (hr.mono hk) hg F.mgx F.fn.kp F.bd .nil Jnd ha hdb he hpl
end
theorem Same.upd {H : Hp} {D : Addr} {o : HO} (h : H D = none) : Same H (upd H D o):=fun b u e=>by rw [Ji9 (Ji8 e h)]; exact e
def Strm (H : Hp) (p : Addr) : Prop:=∃ a b c : Int,H p = some (.lst [.int a,.int b,.int c])
def But (p : Addr) (H H' : Hp) : Prop:=(∀ b o,b ≠ p → H b = some o → H' b = some o) ∧ Strm H' p
theorem But.trans {p : Addr} {H H1 H2 : Hp} (a : But p H H1) (b : But p H1 H2) : But p H H2:=⟨fun c o n e=>b.1 c o n (a.1 c o n e),b.2⟩
theorem But.refl {p : Addr} {H : Hp} (s : Strm H p) : But p H H:=⟨fun _ _ _ e=>e,s⟩
theorem But.same {p : Addr} {H H1 H2 : Hp} (a : But p H H1) (b : Same H1 H2) : But p H H2:=⟨fun c o n e=>b c o (a.1 c o n e),let ⟨x,y,z,e⟩:=a.2; ⟨x,y,z,b p _ e⟩⟩
theorem Strm.same {p : Addr} {H H1 : Hp} (a : Strm H p) (b : Same H H1) : Strm H1 p:=let ⟨x,y,z,e⟩:=a; ⟨x,y,z,b p _ e⟩
theorem But.of {p : Addr} {H H1 : Hp} (a : Strm H p) (b : Same H H1) : But p H H1:=(But.refl a).same b
theorem But.free {p : Addr} {H H' : Hp} (s : Strm H p) (b : But p H H') {D : Addr} (h : H' D = none) : H D = none:=by
 by_cases e : D = p
 ·obtain ⟨x,y,z,q⟩:=b.2
  rw [e,q] at h
  cases h
 ·cases q : H D with
  | none=>rfl
  | some o =>
   rw [b.1 D o e q] at h
   cases h
theorem But.updD {p D : Addr} {H H' : Hp} {o : HO} (b : But p H H') (hD : H D = none) (ne : D ≠ p) : But p H (upd H' D o):=by
 refine ⟨fun c u n e=>?_,?_⟩
 ·rw [Ji9 (Ji8 e hD)]
  exact b.1 c u n e
 ·obtain ⟨x,y,z,q⟩:=b.2
  exact ⟨x,y,z,by rw [Ji9 (Ne.symm ne)]; exact q⟩
theorem Strm.ne {p D : Addr} {H : Hp} (s : Strm H p) (hD : H D = none) : D ≠ p:=by
 obtain ⟨x,y,z,q⟩:=s
 exact (Ji8 q hD).symm
theorem Jk2 {p : Addr} {H : Hp} {a : Addr} {o : HO} (s : Strm H p) (h : H a = some o) (hn : ∀ x y z : Int,o ≠ .lst [.int x,.int y,.int z]) : a ≠ p:=by
 intro e
 obtain ⟨x,y,z,q⟩:=s
 rw [e,q] at h
 exact hn x y z (Option.some.inj h).symm
def spTake : Sp:=fun vs H Q _=>∃ (p : Addr) (m : Int),vs = [.ref p,.int m] ∧ Strm H p ∧ 0 < m ∧ m.natAbs.log2 < 9000 ∧ ∀ (r : Int) (H' : Hp),0 ≤ r → r < m → But p H H' → Q (.int r) H'
def Jwj : Sp:=fun vs H Q _=>∃ c : Int,vs = [.int c] ∧ ∀ (p : Addr) (H' : Hp),H p = none → Same H H' → Strm H' p → Q (.ref p) H'
def spCell (K : PySem.W.Frag) : Sp:=fun vs H Q _=>∃ (a : Addr) (ns : List Int) (k : Nat),vs = [.ref a,.int k] ∧ SqL K H a (ns.map V.int) ∧ ∀ n : Int,Q (.int n) H
theorem atI_of {xs : List V} {i : Int} {j : Nat} {v : V} (hi : i = j) (h : xs[j]? = some v) : atI xs i = some v:=by rw [hi]; exact Jlb h
theorem Jxc {ns : List Int} {k : Nat} (h : k < ns.length) : atI (ns.map V.int) (k : Int) = some (.int ns[k]):=Jlb (by rw [List.getElem?_map,List.getElem?_eq_getElem h]; rfl)
theorem Jtr {A : Around} {k : Nat} (hr : Room k A) : A.units + 64 < cLine:=hr.units
end L2
namespace L2
open PySem PySem.Spec PyProof.Rows Builtin Builtin.ObjectAttr
abbrev VEm : List Value:=[.type "ValueError",.type "Exception",.type "BaseException",.type "object"]
def xcB (K : PySem.W.Frag) (C fI : Addr) : Bool :=
 PySem.W.findIn K (.ref C) "__getattribute__" == some (some (.builtin "BaseException.__getattribute__")) && PySem.W.findIn K (.ref C) "__getattr__" == some none && PySem.W.findIn K (.ref C) "__setattr__" == some (some (.builtin "object.__setattr__")) &&
 PySem.W.findIn K (.ref C) "__init__" == some (some (.ref fI)) && PySem.W.typeIn K (.ref fI) == some (.type "function") && PySem.W.keepIn K (.ref C) && PySem.W.hasDictIn K C && PySem.W.mroIn K C (.type "BaseException") == some true && PySem.W.mroIn K C (.type "object") == some true &&
 PySem.W.findIn K (.ref C) "__class__" == some (some (.builtin "object.__class__")) && PySem.W.specialIn K (.builtin "object.__class__") "__get__" == some (some (.builtin "getset_descriptor.__get__")) && PySem.W.takesIn K (.builtin "object.__class__") == some true
structure XCls (K : PySem.W.Frag) (C W fI : Addr) : Prop where
 obj : ∃ (nm q : Str) (N : Addr) (bs : List Value) (sn : List Str) (sub : List Value) (ab : Bool) (col : Option Bool) (dd : Option Addr) (k0 k1 k2 k3 k5 : Option Value),
  K.lookup C = some (excClassObj nm q C N bs (.ref W :: VEm) true sn sub ab col dd k0 k1 k2 k3 k5 "ValueError.__new__")
 tl : PySem.W.tailIn K VEm (.ref W :: VEm) = true
 all : xcB K C fI = true
theorem Jjf {K : PySem.W.Frag} {C fI : Addr} (h : xcB K C fI = true) :
  (PySem.W.findIn K (.ref C) "__getattribute__" = some (some (.builtin "BaseException.__getattribute__")) ∧ PySem.W.findIn K (.ref C) "__getattr__" = some none ∧ PySem.W.findIn K (.ref C) "__setattr__" = some (some (.builtin "object.__setattr__"))) ∧
  (PySem.W.findIn K (.ref C) "__init__" = some (some (.ref fI)) ∧ PySem.W.typeIn K (.ref fI) = some (.type "function") ∧ PySem.W.keepIn K (.ref C) = true ∧ PySem.W.hasDictIn K C = true) ∧ PySem.W.mroIn K C (.type "BaseException") = some true ∧ PySem.W.mroIn K C (.type "object") = some true ∧
  PySem.W.findIn K (.ref C) "__class__" = some (some (.builtin "object.__class__")) ∧ PySem.W.specialIn K (.builtin "object.__class__") "__get__" = some (some (.builtin "getset_descriptor.__get__")) ∧ PySem.W.takesIn K (.builtin "object.__class__") = some true:=by
 unfold xcB at h
 simp only [Bool.and_eq_true,beq_iff_eq] at h
 obtain ⟨⟨⟨⟨⟨⟨⟨⟨⟨⟨⟨a,b⟩,c⟩,d⟩,e⟩,f⟩,g⟩,i⟩,j⟩,k⟩,l⟩,m⟩:=h
 exact ⟨⟨a,b,c⟩,⟨d,e,f,g⟩,i,j,k,l,m⟩
section
variable {K : PySem.W.Frag} {C W fI : Addr} (c : XCls K C W fI)
include c
theorem XCls.ga : PySem.W.findIn K (.ref C) "__getattribute__" = some (some (.builtin "BaseException.__getattribute__")):=(Jjf c.all).1.1
theorem XCls.gh : PySem.W.findIn K (.ref C) "__getattr__" = some none:=(Jjf c.all).1.2.1
theorem XCls.sa : PySem.W.findIn K (.ref C) "__setattr__" = some (some (.builtin "object.__setattr__")):=(Jjf c.all).1.2.2
theorem XCls.ini : PySem.W.findIn K (.ref C) "__init__" = some (some (.ref fI)):=(Jjf c.all).2.1.1
theorem XCls.fn : PySem.W.typeIn K (.ref fI) = some (.type "function"):=(Jjf c.all).2.1.2.1
theorem XCls.kp : PySem.W.keepIn K (.ref C) = true:=(Jjf c.all).2.1.2.2.1
theorem XCls.hd : PySem.W.hasDictIn K C = true:=(Jjf c.all).2.1.2.2.2
theorem XCls.mb : PySem.W.mroIn K C (.type "BaseException") = some true:=(Jjf c.all).2.2.1
theorem XCls.mo : PySem.W.mroIn K C (.type "object") = some true:=(Jjf c.all).2.2.2.1
theorem XCls.cl : PySem.W.findIn K (.ref C) "__class__" = some (some (.builtin "object.__class__")):=(Jjf c.all).2.2.2.2.1
theorem XCls.cg : PySem.W.specialIn K (.builtin "object.__class__") "__get__" = some (some (.builtin "getset_descriptor.__get__")):=(Jjf c.all).2.2.2.2.2.1
theorem XCls.ct : PySem.W.takesIn K (.builtin "object.__class__") = some true:=(Jjf c.all).2.2.2.2.2.2
end
theorem Jv8 (self : Value) (C W : Addr) : refuseLoop self "__setattr__" (.ref C :: .ref W :: VEm) = pure ():=by
 rw [refuseLoop_ref,refuseLoop_ref]
 exact PySem.F.store_ValueError.passes self
theorem XCls.mro {K : PySem.W.Frag} {C W fI : Addr} (c : XCls K C W fI) : ∃ cd,PySem.W.clsIn K C = some cd ∧ cd.mro = .ref C :: .ref W :: VEm ∧ cd.hasDict = true:=by
 obtain ⟨nm,q,N,bs,sn,sub,ab,col,dd,k0,k1,k2,k3,k5,l⟩:=c.obj
 unfold PySem.W.clsIn
 rw [l]
 exact ⟨_,rfl,rfl,rfl⟩
section
variable {prog : Program} {w : World} {A : Around} {E : Value → Shared → Prop} {s : Shared} {K : PySem.W.Frag} {x C W fI : Addr} {ox : Obj} {od : Option Obj} {name : Str}
theorem Jy9 : builtinKind "BaseException.__getattribute__" = some .slot:=by decide +kernel
theorem Jwz : splitId "BaseException.__getattribute__" = some ("BaseException","__getattribute__"):=by decide +kernel
theorem Ju8 {r : Found} {tk : Tok} {R : Result → Shared → Prop} (c : XCls K C W fI) (X : K.In s.heap) (I : PySem.W.InstAt s.heap x ox C od) (hf : PySem.W.findObj K C od name = some r)
  (h : wpAny (model prog w) A.in1 (match r with | .value v=>ret v | .bind g b=>bindTo g b (.ref x) (.ref C) | .missing=>unsupported "none")
   (fun fin s'=>match fin with | .done f=>R (.ok f) s' | .again c'=>c'.quiet = true ∧ codeAny (model prog w) A c' R s') (fun e s'=>R (.error e) s') s) (hr : r ≠ .missing) :
  codeAny (model prog w) A (.call (.builtin "BaseException.__getattribute__") ⟨[.ref x,.str name tk],[]⟩) R s:=by
 have T0:=I.type (M:=model prog w)
 have T3:=PySem.W.looks_find (M:=model prog w) X I hf
 have T4 : PySem.W.Looks (model prog w) s.heap (isInstance (.ref x) (.type "BaseException")) true:=T0.andThen (PySem.W.looks_mroIn X c.mb)
 have ck : ∀ {Q' : Unit → Shared → Prop} {E' : Value → Shared → Prop} {A' : Around},Q' () s → wpAny (model prog w) A' (checkBuiltinCall "BaseException.__getattribute__" ⟨[.ref x,.str name tk],[]⟩) Q' E' s:=fun {Q' E' A'} q =>
  @PySem.W.check_slot (model prog w) A' E' s "BaseException.__getattribute__" "BaseException" "__getattribute__" (.ref x) [.str name tk] [] Q' Jy9 Jwz T4 (F.args_bexc_ga (.ref x) (.str name tk)) q
 refine codeAny_call_builtin F.excAttr_ValueError.ga.plain F.entry_bexc_ga (ck ?_)
 unfold Builtin.«object.__getattribute__»
 refine wpAny_bind (wpAny_pure (wpAny_bind (wpAny_pure (wpAny_bind (T0.here (wpAny_bind (T3.here ?_)))))))
 cases r with
 | missing=>exact absurd rfl hr
 | value v=>exact h
 | bind gg b=>exact h
theorem xc_get {v : Value} {expr : Bool} {Q : Value → Shared → Prop} (c : XCls K C W fI) (X : K.In s.heap) (I : PySem.W.InstAt s.heap x ox C od) (hf : PySem.W.findObj K C od name = some (.value v)) (hh : PySem.W.handedIn v = true)
  (q : Q v { s with toks:=s.toks + 1 }) : wpAny (model prog w) A (getAttr (.ref x) name expr) Q E s:=by
 obtain ⟨hp,g,d,t,os⟩:=s
 have T0:=I.type (M:=model prog w)
 have T1:=PySem.W.looks_findIn (M:=model prog w) X c.ga
 have T2:=PySem.W.looks_findIn (M:=model prog w) X c.gh
 unfold getAttr getAttrBy
 refine wpAny_bind (wpAny_mkText (wpAny_holding (wpAny_bind (T0.at (wpAny_bind (T1.at ?_))))))
 show wpAny _ _ (getAttrByItsOwn (.ref x) _ (.ref C) _ _ _) _ _ _
 unfold getAttrByItsOwn
 refine wpAny_bind (show wpAny _ _ (typeLookup (.ref C) "__getattr__") _ _ _ from T2.at ?_)
 have e0 : callGetattribute (.ref x) (.str name t) (.builtin "BaseException.__getattribute__") expr = boundAndCalled (.builtin "BaseException.__getattribute__") (.ref x) (.str name t):=by cases expr <;> rfl
 rw [e0]
 unfold boundAndCalled
 rw [F.excAttr_ValueError.ga.bind]
 refine wpAny_bind (wpAny_attempt (wpAny_holding (wpAny_bind (wpAny_pure (wpAny_call (Ju8 (s:=⟨hp,g,d,t + 1,os⟩) (r:=.value v) c X I hf ?_ (fun z=>nomatch z)))))))
 refine wpAny_pure ?_
 show wpAny _ _ (handedOut v) _ _ _
 rw [PySem.W.handedOut_of hh]
 exact wpAny_pure q
end
end L2
namespace L2
open PySem PySem.Spec PyProof.Rows Builtin Builtin.ObjectAttr
section
variable {prog : Program} {w : World} {A : Around} {E : Value → Shared → Prop} {s : Shared} {K : PySem.W.Frag} {x C W fI : Addr} {ox : Obj} {od : Option Obj} {name : Str} {v : Value}
theorem xc_osa {tk : Tok} {R : Result → Shared → Prop} (c : XCls K C W fI) (X : K.In s.heap) (I : PySem.W.InstAt s.heap x ox C od) (hn : PySem.W.findIn K (.ref C) name = some none)
  (h : wpAny (model prog w) A.in1 (storeInOwnDict (.ref x) (.ref C) (.str name tk) name v false)
   (fun fin s'=>match fin with | .done f=>R (.ok f) s' | .again c'=>c'.quiet = true ∧ codeAny (model prog w) A c' R s') (fun e s'=>R (.error e) s') s) :
  codeAny (model prog w) A (.call (.builtin "object.__setattr__") ⟨[.ref x,.str name tk,v],[]⟩) R s:=by
 have SF:=PySem.F.store_object
 obtain ⟨cd,hc,hm,_⟩:=c.mro
 have T0:=I.type (M:=model prog w)
 have sub : PySem.W.Looks (model prog w) s.heap (isInstance (.ref x) (.type "object")) true:=T0.andThen (PySem.W.looks_mroIn X c.mo)
 have hmr : PySem.W.Looks (model prog w) s.heap (mroOf (.ref C)) cd.mro:=(PySem.W.looks_clsIn X hc).andThen .now
 have T2:=PySem.W.looks_findIn (M:=model prog w) X hn
 refine codeAny_call_builtin SF.slot.plain SF.entry (@PySem.W.check_slot (model prog w) _ _ s "object.__setattr__" "object" "__setattr__" (.ref x) [.str name tk,v] [] _ SF.kind SF.split sub (SF.args (.ref x) (.str name tk) v) ?_)
 rw [PySem.W.osa_eq,refuse_eq]
 refine wpAny_bind (wpAny_bind (T0.here (wpAny_bind (hmr.here ?_))))
 rw [hm,Jv8]
 exact wpAny_pure (wpAny_bind (T0.here (wpAny_bind (T2.here (wpAny_bind (wpAny_pure h))))))
theorem Jtg {vs : Array Value} {Q : Unit → Shared → Prop} (c : XCls K C W fI) (X : K.In s.heap) (hx : s.heap.get? x = some ox) (hcl : ox.cls = .ref C) (hdi : ox.dict = none) (hd : ox.data = .fields vs) (hn : PySem.W.findIn K (.ref C) name = some none)
  (h : ∀ h', (∀ b u,b ≠ x → s.heap.get? b = some u → h'.get? b = some u) → h'.get? x = some { ox with dict:=some s.heap.objs.size } → h'.Ns1 s.heap.objs.size (fun y=>if y = name then some v else none) → Q () { s with heap:=h', toks:=s.toks + 2 }) :
  wpAny (model prog w) A (setAttr (.ref x) name v) Q E s:=by
 have I : PySem.W.InstAt s.heap x ox C none:=⟨hx,hcl,by unfold PySem.W.notCls; rw [hd],by rw [hdi]; trivial⟩
 obtain ⟨cd,hc,_,hdct⟩:=c.mro
 refine PySem.W.set_plain X I c.sa (xc_osa (s:={ s with toks:=s.toks + 1 }) c X I hn ?_)
 obtain ⟨oc,odi,oda,osl⟩:=ox
 dsimp only at hcl hdi hd
 subst hcl hdi hd
 refine wpAny_bind (wpAny_pure (wpAny_bind (wpAny_bind (wpAny_loadPart hx (wpAny_bind (PySem.W.Looks.here (s:={ s with toks:=s.toks + 1 }) (PySem.W.looks_clsIn X hc) ?_))))))
 rw [hdct]
 dsimp only
 simp only [Bool.not_true,Bool.false_eq_true,if_false,typeHasDict,Bool.or_false]
 have e1 : (s.heap.push { cls:=.type "dict",data:=.dict #[] }).get? x = some ⟨.ref C,none,.fields vs,osl⟩:=Heap.get?_push_of_some _ hx
 have nx : s.heap.objs.size ≠ x:=Nat.ne_of_gt (Heap.lt_size hx)
 have n0 : (s.heap.push { cls:=.type "dict",data:=.dict #[] }).Ns s.heap.objs.size (fun _=>none):=⟨_,#[],_,Heap.get?_push_size s.heap rfl,rfl,(fun e he=>absurd he (by simp)),fun _=>rfl⟩
 refine wpAny_bind (wpAny_alloc (wpAny_bind (wpAny_update e1 ?_)))
 have e2:=Heap.get?_update_self (fun o=>{ o with dict:=some s.heap.objs.size }) e1 rfl
 have n1 : ((s.heap.push { cls:=.type "dict",data:=.dict #[] }).update x fun o=>{ o with dict:=some s.heap.objs.size }).Ns1 s.heap.objs.size (fun _=>none) :=
  (Heap.Ns1.of_empty n0).at fun o q=>by rw [Heap.get?_update_other _ _ (Ne.symm nx)]; exact q
 refine wpAny_pure (wpAny_bind (wpAny_pure (wpAny_bind ?_)))
 refine wpAny_nsSet1 n1 fun h' n2 sb=>?_
 obtain ⟨oD,esD,epD,hoD,hdD,hcD⟩:=n2.count (PySem.Within.cons name v PySem.Within.nil)
 refine wpAny_bind (wpAny_lookBehind hoD (by rw [hdD]; exact pastItsLine_dict (Nat.le_trans hcD (Nat.le_add_left 1 sizeLine))) ?_)
 refine wpAny_pure (h h' (fun b u hb q=>?_) ((sb.2 _ (Ne.symm nx)).trans e2) n2)
 have nb : b ≠ s.heap.objs.size:=Nat.ne_of_lt (Heap.lt_size q)
 rw [sb.2 b nb,Heap.get?_update_other _ _ (Ne.symm hb)]
 exact Heap.get?_push_of_some _ q
end
abbrev Jv9 (us : List Value) : Obj:={ cls:=.type "tuple",data:=.seq us.toArray }
abbrev xObj (C : Addr) (t : Addr) : Obj:={ cls:=.ref C,data:=.fields #[.ref t,.none,.none,.none,.bool false,.none] }
section
variable {prog : Program} {w : World} {A : Around} {E : Value → Shared → Prop} {K : PySem.W.Frag} {C W fI : Addr} {us : List Value} {hp : Heap} {g : Array GenState} {d : Drawn} {t : Nat} {os : OsState}
theorem Jx0 {Q : PySem.Fin → Shared → Prop} (c : XCls K C W fI) (X : K.In hp) (hz : us.length ≤ sizeLine)
  (h : wpAny (model prog w) A (call (.ref fI) (.ref (hp.objs.size + 1) :: us)) (fun r s'=>r = .none ∧ Q (.done (.ret (.ref (hp.objs.size + 1)))) s') E ⟨(hp.push (Jv9 us)).push (xObj C hp.objs.size),g,d,t,os⟩) :
  wpAny (model prog w) A (Builtin.«type.__call__» ⟨.ref C :: us,[]⟩) Q E ⟨hp,g,d,t,os⟩:=by
 obtain ⟨nm,q,N,bs,sn,sub,ab,col,dd,k0,k1,k2,k3,k5,l⟩:=c.obj
 have FV:=F.excBase_ValueError
 have kC:=X _ _ l
 have TL : OwnTail hp VEm (.ref W :: VEm):=PySem.W.tail_of_in X c.tl
 have up : ∀ b o,hp.get? b = some o → ((hp.push (Jv9 us)).push (xObj C hp.objs.size)).get? b = some o:=fun b o e=>Heap.get?_push_of_some _ (Heap.get?_push_of_some _ e)
 have gE : ((hp.push (Jv9 us)).push (xObj C hp.objs.size)).get? (hp.objs.size + 1) = some ({ cls:=.ref C,data:=.fields #[.ref hp.objs.size,.none,.none,.none,.bool false,.none] } : Obj):=Heap.get?_push_at (by simp only [Heap.size_push]) rfl
 have X2:=X.keeps up
 have kC2:=X2 _ _ l
 have hcC : (Value.ref C :: .ref W :: VEm).contains (.ref C) = true:=by simp
 repeat (first | with_reducible refine wpAny_loadPart_at kC ?_ | with_reducible refine wpAny_madeBy_exc kC ?_ | wp_step)
 refine codeAny_call_builtin_code (Code.quiet_builtin _ FV.quiet) (wpAny_check_new_subT FV TL kC (codeAny_exc_new_subT FV TL kC ?_ hz))
 show wpAny _ _ _ _ _ _
 unfold isInstance
 repeat (first | with_reducible refine wpAny_loadPart_at gE ?_ | (with_reducible refine wpAny_isSubtype_exc kC2 ?_; rw [hcC]) | wp_step)
 show wpAny _ _ (typeLookup (.ref C) _) _ _ _
 refine (PySem.W.looks_findIn X2 c.ini).at (wpAny_holding (wpAny_bind ((PySem.W.bind_fn X2 _ c.fn).at ?_)))
 refine wpAny_bind (wpAny_mono h (fun r s' hr=>?_) fun _ _ z=>z)
 obtain ⟨rfl,hQ⟩:=hr
 wp_walk
 exact hQ
theorem Jya {s : Shared} {Q : Value → Shared → Prop} (c : XCls K C W fI) (X : K.In s.heap) (hz : us.length ≤ sizeLine)
  (h : wpAny (model prog w) (A.under (.builtin "type.__call__" ⟨.ref C :: us,[]⟩)) (call (.ref fI) (.ref (s.heap.objs.size + 1) :: us)) (fun r s'=>r = .none ∧ Q (.ref (s.heap.objs.size + 1)) s') E { s with heap:=(s.heap.push (Jv9 us)).push (xObj C s.heap.objs.size) }) :
  wpAny (model prog w) A (call (.ref C) us) Q E s:=by
 obtain ⟨hp,g,d,t,os⟩:=s
 obtain ⟨nm,q,N,bs,sn,sub,ab,col,dd,k0,k1,k2,k3,k5,l⟩:=c.obj
 have kC:=X _ _ l
 have v1:=tc_lookup
 have v2:=tc_bind (.ref C)
 have hT : (⟨hp,g,d,t,os⟩ : Shared).TypeIs (.ref C) "type" := ⟨_,kC,rfl⟩
 refine wpAny_call (codeAny_of_tree ?_)
 show wpAny _ _ (callAny (.ref C) _) _ _ _
 repeat (any_goals (first | assumption | with_reducible refine wpAny_loadPart_at kC ?_ | wp_step))
 exact ⟨rfl,codeAny_call_builtin_at (Code.quiet_builtin _ (by decide +kernel)) entry_typeCall (wpAny_check_type_call_sub kC (Jx0 c X hz h))⟩
end
end L2
namespace L2
open PySem PySem.Spec PyProof.Rows
def XO (e C : Addr) (dx : Option Addr) (fr : Bool) : HO:=.ext fun h=>∃ o vs,h.get? e = some o ∧ o.cls = .ref C ∧ o.dict = dx ∧ o.data = .fields vs ∧ (∃ t,vs[0]? = some (.ref t)) ∧ ∃ y,vs[1]? = some y ∧ (fr = true → y = .none)
def XD (dx : Addr) (fs : List (Str × V)) : HO:=.ext fun h=>∃ mA,h.Ns1 dx mA ∧ (∀ f,RelO (fs.lookup f) (mA f)) ∧ PySem.Within mA (fs.map (·.1)) ∧ fs.length ≤ 1000
section
variable {P : Program} {w : World} {H : Hp} {h : Heap} {e C dx : Addr} {od : Option Addr} {fr : Bool} {fs : List (Str × V)}
theorem Jx1 {o : Obj} {vs : Array Value} (he : h.get? e = some o) (h1 : o.cls = .ref C) (h2 : o.dict = od) (h3 : o.data = .fields vs) (h4 : ∃ t,vs[0]? = some (.ref t)) (h5 : ∃ y,vs[1]? = some y ∧ (fr = true → y = .none)) : ObjOk P w H h e (XO e C od fr) :=
 ⟨⟨o,vs,he,h1,h2,h3,h4,h5⟩,⟨o,he⟩,fun _ _ ⟨o,vs,a,r⟩ k=>⟨o,vs,k o a,r⟩⟩
theorem Jpl (hok : HOk P w H h) (q : H e = some (XO e C od fr)) : ∃ o vs,h.get? e = some o ∧ o.cls = .ref C ∧ o.dict = od ∧ o.data = .fields vs ∧ (∃ t,vs[0]? = some (.ref t)) ∧ ∃ y,vs[1]? = some y ∧ (fr = true → y = .none):=(hok e _ q).1
theorem xd_ok {mA : Str → Option Value} (n : h.Ns1 dx mA) (r : ∀ f,RelO (fs.lookup f) (mA f)) (w' : PySem.Within mA (fs.map (·.1))) (z : fs.length ≤ 1000) : ObjOk P w H h dx (XD dx fs) :=
 ⟨⟨mA,n,r,w', z⟩,(let ⟨o,_,_,q,_⟩:=n; ⟨o,q⟩),fun _ _ ⟨m,a,r⟩ k=>⟨m,a.at k,r⟩⟩
theorem xd_get (hok : HOk P w H h) (q : H dx = some (XD dx fs)) : ∃ mA,h.Ns1 dx mA ∧ (∀ f,RelO (fs.lookup f) (mA f)) ∧ PySem.Within mA (fs.map (·.1)) ∧ fs.length ≤ 1000:=(hok dx _ q).1
theorem Ju9 (hok : HOk P w H h) (q : H e = some (XO e C (some dx) fr)) (qd : H dx = some (XD dx fs)) : ∃ (ox oD : Obj) (mA : Str → Option Value),PySem.W.InstAt h e ox C (some oD) ∧ (∀ n,PySem.W.lookIn n oD = some (mA n)) ∧ ∀ f,RelO (fs.lookup f) (mA f):=by
 obtain ⟨o,vs,he,hc,hd,hf,_⟩:=Jpl hok q
 obtain ⟨mA,n1,r,_⟩:=xd_get hok qd
 obtain ⟨oD,hD,hl⟩:=Jqg n1
 exact ⟨o,oD,mA,⟨he,hc,by unfold PySem.W.notCls; rw [hf],by rw [hd]; exact hD⟩,hl,r⟩
end
section
variable {X : Cx} {pins : List (Addr × Obj)} {σ : St} {H : Hp} {s : Shared} {e C W fI dx : Addr} {fs : List (Str × V)} {fr : Bool} {f : Str} {v : V} {A : Around} {E : Value → Shared → Prop}
theorem Jsl {b : Bool} {Q : Value → Shared → Prop} (I : Inv X pins σ H s) (q : H e = some (XO e C (some dx) fr)) (qd : H dx = some (XD dx fs)) (c : XCls X.K C W fI) (n : NoAttr X.K C f) (l : fs.lookup f = some v)
  (h : ∀ u s', Inv X pins σ H s' → RelV v u → Q u s') : wpAny (model X.prog X.w) A (getAttr (.ref e) f b) Q E s:=by
 obtain ⟨ox,oD,mA,J,hl,r⟩:=Ju9 I.hok q qd
 obtain ⟨u,hu,ru⟩:=RelO.some_of (v:=v) (o:=mA f) (by rw [← l]; exact r f)
 exact xc_get c I.kIn J (PySem.W.findObj_own c.hd n rfl (by rw [hl,hu])) (Jqd ru) (h u _ (I.tok _) ru)
theorem Jx2 {y : V} {u : Value} {Q : Unit → Shared → Prop} (I : Inv X pins σ H s) (q : H e = some (XO e C none fr)) (c : XCls X.K C W fI) (n : NoAttr X.K C f) (ry : RelV y u)
  (h : ∀ dx s', H dx = none → dx ≠ e → Inv X pins σ (upd (upd H dx (XD dx [(f,y)])) e (XO e C (some dx) fr)) s' → Q () s') : wpAny (model X.prog X.w) A (setAttr (.ref e) f u) Q E s:=by
 obtain ⟨o,vs,he,hc,hd,hf,h0,h1⟩:=Jpl I.hok q
 have ne : s.heap.objs.size ≠ e:=Nat.ne_of_gt (Heap.lt_size he)
 have hn : H s.heap.objs.size = none:=I.hok.fresh (Nat.le_refl _)
 refine Jtg c I.kIn he hc hd hf n fun h' kp ke n1=>h s.heap.objs.size _ hn ne ?_
 have hD : h'.get? s.heap.objs.size ≠ none:=by obtain ⟨oD,_,_,q1,_⟩:=n1; rw [q1]; exact fun z=>nomatch z
 have qd : ∀ m : Hp,ObjOk X.prog X.w m h' s.heap.objs.size (XD s.heap.objs.size [(f,y)]):=fun m=>xd_ok n1 (fun g=>by
  by_cases z : g = f
  ·have zb : (g == f) = true:=beq_iff_eq.mpr z
   simp only [List.lookup,zb,if_pos z]; exact ry
  ·have zb : (g == f) = false:=beq_eq_false_iff_ne.mpr z
   simp only [List.lookup,zb,if_neg z]; exact True.intro) (fun g hg=>by
  by_cases z : g = f
  ·rw [z]; simp
  ·exact absurd (if_neg z) hg) (by simp)
 have un1 : Un X.fs [] H (upd (upd H s.heap.objs.size (XD s.heap.objs.size [(f,y)])) e (XO e C (some s.heap.objs.size) fr)) s.heap h':=by
  have nb : ∀ b ob,s.heap.get? b = some ob → b ≠ s.heap.objs.size:=fun b ob z=>Nat.ne_of_lt (Heap.lt_size z)
  have sm : ∀ b u', H b = some u' → u' ≠ XO e C none fr → upd (upd H s.heap.objs.size (XD s.heap.objs.size [(f,y)])) e (XO e C (some s.heap.objs.size) fr) b = some u':=fun b u' z d=>by
   rw [Ji9 (fun w' : b = e=>d (by rw [w', q] at z; exact (Option.some.inj z).symm)),Ji9 (Ji8 z hn)]; exact z
  refine ⟨fun b ob z n _ _=>kp b ob (fun w'=>by rw [w', q] at n; cases n) z,fun b ob z n _ _=>⟨ob.slots,kp b ob (fun w'=>by rw [w', q] at n; cases n) z⟩,fun b ob z n _=>?_,fun b ob z _=>?_,fun b xs z=>sm b _ z (fun w'=>by cases w'),fun b ob u' z=>sm b _ z (fun w'=>by cases w'),fun b ps z=>⟨#[],by rw [sm b _ z (fun w'=>by cases w')]; simp⟩⟩
  ·rw [Ji9 (fun w'=>by rw [w', q] at n; cases n),Ji9 (nb b ob z)]; exact n
  ·by_cases w' : b = e
   ·exact ⟨_,by rw [w']; exact ke⟩
   ·exact ⟨ob,kp b ob w' z⟩
 refine I.un (t':=s.toks + 2) un1 fun b ob z=>?_
 by_cases w1 : b = e
 ·subst w1
  rw [Ji3] at z; cases z
  exact Jx1 ke hc rfl hf h0 h1
 ·rw [Ji9 w1] at z
  by_cases w2 : b = s.heap.objs.size
  ·subst w2
   rw [Ji3] at z; cases z
   exact qd _
  ·rw [Ji9 w2] at z
   have keep : ∀ c' u', H c' = some u' → u' ≠ XO e C none fr → upd (upd H s.heap.objs.size (XD s.heap.objs.size [(f,y)])) e (XO e C (some s.heap.objs.size) fr) c' = some u':=fun c' u' zz d=>by
    rw [Ji9 (fun w' : c' = e=>d (by rw [w', q] at zz; exact (Option.some.inj zz).symm)),Ji9 (Ji8 zz hn)]; exact zz
   refine (I.hok b ob z).stay (fun c' v' hc' zz=>kp c' v' ?_ zz) (fun c' zz=>keep c' _ zz (fun w'=>by cases w')) (fun c' xs zz=>keep c' _ zz (fun w'=>by cases w')) fun c' xs zz=>keep c' _ zz (fun w'=>by cases w')
   rcases hc' with rfl | hc'
   ·exact w1
   ·rintro rfl; rw [q] at hc'; cases hc'
theorem Inv.xmade {us : List Value} (I : Inv X pins σ H s) : Inv X pins σ (upd H (s.heap.objs.size + 1) (XO (s.heap.objs.size + 1) C none true)) { s with heap:=(s.heap.push (Jv9 us)).push (xObj C s.heap.objs.size) }:=by
 have I1:=I.kept (h':=s.heap.push (Jv9 us)) (t':=s.toks) fun b u q=>Heap.get?_push_of_some _ q
 refine I1.laid (a:=s.heap.objs.size + 1) (t':=s.toks) (fun b u q=>Heap.get?_push_of_some _ q) (Nat.le_of_eq (Heap.size_push _ _)) ?_
 exact Jx1 (Heap.get?_push_at (by simp only [Heap.size_push]) rfl) rfl rfl rfl ⟨_,rfl⟩ ⟨_,rfl,fun _=>rfl⟩
end
def tFldX (K : PySem.W.Frag) (ta : TE) (f : Str) : TE:=fun σ H Q=>ta σ H fun x H1=>∃ e C W fI dx fs v fr,x = .ref e ∧ H1 e = some (XO e C (some dx) fr) ∧ H1 dx = some (XD dx fs) ∧ XCls K C W fI ∧ NoAttr K C f ∧ fs.lookup f = some v ∧ Q v H1
def sFldN (K : PySem.W.Frag) (ta tv : TE) (f : Str) : TS:=fun D σ H=>tv σ H fun y H1=>ta σ H1 fun x H2=>∃ e C W fI fr,x = .ref e ∧ H2 e = some (XO e C none fr) ∧ XCls K C W fI ∧ NoAttr K C f ∧ ∀ dx,H2 dx = none → dx ≠ e →
 D.nx σ (upd (upd H2 dx (XD dx [(f,y)])) e (XO e C (some dx) fr))
def tExc (C : Addr) (sp : Sp) (t : TA) : TE:=fun σ H Q=>t σ H fun vs H1=>vs.length ≤ 1000 ∧ ∀ e,H1 e = none → sp (.ref e :: vs) (upd H1 e (XO e C none true)) (fun v H2=>v = .non ∧ Q (.ref e) H2) E0
section
variable {X : Cx} {o e value : Expr} {f : Str} {pos pos' tpos p : Pos} {ta tv : TE} {C W fI : Addr} {fd : FuncData} {ps : List Str} {sp : Sp} {k j : Nat} {x : Str} {es : List Expr} {t : TA}
theorem Jty (he : PE X e ta) (hb : attributeBase e f X.env (eval e X.env) = eval e X.env) : PE X (.Attribute e f pos) (tFldX X.K ta f):=by
 intro pins s σ H Q I h
 refine Jti hb (thn (he pins s σ H _ I h) fun u s1 ⟨x,H1,I1,rx,a,C,W,fI,dx,fs,v,fr,ex,q,qd,c,n,l,k⟩=>?_)
 subst ex
 obtain rfl : u = Value.ref a:=rx
 exact Jsl I1 q qd c n l fun u' s2 I2 ru=>⟨v,H1,I2,ru,k⟩
theorem Jkz (ha : PE X o ta) (hv : PE X value tv) (hs : swapsWith value (some (.Attribute o f pos')) pos.line X.env = pure false) : PS X (.Assign [.Attribute o f pos'] value pos) (sFldN X.K ta tv f):=by
 intro pins s σ H D I h
 refine plainObj_wpAny_Assign_Attribute (thn (hv pins s σ H _ I h) fun u s1 ⟨y,H1,I1,ry,q⟩=>thn (ha pins s1 σ H1 _ I1 q) fun ov s2 ⟨x,H2,I2,rx,a,C,W,fI,fr,ex,ea,c,n,q2⟩=>?_) hs
 subst ex
 obtain rfl : ov = Value.ref a:=rx
 exact Jx2 I2 ea c n ry fun dx s3 h1 h2 I3=>⟨σ,_,I3,q2 dx h1 h2⟩
theorem Jxr {pins : List (Addr × Obj)} {σ : St} {H : Hp} {s : Shared} {Q : VK} {us : List Value} {vs : List V} (c : XCls X.K C W fI) (G : FnOk X.prog X.w X.K X.mg X.base CX0 k fI fd ps sp) (hr : Room (k + 1) X.A) (hb : Binds X.K fd ps []) (I : Inv X pins σ H s) (r : Vals vs us) (hz : vs.length ≤ 1000)
  (h : ∀ e,H e = none → sp (.ref e :: vs) (upd H e (XO e C none true)) (fun v H2=>v = .non ∧ Q (.ref e) H2) E0) : wpAny (model X.prog X.w) X.A (call (.ref C) us) (EP X pins σ Q) X.xe s:=by
 have hq:=h (s.heap.objs.size + 1) (I.hok.fresh (Nat.le_succ _))
 have I2:=Inv.xmade (C:=C) (us:=us) I
 have r2 : Vals (V.ref (s.heap.objs.size + 1) :: vs) (Value.ref (s.heap.objs.size + 1) :: us):=.cons rfl r
 have hl : (Value.ref (s.heap.objs.size + 1) :: us ++ []).length = ps.length:=by
  rw [List.append_nil,← r2.length,G.len _ _ _ _ hq]
 refine Jya c I.kIn (by rw [← r.length]; exact Nat.le_trans hz (by decide)) (wpAny_call (codeAny_mono (G.run _ X.stack _ _ ⟨Value.ref (s.heap.objs.size + 1) :: us,[]⟩ (Value.ref (s.heap.objs.size + 1) :: us) _ _ E0 (hr.make C us [])
  (I2.env0.make C us []) (by have:=hb _ (Value.ref (s.heap.objs.size + 1) :: us) I2.kIn hl; rw [List.append_nil] at this; exact this) r2 hq) fun r s' hq'=>?_))
 cases r with
 | error e=>exact False.elim hq'
 | ok fl =>
  cases fl with
  | ret u =>
   obtain ⟨v,H', I3,rv,ev,q3⟩:=I2.after hq'
   subst ev
   exact ⟨rv,⟨V.ref (s.heap.objs.size + 1),H', I3,rfl,q3⟩⟩
  | next=>exact False.elim hq'
  | brk=>exact False.elim hq'
  | cont=>exact False.elim hq'
theorem Jk3 (c : XCls X.K C W fI) (G : FnOk X.prog X.w X.K X.mg X.base CX0 k fI fd ps sp) (hr : Room j X.A) (hk : k + 1 ≤ j) (hb : Binds X.K fd ps []) (hm : X.mg x = some (.ref C)) (ha : PA X (e :: es) t) (hg : Gl X x:=by rfl)
  (hdb : (x == ("__debug__" : Str)) = false:=by decide) (he : starEach (e :: es) X.env = (false,eval e X.env) :: starEach es X.env:=by rfl) (hpl : (backTo pos (starEach es X.env)).any (·.1) = false:=by rfl) :
  PE X (.Call (.Name x p) (e :: es) [] pos) (tExc C sp t):=by
 intro pins s σ H Q I h
 refine wpAny_Call_Name_kw (Jmk I hg hm ?_ hdb)
 refine PySem.W.callWith_K (h₀:=X.base) I.ok.mod.kin c.kp (thn (ha pos pins s σ H _ I h) fun us s1 ⟨vs,H1,I1,r,z,q⟩=>⟨I1.kIn,?_⟩) he hpl
 exact Jxr c G (hr.mono hk) hb I1 r z q
end
section
variable {K : PySem.W.Frag} {C W fI : Addr} {x : Addr}
theorem xkit (c : XCls K C W fI) : PySem.W.KitX K (.ref x) (.ref C) (fun h=>∃ ox od,PySem.W.InstAt h x ox C (some od)) where
 ty:=fun _ _ _ ⟨_,_,I⟩=>I.type
 it:=fun _ _ X _=>by
  obtain ⟨nm,q,N,bs,sn,sub,ab,col,dd,k0,k1,k2,k3,k5,l⟩:=c.obj
  intro A' Q' E' s' k q
  unfold isType loadHead
  exact wpAny_bind (wpAny_loadPart (k _ _ (X _ _ l)) (wpAny_pure q))
 ne:=fun h tp dd its n sl X htp=>by
  obtain ⟨nm,q,N,bs,sn,sub,ab,col,dd,k0,k1,k2,k3,k5,l⟩:=c.obj
  refine Bool.eq_false_iff.mpr fun z=>?_
  have e : C = tp:=Value.ref.inj (beq_iff_eq.mp z)
  subst e
  have z:=congrArg (Option.map (·.cls)) ((X _ _ l).symm.trans htp)
  simp at z
 ca:=fun {prog w A E Q s} X ⟨ox,od,I⟩ kq=>by
  have hf : PySem.W.findObj K C (some od) "__class__" = some (.bind (.builtin "getset_descriptor.__get__") (.builtin "object.__class__")):=PySem.W.findObj_data (by obtain ⟨cd,hc,_⟩:=c.mro; rw [hc]; rfl) c.cl c.cg c.ct
  obtain ⟨hp,g,d,t,os⟩:=s
  have T0:=I.type (M:=model prog w)
  have T1:=PySem.W.looks_findIn (M:=model prog w) X c.ga
  have T2:=PySem.W.looks_findIn (M:=model prog w) X c.gh
  unfold getAttr? getAttrBy? getAttrBy
  refine wpAny_bind (wpAny_mkText (wpAny_bind (wpAny_attempt (wpAny_holding (wpAny_bind (T0.at (wpAny_bind (T1.at ?_))))))))
  show wpAny _ _ (getAttrByItsOwn (.ref x) _ (.ref C) _ _ _) _ _ _
  unfold getAttrByItsOwn
  refine wpAny_bind (show wpAny _ _ (typeLookup (.ref C) "__getattr__") _ _ _ from T2.at ?_)
  show wpAny _ _ ((holding _ (boundAndCalled (.builtin "BaseException.__getattribute__") (.ref x) (.str "__class__" t))).attempt >>= _) _ _ _
  unfold boundAndCalled
  rw [F.excAttr_ValueError.ga.bind]
  refine wpAny_bind (wpAny_attempt (wpAny_holding (wpAny_bind (wpAny_pure (wpAny_call (Ju8 (s:=⟨hp,g,d,t + 1,os⟩) c X I hf ?_ (fun z=>nomatch z)))))))
  show wpAny _ _ (holding [_] (call _ [_,.ref x,.ref C]) >>= ret) _ _ _
  refine wpAny_bind (wpAny_holding (wpAny_call (PySem.W.class_get (s:=⟨hp,g,d,t + 1,os⟩) X I c.mo (wpAny_pure ?_))))
  show wpAny _ _ (handedOut (.ref C)) _ _ _
  rw [PySem.W.handedOut_of rfl]
  exact wpAny_pure (wpAny_pure kq)
end
end L2
namespace L2
open PySem PySem.Spec PyProof.Rows
section
variable {M : Model} {A : Around} {E : Value → Shared → Prop} {s : Shared} {env : Env} {outer : List Env} {base : Heap} {L e T : Addr} {oe oT : Obj} {vs ts : Array Value} {Q : Unit → Shared → Prop}
theorem Jqi {head : Value} {hadNext : Bool} (hfr : A.frames = some (env :: outer)) (hl : s.heap.FunFrames base (env :: outer)) (hf : env.frame = some L) (he : s.heap.get? e = some oe) (hd : oe.data = .fields vs) (hz : 1 < vs.size)
  (hQ : ∀ h' T,(∀ b o,s.heap.get? b = some o → b ∉ frs (env :: outer) → b ≠ e → h'.get? b = some o) → (∀ b o,s.heap.get? b = some o → b ≠ e → ∃ sl,h'.get? b = some { o with slots:=sl }) → s.heap.objs.size ≤ T →
   h'.get? e = some (oe.mapFields (·.setIfInBounds 1 (.ref T))) → (∃ oT ts,h'.get? T = some oT ∧ oT.data = .fields ts ∧ ts[3]? = some (rawInt L)) → Q () { s with heap:=h' }) :
  wpAny M A (do let a ← frameOf env; let pl ← entryPlaceOf L hadNext; let b ← EntryCells.newEntry head a .none (rawInt L) .none pl; setField (.ref e) 1 b) Q E s:=by
 have hen : e ∉ frs (env :: outer):=fun z=>by
  obtain ⟨_,o,ho,nf⟩:=hl.mem z
  rw [he] at ho
  cases ho
  exact nf vs hd
 refine wpAny_bind (wpAny_frameOf_fun hfr hl hf fun h1 sl1=>wpAny_bind (wpAny_entryPlaceOf fun pl hpl=>?_))
 unfold EntryCells.newEntry newFields
 have he1 : h1.get? e = some oe:=(sl1.2.1 e hen).trans he
 have nT : h1.objs.size ≠ e:=Nat.ne_of_gt (Heap.lt_size he1)
 refine wpAny_bind (wpAny_newObj_type (wpAny_setField (Heap.get?_push_of_some _ he1) hd hz (hQ _ h1.objs.size (fun b o hb hn ne=>?_) (fun b o hb ne=>?_) (Nat.le_of_eq sl1.1.symm) (Heap.get?_update_self _ (Heap.get?_push_of_some _ he1) (Obj.isFreed_of_fields (Obj.data_mapFields hd _))) ?_)) (hpl.sizeOk5 _ _ _ _ _))
 ·rw [Heap.get?_update_other _ _ (Ne.symm ne)]
  exact Heap.get?_push_of_some _ ((sl1.2.1 b hn).trans hb)
 ·obtain ⟨sl,q⟩:=sl1.2.2 b o hb
  exact ⟨sl,by rw [Heap.get?_update_other _ _ (Ne.symm ne)]; exact Heap.get?_push_of_some _ q⟩
 ·refine ⟨_,_,(Heap.get?_update_other _ _ (Ne.symm nT)).trans (Heap.get?_push_size h1 rfl),rfl,?_⟩
  first | (simp; done) | (rcases hpl with rfl | ⟨_,_,_,_,_,_,_,rfl⟩ <;> simp)
theorem Jsx (hfr : A.frames = some (env :: outer)) (hl : s.heap.FunFrames base (env :: outer)) (hf : env.frame = some L) (he : s.heap.get? e = some oe) (hd : oe.data = .fields vs) (h1 : vs[1]? = some .none)
  (hQ : ∀ h' T,(∀ b o,s.heap.get? b = some o → b ∉ frs (env :: outer) → b ≠ e → h'.get? b = some o) → (∀ b o,s.heap.get? b = some o → b ≠ e → ∃ sl,h'.get? b = some { o with slots:=sl }) → s.heap.objs.size ≤ T →
   h'.get? e = some (oe.mapFields (·.setIfInBounds 1 (.ref T))) → (∃ oT ts,h'.get? T = some oT ∧ oT.data = .fields ts ∧ ts[3]? = some (rawInt L)) → Q () { s with heap:=h' }) :
  wpAny M A (noteFrame (.ref e) env) Q E s:=by
 unfold noteFrame
 simp only [hf]
 refine wpAny_bind (wpAny_field he hd h1 ?_)
 rw [if_neg (by decide : ¬ (Value.none != Value.none) = true)]
 exact Jqi hfr hl hf he hd (Array.getElem?_eq_some_iff.mp h1).1 hQ
theorem Jum (hfr : A.frames = some (env :: outer)) (hl : s.heap.FunFrames base (env :: outer)) (hf : env.frame = some L) (he : s.heap.get? e = some oe) (hd : oe.data = .fields vs) (h1 : vs[1]? = some (.ref T))
  (hT : s.heap.get? T = some oT) (hdT : oT.data = .fields ts) (h3 : ts[3]? = some .none) (ne : T ≠ e)
  (hQ : ∀ h' T', (∀ b o,s.heap.get? b = some o → b ∉ frs (env :: outer) → b ≠ e → b ≠ T → h'.get? b = some o) → (∀ b o,s.heap.get? b = some o → b ≠ e → b ≠ T → ∃ sl,h'.get? b = some { o with slots:=sl }) → s.heap.objs.size ≤ T' →
   h'.get? e = some (oe.mapFields (·.setIfInBounds 1 (.ref T'))) → (∃ oT ts,h'.get? T' = some oT ∧ oT.data = .fields ts ∧ ts[3]? = some (rawInt L)) → Q () { s with heap:=h' }) :
  wpAny M A (noteFrame (.ref e) env) Q E s:=by
 unfold noteFrame
 simp only [hf]
 refine wpAny_bind (wpAny_field he hd h1 ?_)
 rw [if_pos (by simp : (Value.ref T != Value.none) = true)]
 refine wpAny_bind (wpAny_field hT hdT h3 ?_)
 rw [if_neg (by simp [rawInt] : ¬ (Value.none == rawInt L) = true)]
 have ot : ∀ b,b ≠ T → (s.heap.update T (Obj.mapFields (·.setIfInBounds 3 Value.none))).get? b = s.heap.get? b:=fun b hb=>Heap.get?_update_other _ _ (Ne.symm hb)
 have nr : ∀ b o,s.heap.get? b = some o → (∀ ws,o.data ≠ .fields ws) → b ≠ T:=fun b o hb nf z=>by
  rw [z,hT] at hb
  cases hb
  exact nf ts hdT
 refine wpAny_bind (wpAny_setField hT hdT (Array.getElem?_eq_some_iff.mp h3).1 ?_)
 refine Jqi (s:={ s with heap:=s.heap.update T (Obj.mapFields (·.setIfInBounds 3 Value.none)) }) hfr (hl.of_keeps fun b o hb nf=>⟨o,(ot b (nr b o hb nf)).trans hb,rfl⟩) hf ((ot e (Ne.symm ne)).trans he) hd (Array.getElem?_eq_some_iff.mp h1).1 fun h' T' k1 k2 k3 k4 k5=>?_
 refine hQ h' T' (fun b o hb hn h1 h2=>k1 b o ((ot b h2).trans hb) hn h1) (fun b o hb h1 h2=>k2 b o ((ot b h2).trans hb) h1) ?_ k4 k5
 have z : (s.heap.update T (Obj.mapFields (·.setIfInBounds 3 Value.none))).objs.size = s.heap.objs.size:=Heap.size_after_update ..
 rw [← z]; exact k3
end
def Flt (X : Cx) (pins : List (Addr × Obj)) (H : Hp) (h : Heap) (e : Addr) (fl : Value) : Prop :=
 ∃ oe vs T oT ts,h.get? e = some oe ∧ oe.data = .fields vs ∧ vs[1]? = some (.ref T) ∧ H T = none ∧ h.get? T = some oT ∧ oT.data = .fields ts ∧ ts[3]? = some fl ∧ X.s₀.heap.objs.size ≤ T ∧ ∀ p ∈ X.pn ++ pins,p.1 ≠ T
def Jth (X : Cx) : Prop:=X.stack = X.env :: X.outer ∧ X.env.frame = some X.env.locals
section
variable {X : Cx} {pins : List (Addr × Obj)} {σ : St} {H : Hp} {s : Shared} {e C : Addr} {od : Option Addr} {fr fr' : Bool} {A : Around} {M : Model} {E : Value → Shared → Prop} {Q : Unit → Shared → Prop} {fl : Value} {h' : Heap}
theorem Inv.freeOf (I : Inv X pins σ H s) {b : Addr} {o : Obj} {ts : Array Value} (hb : s.heap.get? b = some o) (hd : o.data = .fields ts) : b ≠ X.env.locals ∧ ∀ x c,X.env.cells.lookup x = some c → c ≠ b:=by
 refine ⟨fun z=>?_,fun x c e z=>?_⟩
 ·obtain ⟨m,⟨o', es,ep,ho', hd', _⟩,_⟩:=I.loc
  rw [z,ho'] at hb; cases hb; rw [hd'] at hd; cases hd
 ·obtain ⟨v,o', ho', hd'⟩:=I.cell x c e
  rw [z,hb] at ho'; cases ho'; rw [hd] at hd'; cases hd'
theorem Inv.fly {ch : List Addr} (I : Inv X pins σ H s) (q : H e = some (XO e C od fr)) (hch : ∀ b ∈ ch,X.s₀.heap.objs.size ≤ b ∧ H b = none ∧ (∃ o ts,s.heap.get? b = some o ∧ o.data = .fields ts) ∧ ∀ p ∈ X.pn ++ pins,p.1 ≠ b)
  (k : ∀ b o,s.heap.get? b = some o → b ∉ frs X.stack → b ≠ e → b ∉ ch → h'.get? b = some o) (ks : ∀ b o,s.heap.get? b = some o → b ≠ e → b ∉ ch → ∃ sl,h'.get? b = some { o with slots:=sl })
  (new : ObjOk X.prog X.w (upd H e (XO e C od fr')) h' e (XO e C od fr')) : Inv X pins σ (upd H e (XO e C od fr')) { s with heap:=h' }:=by
 have ne : ∀ b u,H b = some u → u ≠ XO e C od fr → b ≠ e:=fun b u z d w'=>d (by rw [w', q] at z; exact (Option.some.inj z).symm)
 have nn : ∀ b,H b = none → b ≠ e:=fun b z w'=>by rw [w', q] at z; cases z
 have u : Un (frs X.stack) ch H (upd H e (XO e C od fr')) s.heap h':=by
  refine ⟨fun b o hb n hs hc=>k b o hb hs (nn b n) hc,fun b o hb n _ hc=>ks b o hb (nn b n) hc,fun b o _ n _=>by rw [Ji9 (nn b n)]; exact n,fun b o hb hc=>?_,fun b xs z=>?_,fun b o u z=>?_,fun b ps z=>⟨#[],?_⟩⟩
  ·by_cases w' : b = e
   ·rw [w']; exact new.2.1
   ·obtain ⟨sl,z⟩:=ks b o hb w' hc
    exact ⟨_,z⟩
  ·rw [Ji9 (ne b _ z (fun w'=>by cases w'))]; exact z
  ·rw [Ji9 (ne b _ z (fun w'=>by cases w'))]; exact z
  ·rw [Ji9 (ne b _ z (fun w'=>by cases w')),z]; simp
 refine I.call (g':=s.gens) (d':=s.drawn) (t':=s.toks) (ch:=ch) u (fun b o z=>?_) I.bare fun b hb=>?_
 ·by_cases w' : b = e
  ·subst w'
   rw [Ji3] at z; cases z
   exact new
  ·rw [Ji9 w'] at z
   refine (I.hok b o z).stay (fun c v hc zz=>k c v zz ?_ ?_ ?_) (fun c zz=>by rw [Ji9 (ne c _ zz (fun w'=>by cases w'))]; exact zz) (fun c xs zz=>by rw [Ji9 (ne c _ zz (fun w'=>by cases w'))]; exact zz) fun c xs zz=>by rw [Ji9 (ne c _ zz (fun w'=>by cases w'))]; exact zz
   ·intro hs
    have:=I.stkFree c hs
    rcases hc with rfl | hc
    ·rw [this] at z; cases z
    ·rw [this] at hc; cases hc
   ·rcases hc with rfl | hc
    ·exact w'
    ·exact ne c _ hc (fun w'=>by cases w')
   ·intro hb
    have:=(hch c hb).2.1
    rcases hc with rfl | hc
    ·rw [this] at z; cases z
    ·rw [this] at hc; cases hc
 ·obtain ⟨h1,_,⟨o,ts,ho,hd⟩,h4⟩:=hch b hb
  exact ⟨.inr h1,(I.freeOf ho hd).1,(I.freeOf ho hd).2,h4⟩
theorem Jtw (I : Inv X pins σ H s) (hs : Jth X) (hA : A.frames = some X.stack) (q : H e = some (XO e C od fr)) (hfl : fr = true ∨ Flt X pins H s.heap e .none)
  (h : ∀ s', Inv X pins σ (upd H e (XO e C od false)) s' → Flt X pins (upd H e (XO e C od false)) s'.heap e (rawInt X.env.locals) → Q () s') : wpAny M A (noteFrame (.ref e) X.env) Q E s:=by
 obtain ⟨o,vs,he,hc,hd,hf,⟨t0,h0⟩,y,h1,hy⟩:=Jpl I.hok q
 have hA' : A.frames = some (X.env :: X.outer):=by rw [hA,hs.1]
 have FF : s.heap.FunFrames X.base (X.env :: X.outer):=by rw [← hs.1]; exact I.stack
 have sub : ∀ b,b ∉ frs X.stack → b ∉ frs (X.env :: X.outer):=fun b z w'=>z (by rw [hs.1]; exact w')
 have new : ∀ {h' : Heap} {T : Addr},h'.get? e = some (o.mapFields (·.setIfInBounds 1 (.ref T))) → ObjOk X.prog X.w (upd H e (XO e C od false)) h' e (XO e C od false):=fun {h' T} z=>by
  have hz : 1 < vs.size:=(Array.getElem?_eq_some_iff.mp h1).1
  refine Jx1 z ((Obj.cls_mapFields _ _).trans hc) ?_ (Obj.data_mapFields hf _) ⟨t0,by rw [Array.getElem?_setIfInBounds_ne (by decide)]; exact h0⟩ ⟨.ref T,by simp [hz],fun z=>nomatch z⟩
  obtain ⟨_,_,dt,_⟩:=o
  cases dt <;> first | exact hd | cases hf
 have fin : ∀ {h' : Heap} {T : Addr},Inv X pins σ (upd H e (XO e C od false)) { s with heap:=h' } → s.heap.objs.size ≤ T → h'.get? e = some (o.mapFields (·.setIfInBounds 1 (.ref T))) → (∃ oT ts,h'.get? T = some oT ∧ oT.data = .fields ts ∧ ts[3]? = some (rawInt X.env.locals)) → Q () { s with heap:=h' }:=fun {h' T} J k3 k4 ⟨oT,ts,k5,k6,k7⟩=>by
  have hz : 1 < vs.size:=(Array.getElem?_eq_some_iff.mp h1).1
  refine h _ J ⟨_,_,T,oT,ts,k4,Obj.data_mapFields hf _,by simp [hz],?_,k5,k6,k7,Nat.le_trans I.sz k3,fun p hp z=>?_⟩
  ·rw [Ji9 (fun z=>absurd (Heap.lt_size he) (by rw [← z]; exact Nat.not_lt.mpr k3))]
   exact I.hok.fresh k3
  ·obtain ⟨z1,_⟩:=I.pin p hp
   exact absurd (Heap.lt_size z1) (by rw [z]; exact Nat.not_lt.mpr k3)
 by_cases hfr : y = .none
 ·subst hfr
  refine Jsx hA' FF hs.2 he hf h1 fun h' T k1 k2 k3 k4 k5=>fin (I.fly (ch:=[]) q (fun b z=>absurd z (by simp)) (fun b o hb hn ne _=>k1 b o hb (sub b hn) ne) (fun b o hb ne _=>k2 b o hb ne) (new k4)) k3 k4 k5
 ·rcases hfl with z | ⟨oe,ws,T,oT,ts,z1,z2,z3,z4,z5,z6,z7,z8,z9⟩
  ·exact absurd (hy z) hfr
  ·rw [he] at z1; cases z1
   rw [hf] at z2; cases z2
   have ne : T ≠ e:=fun w'=>by rw [w', q] at z4; cases z4
   refine Jum hA' FF hs.2 he hf z3 z5 z6 z7 ne fun h' T' k1 k2 k3 k4 k5=>fin (I.fly (ch:=[T]) q (fun b hb=>?_) (fun b o hb hn ne hc=>k1 b o hb (sub b hn) ne (by simpa using hc)) (fun b o hb ne hc=>k2 b o hb ne (by simpa using hc)) (new k4)) k3 k4 k5
   obtain rfl : b = T:=by simpa using hb
   exact ⟨z8,z4,⟨oT,ts,z5,z6⟩,z9⟩
theorem Jnr (I : Inv X pins σ H s) (q : H e = some (XO e C od fr)) (hfl : Flt X pins H s.heap e fl) (h : ∀ s', Inv X pins σ H s' → Flt X pins H s'.heap e .none → Q () s') : wpAny M A (setFlight (.ref e) none) Q E s:=by
 obtain ⟨oe,vs,T,oT,ts,z1,z2,z3,z4,z5,z6,z7,z8,z9⟩:=hfl
 have hz : 3 < ts.size:=(Array.getElem?_eq_some_iff.mp z7).1
 have ne : T ≠ e:=fun w'=>by rw [w', q] at z4; cases z4
 have ot : ∀ b,b ≠ T → (s.heap.update T (Obj.mapFields (·.setIfInBounds 3 Value.none))).get? b = s.heap.get? b:=fun b hb=>Heap.get?_update_other _ _ (Ne.symm hb)
 refine wpAny_setFlight_none z1 z2 z3 z5 z6 hz (h _ (I.turned (it:=T) (t':=s.toks) (fun b o hb z=>(ot b hb).trans z) z4 (I.freeOf z5 z6).1 (.inr z8) (I.freeOf z5 z6).2 z9) ?_)
 exact ⟨oe,vs,T,_,_,(ot e (Ne.symm ne)).trans z1,z2,z3,z4,Heap.get?_update_self _ z5 (Obj.isFreed_of_fields (Obj.data_mapFields z6 _)),Obj.data_mapFields z6 _,by simp [hz],z8,z9⟩
end
def CXX (P : Program) (w : World) : CXT:=fun outer H s E ev s'=>∃ e C dx H', ev = .ref e ∧ s'.os = s.os ∧ AllBare s'.gens ∧ Un (frs outer) [] H H' s.heap s'.heap ∧ HOk P w H' s'.heap ∧ H' e = some (XO e C (some dx) false) ∧
 (∃ oe vs T oT ts,s'.heap.get? e = some oe ∧ oe.data = .fields vs ∧ vs[1]? = some (.ref T) ∧ H' T = none ∧ s'.heap.get? T = some oT ∧ oT.data = .fields ts ∧ ts[3]? = some .none ∧ s.heap.objs.size ≤ T) ∧ E (.ref C) (some e) H'
def Joq (X : Cx) (R : St → XK) : Prop:=∀ pins σ H s e C dx fr,Inv X pins σ H s → H e = some (XO e C (some dx) fr) → (fr = true ∨ Flt X pins H s.heap e .none) → R σ (.ref C) (some e) (upd H e (XO e C (some dx) false)) → X.xe (.ref e) s
theorem Jje {P : Program} {w : World} {K : PySem.W.Frag} {mg : Str → Option Value} {base : Heap} {N : List Str} {qual : Str} {scope : Scope} {f : Addr} {cd : Value} {A : Around} {outer : List Env} {s : Shared} {H : Hp} {E : XK} :
  Joq (Jqz (CXX P w) P w K mg base N qual scope f cd A outer s H E) (fun _=>E):=by
 intro pins σ H1 s1 e C dx fr I q hfl hE
 show wpAny _ _ (leaving _ _) _ _ _
 unfold leaving
 refine wpAny_bind (Jtw I ⟨rfl,rfl⟩ I.ok.frames q hfl fun s2 I2 f2=>Jnr I2 Ji3 f2 fun s3 I3 f3=>?_)
 obtain ⟨oe,vs,T,oT,ts,z1,z2,z3,z4,z5,z6,z7,z8,_⟩:=f3
 exact ⟨e,C,dx,_,rfl,I3.os,I3.bare,I3.base,I3.hok,Ji3,⟨oe,vs,T,oT,ts,z1,z2,z3,z4,z5,z6,z7,z8⟩,hE⟩
theorem upd_id {H : Hp} {a : Addr} {o : HO} (h : H a = some o) : upd H a o = H:=by
 funext b
 unfold upd
 split
 ·rename_i z; rw [z,h]
 ·rfl
section
variable {X : Cx} {pins : List (Addr × Obj)} {σ : St} {H : Hp} {s s' : Shared} {R : St → XK} {ev : Value}
theorem Jyb (hw : Joq X R) (I : Inv X pins σ H s) (h : CXX X.prog X.w X.stack H s (R σ) ev s') : X.xe ev s':=by
 obtain ⟨e,C,dx,H', rfl,ho,hg,un,hok,q,⟨oe,vs,T,oT,ts,z1,z2,z3,z4,z5,z6,z7,z8⟩,hR⟩:=h
 have I' : Inv X pins σ H' s':=I.call' (ch:=[]) ho un hok hg fun b z=>absurd z (by simp)
 refine hw pins σ H' s' e C dx false I' q (.inr ⟨oe,vs,T,oT,ts,z1,z2,z3,z4,z5,z6,z7,Nat.le_trans I.sz z8,fun p hp z=>?_⟩) (by rw [upd_id q]; exact hR)
 obtain ⟨y1,_⟩:=I.pin p hp
 exact absurd (Heap.lt_size y1) (by rw [z]; exact Nat.not_lt.mpr z8)
end
theorem FnOk.calm {P : Program} {w : World} {K : PySem.W.Frag} {mg : Str → Option Value} {base : Heap} {k : Nat} {f : Addr} {fd : FuncData} {ps : List Str} {sp : Sp} (G : FnOk P w K mg base (CXX P w) k f fd ps sp) : FnOk P w K mg base CX0 k f fd ps (fun vs H Q _=>sp vs H Q E0) :=
 ⟨fun vs H Q _ h=>G.len vs H Q E0 h,fun A outer s H args us vs Q E hr he hb hv hs=>codeAny_mono (G.run A outer s H args us vs Q E0 hr he hb hv hs) fun r s' hq=>by
  cases r with
  | error e=>obtain ⟨_,_,_,_,_,_,_,_,_,_,_,z⟩:=hq; exact z.elim
  | ok fl=>cases fl <;> exact hq⟩
theorem Fun.okX {P : Program} {w : World} {K : PySem.W.Frag} {mg : Str → Option Value} {base : Heap} {x qual : Str} {st : Stmt} {f : Addr} {fd : FuncData} {N ps : List Str} {k : Nat} {sp : Sp} (F : Fun K x qual st f fd) (S : Jic N ps (Ji6 st)) (len : ∀ vs H Q E,sp vs H Q E → vs.length = ps.length)
  (hbody : ∀ (cdv : Value) (A : Around) (outer : List Env) (s : Shared) (H : Hp) (vs : List V) (Q : VK) (E : XK),Room k (A.deeper (envOfC qual (Ji6 st) s.heap.objs.size f cdv)) → sp vs H Q E →
   ∃ t,PSs (Jqz (CXX P w) P w K mg base N qual (Ji6 st) f cdv A outer s H E) (Jiv st) t ∧ t { nx:=fun _ H'=>Q .non H', rt:=Q } (start N vs) H) : FnOk P w K mg base (CXX P w) (k + 1) f fd ps sp:=by
 obtain ⟨oc,od,kV,doc,pm,an,cdv,ct,osl,rfl,lk,hcd⟩:=F.ex
 exact fn_of lk hcd S len fun A outer s H vs Q E hr hsp=>hbody cdv A outer s H vs Q E hr hsp
def tCallX (sp : Sp) (R : St → XK) (t : TA) : TE:=fun σ H Q=>t σ H fun vs H1=>sp vs H1 Q (R σ)
section
variable {X : Cx} {k j : Nat} {f C : Addr} {fd : FuncData} {ps : List Str} {sp : Sp} {R : St → XK} {x m : Str} {p pos apos : Pos} {e o : Expr} {es : List Expr} {ta : TE} {t : TA}
theorem Jxs {pins : List (Addr × Obj)} {σ : St} {H : Hp} {s : Shared} {Q : VK} {us : List Value} {vs : List V} (G : FnOk X.prog X.w X.K X.mg X.base (CXX X.prog X.w) k f fd ps sp) (hw : Joq X R) (hr : Room k X.A) (hb : Binds X.K fd ps [])
  (I : Inv X pins σ H s) (r : Vals vs us) (h : sp vs H Q (R σ)) : wpAny (model X.prog X.w) X.A (call (.ref f) us) (EP X pins σ Q) X.xe s:=by
 have hl : (us ++ []).length = ps.length:=by rw [List.append_nil,← r.length,G.len _ _ _ _ h]
 have hb':=hb s us I.kIn hl
 rw [List.append_nil] at hb'
 refine wpAny_call (codeAny_mono (G.run X.A X.stack s H ⟨us,[]⟩ us vs Q (R σ) hr I.env0 hb' r h) fun r s' hq=>?_)
 cases r with
 | error e=>exact Jyb hw I hq
 | ok fl =>
  cases fl with
  | ret u=>exact I.after hq
  | next=>exact False.elim hq
  | brk=>exact False.elim hq
  | cont=>exact False.elim hq
theorem Jkk {st : Stmt} (F : FT X.K X.mg x st ps f fd) (G : FnOk X.prog X.w X.K X.mg X.base (CXX X.prog X.w) k f fd ps sp) (hw : Joq X R) (hr : Room j X.A) (hk : k ≤ j) (ha : PA X (e :: es) t) (hg : Gl X x:=by rfl)
  (hdb : (x == ("__debug__" : Str)) = false:=by decide) (he : starEach (e :: es) X.env = (false,eval e X.env) :: starEach es X.env:=by rfl) (hpl : (backTo pos (starEach es X.env)).any (·.1) = false:=by rfl) :
  PE X (.Call (.Name x p) (e :: es) [] pos) (tCallX sp R t):=by
 intro pins s σ H Q I h
 refine wpAny_Call_Name_kw (Jmk I hg F.mgx ?_ hdb)
 refine PySem.W.callWith_K (h₀:=X.base) I.ok.mod.kin F.fn.kp (thn (ha pos pins s σ H _ I h) fun us s1 ⟨vs,H1,I1,r,q⟩=>⟨I1.kIn,?_⟩) he hpl
 exact Jxs G hw (hr.mono hk) F.bd I1 r q
end
end L2
namespace L2
open PySem PySem.Spec PyProof.Rows
def Jw9 (K : PySem.W.Frag) (R : St → XK) (te : TE) : TS:=fun _ σ H=>te σ H fun v H1=>∃ e C W fI dx,v = .ref e ∧ H1 e = some (XO e C (some dx) true) ∧ XCls K C W fI ∧ R σ (.ref C) (some e) (upd H1 e (XO e C (some dx) false))
section
variable {X : Cx} {R : St → XK} {x : Expr} {pos : Pos} {te : TE}
theorem Jjc (hw : Joq X R) (hc : X.calm = true) (hx : PE X x te) : PS X (.Raise (some x) none pos) (Jw9 X.K R te):=by
 intro pins s σ H D I h
 rw [arm_exec_Raise]
 refine wpAny_bind (wpAny_standAt ?_)
 show wpAny _ _ (raiseStmt X.env (some (do let v ← eval x X.env; standAt pos; pure v)) none) _ _ _
 unfold raiseStmt
 refine wpAny_bind (wpAny_bind (thn (hx pins s σ H _ I h) fun u s1 ⟨y,H1,I1,ry,e,C,W,fI,dx,ey,q,c,k⟩=>wpAny_bind (wpAny_standAt (wpAny_pure ?_))))
 subst ey
 obtain rfl : u = Value.ref e:=ry
 obtain ⟨o,vs,he,hcl,hd,hf,h0,y,h1,hy⟩:=Jpl I1.hok q
 have hy':=hy rfl
 subst hy'
 have fin : X.xe (.ref e) s1:=hw pins σ H1 s1 e C dx true I1 q (.inl rfl) k
 have hh : X.A.handled = none:=I.ok.hd hc
 obtain ⟨nm,qn,N,bs,sn,sub,ab,col,dd,k0,k1,k2,k3,k5,l⟩:=c.obj
 have kC:=I1.kIn _ _ l
 have hcB : (Value.ref C :: .ref W :: VEm).contains (.type "BaseException") = true:=by simp
 obtain ⟨oc,odi,oda,osl⟩:=o
 dsimp only at hcl hd hf
 subst hcl hd hf
 obtain ⟨hp,g,d,tk,os⟩:=s1
 repeat (first | with_reducible refine wpAny_loadPart_at he ?_ | with_reducible refine wpAny_loadPart_at kC ?_ | (with_reducible refine wpAny_isSubtype_exc kC ?_; rw [hcB]) | with_reducible refine wpAny_field he rfl h1 ?_ | wp_step)
 exact wpAny_raiseNew_none hh fin
end
structure ECls (K : PySem.W.Frag) (C : Addr) : Prop where
 obj : ∃ (dd : Option Addr) (cd : ClassData) (sl : Array (Option Value)),K.lookup C = some ⟨.type "type",dd,.cls cd,sl⟩
 mb : PySem.W.mroIn K C (.type "BaseException") = some true
theorem XCls.e {K : PySem.W.Frag} {C W fI : Addr} (c : XCls K C W fI) : ECls K C:=by
 obtain ⟨nm,qn,N,bs,sn,sub,ab,col,dd,k0,k1,k2,k3,k5,l⟩:=c.obj
 exact ⟨⟨_,_,_,l⟩,c.mb⟩
section
variable {prog : Program} {w : World} {A : Around} {E : Value → Shared → Prop} {s : Shared} {K : PySem.W.Frag} {e C C0 : Addr} {oe : Obj} {b : Bool}
theorem Jsv {Q : Bool → Shared → Prop} (X : K.In s.heap) (c0 : ECls K C0) (he : s.heap.get? e = some oe) (hc : oe.cls = .ref C) (hm : PySem.W.mroIn K C (.ref C0) = some b) (q : Q b s) : wpAny (model prog w) A (excMatches (.ref e) (.ref C0)) Q E s:=by
 obtain ⟨dd,cd,sl,l⟩:=c0.obj
 have k0:=X _ _ l
 have f0:=tc_notTuple
 have m1:=PySem.W.looks_mroIn (M:=model prog w) X c0.mb
 have m2:=PySem.W.looks_mroIn (M:=model prog w) X hm
 obtain ⟨oc,odi,oda,osl⟩:=oe
 dsimp only at hc
 subst hc
 obtain ⟨hp,g,d,tk,os⟩:=s
 unfold excMatches
 repeat (first | with_reducible refine wpAny_loadPart_at he ?_ | with_reducible refine wpAny_loadPart_at k0 ?_ | with_reducible refine m1.at ?_ | with_reducible refine m2.at ?_ | wp_step)
 cases b <;> (repeat wp_step) <;> exact q
end
def Cx.caught (X : Cx) (e : Addr) : Cx:={ X with A:=X.A.mark (some (.ref e)),calm:=false,xe:=fun _ _=>False }
def Cx.tried (X : Cx) (pins : List (Addr × Obj)) (R : St → XK) : Cx :=
 { X with pn:=X.pn ++ pins,xe:=fun ev s'=>∃ σ H e C dx fr,ev = .ref e ∧ Inv X pins σ H s' ∧ H e = some (XO e C (some dx) fr) ∧ (fr = true ∨ Flt X pins H s'.heap e .none) ∧ R σ (.ref C) (some e) (upd H e (XO e C (some dx) false)) }
section
variable {X : Cx} {pins pins' : List (Addr × Obj)} {σ : St} {H : Hp} {s : Shared} {R : St → XK} {e : Addr}
theorem Inv.caught (I : Inv X pins σ H s) (e : Addr) : Inv (X.caught e) pins σ H s :=
 ⟨⟨I.ok.mod,I.ok.kind,I.ok.glob,I.ok.blt,I.ok.above,I.ok.inj,I.ok.has,I.ok.cab,(fun z=>nomatch z),I.ok.frames,I.ok.stk,I.ok.exf,I.ok.bs,I.ok.bsz,I.ok.noex,I.ok.exfs,I.ok.funs,I.ok.frf⟩,I.os,I.bare,I.base,I.loc,I.cell,I.free,I.freeC,I.pin,I.hok,I.len⟩
theorem Inv.uncaught (ok : X.Ok) (I : Inv (X.caught e) pins σ H s) : Inv X pins σ H s:=⟨ok,I.os,I.bare,I.base,I.loc,I.cell,I.free,I.freeC,I.pin,I.hok,I.len⟩
theorem Inv.tried (I : Inv X pins σ H s) (R : St → XK) : Inv (X.tried pins R) [] σ H s :=
 ⟨⟨I.ok.mod,I.ok.kind,I.ok.glob,I.ok.blt,I.ok.above,I.ok.inj,I.ok.has,I.ok.cab,I.ok.hd,I.ok.frames,I.ok.stk,I.ok.exf,I.ok.bs,I.ok.bsz,I.ok.noex,I.ok.exfs,I.ok.funs,I.ok.frf⟩,I.os,I.bare,I.base,I.loc,I.cell,I.free,I.freeC,(fun p hp=>I.pin p (by rw [List.append_nil] at hp; exact hp)),I.hok,I.len⟩
theorem Inv.untried (I : Inv (X.tried pins R) pins' σ H s) : Inv X pins σ H s :=
 ⟨⟨I.ok.mod,I.ok.kind,I.ok.glob,I.ok.blt,I.ok.above,I.ok.inj,I.ok.has,I.ok.cab,I.ok.hd,I.ok.frames,I.ok.stk,I.ok.exf,I.ok.bs,I.ok.bsz,I.ok.noex,I.ok.exfs,I.ok.funs,I.ok.frf⟩,I.os,I.bare,I.base,I.loc,I.cell,I.free,I.freeC,(fun p hp=>I.pin p (List.mem_append_left _ hp)),I.hok,I.len⟩
theorem xw_try : Joq (X.tried pins R) R:=fun pins' σ H s e C dx fr I q hfl hR=>⟨σ,H,e,C,dx,fr,rfl,I.untried,q,hfl.imp id fun ⟨oe,vs,T,oT,ts,z1,z2,z3,z4,z5,z6,z7,z8,z9⟩=>⟨oe,vs,T,oT,ts,z1,z2,z3,z4,z5,z6,z7,z8,fun p hp=>z9 p (List.mem_append_left _ hp)⟩,hR⟩
theorem SP.map {X Y : Cx} {pl pm : List (Addr × Obj)} {D : Ends} {f : Flow} {s' : Shared} (hI : ∀ σ H,Inv X pl σ H s' → Inv Y pm σ H s') (h : SP X pl D f s') : SP Y pm D f s':=by
 cases f with
 | next=>obtain ⟨σ', H', I,q⟩:=h; exact ⟨σ', H', hI _ _ I,q⟩
 | brk=>obtain ⟨σ', H', I,q⟩:=h; exact ⟨σ', H', hI _ _ I,q⟩
 | cont=>obtain ⟨σ', H', I,q⟩:=h; exact ⟨σ', H', hI _ _ I,q⟩
 | ret u=>obtain ⟨v,σ', H', I,r,q⟩:=h; exact ⟨v,σ', H', hI _ _ I,r,q⟩
theorem Jv7 {M : Model} {A : Around} {E : Value → Shared → Prop} {i : Nat} {n : Str} {pos : Pos} {Q : Unit → Shared → Prop} (I : Inv X pins σ H s) (hN : X.N.Nodup) (hi : X.N[i]? = some n) (hk : X.env.scope.names.lookup n = some .local)
  (h : ∀ s', Inv X pins (σ.set i none) H s' → Q () s') : wpAny M A (do bindName X.env n .none; unbindBehindTheSuite X.env n pos) Q E s:=by
 obtain ⟨m,hn,hl⟩:=id I.loc
 have hcls : (X.env.scope.kind == .class || (X.env.scope.kind == .module && X.env.locals != X.env.globals)) = false:=by rw [I.ok.kind]; rfl
 have cne:=I.cne
 refine wpAny_nameGoes_keeps hk hn hcls fun h' v hn' sb=>h _ ?_
 obtain ⟨oL,_,_,hoL,_⟩:=id hn
 have lo : ∀ b o,X.s₀.heap.get? b = some o → b ≠ X.env.locals:=fun b o z=>Nat.ne_of_lt (Nat.lt_of_lt_of_le (Heap.lt_size z) I.ok.above)
 refine ⟨I.ok,I.os,I.bare,⟨fun b o z n hb hx=>(sb.2 b (lo b o z)).trans (I.base.keep b o z n hb hx),fun b o z n hb hx=>?_,I.base.free,fun b o z hx=>?_,I.base.tups,I.base.frzs,I.base.tbls⟩,⟨_,hn', fun j y v' e1 e2 e3=>?_⟩,fun y c z=>?_,I.free,I.freeC,fun p hp=>?_,fun b ob z=>?_,by simpa using I.len⟩
 ·obtain ⟨sl,z1⟩:=I.base.slot b o z n hb hx
  exact ⟨sl,(sb.2 b (lo b o z)).trans z1⟩
 ·obtain ⟨o', z1⟩:=I.base.there b o z hx
  exact ⟨o', (sb.2 b (lo b o z)).trans z1⟩
 ·have hj : j ≠ i:=fun z=>by
   subst z
   have : j < σ.length:=by rw [I.len]; exact (List.getElem?_eq_some_iff.mp hi).1
   rw [List.getElem?_set_self this] at e2
   cases e2
  rw [List.getElem?_set_ne (Ne.symm hj)] at e2
  obtain ⟨u', r', q⟩:=hl j y v' e1 e2 e3
  refine ⟨u', r', ?_⟩
  rcases q with ⟨k,z⟩ | ⟨k,c,z,zz⟩
  ·refine .inl ⟨k,?_⟩
   have : y ≠ n:=fun z=>hj (Jp6 hN e1 (z ▸ hi))
   show (if y = n then v else m y) = some u'
   rw [if_neg this]; exact z
  ·exact .inr ⟨k,c,z,zz.sameBut sb (cne y c z)⟩
 ·obtain ⟨w', zz⟩:=I.cell y c z
  exact ⟨w', zz.sameBut sb (cne y c z)⟩
 ·obtain ⟨z,n,ne,nf,d⟩:=I.pin p hp
  exact ⟨(sb.2 p.1 ne).trans z,n,ne,nf,d⟩
 ·refine (I.hok b ob z).stay (fun c w' hc q=>(sb.2 c ?_).trans q) (fun _ q=>q) (fun _ _ q=>q) fun _ _ q=>q
  rintro rfl
  rcases hc with rfl | hc
  ·rw [I.free] at z; cases z
  ·rw [I.free] at hc; cases hc
end
abbrev TH:=Ends → St → Value → Option Addr → Hp → Prop
def PH (X : Cx) (hs : List ExceptHandler) (th : TH) : Prop :=
 ∀ (pins : List (Addr × Obj)) (s : Shared) (σ : St) (H : Hp) (D : Ends) (e C dx : Addr),Inv X pins σ H s → H e = some (XO e C (some dx) false) → Flt X pins H s.heap e .none → th D σ (.ref C) (some e) H →
  wpAny (model X.prog X.w) X.A (handleBy (.ref e) X.env hs) (SP X pins D) X.xe s
def hNil : TH:=fun _ _ _ _ _=>False
theorem ph_nil {X : Cx} : PH X [] hNil:=fun _ _ _ _ _ _ _ _ _ _ _ h=>h.elim
def Ends.less (D : Ends) (i : Nat) : Ends:=⟨fun σ H=>D.nx (σ.set i none) H,D.rt,fun σ H=>D.bk (σ.set i none) H,fun σ H=>D.ct (σ.set i none) H⟩
def hAs (K : PySem.W.Frag) (C0 : Addr) (i : Nat) (ts : Addr → TS) (th : TH) : TH:=fun D σ c eo H=>∃ e C b,c = .ref C ∧ eo = some e ∧ PySem.W.mroIn K C (.ref C0) = some b ∧ if b = true then ts e (D.less i) (σ.set i (some (.ref e))) H else th D σ c eo H
section
variable {X : Cx} {x n : Str} {np pos : Pos} {C0 : Addr} {i : Nat} {b₀ : Stmt} {suite : List Stmt} {rest : List ExceptHandler} {ts : Addr → TS} {th : TH}
theorem ph_as (c0 : ECls X.K C0) (hm : X.mg x = some (.ref C0)) (hN : X.N.Nodup) (hi : X.N[i]? = some n) (hl : X.env.scope.names.lookup n = some .local) (hsu : ∀ e,PSs (X.caught e) (b₀ :: suite) (ts e)) (hr : PH X rest th) (hg : Gl X x:=by rfl)
  (hdb : (x == ("__debug__" : Str)) = false:=by decide) : PH X (.ExceptHandler (some (.Name x np)) (some n) (b₀ :: suite) pos :: rest) (hAs X.K C0 i ts th):=by
 rintro pins s σ H D e C dx I q hfl ⟨e', C', b,hC,he,hmr,h⟩
 cases hC
 cases he
 obtain ⟨o,vs,go,gc,_⟩:=Jpl I.hok q
 refine wpAny_handleBy_cons (codeAny_handlers_test (Jmk (X:=X.caught e) (I.caught e) hg hm (Jsv I.kIn c0 go gc hmr ?_) hdb)) (fun z=>by cases z)
 cases b with
 | false=>exact hr pins s σ H D e C dx I q hfl h
 | true =>
  refine codeAny_handlers_suite_as (Jnr I q hfl fun s1 I1 f1=>Jmi (v:=.ref e) I1 hN hi (.inl hl) rfl (fun s2 I2=>?_) (.inr hl))
  refine wpAny_mono (hsu e pins s2 _ H (D.less i) (I2.caught e) h) (fun f s3 hf=>?_) fun _ _ z=>False.elim z
  have go : ∀ {f : Flow} {σ' : St} {H' : Hp},Inv (X.caught e) pins σ' H' s3 → (∀ s', Inv X pins (σ'.set i none) H' s' → SP X pins D f s') → wpAny (model X.prog X.w) X.A (do bindName X.env n .none; unbindBehindTheSuite X.env n pos) (fun _ s'=>SP X pins D f s') X.xe s3 :=
   fun {f σ' H'} I3 k=>Jv7 (Inv.uncaught I.ok I3) hN hi hl k
  cases f with
  | next=>obtain ⟨σ', H', I3,k⟩:=hf; exact go I3 fun s' I'=>⟨_,H', I', k⟩
  | brk=>obtain ⟨σ', H', I3,k⟩:=hf; exact go I3 fun s' I'=>⟨_,H', I', k⟩
  | cont=>obtain ⟨σ', H', I3,k⟩:=hf; exact go I3 fun s' I'=>⟨_,H', I', k⟩
  | ret u=>obtain ⟨v,σ', H', I3,r,k⟩:=hf; exact go I3 fun s' I'=>⟨v,_,H', I', r,k⟩
end
def tTry (tb : List (Addr × Obj) → (St → XK) → TS) (th : TH) : TS:=fun D σ H=>∀ pins,tb pins (fun σ' c e H'=>th D σ' c e H') D σ H
theorem ps_try {X : Cx} {body : List Stmt} {h₀ : ExceptHandler} {hs : List ExceptHandler} {pos : Pos} {tb : List (Addr × Obj) → (St → XK) → TS} {th : TH} (hst : Jth X) (hb : ∀ pins R,Joq (X.tried pins R) R → PSs (X.tried pins R) body (tb pins R)) (hh : PH X (h₀ :: hs) th) :
  PS X (.Try body (h₀ :: hs) [] [] pos) (tTry tb th):=by
 intro pins s σ H D I h
 refine wpAny_Try_except (wpAny_mono (hb pins (fun σ' c e H'=>th D σ' c e H') xw_try [] s σ H D (I.tried _) (h pins)) (fun f s1 hf=>?_) fun ev s1 hx=>?_)
 ·have hf' : SP X pins D f s1:=hf.map fun _ _ J=>J.untried
  cases f with
  | next=>exact wpAny_execs_nil hf'
  | brk=>exact hf'
  | cont=>exact hf'
  | ret u=>exact hf'
 ·obtain ⟨σ', H', e,C,dx,fr,rfl,I', q,hfl,hR⟩:=hx
  exact Jtw I' hst I'.ok.frames q hfl fun s2 I2 f2=>Jnr I2 Ji3 f2 fun s3 I3 f3=>hh pins s3 σ' _ D e C dx I3 Ji3 f3 hR
end L2
namespace L2
open PySem PySem.Spec PyProof.Rows
structure FM (K : PySem.W.Frag) (x qual : Str) (st : Stmt) (ps : List Str) (f : Addr) (fd : FuncData) : Prop where
 fn : Fun K x qual st f fd
 bd : Binds K fd ps []
structure YCls (K : PySem.W.Frag) (C : Addr) : Prop where
 ya : PySem.W.findIn K (.ref C) "__class__" = some (some (.builtin "object.__class__"))
 yb : PySem.W.specialIn K (.builtin "object.__class__") "__get__" = some (some (.builtin "getset_descriptor.__get__"))
 yc : PySem.W.takesIn K (.builtin "object.__class__") = some true
 yd : PySem.W.mroIn K C (.type "object") = some true
theorem YCls.ty {K : PySem.W.Frag} {C a dx : Addr} {H : Hp} {fs : List (Str × V)} (y : YCls K C) (c : Cls K C) (e : H a = some (.ins C dx fs)) : Jnm K H (.ref a) (.ref C):=.ins e c y.ya y.yb y.yc y.yd
def Jl3 (K : PySem.W.Frag) (f : Str) : Sp:=fun vs H Q _=>∃ e C W fI y,vs = [.ref e,y] ∧ H e = some (XO e C none true) ∧ XCls K C W fI ∧ NoAttr K C f ∧ ∀ dx,H dx = none → dx ≠ e → Q .non (upd (upd H dx (XD dx [(f,y)])) e (XO e C (some dx) true))
theorem Juh {K : PySem.W.Frag} {C W fI : Addr} {f : Str} {y : V} {H : Hp} {Q : VK} (c : XCls K C W fI) (n : NoAttr K C f) (k : ∀ e dx,H e = none → H dx = none → dx ≠ e → Q (.ref e) (upd (upd H dx (XD dx [(f,y)])) e (XO e C (some dx) true))) :
  [y].length ≤ 1000 ∧ ∀ e,H e = none → Jl3 K f (.ref e :: [y]) (upd H e (XO e C none true)) (fun v H2=>v = .non ∧ Q (.ref e) H2) E0:=by
 refine ⟨by simp,fun e he=>⟨e,C,W,fI,y,rfl,Ji3,c,n,fun dx h1 h2=>⟨rfl,?_⟩⟩⟩
 have z:=k e dx he (by rw [Ji9 h2] at h1; exact h1) h2
 have e2 : upd (upd (upd H e (XO e C none true)) dx (XD dx [(f,y)])) e (XO e C (some dx) true) = upd (upd H dx (XD dx [(f,y)])) e (XO e C (some dx) true):=by
  funext b
  unfold upd
  split
  ·rfl
  ·split <;> rfl
 rw [e2]
 exact z
end L2
namespace L2
open PySem PySem.Spec PyProof.Rows
section
variable {X : Cx} {pins : List (Addr × Obj)} {σ : St} {H : Hp} {s : Shared}
theorem Inv.turnTup {ch : List Addr} {T : Addr} {xs : List V} {h' : Heap} {t' : Nat} (I : Inv X pins σ H s) (hch : ∀ b ∈ ch,Jnl X pins H b) (k : ∀ b o,b ∉ ch → s.heap.get? b = some o → h'.get? b = some o) (hT : s.heap.objs.size ≤ T)
  (new : ObjOk X.prog X.w (upd H T (.tup xs)) h' T (.tup xs)) : Inv X pins σ (upd H T (.tup xs)) { s with heap:=h', toks:=t' }:=by
 have hn : H T = none:=I.hok.fresh hT
 have nb : ∀ b o,s.heap.get? b = some o → b ≠ T:=fun b o z w'=>absurd (Heap.lt_size z) (by rw [w']; exact Nat.not_lt.mpr hT)
 have nt : ∀ b u,H b = some u → b ≠ T:=fun b u z=>Ji8 z hn
 have nc : ∀ b u,H b = some u → b ∉ ch:=fun b u z w'=>by rw [(hch b w').1] at z; cases z
 have u : Un (frs X.stack) ch H (upd H T (.tup xs)) s.heap h':=by
  refine ⟨fun b o hb n hs hc=>k b o hc hb,fun b o hb n _ hc=>⟨o.slots,k b o hc hb⟩,fun b o hb n _=>by rw [Ji9 (nb b o hb)]; exact n,fun b o hb hc=>⟨o,k b o hc hb⟩,fun b ys z=>by rw [Ji9 (nt b _ z)]; exact z,fun b o v z=>by rw [Ji9 (nt b _ z)]; exact z,fun b ps z=>⟨#[],by rw [Ji9 (nt b _ z),z]; simp⟩⟩
 refine I.call (g':=s.gens) (d':=s.drawn) (ch:=ch) u (fun b o z=>?_) I.bare fun b hb=>?_
 ·by_cases w' : b = T
  ·subst w'
   rw [Ji3] at z; cases z
   exact new
  ·rw [Ji9 w'] at z
   refine (I.hok b o z).stay (fun c v hc zz=>k c v ?_ zz) (fun c zz=>by rw [Ji9 (nt c _ zz)]; exact zz) (fun c ys zz=>by rw [Ji9 (nt c _ zz)]; exact zz) fun c ys zz=>by rw [Ji9 (nt c _ zz)]; exact zz
   rcases hc with rfl | hc
   ·exact nc c o z
   ·exact nc c _ hc
 ·obtain ⟨_,h1,_,h3,h4,h5⟩:=hch b hb
  exact ⟨h3,h1,h4,h5⟩
theorem Inv.turnMany {ch : List Addr} {h' : Heap} {t' : Nat} (I : Inv X pins σ H s) (hch : ∀ b ∈ ch,Jnl X pins H b) (k : ∀ b o,b ∉ ch → s.heap.get? b = some o → h'.get? b = some o) : Inv X pins σ H { s with heap:=h', toks:=t' }:=by
 have nc : ∀ b u,H b = some u → b ∉ ch:=fun b u z w'=>by rw [(hch b w').1] at z; cases z
 have u : Un (frs X.stack) ch H H s.heap h' :=
  ⟨fun b o hb n hs hc=>k b o hc hb,fun b o hb n _ hc=>⟨o.slots,k b o hc hb⟩,fun b o hb n _=>n,fun b o hb hc=>⟨o,k b o hc hb⟩,fun b ys z=>z,fun b o v z=>z,fun b ps z=>⟨#[],by rw [z]; simp⟩⟩
 refine I.call (g':=s.gens) (d':=s.drawn) (ch:=ch) u (fun b o z=>(I.hok b o z).stay (fun c v hc zz=>k c v ?_ zz) (fun _ zz=>zz) (fun _ _ zz=>zz) fun _ _ zz=>zz) I.bare fun b hb=>?_
 ·rcases hc with rfl | hc
  ·exact nc c o z
  ·exact nc c _ hc
 ·obtain ⟨_,h1,_,h3,h4,h5⟩:=hch b hb
  exact ⟨h3,h1,h4,h5⟩
end
theorem Jvd : bootBuiltins "zip" = some (.type "zip"):=by decide +kernel
end L2
namespace L2
open PySem PySem.Spec PyProof.Rows
section
variable {X : Cx} {pins : List (Addr × Obj)} {σ : St} {H : Hp} {s : Shared}
inductive TyX (K : PySem.W.Frag) (H : Hp) : V → Value → Prop where
 | of {x : V} {t : Value} : Jnm K H x t → TyX K H x t
 | exc {e C W fI dx : Addr} {fs : List (Str × V)} {fr : Bool} : H e = some (XO e C (some dx) fr) → H dx = some (XD dx fs) → XCls K C W fI → TyX K H (.ref e) (.ref C)
theorem TyX.kit {x : V} {u t : Value} (I : Inv X pins σ H s) (rx : RelV x u) (ty : TyX X.K H x t) : u ≠ .builtin "__main__.__loader__#opaque" ∧ ∃ Hh,PySem.W.KitX X.K u t Hh ∧ Hh s.heap:=by
 cases ty with
 | exc q qd c =>
  obtain rfl : u = Value.ref _:=rx
  obtain ⟨ox,oD,mA,J,_,_⟩:=Ju9 I.hok q qd
  exact ⟨(fun z=>nomatch z),_,xkit c,ox,oD,J⟩
 | of ty =>
  cases ty with
  | non=>cases (show u = Value.none from rx); exact ⟨(fun z=>nomatch z),_,PySem.W.kitx_none,trivial⟩
  | bl y=>cases (show u = Value.bool y from rx); exact ⟨(fun z=>nomatch z),_,PySem.W.kitx_bool,trivial⟩
  | int i=>obtain ⟨t,q⟩:=(show ∃ t,u = Value.int i t from rx); cases q; exact ⟨(fun z=>nomatch z),_,PySem.W.kitx_int,trivial⟩
  | str y=>obtain ⟨t,q⟩:=(show ∃ t,u = Value.str y t from rx); cases q; exact ⟨(fun z=>nomatch z),_,PySem.W.kitx_str,trivial⟩
  | flt y=>obtain ⟨t,q⟩:=(show ∃ t,u = Value.float y t from rx); cases q; exact ⟨(fun z=>nomatch z),_,PySem.W.kitx_float,trivial⟩
  | @lst a xs ea =>
   cases (show u = Value.ref a from rx)
   obtain ⟨_,_,n,_,h1⟩:=(show ObjOk X.prog X.w H s.heap a (.lst xs) from I.hok a _ ea)
   exact ⟨(fun z=>nomatch z),_,PySem.W.kitx_list,_,h1,rfl⟩
  | @frz a ob xs ea =>
   cases (show u = Value.ref a from rx)
   obtain ⟨_,_,_,n,_,h1⟩:=(show ObjOk X.prog X.w H s.heap a (.frz ob (.lst xs)) from I.hok a _ ea)
   exact ⟨(fun z=>nomatch z),_,PySem.W.kitx_list,_,h1,rfl⟩
  | @tup a xs ea =>
   cases (show u = Value.ref a from rx)
   obtain ⟨_,_,_,o,h1,h2,_⟩:=(show ObjOk X.prog X.w H s.heap a (.tup xs) from I.hok a _ ea)
   exact ⟨(fun z=>nomatch z),_,PySem.W.kitx_tuple,o,h1,h2⟩
  | @dK a kvs ea =>
   cases (show u = Value.ref a from rx)
   obtain ⟨_,_,vs,_,o,es,ep,h1,h2,_⟩:=(show ObjOk X.prog X.w H s.heap a (.dK kvs) from I.hok a _ ea)
   exact ⟨(fun z=>nomatch z),_,PySem.W.kitx_dict,o,h1,h2.1⟩
  | @dT a kvs ea =>
   cases (show u = Value.ref a from rx)
   obtain ⟨_,_,xs,_,o,es,ep,h1,h2,_⟩:=(show ObjOk X.prog X.w H s.heap a (.dT kvs) from I.hok a _ ea)
   exact ⟨(fun z=>nomatch z),_,PySem.W.kitx_dict,o,h1,h2.1⟩
  | @ins a C dx fs ea cl ha hn htk hm =>
   cases (show u = Value.ref a from rx)
   obtain ⟨mA,O,_⟩:=Joj I.hok ea
   obtain ⟨od,J,_⟩:=O.look
   exact ⟨(fun z=>nomatch z),_,PySem.W.kitx_own (cl.get _) cl.hd ha hn htk hm,J⟩
def rIsA (K : PySem.W.Frag) : List V → Hp → VK → Prop:=fun xs H Q=>∃ x c u t b,xs = [x,c] ∧ clsV c = some u ∧ TyX K H x t ∧ PySem.W.kitOne K t u = some b ∧ Q (.bl b) H
theorem Jjj : Jkd X (.builtin "isinstance") (rIsA X.K):=by
 rintro pins s σ H vs us Q I r ⟨x,c,u,t,b,rfl,hc,ty,ek,k⟩
 obtain ⟨v,w', rfl,r1,r2⟩:=Jsk r
 have e2 : w' = u:=by
  cases c with
  | ty n=>cases hc; cases r2; rfl
  | ref a=>cases hc; cases r2; rfl
  | _=>cases hc
 subst e2
 obtain ⟨hx,Hh,Z,p⟩:=ty.kit I r1
 exact PySem.W.kia_one Z I.kIn p ek hx fun tk=>⟨.bl b,H,I.tok _,rfl,k⟩
theorem Jro : ∀ {cs : List V} {us ws : List Value},cs.mapM clsV = some us → Vals cs ws → ws = us
 | [],us,_,e,.nil=>by cases e; rfl
 | c :: cs,us,_,e,.cons r t=>by
  rw [List.mapM_cons] at e
  simp only [Option.bind_eq_bind,Option.bind_eq_some_iff,Option.pure_def,Option.some.injEq] at e
  obtain ⟨u,hu,us', hus,rfl⟩:=e
  rw [Jro hus t]
  cases c with
  | ty n=>cases hu; cases r; rfl
  | ref a=>cases hu; cases r; rfl
  | _=>cases hu
def rIsT (K : PySem.W.Frag) : List V → Hp → VK → Prop:=fun xs H Q=>∃ x p cs us t b,xs = [x,.ref p] ∧ H p = some (.tup cs) ∧ cs.mapM clsV = some us ∧ TyX K H x t ∧ PySem.W.kitAny K t us = some b ∧ Q (.bl b) H
theorem Jn8 : Jkd X (.builtin "isinstance") (rIsT X.K):=by
 rintro pins s σ H vs us Q I r ⟨x,p,cs,us', t,b,rfl,hp,hc,ty,ek,k⟩
 obtain ⟨v,w', rfl,r1,r2⟩:=Jsk r
 obtain rfl : w' = Value.ref p:=r2
 obtain ⟨hx,Hh,Z,q⟩:=ty.kit I r1
 obtain ⟨_,its,rv,o,h1,h2,n,h3⟩:=(show ObjOk X.prog X.w H s.heap p (.tup cs) from I.hok p _ hp)
 have e:=Jro hc rv
 subst e
 obtain ⟨oc,odi,oda,osl⟩:=o
 dsimp only at h2 h3
 subst h2 h3
 exact PySem.W.kia_tup Z I.kIn q h1 ek hx fun tk=>⟨.bl b,H,I.tok _,rfl,k⟩
def iSeq (K : PySem.W.Frag) (tl : TE) : TI:=fun σ H R=>tl σ H fun x H1=>∃ a,x = .ref a ∧ (((∃ xs,SqL K H1 a xs) ∧ R (Itl K a) H1) ∨ ((∃ xs,SqT K H1 a xs) ∧ R (Itt K a) H1))
theorem pi_seq {tg l : Expr} {tl : TE} (hl : PE X l tl) : PI X tg l (iSeq X.K tl):=by
 intro pins s σ H R I h
 refine thn (hl pins s σ H _ I h) fun v s1 ⟨x,H1,I1,r1,a,e,q1⟩=>?_
 subst e
 cases r1
 have fin : ∀ {J : It} {tn : Nat → Heap → Prop} {o : Obj},Jpm X.prog X.w X.K tg J [s1.heap.objs.size] s1.heap.objs.size tn → tn 0 (s1.heap.push o) → R J H1 → PIE X pins σ tg R (.ref s1.heap.objs.size) { s1 with heap:=s1.heap.push o }:=fun {J tn o} T st q=>by
  refine ⟨s1.heap.objs.size,[s1.heap.objs.size],tn,J,H1,rfl,I1.kept (t':=s1.toks) fun b o e=>Heap.get?_push_of_some _ e,T,st,fun b hb=>?_,q⟩
  have e : b = s1.heap.objs.size:=by simpa using hb
  subst e
  exact I1.fpOk (Nat.le_refl _) (I1.hok.fresh (Nat.le_refl _))
 rcases q1 with ⟨⟨xs,hq⟩,q⟩ | ⟨⟨xs,hq⟩,q⟩
 ·obtain ⟨its,rv,p,hz⟩:=I1.list hq
  exact wpAny_pyIter_list p.isList (fin (Jqo a _) ⟨_,Heap.get?_push_size _ rfl,rfl,rfl⟩ q)
 ·obtain ⟨its,rv,p,hz⟩:=I1.tuple hq
  exact wpAny_pyIter_tuple (show s1.heap.IsTuple a its.toArray from p) (fin (Jpj a _) ⟨_,Heap.get?_push_size _ rfl,rfl,rfl⟩ q)
def SameOr (x y : V) (b : Bool) : Prop:=(∃ a,x = .ref a ∧ y = .ref a ∧ b = true) ∨ (Jkj x = true ∧ Jkj y = true ∧ eqV x y = b)
theorem Jvl {x : V} (h : Jkj x = true) : eqV x x = true:=by
 cases x <;> first | rfl | (simp [eqV]; done) | cases h
theorem SameOr.self {x : V} (h : Jkj x = true ∨ ∃ a,x = .ref a) : SameOr x x true:=by
 rcases h with h | ⟨a,rfl⟩
 ·exact .inr ⟨h,h,Jvl h⟩
 ·exact .inl ⟨a,rfl,rfl,rfl⟩
theorem SameOr.at {A : Around} {x y : V} {b : Bool} {u v : Value} (h : SameOr x y b) (rx : RelV x u) (ry : RelV y v) : SeqAt.EqAt A s u v b:=by
 rcases h with ⟨a,rfl,rfl,rfl⟩ | ⟨f1,f2,rfl⟩
 ·cases rx; cases ry; exact SeqAt.EqAt.same _
 ·exact Jvj rx ry f1 f2
def rEqL (K : PySem.W.Frag) : R2:=fun x y H Q=>∃ (p q : Addr) (xs ys : List V) (bs : List Bool),x = .ref p ∧ y = .ref q ∧ SqL K H p xs ∧ SqL K H q ys ∧ xs.length = ys.length ∧ bs.length = xs.length ∧
 (∀ (i : Nat) x y b,xs[i]? = some x → ys[i]? = some y → bs[i]? = some b → SameOr x y b) ∧ Q (.bl (bs.all id)) H
theorem op_eqL (hu : X.A.units + 64 < cLine) : OpR X (compareOp .Eq) (rEqL X.K):=by
 rintro pins s σ H x y v u Q I rx ry ⟨p,q,xs,ys,bs,rfl,rfl,h1,h2,l1,l2,hs,k⟩
 obtain rfl : v = Value.ref p:=rx
 obtain rfl : u = Value.ref q:=ry
 obtain ⟨its,r1,p1,_⟩:=I.list h1
 obtain ⟨jts,r2,p2,_⟩:=I.list h2
 have e1:=r1.length
 have e2:=r2.length
 refine SeqAt.eq_listAt (e:=fun j=>bs.getD j false) p1.isList p2.isList (by simp only [List.size_toArray]; omega) (by omega) (fun j j1 j2=>?_) ⟨.bl _,H,I,rfl,?_⟩
 ·simp only [List.size_toArray] at j1 j2
  have a1 : xs[j]? = some xs[j]:=List.getElem?_eq_getElem (by omega)
  have a2 : ys[j]? = some ys[j]:=List.getElem?_eq_getElem (by omega)
  have a3 : bs[j]? = some bs[j]:=List.getElem?_eq_getElem (by omega)
  obtain ⟨u,hu1,ru⟩:=r1.get a1
  obtain ⟨w', hw1,rw'⟩:=r2.get a2
  have b1 : its.toArray[j] = u:=by simpa [List.getElem?_eq_getElem j1] using hu1
  have b2 : jts.toArray[j] = w':=by simpa [List.getElem?_eq_getElem j2] using hw1
  have b3 : bs.getD j false = bs[j]:=by simp [List.getD,a3]
  rw [b1,b2,b3]
  exact (hs j _ _ _ a1 a2 a3).at ru rw'
 ·have e : ((List.range its.toArray.size).all fun j=>bs.getD j false) = bs.all id:=by
   simp only [List.size_toArray]
   rw [show its.length = bs.length by omega,Bool.eq_iff_iff,List.all_eq_true,List.all_eq_true]
   constructor
   ·intro h b hb
    obtain ⟨j,hj,rfl⟩:=List.getElem_of_mem hb
    have:=h j (List.mem_range.mpr hj)
    simpa [List.getD,List.getElem?_eq_getElem hj] using this
   ·intro h j hj
    have hj':=List.mem_range.mp hj
    have:=h bs[j] (List.getElem_mem hj')
    simpa [List.getD,List.getElem?_eq_getElem hj'] using this
  rw [e]
  exact k
end
def tMethD (P : Program) (w : World) (K : PySem.W.Frag) (mg : Str → Option Value) (base : Heap) (j : Nat) (m : Str) (ta : TE) (t : TA) : TE:=fun σ H Q=>ta σ H fun x H1=>∃ a C dx fs f fd ps sp k,x = .ref a ∧ H1 a = some (.ins C dx fs) ∧ fs.lookup m = none ∧ Cls K C ∧ Jon K C m f ∧ FnOk P w K mg base CX0 k f fd ps sp ∧ k ≤ j ∧ Binds K fd ps [] ∧
 t σ H1 fun vs H2=>sp (x :: vs) H2 Q E0
section
variable {X : Cx} {j : Nat} {m : Str} {apos pos : Pos} {e o : Expr} {es : List Expr} {ta : TE} {t : TA} {R : St → XK}
theorem Jur {pl : Sem Bool} (he : PE X o ta) (hr : Room j X.A)
  (ht : eval (.Call (.Attribute o m apos) [] [] pos) X.env = (do
   let ov ← eval o X.env
   standAt apos.atName
   let (f,first) ← holding [ov] (getMethod ov m pl)
   callWith pos f first (backTo pos (starEach [] X.env)) (backToKw pos (keywordEach [] X.env))):=by rfl) :
  PE X (.Call (.Attribute o m apos) [] [] pos) (tMethD X.prog X.w X.K X.mg X.base j m ta Jpi):=by
 intro pins s σ H Q I h
 refine PySem.W.methodCall_KW (pl:=pl) (thn (he pins s σ H _ I h) fun u s1 ⟨x,H1,I1,rx,a,C,dx,fs,f,fd,ps,sp,k,ex,ea,l,c,hm,G,hk,hb,q⟩=>?_) ht
 subst ex
 obtain rfl : u = Value.ref a:=rx
 refine Jsq I1 ea c hm l ?_
 exact PySem.W.callWith_K0 (first:=[.ref a]) I1.kIn hm.kp (Jw7 (us:=[.ref a]) (vs:=[.ref a]) (dvs:=[]) (ds:=[]) G (hr.mono hk) hb .nil Jnd I1 (.cons rfl .nil) q)
end
end L2
namespace L2
open PySem PySem.Spec PyProof.Rows
theorem Jiu {n : Nat} (h : n ≤ 2000) : n < sizeLine:=Nat.lt_of_le_of_lt h (by decide)
theorem Jla (n : Nat) (h : n ≤ 2000) : n ≤ sizeLine:=Nat.le_of_lt (Jiu h)
def tpB (t : Value) : Bool:=[Value.type "bool",.type "str",.type "NoneType",.type "list",.type "tuple",.type "dict"].contains t
def Tm (K : PySem.W.Frag) (H : Hp) (x : V) : Prop:=(∃ i : Int,x = .int i) ∨ ∃ t,TyX K H x t ∧ tpB t = true
def Jil : V → Int → Int → Bool
 | .int i,lo,hi=>decide (lo ≤ i) && decide (i ≤ hi)
 | _,_,_=>false
theorem tp_int {K : PySem.W.Frag} {t : Value} (h : tpB t = true) : PySem.W.kitOne K t (.type "int") = some (t == .type "bool") ∧ PySem.W.kitOne K t (.type "bool") = some (t == .type "bool"):=by
 unfold tpB at h
 simp only [List.contains_cons,List.contains_nil,Bool.or_false,Bool.or_eq_true,beq_iff_eq] at h
 rcases h with rfl | rfl | rfl | rfl | rfl | rfl <;> exact ⟨rfl,rfl⟩
theorem Jxh {K : PySem.W.Frag} {H : Hp} {x : V} {t : Value} (ty : TyX K H x t) (h : tpB t = true) : ∀ lo hi,Jil x lo hi = false:=by
 intro lo hi
 cases ty with
 | exc=>rfl
 | of ty =>
  cases ty <;> first | rfl | (exfalso; revert h; decide)
def Jy6 (K : PySem.W.Frag) : Sp:=fun vs H Q _=>∃ (x : V) (lo hi : Int),vs = [x,.int lo,.int hi] ∧ Tm K H x ∧ Q (.bl (Jil x lo hi)) H
theorem TyX.same {K : PySem.W.Frag} {H H' : Hp} {x : V} {t : Value} (s : ∀ b o,x = .ref b → H b = some o → H' b = some o) (sx : ∀ b fs,H b = some (XD b fs) → H' b = some (XD b fs)) (ty : TyX K H x t) : TyX K H' x t:=by
 cases ty with
 | exc q qd c=>exact .exc (s _ _ rfl q) (sx _ _ qd) c
 | of ty =>
  refine .of ?_
  cases ty with
  | non=>exact .non
  | bl b=>exact .bl b
  | int i=>exact .int i
  | str z=>exact .str z
  | flt z=>exact .flt z
  | lst e=>exact .lst (s _ _ rfl e)
  | frz e=>exact .frz (s _ _ rfl e)
  | tup e=>exact .tup (s _ _ rfl e)
  | dK e=>exact .dK (s _ _ rfl e)
  | dT e=>exact .dT (s _ _ rfl e)
  | ins e a b c d f=>exact .ins (s _ _ rfl e) a b c d f
theorem Tm.same {K : PySem.W.Frag} {H H' : Hp} {x : V} (s : Same H H') (h : Tm K H x) : Tm K H' x:=by
 rcases h with h | ⟨t,ty,e⟩
 ·exact .inl h
 ·exact .inr ⟨t,ty.same (fun b o _ q=>s b o q) (fun b fs q=>s b _ q),e⟩
theorem Jx9 {K : PySem.W.Frag} {q : Addr} {xs : List V} {g : TG} {tb : TS} {D : Ends} {σ : St} {H : Hp} (Pv : Nat → St → Hp → Prop) (h0 : Pv 0 σ H) (hl : (∀ i σ H,i ≤ xs.length → Pv i σ H → SqL K H q xs) ∨ (∀ i σ H,i ≤ xs.length → Pv i σ H → SqT K H q xs))
  (hs : ∀ i x σ H,xs[i]? = some x → Pv i σ H → g x σ H fun σ2 H2=>tb { D with nx:=Pv (i + 1),ct:=Pv (i + 1),bk:=D.nx } σ2 H2) (hd : ∀ σ H,Pv xs.length σ H → D.nx σ H) :
  ((∃ xs,SqL K H q xs) ∧ ∃ W : Nat → Nat → St → Hp → Prop,(∃ m,W 0 m σ H) ∧ ∀ i m σ H,W i m σ H →
   ((Itl K q).stop i H ∧ D.nx σ H) ∨ ((Itl K q).go i H ∧ ∃ N : St → Hp → Prop,(∀ σ' H', N σ' H' → ∃ m', m' < m ∧ W (i + 1) m' σ' H') ∧ ∀ x H', (Itl K q).yld i H x H' → g x σ H' fun σ2 H2=>tb { D with nx:=N,ct:=N,bk:=D.nx } σ2 H2)) ∨
  ((∃ xs,SqT K H q xs) ∧ ∃ W : Nat → Nat → St → Hp → Prop,(∃ m,W 0 m σ H) ∧ ∀ i m σ H,W i m σ H →
   ((Itt K q).stop i H ∧ D.nx σ H) ∨ ((Itt K q).go i H ∧ ∃ N : St → Hp → Prop,(∀ σ' H', N σ' H' → ∃ m', m' < m ∧ W (i + 1) m' σ' H') ∧ ∀ x H', (Itt K q).yld i H x H' → g x σ H' fun σ2 H2=>tb { D with nx:=N,ct:=N,bk:=D.nx } σ2 H2)):=by
 rcases hl with hl | hl
 ·exact .inl ⟨⟨xs,hl 0 σ H (Nat.zero_le _) h0⟩,Jlw Pv h0 hl hs hd⟩
 ·exact .inr ⟨⟨xs,hl 0 σ H (Nat.zero_le _) h0⟩,Jxa Pv h0 hl hs hd⟩
theorem Jjp {K : PySem.W.Frag} {R : L2.St → XK} {C W fI : Addr} {f : Str} {i : Nat} {y : V} {σ : L2.St} {H : Hp} {D : Ends} (c : XCls K C W fI) (n : NoAttr K C f) (hi : σ[i]? = some (some y))
  (k : ∀ e dx,H e = none → H dx = none → dx ≠ e → R σ (.ref C) (some e) (upd (upd (upd H dx (XD dx [(f,y)])) e (XO e C (some dx) true)) e (XO e C (some dx) false))) : Jw9 K R (tExc C (Jl3 K f) (Jj0 (Jq4 i) Jpi)) D σ H:=by
 refine ⟨y,hi,?_⟩
 exact Juh (Q:=fun v H1=>∃ e C W fI dx,v = .ref e ∧ H1 e = some (XO e C (some dx) true) ∧ XCls K C W fI ∧ R σ (.ref C) (some e) (upd H1 e (XO e C (some dx) false))) c n fun e dx h1 h2 h3=>⟨e,C,W,fI,dx,rfl,Ji3,c,k e dx h1 h2 h3⟩
theorem iteD {c A B : Prop} [Decidable c] (hc : c) (h : A) : if decide c = true then A else B:=by
 rw [decide_eq_true hc]
 exact Jjr h
theorem iteN {c A B : Prop} [Decidable c] (hc : ¬ c) (h : B) : if decide c = true then A else B:=by
 rw [decide_eq_false hc]
 exact Jj3 h
def Jix : Expr → Bool
 | .Starred _ _=>true
 | _=>false
theorem Jv2 (e : Expr) (es : List Expr) (env : Env) (h : Jix e = false) : starEach (e :: es) env = (false,eval e env) :: starEach es env:=by
 cases e <;> first | rfl | cases h
theorem Jkb {X : Cx} {e : Expr} {es : List Expr} {te : TE} {t : TA} (ha : PE X e te) (hr : PA X es t) (hs : Jix e = false:=by rfl) : PA X (e :: es) (Jj0 te t):=Ji1 ha hr (Jv2 e es X.env hs)
theorem pa4 {X : Cx} {e0 : Expr} {t0 : TE} {e1 : Expr} {t1 : TE} {e2 : Expr} {t2 : TE} {e3 : Expr} {t3 : TE} (h0 : PE X e0 t0) (h1 : PE X e1 t1) (h2 : PE X e2 t2) (h3 : PE X e3 t3) (s0 : Jix e0 = false:=by rfl) (s1 : Jix e1 = false:=by rfl) (s2 : Jix e2 = false:=by rfl) (s3 : Jix e3 = false:=by rfl) : PA X [e0,e1,e2,e3] (Jj0 t0 (Jj0 t1 (Jj0 t2 (Jj0 t3 (Jpi))))):=Jkb h0 (Jkb h1 (Jkb h2 (Jkb h3 (Ji2) s3) s2) s1) s0
theorem pa6 {X : Cx} {e0 : Expr} {t0 : TE} {e1 : Expr} {t1 : TE} {e2 : Expr} {t2 : TE} {e3 : Expr} {t3 : TE} {e4 : Expr} {t4 : TE} {e5 : Expr} {t5 : TE} (h0 : PE X e0 t0) (h1 : PE X e1 t1) (h2 : PE X e2 t2) (h3 : PE X e3 t3) (h4 : PE X e4 t4) (h5 : PE X e5 t5) (s0 : Jix e0 = false:=by rfl) (s1 : Jix e1 = false:=by rfl) (s2 : Jix e2 = false:=by rfl) (s3 : Jix e3 = false:=by rfl) (s4 : Jix e4 = false:=by rfl) (s5 : Jix e5 = false:=by rfl) : PA X [e0,e1,e2,e3,e4,e5] (Jj0 t0 (Jj0 t1 (Jj0 t2 (Jj0 t3 (Jj0 t4 (Jj0 t5 (Jpi))))))):=Jkb h0 (Jkb h1 (Jkb h2 (Jkb h3 (Jkb h4 (Jkb h5 (Ji2) s5) s4) s3) s2) s1) s0
theorem pa8 {X : Cx} {e0 : Expr} {t0 : TE} {e1 : Expr} {t1 : TE} {e2 : Expr} {t2 : TE} {e3 : Expr} {t3 : TE} {e4 : Expr} {t4 : TE} {e5 : Expr} {t5 : TE} {e6 : Expr} {t6 : TE} {e7 : Expr} {t7 : TE} (h0 : PE X e0 t0) (h1 : PE X e1 t1) (h2 : PE X e2 t2) (h3 : PE X e3 t3) (h4 : PE X e4 t4) (h5 : PE X e5 t5) (h6 : PE X e6 t6) (h7 : PE X e7 t7) (s0 : Jix e0 = false:=by rfl) (s1 : Jix e1 = false:=by rfl) (s2 : Jix e2 = false:=by rfl) (s3 : Jix e3 = false:=by rfl) (s4 : Jix e4 = false:=by rfl) (s5 : Jix e5 = false:=by rfl) (s6 : Jix e6 = false:=by rfl) (s7 : Jix e7 = false:=by rfl) : PA X [e0,e1,e2,e3,e4,e5,e6,e7] (Jj0 t0 (Jj0 t1 (Jj0 t2 (Jj0 t3 (Jj0 t4 (Jj0 t5 (Jj0 t6 (Jj0 t7 (Jpi))))))))):=Jkb h0 (Jkb h1 (Jkb h2 (Jkb h3 (Jkb h4 (Jkb h5 (Jkb h6 (Jkb h7 (Ji2) s7) s6) s5) s4) s3) s2) s1) s0
theorem pa10 {X : Cx} {e0 : Expr} {t0 : TE} {e1 : Expr} {t1 : TE} {e2 : Expr} {t2 : TE} {e3 : Expr} {t3 : TE} {e4 : Expr} {t4 : TE} {e5 : Expr} {t5 : TE} {e6 : Expr} {t6 : TE} {e7 : Expr} {t7 : TE} {e8 : Expr} {t8 : TE} {e9 : Expr} {t9 : TE} (h0 : PE X e0 t0) (h1 : PE X e1 t1) (h2 : PE X e2 t2) (h3 : PE X e3 t3) (h4 : PE X e4 t4) (h5 : PE X e5 t5) (h6 : PE X e6 t6) (h7 : PE X e7 t7) (h8 : PE X e8 t8) (h9 : PE X e9 t9) (s0 : Jix e0 = false:=by rfl) (s1 : Jix e1 = false:=by rfl) (s2 : Jix e2 = false:=by rfl) (s3 : Jix e3 = false:=by rfl) (s4 : Jix e4 = false:=by rfl) (s5 : Jix e5 = false:=by rfl) (s6 : Jix e6 = false:=by rfl) (s7 : Jix e7 = false:=by rfl) (s8 : Jix e8 = false:=by rfl) (s9 : Jix e9 = false:=by rfl) : PA X [e0,e1,e2,e3,e4,e5,e6,e7,e8,e9] (Jj0 t0 (Jj0 t1 (Jj0 t2 (Jj0 t3 (Jj0 t4 (Jj0 t5 (Jj0 t6 (Jj0 t7 (Jj0 t8 (Jj0 t9 (Jpi))))))))))):=Jkb h0 (Jkb h1 (Jkb h2 (Jkb h3 (Jkb h4 (Jkb h5 (Jkb h6 (Jkb h7 (Jkb h8 (Jkb h9 (Ji2) s9) s8) s7) s6) s5) s4) s3) s2) s1) s0
end L2
namespace L2
open PySem PySem.Spec PyProof.Rows PySem.W
section
variable {X : Cx}
theorem Jna {K : PySem.W.Frag} (h : X.K = K) : IxR X (rIxT K):=by subst h; exact Jj5
theorem Jqa {K : PySem.W.Frag} (h : X.K = K) : Jkd X (.builtin "isinstance") (rIsA K):=by subst h; exact Jjj
end
end L2
namespace L2
open PySem PySem.Spec PyProof.Rows PySem.W
section
variable {prog : Program} {w : World} {A : Around} {E : Value → Shared → Prop} {s : Shared}
end
section
variable {X : Cx} {pos : Pos}
def rEqT (K : PySem.W.Frag) : R2:=fun x y H Q=>∃ (p q : Addr) (xs ys : List V) (bs : List Bool),x = .ref p ∧ y = .ref q ∧ SqT K H p xs ∧ SqT K H q ys ∧ xs.length = ys.length ∧ bs.length = xs.length ∧
 (∀ (i : Nat) x y b,xs[i]? = some x → ys[i]? = some y → bs[i]? = some b → SameOr x y b) ∧ Q (.bl (bs.all id)) H
theorem op_eqT (hu : X.A.units + 64 < cLine) : OpR X (compareOp .Eq) (rEqT X.K):=by
 rintro pins s σ H x y v u Q I rx ry ⟨p,q,xs,ys,bs,rfl,rfl,h1,h2,l1,l2,hs,k⟩
 obtain rfl : v = Value.ref p:=rx
 obtain rfl : u = Value.ref q:=ry
 obtain ⟨its,r1,p1,_⟩:=I.tuple h1
 obtain ⟨jts,r2,p2,_⟩:=I.tuple h2
 have e1:=r1.length
 have e2:=r2.length
 refine SeqAt.eq_tupleAt (e:=fun j=>bs.getD j false) p1 p2 (by omega) (fun j j1 j2=>?_) ⟨.bl _,H,I,rfl,?_⟩
 ·simp only [List.size_toArray] at j1 j2
  have a1 : xs[j]? = some xs[j]:=List.getElem?_eq_getElem (by omega)
  have a2 : ys[j]? = some ys[j]:=List.getElem?_eq_getElem (by omega)
  have a3 : bs[j]? = some bs[j]:=List.getElem?_eq_getElem (by omega)
  obtain ⟨u,hu1,ru⟩:=r1.get a1
  obtain ⟨w', hw1,rw'⟩:=r2.get a2
  have b1 : its.toArray[j] = u:=by simpa [List.getElem?_eq_getElem j1] using hu1
  have b2 : jts.toArray[j] = w':=by simpa [List.getElem?_eq_getElem j2] using hw1
  have b3 : bs.getD j false = bs[j]:=by simp [List.getD,a3]
  rw [b1,b2,b3]
  exact (hs j _ _ _ a1 a2 a3).at ru rw'
 ·have e : ((List.range its.toArray.size).all fun j=>bs.getD j false) = bs.all id:=by
   simp only [List.size_toArray]
   rw [show its.length = bs.length by omega,Bool.eq_iff_iff,List.all_eq_true,List.all_eq_true]
   constructor
   ·intro h b hb
    obtain ⟨j,hj,rfl⟩:=List.getElem_of_mem hb
    have:=h j (List.mem_range.mpr hj)
    simpa [List.getD,List.getElem?_eq_getElem hj] using this
   ·intro h j hj
    have hj':=List.mem_range.mp hj
    have:=h bs[j] (List.getElem_mem hj')
    simpa [List.getD,List.getElem?_eq_getElem hj'] using this
  have e3 : ((List.range (min its.toArray.size jts.toArray.size)).all (fun j=>bs.getD j false) && its.toArray.size == jts.toArray.size) = bs.all id:=by
   rw [show min its.toArray.size jts.toArray.size = its.toArray.size by simp only [List.size_toArray]; omega,e,show (its.toArray.size == jts.toArray.size) = true by simp only [List.size_toArray,beq_iff_eq]; omega,Bool.and_true]
  rw [e3]
  exact k
end
end L2
namespace L2
open PySem PySem.Spec PyProof.Rows PySem.W
structure FnOkC (P : Program) (w : World) (K : PySem.W.Frag) (mg : Str → Option Value) (base : Heap) (k : Nat) (f : Addr) (fd : FuncData) (ps : List Str) (sp : Sp) : Prop where
 len : ∀ vs H Q E,sp vs H Q E → vs.length = ps.length
 run : ∀ (e : Addr) (A : Around) (outer : List Env) (s : Shared) (H : Hp) (args : Args) (us : List Value) (vs : List V) (Q : VK) (E : XK),Room k A → Env0 P w K mg base A outer s H → BindsTo s fd args (ps.zip us) → Vals vs us → sp vs H Q E →
  codeAny (model P w) (A.mark (some (.ref e))) (.call (.ref f) args) (CR CX0 outer P w H s Q E) s
section
variable {P : Program} {w : World} {K : PySem.W.Frag} {mg : Str → Option Value} {base : Heap}
end
section
variable {X : Cx} {x : Str} {st : Stmt} {ps : List Str} {f : Addr} {fd : FuncData} {sp : Sp} {k j : Nat} {p pos : Pos} {e : Expr} {es : List Expr} {t : TA} {er : Addr}
end
end L2
namespace L2
open PySem PySem.Spec PyProof.Rows PySem.W
def stU (acc : List Str) (z : Str) : List Str:=if acc.contains z = true then acc else acc ++ [z]
def uq (zs : List Str) : List Str:=zs.foldl stU []
def inU (zs : List Str) : Key → Bool
 | .inl _=>false
 | .inr z=>(uq zs).contains z
theorem Ju5 (zs : List Str) (z : Str) : uq (zs ++ [z]) = stU (uq zs) z:=by unfold uq; rw [List.foldl_append]; rfl
theorem uq_len (zs : List Str) : (uq zs).length ≤ zs.length:=by
 have h : ∀ (l acc : List Str),(l.foldl stU acc).length ≤ acc.length + l.length:=by
  intro l
  induction l with
  | nil=>intro acc; simp
  | cons z r ih =>
   intro acc
   rw [List.foldl_cons]
   have h1:=ih (stU acc z)
   have h2 : (stU acc z).length ≤ acc.length + 1:=by unfold stU; split <;> simp
   rw [List.length_cons]
   omega
 simpa [uq] using h zs []
theorem Jsj {zs : List Str} (h : zs.Nodup) : uq zs = zs:=by
 have g : ∀ (l acc : List Str),(acc ++ l).Nodup → l.foldl stU acc = acc ++ l:=by
  intro l
  induction l with
  | nil=>intro acc _; simp
  | cons z r ih =>
   intro acc hn
   rw [List.foldl_cons]
   have hz : acc.contains z = false:=by
    cases e : acc.contains z with
    | false=>rfl
    | true =>
     have hm : z ∈ acc:=List.contains_iff_mem.mp e
     exact absurd rfl ((List.nodup_append.mp hn).2.2 z hm z List.mem_cons_self)
   have e : stU acc z = acc ++ [z]:=by unfold stU; rw [hz]; rfl
   rw [e,ih (acc ++ [z]) (by simpa using hn)]
   simp
 simpa [uq] using g zs [] (by simpa using h)
theorem Jvn (zs : List Str) (z : Str) (k : Key) : inU (zs ++ [z]) k = (inU zs k || decide (k = .inr z)):=by
 cases k with
 | inl i=>simp [inU]
 | inr y =>
  show (uq (zs ++ [z])).contains y = ((uq zs).contains y || decide ((.inr y : Key) = .inr z))
  have e : decide ((.inr y : Key) = .inr z) = decide (y = z):=by
   by_cases h : y = z
   ·subst h; simp
   ·rw [decide_eq_false h,decide_eq_false (fun q=>h (Sum.inr.inj q))]
  rw [Ju5,e]
  unfold stU
  split
  ·rename_i hc
   by_cases h : y = z
   ·subst h; rw [hc]; simp
   ·simp [h]
  ·rw [Bool.eq_iff_iff]
   simp [List.contains_iff_mem]
theorem Jy8 (zs : List Str) (z : Str) : (uq (zs ++ [z])).length = if inU zs (.inr z) = true then (uq zs).length else (uq zs).length + 1:=by
 rw [Ju5]
 show (stU (uq zs) z).length = if (uq zs).contains z = true then _ else _
 unfold stU
 split <;> simp
section
variable {prog : Program} {w : World} {A : Around} {R : Result → Shared → Prop} {I : Addr} {fp wr : List Addr} {n : Nat} {P : Nat → Value → Prop} {St : Nat → Heap → Prop}
theorem Jni {h h' : Heap} {a : Addr} {S T : Key → Bool} {m m' : Nat} (hS : h.SetOf (Jj4 prog w) a S m) (k : ∀ o,h.get? a = some o → h'.get? a = some o) (e : ∀ x,S x = T x) (en : m = m') : h'.SetOf (Jj4 prog w) a T m':=by
 obtain rfl : S = T:=funext e
 subst en
 obtain ⟨o,es,ep,t,ho,rest⟩:=hS
 exact ⟨o,es,ep,t,k o ho,rest⟩
theorem Jtd (W : Walks prog w A.in1 I fp wr n P St) (S : Addr) (hSf : S ∉ fp) (zs : List Str) (hn : zs.length = n) (hP : ∀ i v,P i v → ∃ z t,zs[i]? = some z ∧ v = .str z t) (hb : n + 1 < scanBound) :
  ∀ (k i : Nat) (s : Shared),n - i = k → i ≤ n → St i s.heap → s.heap.SetOf (Jj4 prog w) S (inU (zs.take i)) (uq (zs.take i)).length →
   (∀ h' tk,(∀ b o,b ≠ S → b ∉ wr → s.heap.get? b = some o → h'.get? b = some o) → h'.SetOf (Jj4 prog w) S (inU zs) (uq zs).length → R (.ok (.ret .none)) { s with heap:=h', toks:=tk }) →
   codeAny (model prog w) A (.builtin "set.update.loop" ⟨[.ref S,.ref I],[]⟩) R s:=by
 have hSw : S ∉ wr:=fun h=>hSf (W.sub _ h)
 intro k
 induction k with
 | zero =>
  intro i s hk hi hst hS hR
  obtain rfl : i = n:=by omega
  refine codeAny_builtin PyProof.Rows.F.entry_set_update_loop ?_
  rw [Around.under_plainId PyProof.Rows.F.plain_set_update_loop _]
  refine wpAny_bind (W.done s _ _ hst fun h' tk km=>?_)
  refine wpAny_pure (hR h' tk (fun b o _ nb e=>km b o nb e) (Jni hS (fun o e=>km S o hSw e) (fun x=>?_) ?_))
  ·rw [List.take_of_length_le (by omega)]
  ·rw [List.take_of_length_le (by omega)]
 | succ k ih =>
  intro i s hk hi hst hS hR
  have hlt : i < n:=by omega
  refine codeAny_builtin PyProof.Rows.F.entry_set_update_loop ?_
  rw [Around.under_plainId PyProof.Rows.F.plain_set_update_loop _]
  refine wpAny_bind (W.item i s _ _ hlt hst fun v h1 tk hv hst1 km=>?_)
  obtain ⟨z,t,hz,rfl⟩:=hP i v hv
  have et : zs.take (i + 1) = zs.take i ++ [z]:=by rw [List.take_add_one,hz]; rfl
  have hS1 : h1.SetOf (Jj4 prog w) S (inU (zs.take i)) (uq (zs.take i)).length:=Jni hS (fun o e=>km S o hSw e) (fun _=>rfl) rfl
  have room : (uq (zs.take i)).length + 1 < scanBound:=by
   have h1:=uq_len (zs.take i)
   rw [List.length_take] at h1
   omega
  refine wpAny_bind (wpAny_holding ?_)
  unfold setAdd
  refine wpAny_holding (wpAny_bind ((Jj4 prog w).pyHash (k:=.inr z) (Jlz _ _ _ _) ?_))
  refine wpAny_setAddHashed_of (knd:=Jj4 prog w) (k:=.inr z) (Jlz _ _ _ _) rfl hS1 room fun h2 sb hS2=>?_
  refine wpAny_pure ⟨plainId_quiet PyProof.Rows.F.plain_set_update_loop _,ih (i + 1) _ (by omega) hlt (W.frame _ _ _ hst1 fun b hbf o e=>?_) (Jni hS2 (fun o e=>e) (fun x=>?_) ?_) fun h3 tk3 k3 hS3=>?_⟩
  ·show h2.get? b = some o
   rw [sb.2 b (fun q=>hSf (by rw [← q]; exact hbf))]
   exact e
  ·rw [et,Jvn]
  ·rw [et,Jy8]
  ·exact hR h3 tk3 (fun b o nS nw e=>k3 b o nS nw (by show h2.get? b = some o; rw [sb.2 b nS]; exact km b o nw e)) hS3
end
section
variable {prog : Program} {w : World} {A : Around} {E : Value → Shared → Prop} {s : Shared}
set_option maxRecDepth 100000 in
set_option maxHeartbeats 3200000 in
theorem Juw {l : Addr} {items : Array Value} {zs : List Str} {Q : Value → Shared → Prop} (hh : A.handled = none) (hl : s.heap.IsList l items) (hz : zs.length = items.size) (hi : ∀ (i : Nat) (v : Value),items[i]? = some v → ∃ z t,zs[i]? = some z ∧ v = .str z t) (hb : items.size + 1 < scanBound)
  (h : ∀ (h' : Heap) (tk : Nat),h'.SetOf (Jj4 prog w) s.heap.objs.size (inU zs) (uq zs).length → (∀ b o,s.heap.get? b = some o → h'.get? b = some o) → Q (.ref s.heap.objs.size) { s with heap:=h', toks:=tk }) : wpAny (model prog w) A (call (.type "set") [.ref l]) Q E s:=by
 obtain ⟨cc,tl,hmro⟩:=F.called_set.mro
 have hmade:=F.called_set.made
 have hsub:=F.called_set.sub
 refine wpAny_call (codeAny_of_tree ?_)
 show wpAny _ _ (callAny (.type "set") _) _ _ _
 refine wpAny_pure ⟨Code.quiet_builtin _ (by decide +kernel),codeAny_builtin F.entry_type_call ?_⟩
 rw [Around.under_plain (weight_type_call_type "set" [.ref l] []) rfl]
 have g1:=F.called_set.notType
 have g2:=F.called_set.canCreate
 have g3:=F.typeCall_set_1 (.ref l)
 repeat (any_goals (first | assumption | wp_step))
 refine codeAny_mono (code_set_new_1 (.ref l) (E:=E) (Q₁:=fun obj s1=>∃ led : Bool,obj = .ref s.heap.objs.size ∧ s1 = { s with heap:=s.heap.push { cls:=.type "set",dict:=none,data:=.set #[] 0 (.fresh 0 0 led) } }) fun led=>⟨led,rfl,rfl⟩) fun r s1 hr=>?_
 cases r with
 | error e=>exact hr
 | ok fl =>
  cases fl with
  | ret obj =>
   obtain ⟨led,rfl,rfl⟩:=hr
   have hS : (s.heap.push { cls:=.type "set",dict:=none,data:=.set #[] 0 (.fresh 0 0 led) }).get? s.heap.objs.size = some { cls:=.type "set",dict:=none,data:=.set #[] 0 (.fresh 0 0 led) }:=Heap.get?_push_size _ rfl
   have hT : Shared.TypeIs { s with heap:=s.heap.push { cls:=.type "set",dict:=none,data:=.set #[] 0 (.fresh 0 0 led) } } (.ref s.heap.objs.size) "set" := ⟨_,hS,rfl⟩
   have g4:=F.called_set.init.lookup
   have g5:=F.called_set.init.bind (.ref s.heap.objs.size)
   repeat (any_goals (first | assumption | wp_step))
   refine codeAny_mono (codeAny_call_builtin (R:=wants (fun r s2=>r = .none ∧ ∃ h' tk,s2 = { s with heap:=h', toks:=tk } ∧ h'.SetOf (Jj4 prog w) s.heap.objs.size (inU zs) (uq zs).length ∧ (∀ b o,s.heap.get? b = some o → h'.get? b = some o)) E) F.called_set.init.plain F.entry_set_init (check_set_init_1 hT ?_)) fun r2 s2 hr2=>?_
   ·obtain ⟨⟨oc,od,oda,osl⟩,hol,hcl,nl,hdl⟩:=hl
    simp only at hcl hdl
    subst hcl hdl
    have hol' : (s.heap.push { cls:=.type "set",dict:=none,data:=.set #[] 0 (.fresh 0 0 led) }).get? l = some { cls:=.type "list",dict:=od,data:=.seq items nl,slots:=osl }:=Heap.get?_push_of_some _ hol
    have g6:=F.sub_list_set
    have g7:=F.sub_list_frozenset
    have g8 : (Value.type "list" == Value.type "dict") = false:=by decide
    have hl1 : (s.heap.push { cls:=.type "set",dict:=none,data:=.set #[] 0 (.fresh 0 0 led) }).IsList l items:=⟨_,hol', rfl,nl,rfl⟩
    unfold Builtin.«set.__init__» noKeywords Builtin.Frozenset.updateFrom
    generalize hPI : pyIter = PI
    wp_walk
    subst hPI
    refine wpAny_pyIter_list hl1 (wpAny_bind (wpAny_runValue ?_))
    have lS : l < s.heap.objs.size:=Heap.lt_size hol
    have h3 : A.in1.in1.in1.handled = none:=by simp [hh]
    have nI : l ≠ (s.heap.push { cls:=.type "set",dict:=none,data:=.set #[] 0 (.fresh 0 0 led) }).objs.size:=by rw [Heap.size_push]; exact Nat.ne_of_lt (Nat.lt_succ_of_lt lS)
    have nS : s.heap.objs.size ∉ [(s.heap.push { cls:=.type "set",dict:=none,data:=.set #[] 0 (.fresh 0 0 led) }).objs.size,l]:=by
     rw [Heap.size_push]
     simp only [List.mem_cons,List.not_mem_nil,or_false,not_or]
     exact ⟨Nat.ne_of_lt (Nat.lt_succ_self _),Nat.ne_of_gt lS⟩
    refine Jtd (Walks.list h3 _ l nI items) s.heap.objs.size nS zs hz hi hb (items.size - 0) 0 _ (by omega) (Nat.zero_le _) ⟨⟨_,Heap.get?_push_size _ rfl,rfl,rfl⟩,hl1.push _⟩ ?S0 ?R0
    case S0 =>
     have q : ((s.heap.push { cls:=.type "set",dict:=none,data:=.set #[] 0 (.fresh 0 0 led) }).push { cls:=.type "list_iterator",data:=.fields #[.ref l,.int 0 0] }).get? s.heap.objs.size = some { cls:=.type "set",dict:=none,data:=.set #[] 0 (.fresh 0 0 led) }:=Heap.get?_push_of_some _ hS
     refine ⟨_,#[],0,_,q,⟨rfl,rfl,rfl⟩,rfl,fun e he=>by simp at he,fun x=>?_,by decide,by rfl,rfl⟩
     cases x <;> simp [inU,uq]
    case R0 =>
     intro h' tk km hS'
     show wpAny _ _ _ _ _ _
     refine wpAny_pure ?_
     show wpAny _ _ (ret Value.none) _ _ _
     refine wpAny_pure ⟨rfl,h', tk,rfl,hS', fun b o e=>?_⟩
     have lb : b < s.heap.objs.size:=Heap.lt_size e
     refine km b o (Nat.ne_of_lt lb) ?_ (Heap.get?_push_of_some _ (Heap.get?_push_of_some _ e))
     rw [Heap.size_push]
     simp only [List.mem_cons,List.not_mem_nil,or_false]
     exact Nat.ne_of_lt (Nat.lt_succ_of_lt lb)
   ·cases r2 with
    | error e=>exact hr2
    | ok fl2 =>
     cases fl2 with
     | ret r =>
      obtain ⟨rfl,h', tk,rfl,hS', hk'⟩:=hr2
      repeat (any_goals (first | assumption | wp_step))
      exact h _ _ hS' hk'
     | _=>exact hr2.elim
  | _=>exact hr.elim
end
def TxS (P : Program) (w : World) (a : Addr) (zs : List Str) : HO:=.ext fun h=>h.SetOf (Jj4 P w) a (inU zs) (uq zs).length
theorem txs_ok {P : Program} {w : World} {H : Hp} {h : Heap} {a : Addr} {zs : List Str} (hS : h.SetOf (Jj4 P w) a (inU zs) (uq zs).length) : ObjOk P w H h a (TxS P w a zs) :=
 ⟨hS,(let ⟨o,_,_,_,ho,_⟩:=hS; ⟨o,ho⟩),fun _ _ p k=>Jni p k (fun _=>rfl) rfl⟩
section
variable {X : Cx}
theorem Jov (hc : X.calm = true) : Jkd X (.type "set") (fun xs H Q=>∃ (l : Addr) (zs : List Str),xs = [.ref l] ∧ SqL X.K H l (zs.map V.str) ∧ zs.length ≤ 2000 ∧ ∀ a,H a = none → Q (.ref a) (upd H a (TxS X.prog X.w a zs))):=by
 intro pins s σ H xs us Q I r h
 obtain ⟨l,zs,rfl,hq,hz,q⟩:=h
 obtain ⟨u,rfl,ru⟩:=Jlo r
 obtain rfl : u = Value.ref l:=ru
 obtain ⟨its,rv,pl,_⟩:=I.list hq
 have hlen:=rv.length
 rw [List.length_map] at hlen
 refine Juw (zs:=zs) (I.ok.hd hc) pl.isList (by simpa using hlen) (fun i v hv=>?_) (by simp only [List.size_toArray]; unfold scanBound; omega) fun h' tk hS kk=>⟨.ref s.heap.objs.size,_,I.laid (a:=s.heap.objs.size) (o:=TxS X.prog X.w s.heap.objs.size zs) (t':=tk) kk (Nat.le_refl _) (txs_ok hS),rfl,q _ (I.hok.fresh (Nat.le_refl _))⟩
 ·have hv' : its[i]? = some v:=by simpa using hv
  have hlt : i < zs.length:=by have:=(List.getElem?_eq_some_iff.mp hv').1; omega
  obtain ⟨u,hu,ru⟩:=rv.get (i:=i) (x:=V.str zs[i]) (by rw [List.getElem?_map,List.getElem?_eq_getElem hlt]; rfl)
  rw [hv'] at hu
  cases hu
  obtain ⟨t,rfl⟩:=ru
  exact ⟨zs[i],t,List.getElem?_eq_getElem hlt,rfl⟩
theorem Jou : Jkd X (.builtin "len") (fun xs H Q=>∃ (a : Addr) (zs : List Str),xs = [.ref a] ∧ H a = some (TxS X.prog X.w a zs) ∧ Q (.int (uq zs).length) H):=by
 intro pins s σ H xs us Q I r h
 obtain ⟨a,zs,rfl,ha,q⟩:=h
 obtain ⟨u,rfl,ru⟩:=Jlo r
 obtain rfl : u = Value.ref a:=ru
 obtain ⟨o,es,ep,t,ho,hex,hd,_,_,hb,hf,hn⟩:=(I.hok a _ ha).1
 refine call_len_set ho hex hd hf (by unfold scanBound at hb; omega) ?_
 rw [hn]
 exact ⟨.int _,H,I.tok _,⟨_,rfl⟩,q⟩
end
end L2
namespace L2
open PySem PySem.Spec PyProof.Rows PySem.W
theorem Jmy : bootBuiltins "sum" = some (.builtin "sum"):=by decide +kernel
theorem bt_set : bootBuiltins "set" = some (.type "set"):=by decide +kernel
theorem Jqw : bootBuiltins "enumerate" = some (.type "enumerate"):=by decide +kernel
def Sml (ns : List Int) : Prop:=ns.length ≤ 2000 ∧ ∀ n ∈ ns,-1000000 ≤ n ∧ n ≤ 1000000
theorem Jom (ns : List Int) : ∀ i,i ≤ ns.length → preSum (fun j=>ns.getD j 0) i = (ns.take i).sum
 | 0,_=>by simp [preSum]
 | i + 1,h=>by
  have ih:=Jom ns i (by omega)
  have hlt : i < ns.length:=by omega
  have e : ns.take (i + 1) = ns.take i ++ [ns[i]]:=by rw [List.take_add_one,List.getElem?_eq_getElem hlt]; rfl
  have e2 : ns.getD i 0 = ns[i]:=by simp [List.getD,List.getElem?_eq_getElem hlt]
  rw [e,List.sum_append]
  simp only [List.sum_cons,List.sum_nil]
  show preSum (fun j=>ns.getD j 0) i + ns.getD i 0 = _
  rw [ih,e2]
  omega
theorem Jwl : ∀ (l : List Int),(∀ n ∈ l,-1000000 ≤ n ∧ n ≤ 1000000) → -1000000 * (l.length : Int) ≤ l.sum ∧ l.sum ≤ 1000000 * (l.length : Int)
 | [],_=>by simp
 | n :: r,h=>by
  have h1:=h n List.mem_cons_self
  have h2:=Jwl r fun m hm=>h m (List.mem_cons_of_mem _ hm)
  rw [List.sum_cons,List.length_cons]
  constructor <;> omega
section
variable {X : Cx}
def rSum (K : PySem.W.Frag) : List V → Hp → VK → Prop:=fun xs H Q=>∃ (a : Addr) (ns : List Int),xs = [.ref a] ∧ (SqL K H a (ns.map V.int) ∨ SqT K H a (ns.map V.int)) ∧ Sml ns ∧ Q (.int ns.sum) H
theorem Jkp (hc : X.calm = true) : Jkd X (.builtin "sum") (rSum X.K):=by
 intro pins s σ H xs us Q I r h
 obtain ⟨a,ns,rfl,hq,hs,q⟩:=h
 obtain ⟨u,rfl,ru⟩:=Jlo r
 obtain rfl : u = Value.ref a:=ru
 have fit : ∀ j,j < ns.length → InLong ((fun j=>ns.getD j 0) j) ∧ InLong (preSum (fun j=>ns.getD j 0) (j + 1)):=fun j hj=>by
  have e2 : ns.getD j 0 = ns[j]:=by simp [List.getD,List.getElem?_eq_getElem hj]
  have b1:=hs.2 _ (List.getElem_mem hj)
  have b2:=Jwl (ns.take (j + 1)) fun m hm=>hs.2 m (List.mem_of_mem_take hm)
  have b3 : ((ns.take (j + 1)).length : Int) ≤ 2000:=by have:=hs.1; rw [List.length_take]; omega
  rw [Jom ns (j + 1) (by omega)]
  refine ⟨?_,?_⟩
  ·show InLong (ns.getD j 0)
   rw [e2]
   unfold InLong
   constructor <;> omega
  ·unfold InLong
   constructor <;> omega
 have fin : ∀ {its : List Value} (rv : Vals (ns.map V.int) its) (i : Nat) (v : Value),its.toArray[i]? = some v → ∃ t,v = .int ((fun j=>ns.getD j 0) i) t:=fun {its} rv i v hv=>by
  have hv' : its[i]? = some v:=by simpa using hv
  have hl:=rv.length
  rw [List.length_map] at hl
  have hi : i < ns.length:=by have:=(List.getElem?_eq_some_iff.mp hv').1; omega
  obtain ⟨u', hu', ru'⟩:=rv.get (i:=i) (x:=V.int ns[i]) (by rw [List.getElem?_map,List.getElem?_eq_getElem hi]; rfl)
  rw [hv'] at hu'
  cases hu'
  obtain ⟨t,rfl⟩:=ru'
  exact ⟨t,by simp [List.getD,List.getElem?_eq_getElem hi]⟩
 rcases hq with hq | hq
 ·obtain ⟨its,rv,pl,_⟩:=I.list hq
  have hl:=rv.length
  rw [List.length_map] at hl
  have ne : a ≠ s.heap.objs.size:=by obtain ⟨o,_,e,_⟩:=pl; exact Nat.ne_of_lt (Heap.lt_size e)
  refine call_sum_walk (wpAny_pyIter_list pl.isList ⟨s.heap.objs.size,_,_,its.toArray.size,_,_,fun j=>ns.getD j 0,rfl,Walks.list (prog:=X.prog) (w:=X.w) (A:=X.A.in1) (show X.A.in1.handled = none from I.ok.hd hc) s.heap.objs.size a ne its.toArray,⟨⟨_,Heap.get?_push_size _ rfl,rfl,rfl⟩,pl.isList.push _⟩,fun b hb=>?_,fin rv,fun j hj=>fit j (by simp only [List.size_toArray] at hj; omega),fun h' tk t' k=>?_⟩)
  ·rw [Heap.size_push]
   simp only [List.mem_cons,List.not_mem_nil,or_false] at hb
   rcases hb with rfl | rfl
   ·exact Nat.lt_succ_self _
   ·obtain ⟨o,_,e,_⟩:=pl
    exact Nat.lt_succ_of_lt (Heap.lt_size e)
  ·have e : preSum (fun j=>ns.getD j 0) its.toArray.size = ns.sum:=by
    rw [Jom ns _ (by simp only [List.size_toArray]; omega),List.take_of_length_le (by simp only [List.size_toArray]; omega)]
   rw [e]
   exact ⟨.int _,H,I.kept fun b o e=>k b o (fun z=>by
    have z' : b = s.heap.objs.size:=by simpa using z
    exact absurd (Heap.lt_size e) (by rw [z']; exact Nat.lt_irrefl _)) (Heap.get?_push_of_some _ e),⟨_,rfl⟩,q⟩
 ·obtain ⟨its,rv,pt,_⟩:=I.tuple hq
  have hl:=rv.length
  rw [List.length_map] at hl
  have ne : a ≠ s.heap.objs.size:=by obtain ⟨o,e,_⟩:=pt; exact Nat.ne_of_lt (Heap.lt_size e)
  refine call_sum_walk (wpAny_pyIter_tuple (show s.heap.IsTuple a its.toArray from pt) ⟨s.heap.objs.size,_,_,its.toArray.size,_,_,fun j=>ns.getD j 0,rfl,Walks.tuple (prog:=X.prog) (w:=X.w) (A:=X.A.in1) (show X.A.in1.handled = none from I.ok.hd hc) s.heap.objs.size a ne its.toArray,⟨⟨_,Heap.get?_push_size _ rfl,rfl,rfl⟩,Heap.IsTuple.push pt _⟩,fun b hb=>?_,fin rv,fun j hj=>fit j (by simp only [List.size_toArray] at hj; omega),fun h' tk t' k=>?_⟩)
  ·rw [Heap.size_push]
   simp only [List.mem_cons,List.not_mem_nil,or_false] at hb
   rcases hb with rfl | rfl
   ·exact Nat.lt_succ_self _
   ·obtain ⟨o,e,_⟩:=pt
    exact Nat.lt_succ_of_lt (Heap.lt_size e)
  ·have e : preSum (fun j=>ns.getD j 0) its.toArray.size = ns.sum:=by
    rw [Jom ns _ (by simp only [List.size_toArray]; omega),List.take_of_length_le (by simp only [List.size_toArray]; omega)]
   rw [e]
   exact ⟨.int _,H,I.kept fun b o e=>k b o (fun z=>by
    have z' : b = s.heap.objs.size:=by simpa using z
    exact absurd (Heap.lt_size e) (by rw [z']; exact Nat.lt_irrefl _)) (Heap.get?_push_of_some _ e),⟨_,rfl⟩,q⟩
end
end L2
namespace L2
open PySem PySem.Spec PyProof.Rows PySem.W
def ItE (K : PySem.W.Frag) (a : Addr) : It:=⟨fun i H=>∃ xs x,SqL K H a xs ∧ xs[i]? = some x,
 fun i H x H'=>∃ T u,H T = none ∧ x = .ref T ∧ (∀ xs,SqL K H a xs → xs[i]? = some u) ∧ H' = upd H T (.tup [.int i,u]),
 fun i H=>∃ xs,SqL K H a xs ∧ i = xs.length⟩
def EnuSt (e it l : Addr) (i : Nat) (h : Heap) : Prop:=(∃ old,IsEnum h e it i old) ∧ h.IsListIter it l i
theorem EnuSt.obj {e it l : Addr} {i : Nat} {h : Heap} (st : EnuSt e it l i h) : ∀ b ∈ [e,it],∃ o,h.get? b = some o ∧ ∀ v,o.data ≠ .cell v:=fun b hb=>by
 obtain ⟨⟨old,h1⟩,⟨o4,h4,_,d4⟩⟩:=st
 simp only [List.mem_cons,List.not_mem_nil,or_false] at hb
 rcases hb with rfl | rfl
 ·exact ⟨_,h1,fun v z=>by cases z⟩
 ·exact ⟨o4,h4,fun v z=>by rw [d4] at z; cases z⟩
theorem Jwq {P : Program} {w : World} {K : PySem.W.Frag} {elts : List Expr} {kt : Nat} {pt : Pos} (e it l : Addr) (n1 : e ≠ it) (n2 : l ≠ e) (n3 : l ≠ it) :
  Jpm P w K (.Tuple elts kt pt) (ItE K l) [e,it] e (EnuSt e it l) where
 mem:=by simp
 obj:=fun i h st=>st.obj
 keep:=fun i h h' st k=>by
  obtain ⟨⟨old,h1⟩,h2⟩:=st
  exact ⟨⟨old,k e (by simp) _ h1⟩,h2.at fun o q=>k it (by simp) o q⟩
 item:=by
  intro X hP hw hK hc i pins s σ H E I hf st hg
  subst hP hw hK
  obtain ⟨xs,x,q1,hx⟩:=hg
  obtain ⟨its,rv,p1,_⟩:=I.list q1
  obtain ⟨u,hu,ru⟩:=rv.get hx
  have W:=WalksT.enumerate (prog:=X.prog) (w:=X.w) (I.ok.hd hc) e it l n1 n2 n3 its.toArray
  obtain ⟨s1,s2⟩:=st
  have li : i < its.length:=(List.getElem?_eq_some_iff.mp hu).1
  refine W.item i s _ _ (by simp only [List.size_toArray]; omega) ⟨s1,s2,p1.isList⟩ fun T vals h' tk hP fT tT mid kk=>?_
  refine ⟨_,rfl,W.go elts kt pt i T _ _ _ mid fun h'' st'' kk2=>?_⟩
  obtain ⟨t,a,ha,rfl⟩:=hP
  have ea : a = u:=by simpa [hu] using ha.symm
  subst ea
  obtain ⟨t1,t2,_⟩:=st''
  have kT : h''.IsTuple T #[.int i t,a]:=by
   obtain ⟨o,q,r⟩:=tT
   exact ⟨o,kk2 T o (W.apart i T h' mid) q,r⟩
  refine ⟨.ref T,upd H T (.tup [.int i,x]),I.turnTup (ch:=[e,it]) (t':=tk) hf (fun c o hc q=>kk2 c o hc (kk c o hc q)) fT ⟨(show 2 ≤ sizeLine by decide),[.int i t,a],.cons ⟨t,rfl⟩ (.cons ru .nil),kT⟩,rfl,⟨T,x,I.hok.fresh fT,rfl,fun xs' hq=>by rw [I.list_inj hq q1]; exact hx,rfl⟩,⟨t1,t2⟩,fun c hc=>?_⟩
  have hcn:=(hf c hc).1
  rw [Ji9 (fun w'=>?_)]
  ·exact hcn
  ·subst w'
   obtain ⟨o,q,_⟩:=EnuSt.obj (show EnuSt e it l i s.heap from ⟨s1,s2⟩) c hc
   exact absurd (Heap.lt_size q) (Nat.not_lt.mpr fT)
 done:=by
  intro X hP hw hK hc i pins s σ H E I hf st hg
  subst hP hw hK
  obtain ⟨xs,q1,hi⟩:=hg
  obtain ⟨its,rv,p1,_⟩:=I.list q1
  have W:=WalksT.enumerate (prog:=X.prog) (w:=X.w) (I.ok.hd hc) e it l n1 n2 n3 its.toArray
  obtain ⟨s1,s2⟩:=st
  have e1:=rv.length
  have ei : i = its.toArray.size:=by simp only [List.size_toArray]; omega
  subst ei
  refine W.done s _ _ ⟨s1,s2,p1.isList⟩ fun h' tk kk=>⟨rfl,?_⟩
  exact I.turnMany (ch:=[e,it]) hf fun c o hc q=>kk c o hc q
 self:=fun _ _ _ _ _ st h=>let ⟨_,q⟩:=st.1; wpAny_pyIter_enum q h
def iEnu (K : PySem.W.Frag) (ta : TA) : TI:=fun σ H R=>ta σ H fun vs H1=>∃ a,vs = [.ref a] ∧ (∃ xs,SqL K H1 a xs) ∧ R (ItE K a) H1
theorem Jxm {X : Cx} {elts : List Expr} {kt : Nat} {pt : Pos} {a : Expr} {ta : TA} {p pos : Pos} (hg : Gl X "enumerate") (hm : X.mg "enumerate" = none) (ha : PA X [a] ta) (hs : starEach [a] X.env = [(false,eval a X.env)]:=by rfl) :
  PI X (.Tuple elts kt pt) (.Call (.Name "enumerate" p) [a] [] pos) (iEnu X.K ta):=by
 intro pins s σ H R I h
 refine Call_ (Jlx I hg hm Jqw (PyProof.Rows.callWith_type1 (thn (ha pos pins s σ H _ I h) fun us s1 ⟨vs,H1,I1,r1,q1⟩=>?_) (by rw [hs]; rfl) rfl))
 obtain ⟨l,rfl,⟨xs,q1⟩,q⟩:=q1
 obtain ⟨u,rfl,r2⟩:=Jlo r1
 obtain rfl : u = Value.ref l:=r2
 obtain ⟨its,rv,p1,_⟩:=I1.list q1
 have a1 : l < s1.heap.objs.size:=by obtain ⟨o,n,e,_⟩:=p1; exact Heap.lt_size e
 refine call_enumerate_list p1.isList fun h' z1 z2 z3 kk=>?_
 have I2 : Inv X pins σ H1 { s1 with heap:=h' }:=I1.kept (t':=s1.toks) kk
 refine wpAny_pyIter_enum z1 ⟨_,_,_,_,H1,rfl,I2,Jwq (s1.heap.objs.size + 1) s1.heap.objs.size l (Nat.succ_ne_self _) (Nat.ne_of_lt (Nat.lt_succ_of_lt a1)) (Nat.ne_of_lt a1),⟨⟨_,z1⟩,z2⟩,fun c hc=>?_,q⟩
 have hc' : s1.heap.objs.size ≤ c:=by
  simp only [List.mem_cons,List.not_mem_nil,or_false] at hc
  rcases hc with rfl | rfl
  ·exact Nat.le_succ _
  ·exact Nat.le_refl _
 exact I1.fpOk hc' (I1.hok.fresh hc')
end L2
namespace L2
open PySem PySem.Spec PyProof.Rows PySem.W
section
variable {prog : Program} {w : World} {A : Around} {E : Value → Shared → Prop} {s : Shared}
theorem Jrl {it t : Addr} {i : Nat} {items : Array Value} {x : Value} {Q : Value → Shared → Prop} (hit : s.heap.IsTupleIter it t i) (ht : s.heap.IsTuple t items) (hx : items[i]? = some x)
  (hQ : ∀ h', h'.IsTupleIter it t (i + 1) → Heap.SameBut it s.heap h' → Q x { s with heap:=h' }) : wpAny (model prog w) A (Builtin.SmallTypes.nextOf (.ref it)) Q E s:=by
 obtain ⟨o,ho,hc,hd⟩:=id hit
 obtain ⟨ol,hol,_,nl,hdl⟩:=ht
 have hT : s.TypeIs (.ref it) "tuple_iterator" := ⟨o,ho,hc⟩
 unfold Builtin.SmallTypes.nextOf
 refine wpAny_bind (wpAny_callSpecial?_slot (name:=Str.ofString "__next__") hT slot_tupleiter_next (wpAny_call_entry slot_tupleiter_next hT entry_tupleiter_next ?_ (args_tupleiter_next _)))
 refine wpAny_bind (m:=field (.ref it) 0) (wpAny_field ho hd (x:=.ref t) rfl ?_)
 show wpAny _ _ (if (Value.ref t == Value.none) = true then _ else _) _ _ s
 rw [if_neg (show ¬ ((Value.ref t == Value.none) = true) from Bool.false_ne_true)]
 refine wpAny_bind (m:=field (.ref it) 1) (wpAny_field ho hd (x:=.int i 0) rfl ?_)
 refine wpAny_bind (m:=seqItems? (.ref t)) (wpAny_seqItems hol hdl ?_)
 simp only [Int.toNat_natCast,hx]
 refine wpAny_bind (wpAny_setField ho hd (by simp) (wpAny_pure ⟨x,rfl,wpAny_pure (hQ _ ⟨_,Heap.get?_update_self _ ho (Obj.isFreed_of_fields (Obj.data_mapFields hd _)),(Obj.cls_mapFields ..).trans hc,?_⟩ (Heap.SameBut.update ..))⟩))
 rw [Obj.data_mapFields hd]
 simp [rawInt]
theorem Jsg {it t : Addr} {i : Nat} {items : Array Value} {Q : Value → Shared → Prop} (hh : A.handled = none) (hit : s.heap.IsTupleIter it t i) (ht : s.heap.IsTuple t items) (hx : items[i]? = none)
  (hE : ∀ h' e,Heap.ExtBut it s.heap h' → (∃ o,h'.get? e = some o ∧ o.cls = .type "StopIteration") → E (.ref e) { s with heap:=h' }) : wpAny (model prog w) A (Builtin.SmallTypes.nextOf (.ref it)) Q E s:=by
 obtain ⟨o,ho,hc,hd⟩:=id hit
 obtain ⟨ol,hol,_,nl,hdl⟩:=ht
 have hT : s.TypeIs (.ref it) "tuple_iterator" := ⟨o,ho,hc⟩
 unfold Builtin.SmallTypes.nextOf
 refine wpAny_bind (wpAny_callSpecial?_slot (name:=Str.ofString "__next__") hT slot_tupleiter_next (wpAny_call_entry slot_tupleiter_next hT entry_tupleiter_next ?_ (args_tupleiter_next _)))
 refine wpAny_bind (m:=field (.ref it) 0) (wpAny_field ho hd (x:=.ref t) rfl ?_)
 show wpAny _ _ (if (Value.ref t == Value.none) = true then _ else _) _ _ s
 rw [if_neg (show ¬ ((Value.ref t == Value.none) = true) from Bool.false_ne_true)]
 refine wpAny_bind (m:=field (.ref it) 1) (wpAny_field ho hd (x:=.int i 0) rfl ?_)
 refine wpAny_bind (m:=seqItems? (.ref t)) (wpAny_seqItems hol hdl ?_)
 simp only [Int.toNat_natCast,hx]
 refine wpAny_bind (wpAny_rule (wpAny_bind (wpAny_setField ho hd (by simp) ?_)))
 refine wpAny_bind (m:=newExc (.type "StopIteration") []) ?_
 simp only [newExc,newTuple]
 refine wpAny_bind (wpAny_newObj_type (wpAny_bind (m:=firstArgMember _ _) (wpAny_of_eq (a:=Value.none) (by first | rfl | (simp only [firstArgMember]; rfl)) (wpAny_newObj_type ?_ (by size_fits)))) (by size_fits))
 simp only [raiseNew]
 refine wpAny_bind (wpAny_handled ?_)
 first | rw [show A.in1.handled = none from hh] | rw [hh]
 exact wpAny_bind (wpAny_pure (wpAny_throw (hE _ _ (((Heap.SameBut.update ..).extBut.push _).push _) ⟨_,Heap.get?_push_size _ rfl,rfl⟩)))
end
theorem Juf {prog : Program} {w : World} {A : Around} (hh : A.handled = none) (it l : Addr) (hne : l ≠ it) (items : Array Value) :
  Draws prog w A it [it,l] items.size (fun i v=>items[i]? = some v) (fun i h=>h.IsTupleIter it l i ∧ h.IsTuple l items) where
 live:=fun _ _ st=>let ⟨o,ho,_⟩:=st.1; ⟨o,ho⟩
 frame:=fun _ _ _ st hk=>⟨st.1.at fun o e=>hk it (by simp) o e,st.2.at fun o e=>hk l (by simp) o e⟩
 item:=fun i s Q E hi st hQ=>Jrl st.1 st.2 (x:=items[i]) (by simp [hi]) fun h' hit' hs'=>hQ _ h' s.toks (by simp [hi]) ⟨hit', st.2.extBut hs'.extBut hne⟩ hs'
 done:=fun s Q E st hE=>Jsg hh st.1 st.2 (by simp) hE
end L2
namespace L2
open PySem PySem.Spec PyProof.Rows PySem.W
section
variable {prog : Program} {w : World} {A : Around} {E : Value → Shared → Prop} {s : Shared}
end
end L2
namespace L2
open PySem PySem.Spec PyProof.Rows PySem.W
abbrev Jk1 (h : Heap) (T : Addr) (a b c : Value) : Prop:=h.get? T = some { cls:=.type "tuple",data:=.seq #[a,b,c] }
abbrev DrA (prog : Program) (w : World) (i l : Addr) (n : Nat) (P : Nat → Value → Prop) (St : Nat → Heap → Prop) : Prop:=∀ A : Around,A.handled = none → Draws prog w A i [i,l] n P St
structure Z3 (z TI TO i1 i2 i3 l1 l2 l3 : Addr) : Prop where
 nd : [z,TI,TO,i1,i2,i3].Nodup
 m1 : l1 ∉ [z,TI,TO,i1,i2,i3]
 m2 : l2 ∉ [z,TI,TO,i1,i2,i3]
 m3 : l3 ∉ [z,TI,TO,i1,i2,i3]
section
variable {prog : Program} {w : World} {A : Around} {E : Value → Shared → Prop} {s : Shared}
theorem Jtf {T : Addr} {a b c x : Value} {k : Nat} {Q : Unit → Shared → Prop} (hT : Jk1 s.heap T a b c)
  (h : ∀ h', h'.get? T = some { cls:=.type "tuple",data:=.seq ((#[a,b,c] : Array Value).setIfInBounds k x) } → Heap.SameBut T s.heap h' → Q () { s with heap:=h' }) : wpAny (model prog w) A (updateSeq T (·.setIfInBounds k x)) Q E s:=by
 refine wpAny_updateSeq hT rfl (h _ ?_ (Heap.SameBut.update ..))
 rw [Heap.get?_update_self _ hT rfl]
 simp [Obj.mapSeq]
variable {z TI TO i1 i2 i3 l1 l2 l3 : Addr} {n k : Nat} {P1 P2 P3 : Nat → Value → Prop} {S1 S2 S3 : Nat → Heap → Prop} {a b c : Value}
theorem Jyd {Q : Value → Shared → Prop} (Z : Z3 z TI TO i1 i2 i3 l1 l2 l3) (hz : IsZip s.heap z TI TO .none) (hTI : Jk1 s.heap TI (.ref i1) (.ref i2) (.ref i3)) (hTO : Jk1 s.heap TO a b c)
  (hh : A.handled = none) (D1 : DrA prog w i1 l1 n P1 S1) (D2 : DrA prog w i2 l2 n P2 S2) (D3 : DrA prog w i3 l3 n P3 S3) (hk : k < n) (t1 : S1 k s.heap) (t2 : S2 k s.heap) (t3 : S3 k s.heap)
  (hQ : ∀ x y u h' tk,P1 k x → P2 k y → P3 k u → IsZip h' z TI TO (rawInt s.heap.objs.size) → Jk1 h' TO x y u → S1 (k + 1) h' → S2 (k + 1) h' → S3 (k + 1) h' → Jk1 h' s.heap.objs.size x y u →
   (∀ d o,d ≠ z → d ≠ TO → d ≠ i1 → d ≠ i2 → d ≠ i3 → s.heap.get? d = some o → h'.get? d = some o) → Q (.ref s.heap.objs.size) { s with heap:=h', toks:=tk }) :
  wpAny (model prog w) A (Builtin.«zip.__next__» ⟨[.ref z],[]⟩) (fun fin s'=>∃ v,fin = .done (.ret v) ∧ Q v s') E s:=by
 obtain ⟨nd,m1,m2,m3⟩:=Z
 simp only [List.nodup_cons,List.mem_cons,List.not_mem_nil,or_false,not_or,List.nodup_nil,and_true,not_false_eq_true] at nd m1 m2 m3
 obtain ⟨⟨zTI,zTO,z1,z2,z3⟩,⟨TITO,TI1,TI2,TI3⟩,⟨TO1,TO2,TO3⟩,⟨n12,n13⟩,n23⟩:=nd
 obtain ⟨l1z,l1TI,l1TO,l11,l12,l13⟩:=m1
 obtain ⟨l2z,l2TI,l2TO,l21,l22,l23⟩:=m2
 obtain ⟨l3z,l3TI,l3TO,l31,l32,l33⟩:=m3
 have fr : ∀ {S : Nat → Heap → Prop} {P : Nat → Value → Prop} {i l b : Addr} {m : Nat} {h h' : Heap},DrA prog w i l n P S → i ≠ b → l ≠ b → Heap.SameBut b h h' → S m h → S m h':=fun D e1 e2 sb st =>
  (D A hh).frame _ _ _ st fun d hd o e=>by
   simp only [List.mem_cons,List.not_mem_nil,or_false] at hd
   rcases hd with rfl | rfl
   ·exact sb.extBut _ _ e1 e
   ·exact sb.extBut _ _ e2 e
 show wpAny _ _ (field (.ref z) 2 >>= _) _ _ _
 refine wpAny_bind (wpAny_field hz rfl (x:=.bool false) rfl ?_)
 refine wpAny_bind (m:=field (.ref z) 3) (wpAny_field hz rfl (x:=.ref TI) rfl ?_)
 refine wpAny_bind (wpAny_seqItems hTI rfl ?_)
 refine wpAny_bind (m:=Builtin.SmallTypes.ownedTupleIsFree (.ref z)) ?_
 unfold Builtin.SmallTypes.ownedTupleIsFree
 refine wpAny_bind (wpAny_field hz rfl (x:=.none) rfl (wpAny_pure ?_))
 simp only [if_true]
 refine wpAny_bind (wpAny_rule (wpAny_bind (wpAny_field hz rfl (x:=.ref TO) rfl (wpAny_bind (wpAny_setField_rec hz (by simp) fun h1 hz1 s1=>?_)))))
 replace hz1 : IsZip h1 z TI TO .ellipsis:=hz1
 refine wpAny_bind ?_
 simp only [List.zipIdx_cons,List.zipIdx_nil,List.forIn_cons,List.forIn_nil]
 refine wpAny_bind (wpAny_bind (wpAny_onRaise ?_))
 refine wpAny_bind (m:=Builtin.SmallTypes.nextOf (.ref i1)) ((D1 A hh).item k _ _ _ hk (fr D1 (Ne.symm z1) l1z s1 t1) fun x h2 k2 px u1 s2=>wpAny_pure ?_)
 have o2 : Jk1 h2 TO a b c:=s2.extBut _ _ TO1 (s1.extBut _ _ (Ne.symm zTO) hTO)
 refine wpAny_bind (wpAny_seqItems o2 rfl (wpAny_bind (Jtf o2 fun h3 o3 s3=>wpAny_bind (wpAny_letGo (wpAny_pure ?_)))))
 replace o3 : Jk1 h3 TO x b c:=o3
 refine wpAny_bind (wpAny_bind (wpAny_onRaise ?_))
 refine wpAny_bind (m:=Builtin.SmallTypes.nextOf (.ref i2)) ((D2 A hh).item k _ _ _ hk (fr D2 (Ne.symm TO2) l2TO s3 (fr D2 (Ne.symm n12) l21 s2 (fr D2 (Ne.symm z2) l2z s1 t2))) fun y h4 k4 py u2 s4=>wpAny_pure ?_)
 have o4 : Jk1 h4 TO x b c:=s4.extBut _ _ TO2 o3
 refine wpAny_bind (wpAny_seqItems o4 rfl (wpAny_bind (Jtf o4 fun h5 o5 s5=>wpAny_bind (wpAny_letGo (wpAny_pure ?_)))))
 replace o5 : Jk1 h5 TO x y c:=o5
 refine wpAny_bind (wpAny_bind (wpAny_onRaise ?_))
 refine wpAny_bind (m:=Builtin.SmallTypes.nextOf (.ref i3)) ((D3 A hh).item k _ _ _ hk (fr D3 (Ne.symm TO3) l3TO s5 (fr D3 (Ne.symm n23) l32 s4 (fr D3 (Ne.symm TO3) l3TO s3 (fr D3 (Ne.symm n13) l31 s2 (fr D3 (Ne.symm z3) l3z s1 t3))))) fun u h6 k6 pu u3 s6=>wpAny_pure ?_)
 have o6 : Jk1 h6 TO x y c:=s6.extBut _ _ TO3 o5
 refine wpAny_bind (wpAny_seqItems o6 rfl (wpAny_bind (Jtf o6 fun h7 o7 s7=>wpAny_bind (wpAny_letGo (wpAny_pure (wpAny_pure ?_))))))
 replace o7 : Jk1 h7 TO x y u:=o7
 refine wpAny_bind (wpAny_seqItems o7 rfl (wpAny_bind (wpAny_newTuple ?_)))
 have sz : h7.objs.size = s.heap.objs.size:=by rw [s7.1,s6.1,s5.1,s4.1,s3.1,s2.1,s1.1]
 have zz : IsZip h7 z TI TO .ellipsis:=s7.extBut _ _ zTO (s6.extBut _ _ z3 (s5.extBut _ _ zTO (s4.extBut _ _ z2 (s3.extBut _ _ zTO (s2.extBut _ _ z1 hz1)))))
 have kk : ∀ d o,d ≠ z → d ≠ TO → d ≠ i1 → d ≠ i2 → d ≠ i3 → s.heap.get? d = some o → h7.get? d = some o:=fun d o c1 c2 c3 c4 c5 e =>
  s7.extBut _ _ c2 (s6.extBut _ _ c5 (s5.extBut _ _ c2 (s4.extBut _ _ c4 (s3.extBut _ _ c2 (s2.extBut _ _ c3 (s1.extBut _ _ c1 e))))))
 have w1 : S1 (k + 1) h7:=fr D1 (Ne.symm TO1) l1TO s7 (fr D1 n13 l13 s6 (fr D1 (Ne.symm TO1) l1TO s5 (fr D1 n12 l12 s4 (fr D1 (Ne.symm TO1) l1TO s3 u1))))
 have w2 : S2 (k + 1) h7:=fr D2 (Ne.symm TO2) l2TO s7 (fr D2 n23 l23 s6 (fr D2 (Ne.symm TO2) l2TO s5 u2))
 have w3 : S3 (k + 1) h7:=fr D3 (Ne.symm TO3) l3TO s7 u3
 have zlt : z < h7.objs.size:=Heap.lt_size zz
 refine wpAny_bind (m:=Builtin.SmallTypes.ownedTupleHandOut (.ref z) (.ref h7.objs.size)) ?_
 unfold Builtin.SmallTypes.ownedTupleHandOut
 have zp : IsZip (h7.push { cls:=.type "tuple",data:=.seq #[x,y,u] }) z TI TO .ellipsis:=Heap.get?_push_of_some _ zz
 refine wpAny_bind (wpAny_setField_rec zp (by simp) fun h8 hz8 s8=>?_)
 replace hz8 : IsZip h8 z TI TO (rawInt h7.objs.size):=hz8
 refine wpAny_setField_rec hz8 (by simp) fun h9 hz9 s9=>?_
 replace hz9 : IsZip h9 z TI TO (rawInt h7.objs.size):=hz9
 have up : ∀ d o,d ≠ z → h7.get? d = some o → h9.get? d = some o:=fun d o c1 e=>s9.extBut _ _ c1 (s8.extBut _ _ c1 (Heap.get?_push_of_some _ e))
 have nw : Jk1 h9 h7.objs.size x y u:=s9.extBut _ _ (Nat.ne_of_gt zlt) (s8.extBut _ _ (Nat.ne_of_gt zlt) (Heap.get?_push_size _ rfl))
 have fz : ∀ {S : Nat → Heap → Prop} {P : Nat → Value → Prop} {i l : Addr} {m : Nat},DrA prog w i l n P S → i ≠ z → l ≠ z → S m h7 → S m h9:=fun D e1 e2 st=>(D A hh).frame _ _ _ st fun d hd o e=>by
  simp only [List.mem_cons,List.not_mem_nil,or_false] at hd
  rcases hd with rfl | rfl
  ·exact up _ _ e1 e
  ·exact up _ _ e2 e
 rw [sz] at hz9 nw
 refine wpAny_pure ⟨_,rfl,?_⟩
 show Q (.ref h7.objs.size) _
 rw [sz]
 exact hQ x y u h9 _ px py pu hz9 (up _ _ (Ne.symm zTO) o7) (fz D1 (Ne.symm z1) l1z w1) (fz D2 (Ne.symm z2) l2z w2) (fz D3 (Ne.symm z3) l3z w3) nw fun d o c1 c2 c3 c4 c5 e=>up d o c1 (kk d o c1 c2 c3 c4 c5 e)
theorem z3_end {Q : Fin → Shared → Prop} (Z : Z3 z TI TO i1 i2 i3 l1 l2 l3) (hz : IsZip s.heap z TI TO .none) (hTI : Jk1 s.heap TI (.ref i1) (.ref i2) (.ref i3))
  (hh : A.handled = none) (D1 : DrA prog w i1 l1 n P1 S1) (t1 : S1 n s.heap)
  (hE : ∀ h' e,(∀ d o,d ≠ z → d ≠ i1 → s.heap.get? d = some o → h'.get? d = some o) → (∃ o,h'.get? e = some o ∧ o.cls = .type "StopIteration") → E (.ref e) { s with heap:=h' }) :
  wpAny (model prog w) A (Builtin.«zip.__next__» ⟨[.ref z],[]⟩) Q E s:=by
 obtain ⟨nd,m1,_,_⟩:=Z
 simp only [List.nodup_cons,List.mem_cons,List.not_mem_nil,or_false,not_or,List.nodup_nil,and_true,not_false_eq_true] at nd m1
 obtain ⟨⟨zTI,zTO,z1,z2,z3⟩,_⟩:=nd
 obtain ⟨l1z,l1TI,l1TO,l11,l12,l13⟩:=m1
 show wpAny _ _ (field (.ref z) 2 >>= _) _ _ _
 refine wpAny_bind (wpAny_field hz rfl (x:=.bool false) rfl ?_)
 refine wpAny_bind (m:=field (.ref z) 3) (wpAny_field hz rfl (x:=.ref TI) rfl ?_)
 refine wpAny_bind (wpAny_seqItems hTI rfl ?_)
 refine wpAny_bind (m:=Builtin.SmallTypes.ownedTupleIsFree (.ref z)) ?_
 unfold Builtin.SmallTypes.ownedTupleIsFree
 refine wpAny_bind (wpAny_field hz rfl (x:=.none) rfl (wpAny_pure ?_))
 simp only [if_true]
 refine wpAny_bind (wpAny_rule (wpAny_bind (wpAny_field hz rfl (x:=.ref TO) rfl (wpAny_bind (wpAny_setField_rec hz (by simp) fun h1 hz1 s1=>?_)))))
 replace hz1 : IsZip h1 z TI TO .ellipsis:=hz1
 refine wpAny_bind ?_
 simp only [List.zipIdx_cons,List.zipIdx_nil,List.forIn_cons,List.forIn_nil]
 refine wpAny_bind (wpAny_bind (wpAny_onRaise ?_))
 refine wpAny_bind (m:=Builtin.SmallTypes.nextOf (.ref i1)) ((D1 A hh).done _ _ _ ((D1 A hh).frame _ _ _ t1 fun d hd o e=>?_) fun h2 e s2 he=>?_)
 ·simp only [List.mem_cons,List.not_mem_nil,or_false] at hd
  rcases hd with rfl | rfl
  ·exact s1.extBut _ _ (Ne.symm z1) e
  ·exact s1.extBut _ _ l1z e
 ·obtain ⟨oe,hoe,hce⟩:=he
  have hz2 : IsZip h2 z TI TO .ellipsis:=s2 _ _ z1 hz1
  have ez : e ≠ z:=fun q=>by subst q; rw [hz2] at hoe; cases hoe; simp at hce
  exact wpAny_setField_rec hz2 (by simp) fun h3 _ s3=>hE h3 e (fun d o c1 c2 q=>s3.extBut _ _ c1 (s2 _ _ c2 (s1.extBut _ _ c1 q))) ⟨oe,s3.extBut _ _ ez hoe,hce⟩
end
end L2
namespace L2
open PySem PySem.Spec PyProof.Rows PySem.W
def Z3St (z TI TO i1 i2 i3 : Addr) (S1 S2 S3 : Nat → Heap → Prop) (i : Nat) (h : Heap) : Prop:=IsZip h z TI TO .none ∧ Jk1 h TI (.ref i1) (.ref i2) (.ref i3) ∧ (∃ a b c,Jk1 h TO a b c) ∧ S1 i h ∧ S2 i h ∧ S3 i h
section
variable {prog : Program} {w : World} {z TI TO i1 i2 i3 l1 l2 l3 : Addr} {n : Nat} {P1 P2 P3 : Nat → Value → Prop} {S1 S2 S3 : Nat → Heap → Prop}
theorem Jwu {A : Around} (hh : A.handled = none) (Z : Z3 z TI TO i1 i2 i3 l1 l2 l3) (D1 : DrA prog w i1 l1 n P1 S1) (D2 : DrA prog w i2 l2 n P2 S2) (D3 : DrA prog w i3 l3 n P3 S3) :
  WalksT prog w A z [z,TI,TO,i1,i2,i3,l1,l2,l3] [z,TO,i1,i2,i3] n (fun i vals=>∃ x y u,P1 i x ∧ P2 i y ∧ P3 i u ∧ vals = #[x,y,u]) (Z3St z TI TO i1 i2 i3 S1 S2 S3)
   (fun i T h=>IsZip h z TI TO (rawInt T) ∧ Jk1 h TI (.ref i1) (.ref i2) (.ref i3) ∧ (∃ a b c,Jk1 h TO a b c) ∧ S1 (i + 1) h ∧ S2 (i + 1) h ∧ S3 (i + 1) h ∧ T ∉ [z,TO,i1,i2,i3]) where
 sub:=fun c hc=>by simp at hc ⊢; rcases hc with rfl | rfl | rfl | rfl | rfl <;> simp
 frame:=fun i h h' hst hk=>by
  obtain ⟨hz,hTI,⟨a,b,c,hTO⟩,h1,h2,h3⟩:=hst
  exact ⟨hk z (by simp) _ hz,hk TI (by simp) _ hTI,⟨a,b,c,hk TO (by simp) _ hTO⟩,(D1 A hh).frame _ _ _ h1 fun d hd o e=>hk d (by simp at hd; rcases hd with rfl | rfl <;> simp) o e,
   (D2 A hh).frame _ _ _ h2 fun d hd o e=>hk d (by simp at hd; rcases hd with rfl | rfl <;> simp) o e,(D3 A hh).frame _ _ _ h3 fun d hd o e=>hk d (by simp at hd; rcases hd with rfl | rfl <;> simp) o e⟩
 item:=fun i s Q E hi hst hQ=>by
  obtain ⟨hz,hTI,⟨a,b,c,hTO⟩,h1,h2,h3⟩:=hst
  have hT : s.TypeIs (.ref z) "zip" := ⟨_,hz,rfl⟩
  have nd:=Z.nd
  simp only [List.nodup_cons,List.mem_cons,List.not_mem_nil,or_false,not_or,List.nodup_nil,and_true,not_false_eq_true] at nd
  obtain ⟨⟨zTI,_⟩,⟨TITO,TI1,TI2,TI3⟩,_⟩:=nd
  obtain ⟨e1,g1⟩:=(D1 A hh).live _ _ h1
  obtain ⟨e2,g2⟩:=(D2 A hh).live _ _ h2
  obtain ⟨e3,g3⟩:=(D3 A hh).live _ _ h3
  unfold pyNext
  refine wpAny_bind (wpAny_attempt (wpAny_callSpecial?_slot (name:=Str.ofString "__next__") hT F.slot_zip_next (wpAny_call_entry F.slot_zip_next hT F.entry_zip_next
   (Jyd (A:=A.in1) Z hz hTI hTO hh D1 D2 D3 hi h1 h2 h3 fun x y u h' tk px py pu a1 a2 a3 a4 a5 a6 hk=>wpAny_pure ?_) (F.args_zip_next_1 _))))
  refine hQ s.heap.objs.size #[x,y,u] h' tk ⟨x,y,u,px,py,pu,rfl⟩ (Nat.le_refl _) ⟨_,a6,rfl,_,rfl⟩ ⟨a1,hk _ _ (Ne.symm zTI) TITO TI1 TI2 TI3 hTI,⟨_,_,_,a2⟩,a3,a4,a5,?_⟩ fun d o hd e=>hk d o (fun q=>hd (by simp [q])) (fun q=>hd (by simp [q])) (fun q=>hd (by simp [q])) (fun q=>hd (by simp [q])) (fun q=>hd (by simp [q])) e
  have lt : ∀ {d o},s.heap.get? d = some o → s.heap.objs.size ≠ d:=fun e=>Nat.ne_of_gt (Heap.lt_size e)
  simp only [List.mem_cons,List.not_mem_nil,or_false,not_or]
  exact ⟨lt hz,lt hTO,lt g1,lt g2,lt g3⟩
 go:=fun elts k pos i T s Q E hm hQ=>by
  obtain ⟨hz,hTI,⟨a,b,c,hTO⟩,h1,h2,h3,_⟩:=hm
  have nd:=Z.nd
  have m1:=Z.m1
  have m2:=Z.m2
  have m3:=Z.m3
  simp only [List.nodup_cons,List.mem_cons,List.not_mem_nil,or_false,not_or,List.nodup_nil,and_true,not_false_eq_true] at nd m1 m2 m3
  obtain ⟨⟨zTI,zTO,z1,z2,z3⟩,_⟩:=nd
  have fz : ∀ {S : Nat → Heap → Prop} {P : Nat → Value → Prop} {j l : Addr} {m : Nat} {h' : Heap},DrA prog w j l n P S → j ≠ z → l ≠ z → Heap.SameBut z s.heap h' → S m s.heap → S m h':=fun D e1 e2 sb st=>(D A hh).frame _ _ _ st fun d hd o e=>by
   simp only [List.mem_cons,List.not_mem_nil,or_false] at hd
   rcases hd with rfl | rfl
   ·exact sb.extBut _ _ e1 e
   ·exact sb.extBut _ _ e2 e
  exact wpAny_letOwnedTupleGo_zip hz fun h' hz' sb=>hQ h' ⟨hz', sb.extBut _ _ (Ne.symm zTI) hTI,⟨a,b,c,sb.extBut _ _ (Ne.symm zTO) hTO⟩,fz D1 (Ne.symm z1) m1.1 sb h1,fz D2 (Ne.symm z2) m2.1 sb h2,fz D3 (Ne.symm z3) m3.1 sb h3⟩ fun d o hd e=>sb.extBut _ _ (fun q=>hd (by simp [q])) e
 apart:=fun i T h hm hT=>hm.2.2.2.2.2.2 hT
 done:=fun s Q E hst hQ=>by
  obtain ⟨hz,hTI,_,h1,h2,h3⟩:=hst
  have hT : s.TypeIs (.ref z) "zip" := ⟨_,hz,rfl⟩
  unfold pyNext
  refine wpAny_bind (wpAny_attempt (wpAny_callSpecial?_slot (name:=Str.ofString "__next__") hT F.slot_zip_next (wpAny_call_entry F.slot_zip_next hT F.entry_zip_next
   (z3_end (A:=A.in1) Z hz hTI hh D1 h1 fun h' e hk he=>?_) (F.args_zip_next_1 _))))
  obtain ⟨o,ho,hc⟩:=he
  refine wpAny_bind (wpAny_isInstance (T := "StopIteration") (b:=true) ⟨o,ho,hc⟩ isSubtype_stop (wpAny_pure ?_))
  exact hQ h' s.toks fun d o' hd e'=>hk d o' (fun q=>hd (by simp [q])) (fun q=>hd (by simp [q])) e'
 self:=fun i s Q E hst hQ=>wpAny_pyIter_zip hst.1 hQ
end
end L2
namespace L2
open PySem PySem.Spec PyProof.Rows PySem.W
def SqB (K : PySem.W.Frag) (H : Hp) (l : Addr) : Bool → List V → Prop
 | false,xs=>SqL K H l xs
 | true,xs=>SqT K H l xs
def IsB (h : Heap) (l : Addr) : Bool → Array Value → Prop
 | false,items=>h.IsList l items
 | true,items=>h.IsTuple l items
def IS (it l : Addr) : Bool → Nat → Heap → Prop
 | false,i,h=>h.IsListIter it l i
 | true,i,h=>h.IsTupleIter it l i
def itO (l : Addr) : Bool → Obj
 | false=>{ cls:=.type "list_iterator",data:=.fields #[.ref l,.int 0 0] }
 | true=>{ cls:=.type "tuple_iterator",data:=.fields #[.ref l,.int 0 0] }
theorem IS.at {it l : Addr} {b : Bool} {i : Nat} {h h' : Heap} (x : IS it l b i h) (k : ∀ o,h.get? it = some o → h'.get? it = some o) : IS it l b i h':=by
 cases b
 ·exact Heap.IsListIter.at x k
 ·exact Heap.IsTupleIter.at x k
theorem IS.obj {it l : Addr} {b : Bool} {i : Nat} {h : Heap} (x : IS it l b i h) : ∃ o,h.get? it = some o ∧ ∀ v,o.data ≠ .cell v:=by
 cases b
 ·obtain ⟨o,e,_,d⟩:=x
  exact ⟨o,e,fun v z=>by rw [d] at z; cases z⟩
 ·obtain ⟨o,e,_,d⟩:=x
  exact ⟨o,e,fun v z=>by rw [d] at z; cases z⟩
theorem drA {prog : Program} {w : World} {it l : Addr} (b : Bool) (ne : l ≠ it) (items : Array Value) : DrA prog w it l items.size (fun i v=>items[i]? = some v) (fun i h=>IS it l b i h ∧ IsB h l b items):=fun A hh=>by
 cases b
 ·exact Draws.list hh it l ne items
 ·exact Juf hh it l ne items
section
variable {prog : Program} {w : World} {A : Around} {E : Value → Shared → Prop} {s : Shared}
theorem IsB.push {h : Heap} {l : Addr} {b : Bool} {items : Array Value} (x : IsB h l b items) (o : Obj) : IsB (h.push o) l b items:=by
 cases b
 ·exact Heap.IsList.push x o
 ·exact Heap.IsTuple.push x o
theorem IsB.lt {h : Heap} {l : Addr} {b : Bool} {items : Array Value} (x : IsB h l b items) : l < h.objs.size:=by
 cases b
 ·obtain ⟨o,e,_⟩:=x; exact Heap.lt_size e
 ·obtain ⟨o,e,_⟩:=x; exact Heap.lt_size e
theorem Jrv {l : Addr} {b : Bool} {items : Array Value} {Q : Value → Shared → Prop} (x : IsB s.heap l b items) (hQ : Q (.ref s.heap.objs.size) { s with heap:=s.heap.push (itO l b) }) : wpAny (model prog w) A (pyIter (.ref l)) Q E s:=by
 cases b
 ·exact wpAny_pyIter_list x hQ
 ·exact wpAny_pyIter_tuple x hQ
end
abbrev zA (h : Heap) (l1 : Addr) (b1 : Bool) : Heap:=h.push (itO l1 b1)
abbrev zB (h : Heap) (l1 l2 : Addr) (b1 b2 : Bool) : Heap:=(zA h l1 b1).push (itO l2 b2)
abbrev zC (h : Heap) (l1 l2 l3 : Addr) (b1 b2 b3 : Bool) : Heap:=(zB h l1 l2 b1 b2).push (itO l3 b3)
abbrev zD (h : Heap) (l1 l2 l3 : Addr) (b1 b2 b3 : Bool) : Heap:=(zC h l1 l2 l3 b1 b2 b3).push { cls:=.type "tuple",data:=.seq #[.ref h.objs.size,.ref (zA h l1 b1).objs.size,.ref (zB h l1 l2 b1 b2).objs.size] }
abbrev zE (h : Heap) (l1 l2 l3 : Addr) (b1 b2 b3 : Bool) : Heap:=(zD h l1 l2 l3 b1 b2 b3).push { cls:=.type "tuple",data:=.seq #[.none,.none,.none] }
abbrev zF (h : Heap) (l1 l2 l3 : Addr) (b1 b2 b3 : Bool) : Heap:=(zE h l1 l2 l3 b1 b2 b3).push { cls:=.type "zip",data:=.fields #[.none,.bool false,.bool false,.ref (zC h l1 l2 l3 b1 b2 b3).objs.size,.ref (zD h l1 l2 l3 b1 b2 b3).objs.size] }
set_option maxRecDepth 100000 in
set_option maxHeartbeats 2000000 in
theorem Jx4 (l1 l2 l3 : Addr) (b1 b2 b3 : Bool) (xs ys us : Array Value) :
  Meets (Builtin.«zip.__new__» ⟨[.type "zip",.ref l1,.ref l2,.ref l3],[]⟩) (fun _ R s=>IsB s.heap l1 b1 xs ∧ IsB s.heap l2 b2 ys ∧ IsB s.heap l3 b3 us ∧
   R (.ok (.ret (.ref (zE s.heap l1 l2 l3 b1 b2 b3).objs.size))) { s with heap:=zF s.heap l1 l2 l3 b1 b2 b3 }) :=
 .of_wp fun prog w A R s h=>by
  obtain ⟨hp,g,d,tk,os⟩:=s
  obtain ⟨hl1,hl2,hl3,h⟩:=h
  have e0:=sub_zip
  have e1 : IsB (Shared.heap ⟨hp,g,d,tk,os⟩) l1 b1 xs:=hl1
  have e2 : IsB (Shared.heap ⟨hp.push (itO l1 b1),g,d,tk,os⟩) l2 b2 ys:=IsB.push hl2 _
  have e3 : IsB (Shared.heap ⟨(hp.push (itO l1 b1)).push (itO l2 b2),g,d,tk,os⟩) l3 b3 us:=IsB.push (IsB.push hl3 _) _
  wp_walk using Jrv e1,Jrv e2,Jrv e3
  exact ⟨_,rfl,h⟩
theorem Jpk (a b c : Value) : checkTypeCall "zip" ⟨[a,b,c],[]⟩ = pure ():=by kernel_rfl
theorem Jpo (a b c : Value) : checkBuiltinCall "zip.__new__" ⟨[.type "zip",a,b,c],[]⟩ = pure ():=by kernel_rfl
end L2
namespace L2
open PySem PySem.Spec PyProof.Rows PySem.W
theorem Jrm (a b c d : Value) : argsOk "object.__init__" ⟨[a,b,c,d],[]⟩:=by
 unfold argsOk; rw [signature?_of (id := "object.__init__") (n:=['_', '_', 't', 'i', 'n', 'i', '_', '_']) (o:=['t', 'c', 'e', 'j', 'b', 'o']) (by kernel_rfl) F.owner_object]; kernel_rfl
section
variable {prog : Program} {w : World} {A : Around} {E : Value → Shared → Prop} {s : Shared}
theorem Juc {l1 l2 l3 : Addr} {b1 b2 b3 : Bool} {xs ys us : Array Value} {Q : Value → Shared → Prop} (h1 : IsB s.heap l1 b1 xs) (h2 : IsB s.heap l2 b2 ys) (h3 : IsB s.heap l3 b3 us)
  (h : ∀ h', IsZip h' (s.heap.objs.size + 5) (s.heap.objs.size + 3) (s.heap.objs.size + 4) .none → Jk1 h' (s.heap.objs.size + 3) (.ref s.heap.objs.size) (.ref (s.heap.objs.size + 1)) (.ref (s.heap.objs.size + 2)) →
   Jk1 h' (s.heap.objs.size + 4) .none .none .none → IS s.heap.objs.size l1 b1 0 h' → IS (s.heap.objs.size + 1) l2 b2 0 h' → IS (s.heap.objs.size + 2) l3 b3 0 h' →
   (∀ c o,s.heap.get? c = some o → h'.get? c = some o) → Q (.ref (s.heap.objs.size + 5)) { s with heap:=h' }) :
  wpAny (model prog w) A (call (.type "zip") [.ref l1,.ref l2,.ref l3]) Q E s:=by
 refine callType_new F.called_zip (by decide) (Jpk _ _ _) (Jpo _ _ _) (fun obj=>Jrm obj _ _ _) F.entry_zip_new (Jx4 l1 l2 l3 b1 b2 b3 xs ys us) ⟨h1,h2,h3,?_⟩
 have z1 : (zA s.heap l1 b1).objs.size = s.heap.objs.size + 1:=Heap.size_push ..
 have z2 : (zB s.heap l1 l2 b1 b2).objs.size = s.heap.objs.size + 2:=by rw [Heap.size_push,z1]
 have z3 : (zC s.heap l1 l2 l3 b1 b2 b3).objs.size = s.heap.objs.size + 3:=by rw [Heap.size_push,z2]
 have z4 : (zD s.heap l1 l2 l3 b1 b2 b3).objs.size = s.heap.objs.size + 4:=by rw [Heap.size_push,z3]
 have z5 : (zE s.heap l1 l2 l3 b1 b2 b3).objs.size = s.heap.objs.size + 5:=by rw [Heap.size_push,z4]
 have p : ∀ {h : Heap} {c : Addr} {o q : Obj},h.get? c = some o → (h.push q).get? c = some o:=fun e=>Heap.get?_push_of_some _ e
 have g6 : (zF s.heap l1 l2 l3 b1 b2 b3).get? (zE s.heap l1 l2 l3 b1 b2 b3).objs.size = some _:=Heap.get?_push_size _ rfl
 have g5 : (zF s.heap l1 l2 l3 b1 b2 b3).get? (zD s.heap l1 l2 l3 b1 b2 b3).objs.size = some _:=p (Heap.get?_push_size _ rfl)
 have g4 : (zF s.heap l1 l2 l3 b1 b2 b3).get? (zC s.heap l1 l2 l3 b1 b2 b3).objs.size = some _:=p (p (Heap.get?_push_size _ rfl))
 have fr : ∀ (l : Addr) (b : Bool),(itO l b).isFreed = false:=fun l b=>by cases b <;> rfl
 have g3 : (zF s.heap l1 l2 l3 b1 b2 b3).get? (zB s.heap l1 l2 b1 b2).objs.size = some (itO l3 b3):=p (p (p (Heap.get?_push_size _ (fr _ _))))
 have g2 : (zF s.heap l1 l2 l3 b1 b2 b3).get? (zA s.heap l1 b1).objs.size = some (itO l2 b2):=p (p (p (p (Heap.get?_push_size _ (fr _ _)))))
 have g1 : (zF s.heap l1 l2 l3 b1 b2 b3).get? s.heap.objs.size = some (itO l1 b1):=p (p (p (p (p (Heap.get?_push_size _ (fr _ _))))))
 have is : ∀ {it l : Addr} {b : Bool} {h : Heap},h.get? it = some (itO l b) → IS it l b 0 h:=fun {it l b h} e=>by
  cases b
  ·exact ⟨_,e,rfl,rfl⟩
  ·exact ⟨_,e,rfl,rfl⟩
 show _ ∧ _
 rw [z3,z4,z5] at g6
 rw [z1,z2,z3] at g4
 rw [z4] at g5
 rw [z2] at g3
 rw [z1] at g2
 rw [z5]
 exact ⟨⟨_,g6,rfl⟩,h _ g6 g4 g5 (is g1) (is g2) (is g3) fun c o x=>p (p (p (p (p (p x)))))⟩
end
end L2
namespace L2
open PySem PySem.Spec PyProof.Rows PySem.W
section
variable {X : Cx} {pins : List (Addr × Obj)} {σ : St} {H : Hp} {s : Shared}
theorem Inv.seqB {l : Addr} {b : Bool} {xs : List V} (I : Inv X pins σ H s) (h : SqB X.K H l b xs) : ∃ its,Vals xs its ∧ IsB s.heap l b its.toArray:=by
 cases b
 ·obtain ⟨its,rv,p,_⟩:=I.list h
  exact ⟨its,rv,p.isList⟩
 ·obtain ⟨its,rv,p,_⟩:=I.tuple h
  exact ⟨its,rv,p⟩
theorem Inv.seqB_inj {l : Addr} {b : Bool} {xs ys : List V} (I : Inv X pins σ H s) (h : SqB X.K H l b xs) (h' : SqB X.K H l b ys) : xs = ys:=by
 cases b
 ·exact I.list_inj h h'
 ·exact I.tuple_inj h h'
end
def ItZ3 (K : PySem.W.Frag) (l1 l2 l3 : Addr) (b1 b2 b3 : Bool) : It :=
 ⟨fun i H=>∃ xs ys us,SqB K H l1 b1 xs ∧ SqB K H l2 b2 ys ∧ SqB K H l3 b3 us ∧ xs.length = ys.length ∧ xs.length = us.length ∧ i < xs.length,
  fun i H x H'=>∃ T p q r,H T = none ∧ x = .ref T ∧ (∀ xs,SqB K H l1 b1 xs → xs[i]? = some p) ∧ (∀ ys,SqB K H l2 b2 ys → ys[i]? = some q) ∧ (∀ us,SqB K H l3 b3 us → us[i]? = some r) ∧ H' = upd H T (.tup [p,q,r]),
  fun i H=>∃ xs ys us,SqB K H l1 b1 xs ∧ SqB K H l2 b2 ys ∧ SqB K H l3 b3 us ∧ xs.length = ys.length ∧ xs.length = us.length ∧ i = xs.length⟩
def Z3T (z TI TO i1 i2 i3 l1 l2 l3 : Addr) (b1 b2 b3 : Bool) (i : Nat) (h : Heap) : Prop:=IsZip h z TI TO .none ∧ Jk1 h TI (.ref i1) (.ref i2) (.ref i3) ∧ (∃ a b c,Jk1 h TO a b c) ∧ IS i1 l1 b1 i h ∧ IS i2 l2 b2 i h ∧ IS i3 l3 b3 i h
theorem Z3T.obj {z TI TO i1 i2 i3 l1 l2 l3 : Addr} {b1 b2 b3 : Bool} {i : Nat} {h : Heap} (st : Z3T z TI TO i1 i2 i3 l1 l2 l3 b1 b2 b3 i h) : ∀ b ∈ [z,TI,TO,i1,i2,i3],∃ o,h.get? b = some o ∧ ∀ v,o.data ≠ .cell v:=fun b hb=>by
 obtain ⟨h1,h2,⟨x,y,u,h3⟩,h4,h5,h6⟩:=st
 simp only [List.mem_cons,List.not_mem_nil,or_false] at hb
 rcases hb with rfl | rfl | rfl | rfl | rfl | rfl
 ·exact ⟨_,h1,fun v z=>by cases z⟩
 ·exact ⟨_,h2,fun v z=>by cases z⟩
 ·exact ⟨_,h3,fun v z=>by cases z⟩
 ·exact h4.obj
 ·exact h5.obj
 ·exact h6.obj
theorem Z3.ne {z TI TO i1 i2 i3 l1 l2 l3 : Addr} (Z : Z3 z TI TO i1 i2 i3 l1 l2 l3) : l1 ≠ i1 ∧ l2 ≠ i2 ∧ l3 ≠ i3:=by
 obtain ⟨_,m1,m2,m3⟩:=Z
 simp only [List.mem_cons,List.not_mem_nil,or_false,not_or] at m1 m2 m3
 exact ⟨m1.2.2.2.1,m2.2.2.2.2.1,m3.2.2.2.2.2⟩
theorem Jv6 {P : Program} {w : World} {K : PySem.W.Frag} {elts : List Expr} {kt : Nat} {pt : Pos} (z TI TO i1 i2 i3 l1 l2 l3 : Addr) (b1 b2 b3 : Bool) (Z : Z3 z TI TO i1 i2 i3 l1 l2 l3) :
  Jpm P w K (.Tuple elts kt pt) (ItZ3 K l1 l2 l3 b1 b2 b3) [z,TI,TO,i1,i2,i3] z (Z3T z TI TO i1 i2 i3 l1 l2 l3 b1 b2 b3) where
 mem:=by simp
 obj:=fun i h st=>st.obj
 keep:=fun i h h' st k=>by
  obtain ⟨h1,h2,⟨a,c,d,h3⟩,h4,h5,h6⟩:=st
  exact ⟨k z (by simp) _ h1,k TI (by simp) _ h2,⟨a,c,d,k TO (by simp) _ h3⟩,h4.at fun o e=>k i1 (by simp) o e,h5.at fun o e=>k i2 (by simp) o e,h6.at fun o e=>k i3 (by simp) o e⟩
 item:=by
  intro X hP hw hK hc i pins s σ H E I hf st hg
  subst hP hw hK
  obtain ⟨xs,ys,us,q1,q2,q3,e12,e13,hi⟩:=hg
  obtain ⟨its,rv,p1⟩:=I.seqB q1
  obtain ⟨jts,rv2,p2⟩:=I.seqB q2
  obtain ⟨kts,rv3,p3⟩:=I.seqB q3
  have a1:=rv.length
  have a2:=rv2.length
  have a3:=rv3.length
  obtain ⟨n1,n2,n3⟩:=Z.ne
  have D1:=drA (prog:=X.prog) (w:=X.w) b1 n1 its.toArray
  have D2:=drA (prog:=X.prog) (w:=X.w) b2 n2 jts.toArray
  have D3:=drA (prog:=X.prog) (w:=X.w) b3 n3 kts.toArray
  rw [show jts.toArray.size = its.toArray.size by simp only [List.size_toArray]; omega] at D2
  rw [show kts.toArray.size = its.toArray.size by simp only [List.size_toArray]; omega] at D3
  have W:=Jwu (I.ok.hd hc) Z D1 D2 D3
  have st0:=st
  obtain ⟨s1,s2,s3,s4,s5,s6⟩:=st
  refine W.item i s _ _ (by simp only [List.size_toArray]; omega) ⟨s1,s2,s3,⟨s4,p1⟩,⟨s5,p2⟩,⟨s6,p3⟩⟩ fun T vals h' tk hP fT tT mid kk=>?_
  refine ⟨_,rfl,W.go elts kt pt i T _ _ _ mid fun h'' st'' kk2=>?_⟩
  obtain ⟨x,y,u,hx,hy,hu,rfl⟩:=hP
  obtain ⟨u1,hu1,r1⟩:=rv.get (i:=i) (x:=xs[i]) (List.getElem?_eq_getElem hi)
  obtain ⟨u2,hu2,r2⟩:=rv2.get (i:=i) (x:=ys[i]'(by omega)) (List.getElem?_eq_getElem (by omega))
  obtain ⟨u3,hu3,r3⟩:=rv3.get (i:=i) (x:=us[i]'(by omega)) (List.getElem?_eq_getElem (by omega))
  obtain rfl : x = u1:=by simpa [hu1] using hx.symm
  obtain rfl : y = u2:=by simpa [hu2] using hy.symm
  obtain rfl : u = u3:=by simpa [hu3] using hu.symm
  obtain ⟨t1,t2,t3,t4,t5,t6⟩:=st''
  have kT : h''.IsTuple T #[x,y,u]:=by
   obtain ⟨o,q,r⟩:=tT
   exact ⟨o,kk2 T o (W.apart i T h' mid) q,r⟩
  have cht : ∀ c,c ∈ [z,TO,i1,i2,i3] → c ∈ [z,TI,TO,i1,i2,i3]:=fun c hc=>by simp at hc ⊢; rcases hc with rfl | rfl | rfl | rfl | rfl <;> simp
  refine ⟨.ref T,upd H T (.tup [xs[i],ys[i]'(by omega),us[i]'(by omega)]),I.turnTup (ch:=[z,TO,i1,i2,i3]) (t':=tk) (fun c hc=>hf c (cht c hc)) (fun c o hc e=>kk2 c o hc (kk c o hc e)) fT ⟨(show 3 ≤ sizeLine by decide),[x,y,u],.cons r1 (.cons r2 (.cons r3 .nil)),kT⟩,rfl,
   ⟨T,_,_,_,I.hok.fresh fT,rfl,fun xs' hq=>by rw [I.seqB_inj hq q1]; exact List.getElem?_eq_getElem hi,fun ys' hq=>by rw [I.seqB_inj hq q2]; exact List.getElem?_eq_getElem (by omega),fun us' hq=>by rw [I.seqB_inj hq q3]; exact List.getElem?_eq_getElem (by omega),rfl⟩,⟨t1,t2,t3,t4.1,t5.1,t6.1⟩,fun c hc=>?_⟩
  have hcn:=(hf c hc).1
  rw [Ji9 (fun w'=>?_)]
  ·exact hcn
  ·subst w'
   obtain ⟨o,e,_⟩:=Z3T.obj st0 c hc
   exact absurd (Heap.lt_size e) (Nat.not_lt.mpr fT)
 done:=by
  intro X hP hw hK hc i pins s σ H E I hf st hg
  subst hP hw hK
  obtain ⟨xs,ys,us,q1,q2,q3,e12,e13,hi⟩:=hg
  obtain ⟨its,rv,p1⟩:=I.seqB q1
  obtain ⟨jts,rv2,p2⟩:=I.seqB q2
  obtain ⟨kts,rv3,p3⟩:=I.seqB q3
  have a1:=rv.length
  have a2:=rv2.length
  have a3:=rv3.length
  obtain ⟨n1,n2,n3⟩:=Z.ne
  have D1:=drA (prog:=X.prog) (w:=X.w) b1 n1 its.toArray
  have D2:=drA (prog:=X.prog) (w:=X.w) b2 n2 jts.toArray
  have D3:=drA (prog:=X.prog) (w:=X.w) b3 n3 kts.toArray
  rw [show jts.toArray.size = its.toArray.size by simp only [List.size_toArray]; omega] at D2
  rw [show kts.toArray.size = its.toArray.size by simp only [List.size_toArray]; omega] at D3
  have W:=Jwu (I.ok.hd hc) Z D1 D2 D3
  obtain ⟨s1,s2,s3,s4,s5,s6⟩:=st
  have ei : i = its.toArray.size:=by simp only [List.size_toArray]; omega
  subst ei
  refine W.done s _ _ ⟨s1,s2,s3,⟨s4,p1⟩,⟨s5,p2⟩,⟨s6,p3⟩⟩ fun h' tk kk=>⟨rfl,?_⟩
  exact I.turnMany (ch:=[z,TO,i1,i2,i3]) (fun c hc=>hf c (by simp at hc ⊢; rcases hc with rfl | rfl | rfl | rfl | rfl <;> simp)) fun c o hc e=>kk c o hc e
 self:=fun _ _ _ _ _ st h=>wpAny_pyIter_zip st.1 h
def iZip3 (K : PySem.W.Frag) (b1 b2 b3 : Bool) (ta : TA) : TI:=fun σ H R=>ta σ H fun vs H1=>∃ a b c,vs = [.ref a,.ref b,.ref c] ∧ (∃ xs,SqB K H1 a b1 xs) ∧ (∃ ys,SqB K H1 b b2 ys) ∧ (∃ us,SqB K H1 c b3 us) ∧ R (ItZ3 K a b c b1 b2 b3) H1
theorem Jxn {X : Cx} {elts : List Expr} {kt : Nat} {pt : Pos} {a b c : Expr} {ta : TA} {p pos : Pos} (b1 b2 b3 : Bool) (hg : Gl X "zip") (hm : X.mg "zip" = none) (ha : PA X [a,b,c] ta) (hs : starEach [a,b,c] X.env = [(false,eval a X.env),(false,eval b X.env),(false,eval c X.env)]:=by rfl) (hs2 : starEach [b,c] X.env = [(false,eval b X.env),(false,eval c X.env)]:=by rfl) :
  PI X (.Tuple elts kt pt) (.Call (.Name "zip" p) [a,b,c] [] pos) (iZip3 X.K b1 b2 b3 ta):=by
 intro pins s σ H R I h
 refine Call_ (Jlx I hg hm Jvd (PyProof.Rows.callWith_type1 (thn (ha pos pins s σ H _ I h) fun us s1 ⟨vs,H1,I1,r1,q1⟩=>?_) (by rw [hs,hs2]) (by rw [hs2]; rfl)))
 obtain ⟨l1,l2,l3,rfl,⟨xs,q1⟩,⟨ys,q2⟩,⟨zs,q3⟩,q⟩:=q1
 obtain ⟨u,v,y,rfl,r1,r2,r3⟩ : ∃ u v y,us = [u,v,y] ∧ RelV (.ref l1) u ∧ RelV (.ref l2) v ∧ RelV (.ref l3) y:=by
  cases r1 with
  | cons a1 t1 =>
   cases t1 with
   | cons a2 t2 =>
    cases t2 with
    | cons a3 t3 =>
     cases t3
     exact ⟨_,_,_,rfl,a1,a2,a3⟩
 obtain rfl : u = Value.ref l1:=r1
 obtain rfl : v = Value.ref l2:=r2
 obtain rfl : y = Value.ref l3:=r3
 obtain ⟨its,rv,p1⟩:=I1.seqB q1
 obtain ⟨jts,rv2,p2⟩:=I1.seqB q2
 obtain ⟨kts,rv3,p3⟩:=I1.seqB q3
 have a1:=p1.lt
 have a2:=p2.lt
 have a3:=p3.lt
 refine Juc p1 p2 p3 fun h' z1 z2 z3 z4 z5 z6 kk=>?_
 have I2 : Inv X pins σ H1 { s1 with heap:=h' }:=I1.kept (t':=s1.toks) kk
 have ap : Z3 (s1.heap.objs.size + 5) (s1.heap.objs.size + 3) (s1.heap.objs.size + 4) s1.heap.objs.size (s1.heap.objs.size + 1) (s1.heap.objs.size + 2) l1 l2 l3:=by
  generalize hN : s1.heap.objs.size = N at *
  have big : ∀ l : Addr,l < N → l ∉ [N + 5,N + 3,N + 4,N,N + 1,N + 2]:=fun l hl hm=>by
   simp only [List.mem_cons,List.not_mem_nil,or_false] at hm
   have le : N ≤ l:=by rcases hm with rfl | rfl | rfl | rfl | rfl | rfl <;> first | exact Nat.le_refl _ | exact Nat.le_add_right _ _
   exact Nat.not_lt.mpr le hl
  exact ⟨by simp,big _ a1,big _ a2,big _ a3⟩
 refine wpAny_pyIter_zip z1 ⟨_,_,_,_,H1,rfl,I2,Jv6 _ _ _ _ _ _ l1 l2 l3 b1 b2 b3 ap,⟨z1,z2,⟨_,_,_,z3⟩,z4,z5,z6⟩,fun d hd=>?_,q⟩
 have hd' : s1.heap.objs.size ≤ d:=by
  simp only [List.mem_cons,List.not_mem_nil,or_false] at hd
  rcases hd with rfl | rfl | rfl | rfl | rfl | rfl <;> omega
 exact I1.fpOk hd' (I1.hok.fresh hd')
section
variable {K : PySem.W.Frag} {g : TG} {σ : St} {H : Hp}
theorem Jue {l1 l2 l3 D : Addr} {b1 b2 b3 : Bool} {xs ys us : List V} {tt : TT} {te : TE} {R : Hp → Prop} (Pv : Nat → St → Hp → Prop) (h0 : Pv 0 σ H) (hl : ∀ i σ H,i ≤ xs.length → Pv i σ H → SqB K H l1 b1 xs ∧ SqB K H l2 b2 ys ∧ SqB K H l3 b3 us) (e1 : xs.length = ys.length) (e2 : xs.length = us.length)
  (hs : ∀ i x y u σ H T,xs[i]? = some x → ys[i]? = some y → us[i]? = some u → Pv i σ H → H T = none → g (.ref T) σ (upd H T (.tup [x,y,u])) fun σ3 H3=>tt σ3 H3 fun b H4=>if b = true then te σ3 H4 (fun v H5=>∃ vs,H5 D = some (.lst vs) ∧ vs.length < sizeLine ∧ Pv (i + 1) σ3 (upd H5 D (.lst (vs ++ [v])))) else Pv (i + 1) σ3 H4)
  (hd : ∀ σ H,Pv xs.length σ H → R H) :
  ∃ W : Nat → Nat → St → Hp → Prop,(∃ m,W 0 m σ H) ∧ ∀ i m σ' H', W i m σ' H' → ((ItZ3 K l1 l2 l3 b1 b2 b3).stop i H' ∧ R H') ∨ ((ItZ3 K l1 l2 l3 b1 b2 b3).go i H' ∧ ∃ N : St → Hp → Prop,(∀ σ2 H2,N σ2 H2 → ∃ m', m' < m ∧ W (i + 1) m' σ2 H2) ∧
   ∀ x H2,(ItZ3 K l1 l2 l3 b1 b2 b3).yld i H' x H2 → g x σ' H2 fun σ3 H3=>tt σ3 H3 fun b H4=>if b = true then te σ3 H4 (fun v H5=>∃ vs,H5 D = some (.lst vs) ∧ vs.length < sizeLine ∧ N σ3 (upd H5 D (.lst (vs ++ [v])))) else N σ3 H4):=by
 refine ⟨fun i m σ H=>m = xs.length - i ∧ i ≤ xs.length ∧ Pv i σ H,⟨xs.length,by simp,Nat.zero_le _,h0⟩,?_⟩
 rintro i m σ H ⟨rfl,hi,p⟩
 obtain ⟨q1,q2,q3⟩:=hl i σ H hi p
 by_cases hlt : i < xs.length
 ·refine .inr ⟨⟨xs,ys,us,q1,q2,q3,e1,e2,hlt⟩,Pv (i + 1),fun σ' H' p'=>⟨xs.length - (i + 1),by omega,rfl,hlt,p'⟩,fun x H' y=>?_⟩
  obtain ⟨T,u,v,w', hT,rfl,hu,hv,hw,rfl⟩:=y
  exact hs i u v w' σ _ T (hu xs q1) (hv ys q2) (hw us q3) p hT
 ·have e : i = xs.length:=by omega
  subst e
  exact .inl ⟨⟨xs,ys,us,q1,q2,q3,e1,e2,rfl⟩,hd σ H p⟩
theorem Jx8 {a : Addr} {xs : List V} {tb : TS} {D : Ends} (Pv : Nat → St → Hp → Prop) (h0 : Pv 0 σ H) (hl : ∀ i σ H,i ≤ xs.length → Pv i σ H → SqL K H a xs)
  (hs : ∀ i x σ H T,xs[i]? = some x → Pv i σ H → H T = none → g (.ref T) σ (upd H T (.tup [.int i,x])) fun σ2 H2=>tb { D with nx:=Pv (i + 1),ct:=Pv (i + 1),bk:=D.nx } σ2 H2) (hd : ∀ σ H,Pv xs.length σ H → D.nx σ H) :
  ∃ W : Nat → Nat → St → Hp → Prop,(∃ m,W 0 m σ H) ∧ ∀ i m σ H,W i m σ H →
   ((ItE K a).stop i H ∧ D.nx σ H) ∨ ((ItE K a).go i H ∧ ∃ N : St → Hp → Prop,(∀ σ' H', N σ' H' → ∃ m', m' < m ∧ W (i + 1) m' σ' H') ∧ ∀ x H', (ItE K a).yld i H x H' → g x σ H' fun σ2 H2=>tb { D with nx:=N,ct:=N,bk:=D.nx } σ2 H2):=by
 refine ⟨fun i m σ H=>m = xs.length - i ∧ i ≤ xs.length ∧ Pv i σ H,⟨xs.length,by simp,Nat.zero_le _,h0⟩,?_⟩
 rintro i m σ H ⟨rfl,hi,p⟩
 have q:=hl i σ H hi p
 by_cases hlt : i < xs.length
 ·refine .inr ⟨⟨xs,xs[i],q,by simp [hlt]⟩,Pv (i + 1),fun σ' H' p'=>⟨xs.length - (i + 1),by omega,rfl,hlt,p'⟩,fun x H' y=>?_⟩
  obtain ⟨T,u,hT,rfl,hu,rfl⟩:=y
  exact hs i u σ _ T (hu xs q) p hT
 ·have e : i = xs.length:=by omega
  subst e
  exact .inl ⟨⟨xs,q,rfl⟩,hd σ H p⟩
end
end L2
namespace L2
open PySem PySem.Spec PyProof.Rows PySem.W
section
variable {X : Cx}
theorem Jt2 {K : PySem.W.Frag} (h : X.K = K) : OpR X (compareOp .In) (rIn K false):=by subst h; exact Jup
theorem Jkx {K : PySem.W.Frag} {e : Expr} {f : Str} {ta : TE} {pos : Pos} (h : X.K = K) (he : PE X e ta) (hb : attributeBase e f X.env (eval e X.env) = eval e X.env) : PE X (.Attribute e f pos) (tFld K ta f):=by subst h; exact Jk0 he hb
end
end L2
namespace L2
open PySem PySem.Spec PyProof.Rows PySem.W
section
variable {X : Cx} {pos : Pos}
theorem Jtz {K : PySem.W.Frag} {es : List Expr} {k : Nat} {t : TGs} {n : Nat} (h1 : X.K = K) (hc : X.calm = true) (h : PGs X es t)
  (hn : (assignEach es X.env).length = n:=by rfl) (hst : (assignEach es X.env).findIdx? (·.1) = none:=by rfl) : PG X (.Tuple es k pos) (gTup K n t):=by
 subst h1
 exact Jn3 hc h hn hst
end
section
variable {g : TG} {tt : TT} {te : TE} {H : Hp} {D : Addr} {σ : St} {R : Hp → Prop}
theorem Jvf {K : PySem.W.Frag} {a : Addr} {xs : List V} (Pv : Nat → St → Hp → Prop) (h0 : Pv 0 σ H) (hl : ∀ i σ H,i ≤ xs.length → Pv i σ H → SqT K H a xs)
  (hs : ∀ i x σ H,xs[i]? = some x → Pv i σ H → g x σ H fun σ3 H3=>tt σ3 H3 fun b H4=>if b = true then te σ3 H4 (fun v H5=>∃ ys,H5 D = some (.lst ys) ∧ ys.length < sizeLine ∧ Pv (i + 1) σ3 (upd H5 D (.lst (ys ++ [v])))) else Pv (i + 1) σ3 H4)
  (hd : ∀ σ H,Pv xs.length σ H → R H) :
  ∃ W : Nat → Nat → St → Hp → Prop,(∃ m,W 0 m σ H) ∧ ∀ i m σ' H', W i m σ' H' → ((Itt K a).stop i H' ∧ R H') ∨ ((Itt K a).go i H' ∧ ∃ N : St → Hp → Prop,(∀ σ2 H2,N σ2 H2 → ∃ m', m' < m ∧ W (i + 1) m' σ2 H2) ∧
   ∀ x H2,(Itt K a).yld i H' x H2 → g x σ' H2 fun σ3 H3=>tt σ3 H3 fun b H4=>if b = true then te σ3 H4 (fun v H5=>∃ ys,H5 D = some (.lst ys) ∧ ys.length < sizeLine ∧ N σ3 (upd H5 D (.lst (ys ++ [v])))) else N σ3 H4):=by
 refine ⟨fun i m σ H=>m = xs.length - i ∧ i ≤ xs.length ∧ Pv i σ H,⟨xs.length,by simp,Nat.zero_le _,h0⟩,?_⟩
 rintro i m σ H ⟨rfl,hi,p⟩
 have q:=hl i σ H hi p
 by_cases hlt : i < xs.length
 ·refine .inr ⟨⟨xs,xs[i],q,by simp [hlt]⟩,Pv (i + 1),fun σ' H' p'=>⟨xs.length - (i + 1),by omega,rfl,hlt,p'⟩,fun x H' y=>?_⟩
  obtain ⟨e,y⟩:=y
  subst e
  exact hs i x σ _ (y xs q) p
 ·have e : i = xs.length:=by omega
  subst e
  exact .inl ⟨⟨xs,q,Nat.le_refl _⟩,hd σ H p⟩
end
theorem Jlf {K : PySem.W.Frag} {a D : Addr} {xs : List V} {te : TE} {R : Hp → Prop} {H : Hp} {o : Option V} {rest : List (Option V)} (ys : List V) (hD : H D = none) (el : ys.length = xs.length) (sz : xs.length ≤ 2000) (hq : H a = some (.lst xs))
  (he : ∀ (i : Nat) (x y : V) (H' : Hp) (Q : VK),xs[i]? = some x → ys[i]? = some y → Same H H' → (∀ H5,Same H' H5 → Q y H5) → te (some x :: rest) H' Q) (hd : ∀ H', Same H H' → H' D = some (.lst ys) → R H') :
  ∃ W : Nat → Nat → St → Hp → Prop,(∃ m,W 0 m (o :: rest) (upd H D (.lst []))) ∧ ∀ i m σ' H', W i m σ' H' → ((Itl K a).stop i H' ∧ R H') ∨ ((Itl K a).go i H' ∧ ∃ N : St → Hp → Prop,(∀ σ2 H2,N σ2 H2 → ∃ m', m' < m ∧ W (i + 1) m' σ2 H2) ∧
   ∀ x H2,(Itl K a).yld i H' x H2 → Jmq 0 x σ' H2 fun σ3 H3=>Jv4 σ3 H3 fun b H4=>if b = true then te σ3 H4 (fun v H5=>∃ ys,H5 D = some (.lst ys) ∧ ys.length < sizeLine ∧ N σ3 (upd H5 D (.lst (ys ++ [v])))) else N σ3 H4):=by
 refine Jjq (fun i σ H'=>(∃ o,σ = o :: rest) ∧ H' D = some (.lst (ys.take i)) ∧ Same H H') ⟨⟨_,rfl⟩,Ji3,Same.upd hD⟩ (fun i σ H' _ ⟨_,_,sm⟩=>SqL.of (sm _ _ hq)) ?_ ?_
 ·rintro i x σ H' hx ⟨⟨o,rfl⟩,hDs,sm⟩
  have hi : i < ys.length:=by rw [el]; exact (List.getElem?_eq_some_iff.mp hx).1
  refine Jjh (he i x ys[i] H' _ hx (List.getElem?_eq_getElem hi) sm fun H5 s5=>⟨_,s5 _ _ hDs,?_,⟨_,rfl⟩,?_,fun c u z=>?_⟩)
  ·rw [List.length_take]
   exact Jiu (by omega)
  ·rw [Ji3,List.take_add_one,List.getElem?_eq_getElem hi]
   rfl
  ·rw [Ji9 (Ji8 z hD)]
   exact s5 _ _ (sm _ _ z)
 ·rintro σ H' ⟨_,hDs,sm⟩
  rw [List.take_of_length_le (by omega)] at hDs
  exact hd H' sm hDs
theorem Jl6 {K : PySem.W.Frag} {a D : Addr} {xs : List V} {te : TE} {R : Hp → Prop} {H : Hp} {o : Option V} {rest : List (Option V)} (ys : List V) (hD : H D = none) (el : ys.length = xs.length) (sz : xs.length ≤ 2000) (hq : H a = some (.tup xs))
  (he : ∀ (i : Nat) (x y : V) (H' : Hp) (Q : VK),xs[i]? = some x → ys[i]? = some y → Same H H' → (∀ H5,Same H' H5 → Q y H5) → te (some x :: rest) H' Q) (hd : ∀ H', Same H H' → H' D = some (.lst ys) → R H') :
  ∃ W : Nat → Nat → St → Hp → Prop,(∃ m,W 0 m (o :: rest) (upd H D (.lst []))) ∧ ∀ i m σ' H', W i m σ' H' → ((Itt K a).stop i H' ∧ R H') ∨ ((Itt K a).go i H' ∧ ∃ N : St → Hp → Prop,(∀ σ2 H2,N σ2 H2 → ∃ m', m' < m ∧ W (i + 1) m' σ2 H2) ∧
   ∀ x H2,(Itt K a).yld i H' x H2 → Jmq 0 x σ' H2 fun σ3 H3=>Jv4 σ3 H3 fun b H4=>if b = true then te σ3 H4 (fun v H5=>∃ ys,H5 D = some (.lst ys) ∧ ys.length < sizeLine ∧ N σ3 (upd H5 D (.lst (ys ++ [v])))) else N σ3 H4):=by
 refine Jvf (fun i σ H'=>(∃ o,σ = o :: rest) ∧ H' D = some (.lst (ys.take i)) ∧ Same H H') ⟨⟨_,rfl⟩,Ji3,Same.upd hD⟩ (fun i σ H' _ ⟨_,_,sm⟩=>SqT.of (sm _ _ hq)) ?_ ?_
 ·rintro i x σ H' hx ⟨⟨o,rfl⟩,hDs,sm⟩
  have hi : i < ys.length:=by rw [el]; exact (List.getElem?_eq_some_iff.mp hx).1
  refine Jjh (he i x ys[i] H' _ hx (List.getElem?_eq_getElem hi) sm fun H5 s5=>⟨_,s5 _ _ hDs,?_,⟨_,rfl⟩,?_,fun c u z=>?_⟩)
  ·rw [List.length_take]
   exact Jiu (by omega)
  ·rw [Ji3,List.take_add_one,List.getElem?_eq_getElem hi]
   rfl
  ·rw [Ji9 (Ji8 z hD)]
   exact s5 _ _ (sm _ _ z)
 ·rintro σ H' ⟨_,hDs,sm⟩
  rw [List.take_of_length_le (by omega)] at hDs
  exact hd H' sm hDs
end L2
namespace L2
open PySem PySem.Spec PyProof.Rows PySem.W
section
variable {X : Cx}
theorem Jvt {K : PySem.W.Frag} (h : X.K = K) : MtR X "str.join" (rJoin K):=by subst h; exact Jxf
theorem Jwb {K : PySem.W.Frag} (h : X.K = K) : SlR X (rSlL K):=by subst h; exact Jrh
theorem pe_bmK {K : PySem.W.Frag} {o e : Expr} {es : List Expr} {to : TE} {t : TA} {name : Str} {apos cpos : Pos} {T id : String} {r : V → List V → Hp → VK → Prop} (h : X.K = K) (pa : PlainAttrs T) (slot : Slot T name id) (hty : typeOf (.builtin id) = pure (.type "method_descriptor")) (hm : MtR X id r) (ho : PE X o to) (ha : PA X (e :: es) t)
  (hbase : attributeBase o name X.env (eval o X.env) = eval o X.env:=by rfl)
  (hfew : ((backTo cpos (starEach (e :: es) X.env)).all (fun x=>!x.1) && (backToKw cpos (keywordEach [] X.env)).all (fun x=>x.1.isSome)
   && decide ((e :: es).length + ([] : List Keyword).length + (if ([] : List Keyword).isEmpty then 0 else 1) < 30)) = true:=by rfl)
  (hline : (apos.endLine == cpos.line) = true:=by rfl) (hs : starEach (e :: es) X.env = (false,eval e X.env) :: starEach es X.env:=by rfl) (hplain : (backTo cpos (starEach es X.env)).any (·.1) = false:=by rfl) :
  PE X (.Call (.Attribute o name apos) (e :: es) [] cpos) (tBM K T r to t):=by
 subst h
 exact Jo7 pa slot hty hm ho ha hbase hfew hline hs hplain
end
theorem But.new {p D : Addr} {H H' : Hp} {o : HO} (b : But p H H') (hD : H D = none) (hp : Strm H p) : But p H (upd H' D o):=by
 have ne : p ≠ D:=fun e=>by obtain ⟨_,_,_,q⟩:=hp; rw [e,hD] at q; cases q
 refine ⟨fun c u n e=>?_,?_⟩
 ·rw [Ji9 (fun z=>by subst z; rw [hD] at e; cases e)]
  exact b.1 c u n e
 ·obtain ⟨x,y,z,q⟩:=b.2
  exact ⟨x,y,z,by rw [Ji9 ne]; exact q⟩
end L2
namespace L2
open PySem PySem.Spec PyProof.Rows PySem.W
section
variable {X : Cx}
def nodeV (x : V) : Prop:=Jkj x = true ∨ ∃ a,x = .ref a
def Own (H : Hp) (x : V) : Prop:=Jkj x = true ∨ ∃ a,x = .ref a ∧ ((∃ vs,(H a = some (.lst vs) ∨ H a = some (.tup vs)) ∧ ∀ v ∈ vs,nodeV v) ∨ H a = some (.dK []) ∨ ∃ k v,H a = some (.dK [(k,v)]))
theorem Jor : ∀ n : Nat,(List.replicate n true).all id = true
 | 0=>rfl
 | n + 1=>by rw [List.replicate_succ,List.all_cons,Jor n]; rfl
theorem Jql {vs : List V} (h : ∀ v ∈ vs,nodeV v) : ∀ (i : Nat) x y b,vs[i]? = some x → vs[i]? = some y → (List.replicate vs.length true)[i]? = some b → SameOr x y b:=by
 intro i x y b e1 e2 e3
 rw [e1] at e2
 cases e2
 have : b = true:=by
  rw [List.getElem?_replicate] at e3
  split at e3
  ·exact (Option.some.inj e3).symm
  ·cases e3
 subst this
 exact SameOr.self (h x (List.mem_of_getElem? e1))
theorem op_eqO (hu : X.A.units + 64 < cLine) : OpR X (compareOp .Eq) (fun x y H Q=>x = y ∧ Own H x ∧ Q (.bl true) H):=by
 intro pins s σ H x y v u Q I rx ry h
 obtain ⟨rfl,hs,q⟩:=h
 rcases hs with h | ⟨a,rfl,⟨vs,h | h,hv⟩ | h | ⟨k,w1,h⟩⟩
 ·have z : scal x x = true:=by
   cases x with
   | non=>rfl
   | bl b=>rfl
   | int i=>rfl
   | str i=>rfl
   | _=>cases h
  exact Jmv pins s σ H x x v u Q I rx ry ⟨z,by simpa using q⟩
 ·exact op_eqL hu pins s σ H _ _ v u Q I rx ry ⟨a,a,vs,vs,List.replicate vs.length true,rfl,rfl,SqL.of h,SqL.of h,rfl,by simp,Jql hv,by rw [Jor]; exact q⟩
 ·exact op_eqT hu pins s σ H _ _ v u Q I rx ry ⟨a,a,vs,vs,List.replicate vs.length true,rfl,rfl,SqT.of h,SqT.of h,rfl,by simp,Jql hv,by rw [Jor]; exact q⟩
 ·obtain rfl : v = Value.ref a:=rx
  obtain rfl : u = Value.ref a:=ry
  obtain ⟨_,hd,vs,rv,dd⟩:=Jvi I.hok h
  obtain rfl : vs = []:=by cases rv; rfl
  exact keq_eq (r:=true) hd hd dd dd (by omega) (fun _=>.nil) ⟨.bl true,H,I,rfl,q⟩
 ·obtain rfl : v = Value.ref a:=rx
  obtain rfl : u = Value.ref a:=ry
  obtain ⟨_,hd,vs,rv,dd⟩:=Jvi I.hok h
  obtain ⟨w', rfl⟩ : ∃ w', vs = [(k,w')]:=by
   cases rv with
   | @cons p q ps qs h t =>
    cases t
    obtain ⟨q1,q2⟩:=q
    exact ⟨q2,by rw [show q1 = k from h.1.symm]⟩
  refine keq_eq (r:=true && true) hd hd dd dd (by omega) (fun _=>.hit (y:=w') (by simp [valueAt]) (SeqAt.EqAt.same _) .nil) ⟨.bl true,H,I,rfl,q⟩
end
end L2
namespace L2
open PySem PySem.Spec PyProof.Rows PySem.W
end L2
namespace L2
open PySem PySem.Spec PyProof.Rows PySem.W
end L2
namespace L2
open PySem PySem.Spec PyProof.Rows PySem.W
structure Z4 (z TI TO i1 i2 i3 i4 l1 l2 l3 l4 : Addr) : Prop where
 nd : [z,TI,TO,i1,i2,i3,i4].Nodup
 m1 : l1 ∉ [z,TI,TO,i1,i2,i3,i4]
 m2 : l2 ∉ [z,TI,TO,i1,i2,i3,i4]
 m3 : l3 ∉ [z,TI,TO,i1,i2,i3,i4]
 m4 : l4 ∉ [z,TI,TO,i1,i2,i3,i4]
section
variable {prog : Program} {w : World} {A : Around} {E : Value → Shared → Prop} {s : Shared}
variable {z TI TO i1 i2 i3 i4 l1 l2 l3 l4 : Addr} {n k : Nat} {P1 P2 P3 P4 : Nat → Value → Prop} {S1 S2 S3 S4 : Nat → Heap → Prop} {a b c d0 : Value}
end
section
variable {prog : Program} {w : World} {z TI TO i1 i2 i3 i4 l1 l2 l3 l4 : Addr} {n : Nat} {P1 P2 P3 P4 : Nat → Value → Prop} {S1 S2 S3 S4 : Nat → Heap → Prop}
end
end L2
namespace L2
open PySem PySem.Spec PyProof.Rows PySem.W
section
variable {prog : Program} {w : World} {A : Around} {E : Value → Shared → Prop} {s : Shared}
end
section
variable {K : PySem.W.Frag} {g : TG} {σ : St} {H : Hp}
end
end L2
namespace L2
open PySem PySem.Spec PyProof.Rows PySem.W
end L2
namespace L2
open PySem PySem.Spec PyProof.Rows PySem.W
end L2
namespace L2
open PySem PySem.Spec PyProof.Rows PySem.W
section
variable {X : Cx}
end
end L2
namespace L2
open PySem PySem.Spec PyProof.Rows PySem.W
section
variable {X : Cx}
end
end L2
namespace L2
open PySem PySem.Spec PyProof.Rows PySem.W
theorem ft_mk {K : PySem.W.Frag} {h : Heap} {mg : Str → Option Value} (X : K.In h) (G : h.Ns mainGlobals mg) {q : Str} {st : Stmt} {ps : List Str} {f : Addr} {od an : Option Addr} {sl : Array (Option Value)} {oc kV dc pm cd ct : Value} (a : PySem.W.nsIn K mainGlobals q = some (some (.ref f)))
  (l : K.lookup f = some ⟨oc,od,.func (PySem.W.fnOf q q (Jj2 st) (Jiv st) (Ji6 st) .none kV dc pm an cd ct),sl⟩) (c : PySem.W.codeIn K cd q = true) (k : PySem.W.keepIn K (.ref f) = true)
  (hb : ∀ (kV doc pm : Value) (an : Option Addr) (cdv ct : Value) (us : List Value),us.length = ps.length → bindArgs (PySem.W.fnOf q q (Jj2 st) (Jiv st) (Ji6 st) .none kV doc pm an cdv ct) ⟨us,[]⟩ = pure (ps.zip us)) : FT K mg q st ps f (PySem.W.fnOf q q (Jj2 st) (Jiv st) (Ji6 st) .none kV dc pm an cd ct) :=
 ⟨PySem.W.mg_of X G a,Jr0 (st:=st) l c k,(Jr0 (st:=st) l c k).binds hb⟩
theorem fm_mk {K : PySem.W.Frag} {n q : Str} {st : Stmt} {ps : List Str} {f : Addr} {od an : Option Addr} {sl : Array (Option Value)} {oc kV dc pm cd ct : Value}
  (l : K.lookup f = some ⟨oc,od,.func (PySem.W.fnOf n q (Jj2 st) (Jiv st) (Ji6 st) .none kV dc pm an cd ct),sl⟩) (c : PySem.W.codeIn K cd q = true) (k : PySem.W.keepIn K (.ref f) = true)
  (hb : ∀ (kV doc pm : Value) (an : Option Addr) (cdv ct : Value) (us : List Value),us.length = ps.length → bindArgs (PySem.W.fnOf n q (Jj2 st) (Jiv st) (Ji6 st) .none kV doc pm an cdv ct) ⟨us,[]⟩ = pure (ps.zip us)) : FM K n q st ps f (PySem.W.fnOf n q (Jj2 st) (Jiv st) (Ji6 st) .none kV dc pm an cd ct) :=
 ⟨Jr0 (st:=st) l c k,(Jr0 (st:=st) l c k).binds hb⟩
theorem xc_mk {K : PySem.W.Frag} {C W fI : Addr} {nm q : Str} {N : Addr} {bs : List Value} {sn : List Str} {sub : List Value} {ab : Bool} {col : Option Bool} {dd : Option Addr} {u v w x y : Option Value}
  (l : K.lookup C = some (excClassObj nm q C N bs (.ref W :: VEm) true sn sub ab col dd u v w x y "ValueError.__new__")) (t : PySem.W.tailIn K VEm (.ref W :: VEm) = true) (a : xcB K C fI = true) : XCls K C W fI:=⟨⟨_,_,_,_,_,_,_,_,_,_,_,_,_,_,l⟩,t,a⟩
theorem ec_mk {K : PySem.W.Frag} {C : Addr} {dd : Option Addr} {cl : ClassData} {s : Array (Option Value)} (l : K.lookup C = some ⟨.type "type",dd,.cls cl,s⟩) (m : PySem.W.mroIn K C (.type "BaseException") = some true) : ECls K C:=⟨⟨_,_,_,l⟩,m⟩
end L2
namespace L2
open PySem PySem.Spec PyProof.Rows PySem.W
section
variable {K : PySem.W.Frag} {g : TG} {σ : St} {H : Hp}
end
end L2
namespace L2
open PySem PySem.Spec PyProof.Rows PySem.W
abbrev Jk6 (h : Heap) (T : Addr) (a b : Value) : Prop:=h.get? T = some { cls:=.type "tuple",data:=.seq #[a,b] }
structure Z2 (z TI TO i1 i2 l1 l2 : Addr) : Prop where
 nd : [z,TI,TO,i1,i2].Nodup
 m1 : l1 ∉ [z,TI,TO,i1,i2]
 m2 : l2 ∉ [z,TI,TO,i1,i2]
section
variable {prog : Program} {w : World} {A : Around} {E : Value → Shared → Prop} {s : Shared}
theorem Jws {T : Addr} {a b x : Value} {k : Nat} {Q : Unit → Shared → Prop} (hT : Jk6 s.heap T a b)
  (h : ∀ h', h'.get? T = some { cls:=.type "tuple",data:=.seq ((#[a,b] : Array Value).setIfInBounds k x) } → Heap.SameBut T s.heap h' → Q () { s with heap:=h' }) : wpAny (model prog w) A (updateSeq T (·.setIfInBounds k x)) Q E s:=by
 refine wpAny_updateSeq hT rfl (h _ ?_ (Heap.SameBut.update ..))
 rw [Heap.get?_update_self _ hT rfl]
 simp [Obj.mapSeq]
variable {z TI TO i1 i2 l1 l2 : Addr} {n k : Nat} {P1 P2 : Nat → Value → Prop} {S1 S2 : Nat → Heap → Prop} {a b : Value}
theorem Jyc {Q : Value → Shared → Prop} (Z : Z2 z TI TO i1 i2 l1 l2) (hz : IsZip s.heap z TI TO .none) (hTI : Jk6 s.heap TI (.ref i1) (.ref i2)) (hTO : Jk6 s.heap TO a b)
  (hh : A.handled = none) (D1 : DrA prog w i1 l1 n P1 S1) (D2 : DrA prog w i2 l2 n P2 S2) (hk : k < n) (t1 : S1 k s.heap) (t2 : S2 k s.heap)
  (hQ : ∀ x y h' tk,P1 k x → P2 k y → IsZip h' z TI TO (rawInt s.heap.objs.size) → Jk6 h' TO x y → S1 (k + 1) h' → S2 (k + 1) h' → Jk6 h' s.heap.objs.size x y →
   (∀ d o,d ≠ z → d ≠ TO → d ≠ i1 → d ≠ i2 → s.heap.get? d = some o → h'.get? d = some o) → Q (.ref s.heap.objs.size) { s with heap:=h', toks:=tk }) :
  wpAny (model prog w) A (Builtin.«zip.__next__» ⟨[.ref z],[]⟩) (fun fin s'=>∃ v,fin = .done (.ret v) ∧ Q v s') E s:=by
 obtain ⟨nd,m1,m2⟩:=Z
 simp only [List.nodup_cons,List.mem_cons,List.not_mem_nil,or_false,not_or,List.nodup_nil,and_true,not_false_eq_true] at nd m1 m2
 obtain ⟨⟨zTI,zTO,z1,z2⟩,⟨TITO,TI1,TI2⟩,⟨TO1,TO2⟩,n12⟩:=nd
 obtain ⟨l1z,l1TI,l1TO,l11,l12⟩:=m1
 obtain ⟨l2z,l2TI,l2TO,l21,l22⟩:=m2
 have fr : ∀ {S : Nat → Heap → Prop} {P : Nat → Value → Prop} {i l b : Addr} {m : Nat} {h h' : Heap},DrA prog w i l n P S → i ≠ b → l ≠ b → Heap.SameBut b h h' → S m h → S m h':=fun D e1 e2 sb st =>
  (D A hh).frame _ _ _ st fun d hd o e=>by
   simp only [List.mem_cons,List.not_mem_nil,or_false] at hd
   rcases hd with rfl | rfl
   ·exact sb.extBut _ _ e1 e
   ·exact sb.extBut _ _ e2 e
 show wpAny _ _ (field (.ref z) 2 >>= _) _ _ _
 refine wpAny_bind (wpAny_field hz rfl (x:=.bool false) rfl ?_)
 refine wpAny_bind (m:=field (.ref z) 3) (wpAny_field hz rfl (x:=.ref TI) rfl ?_)
 refine wpAny_bind (wpAny_seqItems hTI rfl ?_)
 refine wpAny_bind (m:=Builtin.SmallTypes.ownedTupleIsFree (.ref z)) ?_
 unfold Builtin.SmallTypes.ownedTupleIsFree
 refine wpAny_bind (wpAny_field hz rfl (x:=.none) rfl (wpAny_pure ?_))
 simp only [if_true]
 refine wpAny_bind (wpAny_rule (wpAny_bind (wpAny_field hz rfl (x:=.ref TO) rfl (wpAny_bind (wpAny_setField_rec hz (by simp) fun h1 hz1 s1=>?_)))))
 replace hz1 : IsZip h1 z TI TO .ellipsis:=hz1
 refine wpAny_bind ?_
 simp only [List.zipIdx_cons,List.zipIdx_nil,List.forIn_cons,List.forIn_nil]
 refine wpAny_bind (wpAny_bind (wpAny_onRaise ?_))
 refine wpAny_bind (m:=Builtin.SmallTypes.nextOf (.ref i1)) ((D1 A hh).item k _ _ _ hk (fr D1 (Ne.symm z1) l1z s1 t1) fun x h2 k2 px u1 s2=>wpAny_pure ?_)
 have o2 : Jk6 h2 TO a b:=s2.extBut _ _ TO1 (s1.extBut _ _ (Ne.symm zTO) hTO)
 refine wpAny_bind (wpAny_seqItems o2 rfl (wpAny_bind (Jws o2 fun h3 o3 s3=>wpAny_bind (wpAny_letGo (wpAny_pure ?_)))))
 replace o3 : Jk6 h3 TO x b:=o3
 refine wpAny_bind (wpAny_bind (wpAny_onRaise ?_))
 refine wpAny_bind (m:=Builtin.SmallTypes.nextOf (.ref i2)) ((D2 A hh).item k _ _ _ hk (fr D2 (Ne.symm TO2) l2TO s3 (fr D2 (Ne.symm n12) l21 s2 (fr D2 (Ne.symm z2) l2z s1 t2))) fun y h4 k4 py u2 s4=>wpAny_pure ?_)
 have o4 : Jk6 h4 TO x b:=s4.extBut _ _ TO2 o3
 refine wpAny_bind (wpAny_seqItems o4 rfl (wpAny_bind (Jws o4 fun h5 o5 s5=>wpAny_bind (wpAny_letGo (wpAny_pure (wpAny_pure ?_))))))
 replace o5 : Jk6 h5 TO x y:=o5
 refine wpAny_bind (wpAny_seqItems o5 rfl (wpAny_bind (wpAny_newTuple ?_)))
 have sz : h5.objs.size = s.heap.objs.size:=by rw [s5.1,s4.1,s3.1,s2.1,s1.1]
 have zz : IsZip h5 z TI TO .ellipsis:=s5.extBut _ _ zTO (s4.extBut _ _ z2 (s3.extBut _ _ zTO (s2.extBut _ _ z1 hz1)))
 have kk : ∀ d o,d ≠ z → d ≠ TO → d ≠ i1 → d ≠ i2 → s.heap.get? d = some o → h5.get? d = some o:=fun d o c1 c2 c3 c4 e =>
  s5.extBut _ _ c2 (s4.extBut _ _ c4 (s3.extBut _ _ c2 (s2.extBut _ _ c3 (s1.extBut _ _ c1 e))))
 have w1 : S1 (k + 1) h5:=fr D1 (Ne.symm TO1) l1TO s5 (fr D1 n12 l12 s4 (fr D1 (Ne.symm TO1) l1TO s3 u1))
 have w2 : S2 (k + 1) h5:=fr D2 (Ne.symm TO2) l2TO s5 u2
 have zlt : z < h5.objs.size:=Heap.lt_size zz
 refine wpAny_bind (m:=Builtin.SmallTypes.ownedTupleHandOut (.ref z) (.ref h5.objs.size)) ?_
 unfold Builtin.SmallTypes.ownedTupleHandOut
 have zp : IsZip (h5.push { cls:=.type "tuple",data:=.seq #[x,y] }) z TI TO .ellipsis:=Heap.get?_push_of_some _ zz
 refine wpAny_bind (wpAny_setField_rec zp (by simp) fun h8 hz8 s8=>?_)
 replace hz8 : IsZip h8 z TI TO (rawInt h5.objs.size):=hz8
 refine wpAny_setField_rec hz8 (by simp) fun h9 hz9 s9=>?_
 replace hz9 : IsZip h9 z TI TO (rawInt h5.objs.size):=hz9
 have up : ∀ d o,d ≠ z → h5.get? d = some o → h9.get? d = some o:=fun d o c1 e=>s9.extBut _ _ c1 (s8.extBut _ _ c1 (Heap.get?_push_of_some _ e))
 have nw : Jk6 h9 h5.objs.size x y:=s9.extBut _ _ (Nat.ne_of_gt zlt) (s8.extBut _ _ (Nat.ne_of_gt zlt) (Heap.get?_push_size _ rfl))
 have fz : ∀ {S : Nat → Heap → Prop} {P : Nat → Value → Prop} {i l : Addr} {m : Nat},DrA prog w i l n P S → i ≠ z → l ≠ z → S m h5 → S m h9:=fun D e1 e2 st=>(D A hh).frame _ _ _ st fun d hd o e=>by
  simp only [List.mem_cons,List.not_mem_nil,or_false] at hd
  rcases hd with rfl | rfl
  ·exact up _ _ e1 e
  ·exact up _ _ e2 e
 rw [sz] at hz9 nw
 refine wpAny_pure ⟨_,rfl,?_⟩
 show Q (.ref h5.objs.size) _
 rw [sz]
 exact hQ x y h9 _ px py hz9 (up _ _ (Ne.symm zTO) o5) (fz D1 (Ne.symm z1) l1z w1) (fz D2 (Ne.symm z2) l2z w2) nw fun d o c1 c2 c3 c4 e=>up d o c1 (kk d o c1 c2 c3 c4 e)
theorem z2_end {Q : Fin → Shared → Prop} (Z : Z2 z TI TO i1 i2 l1 l2) (hz : IsZip s.heap z TI TO .none) (hTI : Jk6 s.heap TI (.ref i1) (.ref i2))
  (hh : A.handled = none) (D1 : DrA prog w i1 l1 n P1 S1) (t1 : S1 n s.heap)
  (hE : ∀ h' e,(∀ d o,d ≠ z → d ≠ i1 → s.heap.get? d = some o → h'.get? d = some o) → (∃ o,h'.get? e = some o ∧ o.cls = .type "StopIteration") → E (.ref e) { s with heap:=h' }) :
  wpAny (model prog w) A (Builtin.«zip.__next__» ⟨[.ref z],[]⟩) Q E s:=by
 obtain ⟨nd,m1,_⟩:=Z
 simp only [List.nodup_cons,List.mem_cons,List.not_mem_nil,or_false,not_or,List.nodup_nil,and_true,not_false_eq_true] at nd m1
 obtain ⟨⟨zTI,zTO,z1,z2⟩,_⟩:=nd
 obtain ⟨l1z,l1TI,l1TO,l11,l12⟩:=m1
 show wpAny _ _ (field (.ref z) 2 >>= _) _ _ _
 refine wpAny_bind (wpAny_field hz rfl (x:=.bool false) rfl ?_)
 refine wpAny_bind (m:=field (.ref z) 3) (wpAny_field hz rfl (x:=.ref TI) rfl ?_)
 refine wpAny_bind (wpAny_seqItems hTI rfl ?_)
 refine wpAny_bind (m:=Builtin.SmallTypes.ownedTupleIsFree (.ref z)) ?_
 unfold Builtin.SmallTypes.ownedTupleIsFree
 refine wpAny_bind (wpAny_field hz rfl (x:=.none) rfl (wpAny_pure ?_))
 simp only [if_true]
 refine wpAny_bind (wpAny_rule (wpAny_bind (wpAny_field hz rfl (x:=.ref TO) rfl (wpAny_bind (wpAny_setField_rec hz (by simp) fun h1 hz1 s1=>?_)))))
 replace hz1 : IsZip h1 z TI TO .ellipsis:=hz1
 refine wpAny_bind ?_
 simp only [List.zipIdx_cons,List.zipIdx_nil,List.forIn_cons,List.forIn_nil]
 refine wpAny_bind (wpAny_bind (wpAny_onRaise ?_))
 refine wpAny_bind (m:=Builtin.SmallTypes.nextOf (.ref i1)) ((D1 A hh).done _ _ _ ((D1 A hh).frame _ _ _ t1 fun d hd o e=>?_) fun h2 e s2 he=>?_)
 ·simp only [List.mem_cons,List.not_mem_nil,or_false] at hd
  rcases hd with rfl | rfl
  ·exact s1.extBut _ _ (Ne.symm z1) e
  ·exact s1.extBut _ _ l1z e
 ·obtain ⟨oe,hoe,hce⟩:=he
  have hz2 : IsZip h2 z TI TO .ellipsis:=s2 _ _ z1 hz1
  have ez : e ≠ z:=fun q=>by subst q; rw [hz2] at hoe; cases hoe; simp at hce
  exact wpAny_setField_rec hz2 (by simp) fun h3 _ s3=>hE h3 e (fun d o c1 c2 q=>s3.extBut _ _ c1 (s2 _ _ c2 (s1.extBut _ _ c1 q))) ⟨oe,s3.extBut _ _ ez hoe,hce⟩
end
def Z2St (z TI TO i1 i2 : Addr) (S1 S2 : Nat → Heap → Prop) (i : Nat) (h : Heap) : Prop:=IsZip h z TI TO .none ∧ Jk6 h TI (.ref i1) (.ref i2) ∧ (∃ a b,Jk6 h TO a b) ∧ S1 i h ∧ S2 i h
section
variable {prog : Program} {w : World} {z TI TO i1 i2 l1 l2 : Addr} {n : Nat} {P1 P2 : Nat → Value → Prop} {S1 S2 : Nat → Heap → Prop}
theorem Jwt {A : Around} (hh : A.handled = none) (Z : Z2 z TI TO i1 i2 l1 l2) (D1 : DrA prog w i1 l1 n P1 S1) (D2 : DrA prog w i2 l2 n P2 S2) :
  WalksT prog w A z [z,TI,TO,i1,i2,l1,l2] [z,TO,i1,i2] n (fun i vals=>∃ x y,P1 i x ∧ P2 i y ∧ vals = #[x,y]) (Z2St z TI TO i1 i2 S1 S2)
   (fun i T h=>IsZip h z TI TO (rawInt T) ∧ Jk6 h TI (.ref i1) (.ref i2) ∧ (∃ a b,Jk6 h TO a b) ∧ S1 (i + 1) h ∧ S2 (i + 1) h ∧ T ∉ [z,TO,i1,i2]) where
 sub:=fun c hc=>by simp at hc ⊢; rcases hc with rfl | rfl | rfl | rfl <;> simp
 frame:=fun i h h' hst hk=>by
  obtain ⟨hz,hTI,⟨a,b,hTO⟩,h1,h2⟩:=hst
  exact ⟨hk z (by simp) _ hz,hk TI (by simp) _ hTI,⟨a,b,hk TO (by simp) _ hTO⟩,(D1 A hh).frame _ _ _ h1 fun d hd o e=>hk d (by simp at hd; rcases hd with rfl | rfl <;> simp) o e,
   (D2 A hh).frame _ _ _ h2 fun d hd o e=>hk d (by simp at hd; rcases hd with rfl | rfl <;> simp) o e⟩
 item:=fun i s Q E hi hst hQ=>by
  obtain ⟨hz,hTI,⟨a,b,hTO⟩,h1,h2⟩:=hst
  have hT : s.TypeIs (.ref z) "zip" := ⟨_,hz,rfl⟩
  have nd:=Z.nd
  simp only [List.nodup_cons,List.mem_cons,List.not_mem_nil,or_false,not_or,List.nodup_nil,and_true,not_false_eq_true] at nd
  obtain ⟨⟨zTI,_⟩,⟨TITO,TI1,TI2⟩,_⟩:=nd
  obtain ⟨e1,g1⟩:=(D1 A hh).live _ _ h1
  obtain ⟨e2,g2⟩:=(D2 A hh).live _ _ h2
  unfold pyNext
  refine wpAny_bind (wpAny_attempt (wpAny_callSpecial?_slot (name:=Str.ofString "__next__") hT F.slot_zip_next (wpAny_call_entry F.slot_zip_next hT F.entry_zip_next
   (Jyc (A:=A.in1) Z hz hTI hTO hh D1 D2 hi h1 h2 fun x y h' tk px py a1 a2 a3 a4 a6 hk=>wpAny_pure ?_) (F.args_zip_next_1 _))))
  refine hQ s.heap.objs.size #[x,y] h' tk ⟨x,y,px,py,rfl⟩ (Nat.le_refl _) ⟨_,a6,rfl,_,rfl⟩ ⟨a1,hk _ _ (Ne.symm zTI) TITO TI1 TI2 hTI,⟨_,_,a2⟩,a3,a4,?_⟩ fun d o hd e=>hk d o (fun q=>hd (by simp [q])) (fun q=>hd (by simp [q])) (fun q=>hd (by simp [q])) (fun q=>hd (by simp [q])) e
  have lt : ∀ {d o},s.heap.get? d = some o → s.heap.objs.size ≠ d:=fun e=>Nat.ne_of_gt (Heap.lt_size e)
  simp only [List.mem_cons,List.not_mem_nil,or_false,not_or]
  exact ⟨lt hz,lt hTO,lt g1,lt g2⟩
 go:=fun elts k pos i T s Q E hm hQ=>by
  obtain ⟨hz,hTI,⟨a,b,hTO⟩,h1,h2,_⟩:=hm
  have nd:=Z.nd
  have m1:=Z.m1
  have m2:=Z.m2
  simp only [List.nodup_cons,List.mem_cons,List.not_mem_nil,or_false,not_or,List.nodup_nil,and_true,not_false_eq_true] at nd m1 m2
  obtain ⟨⟨zTI,zTO,z1,z2⟩,_⟩:=nd
  have fz : ∀ {S : Nat → Heap → Prop} {P : Nat → Value → Prop} {j l : Addr} {m : Nat} {h' : Heap},DrA prog w j l n P S → j ≠ z → l ≠ z → Heap.SameBut z s.heap h' → S m s.heap → S m h':=fun D e1 e2 sb st=>(D A hh).frame _ _ _ st fun d hd o e=>by
   simp only [List.mem_cons,List.not_mem_nil,or_false] at hd
   rcases hd with rfl | rfl
   ·exact sb.extBut _ _ e1 e
   ·exact sb.extBut _ _ e2 e
  exact wpAny_letOwnedTupleGo_zip hz fun h' hz' sb=>hQ h' ⟨hz', sb.extBut _ _ (Ne.symm zTI) hTI,⟨a,b,sb.extBut _ _ (Ne.symm zTO) hTO⟩,fz D1 (Ne.symm z1) m1.1 sb h1,fz D2 (Ne.symm z2) m2.1 sb h2⟩ fun d o hd e=>sb.extBut _ _ (fun q=>hd (by simp [q])) e
 apart:=fun i T h hm hT=>hm.2.2.2.2.2 hT
 done:=fun s Q E hst hQ=>by
  obtain ⟨hz,hTI,_,h1,h2⟩:=hst
  have hT : s.TypeIs (.ref z) "zip" := ⟨_,hz,rfl⟩
  unfold pyNext
  refine wpAny_bind (wpAny_attempt (wpAny_callSpecial?_slot (name:=Str.ofString "__next__") hT F.slot_zip_next (wpAny_call_entry F.slot_zip_next hT F.entry_zip_next
   (z2_end (A:=A.in1) Z hz hTI hh D1 h1 fun h' e hk he=>?_) (F.args_zip_next_1 _))))
  obtain ⟨o,ho,hc⟩:=he
  refine wpAny_bind (wpAny_isInstance (T := "StopIteration") (b:=true) ⟨o,ho,hc⟩ isSubtype_stop (wpAny_pure ?_))
  exact hQ h' s.toks fun d o' hd e'=>hk d o' (fun q=>hd (by simp [q])) (fun q=>hd (by simp [q])) e'
 self:=fun i s Q E hst hQ=>wpAny_pyIter_zip hst.1 hQ
end
abbrev xD (h : Heap) (l1 l2 : Addr) (b1 b2 : Bool) : Heap:=(zB h l1 l2 b1 b2).push { cls:=.type "tuple",data:=.seq #[.ref h.objs.size,.ref (zA h l1 b1).objs.size] }
abbrev xE (h : Heap) (l1 l2 : Addr) (b1 b2 : Bool) : Heap:=(xD h l1 l2 b1 b2).push { cls:=.type "tuple",data:=.seq #[.none,.none] }
abbrev xF (h : Heap) (l1 l2 : Addr) (b1 b2 : Bool) : Heap:=(xE h l1 l2 b1 b2).push { cls:=.type "zip",data:=.fields #[.none,.bool false,.bool false,.ref (zB h l1 l2 b1 b2).objs.size,.ref (xD h l1 l2 b1 b2).objs.size] }
set_option maxRecDepth 100000 in
set_option maxHeartbeats 2000000 in
theorem Jx3 (l1 l2 : Addr) (b1 b2 : Bool) (xs ys : Array Value) :
  Meets (Builtin.«zip.__new__» ⟨[.type "zip",.ref l1,.ref l2],[]⟩) (fun _ R s=>IsB s.heap l1 b1 xs ∧ IsB s.heap l2 b2 ys ∧
   R (.ok (.ret (.ref (xE s.heap l1 l2 b1 b2).objs.size))) { s with heap:=xF s.heap l1 l2 b1 b2 }) :=
 .of_wp fun prog w A R s h=>by
  obtain ⟨hp,g,d,tk,os⟩:=s
  obtain ⟨hl1,hl2,h⟩:=h
  have e0:=sub_zip
  have e1 : IsB (Shared.heap ⟨hp,g,d,tk,os⟩) l1 b1 xs:=hl1
  have e2 : IsB (Shared.heap ⟨hp.push (itO l1 b1),g,d,tk,os⟩) l2 b2 ys:=IsB.push hl2 _
  wp_walk using Jrv e1,Jrv e2
  exact ⟨_,rfl,h⟩
theorem Joh (a b : Value) : checkTypeCall "zip" ⟨[a,b],[]⟩ = pure ():=by kernel_rfl
theorem Jp5 (a b : Value) : checkBuiltinCall "zip.__new__" ⟨[.type "zip",a,b],[]⟩ = pure ():=by kernel_rfl
theorem Jqt (a b c : Value) : argsOk "object.__init__" ⟨[a,b,c],[]⟩:=by
 unfold argsOk; rw [signature?_of (id := "object.__init__") (n:=['_', '_', 't', 'i', 'n', 'i', '_', '_']) (o:=['t', 'c', 'e', 'j', 'b', 'o']) (by kernel_rfl) F.owner_object]; kernel_rfl
section
variable {prog : Program} {w : World} {A : Around} {E : Value → Shared → Prop} {s : Shared}
theorem Jub {l1 l2 : Addr} {b1 b2 : Bool} {xs ys : Array Value} {Q : Value → Shared → Prop} (h1 : IsB s.heap l1 b1 xs) (h2 : IsB s.heap l2 b2 ys)
  (h : ∀ h', IsZip h' (s.heap.objs.size + 4) (s.heap.objs.size + 2) (s.heap.objs.size + 3) .none → Jk6 h' (s.heap.objs.size + 2) (.ref s.heap.objs.size) (.ref (s.heap.objs.size + 1)) →
   Jk6 h' (s.heap.objs.size + 3) .none .none → IS s.heap.objs.size l1 b1 0 h' → IS (s.heap.objs.size + 1) l2 b2 0 h' →
   (∀ c o,s.heap.get? c = some o → h'.get? c = some o) → Q (.ref (s.heap.objs.size + 4)) { s with heap:=h' }) :
  wpAny (model prog w) A (call (.type "zip") [.ref l1,.ref l2]) Q E s:=by
 refine callType_new F.called_zip (by decide) (Joh _ _) (Jp5 _ _) (fun obj=>Jqt obj _ _) F.entry_zip_new (Jx3 l1 l2 b1 b2 xs ys) ⟨h1,h2,?_⟩
 have z1 : (zA s.heap l1 b1).objs.size = s.heap.objs.size + 1:=Heap.size_push ..
 have z2 : (zB s.heap l1 l2 b1 b2).objs.size = s.heap.objs.size + 2:=by rw [Heap.size_push,z1]
 have z3 : (xD s.heap l1 l2 b1 b2).objs.size = s.heap.objs.size + 3:=by rw [Heap.size_push,z2]
 have z4 : (xE s.heap l1 l2 b1 b2).objs.size = s.heap.objs.size + 4:=by rw [Heap.size_push,z3]
 have p : ∀ {h : Heap} {c : Addr} {o q : Obj},h.get? c = some o → (h.push q).get? c = some o:=fun e=>Heap.get?_push_of_some _ e
 have g5 : (xF s.heap l1 l2 b1 b2).get? (xE s.heap l1 l2 b1 b2).objs.size = some _:=Heap.get?_push_size _ rfl
 have g4 : (xF s.heap l1 l2 b1 b2).get? (xD s.heap l1 l2 b1 b2).objs.size = some _:=p (Heap.get?_push_size _ rfl)
 have g3 : (xF s.heap l1 l2 b1 b2).get? (zB s.heap l1 l2 b1 b2).objs.size = some _:=p (p (Heap.get?_push_size _ rfl))
 have fr : ∀ (l : Addr) (b : Bool),(itO l b).isFreed = false:=fun l b=>by cases b <;> rfl
 have g2 : (xF s.heap l1 l2 b1 b2).get? (zA s.heap l1 b1).objs.size = some (itO l2 b2):=p (p (p (Heap.get?_push_size _ (fr _ _))))
 have g1 : (xF s.heap l1 l2 b1 b2).get? s.heap.objs.size = some (itO l1 b1):=p (p (p (p (Heap.get?_push_size _ (fr _ _)))))
 have is : ∀ {it l : Addr} {b : Bool} {h : Heap},h.get? it = some (itO l b) → IS it l b 0 h:=fun {it l b h} e=>by
  cases b
  ·exact ⟨_,e,rfl,rfl⟩
  ·exact ⟨_,e,rfl,rfl⟩
 show _ ∧ _
 rw [z2,z3,z4] at g5
 rw [z1,z2] at g3
 rw [z3] at g4
 rw [z1] at g2
 rw [z4]
 exact ⟨⟨_,g5,rfl⟩,h _ g5 g3 g4 (is g1) (is g2) fun c o x=>p (p (p (p (p x))))⟩
end
def ItZ2 (K : PySem.W.Frag) (l1 l2 : Addr) (b1 b2 : Bool) : It :=
 ⟨fun i H=>∃ xs ys,SqB K H l1 b1 xs ∧ SqB K H l2 b2 ys ∧ xs.length = ys.length ∧ i < xs.length,
  fun i H x H'=>∃ T p q,H T = none ∧ x = .ref T ∧ (∀ xs,SqB K H l1 b1 xs → xs[i]? = some p) ∧ (∀ ys,SqB K H l2 b2 ys → ys[i]? = some q) ∧ H' = upd H T (.tup [p,q]),
  fun i H=>∃ xs ys,SqB K H l1 b1 xs ∧ SqB K H l2 b2 ys ∧ xs.length = ys.length ∧ i = xs.length⟩
def Z2T (z TI TO i1 i2 l1 l2 : Addr) (b1 b2 : Bool) (i : Nat) (h : Heap) : Prop:=IsZip h z TI TO .none ∧ Jk6 h TI (.ref i1) (.ref i2) ∧ (∃ a b,Jk6 h TO a b) ∧ IS i1 l1 b1 i h ∧ IS i2 l2 b2 i h
theorem Z2T.obj {z TI TO i1 i2 l1 l2 : Addr} {b1 b2 : Bool} {i : Nat} {h : Heap} (st : Z2T z TI TO i1 i2 l1 l2 b1 b2 i h) : ∀ b ∈ [z,TI,TO,i1,i2],∃ o,h.get? b = some o ∧ ∀ v,o.data ≠ .cell v:=fun b hb=>by
 obtain ⟨h1,h2,⟨x,y,h3⟩,h4,h5⟩:=st
 simp only [List.mem_cons,List.not_mem_nil,or_false] at hb
 rcases hb with rfl | rfl | rfl | rfl | rfl
 ·exact ⟨_,h1,fun v z=>by cases z⟩
 ·exact ⟨_,h2,fun v z=>by cases z⟩
 ·exact ⟨_,h3,fun v z=>by cases z⟩
 ·exact h4.obj
 ·exact h5.obj
theorem Z2.ne {z TI TO i1 i2 l1 l2 : Addr} (Z : Z2 z TI TO i1 i2 l1 l2) : l1 ≠ i1 ∧ l2 ≠ i2:=by
 obtain ⟨_,m1,m2⟩:=Z
 simp only [List.mem_cons,List.not_mem_nil,or_false,not_or] at m1 m2
 exact ⟨m1.2.2.2.1,m2.2.2.2.2⟩
theorem Jv5 {P : Program} {w : World} {K : PySem.W.Frag} {elts : List Expr} {kt : Nat} {pt : Pos} (z TI TO i1 i2 l1 l2 : Addr) (b1 b2 : Bool) (Z : Z2 z TI TO i1 i2 l1 l2) :
  Jpm P w K (.Tuple elts kt pt) (ItZ2 K l1 l2 b1 b2) [z,TI,TO,i1,i2] z (Z2T z TI TO i1 i2 l1 l2 b1 b2) where
 mem:=by simp
 obj:=fun i h st=>st.obj
 keep:=fun i h h' st k=>by
  obtain ⟨h1,h2,⟨a,c,h3⟩,h4,h5⟩:=st
  exact ⟨k z (by simp) _ h1,k TI (by simp) _ h2,⟨a,c,k TO (by simp) _ h3⟩,h4.at fun o e=>k i1 (by simp) o e,h5.at fun o e=>k i2 (by simp) o e⟩
 item:=by
  intro X hP hw hK hc i pins s σ H E I hf st hg
  subst hP hw hK
  obtain ⟨xs,ys,q1,q2,e12,hi⟩:=hg
  obtain ⟨its,rv,p1⟩:=I.seqB q1
  obtain ⟨jts,rv2,p2⟩:=I.seqB q2
  have a1:=rv.length
  have a2:=rv2.length
  obtain ⟨n1,n2⟩:=Z.ne
  have D1:=drA (prog:=X.prog) (w:=X.w) b1 n1 its.toArray
  have D2:=drA (prog:=X.prog) (w:=X.w) b2 n2 jts.toArray
  rw [show jts.toArray.size = its.toArray.size by simp only [List.size_toArray]; omega] at D2
  have W:=Jwt (I.ok.hd hc) Z D1 D2
  have st0:=st
  obtain ⟨s1,s2,s3,s4,s5⟩:=st
  refine W.item i s _ _ (by simp only [List.size_toArray]; omega) ⟨s1,s2,s3,⟨s4,p1⟩,⟨s5,p2⟩⟩ fun T vals h' tk hP fT tT mid kk=>?_
  refine ⟨_,rfl,W.go elts kt pt i T _ _ _ mid fun h'' st'' kk2=>?_⟩
  obtain ⟨x,y,hx,hy,rfl⟩:=hP
  obtain ⟨u1,hu1,r1⟩:=rv.get (i:=i) (x:=xs[i]) (List.getElem?_eq_getElem hi)
  obtain ⟨u2,hu2,r2⟩:=rv2.get (i:=i) (x:=ys[i]'(by omega)) (List.getElem?_eq_getElem (by omega))
  obtain rfl : x = u1:=by simpa [hu1] using hx.symm
  obtain rfl : y = u2:=by simpa [hu2] using hy.symm
  obtain ⟨t1,t2,t3,t4,t5⟩:=st''
  have kT : h''.IsTuple T #[x,y]:=by
   obtain ⟨o,q,r⟩:=tT
   exact ⟨o,kk2 T o (W.apart i T h' mid) q,r⟩
  have cht : ∀ c,c ∈ [z,TO,i1,i2] → c ∈ [z,TI,TO,i1,i2]:=fun c hc=>by simp at hc ⊢; rcases hc with rfl | rfl | rfl | rfl <;> simp
  refine ⟨.ref T,upd H T (.tup [xs[i],ys[i]'(by omega)]),I.turnTup (ch:=[z,TO,i1,i2]) (t':=tk) (fun c hc=>hf c (cht c hc)) (fun c o hc e=>kk2 c o hc (kk c o hc e)) fT ⟨(show 2 ≤ sizeLine by decide),[x,y],.cons r1 (.cons r2 .nil),kT⟩,rfl,
   ⟨T,_,_,I.hok.fresh fT,rfl,fun xs' hq=>by rw [I.seqB_inj hq q1]; exact List.getElem?_eq_getElem hi,fun ys' hq=>by rw [I.seqB_inj hq q2]; exact List.getElem?_eq_getElem (by omega),rfl⟩,⟨t1,t2,t3,t4.1,t5.1⟩,fun c hc=>?_⟩
  have hcn:=(hf c hc).1
  rw [Ji9 (fun w'=>?_)]
  ·exact hcn
  ·subst w'
   obtain ⟨o,e,_⟩:=Z2T.obj st0 c hc
   exact absurd (Heap.lt_size e) (Nat.not_lt.mpr fT)
 done:=by
  intro X hP hw hK hc i pins s σ H E I hf st hg
  subst hP hw hK
  obtain ⟨xs,ys,q1,q2,e12,hi⟩:=hg
  obtain ⟨its,rv,p1⟩:=I.seqB q1
  obtain ⟨jts,rv2,p2⟩:=I.seqB q2
  have a1:=rv.length
  have a2:=rv2.length
  obtain ⟨n1,n2⟩:=Z.ne
  have D1:=drA (prog:=X.prog) (w:=X.w) b1 n1 its.toArray
  have D2:=drA (prog:=X.prog) (w:=X.w) b2 n2 jts.toArray
  rw [show jts.toArray.size = its.toArray.size by simp only [List.size_toArray]; omega] at D2
  have W:=Jwt (I.ok.hd hc) Z D1 D2
  obtain ⟨s1,s2,s3,s4,s5⟩:=st
  have ei : i = its.toArray.size:=by simp only [List.size_toArray]; omega
  subst ei
  refine W.done s _ _ ⟨s1,s2,s3,⟨s4,p1⟩,⟨s5,p2⟩⟩ fun h' tk kk=>⟨rfl,?_⟩
  exact I.turnMany (ch:=[z,TO,i1,i2]) (fun c hc=>hf c (by simp at hc ⊢; rcases hc with rfl | rfl | rfl | rfl <;> simp)) fun c o hc e=>kk c o hc e
 self:=fun _ _ _ _ _ st h=>wpAny_pyIter_zip st.1 h
def iZip2 (K : PySem.W.Frag) (b1 b2 : Bool) (ta : TA) : TI:=fun σ H R=>ta σ H fun vs H1=>∃ a b,vs = [.ref a,.ref b] ∧ (∃ xs,SqB K H1 a b1 xs) ∧ (∃ ys,SqB K H1 b b2 ys) ∧ R (ItZ2 K a b b1 b2) H1
theorem Jrd {X : Cx} {elts : List Expr} {kt : Nat} {pt : Pos} {a b : Expr} {ta : TA} {p pos : Pos} (b1 b2 : Bool) (hg : Gl X "zip") (hm : X.mg "zip" = none) (ha : PA X [a,b] ta) (hs : starEach [a,b] X.env = [(false,eval a X.env),(false,eval b X.env)]:=by rfl) (hs2 : starEach [b] X.env = [(false,eval b X.env)]:=by rfl) :
  PI X (.Tuple elts kt pt) (.Call (.Name "zip" p) [a,b] [] pos) (iZip2 X.K b1 b2 ta):=by
 intro pins s σ H R I h
 refine Call_ (Jlx I hg hm Jvd (PyProof.Rows.callWith_type1 (thn (ha pos pins s σ H _ I h) fun us s1 ⟨vs,H1,I1,r1,q1⟩=>?_) (by rw [hs,hs2]) (by rw [hs2]; rfl)))
 obtain ⟨l1,l2,rfl,⟨xs,q1⟩,⟨ys,q2⟩,q⟩:=q1
 obtain ⟨u,v,rfl,r1,r2⟩:=Jsk r1
 obtain rfl : u = Value.ref l1:=r1
 obtain rfl : v = Value.ref l2:=r2
 obtain ⟨its,rv,p1⟩:=I1.seqB q1
 obtain ⟨jts,rv2,p2⟩:=I1.seqB q2
 have a1:=p1.lt
 have a2:=p2.lt
 refine Jub p1 p2 fun h' z1 z2 z3 z4 z5 kk=>?_
 have I2 : Inv X pins σ H1 { s1 with heap:=h' }:=I1.kept (t':=s1.toks) kk
 have ap : Z2 (s1.heap.objs.size + 4) (s1.heap.objs.size + 2) (s1.heap.objs.size + 3) s1.heap.objs.size (s1.heap.objs.size + 1) l1 l2:=by
  generalize hN : s1.heap.objs.size = N at *
  have big : ∀ l : Addr,l < N → l ∉ [N + 4,N + 2,N + 3,N,N + 1]:=fun l hl hm=>by
   simp only [List.mem_cons,List.not_mem_nil,or_false] at hm
   have le : N ≤ l:=by rcases hm with rfl | rfl | rfl | rfl | rfl <;> first | exact Nat.le_refl _ | exact Nat.le_add_right _ _
   exact Nat.not_lt.mpr le hl
  exact ⟨by simp,big _ a1,big _ a2⟩
 refine wpAny_pyIter_zip z1 ⟨_,_,_,_,H1,rfl,I2,Jv5 _ _ _ _ _ l1 l2 b1 b2 ap,⟨z1,z2,⟨_,_,z3⟩,z4,z5⟩,fun d hd=>?_,q⟩
 have hd' : s1.heap.objs.size ≤ d:=by
  simp only [List.mem_cons,List.not_mem_nil,or_false] at hd
  rcases hd with rfl | rfl | rfl | rfl | rfl <;> omega
 exact I1.fpOk hd' (I1.hok.fresh hd')
section
variable {K : PySem.W.Frag} {g : TG} {σ : St} {H : Hp}
end
end L2
namespace L2
open PySem PySem.Spec PyProof.Rows PySem.W
section
variable {X : Cx}
theorem Jvc {bs : List Bool} {n : Nat} (e : n = bs.length) : ((List.range n).all fun j=>bs.getD j false) = bs.all id:=by
 subst e
 rw [Bool.eq_iff_iff,List.all_eq_true,List.all_eq_true]
 constructor
 ·intro h b hb
  obtain ⟨j,hj,rfl⟩:=List.getElem_of_mem hb
  have:=h j (List.mem_range.mpr hj)
  simpa [List.getD,List.getElem?_eq_getElem hj] using this
 ·intro h j hj
  have hj':=List.mem_range.mp hj
  have:=h bs[j] (List.getElem_mem hj')
  simpa [List.getD,List.getElem?_eq_getElem hj'] using this
theorem Jxt {s : Shared} {A : Around} {xs ys : List V} {bs : List Bool} {its jts : List Value} (r1 : Vals xs its) (r2 : Vals ys jts) (l1 : xs.length = ys.length) (l2 : bs.length = xs.length)
  (hs : ∀ (i : Nat) x y b,xs[i]? = some x → ys[i]? = some y → bs[i]? = some b → SameOr x y b) : ∀ j (h1 : j < its.toArray.size) (h2 : j < jts.toArray.size),SeqAt.EqAt A s its.toArray[j] jts.toArray[j] (bs.getD j false):=by
 intro j j1 j2
 have e1:=r1.length
 have e2:=r2.length
 simp only [List.size_toArray] at j1 j2
 have a1 : xs[j]? = some xs[j]:=List.getElem?_eq_getElem (by omega)
 have a2 : ys[j]? = some ys[j]:=List.getElem?_eq_getElem (by omega)
 have a3 : bs[j]? = some bs[j]:=List.getElem?_eq_getElem (by omega)
 obtain ⟨u,hu1,ru⟩:=r1.get a1
 obtain ⟨w', hw1,rw'⟩:=r2.get a2
 have b1 : its.toArray[j] = u:=by simpa [List.getElem?_eq_getElem j1] using hu1
 have b2 : jts.toArray[j] = w':=by simpa [List.getElem?_eq_getElem j2] using hw1
 have b3 : bs.getD j false = bs[j]:=by simp [List.getD,a3]
 rw [b1,b2,b3]
 exact (hs j _ _ _ a1 a2 a3).at ru rw'
def rNeT (K : PySem.W.Frag) : R2:=fun x y H Q=>∃ (p q : Addr) (xs ys : List V) (bs : List Bool),x = .ref p ∧ y = .ref q ∧ SqT K H p xs ∧ SqT K H q ys ∧ xs.length = ys.length ∧ bs.length = xs.length ∧
 (∀ (i : Nat) x y b,xs[i]? = some x → ys[i]? = some y → bs[i]? = some b → SameOr x y b) ∧ Q (.bl (!bs.all id)) H
theorem Jvx (hu : X.A.units + 64 < cLine) : OpR X (compareOp .NotEq) (rNeT X.K):=by
 rintro pins s σ H x y v u Q I rx ry ⟨p,q,xs,ys,bs,rfl,rfl,h1,h2,l1,l2,hs,k⟩
 obtain rfl : v = Value.ref p:=rx
 obtain rfl : u = Value.ref q:=ry
 obtain ⟨its,r1,p1,_⟩:=I.tuple h1
 obtain ⟨jts,r2,p2,_⟩:=I.tuple h2
 have e1:=r1.length
 have e2:=r2.length
 refine SeqAt.RcNeAt.tuples (e:=fun j=>bs.getD j false) (show s.heap.IsTuple p its.toArray from p1) (show s.heap.IsTuple q jts.toArray from p2) (by omega) (Jxt r1 r2 l1 l2 hs) _ _ _ _ ⟨.bl _,H,I,rfl,?_⟩
 rw [show min its.toArray.size jts.toArray.size = its.toArray.size by simp only [List.size_toArray]; omega,Jvc (by simp only [List.size_toArray]; omega),show (its.toArray.size == jts.toArray.size) = true by simp only [List.size_toArray,beq_iff_eq]; omega,Bool.and_true]
 exact k
structure ECmp (K : PySem.W.Frag) (C : Addr) : Prop where
 e : PySem.W.findIn K (.ref C) "__eq__" = some (some (.builtin "object.__eq__"))
 s : PySem.W.mroIn K C (.type "str") = some false
 o : PySem.W.mroIn K C (.type "object") = some true
end
end L2
namespace L2
open PySem PySem.Spec PyProof.Rows PySem.W
inductive Oth (K : PySem.W.Frag) (H : Hp) : V → Prop where
 | flat {y : V} : Jkj y = true → Oth K H y
 | lst {p : Addr} {xs : List V} : H p = some (.lst xs) → Oth K H (.ref p)
 | tup {p : Addr} {xs : List V} : H p = some (.tup xs) → Oth K H (.ref p)
 | dct {p : Addr} {kvs : List (Key × V)} : H p = some (.dK kvs) → Oth K H (.ref p)
 | ins {p C dx : Addr} {fs : List (Str × V)} : H p = some (.ins C dx fs) → ECmp K C → Oth K H (.ref p)
section
variable {X : Cx}
end
end L2
namespace L2
open PySem PySem.Spec PyProof.Rows PySem.W
section
variable {X : Cx}
end
end L2
namespace L2
open PySem PySem.Spec PyProof.Rows
section
variable {H : Hp} {lb : Array (Nat × Nat × Str)}
theorem TrOk.triples {l : List Value} (x : TrOk H lb l) : TriplesOk l:=by
 fun_induction TrOk H lb l with
 | case1=>exact True.intro
 | case2 l _ c _ v r ih=>exact ih x.2
 | case3=>exact x.elim
theorem TrOk.hit {pos : Pos} {v : Value} {l : List Value} (x : TrOk H lb l) (h : codeAmong pos l = some v) : ∃ (q : Str) (a : Addr),(pos.line,pos.col,q) ∈ lb ∧ v = .ref a ∧ H a = some (.cod q):=by
 fun_induction TrOk H lb l with
 | case1=>cases h
 | case2 l _ c _ v' r ih =>
  obtain ⟨⟨n,m,q,a,h1,h2,h3,h4,h5⟩,h6⟩:=x
  unfold codeAmong at h
  split at h
  ·rename_i hc
   cases h
   simp only [Bool.and_eq_true,beq_iff_eq] at hc
   have e1 : n = pos.line:=by omega
   have e2 : m = pos.col:=by omega
   rw [e1,e2] at h1
   exact ⟨q,a,h1,h4,h5⟩
  ·exact ih h6 h
 | case3=>exact x.elim
theorem TrOk.snoc {pos : Pos} {q : Str} {a : Addr} (hm : (pos.line,pos.col,q) ∈ lb) (ha : H a = some (.cod q)) {l : List Value} (x : TrOk H lb l) : TrOk H lb (l ++ [rawInt pos.line,rawInt pos.col,.ref a]):=by
 fun_induction TrOk H lb l with
 | case1=>exact ⟨⟨_,_,q,a,hm,rfl,rfl,rfl,ha⟩,True.intro⟩
 | case2 l _ c _ v r ih=>exact ⟨x.1,ih x.2⟩
 | case3=>exact x.elim
end
def cdfB (vs : Array Value) (c P : Addr) : Bool :=
 (match (vs[11]? : Option Value) with | some (.ref p)=>p == P | _=>false) && (match vs.getD 11 .none with | .ref p=>p == P | _=>false) && (match vs.getD 18 .none with | .str _ _=>true | _=>false) && (match vs.getD 7 .none with | .int _ _=>true | _=>false) &&
 (match vs.getD 9 .none with | .bool _=>true | _=>false) && (match vs.getD 10 .none with | .int _ _=>true | _=>false) && !(c == P)
structure Nst (K : PySem.W.Frag) (f c P : Addr) : Prop where
 fn : ∃ (oc : Value) (od : Option Addr) (fd : FuncData) (sl : Array (Option Value)),K.lookup f = some ⟨oc,od,.func fd,sl⟩ ∧ fd.code = .ref c
 hd : ∃ (od : Option Addr) (vs : Array Value) (sl : Array (Option Value)),K.lookup c = some ⟨.type "code",od,.fields vs,sl⟩ ∧ cdfB vs c P = true
theorem Nst.code {K : PySem.W.Frag} {f c P : Addr} {h : Heap} (n : Nst K f c P) (X : K.In h) : PySem.W.CodeHd h c P:=by
 obtain ⟨od,vs,sl,lk,b⟩:=n.hd
 unfold cdfB at b
 simp only [Bool.and_eq_true] at b
 obtain ⟨⟨⟨⟨⟨⟨b1,b2⟩,b3⟩,b4⟩,b5⟩,b6⟩,b7⟩:=b
 have e1 : vs[11]? = some (.ref P):=by
  split at b1
  ·rename_i p e; rw [e,beq_iff_eq.mp b1]
  ·cases b1
 have e2 : vs.getD 11 .none = .ref P:=by
  split at b2
  ·rename_i p e; rw [e,beq_iff_eq.mp b2]
  ·cases b2
 have e3 : ∃ x t,vs.getD 18 .none = .str x t:=by
  split at b3
  ·rename_i x t e; exact ⟨x,t,e⟩
  ·cases b3
 have e4 : ∃ x t,vs.getD 7 .none = .int x t:=by
  split at b4
  ·rename_i x t e; exact ⟨x,t,e⟩
  ·cases b4
 have e5 : ∃ x,vs.getD 9 .none = .bool x:=by
  split at b5
  ·rename_i x e; exact ⟨x,e⟩
  ·cases b5
 have e6 : ∃ x t,vs.getD 10 .none = .int x t:=by
  split at b6
  ·rename_i x t e; exact ⟨x,t,e⟩
  ·cases b6
 obtain ⟨f1,t1,e3⟩:=e3
 obtain ⟨f2,t2,e4⟩:=e4
 obtain ⟨f3,e5⟩:=e5
 obtain ⟨f4,t4,e6⟩:=e6
 exact ⟨_,vs,f1,t1,f2,t2,f3,f4,t4,X _ _ lk,rfl,rfl,e1,e2,e3,e4,e5,e6,by simpa using b7⟩
def Bmn (mg : Str → Option Value) (base : Heap) : Prop:=∃ bm ob,mg "__builtins__" = some (.ref bm) ∧ bm ≠ builtinsNs ∧ base.get? bm = some ob ∧ ob.cls = .type "module" ∧ ob.dict = some builtinsNs ∧ ob.data = .plain
def Clo (f : Addr) (name qual : Str) (st : Stmt) (clos : List (Str × Addr)) (c : Addr) : HO :=
 .ext fun h=>∃ doc pm ct : Value,h.get? f = some { cls:=.type "function",data:=.func (PySem.W.fnX name qual (Jj2 st) (Jiv st) (Ji6 st) clos .none .none doc pm none (.ref c) ct) }
theorem Jrn {P : Program} {w : World} {H : Hp} {h : Heap} {f : Addr} {name qual : Str} {st : Stmt} {clos : List (Str × Addr)} {c : Addr} {doc pm ct : Value}
  (e : h.get? f = some { cls:=.type "function",data:=.func (PySem.W.fnX name qual (Jj2 st) (Jiv st) (Ji6 st) clos .none .none doc pm none (.ref c) ct) }) : ObjOk P w H h f (Clo f name qual st clos c) :=
 ⟨⟨doc,pm,ct,e⟩,⟨_,e⟩,fun _ _ ⟨d,p,t,z⟩ k=>⟨d,p,t,k _ z⟩⟩
section
variable {X : Cx} {pins : List (Addr × Obj)} {σ : St} {H : Hp} {s : Shared} {M : Model} {A : Around} {E : Value → Shared → Prop} {name qual : Str} {st : Stmt} {pos : Pos} {firstLine : Nat} {c P : Addr} {lb : Array (Nat × Nat × Str)} {clos : List (Str × Addr)} {Q : Value → Shared → Prop}
theorem Jvh (I : Inv X pins σ H s) (hcd : X.env.code = .ref c) (C : PySem.W.CodeHd X.base c P) (B : Bmn X.mg X.base) (ht : H P = some (.tbl lb)) (hm : (pos.line,pos.col,qual) ∈ lb) (hu : ∀ q,(pos.line,pos.col,q) ∈ lb → q = qual)
  (hcl : closureFor (Ji6 st) X.env = pure clos)
  (h : ∀ s' f c' H', Inv X pins σ H' s' → Same H H' → H f = none → H' f = some (Clo f name qual st clos c') → H' c' = some (.cod qual) → Q (.ref f) s') :
  wpAny M A (makeFunction name qual (Jj2 st) (.stmts (Jiv st)) (Ji6 st) X.env [] [] [] pos firstLine) Q E s:=by
 obtain ⟨ts,eP,tr⟩:=I.hok P _ ht
 have hg : s.heap.Ns mainGlobals X.mg:=I.mod.glob.keeps I.bk
 have CH:=C.keeps I.bk
 have hgP : mainGlobals ≠ P:=fun z=>by
  obtain ⟨o,es,ep,e1,e2,_⟩:=hg
  rw [z,eP] at e1; cases e1; cases e2
 have BA : s.heap.BuiltinsAt X.mg P:=by
  obtain ⟨bm,ob,b1,b2,b3,b4,b5,b6⟩:=B
  have b3':=I.bk _ _ b3
  refine ⟨bm,ob,b1,b2,fun z=>?_,fun z=>?_,b3', b4,b5,b6⟩
  ·obtain ⟨o,es,ep,e1,e2,_⟩:=hg
   rw [← z,b3'] at e1; cases e1; rw [b6] at e2; cases e2
  ·rw [z,eP] at b3'; cases b3'; cases b4
 cases hq : codeAmong pos ts.toList with
 | some v =>
  obtain ⟨q,a,m1,rfl,m2⟩:=tr.hit hq
  obtain rfl:=hu q m1
  refine PySem.W.makeFunction_hit (P:=P) (ps:=ts) hcl I.ok.glob hg hcd CH eP tr.triples hq BA fun ctv doc h' tk hk hsz=>?_
  have hf : H h'.objs.size = none:=I.hok.fresh hsz
  have J:=I.laid (a:=h'.objs.size) (o:=Clo h'.objs.size name q st clos a) (t':=tk) (h':=h'.push { cls:=.type "function",data:=.func (PySem.W.fnX name q (Jj2 st) (Jiv st) (Ji6 st) clos .none .none doc ((X.mg "__name__").getD .none) none (.ref a) ctv) })
   (fun b u z=>Heap.get?_push_of_some _ (hk b u z)) hsz (Jrn (Heap.get?_push_size _ rfl))
  exact h _ _ a _ J (Same.upd hf) hf Ji3 (by rw [Ji9 (Ji8 m2 hf)]; exact m2)
 | none =>
  refine PySem.W.makeFunction_K (P:=P) (ps:=ts) hcl I.ok.glob hg hcd CH eP tr.triples hq hgP BA fun c' ctv doc h' tk hx hge hlt hrec htb=>?_
  have hc' : H c' = none:=I.hok.fresh hge
  have hf : H h'.objs.size = none:=I.hok.fresh (Nat.le_trans hge (Nat.le_of_lt hlt))
  have nfc : h'.objs.size ≠ c':=Nat.ne_of_gt hlt
  have nP : ∀ b,H b = none → b ≠ P:=fun b z w'=>by rw [w', ht] at z; cases z
  let H' : Hp:=upd (upd H c' (.cod qual)) h'.objs.size (Clo h'.objs.size name qual st clos c')
  let o' : Obj:={ cls:=.type "function",data:=.func (PySem.W.fnX name qual (Jj2 st) (Jiv st) (Ji6 st) clos .none .none doc ((X.mg "__name__").getD .none) none (.ref c') ctv) }
  have hS : Same H H':=(Same.upd hc').trans (Same.upd (by rw [Ji9 nfc]; exact hf))
  have hkp : ∀ b o,b ≠ P → s.heap.get? b = some o → (h'.push o').get? b = some o:=fun b o n z=>Heap.get?_push_of_some _ (hx b o n z)
  have hc1 : H' c' = some (.cod qual):=by show upd (upd H c' _) _ _ c' = _; rw [Ji9 (Ne.symm nfc),Ji3]
  have bl : ∀ b o,s.heap.get? b = some o → b ≠ c' ∧ b ≠ h'.objs.size:=fun b o z=>by
   have q:=Nat.lt_of_lt_of_le (Heap.lt_size z) hge
   exact ⟨Nat.ne_of_lt q,Nat.ne_of_lt (Nat.lt_trans q hlt)⟩
  have J : Inv X pins σ H' { s with heap:=h'.push o', toks:=tk }:=by
   refine I.un (t':=tk) ⟨fun b o z n _ _=>hkp b o (nP b n) z,fun b o z n _ _=>⟨o.slots,hkp b o (nP b n) z⟩,fun b o z n _=>?_,fun b o z _=>?_,fun b xs z=>hS _ _ z,fun b o u z=>hS _ _ z,fun b ps z=>⟨#[],by rw [hS _ _ z]; simp⟩⟩ fun b u z=>?_
   ·show upd (upd H c' _) _ _ b = none
    rw [Ji9 (bl b o z).2,Ji9 (bl b o z).1]; exact n
   ·by_cases w' : b = P
    ·exact ⟨_,by rw [w']; exact Heap.get?_push_of_some _ htb⟩
    ·exact ⟨o,hkp b o w' z⟩
   ·by_cases w1 : b = h'.objs.size
    ·have z' : H' b = some (Clo h'.objs.size name qual st clos c'):=by rw [w1]; exact Ji3
     rw [z'] at z; cases z
     rw [w1]
     exact Jrn (Heap.get?_push_size _ rfl)
    ·by_cases w2 : b = c'
     ·rw [w2,hc1] at z; cases z
      rw [w2]
      exact hrec.keeps fun _ _ z=>Heap.get?_push_of_some _ z
     ·have z' : H b = some u:=by
       have : H' b = H b:=by show upd (upd H c' _) _ _ b = _; rw [Ji9 w1,Ji9 w2]
       rw [← this]; exact z
      by_cases w3 : b = P
      ·rw [w3,ht] at z'; cases z'
       refine ⟨_,by rw [w3]; exact Heap.get?_push_of_some _ htb,?_⟩
       rw [Array.toList_append]
       exact TrOk.snoc hm hc1 (tr.mono fun b q z=>hS _ _ z)
      ·refine (I.hok b u z').stay (fun c v hc zz=>hkp c v ?_ zz) (fun c zz=>hS _ _ zz) (fun c xs zz=>hS _ _ zz) fun c q zz=>hS _ _ zz
       rcases hc with rfl | hc
       ·exact w3
       ·intro w'; rw [w', ht] at hc; cases hc
  exact h _ _ c' H' J hS hf Ji3 hc1
end
end L2
namespace L2
open PySem PySem.Spec PyProof.Rows
def CelAt (H : Hp) (c : Addr) (v : V) : Prop:=∃ o u,H c = some (celF o) ∧ o.data = .cell (some u) ∧ RelV v u
theorem CelAt.same {H H' : Hp} {c : Addr} {v : V} (s : Same H H') (h : CelAt H c v) : CelAt H' c v:=let ⟨o,u,a,b,d⟩:=h; ⟨o,u,s _ _ a,b,d⟩
def CloAt (H : Hp) (f : Addr) (name qual : Str) (st : Stmt) (caps : List (Str × V)) : Prop :=
 ∃ (clos : List (Str × Addr)) (c : Addr),H f = some (Clo f name qual st clos c) ∧ H c = some (.cod qual) ∧ (∀ x y b,clos.lookup x = some b → clos.lookup y = some b → x = y) ∧ (∀ y ∈ (Ji6 st).names,y.2 = .free → ∃ b,clos.lookup y.1 = some b) ∧
  (∀ x b,clos.lookup x = some b → ∃ v,CelAt H b v) ∧ ∀ x v,(x,v) ∈ caps → ∃ b,clos.lookup x = some b ∧ CelAt H b v
theorem CloAt.same {H H' : Hp} {f : Addr} {name qual : Str} {st : Stmt} {caps : List (Str × V)} (s : Same H H') (h : CloAt H f name qual st caps) : CloAt H' f name qual st caps :=
 let ⟨clos,c,a,b,d,e,g,k⟩:=h
 ⟨clos,c,s _ _ a,s _ _ b,d,e,fun x b z=>let ⟨v,q⟩:=g x b z; ⟨v,q.same s⟩,fun x v z=>let ⟨b,q1,q2⟩:=k x v z; ⟨b,q1,q2.same s⟩⟩
theorem CloAt.but {p : Addr} {H H' : Hp} {f : Addr} {name qual : Str} {st : Stmt} {caps : List (Str × V)} (sp : Strm H p) (s : But p H H') (h : CloAt H f name qual st caps) : CloAt H' f name qual st caps:=by
 obtain ⟨clos,c,a,b,d,e,g,k⟩:=h
 have kp : ∀ b o,H b = some o → (∀ x y z : Int,o ≠ .lst [.int x,.int y,.int z]) → H' b = some o:=fun b o z n=>s.1 b o (Jk2 sp z n) z
 have ce : ∀ b v,CelAt H b v → CelAt H' b v:=fun b v ⟨o,u,q1,q2,q3⟩=>⟨o,u,kp _ _ q1 (fun _ _ _ z=>by cases z),q2,q3⟩
 exact ⟨clos,c,kp _ _ a (fun _ _ _ z=>by cases z),kp _ _ b (fun _ _ _ z=>by cases z),d,e,fun x b z=>let ⟨v,q⟩:=g x b z; ⟨v,ce _ _ q⟩,fun x v z=>let ⟨b,q1,q2⟩:=k x v z; ⟨b,q1,ce _ _ q2⟩⟩
def IsF (H : Hp) (f : Addr) : Prop:=∃ name qual st clos c,H f = some (Clo f name qual st clos c)
theorem CloAt.isf {H : Hp} {f : Addr} {name qual : Str} {st : Stmt} {caps : List (Str × V)} (h : CloAt H f name qual st caps) : IsF H f:=let ⟨clos,c,a,_⟩:=h; ⟨name,qual,st,clos,c,a⟩
def Cx.fix (X : Cx) (cn : Str → Bool) : Cx:={ X with fn:=fun x=>X.fn x && !cn x }
open Classical in
noncomputable def Jo1 (X : Cx) (cn : Str → Bool) (h : Heap) (H : Hp) : Hp:=fun b=>if ∃ x,cn x = true ∧ X.fn x = true ∧ X.env.cells.lookup x = some b then (h.get? b).map celF else H b
section
variable {X : Cx} {pins : List (Addr × Obj)} {σ : St} {H : Hp} {s : Shared} {cn : Str → Bool}
theorem Jrk {h : Heap} {b : Addr} {o : Obj} {x : Str} (h1 : cn x = true) (h2 : X.fn x = true) (h3 : X.env.cells.lookup x = some b) (e : h.get? b = some o) : Jo1 X cn h H b = some (celF o):=by
 unfold Jo1
 rw [if_pos ⟨x,h1,h2,h3⟩,e]
 rfl
theorem Jnk {h : Heap} {b : Addr} (n : ¬ ∃ x,cn x = true ∧ X.fn x = true ∧ X.env.cells.lookup x = some b) : Jo1 X cn h H b = H b:=by
 unfold Jo1
 rw [if_neg n]
theorem Jwp (I : Inv X pins σ H s) {b : Addr} {o : HO} (e : H b = some o) : Jo1 X cn s.heap H b = some o:=by
 rw [Jnk]
 ·exact e
 ·rintro ⟨x,_,h2,h3⟩
  rcases I.freeC x b h3 with n | ⟨f,_⟩
  ·rw [n] at e; cases e
  ·rw [h2] at f; cases f
theorem Inv.fix (I : Inv X pins σ H s) (cn : Str → Bool) : Inv (X.fix cn) pins σ (Jo1 X cn s.heap H) s ∧ Same H (Jo1 X cn s.heap H):=by
 have hS : Same H (Jo1 X cn s.heap H):=fun b o e=>Jwp I e
 have hn : ∀ b,H b = none → (∀ x,cn x = true → X.fn x = true → X.env.cells.lookup x ≠ some b) → Jo1 X cn s.heap H b = none:=fun b e n=>by
  rw [Jnk]
  ·exact e
  ·rintro ⟨x,h1,h2,h3⟩; exact n x h1 h2 h3
 refine ⟨⟨⟨I.ok.mod,I.ok.kind,I.ok.glob,I.ok.blt,I.ok.above,I.ok.inj,I.ok.has,fun x c hx hc=>I.ok.cab x c ?_ hc,I.ok.hd,I.ok.frames,I.ok.stk,I.ok.exf,I.ok.bs,I.ok.bsz,I.ok.noex,I.ok.exfs,I.ok.funs,I.ok.frf⟩,I.os,I.bare,
  ⟨I.base.keep,I.base.slot,fun b o e n hx=>?_,I.base.there,fun b xs e=>hS _ _ (I.base.tups b xs e),fun b o u e=>hS _ _ (I.base.frzs b o u e),fun b ps e=>?_⟩,I.loc,I.cell,?_,fun x c e=>?_,fun p hp=>?_,fun b u e=>?_,I.len⟩,hS⟩
 ·have hx' : (X.fn x && !cn x) = true:=hx
  rw [Bool.and_eq_true] at hx'
  exact hx'.1
 ·exact hn b (I.base.free b o e n hx) fun x _ h2 h3=>absurd (Nat.lt_of_lt_of_le (Heap.lt_size e) (I.ok.cab x b h2 h3)) (Nat.lt_irrefl _)
 ·obtain ⟨m,q⟩:=I.base.tbls b ps e
  exact ⟨m,hS _ _ q⟩
 ·exact hn _ I.free fun x _ _ h3=>I.cne x _ h3 rfl
 ·have e' : X.env.cells.lookup x = some c:=e
  by_cases hc : cn x = true ∧ X.fn x = true
  ·obtain ⟨v,o,ho,hd⟩:=I.cell x c e'
   refine .inr ⟨?_,o,Jrk hc.1 hc.2 e' ho⟩
   show (X.fn x && !cn x) = false
   rw [hc.1]; simp
  ·have out : Jo1 X cn s.heap H c = H c:=Jnk fun ⟨y,h1,h2,h3⟩=>hc (by rw [I.ok.inj x y c e' h3]; exact ⟨h1,h2⟩)
   rcases I.freeC x c e' with n | ⟨f,o,q⟩
   ·exact .inl (out.trans n)
   ·refine .inr ⟨?_,o,out.trans q⟩
    show (X.fn x && !cn x) = false
    rw [f]; rfl
 ·obtain ⟨e,n,ne,nf,d⟩:=I.pin p hp
  refine ⟨e,hn _ n fun x _ _ h3=>?_,ne,nf,d⟩
  obtain ⟨v,o,ho,hd⟩:=I.cell x _ h3
  rw [e] at ho; cases ho
  exact d v hd
 ·by_cases hb : ∃ x,cn x = true ∧ X.fn x = true ∧ X.env.cells.lookup x = some b
  ·obtain ⟨x,h1,h2,h3⟩:=hb
   obtain ⟨v,o,ho,hd⟩:=I.cell x b h3
   rw [Jrk h1 h2 h3 ho] at e
   cases e
   exact ⟨ho,True.intro,⟨o,ho⟩,fun _ _ _ _=>True.intro⟩
  ·rw [Jnk hb] at e
   exact (I.hok b u e).stay (fun _ _ _ q=>q) (fun _ q=>hS _ _ q) (fun _ _ q=>hS _ _ q) fun _ _ q=>hS _ _ q
theorem Inv.celAt (I : Inv X pins σ H s) (J : Inv (X.fix cn) pins σ (Jo1 X cn s.heap H) s) {j : Nat} {x : Str} {v : V} (h1 : X.N[j]? = some x) (h2 : σ[j]? = some (some v)) (hv : X.env.kindOf x = some .cell ∨ X.env.kindOf x = some .free) (hc : cn x = true) (hf : X.fn x = true) :
  ∃ b,X.env.cells.lookup x = some b ∧ CelAt (Jo1 X cn s.heap H) b v:=by
 obtain ⟨m,_,hl⟩:=I.loc
 have hvis : Vis X.env.scope x:=hv.elim (fun z=>.inr (.inl z)) fun z=>.inr (.inr z)
 obtain ⟨u,r,l⟩:=hl j x v h1 h2 hvis
 rcases l with ⟨k,_⟩ | ⟨k,b,e,o,ho,hd⟩
 ·rcases hv with z | z
  ·rw [k] at z; cases z
  ·rw [k] at z; cases z
 ·exact ⟨b,e,o,u,Jrk hc hf e ho,hd,r⟩
end
def Fin (X : Cx) (H : Hp) (s : Shared) : Prop:=s.os = X.s₀.os ∧ AllBare s.gens ∧ Un X.fs X.ex X.H₀ H X.s₀.heap s.heap ∧ HOk X.prog X.w H s.heap
theorem Inv.fin {X : Cx} {pins : List (Addr × Obj)} {σ : St} {H : Hp} {s : Shared} (I : Inv X pins σ H s) : Fin X H s:=⟨I.os,I.bare,I.base,I.hok⟩
def SB (X : Cx) (D : Ends) (f : Flow) (s' : Shared) : Prop :=
 match f with
 | .next=>∃ σ' H', Fin X H' s' ∧ D.nx σ' H'
 | .brk=>∃ σ' H', Fin X H' s' ∧ D.bk σ' H'
 | .cont=>∃ σ' H', Fin X H' s' ∧ D.ct σ' H'
 | .ret u=>∃ v H', Fin X H' s' ∧ RelV v u ∧ D.rt v H'
theorem SP.sb {X : Cx} {pins : List (Addr × Obj)} {D : Ends} {f : Flow} {s' : Shared} (h : SP X pins D f s') : SB X D f s':=by
 cases f with
 | next=>obtain ⟨σ', H', I,q⟩:=h; exact ⟨σ', H', I.fin,q⟩
 | brk=>obtain ⟨σ', H', I,q⟩:=h; exact ⟨σ', H', I.fin,q⟩
 | cont=>obtain ⟨σ', H', I,q⟩:=h; exact ⟨σ', H', I.fin,q⟩
 | ret u=>obtain ⟨v,σ', H', I,r,q⟩:=h; exact ⟨v,H', I.fin,r,q⟩
def PB (X : Cx) (st : List Stmt) (t : TS) : Prop :=
 ∀ (pins : List (Addr × Obj)) (s : Shared) (σ : St) (H : Hp) (D : Ends),Inv X pins σ H s → t D σ H → wpAny (model X.prog X.w) X.A (execs st X.env) (SB X D) X.xe s
section
variable {X : Cx} {st : Stmt} {rest : List Stmt} {t u : TS}
theorem PSs.pb {l : List Stmt} (h : PSs X l t) : PB X l t:=fun pins s σ H D I q=>thn (h pins s σ H D I q) fun _ _ z=>z.sb
theorem Jok (h1 : PS X st t) (h2 : PB X rest u) : PB X (st :: rest) (tSeq t u):=by
 intro pins s σ H D I h
 refine wpAny_execs_cons (thn (h1 pins s σ H { D with nx:=u D } I h) fun f s1 q=>?_)
 cases f with
 | next =>
  obtain ⟨σ', H', I', q⟩:=q
  exact h2 pins s1 σ' H' D I' q
 | ret v=>exact SP.sb (D:=D) q
 | brk=>exact SP.sb (D:=D) q
 | cont=>exact SP.sb (D:=D) q
theorem PB.nox {l : List Stmt} (h : PB X.nox l t) : PB X l t:=fun pins s σ H D I q=>wpAny_mono (h pins s σ H D (I.wish _) q) (fun f _ z=>by cases f <;> exact z) fun _ _ z=>False.elim z
end
theorem Jkv {cells : List (Str × Addr)} {x : Str} {b : Addr} : ∀ (ns : List (Str × NameKind)) (acc : List (Str × Addr)),(Jk4 cells ns acc).lookup x = some b → acc.lookup x = none → (x,NameKind.free) ∈ ns
 | [],_,e,n=>by unfold Jk4 at e; rw [n] at e; cases e
 | (y,k) :: r,acc,e,n=>by
  unfold Jk4 at e
  by_cases hk : (k == NameKind.free) = true
  ·rw [if_pos hk] at e
   have hk' : k = .free:=by simpa using hk
   subst hk'
   by_cases hx : x = y
   ·subst hx; exact List.mem_cons_self
   ·cases hc : cells.lookup y with
    | none=>rw [hc] at e; exact List.mem_cons_of_mem _ (Jkv r acc e n)
    | some d =>
     rw [hc] at e
     refine List.mem_cons_of_mem _ (Jkv r _ e ?_)
     rw [List.lookup_cons,beq_eq_false_iff_ne.mpr hx]
     exact n
  ·rw [if_neg hk] at e
   exact List.mem_cons_of_mem _ (Jkv r acc e n)
def Jne (s : Stmt) : Pos:=match s with
 | .FunctionDef _ _ _ _ _ _ _ _ _ p=>p
 | _=>⟨0,0,0,0⟩
def tDef (P : Addr) (lb : Array (Nat × Nat × Str)) (i : Nat) (name qual : Str) (st : Stmt) (caps : List (Str × Nat)) (t : TS) : TS:=fun D σ H=>H P = some (.tbl lb) ∧ ∃ vs : List V,(∀ y ∈ caps.zip vs,σ[y.1.2]? = some (some y.2)) ∧ caps.length = vs.length ∧
 ∀ f H', Same H H' → H f = none → CloAt H' f name qual st ((caps.map (·.1)).zip vs) → t D (σ.set i (some (.ref f))) H'
section
variable {X : Cx} {rest : List Stmt} {t : TS} {st : Stmt} {name qual : Str} {i : Nat} {c P : Addr} {lb : Array (Nat × Nat × Str)} {caps : List (Str × Nat)}
theorem Jw0 {f₀ : Addr} (n : Nst X.K f₀ c P) (B : Bmn X.mg X.base) (hcd : X.env.code = .ref c) (hst : st = .FunctionDef name (Jj2 st) (Jiv st) [] none [] (Ji6 st) none name (Jne st))
  (hd : (Jj2 st).defaults = []) (hk : (Jj2 st).kw_defaults = []) (ha : annTrees (Jj2 st) none X.env = []) (hq : qualnameIn X.env name name = qual) (hm : ((Jne st).line,(Jne st).col,qual) ∈ lb) (hu : ∀ q,((Jne st).line,(Jne st).col,q) ∈ lb → q = qual)
  (hN : X.N.Nodup) (hi : X.N[i]? = some name) (hx : X.env.scope.names.lookup name = some .local)
  (hcap : ∀ y ∈ caps,X.N[y.2]? = some y.1 ∧ y.2 ≠ i ∧ (Ji6 st).names.lookup y.1 = some .free ∧ X.fn y.1 = true ∧ X.env.scope.names.lookup y.1 = some .cell)
  (hall : ∀ y ∈ (Ji6 st).names,y.2 = .free → y.1 ∈ caps.map (·.1))
  (hr : PB (X.fix fun x=>(caps.map (·.1)).contains x) rest t) : PB X (st :: rest) (tDef P lb i name qual st caps t):=by
 intro pins s σ H D I h
 obtain ⟨ht,vs,hvs,hlen,h⟩:=h
 have hcel : ∀ y ∈ caps,X.env.scope.names.lookup y.1 = some .cell:=fun y hy=>(hcap y hy).2.2.2.2
 have hfr : ∀ y ∈ (Ji6 st).names,y.2 = .free → ∃ b,X.env.cells.lookup y.1 = some b:=fun y hy hyf=>by
  obtain ⟨z,hz,ez⟩:=List.mem_map.mp (hall y hy hyf)
  rw [← ez]
  exact I.ok.has z.1 (.inl (hcel z hz))
 have hcl:=Jmp (env:=X.env) hfr
 refine wpAny_execs_cons ?_
 rw [hst]
 refine PySem.W.nestDef_K hd hk ha ?_
 rw [hq]
 refine Jvh I hcd (n.code I.mod.kin) B ht hm hu hcl fun s1 f c' H1 I1 s01 hf hclo hcod=>?_
 refine Jmi I1 hN hi (.inl hx) (v:=.ref f) rfl (fun s2 I2=>?_) (.inr hx)
 obtain ⟨J,sJ⟩:=I2.fix (fun x=>(caps.map (·.1)).contains x)
 have hS:=s01.trans sJ
 have hin : ∀ x b,(Jk4 X.env.cells (Ji6 st).names []).lookup x = some b → X.env.cells.lookup x = some b:=fun x b e=>Jkq (cells:=X.env.cells) _ [] (fun x c e=>by simp at e) x b e
 have cel : ∀ (k : Nat) (y : Str × Nat) (v : V),caps[k]? = some y → vs[k]? = some v → ∃ b,X.env.cells.lookup y.1 = some b ∧ CelAt (Jo1 X (fun x=>(caps.map (·.1)).contains x) s2.heap H1) b v:=fun k y v e1 e2=>by
  have hy:=List.mem_of_getElem? e1
  obtain ⟨c1,c2,c3,c4,_⟩:=hcap y hy
  have hσ : σ[y.2]? = some (some v):=hvs (y,v) (List.mem_of_getElem? (i:=k) (by rw [List.getElem?_zip_eq_some]; exact ⟨e1,e2⟩))
  refine I2.celAt J c1 (by rw [List.getElem?_set_ne (Ne.symm c2)]; exact hσ) (.inl (hcel y hy)) ?_ c4
  exact List.contains_iff_mem.mpr (List.mem_map_of_mem hy)
 refine hr pins s2 _ _ D J (h f _ hS hf ⟨_,c', sJ _ _ hclo,sJ _ _ hcod,fun x y b h1 h2=>I.ok.inj x y b ?_ ?_,fun y hy hyf=>?_,fun x b e=>?_,fun x v e=>?_⟩)
 ·exact hin x b h1
 ·exact hin y b h2
 ·have hh:=Jkf (cells:=X.env.cells) (x:=y.1) (Ji6 st).names [] (by rw [← hyf]; exact hy) (hfr y hy hyf)
  exact Option.isSome_iff_exists.mp hh
 ·obtain ⟨y,hy,rfl⟩:=List.mem_map.mp (hall (x,.free) (Jkv (Ji6 st).names [] e (by simp)) rfl)
  obtain ⟨k,hk⟩:=List.getElem?_of_mem hy
  have hk' : k < vs.length:=by rw [← hlen]; exact (List.getElem?_eq_some_iff.mp hk).1
  obtain ⟨b', e1,e2⟩:=cel k y vs[k] hk (List.getElem?_eq_getElem hk')
  have e3:=hin _ _ e
  rw [e1] at e3; cases e3
  exact ⟨_,e2⟩
 ·obtain ⟨k,hk⟩:=List.getElem?_of_mem e
  rw [List.getElem?_zip_eq_some,List.getElem?_map] at hk
  obtain ⟨k1,k2⟩:=hk
  cases hy : caps[k]? with
  | none=>rw [hy] at k1; cases k1
  | some y =>
   rw [hy] at k1
   cases k1
   obtain ⟨b,e1,e2⟩:=cel k y v hy k2
   have hm:=List.mem_of_getElem? hy
   have hh:=Jkf (cells:=X.env.cells) (x:=y.1) (Ji6 st).names [] (PySem.mem_of_lookup (hcap y hm).2.2.1) ⟨b,e1⟩
   obtain ⟨b', e3⟩:=Option.isSome_iff_exists.mp hh
   have e4:=hin _ _ e3
   rw [e1] at e4; cases e4
   exact ⟨_,e3,e2⟩
end
end L2
namespace L2
open PySem PySem.Spec PyProof.Rows
theorem Fun.okN {CX : CXT} {P : Program} {w : World} {K : PySem.W.Frag} {mg : Str → Option Value} {base : Heap} {x qual : Str} {st : Stmt} {f c T : Addr} {fd : FuncData} {N ps : List Str} {k : Nat} {sp : Sp} (F : Fun K x qual st f fd) (n : Nst K f c T) (S : Jic N ps (Ji6 st)) (len : ∀ vs H Q E,sp vs H Q E → vs.length = ps.length)
  (hbody : ∀ (A : Around) (outer : List Env) (s : Shared) (H : Hp) (vs : List V) (Q : VK) (E : XK),Room k (A.deeper (envOfC qual (Ji6 st) s.heap.objs.size f (.ref c))) → sp vs H Q E →
   ∃ t,PB (Jqz CX P w K mg base N qual (Ji6 st) f (.ref c) A outer s H E) (Jiv st) t ∧ t { nx:=fun _ H'=>Q .non H', rt:=Q } (start N vs) H) : FnOk P w K mg base CX (k + 1) f fd ps sp:=by
 obtain ⟨oc,od,kV,doc,pm,an,cdv,ct,osl,rfl,lk,hcd⟩:=F.ex
 have ec : cdv = .ref c:=by
  obtain ⟨oc', od', fd', sl', l', e'⟩:=n.fn
  rw [lk] at l'; cases l'
  exact e'
 subst ec
 refine ⟨len,fun A outer s H args us vs Q E hr e0 hb r hsp=>?_⟩
 have hl:=len _ _ _ _ hsp
 have KX : K.In s.heap:=e0.mod.kin.keeps fun b o e=>(e0.bs b o e).1
 have lim : s.heap.NoLimit:=e0.mod.nolimit.keeps fun b o e=>(e0.bs b o e).1
 refine codeAny_call_function hr.depth (KX _ _ lk) rfl S.co S.gen rfl (PySem.W.codeRec_of KX hcd) (hb _ _ _ _ ?_)
 refine wpAny_newFunctionEnv_cells S.kind (fun ⟨y,v⟩ hy=>?_) fun env he s1 z=>?_
 ·exact (S.par y (List.of_mem_zip hy).1).imp id fun q=>⟨q,PySem.W.cellsFrom_some _ _ _ (.inl q)⟩
 subst he
 refine ⟨lim.keeps z.toInCall.keep,codeAny_func ?_⟩
 obtain ⟨t,ht,hq⟩:=hbody A outer s H vs Q E (hr.deeper _) hsp
 refine wpAny_mono (ht [] s1 (start N vs) H _ (Jqe S hr.hd e0 hl r z) hq) (fun fl s' hs=>?_) fun e s' hs=>hs
 cases fl with
 | ret u =>
  obtain ⟨v,H', ⟨a1,a2,a3,a4⟩,rv,q⟩:=hs
  exact ⟨v,H', a1,a2,a3,a4,rv,q⟩
 | next =>
  obtain ⟨σ', H', ⟨a1,a2,a3,a4⟩,q⟩:=hs
  exact ⟨.non,H', a1,a2,a3,a4,rfl,q⟩
 | brk =>
  obtain ⟨_,_,_,q⟩:=hs
  exact False.elim q
 | cont =>
  obtain ⟨_,_,_,q⟩:=hs
  exact False.elim q
theorem Jkh : ∀ (ns : List (Str × NameKind)) (n : Nat) (acc : List (Str × Addr)),cellsFrom n ns acc = cellsFrom n ns [] ++ acc
 | [],_,_=>rfl
 | (x,k) :: r,n,acc=>by
  unfold cellsFrom
  split
  ·rw [Jkh r (n + 1) ((x,n) :: acc),Jkh r (n + 1) [(x,n)],List.append_assoc]
   rfl
  ·exact Jkh r n acc
theorem Jld {x : Str} {b : Addr} : ∀ (ns : List (Str × NameKind)) (n : Nat) (acc : List (Str × Addr)),(cellsFrom n ns acc).lookup x = some b → acc.lookup x = none → (x,NameKind.cell) ∈ ns
 | [],_,_,e,m=>by unfold cellsFrom at e; rw [m] at e; cases e
 | (y,k) :: r,n,acc,e,m=>by
  unfold cellsFrom at e
  split at e
  ·rename_i hk
   have hk' : k = .cell:=by simpa using hk
   subst hk'
   by_cases hx : x = y
   ·subst hx; exact List.mem_cons_self
   ·refine List.mem_cons_of_mem _ (Jld r _ _ e ?_)
    rw [List.lookup_cons,beq_eq_false_iff_ne.mpr hx]
    exact m
  ·exact List.mem_cons_of_mem _ (Jld r _ _ e m)
theorem Jkg {α β : Type} [BEq α] {x : α} : ∀ (l m : List (α × β)),(l ++ m).lookup x = (l.lookup x).or (m.lookup x)
 | [],_=>rfl
 | (y,v) :: r,m=>by
  rw [List.cons_append,List.lookup_cons,List.lookup_cons]
  split
  ·rfl
  ·exact Jkg r m
section
variable {M : Model} {A : Around} {E : Value → Shared → Prop} {s₀ s : Shared} {m cm : Str → Option Value} {env : Env} {cs : List (Str × Addr)}
theorem Jso (f : Str × Value → PUnit → Sem (ForInStep PUnit)) (hf : ∀ n v u,f (n,v) u = (do storeName env n v; pure (.yield ⟨⟩))) (hk : env.scope.kind = .function) (sub : ∀ n c,cs.lookup n = some c → env.cells.lookup n = some c) :
  ∀ (bs : List (Str × Value)) (m cm : Str → Option Value) (s : Shared) (Q : PUnit → Shared → Prop),InCallC s₀ env.locals m cs cm s → (∀ x ∈ bs,env.kindOf x.1 = some .local ∨ (env.kindOf x.1 = some .cell ∧ (cs.lookup x.1).isSome = true)) →
   (∀ s', InCallC s₀ env.locals (bindL env.kindOf bs m) cs (bindC env.kindOf bs cm) s' → Q ⟨⟩ s') → wpAny M A (forIn bs ⟨⟩ f) Q E s
 | [],m,cm,s,Q,x,_,h=>by rw [List.forIn_nil]; exact wpAny_pure (h s x)
 | (n,v) :: r,m,cm,s,Q,x,hb,h=>by
  rw [List.forIn_cons,hf]
  have hr:=fun y hy=>hb y (List.mem_cons_of_mem (n,v) hy)
  obtain ⟨h0,t0,e0⟩:=x.toInCall.same
  rcases hb (n,v) List.mem_cons_self with hl | ⟨hl,hc⟩
  ·refine wpAny_bind (wpAny_bind (wpAny_storeName_local hl x.toInCall.ns (fun h' hn hs=>wpAny_pure (Jso f hf hk sub r (fun y=>if y = n then some v else m y) cm _ Q ⟨⟨?_,hn,fun b o z=>?_,x.toInCall.fresh⟩,fun k c z=>?_,x.apart,x.above⟩ hr fun s'' x''=>h s'' ?_)) (by rw [hk]; rfl)))
   ·rw [e0]; exact ⟨h', _,rfl⟩
   ·exact hs.extBut b o (Nat.ne_of_lt (Nat.lt_of_lt_of_le (Heap.lt_size z) x.toInCall.fresh)) (x.toInCall.keep b o z)
   ·exact (x.cell k c z).sameBut hs (Nat.ne_of_gt (x.above k c (mem_of_lookup z)))
   ·unfold bindL bindC; rw [if_pos hl,if_pos hl]; exact x''
  ·obtain ⟨c,hc⟩:=Option.isSome_iff_exists.mp hc
   have hnl : ¬ env.kindOf n = some .local:=by rw [hl]; decide
   have hL:=x.above n c (mem_of_lookup hc)
   refine wpAny_bind (wpAny_bind (wpAny_storeName_cell hk hl (sub n c hc) (x.cell n c hc) fun h' hn hs=>wpAny_pure (Jso f hf hk sub r m (fun y=>if y = n then some v else cm y) _ Q ⟨⟨?_,x.toInCall.ns.sameBut hs (Nat.ne_of_lt hL),fun b o z=>?_,x.toInCall.fresh⟩,fun k c' z=>?_,x.apart,x.above⟩ hr fun s'' x''=>h s'' ?_)))
   ·rw [e0]; exact ⟨h', _,rfl⟩
   ·exact hs.extBut b o (Nat.ne_of_lt (Nat.lt_trans (Nat.lt_of_lt_of_le (Heap.lt_size z) x.toInCall.fresh) hL)) (x.toInCall.keep b o z)
   ·by_cases w' : k = n
    ·subst w'
     rw [hc] at z; cases z
     simpa using hn
    ·rw [if_neg w']
     exact (x.cell k c' z).sameBut hs fun e=>w' (name_of_addr x.apart (mem_of_lookup z) (e ▸ mem_of_lookup hc))
   ·unfold bindL bindC; rw [if_neg hnl,if_neg hnl]; exact x''
theorem Jxg {scope : Scope} {globals : Addr} {clos : List (Str × Addr)} {bs : List (Str × Value)} {qual : Str} {func : Option Addr} {code : Value} {builtins : Addr} {Q : Env → Shared → Prop} (hk : scope.kind = .function)
  (hb : ∀ x ∈ bs,scope.names.lookup x.1 = some .local ∨ (scope.names.lookup x.1 = some .cell ∧ ((cellsFrom (s.heap.objs.size + 1) scope.names []).lookup x.1).isSome = true))
  (hQ : ∀ env,env = newEnv scope s.heap.objs.size globals (cellsFrom (s.heap.objs.size + 1) scope.names [] ++ clos) qual func code none builtins →
   ∀ s', InCallC s env.locals (bindL env.kindOf bs fun _=>none) (cellsFrom (s.heap.objs.size + 1) scope.names []) (bindC env.kindOf bs fun _=>none) s' → Q env s') :
  wpAny M A (newFunctionEnv scope globals clos bs qual func code none builtins) Q E s:=by
 simp only [newFunctionEnv,Option.isSome_none,Bool.false_eq_true,if_false]
 refine wpAny_bind (wpAny_alloc (wpAny_bind (wpAny_layCells _ (fun n kd cl=>by cases h : kd == NameKind.cell <;> simp [h]) _ _ _ _ ?_)))
 have z : ({ s with heap:=s.heap.push { cls:=.type "frame",data:=.dict #[] } } : Shared).heap.objs.size = s.heap.objs.size + 1:=Heap.size_push ..
 rw [z,Jkh]
 have ok:=cellsFrom_ok scope.names (s.heap.push { cls:=.type "frame",data:=.dict #[] }) (s.heap.objs.size + 1) [] ⟨fun _ _ hm=>(nomatch hm),.nil⟩ (Nat.le_of_eq z.symm)
 rw [show (s.heap.push { cls:=.type "frame",data:=.dict #[] }).objs.size = s.heap.objs.size + 1 from Heap.size_push ..] at ok
 refine wpAny_bind (Jso (s₀:=s) (cs:=cellsFrom (s.heap.objs.size + 1) scope.names []) (env:=newEnv scope s.heap.objs.size globals (cellsFrom (s.heap.objs.size + 1) scope.names [] ++ clos) qual func code none builtins) _ (fun _ _ _=>rfl) hk (fun n c e=>?_) bs (fun _=>none) (fun _=>none) _ _ ?_ hb fun s' x=>wpAny_pure (hQ _ rfl s' x))
 ·show (cellsFrom (s.heap.objs.size + 1) scope.names [] ++ clos).lookup n = some c
  rw [Jkg,e]; rfl
 ·exact ⟨⟨⟨_,_,rfl⟩,(Heap.Ns.new s.heap (.type "frame")).keeps (pushCells_keeps _ _),fun b o e=>pushCells_keeps _ _ b o (Heap.get?_push_of_some _ e),Nat.le_refl _⟩,fun n c hc=>(ok.empty n c (mem_of_lookup hc)).1,ok.apart,fun n c hm=>(ok.empty n c hm).2⟩
end
end L2
namespace L2
open PySem PySem.Spec PyProof.Rows
structure Jlt (N ps fr : List Str) (sc : Scope) : Prop where
 kind : sc.kind = .function
 co : sc.isCoroutine = false
 gen : sc.isGenerator = false
 nd : N.Nodup
 pre : N.take (ps.length + fr.length) = ps ++ fr
 par : ∀ x ∈ ps,sc.names.lookup x = some .local ∨ sc.names.lookup x = some .cell
 frs : ∀ x ∈ fr,sc.names.lookup x = some .free
 nof : ∀ y ∈ sc.names,y.2 = .cell → sc.names.lookup y.1 = some .cell
def Jtk (CX : CXT) (P : Program) (w : World) (K : PySem.W.Frag) (mg : Str → Option Value) (base : Heap) (N : List Str) (qual : Str) (scope : Scope) (clos : List (Str × Addr)) (f : Addr) (cd : Value) (A : Around) (outer : List Env) (s : Shared) (H : Hp) (E : XK) : Cx where
 prog:=P
 w:=w
 K:=K
 mg:=mg
 base:=base
 A:=A.deeper (PySem.W.envX qual scope s.heap.objs.size f cd (cellsFrom (s.heap.objs.size + 1) scope.names [] ++ clos))
 N:=N
 s₀:=s
 H₀:=H
 env:=PySem.W.envX qual scope s.heap.objs.size f cd (cellsFrom (s.heap.objs.size + 1) scope.names [] ++ clos)
 outer:=outer
 stack:=PySem.W.envX qual scope s.heap.objs.size f cd (cellsFrom (s.heap.objs.size + 1) scope.names [] ++ clos) :: outer
 ex:=[]
 calm:=true
 fn:=fun x=>decide (scope.names.lookup x = some .cell)
 pn:=[]
 xe:=fun e s'=>wpAny (model P w) (A.deeper (PySem.W.envX qual scope s.heap.objs.size f cd (cellsFrom (s.heap.objs.size + 1) scope.names [] ++ clos))) (leaving (PySem.W.envX qual scope s.heap.objs.size f cd (cellsFrom (s.heap.objs.size + 1) scope.names [] ++ clos)) e) (fun _ s''=>CX outer H s E e s'') (fun e' s''=>CX outer H s E e' s'') s'
theorem Jv3 {N : List Str} {vs : List V} {i : Nat} {v : V} (h : (start N vs)[i]? = some (some v)) : vs[i]? = some v:=by
 unfold start at h
 by_cases hi : i < vs.length
 ·rw [List.getElem?_append_left (by simpa using hi),List.getElem?_map] at h
  cases e : vs[i]? with
  | none=>rw [e] at h; cases h
  | some a=>rw [e] at h; cases h; rfl
 ·rw [List.getElem?_append_right (by simpa using hi),List.getElem?_replicate] at h
  split at h <;> cases h
theorem Jsr {CX : CXT} {P : Program} {w : World} {K : PySem.W.Frag} {mg : Str → Option Value} {base : Heap} {N ps fr : List Str} {qual : Str} {scope : Scope} {clos : List (Str × Addr)} {f : Addr} {cd : Value} {A : Around} {outer : List Env} {s s1 : Shared} {H : Hp} {E : XK} {us : List Value} {vs cs : List V}
  (S : Jlt N ps fr scope) (hd : A.handled = none) (e0 : Env0 P w K mg base A outer s H) (hl : vs.length = ps.length) (hlc : cs.length = fr.length) (r : Vals vs us)
  (inj : ∀ x y b,clos.lookup x = some b → clos.lookup y = some b → x = y) (has : ∀ y ∈ scope.names,y.2 = .free → ∃ b,clos.lookup y.1 = some b) (cel : ∀ x b,clos.lookup x = some b → ∃ v,CelAt H b v) (cap : ∀ x v,(x,v) ∈ fr.zip cs → ∃ b,clos.lookup x = some b ∧ CelAt H b v)
  (x : InCallC s s.heap.objs.size (bindL (PySem.W.envX qual scope s.heap.objs.size f cd (cellsFrom (s.heap.objs.size + 1) scope.names [] ++ clos)).kindOf (ps.zip us) fun _=>none) (cellsFrom (s.heap.objs.size + 1) scope.names []) (bindC (PySem.W.envX qual scope s.heap.objs.size f cd (cellsFrom (s.heap.objs.size + 1) scope.names [] ++ clos)).kindOf (ps.zip us) fun _=>none) s1) :
  Inv (Jtk CX P w K mg base N qual scope clos f cd A outer s H E) [] (start N (vs ++ cs)) H s1:=by
 have hpl : ps.length + fr.length ≤ N.length:=by have:=congrArg List.length S.pre; rw [List.length_take,List.length_append] at this; omega
 obtain ⟨h1,tk,rfl,hk⟩:=x.done
 have noA : ∀ b : Addr,b ∉ (Jtk CX P w K mg base N qual scope clos f cd A outer s H E).ex:=fun b z=>absurd (show b ∈ ([] : List Addr) from z) (by simp)
 have cobj : ∀ b v,CelAt H b v → ∃ o u,H b = some (celF o) ∧ s.heap.get? b = some o ∧ o.data = .cell (some u) ∧ RelV v u:=fun b v ⟨o,u,q1,q2,q3⟩=>⟨o,u,q1,(e0.hok b _ q1).1,q2,q3⟩
 have two : ∀ y b,(cellsFrom (s.heap.objs.size + 1) scope.names [] ++ clos).lookup y = some b → (cellsFrom (s.heap.objs.size + 1) scope.names []).lookup y = some b ∨ ((cellsFrom (s.heap.objs.size + 1) scope.names []).lookup y = none ∧ clos.lookup y = some b):=fun y b e=>by
  rw [Jkg] at e
  cases q : (cellsFrom (s.heap.objs.size + 1) scope.names []).lookup y with
  | none=>rw [q] at e; exact .inr ⟨rfl,e⟩
  | some d=>rw [q] at e; exact .inl e
 have low : ∀ y b,clos.lookup y = some b → b < s.heap.objs.size:=fun y b e=>by
  obtain ⟨v,q⟩:=cel y b e
  obtain ⟨o,u,_,q2,_⟩:=cobj b v q
  exact Heap.lt_size q2
 have high : ∀ y b,(cellsFrom (s.heap.objs.size + 1) scope.names []).lookup y = some b → s.heap.objs.size < b:=fun y b e=>x.above y b (PySem.mem_of_lookup e)
 refine ⟨⟨e0.mod,S.kind,rfl,rfl,Nat.le_refl _,fun y z c h1 h2=>?_,fun y hy=>?_,fun y c hy h=>?_,fun _=>hd,Around.frames_deeper e0.frames,.inr ⟨rfl,rfl⟩,fun b z=>absurd z (noA b),e0.bs,e0.bsz,fun b _ _=>noA b,fun b z=>absurd z (noA b),e0.funs,e0.frf⟩,
  rfl,e0.bare,Un.kept hk,⟨_,x.toInCall.ns,fun i y v h1 h2 h3=>?_⟩,fun y c h=>?_,e0.hok.fresh (Nat.le_refl _),fun y c h=>?_,fun p hp=>absurd (show p ∈ ([] : List (Addr × Obj)) from hp) (by simp),e0.hok.kept hk,?_⟩
 ·rcases two y c h1 with a | ⟨_,a⟩
  ·rcases two z c h2 with b | ⟨_,b⟩
   ·exact name_of_addr x.apart (PySem.mem_of_lookup a) (PySem.mem_of_lookup b)
   ·exact absurd (Nat.lt_trans (high y c a) (low z c b)) (Nat.lt_irrefl _)
  ·rcases two z c h2 with b | ⟨_,b⟩
   ·exact absurd (Nat.lt_trans (high z c b) (low y c a)) (Nat.lt_irrefl _)
   ·exact inj y z c a b
 ·have hy : scope.names.lookup y = some .cell ∨ scope.names.lookup y = some .free:=hy
  show ∃ c,(cellsFrom (s.heap.objs.size + 1) scope.names [] ++ clos).lookup y = some c
  rw [Jkg]
  cases q : (cellsFrom (s.heap.objs.size + 1) scope.names []).lookup y with
  | some d=>exact ⟨d,rfl⟩
  | none =>
   rcases hy with hy | hy
   ·obtain ⟨c,e⟩:=Jl5 (n:=s.heap.objs.size + 1) hy
    rw [q] at e; cases e
   ·exact has _ (PySem.mem_of_lookup hy) rfl
 ·rcases two y c h with a | ⟨a,_⟩
  ·exact Nat.le_of_lt (high y c a)
  ·have hy' : decide (scope.names.lookup y = some .cell) = true:=hy
   obtain ⟨c', e⟩:=Jl5 (n:=s.heap.objs.size + 1) (of_decide_eq_true hy')
   rw [a] at e; cases e
 ·have ha:=Jv3 h2
  have h1 : N[i]? = some y:=h1
  have hi : i < vs.length + cs.length:=by have:=(List.getElem?_eq_some_iff.mp ha).1; rw [List.length_append] at this; exact this
  have hp : (ps ++ fr)[i]? = some y:=by rw [← S.pre,List.getElem?_take_of_lt (by omega)]; exact h1
  by_cases hv : i < vs.length
  ·rw [List.getElem?_append_left hv] at ha
   rw [List.getElem?_append_left (by omega)] at hp
   obtain ⟨u,hu,rv⟩:=r.get ha
   have ndP : ps.Nodup:=(List.nodup_append.mp (by rw [← S.pre]; exact S.nd.sublist (List.take_sublist _ _))).1
   refine ⟨u,rv,?_⟩
   rcases S.par y (List.mem_of_getElem? hp) with k | k
   ·exact .inl ⟨k,Jno ndP hp hu k⟩
   ·obtain ⟨c,e⟩:=Jl5 (n:=s.heap.objs.size + 1) k
    refine .inr ⟨.inl k,c,?_,?_⟩
    ·show (cellsFrom (s.heap.objs.size + 1) scope.names [] ++ clos).lookup y = some c
     rw [Jkg,e]; rfl
    ·have q:=x.cell y c e
     rw [Jnn ndP hp hu (by show scope.names.lookup y ≠ _; rw [k]; decide)] at q
     exact q
  ·rw [List.getElem?_append_right (by omega)] at ha
   rw [List.getElem?_append_right (by omega)] at hp
   obtain ⟨b,e1,e2⟩:=cap y v (List.mem_of_getElem? (i:=i - vs.length) (by rw [List.getElem?_zip_eq_some]; exact ⟨by rw [hl]; exact hp,ha⟩))
   have kf:=S.frs y (List.mem_of_getElem? hp)
   obtain ⟨o,u,_,q2,q3,q4⟩:=cobj b v e2
   refine ⟨u,q4,.inr ⟨.inr kf,b,?_,o,hk _ _ q2,q3⟩⟩
   show (cellsFrom (s.heap.objs.size + 1) scope.names [] ++ clos).lookup y = some b
   rw [Jkg]
   cases q : (cellsFrom (s.heap.objs.size + 1) scope.names []).lookup y with
   | none=>exact e1
   | some d =>
    have:=S.nof _ (Jld scope.names _ [] q rfl) rfl
    rw [kf] at this; cases this
 ·rcases two y c h with a | ⟨_,a⟩
  ·exact ⟨_,x.cell y c a⟩
  ·obtain ⟨v,q⟩:=cel y c a
   obtain ⟨o,u,_,q2,q3,_⟩:=cobj c v q
   exact ⟨_,o,hk _ _ q2,q3⟩
 ·rcases two y c h with a | ⟨a1,a⟩
  ·exact .inl (e0.hok.fresh (Nat.le_of_lt (high y c a)))
  ·obtain ⟨v,q⟩:=cel y c a
   obtain ⟨o,u,q1,_⟩:=cobj c v q
   refine .inr ⟨decide_eq_false fun z=>?_,o,q1⟩
   obtain ⟨c', e⟩:=Jl5 (n:=s.heap.objs.size + 1) z
   rw [a1] at e; cases e
 ·unfold start
  show _ = N.length
  rw [List.length_append,List.length_map,List.length_replicate,List.length_append]
  omega
structure Jq6 (P : Program) (w : World) (K : PySem.W.Frag) (mg : Str → Option Value) (base : Heap) (CX : CXT) (k : Nat) (f : Addr) (sp : Sp) : Prop where
 isf : ∀ vs H Q E,sp vs H Q E → IsF H f
 run : ∀ (A : Around) (outer : List Env) (s : Shared) (H : Hp) (us : List Value) (vs : List V) (Q : VK) (E : XK),Room k A → Env0 P w K mg base A outer s H → Vals vs us → sp vs H Q E → codeAny (model P w) A (.call (.ref f) ⟨us,[]⟩) (CR CX outer P w H s Q E) s
def Ju2 (name qual : Str) (st : Stmt) (fr : List Str) (sp : List V → Sp) (f : Addr) : Sp:=fun vs H Q E=>∃ cs,CloAt H f name qual st (fr.zip cs) ∧ sp cs vs H Q E
theorem clo_of {CX : CXT} {P : Program} {w : World} {K : PySem.W.Frag} {mg : Str → Option Value} {base : Heap} {k : Nat} {name qual : Str} {st : Stmt} {N ps fr : List Str} {sp : List V → Sp} (S : Jlt N ps fr (Ji6 st))
  (hb : ∀ (clos : List (Str × Addr)) (doc pm : Value) (c : Addr) (ct : Value) (us : List Value),us.length = ps.length → bindArgs (PySem.W.fnX name qual (Jj2 st) (Jiv st) (Ji6 st) clos .none .none doc pm none (.ref c) ct) ⟨us,[]⟩ = pure (ps.zip us))
  (len : ∀ cs vs H Q E,sp cs vs H Q E → vs.length = ps.length ∧ cs.length = fr.length)
  (hbody : ∀ (f c : Addr) (clos : List (Str × Addr)) (A : Around) (outer : List Env) (s : Shared) (H : Hp) (vs cs : List V) (Q : VK) (E : XK),Room k (A.deeper (PySem.W.envX qual (Ji6 st) s.heap.objs.size f (.ref c) (cellsFrom (s.heap.objs.size + 1) (Ji6 st).names [] ++ clos))) → sp cs vs H Q E →
   ∃ t,PSs (Jtk CX P w K mg base N qual (Ji6 st) clos f (.ref c) A outer s H E) (Jiv st) t ∧ t { nx:=fun _ H'=>Q .non H', rt:=Q } (start N (vs ++ cs)) H) (f : Addr) :
  Jq6 P w K mg base CX (k + 1) f (Ju2 name qual st fr sp f):=by
 refine ⟨fun vs H Q E ⟨cs,h,_⟩=>h.isf,fun A outer s H us vs Q E hr e0 r ⟨cs,⟨clos,c,h1,h2,h3,h4,h5,h6⟩,hsp⟩=>?_⟩
 obtain ⟨hl,hlc⟩:=len _ _ _ _ _ hsp
 have hlu : us.length = ps.length:=by rw [← r.length]; exact hl
 have lim : s.heap.NoLimit:=e0.mod.nolimit.keeps fun b o e=>(e0.bs b o e).1
 obtain ⟨⟨doc,pm,ct,ho⟩,_⟩:=e0.hok f _ h1
 refine codeAny_call_function hr.depth ho rfl S.co S.gen rfl (show s.heap.CodeRec (.ref c) qual from e0.hok c _ h2) ?_
 rw [hb clos doc pm c ct us hlu]
 refine wpAny_pure (Jxg S.kind (fun ⟨y,v⟩ hy=>?_) fun env he s1 z=>?_)
 ·exact (S.par y (List.of_mem_zip hy).1).imp id fun q=>⟨q,PySem.W.cellsFrom_some _ _ _ (.inl q)⟩
 subst he
 refine ⟨lim.keeps z.toInCall.keep,codeAny_func ?_⟩
 obtain ⟨t,ht,hq⟩:=hbody f c clos A outer s H vs cs Q E (hr.deeper _) hsp
 refine wpAny_mono (ht [] s1 (start N (vs ++ cs)) H _ (Jsr S hr.hd e0 hl hlc r h3 h4 h5 h6 z) hq) (fun fl s' hs=>?_) fun e s' hs=>hs
 cases fl with
 | ret u =>
  obtain ⟨v,σ', H', J,rv,q⟩:=hs
  exact ⟨v,H', J.os,J.bare,J.base,J.hok,rv,q⟩
 | next =>
  obtain ⟨σ', H', J,q⟩:=hs
  exact ⟨.non,H', J.os,J.bare,J.base,J.hok,rfl,q⟩
 | brk =>
  obtain ⟨_,_,_,q⟩:=hs
  exact False.elim q
 | cont =>
  obtain ⟨_,_,_,q⟩:=hs
  exact False.elim q
def Jwm (i : Nat) (sp : Addr → Sp) (R : St → XK) (t : TA) : TE:=fun σ H Q=>∃ f,σ[i]? = some (some (.ref f)) ∧ t σ H fun vs H1=>sp f vs H1 Q (R σ)
section
variable {X : Cx} {CX : CXT} {k j i : Nat} {sp : Addr → Sp} {x : Str} {p pos : Pos} {e : Expr} {es : List Expr} {t : TA} {R : St → XK}
theorem Jpw (G : ∀ f,Jq6 X.prog X.w X.K X.mg X.base CX k f (sp f)) (hr : Room j X.A) (hk : k ≤ j) (hx : ∀ pins σ H s e s', Inv X pins σ H s → CX X.stack H s (R σ) e s' → X.xe e s') (ha : PA X (e :: es) t) (hN : X.N[i]? = some x) (hv : Vis X.env.scope x)
  (hd : (x == ("__debug__" : Str)) = false) (hcd : (x == ("__classdict__" : Str)) = false) (he : starEach (e :: es) X.env = (false,eval e X.env) :: starEach es X.env) (hpl : (backTo pos (starEach es X.env)).any (·.1) = false) :
  PE X (.Call (.Name x p) (e :: es) [] pos) (Jwm i sp R t):=by
 intro pins s σ H Q I h
 obtain ⟨f,hf,h⟩:=h
 refine wpAny_Call_Name_kw (thn (Jw4 hN hv hd hcd pins s σ H (fun v H'=>v = .ref f ∧ H' = H) I ⟨_,hf,rfl,rfl⟩) fun u s1 ⟨v,H', I1,r,e1,e2⟩=>?_)
 subst e1 e2
 cases r
 have hat : ∀ {s2 : Shared} {H2 : Hp},Inv X pins σ H2 s2 → IsF H2 f → PySem.W.FnAt f s2.heap:=fun J ⟨name,qual,st,clos,c,z⟩=>by
  obtain ⟨⟨doc,pm,ct,q⟩,_⟩:=J.hok f _ z
  exact ⟨_,_,_,_,q⟩
 rw [he]
 refine PySem.W.callWith_of (P:=PySem.W.FnAt f) (by show ((false || (backTo pos (starEach es X.env)).any (·.1)) || false) = false; rw [hpl]; rfl) PySem.W.keeps_F (Calls.evalArgs_plain ?_)
 have ha':=ha pos pins s1 σ H' _ I1 h
 rw [he] at ha'
 refine thn ha' fun us s2 ⟨vs,H2,I2,r2,q2⟩=>⟨hat I2 ((G f).isf _ _ _ _ q2),?_⟩
 refine wpAny_call (codeAny_mono ((G f).run X.A X.stack s2 H2 us vs Q (R σ) (hr.mono hk) I2.env0 r2 q2) fun r s' hq=>?_)
 cases r with
 | error e=>exact hx pins σ H2 s2 e s' I2 hq
 | ok fl =>
  cases fl with
  | ret u=>exact I2.after hq
  | next=>exact False.elim hq
  | brk=>exact False.elim hq
  | cont=>exact False.elim hq
theorem Jm8 (G : ∀ f,Jq6 X.prog X.w X.K X.mg X.base CX0 k f (sp f)) (hr : Room j X.A) (hk : k ≤ j) (i : Nat) (ha : PA X (e :: es) t) (hN : X.N[i]? = some x:=by rfl) (hv : Vis X.env.scope x:=by first | exact Or.inl rfl | exact Or.inr (Or.inl rfl) | exact Or.inr (Or.inr rfl))
  (hd : (x == ("__debug__" : Str)) = false:=by decide) (hcd : (x == ("__classdict__" : Str)) = false:=by decide) (he : starEach (e :: es) X.env = (false,eval e X.env) :: starEach es X.env:=by rfl) (hpl : (backTo pos (starEach es X.env)).any (·.1) = false:=by rfl) :
  PE X (.Call (.Name x p) (e :: es) [] pos) (Jwm i sp (fun _=>E0) t):=Jpw G hr hk (fun _ _ _ _ _ _ _ z=>z.elim) ha hN hv hd hcd he hpl
end
end L2
namespace L2
open PySem PySem.Spec PyProof.Rows
theorem nst_mk {K : PySem.W.Frag} {f c P : Addr} {oc : Value} {od od' : Option Addr} {fd : FuncData} {sl sl' : Array (Option Value)} {vs : Array Value} (l : K.lookup f = some ⟨oc,od,.func fd,sl⟩) (e : fd.code = .ref c)
  (lc : K.lookup c = some ⟨.type "code",od', .fields vs,sl'⟩) (_ : vs[11]? = some (.ref P)) (hb : cdfB vs c P = true) : Nst K f c P:=⟨⟨oc,od,fd,sl,l,e⟩,⟨od', vs,sl', lc,hb⟩⟩
theorem Jqh {β : Type} : ∀ {l : List (Addr × β)},(l.map (·.1)).Nodup → ∀ p ∈ l,l.lookup p.1 = some p.2
 | q :: r,h,p,hp=>by
  have h' : (q.1 :: r.map (·.1)).Nodup:=h
  obtain ⟨h1,h2⟩:=List.nodup_cons.mp h'
  rw [List.lookup_cons]
  rcases List.mem_cons.mp hp with rfl | hp
  ·rw [beq_self_eq_true]
  ·have ne : (p.1 == q.1) = false:=beq_eq_false_iff_ne.mpr fun z=>h1 (by rw [← z]; exact List.mem_map_of_mem hp)
   rw [ne]
   exact Jqh h2 p hp
theorem Jp4 {β : Type} : ∀ {l : List (Addr × β)} {a : Addr} {v : β},l.lookup a = some v → (a,v) ∈ l
 | (b,x) :: r,a,v,e=>by
  rw [List.lookup_cons] at e
  cases hb : a == b with
  | true=>rw [hb] at e; cases e; rw [eq_of_beq hb]; exact .head _
  | false=>rw [hb] at e; exact .tail _ (Jp4 e)
theorem Juk {P : Program} {w : World} {K : PySem.W.Frag} {mg mb : Str → Option Value} {CX : CXT} {k : Nat} {fa a : Addr} {fd : FuncData} {x : Str} {sp : Sp} {s₁ : Shared} {vs : List Value} {ns : List Int} {tabs : List (Addr × Array (Nat × Nat × Str))}
  (KX : K.In s₁.heap) (hns : s₁.heap.Ns mainGlobals mg) (hb : s₁.heap.Ns builtinsNs mb) (hbb : ∀ x : Str,x ≠ "__name__" → mb x = bootBuiltins x) (hlim : s₁.heap.NoLimit) (hg : s₁.gens = #[])
  (ha : s₁.heap.get? a = some { cls:=.type "list",data:=.seq vs.toArray }) (hi : IntsAre vs ns) (hl : ns.length ≤ sizeLine) (hr : Room k callerA)
  (hT : ∀ p ∈ tabs,isCodeTable s₁.heap p.1 ∧ s₁.heap.get? p.1 = some (PySem.W.tabObj #[])) (hnd : (tabs.map (·.1)).Nodup) (hK : PySem.W.noTabs K = true) (hbm : Bmn mg s₁.heap)
  (F : ∀ base : Heap,K.In base → base.Ns mainGlobals mg → Bmn mg base → FnOk P w K mg base CX k fa fd [x] sp) (hbind : ∀ (s : Shared) (u : Value),BindsTo s fd ⟨[u],[]⟩ [(x,u)])
  (hsp : ∀ H : Hp,(∀ p ∈ tabs,H p.1 = some (.tbl p.2)) → SqL K H a (ns.map V.int) → sp [.ref a] H (fun v _=>v = .bl true) fun _ _ _=>False)
  (hCX : ∀ H e s', CX [] H s₁ (fun _ _ _=>False) e s' → False) :
  codeAny (model P w) callerA (.call (.ref fa) ⟨[.ref a],[]⟩) (fun r s'=>r = .ok (.ret (.bool true)) ∧ OldK s₁.heap s'.heap ∧ s'.os = s₁.os ∧ AllBare s'.gens) s₁:=by
 have rv:=Jqp hi
 have lenV:=hi.length
 let so : Obj:={ cls:=.type "list",data:=.seq vs.toArray }
 let H : Hp:=fun b=>if b = a ∧ K.lookup a = none then some (.frz so (.lst (ns.map V.int))) else (tabs.lookup b).map HO.tbl
 have three : ∀ b,H b = none ∨ (b = a ∧ K.lookup a = none ∧ H b = some (.frz so (.lst (ns.map V.int)))) ∨ ∃ lb,(b,lb) ∈ tabs ∧ H b = some (.tbl lb):=fun b=>by
  by_cases h : b = a ∧ K.lookup a = none
  ·exact .inr (.inl ⟨h.1,h.2,if_pos h⟩)
  ·have e : H b = (tabs.lookup b).map HO.tbl:=if_neg h
   cases q : tabs.lookup b with
   | none=>exact .inl (by rw [e,q]; rfl)
   | some lb=>exact .inr (.inr ⟨lb,Jp4 q,by rw [e,q]; rfl⟩)
 have hnon : ∀ b o,s₁.heap.get? b = some o → (∀ xs n,o.data ≠ .seq xs n) → (∀ xs,o.data ≠ .fields xs) → H b = none:=fun b o e n1 n2=>by
  rcases three b with z | ⟨rfl,_,_⟩ | ⟨lb,m,_⟩
  ·exact z
  ·rw [ha] at e; cases e; exact absurd rfl (n1 _ _)
  ·rw [(hT _ m).2] at e; cases e; exact absurd rfl (n2 _)
 have htb : ∀ p ∈ tabs,H p.1 = some (.tbl p.2):=fun p hp=>by
  have n : ¬ (p.1 = a ∧ K.lookup a = none):=fun z=>by
   have e:=(hT p hp).2
   rw [z.1,ha] at e; cases e
  show (if p.1 = a ∧ K.lookup a = none then _ else _) = _
  rw [if_neg n,Jqh hnd p hp]
  rfl
 have hok : HOk P w H s₁.heap:=fun b u z=>by
  rcases three b with e | ⟨rfl,_,e⟩ | ⟨lb,m,e⟩
  ·rw [e] at z; cases z
  ·rw [e] at z; cases z
   exact ⟨ha,by rw [List.length_map]; exact hl,vs,_,rv,ha⟩
  ·rw [e] at z; cases z
   exact ⟨#[],(hT _ m).2,True.intro⟩
 have hS : SqL K H a (ns.map V.int):=by
  cases hk : K.lookup a with
  | some o =>
   have e:=KX a o hk
   rw [ha] at e; cases e
   exact .inr ⟨_,vs.toArray,_,hk,rfl,rfl,rfl,by rw [List.size_toArray,lenV]; exact hl,by simpa using rv⟩
  | none=>exact .inl (.inr ⟨so,if_pos ⟨rfl,hk⟩⟩)
 have nsK : ∀ {b : Addr} {m : Str → Option Value},s₁.heap.Ns b m → (Jr1 s₁.heap H).Ns b m:=fun {b m} ⟨o,es,ep,e,d,r⟩=>⟨o,es,ep,Jp1 e (hnon b o e (fun xs n z=>by rw [d] at z; cases z) fun xs z=>by rw [d] at z; cases z),d,r⟩
 have hKb : K.In (Jr1 s₁.heap H):=fun b o e=>Jp1 (KX b o e) (by
  rcases three b with z | ⟨rfl,z,_⟩ | ⟨lb,m,_⟩
  ·exact z
  ·rw [z] at e; cases e
  ·exfalso
   have q:=KX b o e
   rw [(hT _ m).2] at q
   cases q
   have h2:=List.all_eq_true.mp hK (b,_) (PySem.W.mem_of_lookupK e)
   exact absurd (show false = true from h2) Bool.false_ne_true)
 have hBb : Bmn mg (Jr1 s₁.heap H):=by
  obtain ⟨bm,ob,b1,b2,b3,b4,b5,b6⟩:=hbm
  exact ⟨bm,ob,b1,b2,Jp1 b3 (hnon bm ob b3 (fun xs n z=>by rw [b6] at z; cases z) fun xs z=>by rw [b6] at z; cases z),b4,b5,b6⟩
 have hM : Mod K mg (Jr1 s₁.heap H):=⟨hKb,nsK hns,⟨mb,nsK hb,hbb⟩,let ⟨mc,h1,h2⟩:=hlim; ⟨mc,nsK h1,h2⟩⟩
 have e0 : Env0 P w K mg (Jr1 s₁.heap H) callerA [] s₁ H:=⟨rfl,hM,fun b o e=>Jxj e,Nat.le_of_eq (Jug _ _),trivial,fun b hb=>absurd (show b ∈ ([] : List Addr) from hb) (by simp),hok,.of_eq hg⟩
 refine codeAny_mono ((F _ hKb (nsK hns) hBb).run callerA [] s₁ H ⟨[.ref a],[]⟩ [.ref a] [.ref a] _ _ hr e0 (hbind s₁ (.ref a)) (.cons rfl .nil) (hsp H htb hS)) fun r s' h=>?_
 cases r with
 | error e=>exact (hCX H e s' h).elim
 | ok fl =>
  cases fl with
  | next=>exact False.elim h
  | brk=>exact False.elim h
  | cont=>exact False.elim h
  | ret u =>
   obtain ⟨v,H', os,bare,un,hok', r', q⟩:=h
   have q' : v = .bl true:=q
   subst q'
   obtain rfl : u = Value.bool true:=r'
   have all : ∀ b o,s₁.heap.get? b = some o → s'.heap.get? b = some o ∨ (isCodeTable s₁.heap b ∧ o = PySem.W.tabObj #[] ∧ ∃ ts,s'.heap.get? b = some (PySem.W.tabObj ts)):=fun b o e=>by
    rcases three b with z | ⟨rfl,_,z⟩ | ⟨lb,m,z⟩
    ·exact .inl (un.keep b o e z (by intro y; exact absurd (show b ∈ ([] : List Addr) from y) (by simp)) (by simp))
    ·obtain ⟨e2,_⟩:=hok' _ _ (un.frzs _ _ _ z)
     rw [ha] at e; cases e
     exact .inl e2
    ·obtain ⟨more,z2⟩:=un.tbls b lb z
     obtain ⟨ts,e2,_⟩:=hok' b _ z2
     have e3:=(hT _ m).2
     rw [e] at e3; cases e3
     exact .inr ⟨(hT _ m).1,rfl,ts,e2⟩
   refine ⟨rfl,⟨fun b o e=>?_,fun b o e=>?_⟩,os,bare⟩
   ·rcases all b o e with z | ⟨t,rfl,ts,z⟩
    ·exact .inl z
    ·exact .inr (.inl ⟨t,rfl,#[],ts,rfl,by rw [Array.empty_append]; exact z⟩)
   ·rcases all b o e with z | ⟨t,rfl,ts,z⟩
    ·exact ⟨o,z⟩
    ·exact ⟨_,z⟩
def Jvb (q : Program) (K : PySem.W.Frag) (h : Heap) : Prop:=∀ (y : Str) (d : DefRec) (c P : Addr),(recsOf q).find? (fun e=>e.name == y) = some d → PySem.W.tabIn K y = some (c,P) → PySem.W.CodeHd h c P ∧ h.get? P = some (PySem.W.tabObj #[])
theorem walk_ofT {l : PySem.W.OpenLaw} {n k : Nat} {q : Program} {loose : List Str} {XP : (Str → Option Value) → Heap → Prop} {YP : World → Heap → Prop} {d : DefRec} {K : Params → PySem.W.Frag} {CX : CXT} {x : Str}
  (hn : l.most = some n) (hn2 : n ≤ sizeLine) (hdf : d.params.defaults = []) (hr : Room k callerA) (hY : ∀ (w : World) (h : Heap),YP w h → (K w.params).In h) (hK : ∀ w : World,PySem.W.noTabs (K w.params) = true)
  (F : ∀ (w : World) (mg : Str → Option Value) (fa : Addr) (h : Heap),(K w.params).In h → h.Ns mainGlobals mg → Jvb q (K w.params) h → mg d.name = some (.ref fa) →
   ∃ (fd : FuncData) (sp : Sp) (tabs : List (Addr × Array (Nat × Nat × Str))),(∀ (s : Shared) (u : Value),BindsTo s fd ⟨[u],[]⟩ [(x,u)]) ∧ (∀ p ∈ tabs,isCodeTable h p.1 ∧ h.get? p.1 = some (PySem.W.tabObj #[])) ∧ (tabs.map (·.1)).Nodup ∧
    (∀ base : Heap,(K w.params).In base → base.Ns mainGlobals mg → Bmn mg base → FnOk l.prog w (K w.params) mg base CX k fa fd [x] sp) ∧
    ∀ (H : Hp) (a : Addr) (ns : List Int),ns.length ≤ n → (∀ p ∈ tabs,H p.1 = some (.tbl p.2)) → SqL (K w.params) H a (ns.map V.int) → sp [.ref a] H (fun v _=>v = .bl true) fun _ _ _=>False)
  (hCX : ∀ (H : Hp) (s : Shared) (e : Value) (s' : Shared),CX [] H s (fun _ _ _=>False) e s' → False) :
  PySem.W.WalkO q loose XP YP l.row.toRowW d [] (fun f vs=>PySem.call f vs):=by
 refine Att.attach_call hn hdf fun w s₀ s₁ mg mb fa o pm cd doc a vs ns G Y ho hd hcd hmg hobj hints hlen hg=>?_
 have KX:=hY w _ Y
 obtain ⟨fd,sp,tabs,hb,hT,hnd,hF,hsp⟩:=F w mg fa _ KX G.T.g (fun y d c P e1 e2=>PySem.W.tab_of G.T KX e1 e2) hmg
 exact Juk KX G.T.g G.T.b G.T.builtins G.T.nolimit hg hobj hints (Nat.le_trans hlen hn2) hr hT hnd (hK w) G.T.bmain hF hb (fun H h1 h2=>hsp H a ns hlen h1 h2) fun H e s'=>hCX H s₁ e s'
theorem tab_kn {q : Program} {K : PySem.W.Frag} {h : Heap} {c P : Addr} {y : Str} {d : DefRec} (T : Jvb q K h) (e1 : (recsOf q).find? (fun e=>e.name == y) = some d) (e2 : PySem.W.tabIn K y = some (c,P)) : isCodeTable h P ∧ h.get? P = some (PySem.W.tabObj #[]) :=
 let ⟨a,b⟩:=T y d c P e1 e2
 ⟨(a.tab b).isCodeTable,b⟩
end L2
namespace L2
open PySem PySem.Spec PyProof.Rows PySem.W
def Jl0 (i j k : Int) : Int:=if j < i then (if k < j then k else j) else (if k < i then k else i)
theorem Jqb {X : Cx} (hc : X.calm = true) : Jkd X (.builtin "min") (fun xs H Q=>∃ i j k,xs = [.int i,.int j,.int k] ∧ Q (.int (Jl0 i j k)) H):=by
 intro pins s σ H xs us Q I r h
 obtain ⟨i,j,k,rfl,q⟩:=h
 cases r with
 | cons r1 r =>
  cases r with
  | cons r2 r =>
   cases r with
   | cons r3 r =>
    cases r
    obtain ⟨t1,rfl⟩:=r1
    obtain ⟨t2,rfl⟩:=r2
    obtain ⟨t3,rfl⟩:=r3
    refine min_three_ints (I.ok.hd hc) fun h' tk kp=>⟨_,H,I.kept kp,?_,q⟩
    unfold Jl0
    split <;> split <;> exact ⟨_,rfl⟩
theorem Jp0 {K : PySem.W.Frag} {l1 l2 : Addr} {b1 b2 : Bool} {xs ys : List V} {g : TG} {tb : TS} {D : Ends} {σ : St} {H : Hp} (Pv : Nat → St → Hp → Prop) (h0 : Pv 0 σ H) (hl : ∀ i σ H,i ≤ xs.length → Pv i σ H → SqB K H l1 b1 xs ∧ SqB K H l2 b2 ys) (e1 : xs.length = ys.length)
  (hs : ∀ i x y σ H T,xs[i]? = some x → ys[i]? = some y → Pv i σ H → H T = none → g (.ref T) σ (upd H T (.tup [x,y])) fun σ2 H2=>tb { D with nx:=Pv (i + 1),ct:=Pv (i + 1),bk:=D.nx } σ2 H2) (hd : ∀ σ H,Pv xs.length σ H → D.nx σ H) :
  ∃ W : Nat → Nat → St → Hp → Prop,(∃ m,W 0 m σ H) ∧ ∀ i m σ H,W i m σ H → ((ItZ2 K l1 l2 b1 b2).stop i H ∧ D.nx σ H) ∨ ((ItZ2 K l1 l2 b1 b2).go i H ∧ ∃ N : St → Hp → Prop,(∀ σ' H', N σ' H' → ∃ m', m' < m ∧ W (i + 1) m' σ' H') ∧
   ∀ x H', (ItZ2 K l1 l2 b1 b2).yld i H x H' → g x σ H' fun σ2 H2=>tb { D with nx:=N,ct:=N,bk:=D.nx } σ2 H2):=by
 refine ⟨fun i m σ H=>m = xs.length - i ∧ i ≤ xs.length ∧ Pv i σ H,⟨xs.length,by simp,Nat.zero_le _,h0⟩,?_⟩
 rintro i m σ H ⟨rfl,hi,p⟩
 obtain ⟨q1,q2⟩:=hl i σ H hi p
 by_cases hlt : i < xs.length
 ·refine .inr ⟨⟨xs,ys,q1,q2,e1,hlt⟩,Pv (i + 1),fun σ' H' p'=>⟨xs.length - (i + 1),by omega,rfl,hlt,p'⟩,fun x H' y=>?_⟩
  obtain ⟨T,u,v,hT,rfl,hu,hv,rfl⟩:=y
  exact hs i u v σ _ T (hu xs q1) (hv ys q2) p hT
 ·have e : i = xs.length:=by omega
  subst e
  exact .inl ⟨⟨xs,ys,q1,q2,e1,rfl⟩,hd σ H p⟩
theorem CloAt.upd {H : Hp} {L f : Addr} {o : HO} {xs : List V} {name qual : Str} {st : Stmt} {caps : List (Str × V)} (hL : H L = some (.lst xs)) (h : CloAt H f name qual st caps) : CloAt (upd H L o) f name qual st caps:=by
 obtain ⟨clos,c,a,b,d,e,g,k⟩:=h
 have kp : ∀ b o', H b = some o' → o' ≠ .lst xs → L2.upd H L o b = some o':=fun b o' z n=>by rw [Ji9 (fun w'=>n (by rw [w', hL] at z; exact (Option.some.inj z).symm))]; exact z
 have ce : ∀ b v,CelAt H b v → CelAt (L2.upd H L o) b v:=fun b v ⟨ob,u,q1,q2,q3⟩=>⟨ob,u,kp _ _ q1 (fun z=>by cases z),q2,q3⟩
 exact ⟨clos,c,kp _ _ a (fun z=>by cases z),kp _ _ b (fun z=>by cases z),d,e,fun x b z=>let ⟨v,q⟩:=g x b z; ⟨v,ce _ _ q⟩,fun x v z=>let ⟨b,q1,q2⟩:=k x v z; ⟨b,q1,ce _ _ q2⟩⟩
theorem Jtj {P : Program} {w : World} {K : PySem.W.Frag} {mg : Str → Option Value} {base : Heap} {k : Nat} {name qual : Str} {st : Stmt} {N ps fr : List Str} {sp : List V → Sp} (S : Jlt N ps fr (Ji6 st))
  (hb : ∀ (clos : List (Str × Addr)) (doc pm : Value) (c : Addr) (ct : Value) (us : List Value),us.length = ps.length → bindArgs (PySem.W.fnX name qual (Jj2 st) (Jiv st) (Ji6 st) clos .none .none doc pm none (.ref c) ct) ⟨us,[]⟩ = pure (ps.zip us))
  (len : ∀ cs vs H Q E,sp cs vs H Q E → vs.length = ps.length ∧ cs.length = fr.length)
  (hbody : ∀ (f c : Addr) (clos : List (Str × Addr)) (A : Around) (outer : List Env) (s : Shared) (H : Hp) (vs cs : List V) (Q : VK) (E : XK),Room k (A.deeper (PySem.W.envX qual (Ji6 st) s.heap.objs.size f (.ref c) (cellsFrom (s.heap.objs.size + 1) (Ji6 st).names [] ++ clos))) → sp cs vs H Q E →
   ∃ t,PSs (Jtk CX0 P w K mg base N qual (Ji6 st) clos f (.ref c) A outer s H E).nox (Jiv st) t ∧ t { nx:=fun _ H'=>Q .non H', rt:=Q } (start N (vs ++ cs)) H) (f : Addr) : Jq6 P w K mg base CX0 (k + 1) f (Ju2 name qual st fr sp f) :=
 clo_of S hb len (fun f c clos A outer s H vs cs Q E hr h=>let ⟨t,h1,h2⟩:=hbody f c clos A outer s H vs cs Q E hr h; ⟨t,h1.nox,h2⟩) f
theorem Jow {X : Cx} {K : PySem.W.Frag} (h : X.K = K) : Jkd X (.type "tuple") (fun xs H Q=>∃ p ys,xs = [.ref p] ∧ ((SqL K H p ys ∧ ∀ l,H l = none → Q (.ref l) (upd H l (.tup ys))) ∨ (SqT K H p ys ∧ Q (.ref p) H))):=by subst h; exact Jis
theorem Jvq {l c : Nat} {q : Str} : (l,c,q) ∈ #[(l,c,q)]:=by simp
theorem Jtu {l c : Nat} {q q' : Str} (h : (l,c,q') ∈ #[(l,c,q)]) : q' = q:=by simpa using h
def nst (s : Stmt) (j : Nat) : Stmt:=(Jiv s).getD j (.Pass ⟨0,0,0,0⟩)
end L2

namespace K15
open PySem L2 PyProof.Rows PySem.NumText
def top (i : Nat) : Stmt:=PySem.Challenge.pw_weirwatch_k15_told_keepers_and_skies.main.body.getD i (.Pass ⟨0,0,0,0⟩)
set_option genInjectivity false in
structure Ad where
 Je0 : Addr
 Je1 : FuncData
 Je2 : Addr
 Je3 : FuncData
 Je4 : Addr
 Je5 : FuncData
 Je6 : Addr
 Je7 : FuncData
 Je8 : Addr
 Je9 : FuncData
 Jea : Addr
 Jeb : FuncData
 Jec : Addr
 Jed : FuncData
 Jee : Addr
 Jef : FuncData
 Jeg : Addr
 Jeh : FuncData
 Jei : Addr
 Jej : FuncData
 Jek : Addr
 Jel : FuncData
 Jem : Addr
 Jen : FuncData
 Jeo : Addr
 Jep : FuncData
 Jeq : Addr
 Jer : FuncData
 Jes : Addr
 Jet : FuncData
 Jeu : Addr
 Jev : FuncData
 Jew : Addr
 Jex : FuncData
 Jey : Addr
 Jez : FuncData
 Jf0 : Addr
 Jf1 : FuncData
 Jf2 : Addr
 Jf3 : FuncData
 Jf4 : Addr
 Jf5 : FuncData
 Jf6 : Addr
 Jf7 : FuncData
 Jf8 : Addr
 Jf9 : FuncData
 Jfa : Addr
 Jfb : FuncData
 Jfc : Addr
 Jfd : FuncData
 Jfe : Addr
 Jff : FuncData
 Jfg : Addr
 Jfh : FuncData
 Jfi : Addr
 Jfj : FuncData
 Jfk : Addr
 Jfl : FuncData
 Jfm : Addr
 Jfn : FuncData
 Jfo : Addr
 Jfp : FuncData
 Jfq : Addr
 Jfr : FuncData
 Jfs : Addr
 Jft : FuncData
 Jfu : Addr
 Jfv : FuncData
 Jfw : Addr
 Jfx : FuncData
 Jfy : Addr
 Jfz : FuncData
 Jg0 : Addr
 Jg1 : FuncData
 Jg2 : Addr
 Jg3 : FuncData
 Jg4 : Addr
 Jg5 : FuncData
 Jg6 : Addr
 Jg7 : FuncData
 Jg8 : Addr
 Jg9 : FuncData
 Jga : Addr
 Jgb : FuncData
 Jgc : Addr
 Jgd : FuncData
 Jge : Addr
 Jgf : FuncData
 Jgg : Addr
 Jgh : FuncData
 Jgi : Addr
 Jgj : FuncData
 Jgk : Addr
 Jgl : FuncData
 Jgm : Addr
 Jgn : FuncData
 Jgo : Addr
 Jgp : FuncData
 Jgq : Addr
 Jgr : FuncData
 Jgs : Addr
 Jgt : FuncData
 Jgu : Addr
 Jgv : FuncData
 Jgw : Addr
 Jgx : FuncData
 Jgy : Addr
 Jgz : FuncData
 Jh0 : Addr
 Jh1 : FuncData
 Jh2 : Addr
 Jh3 : FuncData
 a_law : Addr
 d_law : FuncData
 Jh4 : Tok
 Jh5 : Tok
 Jh6 : Tok
 Jh7 : Tok
 Jh8 : Tok
 Jh9 : Tok
 Jha : Tok
 Jhb : Tok
 Jhc : Tok
 Jhd : Tok
 Jhe : Addr
 Jhf : Addr
 Jhg : Addr
 Jhh : Addr
 Jhi : Addr
 Jhj : Addr
 Jhk : Addr
 Jhl : Addr
 Jhm : Addr
 Jhn : Addr
 Jho : Addr
 Jhp : Addr
 Jhq : Addr
 Jhr : Addr
 Jhs : Addr
 Jht : Addr
 Jhu : Addr
 Jhv : Addr
 Jhw : Addr
 Jhx : Addr
 Jhy : Addr
 Jhz : Addr
 Ji0 : Addr
structure Tx (K : W.Frag) (mg : Str → Option Value) (a : Ad) : Prop where
 J0 : FT K mg "is_whole" (top 16) ["thing","low","high"] a.Jeg a.Jeh
 J1 : FT K mg "is_made_of" (top 17) ["text","signs"] a.Jei a.Jej
 J2 : FT K mg "is_name" (top 18) ["thing"] a.Jek a.Jel
 J3 : FT K mg "is_row" (top 20) ["thing","lows","highs"] a.Jem a.Jen
 J4 : FT K mg "is_row_up_to" (top 21) ["thing","highs"] a.Jeo a.Jep
 J5 : FT K mg "is_pair" (top 22) ["thing"] a.Jeq a.Jer
 J6 : FT K mg "is_standing" (top 23) ["river","thing"] a.Jes a.Jet
 J7 : FT K mg "forced_rain" (top 24) ["river","wet"] a.Jeu a.Jev
 J8 : FT K mg "is_rain" (top 25) ["river","standing","thing"] a.Jew a.Jex
 J9 : FT K mg "keeper_of" (top 27) ["choices"] a.Jey a.Jez
 Ja : FT K mg "rain_by" (top 28) ["river","wet","wanted"] a.Jf0 a.Jf1
 Jb : FT K mg "filled_up" (top 29) ["river","rain","least"] a.Jf2 a.Jf3
 Jc : FT K mg "sky_of" (top 30) ["river","rains"] a.Jf4 a.Jf5
 Jd : FT K mg "are_marks" (top 35) ["thing","lowest"] a.Jf6 a.Jf7
 Je : FT K mg "kept_marks" (top 36) ["marks","lowest"] a.Jf8 a.Jf9
 Jf : FT K mg "refuse_no_level" (top 50) ["thing","low","high"] a.Jfq a.Jfr
 Jg : FT K mg "are_unlike" (top 53) ["names"] a.Jfw a.Jfx
 Jh : FT K mg "are_basins" (top 54) ["thing"] a.Jfy a.Jfz
 Ji : FT K mg "are_towns" (top 55) ["thing","basins"] a.Jg0 a.Jg1
 Jj : FT K mg "_law_cell" (top 58) ["_law_script","_law_k"] a.Jg4 a.Jg5
 Jk : FT K mg "_law_stream" (top 59) ["_law_cell_here"] a.Jg6 a.Jg7
 Jl : FT K mg "_law_take" (top 60) ["_law_stream_here","_law_many"] a.Jg8 a.Jg9
 Jm : FT K mg "_law_names" (top 61) ["_law_stream_here","_law_many"] a.Jga a.Jgb
 Jn : FT K mg "_law_gate" (top 62) ["_law_stream_here"] a.Jgc a.Jgd
 Jo : FT K mg "_law_basin" (top 63) ["_law_stream_here","_law_name"] a.Jge a.Jgf
 Jp : FT K mg "_law_river" (top 64) ["_law_cell_here"] a.Jgg a.Jgh
 Jq : FT K mg "_law_made_gate" (top 65) ["_law_told"] a.Jgi a.Jgj
 Jr : FT K mg "_law_made" (top 66) ["_law_told"] a.Jgk a.Jgl
 Js : FT K mg "_law_settings" (top 67) ["_law_gate_here"] a.Jgm a.Jgn
 Jt : FT K mg "_law_standing" (top 68) ["_law_stream_here","_law_told"] a.Jgo a.Jgp
 Ju : FT K mg "_law_choice" (top 69) ["_law_stream_here","_law_told"] a.Jgq a.Jgr
 Jv : FT K mg "_law_forced" (top 70) ["_law_told","_law_wet"] a.Jgs a.Jgt
 Jw : FT K mg "_law_raised" (top 71) ["_law_told","_law_wet","_law_row"] a.Jgu a.Jgv
 Jx : FT K mg "_law_fell" (top 73) ["_law_told","_law_wet","_law_row"] a.Jgw a.Jgx
 Jy : FT K mg "_law_rows" (top 74) ["_law_stream_here","_law_told"] a.Jgy a.Jgz
 Jz : FT K mg "_law_refused" (top 75) ["_law_thing"] a.Jh0 a.Jh1
 Ja0 : FT K mg "_law_right" (top 76) ["_law_told","_law_river_here","_law_stream_here"] a.Jh2 a.Jh3
 f_law : FT K mg "law" (top 77) ["_law_script"] a.a_law a.d_law
 Ja1 : mg "LETTERS" = some (.str "abcdefghijklmnopqrstuvwxyz" a.Jh4)
 Ja2 : mg "MOST_LETTERS" = some (.int 8 a.Jh5)
 Ja3 : mg "MOST_SETTINGS" = some (.int 4 a.Jh6)
 Ja4 : mg "HIGHEST_MARK" = some (.int 12 a.Jh7)
 Ja5 : mg "HIGHEST" = some (.int 12 a.Jh8)
 Ja6 : mg "MOST_RAIN" = some (.int 6 a.Jh9)
 Ja7 : mg "MOST_WANT" = some (.int 6 a.Jha)
 Ja8 : mg "MOST_CLOUD" = some (.int 12 a.Jhb)
 Ja9 : mg "MOST_BASINS" = some (.int 16 a.Jhc)
 Jaa : mg "MOST_TOWNS" = some (.int 3 a.Jhd)
 Jab : mg "ValueError" = none
 Jac : mg "all" = none
 Jad : mg "bool" = none
 Jae : mg "enumerate" = none
 Jaf : mg "int" = none
 Jag : mg "isinstance" = none
 Jah : mg "len" = none
 Jai : mg "list" = none
 Jaj : mg "max" = none
 Jak : mg "min" = none
 Jal : mg "range" = none
 Jam : mg "set" = none
 Jan : mg "str" = none
 Jao : mg "sum" = none
 Jap : mg "tuple" = none
 Jaq : mg "zip" = none
 Jar : mg "WeirError" = some (.ref a.Jhe)
 Jas : mg "NoName" = some (.ref a.Jhf)
 Jat : mg "NoGate" = some (.ref a.Jhg)
 Jau : mg "NoBasin" = some (.ref a.Jhh)
 Jav : mg "NoTown" = some (.ref a.Jhi)
 Jaw : mg "NoCloud" = some (.ref a.Jhj)
 Jax : mg "NoRiver" = some (.ref a.Jhk)
 Jay : mg "NoStanding" = some (.ref a.Jhl)
 Jaz : mg "NoChoice" = some (.ref a.Jhm)
 Jb0 : mg "NoRain" = some (.ref a.Jhn)
 Jb1 : mg "Gate" = some (.ref a.Jhp)
 Jb2 : mg "StepGate" = some (.ref a.Jhq)
 Jb3 : mg "FlapGate" = some (.ref a.Jhr)
 Jb4 : mg "PartGate" = some (.ref a.Jhs)
 Jb5 : mg "StuckGate" = some (.ref a.Jht)
 Jb6 : mg "Basin" = some (.ref a.Jhu)
 Jb7 : mg "Town" = some (.ref a.Jhv)
 Jb8 : mg "River" = some (.ref a.Jhw)
 Jb9 : FM K "__init__" "NoName.__init__" (Jid (top 3) 0) ["self","thing"] a.Je0 a.Je1
 Jba : FM K "__init__" "NoGate.__init__" (Jid (top 4) 0) ["self","thing"] a.Je2 a.Je3
 Jbb : FM K "__init__" "NoBasin.__init__" (Jid (top 5) 0) ["self","thing"] a.Je4 a.Je5
 Jbc : FM K "__init__" "NoTown.__init__" (Jid (top 6) 0) ["self","thing"] a.Je6 a.Je7
 Jbd : FM K "__init__" "NoCloud.__init__" (Jid (top 7) 0) ["self","thing"] a.Je8 a.Je9
 Jbe : FM K "__init__" "NoRiver.__init__" (Jid (top 8) 0) ["self","thing"] a.Jea a.Jeb
 Jbf : FM K "__init__" "NoStanding.__init__" (Jid (top 9) 0) ["self","thing"] a.Jec a.Jed
 Jbg : FM K "__init__" "NoChoice.__init__" (Jid (top 10) 0) ["self","thing"] a.Jee a.Jef
 Jbh : FM K "__init__" "StepGate.__init__" (Jid (top 39) 0) ["self","marks"] a.Jfa a.Jfb
 Jbi : FM K "settings" "StepGate.settings" (Jid (top 39) 1) ["self"] a.Jfc a.Jfd
 Jbj : FM K "__init__" "FlapGate.__init__" (Jid (top 40) 0) ["self","marks"] a.Jfe a.Jff
 Jbk : FM K "settings" "FlapGate.settings" (Jid (top 40) 1) ["self"] a.Jfg a.Jfh
 Jbl : FM K "__init__" "PartGate.__init__" (Jid (top 41) 0) ["self","marks"] a.Jfi a.Jfj
 Jbm : FM K "settings" "PartGate.settings" (Jid (top 41) 1) ["self"] a.Jfk a.Jfl
 Jbn : FM K "__init__" "StuckGate.__init__" (Jid (top 42) 0) ["self","gate","setting"] a.Jfm a.Jfn
 Jbo : FM K "settings" "StuckGate.settings" (Jid (top 42) 1) ["self"] a.Jfo a.Jfp
 Jbp : FM K "__init__" "Basin.__init__" (Jid (top 51) 0) ["self","name","low","high","start","rain","gate"] a.Jfs a.Jft
 Jbq : FM K "__init__" "Town.__init__" (Jid (top 52) 0) ["self","name","basin","want"] a.Jfu a.Jfv
 Jbr : FM K "__init__" "River.__init__" (Jid (top 56) 0) ["self","cloud","gain","basins","towns"] a.Jg2 a.Jg3
 Jbs : XCls K a.Jhf a.Jhe a.Je0
 Jbt : NoAttr K a.Jhf "thing"
 Jbu : XCls K a.Jhg a.Jhe a.Je2
 Jbv : NoAttr K a.Jhg "thing"
 Jbw : XCls K a.Jhh a.Jhe a.Je4
 Jbx : NoAttr K a.Jhh "thing"
 Jby : XCls K a.Jhi a.Jhe a.Je6
 Jbz : NoAttr K a.Jhi "thing"
 Jc0 : XCls K a.Jhj a.Jhe a.Je8
 Jc1 : XCls K a.Jhk a.Jhe a.Jea
 Jc2 : XCls K a.Jhl a.Jhe a.Jec
 Jc3 : NoAttr K a.Jhl "thing"
 Jc4 : XCls K a.Jhm a.Jhe a.Jee
 Jc5 : ECls K a.Jhm
 Jc6 : NoAttr K a.Jhm "thing"
 Jc7 : Cls K a.Jhq
 Jc8 : YCls K a.Jhq
 Jc9 : Mk K a.Jhq a.Jfa
 Jca : Jon K a.Jhq "settings" a.Jfc
 Jcb : NoAttr K a.Jhq "marks"
 Jcc : Cls K a.Jhr
 Jcd : YCls K a.Jhr
 Jce : Mk K a.Jhr a.Jfe
 Jcf : Jon K a.Jhr "settings" a.Jfg
 Jcg : NoAttr K a.Jhr "marks"
 Jch : Cls K a.Jhs
 Jci : YCls K a.Jhs
 Jcj : Mk K a.Jhs a.Jfi
 Jck : Jon K a.Jhs "settings" a.Jfk
 Jcl : NoAttr K a.Jhs "marks"
 Jcm : Cls K a.Jht
 Jcn : YCls K a.Jht
 Jco : Mk K a.Jht a.Jfm
 Jcp : Jon K a.Jht "settings" a.Jfo
 Jcq : NoAttr K a.Jht "gate"
 Jcr : NoAttr K a.Jht "setting"
 Jcs : Cls K a.Jhu
 Jct : YCls K a.Jhu
 Jcu : Mk K a.Jhu a.Jfs
 Jcv : NoAttr K a.Jhu "name"
 Jcw : NoAttr K a.Jhu "low"
 Jcx : NoAttr K a.Jhu "high"
 Jcy : NoAttr K a.Jhu "start"
 Jcz : NoAttr K a.Jhu "rain"
 Jd0 : NoAttr K a.Jhu "gate"
 Jd1 : Cls K a.Jhv
 Jd2 : YCls K a.Jhv
 Jd3 : Mk K a.Jhv a.Jfu
 Jd4 : NoAttr K a.Jhv "name"
 Jd5 : NoAttr K a.Jhv "basin"
 Jd6 : NoAttr K a.Jhv "want"
 Jd7 : Cls K a.Jhw
 Jd8 : Mk K a.Jhw a.Jg2
 Jd9 : NoAttr K a.Jhw "cloud"
 Jda : NoAttr K a.Jhw "gain"
 Jdb : NoAttr K a.Jhw "basins"
 Jdc : NoAttr K a.Jhw "towns"
 Jdd : Nst K a.Jey a.Jhx a.Jhy
 Jde : W.tabIn K "keeper_of" = some (a.Jhx,a.Jhy)
 Jdf : Nst K a.Jf4 a.Jhz a.Ji0
 Jdg : W.tabIn K "sky_of" = some (a.Jhz,a.Ji0)
 tnd : [a.Jhy,a.Ji0].Nodup
 Jdh : W.kitOne K (.ref a.Jhq) (.ref a.Jhp) = some true
 Jdi : W.kitOne K (.ref a.Jhr) (.ref a.Jhp) = some true
 Jdj : W.kitOne K (.ref a.Jhs) (.ref a.Jhp) = some true
 Jdk : W.kitOne K (.ref a.Jht) (.ref a.Jhp) = some true
 Jdl : W.kitOne K (.ref a.Jhu) (.ref a.Jhu) = some true
 Jdm : W.kitOne K (.ref a.Jhv) (.ref a.Jhv) = some true
 Jdn : W.kitOne K (.ref a.Jhq) (.type "bool") = some false
 Jdo : W.kitOne K (.ref a.Jhr) (.type "bool") = some false
 Jdp : W.kitOne K (.ref a.Jhs) (.type "bool") = some false
 Jdq : W.kitOne K (.ref a.Jht) (.type "bool") = some false
 Jdr : W.kitAny K (.ref a.Jhq) [.ref a.Jhq,.ref a.Jhr,.ref a.Jhs,.ref a.Jht] = some true
 Jds : W.kitAny K (.ref a.Jhr) [.ref a.Jhq,.ref a.Jhr,.ref a.Jhs,.ref a.Jht] = some true
 Jdt : W.kitAny K (.ref a.Jhs) [.ref a.Jhq,.ref a.Jhr,.ref a.Jhs,.ref a.Jht] = some true
 Jdu : W.kitAny K (.ref a.Jht) [.ref a.Jhq,.ref a.Jhr,.ref a.Jhs,.ref a.Jht] = some true
 Jdv : W.kitOne K (.ref a.Jhm) (.ref a.Jhl) = some false
 Jdw : W.kitOne K (.ref a.Jhm) (.ref a.Jhn) = some false
 Jdx : W.kitOne K (.ref a.Jhm) (.ref a.Jhe) = some true
 Jdy : W.kitOne K (.ref a.Jhm) (.type "ValueError") = some true
 Jdz : W.mroIn K a.Jhm (.ref a.Jhm) = some true
def Jjs : Int → List V → Bool
 | _,[]=>true
 | lo,.int i :: r=>(decide (lo ≤ i) && decide (i ≤ 12)) && Jjs (i + 1) r
 | _,_ :: _=>false
def Jlp (lo : Int) (xs : List V) : Bool:=decide (1 ≤ xs.length ∧ xs.length ≤ 4) && Jjs lo xs
theorem Jo4 (lo : Int) (x : V) (r : List V) : Jjs lo (x :: r) = (Jil x lo 12 && match x with | .int i=>Jjs (i + 1) r | _=>false):=by
 cases x <;> simp [Jjs,Jil]
inductive Sq (H : Hp) : V → List V → Prop where
 | lst {p : Addr} {xs : List V} : H p = some (.lst xs) → Sq H (.ref p) xs
 | tup {p : Addr} {xs : List V} : H p = some (.tup xs) → Sq H (.ref p) xs
theorem Sq.same {H H' : Hp} {x : V} {xs : List V} (s : Same H H') (h : Sq H x xs) : Sq H' x xs:=by
 cases h with
 | lst e=>exact .lst (s _ _ e)
 | tup e=>exact .tup (s _ _ e)
theorem Sq.ty {K : W.Frag} {H : Hp} {x : V} {xs : List V} (h : Sq H x xs) : ∃ t,TyX K H x t ∧ tpB t = true ∧ W.kitAny K t [.type "list",.type "tuple"] = some true:=by
 cases h with
 | lst e=>exact ⟨_,.of (.lst e),rfl,rfl⟩
 | tup e=>exact ⟨_,.of (.tup e),rfl,rfl⟩
inductive Shp (K : W.Frag) (H : Hp) (lo : Int) : V → Bool → Prop where
 | seq {x : V} {xs : List V} : Sq H x xs → (∀ y ∈ xs,Tm K H y) → Shp K H lo x (Jlp lo xs)
 | non {x : V} {t : Value} : TyX K H x t → W.kitAny K t [.type "list",.type "tuple"] = some false → Shp K H lo x false
def spAre (K : W.Frag) : Sp:=fun vs H Q _=>∃ (x : V) (lo : Int) (b : Bool),vs = [x,.int lo] ∧ Shp K H lo x b ∧ ∀ H', Same H H' → Q (.bl b) H'
def Rf (a : Ad) (H H' : Hp) (x : V) (c : Value) (eo : Option Addr) : Prop:=∃ e dx,c = .ref a.Jhg ∧ eo = some e ∧ Same H H' ∧ H' e = some (XO e a.Jhg (some dx) false) ∧ H' dx = some (XD dx [("thing",x)])
theorem Rf.of {a : Ad} {H H1 H' : Hp} {x : V} {c : Value} {eo : Option Addr} (s : Same H H1) (h : Rf a H1 H' x c eo) : Rf a H H' x c eo:=by
 obtain ⟨e,dx,h1,h2,h3,h4,h5⟩:=h
 exact ⟨e,dx,h1,h2,s.trans h3,h4,h5⟩
theorem Rf.new {a : Ad} {H : Hp} {x : V} {e dx : Addr} (h1 : H e = none) (h2 : H dx = none) (ne : dx ≠ e) : Rf a H (upd (upd (upd H dx (XD dx [("thing",x)])) e (XO e a.Jhg (some dx) true)) e (XO e a.Jhg (some dx) false)) x (.ref a.Jhg) (some e):=by
 refine ⟨e,dx,rfl,rfl,?_,Ji3,?_⟩
 ·rw [Jka]
  intro b o q
  rw [Ji9 (Ji8 q h1),Ji9 (Ji8 q h2)]
  exact q
 ·rw [Ji9 ne,Ji9 ne,Ji3]
def spKept (K : W.Frag) (a : Ad) : Sp:=fun vs H Q E=>∃ (x : V) (lo : Int),vs = [x,.int lo] ∧
 ((∃ xs,Sq H x xs ∧ (∀ y ∈ xs,Tm K H y) ∧ Jlp lo xs = true ∧ ∀ t H', Same H H' → H' t = some (.tup xs) → Q (.ref t) H') ∨ (Shp K H lo x false ∧ ∀ c eo H', Rf a H H' x c eo → E c eo H'))
def IsC (a : Ad) (C : Addr) : Prop:=C = a.Jhq ∨ C = a.Jhr ∨ C = a.Jhs
def GateAt (C : Addr) (H : Hp) (g : Addr) (xs : List V) : Prop:=∃ dx t,H g = some (.ins C dx [("marks",.ref t)]) ∧ H t = some (.tup xs)
theorem GateAt.same {C : Addr} {H H' : Hp} {g : Addr} {xs : List V} (s : Same H H') (h : GateAt C H g xs) : GateAt C H' g xs:=let ⟨dx,t,h1,h2⟩:=h; ⟨dx,t,s _ _ h1,s _ _ h2⟩
def Jrj (K : W.Frag) (a : Ad) (lo : Int) : Sp:=fun vs H Q E=>∃ (p C dx : Addr) (x : V),vs = [.ref p,x] ∧ H p = some (.ins C dx []) ∧ Cls K C ∧ NoAttr K C "marks" ∧
 ((∃ xs,Sq H x xs ∧ (∀ y ∈ xs,Tm K H y) ∧ Jlp lo xs = true ∧ ∀ t H', Same H H' → H' t = some (.tup xs) → Q .non (upd H' p (.ins C dx [("marks",.ref t)]))) ∨ (Shp K H lo x false ∧ ∀ c eo H', Rf a H H' x c eo → E c eo H'))
def Jwi (C : Addr) : Sp:=fun vs H Q _=>∃ (p : Addr) (xs : List V),vs = [.ref p] ∧ GateAt C H p xs ∧ Q (.int xs.length) H
def spOne : Sp:=fun vs H Q _=>∃ x,vs = [x] ∧ Q (.int 1) H
inductive GS (K : W.Frag) (a : Ad) (H : Hp) : V → Nat → Prop where
 | plain {g C : Addr} {xs : List V} : IsC a C → GateAt C H g xs → xs.length ≤ 4 → GS K a H (.ref g) xs.length
 | stuck {g dx : Addr} {x y : V} : H g = some (.ins a.Jht dx [("gate",x),("setting",y)]) → GS K a H (.ref g) 1
theorem GS.same {K : W.Frag} {a : Ad} {H H' : Hp} {x : V} {n : Nat} (s : Same H H') (h : GS K a H x n) : GS K a H' x n:=by
 cases h with
 | plain i g l=>exact .plain i (g.same s) l
 | stuck e=>exact .stuck (s _ _ e)
def Jxx (K : W.Frag) (a : Ad) : Sp:=fun vs H Q E=>∃ (p dx : Addr) (x y : V),vs = [.ref p,x,y] ∧ H p = some (.ins a.Jht dx []) ∧
 ((∃ t,TyX K H x t ∧ W.kitOne K t (.ref a.Jhp) = some false ∧ ∀ c eo H', Rf a H H' x c eo → E c eo H') ∨
  (∃ n,GS K a H x n ∧ Tm K H y ∧ Jil y 0 (n - 1) = false ∧ ∀ c eo H', Rf a H H' y c eo → E c eo H') ∨
  (∃ n,GS K a H x n ∧ Tm K H y ∧ Jil y 0 (n - 1) = true ∧ Q .non (upd H p (.ins a.Jht dx [("gate",x),("setting",y)]))))
def Knd (z : Str) : Prop:=z = ("step" : Str) ∨ z = ("flap" : Str) ∨ z = ("part" : Str)
def Jl7 (z : Str) : Int:=if z = ("part" : Str) then 1 else 0
def cOf (a : Ad) (z : Str) : Addr:=if z = ("step" : Str) then a.Jhq else if z = ("flap" : Str) then a.Jhr else a.Jhs
theorem cOf_is {a : Ad} {z : Str} : IsC a (cOf a z):=by
 unfold cOf
 split
 ·exact .inl rfl
 ·split
  ·exact .inr (.inl rfl)
  ·exact .inr (.inr rfl)
theorem ne_ps : ¬ (("part" : Str) = "step"):=by decide +kernel
theorem ne_pf : ¬ (("part" : Str) = "flap"):=by decide +kernel
theorem ne_fs : ¬ (("flap" : Str) = "step"):=by decide +kernel
theorem ne_fp : ¬ (("flap" : Str) = "part"):=by decide +kernel
theorem ne_sp : ¬ (("step" : Str) = "part"):=by decide +kernel
theorem strN {x y : Str} (h : ¬ x = y) : ¬ V.str x = V.str y:=fun e=>h (V.str.inj e)
def LET : Str := "abcdefghijklmnopqrstuvwxyz"
def Jq7 (g z : Str) : Bool:=z.cps.toList.all fun c=>decide (c ∈ g.cps.toList)
def Jm0 (z : Str) : Bool:=decide (1 ≤ z.length ∧ z.length ≤ 8) && Jq7 LET z
structure Wd (n : Nat) (z : Str) : Prop where
 len : z.length ≤ n
 low : ∀ c ∈ z.cps.toList,c < 128
theorem Jtv (z : Str) : z.cps.toList.length = z.length:=Array.length_toList
theorem Ju4 : ∀ ys : List Str,(∀ y ∈ ys,Wd 1 y) → (ys.map (·.length)).sum ≤ ys.length
 | [],_=>Nat.le_refl _
 | y :: r,h=>by
  have h1:=(h y List.mem_cons_self).len
  have ih:=Ju4 r fun z hz=>h z (List.mem_cons_of_mem _ hz)
  simp only [List.map_cons,List.sum_cons,List.length_cons]
  omega
theorem Jsm {g : Str} {r : Int} (h0 : 0 ≤ r) (h1 : r < g.length) : ∃ c,c ∈ g.cps.toList ∧ atI g.cps.toList r = some c:=by
 obtain ⟨n,rfl⟩:=Int.eq_ofNat_of_zero_le h0
 have hn : n < g.cps.toList.length:=by rw [Jtv]; omega
 exact ⟨g.cps.toList[n],List.getElem_mem hn,Jlb (List.getElem?_eq_getElem hn)⟩
theorem wd_lit {z : Str} {n : Nat} (h : (decide (z.length ≤ n) && z.cps.toList.all (fun c=>decide (c < 128))) = true) : Wd n z:=by
 rw [Bool.and_eq_true] at h
 exact ⟨of_decide_eq_true h.1,fun c hc=>of_decide_eq_true (List.all_eq_true.mp h.2 c hc)⟩
theorem wd_let : Wd 26 LET:=wd_lit (by decide +kernel)
def Jkm : V → Bool
 | .str z=>Jm0 z
 | _=>false
def Nmd (K : W.Frag) (H : Hp) (x : V) : Prop:=Tm K H x ∧ ∀ z,x = .str z → Wd 50 z
def spMade : Sp:=fun vs H Q _=>∃ z g : Str,vs = [.str z,.str g] ∧ z.length ≤ 2000 ∧ ∀ H', Same H H' → Q (.bl (Jq7 g z)) H'
def spName (K : W.Frag) : Sp:=fun vs H Q _=>∃ x : V,vs = [x] ∧ Nmd K H x ∧ ∀ H', Same H H' → Q (.bl (Jkm x)) H'
def RfC (C : Addr) (H H' : Hp) (x : V) (c : Value) (eo : Option Addr) : Prop:=∃ e dx,c = .ref C ∧ eo = some e ∧ Same H H' ∧ H' e = some (XO e C (some dx) false) ∧ H' dx = some (XD dx [("thing",x)])
theorem RfC.of {C : Addr} {H H1 H' : Hp} {x : V} {c : Value} {eo : Option Addr} (s : Same H H1) (h : RfC C H1 H' x c eo) : RfC C H H' x c eo:=by
 obtain ⟨e,dx,h1,h2,h3,h4,h5⟩:=h
 exact ⟨e,dx,h1,h2,s.trans h3,h4,h5⟩
theorem RfC.new {C : Addr} {H : Hp} {x : V} {e dx : Addr} (h1 : H e = none) (h2 : H dx = none) (ne : dx ≠ e) : RfC C H (upd (upd (upd H dx (XD dx [("thing",x)])) e (XO e C (some dx) true)) e (XO e C (some dx) false)) x (.ref C) (some e):=by
 refine ⟨e,dx,rfl,rfl,?_,Ji3,?_⟩
 ·rw [Jka]
  intro b o q
  rw [Ji9 (Ji8 q h1),Ji9 (Ji8 q h2)]
  exact q
 ·rw [Ji9 ne,Ji9 ne,Ji3]
def Jv1 (K : W.Frag) (a : Ad) : Sp:=fun vs H Q E=>∃ (x : V) (lo hi : Int),vs = [x,.int lo,.int hi] ∧ Tm K H x ∧ ((Jil x lo hi = true ∧ Q .non H) ∨ (Jil x lo hi = false ∧ ∀ c eo H', RfC a.Jhh H H' x c eo → E c eo H'))
inductive Due (n lo hi st rn g : V) (gb : Bool) : Option (Nat × V) → Prop
 | name : Jkm n = false → Due n lo hi st rn g gb (some (0,n))
 | low : Jkm n = true → Jil lo 0 12 = false → Due n lo hi st rn g gb (some (1,lo))
 | high (l : Int) : Jkm n = true → lo = .int l → Jil lo 0 12 = true → Jil hi l 12 = false → Due n lo hi st rn g gb (some (1,hi))
 | start (l h : Int) : Jkm n = true → lo = .int l → hi = .int h → Jil lo 0 12 = true → Jil hi l 12 = true → Jil st l h = false → Due n lo hi st rn g gb (some (1,st))
 | rain (l h : Int) : Jkm n = true → lo = .int l → hi = .int h → Jil lo 0 12 = true → Jil hi l 12 = true → Jil st l h = true → Jil rn 0 6 = false → Due n lo hi st rn g gb (some (1,rn))
 | gate (l h : Int) : Jkm n = true → lo = .int l → hi = .int h → Jil lo 0 12 = true → Jil hi l 12 = true → Jil st l h = true → Jil rn 0 6 = true → gb = false → Due n lo hi st rn g gb (some (2,g))
 | good (l h : Int) : Jkm n = true → lo = .int l → hi = .int h → Jil lo 0 12 = true → Jil hi l 12 = true → Jil st l h = true → Jil rn 0 6 = true → gb = true → Due n lo hi st rn g gb none
theorem Jqq {x : V} {lo hi : Int} (h : Jil x lo hi = true) : ∃ i,x = .int i:=by
 cases x with
 | int i=>exact ⟨i,rfl⟩
 | _=>cases h
inductive DueT (n b wt : V) : Option (Nat × V) → Prop
 | name : Jkm n = false → DueT n b wt (some (0,n))
 | basin : Jkm n = true → Jkm b = false → DueT n b wt (some (0,b))
 | want : Jkm n = true → Jkm b = true → Jil wt 1 6 = false → DueT n b wt (some (3,wt))
 | good : Jkm n = true → Jkm b = true → Jil wt 1 6 = true → DueT n b wt none
def clsK (a : Ad) : Nat → Addr
 | 0=>a.Jhf
 | 1=>a.Jhh
 | 2=>a.Jhg
 | _=>a.Jhi
def GtI (K : W.Frag) (a : Ad) (H : Hp) (g : V) (gb : Bool) : Prop:=∃ t,TyX K H g t ∧ W.kitOne K t (.ref a.Jhp) = some gb ∧ W.kitAny K t [.ref a.Jhq,.ref a.Jhr,.ref a.Jhs,.ref a.Jht] = some gb ∧
 ∃ b,W.kitOne K t (.type "bool") = some b ∧ (gb = true → b = false) ∧ t ≠ .type "float"
def basF (n lo hi st rn g : V) : List (Str × V):=[("name",n),("low",lo),("high",hi),("start",st),("rain",rn),("gate",g)]
def twnF (n b wt : V) : List (Str × V):=[("name",n),("basin",b),("want",wt)]
def Ends1 (a : Ad) (d : Option (Nat × V)) (H : Hp) (E : XK) (G : Prop) : Prop:=match d with
 | none=>G
 | some (k,x)=>∀ c eo H', RfC (clsK a k) H H' x c eo → E c eo H'
def Jxw (K : W.Frag) (a : Ad) : Sp:=fun vs H Q E=>∃ (p dx : Addr) (n lo hi st rn g : V) (gb : Bool) (d : Option (Nat × V)),vs = [.ref p,n,lo,hi,st,rn,g] ∧ H p = some (.ins a.Jhu dx []) ∧ Nmd K H n ∧ Tm K H lo ∧ Tm K H hi ∧ Tm K H st ∧ Tm K H rn ∧ GtI K a H g gb ∧ Due n lo hi st rn g gb d ∧
 Ends1 a d H E (∀ H', Same H H' → Q .non (upd H' p (.ins a.Jhu dx (basF n lo hi st rn g))))
def spTown (K : W.Frag) (a : Ad) : Sp:=fun vs H Q E=>∃ (p dx : Addr) (n b wt : V) (d : Option (Nat × V)),vs = [.ref p,n,b,wt] ∧ H p = some (.ins a.Jhv dx []) ∧ Nmd K H n ∧ Nmd K H b ∧ Tm K H wt ∧ DueT n b wt d ∧
 Ends1 a d H E (∀ H', Same H H' → Q .non (upd H' p (.ins a.Jhv dx (twnF n b wt))))
theorem Nmd.same {K : W.Frag} {H H' : Hp} {x : V} (s : Same H H') (h : Nmd K H x) : Nmd K H' x:=⟨h.1.same s,h.2⟩
theorem Jll {K : W.Frag} {H H' : Hp} {x : V} {t : Value} (s : Same H H') (h : TyX K H x t) : TyX K H' x t:=h.same (fun b o _ q=>s b o q) (fun b fs q=>s b _ q)
theorem GtI.same {K : W.Frag} {a : Ad} {H H' : Hp} {g : V} {gb : Bool} (s : Same H H') (h : GtI K a H g gb) : GtI K a H' g gb:=let ⟨t,ty,r⟩:=h; ⟨t,Jll s ty,r⟩
theorem ty_str {K : W.Frag} {H : Hp} {x : V} {t : Value} (h : TyX K H x t) (e : t = .type "str") : ∃ z,x = .str z:=by
 cases h with
 | exc=>cases e
 | of ty =>
  cases ty with
  | str z=>exact ⟨z,rfl⟩
  | ins=>cases e
  | non=>exact absurd (Value.type.inj e) (by decide)
  | bl=>exact absurd (Value.type.inj e) (by decide)
  | int=>exact absurd (Value.type.inj e) (by decide)
  | flt=>exact absurd (Value.type.inj e) (by decide)
  | lst=>exact absurd (Value.type.inj e) (by decide)
  | frz=>exact absurd (Value.type.inj e) (by decide)
  | tup=>exact absurd (Value.type.inj e) (by decide)
  | dK=>exact absurd (Value.type.inj e) (by decide)
  | dT=>exact absurd (Value.type.inj e) (by decide)
structure Bsn where
 z : Str
 lo : Int
 hi : Int
 st : Int
 rn : Int
 g : V
 n : Nat
def BasAt (K : W.Frag) (a : Ad) (H : Hp) (o : Addr) (B : Bsn) : Prop:=∃ dx,H o = some (.ins a.Jhu dx (basF (.str B.z) (.int B.lo) (.int B.hi) (.int B.st) (.int B.rn) B.g)) ∧ GS K a H B.g B.n
theorem BasAt.same {K : W.Frag} {a : Ad} {H H' : Hp} {o : Addr} {B : Bsn} (s : Same H H') (h : BasAt K a H o B) : BasAt K a H' o B:=let ⟨dx,h1,h2⟩:=h; ⟨dx,s _ _ h1,h2.same s⟩
structure Twn where
 z : Str
 b : Str
 wt : Int
def TwnAt (a : Ad) (H : Hp) (o : Addr) (B : Twn) : Prop:=∃ dx,H o = some (.ins a.Jhv dx (twnF (.str B.z) (.str B.b) (.int B.wt)))
theorem TwnAt.same {a : Ad} {H H' : Hp} {o : Addr} {B : Twn} (s : Same H H') (h : TwnAt a H o B) : TwnAt a H' o B:=let ⟨dx,h1⟩:=h; ⟨dx,s _ _ h1⟩
def BasL (K : W.Frag) (a : Ad) (H : Hp) : List Addr → List Bsn → Prop
 | [],[]=>True
 | o :: os,B :: Bs=>BasAt K a H o B ∧ BasL K a H os Bs
 | _,_=>False
def TwnL (a : Ad) (H : Hp) : List Addr → List Twn → Prop
 | [],[]=>True
 | o :: os,B :: Bs=>TwnAt a H o B ∧ TwnL a H os Bs
 | _,_=>False
theorem BasL.same {K : W.Frag} {a : Ad} {H H' : Hp} (s : Same H H') : ∀ {os : List Addr} {Bs : List Bsn},BasL K a H os Bs → BasL K a H' os Bs
 | [],[],_=>True.intro
 | _ :: _,_ :: _,⟨h,t⟩=>⟨h.same s,BasL.same s t⟩
theorem TwnL.same {a : Ad} {H H' : Hp} (s : Same H H') : ∀ {os : List Addr} {Bs : List Twn},TwnL a H os Bs → TwnL a H' os Bs
 | [],[],_=>True.intro
 | _ :: _,_ :: _,⟨h,t⟩=>⟨h.same s,TwnL.same s t⟩
theorem BasL.len {K : W.Frag} {a : Ad} {H : Hp} : ∀ {os : List Addr} {Bs : List Bsn},BasL K a H os Bs → os.length = Bs.length
 | [],[],_=>rfl
 | _ :: _,_ :: _,⟨_,t⟩=>by rw [List.length_cons,List.length_cons,BasL.len t]
theorem TwnL.len {a : Ad} {H : Hp} : ∀ {os : List Addr} {Bs : List Twn},TwnL a H os Bs → os.length = Bs.length
 | [],[],_=>rfl
 | _ :: _,_ :: _,⟨_,t⟩=>by rw [List.length_cons,List.length_cons,TwnL.len t]
theorem BasL.get {K : W.Frag} {a : Ad} {H : Hp} : ∀ {os : List Addr} {Bs : List Bsn} {i : Nat} {v : V},BasL K a H os Bs → (os.map V.ref)[i]? = some v → ∃ o B,v = .ref o ∧ Bs[i]? = some B ∧ BasAt K a H o B
 | _ :: _,B :: _,0,v,⟨h,_⟩,e=>⟨_,B,by simpa using e.symm,rfl,h⟩
 | _ :: _,_ :: _,i + 1,v,⟨_,t⟩,e=>BasL.get (i:=i) t (by simpa using e)
 | [],[],i,v,_,e=>by simp at e
theorem TwnL.get {a : Ad} {H : Hp} : ∀ {os : List Addr} {Bs : List Twn} {i : Nat} {v : V},TwnL a H os Bs → (os.map V.ref)[i]? = some v → ∃ o B,v = .ref o ∧ Bs[i]? = some B ∧ TwnAt a H o B
 | _ :: _,B :: _,0,v,⟨h,_⟩,e=>⟨_,B,by simpa using e.symm,rfl,h⟩
 | _ :: _,_ :: _,i + 1,v,⟨_,t⟩,e=>TwnL.get (i:=i) t (by simpa using e)
 | [],[],i,v,_,e=>by simp at e
def Jwk (K : W.Frag) : Sp:=fun vs H Q _=>∃ (l : Addr) (zs : List Str),vs = [.ref l] ∧ SqL K H l (zs.map V.str) ∧ zs.length ≤ 2000 ∧ ∀ H', Same H H' → Q (.bl (decide ((uq zs).length = zs.length))) H'
def Jwc (K : W.Frag) (a : Ad) : Sp:=fun vs H Q _=>∃ (l : Addr) (os : List Addr) (Bs : List Bsn),vs = [.ref l] ∧ H l = some (.lst (os.map V.ref)) ∧ BasL K a H os Bs ∧ (1 ≤ Bs.length ∧ Bs.length ≤ 16) ∧ (Bs.map (·.z)).Nodup ∧ ∀ H', Same H H' → Q (.bl true) H'
def Jy5 (K : W.Frag) (a : Ad) : Sp:=fun vs H Q _=>∃ (l m : Addr) (os ts : List Addr) (Bs : List Bsn) (Ts : List Twn),vs = [.ref m,.ref l] ∧ H l = some (.lst (os.map V.ref)) ∧ BasL K a H os Bs ∧ Bs.length ≤ 16 ∧ H m = some (.lst (ts.map V.ref)) ∧ TwnL a H ts Ts ∧ Ts.length ≤ 3 ∧ (Ts.map (·.z)).Nodup ∧ (∀ t ∈ Ts,t.b ∈ Bs.map (·.z)) ∧ ∀ H', Same H H' → Q (.bl true) H'
section
variable {P : Program} {w : World} {K : W.Frag} {mg : Str → Option Value} {base : Heap} {a : Ad}
theorem Jn4 : Jic ["self","thing"] ["self","thing"] (Ji6 (Jid (top 4) 0)):=⟨rfl,rfl,rfl,by decide +kernel,rfl,by decide +kernel,by decide +kernel⟩
theorem Jkr (T : Tx K mg a) : FnOk P w K mg base CX0 1 a.Je2 a.Je3 ["self","thing"] (Jl3 K "thing"):=by
 refine T.Jba.fn.ok Jn4 (fun vs H Q E h=>?_) (fun cdv A outer s H vs Q E hr h=>?_)
 ·obtain ⟨e,C,W,fI,y,rfl,_⟩:=h
  rfl
 ·obtain ⟨e,C,W,fI,y,rfl,q,c,n,k⟩:=h
  refine ⟨_,(Ji7 (Jkz (pv 0) (pv 1) rfl)),?_⟩
  exact ⟨_,rfl,_,rfl,e,C,W,fI,true,rfl,q,c,n,k⟩
theorem Jsa : Jic ["thing","low","high"] ["thing","low","high"] (Ji6 (top 16)):=⟨rfl,rfl,rfl,by decide +kernel,rfl,by decide +kernel,by decide +kernel⟩
theorem Jjw (T : Tx K mg a) : FnOk P w K mg base CX0 1 a.Jeg a.Jeh ["thing","low","high"] (Jy6 K):=by
 refine T.J0.fn.ok Jsa (fun vs H Q E h=>?_) (fun cdv A outer s H vs Q E hr h=>?_)
 ·obtain ⟨x,lo,hi,rfl,_⟩:=h
  rfl
 ·obtain ⟨x,lo,hi,rfl,tm,k⟩:=h
  refine ⟨_,(Ji4 (Jiy (Jm9 (Jiq (Jib Jjj (by rfl) T.Jag Jii (Ji1 (pv 0) (Ji1 (Jjm (v:=.ty "bool") (by rfl) T.Jad Jqv rfl) Ji2)))) (Jlj (Jip (Jiq (Jib Jjj (by rfl) T.Jag Jii (Ji1 (pv 0) (Ji1 (Jjm (v:=.ty "int") (by rfl) T.Jaf Jot rfl) Ji2))))))).pt (Ji7 (Jif Jjx)) Jik)
   (Ji7 (Jif (Jpb Jmw Jmw (pv 1) (pv 0) (pv 2))))),?_⟩
  rcases tm with ⟨i,rfl⟩ | ⟨t,ty,ht⟩
  ·refine ⟨_,rfl,_,_,_,_,_,rfl,rfl,.of (.int i),(by rfl : W.kitOne K (.type "int") (.type "bool") = some false),_,rfl,Jj3 ⟨_,rfl,_,_,_,_,_,rfl,rfl,.of (.int i),(by rfl : W.kitOne K (.type "int") (.type "int") = some true),_,rfl,Jj3 ?_⟩⟩
   refine ⟨_,rfl,_,rfl,_,_,rfl,rfl,_,rfl,?_⟩
   have k' : Q (.bl (decide (lo ≤ i) && decide (i ≤ hi))) H:=k
   by_cases h1 : lo ≤ i
   ·rw [decide_eq_true h1] at k' ⊢
    exact Jjr ⟨_,rfl,_,_,rfl,rfl,by simpa using k'⟩
   ·rw [decide_eq_false h1] at k' ⊢
    exact Jj3 (by simpa using k')
  ·rw [Jxh ty ht] at k
   have e:=tp_int (K:=K) ht
   cases eb : (t == .type "bool") with
   | true =>
    rw [eb] at e
    exact ⟨_,rfl,_,_,_,_,_,rfl,rfl,ty,e.2,_,rfl,Jjr (Jjr k)⟩
   | false =>
    rw [eb] at e
    exact ⟨_,rfl,_,_,_,_,_,rfl,rfl,ty,e.2,_,rfl,Jj3 ⟨_,rfl,_,_,_,_,_,rfl,rfl,ty,e.1,_,rfl,Jjr k⟩⟩
theorem sc_are_marks : Jic ["thing","lowest","least","mark"] ["thing","lowest"] (Ji6 (top 35)):=⟨rfl,rfl,rfl,by decide +kernel,rfl,by decide +kernel,by decide +kernel⟩
theorem Jr4 (T : Tx K mg a) : FnOk P w K mg base CX0 2 a.Jf6 a.Jf7 ["thing","lowest"] (spAre K):=by
 have G_is_whole:=Jjw (P:=P) (w:=w) (base:=base) T
 refine T.Jd.fn.ok sc_are_marks (fun vs H Q E h=>?_) (fun cdv A outer s H vs Q E hr h=>?_)
 ·obtain ⟨x,lo,b,rfl,_⟩:=h
  rfl
 ·obtain ⟨x,lo,b,rfl,sh,k⟩:=h
  refine ⟨_,(Ji4 (Jiy (Jip (Jiq (Jib Jn8 (by rfl) T.Jag Jii (Ji1 (pv 0) (Ji1 (Jk9 (Ji1 (Jjm (v:=.ty "list") (by rfl) T.Jai Jk7 rfl) (Ji1 (Jjm (v:=.ty "tuple") (by rfl) T.Jap Jj6 rfl) Ji2))) Ji2))))) (Ji7 (Jif Jjx)) Jik)
   (Ji4 (Jiy (Jip (Js7 Jmw Jmw Ji5 (Jib Jih (by rfl) T.Jah Jjb (Ji1 (pv 0) Ji2)) (Jjd (by rfl) T.Ja3 (v:=.int 4) ⟨_,rfl⟩))) (Ji7 (Jif Jjx)) Jik)
   (Ji4 (Jig (i:=2) sc_are_marks.nd rfl (Or.inl rfl) (pv 1))
   (Ji4 (Jkl PassesOwn.never rfl (pi_seq (pv 0)) (Jie (i:=3) sc_are_marks.nd rfl (Or.inl rfl)) (Ji4 (Jiy (Jip (Jiq (Jia T.J0 G_is_whole hr (by decide) (Ji1 (pv 3) (Ji1 (pv 2) (Ji1 (Jjd (by rfl) T.Ja4 (v:=.int 12) ⟨_,rfl⟩) Ji2)))))) (Ji7 (Jif Jjx)) Jik)
    (Ji7 (Jig (i:=2) sc_are_marks.nd rfl (Or.inl rfl) (Jij Jj1 (pv 3) Ji5)))))
   (Ji7 (Jif Jjx)))))),?_⟩
  cases sh with
  | @non t ty e =>
   refine ⟨_,rfl,(show 2 ≤ sizeLine by decide),fun p hp=>⟨_,p,_,_,t,_,rfl,Ji3,rfl,ty.same (fun b o _ q=>Same.upd hp b o q) (fun b fs q=>Same.upd hp b _ q),e,_,rfl,Jjr (k _ (Same.upd hp))⟩⟩
  | @seq xs sq tms =>
   obtain ⟨t,ty,_,e⟩:=sq.ty (K:=K)
   refine ⟨_,rfl,(show 2 ≤ sizeLine by decide),fun p hp=>⟨_,p,_,_,t,_,rfl,Ji3,rfl,ty.same (fun b o _ q=>Same.upd hp b o q) (fun b fs q=>Same.upd hp b _ q),e,_,rfl,Jj3 ?_⟩⟩
   have s1:=Same.upd (o:=.tup [.ty "list",.ty "tuple"]) hp
   have sq1:=sq.same s1
   obtain ⟨q,rfl⟩ : ∃ q,x = .ref q:=by cases sq <;> exact ⟨_,rfl⟩
   have len : SqL K (upd H p (.tup [.ty "list",.ty "tuple"])) q xs ∨ SqT K (upd H p (.tup [.ty "list",.ty "tuple"])) q xs:=by
    cases sq1 with
    | lst e=>exact .inl (SqL.of e)
    | tup e=>exact .inr (SqT.of e)
   refine ⟨_,rfl,q,xs,rfl,len,_,_,rfl,rfl,_,rfl,?_⟩
   have no : Jlp lo xs = false → ∀ H', Same H H' → Q (.bl false) H':=fun z H' s'=>by
    have:=k H' s'
    rw [z] at this
    exact this
   by_cases h1 : (1 : Int) ≤ (xs.length : Int)
   ·rw [decide_eq_true h1]
    refine Jjr ⟨_,_,rfl,rfl,_,rfl,?_⟩
    by_cases h2 : (xs.length : Int) ≤ 4
    ·rw [decide_eq_true h2]
     refine Jj3 ⟨_,rfl,?_⟩
     have lz : decide (1 ≤ xs.length ∧ xs.length ≤ 4) = true:=decide_eq_true (by omega)
     have ar : Jlp lo xs = Jjs lo xs:=by unfold Jlp; rw [lz,Bool.true_and]
     refine ⟨_,rfl,q,rfl,Jx9 (xs:=xs) (fun i σ H'=>∃ (l : Int) (o : Option V),σ = [some (.ref q),some (.int lo),some (.int l),o] ∧ H' = upd H p (.tup [.ty "list",.ty "tuple"]) ∧ Jjs lo xs = Jjs l (xs.drop i)) ⟨lo,_,rfl,rfl,rfl⟩ ?_ ?_ ?_⟩
     ·rcases len with z | z
      ·exact .inl fun i σ H' _ ⟨_,_,_,e,_⟩=>by rw [e]; exact z
      ·exact .inr fun i σ H' _ ⟨_,_,_,e,_⟩=>by rw [e]; exact z
     ·rintro i y σ H' hy ⟨l,o,rfl,rfl,em⟩
      have hd : xs.drop i = y :: xs.drop (i + 1):=by
       obtain ⟨hi,rfl⟩:=List.getElem?_eq_some_iff.mp hy
       exact List.drop_eq_getElem_cons hi
      refine ⟨_,rfl,_,rfl,y,l,12,rfl,(tms y (List.mem_of_getElem? hy)).same s1,_,rfl,?_⟩
      cases z : Jil y l 12 with
      | false =>
       refine Jjr (no ?_ _ s1)
       rw [ar,em,hd,Jo4,z,Bool.false_and]
      | true =>
       rw [hd,Jo4,z,Bool.true_and] at em
       cases y with
       | int i'=>exact Jj3 ⟨_,rfl,_,_,rfl,rfl,i' + 1,_,rfl,rfl,em⟩
       | _=>cases z
     ·rintro σ H' ⟨l,o,rfl,rfl,em⟩
      have e : Jlp lo xs = true:=by rw [ar,em,List.drop_of_length_le (Nat.le_refl _)]; rfl
      have:=k _ s1
      rw [e] at this
      exact this
    ·rw [decide_eq_false h2]
     refine Jjr (no ?_ _ s1)
     unfold Jlp
     rw [decide_eq_false (by omega : ¬ (1 ≤ xs.length ∧ xs.length ≤ 4)),Bool.false_and]
   ·rw [decide_eq_false h1]
    refine Jj3 ⟨_,rfl,Jjr (no ?_ _ s1)⟩
    unfold Jlp
    rw [decide_eq_false (by omega : ¬ (1 ≤ xs.length ∧ xs.length ≤ 4)),Bool.false_and]
end
section
variable {P : Program} {w : World} {K : W.Frag} {mg : Str → Option Value} {base : Heap} {a : Ad}
theorem Jq0 : Jic ["marks","lowest"] ["marks","lowest"] (Ji6 (top 36)):=⟨rfl,rfl,rfl,by decide +kernel,rfl,by decide +kernel,by decide +kernel⟩
theorem Jl1 (T : Tx K mg a) : FnOk P w K mg base (CXX P w) 3 a.Jf8 a.Jf9 ["marks","lowest"] (spKept K a):=by
 have G_are_marks:=Jr4 (P:=P) (w:=w) (base:=base) T
 have G_NoGate___init__:=Jkr (P:=P) (w:=w) (base:=base) T
 refine T.Je.fn.okX Jq0 (fun vs H Q E h=>?_) (fun cdv A outer s H vs Q E hr h=>?_)
 ·obtain ⟨x,lo,rfl,_⟩:=h
  rfl
 ·obtain ⟨x,lo,rfl,h⟩:=h
  refine ⟨_,(Ji4 (Jiy (Jip (Jiq (Jia T.Jd G_are_marks hr (by decide) (Ji1 (pv 0) (Ji1 (pv 1) Ji2))))) (Ji7 (Jjc Jje rfl (Jk3 T.Jbu G_NoGate___init__ hr (by decide) T.Jba.bd T.Jat (Ji1 (pv 0) Ji2)))) Jik)
   (Ji7 (Jif (Jin Jis (by rfl) T.Jap Jj6 (Ji1 (pv 0) Ji2))))),?_⟩
  rcases h with ⟨xs,sq,tms,e,k⟩ | ⟨sh,k⟩
  ·have sh:=Shp.seq (lo:=lo) sq tms
   rw [e] at sh
   refine ⟨_,rfl,_,rfl,x,lo,true,rfl,sh,fun H1 s1=>⟨_,rfl,Jj3 ?_⟩⟩
   cases sq with
   | lst e=>exact ⟨_,rfl,_,xs,rfl,.inl ⟨SqL.of (s1 _ _ e),fun l hl=>k l _ (s1.trans (Same.upd hl)) Ji3⟩⟩
   | tup e=>exact ⟨_,rfl,_,xs,rfl,.inr ⟨SqT.of (s1 _ _ e),k _ _ s1 (s1 _ _ e)⟩⟩
  ·exact ⟨_,rfl,_,rfl,x,lo,false,rfl,sh,fun H1 s1=>⟨_,rfl,Jjr (Jjp T.Jbu T.Jbv rfl fun e dx h1 h2 h3=>k _ _ _ ((Rf.new h1 h2 h3).of s1))⟩⟩
theorem Jmg : Jic ["self","marks"] ["self","marks"] (Ji6 (Jid (top 39) 0)):=⟨rfl,rfl,rfl,by decide +kernel,rfl,by decide +kernel,by decide +kernel⟩
theorem Jny (T : Tx K mg a) : FnOk P w K mg base (CXX P w) 4 a.Jfa a.Jfb ["self","marks"] (Jrj K a 0):=by
 have G_kept_marks:=Jl1 (P:=P) (w:=w) (base:=base) T
 refine T.Jbh.fn.okX Jmg (fun vs H Q E h=>?_) (fun cdv A outer s H vs Q E hr h=>?_)
 ·obtain ⟨p,C,dx,x,rfl,_⟩:=h
  rfl
 ·obtain ⟨p,C,dx,x,rfl,hp,c,n,h⟩:=h
  refine ⟨_,(Ji7 (Jju (pv 0) (Jkk T.Je G_kept_marks Jje hr (by decide) (Ji1 (pv 1) (Ji1 Ji5 Ji2))) rfl)),?_⟩
  rcases h with ⟨xs,sq,tms,e,k⟩ | ⟨sh,k⟩
  ·exact ⟨_,rfl,x,0,rfl,.inl ⟨xs,sq,tms,e,fun t H' s' ht=>⟨_,rfl,p,C,dx,[],rfl,s' _ _ hp,c,n,by simp,k t H' s' ht⟩⟩⟩
  ·exact ⟨_,rfl,x,0,rfl,.inr ⟨sh,k⟩⟩
theorem Jmh : Jic ["self"] ["self"] (Ji6 (Jid (top 39) 1)):=⟨rfl,rfl,rfl,by decide +kernel,rfl,by decide +kernel,by decide +kernel⟩
theorem Jm4 (T : Tx K mg a) : FnOk P w K mg base CX0 1 a.Jfc a.Jfd ["self"] (Jwi a.Jhq):=by
 refine T.Jbi.fn.ok Jmh (fun vs H Q E h=>?_) (fun cdv A outer s H vs Q E hr h=>?_)
 ·obtain ⟨p,xs,rfl,_⟩:=h
  rfl
 ·obtain ⟨p,xs,rfl,⟨dx,t,h1,h2⟩,k⟩:=h
  refine ⟨_,(Ji7 (Jif (Jib Jih (by rfl) T.Jah Jjb (Ji1 (Jk0 (pv 0) (by rfl)) Ji2)))),?_⟩
  exact ⟨_,rfl,p,_,dx,_,_,rfl,h1,T.Jc7,T.Jcb,rfl,t,xs,rfl,.inr (SqT.of h2),k⟩
theorem Jmb : Jic ["self","marks"] ["self","marks"] (Ji6 (Jid (top 40) 0)):=⟨rfl,rfl,rfl,by decide +kernel,rfl,by decide +kernel,by decide +kernel⟩
theorem Jnv (T : Tx K mg a) : FnOk P w K mg base (CXX P w) 4 a.Jfe a.Jff ["self","marks"] (Jrj K a 0):=by
 have G_kept_marks:=Jl1 (P:=P) (w:=w) (base:=base) T
 refine T.Jbj.fn.okX Jmb (fun vs H Q E h=>?_) (fun cdv A outer s H vs Q E hr h=>?_)
 ·obtain ⟨p,C,dx,x,rfl,_⟩:=h
  rfl
 ·obtain ⟨p,C,dx,x,rfl,hp,c,n,h⟩:=h
  refine ⟨_,(Ji7 (Jju (pv 0) (Jkk T.Je G_kept_marks Jje hr (by decide) (Ji1 (pv 1) (Ji1 Ji5 Ji2))) rfl)),?_⟩
  rcases h with ⟨xs,sq,tms,e,k⟩ | ⟨sh,k⟩
  ·exact ⟨_,rfl,x,0,rfl,.inl ⟨xs,sq,tms,e,fun t H' s' ht=>⟨_,rfl,p,C,dx,[],rfl,s' _ _ hp,c,n,by simp,k t H' s' ht⟩⟩⟩
  ·exact ⟨_,rfl,x,0,rfl,.inr ⟨sh,k⟩⟩
theorem Jmc : Jic ["self"] ["self"] (Ji6 (Jid (top 40) 1)):=⟨rfl,rfl,rfl,by decide +kernel,rfl,by decide +kernel,by decide +kernel⟩
theorem Jm1 (T : Tx K mg a) : FnOk P w K mg base CX0 1 a.Jfg a.Jfh ["self"] (Jwi a.Jhr):=by
 refine T.Jbk.fn.ok Jmc (fun vs H Q E h=>?_) (fun cdv A outer s H vs Q E hr h=>?_)
 ·obtain ⟨p,xs,rfl,_⟩:=h
  rfl
 ·obtain ⟨p,xs,rfl,⟨dx,t,h1,h2⟩,k⟩:=h
  refine ⟨_,(Ji7 (Jif (Jib Jih (by rfl) T.Jah Jjb (Ji1 (Jk0 (pv 0) (by rfl)) Ji2)))),?_⟩
  exact ⟨_,rfl,p,_,dx,_,_,rfl,h1,T.Jcc,T.Jcg,rfl,t,xs,rfl,.inr (SqT.of h2),k⟩
theorem Jme : Jic ["self","marks"] ["self","marks"] (Ji6 (Jid (top 41) 0)):=⟨rfl,rfl,rfl,by decide +kernel,rfl,by decide +kernel,by decide +kernel⟩
theorem Jnx (T : Tx K mg a) : FnOk P w K mg base (CXX P w) 4 a.Jfi a.Jfj ["self","marks"] (Jrj K a 1):=by
 have G_kept_marks:=Jl1 (P:=P) (w:=w) (base:=base) T
 refine T.Jbl.fn.okX Jme (fun vs H Q E h=>?_) (fun cdv A outer s H vs Q E hr h=>?_)
 ·obtain ⟨p,C,dx,x,rfl,_⟩:=h
  rfl
 ·obtain ⟨p,C,dx,x,rfl,hp,c,n,h⟩:=h
  refine ⟨_,(Ji7 (Jju (pv 0) (Jkk T.Je G_kept_marks Jje hr (by decide) (Ji1 (pv 1) (Ji1 Ji5 Ji2))) rfl)),?_⟩
  rcases h with ⟨xs,sq,tms,e,k⟩ | ⟨sh,k⟩
  ·exact ⟨_,rfl,x,1,rfl,.inl ⟨xs,sq,tms,e,fun t H' s' ht=>⟨_,rfl,p,C,dx,[],rfl,s' _ _ hp,c,n,by simp,k t H' s' ht⟩⟩⟩
  ·exact ⟨_,rfl,x,1,rfl,.inr ⟨sh,k⟩⟩
theorem Jmf : Jic ["self"] ["self"] (Ji6 (Jid (top 41) 1)):=⟨rfl,rfl,rfl,by decide +kernel,rfl,by decide +kernel,by decide +kernel⟩
theorem Jm3 (T : Tx K mg a) : FnOk P w K mg base CX0 1 a.Jfk a.Jfl ["self"] (Jwi a.Jhs):=by
 refine T.Jbm.fn.ok Jmf (fun vs H Q E h=>?_) (fun cdv A outer s H vs Q E hr h=>?_)
 ·obtain ⟨p,xs,rfl,_⟩:=h
  rfl
 ·obtain ⟨p,xs,rfl,⟨dx,t,h1,h2⟩,k⟩:=h
  refine ⟨_,(Ji7 (Jif (Jib Jih (by rfl) T.Jah Jjb (Ji1 (Jk0 (pv 0) (by rfl)) Ji2)))),?_⟩
  exact ⟨_,rfl,p,_,dx,_,_,rfl,h1,T.Jch,T.Jcl,rfl,t,xs,rfl,.inr (SqT.of h2),k⟩
theorem Jls : Jic ["self"] ["self"] (Ji6 (Jid (top 42) 1)):=⟨rfl,rfl,rfl,by decide +kernel,rfl,by decide +kernel,by decide +kernel⟩
theorem Jlq (T : Tx K mg a) : FnOk P w K mg base CX0 1 a.Jfo a.Jfp ["self"] spOne:=by
 refine T.Jbo.fn.ok Jls (fun vs H Q E h=>?_) (fun cdv A outer s H vs Q E hr h=>?_)
 ·obtain ⟨x,rfl,_⟩:=h
  rfl
 ·obtain ⟨x,rfl,k⟩:=h
  refine ⟨_,(Ji7 (Jif Ji5)),?_⟩
  exact k
theorem Jmx {j : Nat} {σ : L2.St} {H : Hp} {x : V} {n : Nat} {Q : VK} (T : Tx K mg a) (g : GS K a H x n) (k : Q (.int n) H) (hj : 1 ≤ j) :
  ∃ g' C dx fs f fd ps sp k', x = .ref g' ∧ H g' = some (.ins C dx fs) ∧ fs.lookup ("settings" : Str) = none ∧ Cls K C ∧ Jon K C "settings" f ∧ FnOk P w K mg base CX0 k' f fd ps sp ∧ k' ≤ j ∧ Binds K fd ps [] ∧ Jpi σ H fun vs H2=>sp (x :: vs) H2 Q E0:=by
 cases g with
 | @plain g C xs i ga l =>
  obtain ⟨dx,t,h1,h2⟩:=ga
  rcases i with rfl | rfl | rfl
  ·exact ⟨g,_,dx,_,_,_,_,_,_,rfl,h1,rfl,T.Jc7,T.Jca,Jm4 T,hj,T.Jbi.bd,g,xs,rfl,⟨dx,t,h1,h2⟩,k⟩
  ·exact ⟨g,_,dx,_,_,_,_,_,_,rfl,h1,rfl,T.Jcc,T.Jcf,Jm1 T,hj,T.Jbk.bd,g,xs,rfl,⟨dx,t,h1,h2⟩,k⟩
  ·exact ⟨g,_,dx,_,_,_,_,_,_,rfl,h1,rfl,T.Jch,T.Jck,Jm3 T,hj,T.Jbm.bd,g,xs,rfl,⟨dx,t,h1,h2⟩,k⟩
 | @stuck g dx x y h1=>exact ⟨g,_,dx,_,_,_,_,_,_,rfl,h1,rfl,T.Jcm,T.Jcp,Jlq T,hj,T.Jbo.bd,_,rfl,k⟩
theorem GS.ty {H : Hp} {x : V} {n : Nat} (T : Tx K mg a) (g : GS K a H x n) : ∃ t,TyX K H x t ∧ W.kitOne K t (.ref a.Jhp) = some true:=by
 cases g with
 | plain i ga l =>
  obtain ⟨dx,t,h1,h2⟩:=ga
  rcases i with rfl | rfl | rfl
  ·exact ⟨_,.of (T.Jc8.ty T.Jc7 h1),T.Jdh⟩
  ·exact ⟨_,.of (T.Jcd.ty T.Jcc h1),T.Jdi⟩
  ·exact ⟨_,.of (T.Jci.ty T.Jch h1),T.Jdj⟩
 | stuck h1=>exact ⟨_,.of (T.Jcn.ty T.Jcm h1),T.Jdk⟩
theorem put2 (x y : V) : Jjz ("setting" : Str) y [(("gate" : Str),x)] = [(("gate" : Str),x),(("setting" : Str),y)]:=by
 have h : ¬ (("gate" : Str) = "setting"):=by decide +kernel
 simp [Jjz,h]
theorem Jlr : Jic ["self","gate","setting"] ["self","gate","setting"] (Ji6 (Jid (top 42) 0)):=⟨rfl,rfl,rfl,by decide +kernel,rfl,by decide +kernel,by decide +kernel⟩
theorem Jnc (T : Tx K mg a) : FnOk P w K mg base (CXX P w) 4 a.Jfm a.Jfn ["self","gate","setting"] (Jxx K a):=by
 have G_is_whole:=Jjw (P:=P) (w:=w) (base:=base) T
 have G_NoGate___init__:=Jkr (P:=P) (w:=w) (base:=base) T
 refine T.Jbn.fn.okX Jlr (fun vs H Q E h=>?_) (fun cdv A outer s H vs Q E hr h=>?_)
 ·obtain ⟨p,dx,x,y,rfl,_⟩:=h
  rfl
 ·obtain ⟨p,dx,x,y,rfl,hp,h⟩:=h
  refine ⟨_,(Ji4 (Jiy (Jip (Jiq (Jib Jjj (by rfl) T.Jag Jii (Ji1 (pv 1) (Ji1 (Jjd (by rfl) T.Jb1 (v:=.ref _) rfl) Ji2))))) (Ji7 (Jjc Jje rfl (Jk3 T.Jbu G_NoGate___init__ hr (by decide) T.Jba.bd T.Jat (Ji1 (pv 1) Ji2)))) Jik)
   (Ji4 (Jiy (Jip (Jiq (Jia T.J0 G_is_whole hr (by decide) (Ji1 (pv 2) (Ji1 Ji5 (Ji1 (Jij Jjt (Jur (pv 1) hr) Ji5) Ji2)))))) (Ji7 (Jjc Jje rfl (Jk3 T.Jbu G_NoGate___init__ hr (by decide) T.Jba.bd T.Jat (Ji1 (pv 2) Ji2)))) Jik)
   (Ji4 (Jju (pv 0) (pv 1) rfl)
   (Ji7 (Jju (pv 0) (pv 2) rfl))))),?_⟩
  rcases h with ⟨t,ty,e,k⟩ | ⟨n,g,tm,e,k⟩ | ⟨n,g,tm,e,k⟩
  ·exact ⟨_,rfl,x,_,_,t,_,rfl,rfl,ty,e,_,rfl,Jjr (Jjp T.Jbu T.Jbv rfl fun e dx h1 h2 h3=>k _ _ _ (Rf.new h1 h2 h3))⟩
  ·obtain ⟨t,ty,et⟩:=g.ty T
   refine ⟨_,rfl,x,_,_,t,_,rfl,rfl,ty,et,_,rfl,Jj3 ⟨_,rfl,_,rfl,Jmx T g ⟨_,_,rfl,rfl,y,0,(n : Int) - 1,rfl,tm,_,rfl,?_⟩ (by decide)⟩⟩
   rw [e]
   exact Jjr (Jjp T.Jbu T.Jbv rfl fun e dx h1 h2 h3=>k _ _ _ (Rf.new h1 h2 h3))
  ·obtain ⟨t,ty,et⟩:=g.ty T
   refine ⟨_,rfl,x,_,_,t,_,rfl,rfl,ty,et,_,rfl,Jj3 ⟨_,rfl,_,rfl,Jmx T g ⟨_,_,rfl,rfl,y,0,(n : Int) - 1,rfl,tm,_,rfl,?_⟩ (by decide)⟩⟩
   rw [e]
   refine Jj3 ⟨_,rfl,_,rfl,p,_,dx,[],rfl,hp,T.Jcm,T.Jcq,by simp,_,rfl,_,rfl,p,_,dx,_,rfl,Ji3,T.Jcm,T.Jcr,by simp [Jjz],?_⟩
   show Q .non _
   rw [Jka]
   exact put2 x y ▸ k
end
section
variable {P : Program} {w : World} {K : W.Frag} {mg : Str → Option Value} {base : Heap} {a : Ad}
theorem Jsb : Jic ["_law_script","_law_k"] ["_law_script","_law_k"] (Ji6 (top 58)):=⟨rfl,rfl,rfl,by decide +kernel,rfl,by decide +kernel,by decide +kernel⟩
theorem Js1 (T : Tx K mg a) : FnOk P w K mg base CX0 1 a.Jg4 a.Jg5 ["_law_script","_law_k"] (spCell K):=by
 refine T.Jj.fn.ok Jsb (fun vs H Q E h=>?_) (fun cdv A outer s H vs Q E hr h=>?_)
 ·obtain ⟨x,ns,i,rfl,_⟩:=h
  rfl
 ·obtain ⟨x,ns,i,rfl,hS,k⟩:=h
  refine ⟨_,(Ji4 (Jiy (Jji Jvv (pv 1) (Jib Jih (by rfl) T.Jah Jjb (Ji1 (pv 0) Ji2)) (Jj7 _)) (Ji7 (Jif (Jim Jiw (pv 0) (pv 1) (fun _ _=>rfl)))) Jik)
   (Ji7 (Jif (Jij Jj1 (Jij Jm7 Ji5 (pv 1)) Ji5)))),?_⟩
  refine ⟨_,rfl,_,rfl,x,_,rfl,.inl hS,_,_,rfl,rfl,_,rfl,ite2 (fun q=>?_) (fun q=>?_)⟩
  ·have hi : i < ns.length:=by
    have q':=of_decide_eq_true q
    rw [List.length_map] at q'
    omega
   exact ⟨_,rfl,_,rfl,x,_,_,_,rfl,rfl,hS,Jxc hi,k _⟩
  ·exact ⟨_,rfl,_,_,rfl,rfl,.inl ⟨by decide,by decide⟩,_,_,rfl,rfl,k _⟩
theorem Jq2 : Jic ["_law_cell_here"] ["_law_cell_here"] (Ji6 (top 59)):=⟨rfl,rfl,rfl,by decide +kernel,rfl,by decide +kernel,by decide +kernel⟩
theorem Jmu (T : Tx K mg a) : FnOk P w K mg base CX0 1 a.Jg6 a.Jg7 ["_law_cell_here"] Jwj:=by
 refine T.Jk.fn.ok Jq2 (fun vs H Q E h=>?_) (fun cdv A outer s H vs Q E hr h=>?_)
 ·obtain ⟨c,rfl,_⟩:=h
  rfl
 ·obtain ⟨c,rfl,k⟩:=h
  refine ⟨_,(Ji7 (Jif (Jjn (Ji1 (Jib (Jkn rfl) (by rfl) T.Jaj Jnp (Ji1 Ji5 (Ji1 (Jij Jjt (pv 0) (Jij Jvy Ji5 Ji5)) Ji2))) (Ji1 (Jij Jm6 (pv 0) Ji5) (Ji1 Ji5 Ji2)))))),?_⟩
  refine ⟨_,rfl,_,_,rfl,rfl,⟨by decide,by decide,by decide⟩,_,_,rfl,rfl,_,_,rfl,_,rfl,_,_,rfl,rfl,(by show (0 : Int) < 2147483647; decide),Jla _ (by show 3 ≤ 2000; decide),fun p hp=>?_⟩
  exact k p _ hp (Same.upd hp) ⟨_,_,_,Ji3⟩
theorem sc_law_take : Jic ["_law_stream_here","_law_many","_law_digit","_law_number"] ["_law_stream_here","_law_many"] (Ji6 (top 60)):=⟨rfl,rfl,rfl,by decide +kernel,rfl,by decide +kernel,by decide +kernel⟩
theorem Jjk (T : Tx K mg a) : FnOk P w K mg base CX0 1 a.Jg8 a.Jg9 ["_law_stream_here","_law_many"] spTake:=by
 refine T.Jl.fn.ok sc_law_take (fun vs H Q E h=>?_) (fun cdv A outer s H vs Q E hr h=>?_)
 ·obtain ⟨p,m,rfl,_⟩:=h
  rfl
 ·obtain ⟨p,m,rfl,⟨a0,b0,c0,hp⟩,hm,hl,k⟩:=h
  refine ⟨_,(Ji4 (Jre (Jij Jj1 (Jim Jiw (pv 0) Ji5 (fun _ _=>rfl)) Ji5) (Jt3 (pv 0) Ji5 Jph))
   (Ji4 (Jiy (Jji op_gt (Jim Jiw (pv 0) Ji5 (fun _ _=>rfl)) Ji5 (Jj7 _)) (Ji4 (Jig (i:=2) sc_law_take.nd rfl (Or.inl rfl) (Jij Jm6 (Jim Jiw (pv 0) Ji5 (fun _ _=>rfl)) (pv 1)))
    (Ji4 (Jre (Jij Js6 (Jim Jiw (pv 0) Ji5 (fun _ _=>rfl)) (pv 1)) (Jt3 (pv 0) Ji5 Jph))
    (Ji7 (Jif (pv 2))))) Jik)
   (Ji4 (Jig (i:=3) sc_law_take.nd rfl (Or.inl rfl) (Jij Jm6 (Jij Jm7 (Jij Jj1 (Jim Jiw (pv 0) Ji5 (fun _ _=>rfl)) (Jij Jm7 Ji5 (Jim Jiw (pv 0) Ji5 (fun _ _=>rfl)))) Ji5) Ji5))
   (Ji4 (Jig (i:=3) sc_law_take.nd rfl (Or.inl rfl) (Jij Jm6 (Jij Jm7 (pv 3) (pv 3)) Ji5))
   (Ji7 (Jif (Jij Jm6 (Jij Js6 (Jij Jm6 (Jij Jj1 (Jij Jm7 (pv 3) (Jij Jj1 (pv 3) Ji5)) (Jij Jm7 Ji5 (Jim Jiw (pv 0) Ji5 (fun _ _=>rfl)))) Ji5) Ji5) (pv 1)))))))),?_⟩
  refine ⟨_,rfl,p,_,_,_,rfl,rfl,SqL.of hp,rfl,_,_,rfl,rfl,_,rfl,p,_,_,_,rfl,rfl,hp,rfl,?_⟩
  refine ⟨_,rfl,p,_,_,_,rfl,rfl,SqL.of Ji3,rfl,_,_,rfl,rfl,_,rfl,ite2 (fun _=>?_) (fun _=>?_)⟩
  ·refine ⟨_,rfl,p,_,_,_,rfl,rfl,SqL.of Ji3,rfl,_,rfl,_,_,rfl,rfl,hm,?_⟩
   refine ⟨_,rfl,p,_,_,_,rfl,rfl,SqL.of Ji3,rfl,_,rfl,_,_,rfl,rfl,⟨hm,hl⟩,_,rfl,p,_,_,_,rfl,rfl,Ji3,rfl,?_⟩
   refine ⟨_,rfl,k _ _ (Int.emod_nonneg _ (by omega)) (Int.emod_lt_of_pos _ hm) ⟨fun b o ne e=>?_,_,_,_,Ji3⟩⟩
   rw [Ji9 ne,Ji9 ne]
   exact e
  ·refine ⟨_,rfl,p,_,_,_,rfl,rfl,SqL.of Ji3,rfl,_,rfl,p,_,_,_,rfl,rfl,SqL.of Ji3,rfl,_,_,rfl,rfl,.inl ⟨by decide,by decide⟩,_,_,rfl,rfl,_,_,rfl,rfl,.inr ⟨by decide,by decide⟩,_,_,rfl,rfl,(by show (0 : Int) < 2147483629; decide),?_⟩
   have n1 : ∀ x : Int,-(2 ^ 64) < x % 2147483629 ∧ x % 2147483629 < 2 ^ 64:=fun x=>by
    have h1:=Int.emod_nonneg x (show (2147483629 : Int) ≠ 0 by decide)
    have h2:=Int.emod_lt_of_pos x (show (0 : Int) < 2147483629 by decide)
    constructor <;> omega
   have n2 : ∀ x : Int,-(2 ^ 64) < x % 2147483587 ∧ x % 2147483587 < 2 ^ 64:=fun x=>by
    have h1:=Int.emod_nonneg x (show (2147483587 : Int) ≠ 0 by decide)
    have h2:=Int.emod_lt_of_pos x (show (0 : Int) < 2147483587 by decide)
    constructor <;> omega
   refine ⟨_,rfl,_,rfl,_,_,rfl,rfl,.inl (n1 _),_,_,rfl,rfl,(by show (0 : Int) < 2147483587; decide),?_⟩
   refine ⟨_,rfl,_,rfl,_,_,rfl,rfl,_,_,rfl,rfl,.inl (n2 _),_,rfl,p,_,_,_,rfl,rfl,SqL.of Ji3,rfl,_,_,rfl,rfl,.inl ⟨by decide,by decide⟩,_,_,rfl,rfl,_,_,rfl,rfl,(by show (0 : Int) < 2147483647; decide),_,_,rfl,rfl,⟨by decide,by decide⟩,_,rfl,_,_,rfl,rfl,hm,?_⟩
   refine k _ _ (Int.emod_nonneg _ (by omega)) (Int.emod_lt_of_pos _ hm) ⟨fun b o ne e=>?_,_,_,_,Ji3⟩
   rw [Ji9 ne]
   exact e
end
section
variable {P : Program} {w : World} {K : W.Frag} {mg : Str → Option Value} {base : Heap} {a : Ad}
theorem Jn5 : Jic ["self","thing"] ["self","thing"] (Ji6 (Jid (top 3) 0)):=⟨rfl,rfl,rfl,by decide +kernel,rfl,by decide +kernel,by decide +kernel⟩
theorem Jm2 (T : Tx K mg a) : FnOk P w K mg base CX0 1 a.Je0 a.Je1 ["self","thing"] (Jl3 K "thing"):=by
 refine T.Jb9.fn.ok Jn5 (fun vs H Q E h=>?_) (fun cdv A outer s H vs Q E hr h=>?_)
 ·obtain ⟨e,C,W,fI,y,rfl,_⟩:=h
  rfl
 ·obtain ⟨e,C,W,fI,y,rfl,q,c,n,k⟩:=h
  refine ⟨_,(Ji7 (Jkz (pv 0) (pv 1) rfl)),?_⟩
  exact ⟨_,rfl,_,rfl,e,C,W,fI,true,rfl,q,c,n,k⟩
theorem Jml : Jic ["self","thing"] ["self","thing"] (Ji6 (Jid (top 5) 0)):=⟨rfl,rfl,rfl,by decide +kernel,rfl,by decide +kernel,by decide +kernel⟩
theorem Jo9 (T : Tx K mg a) : FnOk P w K mg base CX0 1 a.Je4 a.Je5 ["self","thing"] (Jl3 K "thing"):=by
 refine T.Jbb.fn.ok Jml (fun vs H Q E h=>?_) (fun cdv A outer s H vs Q E hr h=>?_)
 ·obtain ⟨e,C,W,fI,y,rfl,_⟩:=h
  rfl
 ·obtain ⟨e,C,W,fI,y,rfl,q,c,n,k⟩:=h
  refine ⟨_,(Ji7 (Jkz (pv 0) (pv 1) rfl)),?_⟩
  exact ⟨_,rfl,_,rfl,e,C,W,fI,true,rfl,q,c,n,k⟩
theorem Jn6 : Jic ["self","thing"] ["self","thing"] (Ji6 (Jid (top 6) 0)):=⟨rfl,rfl,rfl,by decide +kernel,rfl,by decide +kernel,by decide +kernel⟩
theorem Jp7 (T : Tx K mg a) : FnOk P w K mg base CX0 1 a.Je6 a.Je7 ["self","thing"] (Jl3 K "thing"):=by
 refine T.Jbc.fn.ok Jn6 (fun vs H Q E h=>?_) (fun cdv A outer s H vs Q E hr h=>?_)
 ·obtain ⟨e,C,W,fI,y,rfl,_⟩:=h
  rfl
 ·obtain ⟨e,C,W,fI,y,rfl,q,c,n,k⟩:=h
  refine ⟨_,(Ji7 (Jkz (pv 0) (pv 1) rfl)),?_⟩
  exact ⟨_,rfl,_,rfl,e,C,W,fI,true,rfl,q,c,n,k⟩
theorem Jpz : Jic ["text","signs"] ["text","signs"] (Ji6 (top 17)):=⟨rfl,rfl,rfl,by decide +kernel,rfl,by decide +kernel,by decide +kernel⟩
theorem Jps (T : Tx K mg a) : FnOk P w K mg base CX0 1 a.Jei a.Jej ["text","signs"] spMade:=by
 refine T.J1.fn.ok Jpz (fun vs H Q E h=>?_) (fun cdv A outer s H vs Q E hr h=>?_)
 ·obtain ⟨z,g,rfl,_⟩:=h
  rfl
 ·obtain ⟨z,g,rfl,hz,k⟩:=h
  refine ⟨_,(Ji7 (Jif (Jib (Jlu rfl) (by rfl) T.Jac Jos (Ji1 (Jiz (N:=(["sign","signs"] : List Str)) (ini:=[none,some 1]) rfl (pi_str (pv 0)) (fun _ _ _ _ _=>(Jie (i:=0) (by decide +kernel : (["sign","signs"] : List Str).Nodup) rfl (Or.inl rfl))) (fun _ _ _ _ _=>Jit) (fun _ _ _ _ _=>(Jki Juq (pv 0) (pv 1) (by with_unfolding_all rfl)))) Ji2)))),?_⟩
  refine ⟨_,rfl,z,rfl,fun D hD=>?_⟩
  refine Jve (z:=z) (D:=D) (fun i σ H'=>∃ o,σ = [o,some (.str g)] ∧ H' = upd H D (.lst ((z.cps.toList.take i).map fun c=>V.bl (decide (c ∈ g.cps.toList))))) ?_ ?_ ?_
  ·exact ⟨none,rfl,rfl⟩
  ·rintro i c σ H' hc ⟨o,rfl,rfl⟩
   refine Jjh ⟨_,rfl,_,rfl,⟨#[c]⟩,g,rfl,rfl,_,Ji3,?_,_,rfl,?_⟩
   ·rw [List.length_map,List.length_take,Jtv]
    exact Jiu (by omega)
   ·rw [Jka,StrLaws.found_one]
    have e : z.cps.toList[i]? = some c:=by simpa using hc
    rw [List.take_add_one,e]
    simp
  ·rintro σ H' ⟨o,rfl,rfl⟩
   have e : z.cps.toList.take z.cps.size = z.cps.toList:=List.take_of_length_le (by simp)
   refine ⟨D,z.cps.toList.map fun c=>decide (c ∈ g.cps.toList),rfl,SqL.of (by rw [Ji3,e,List.map_map]; rfl),?_⟩
   have e2 : (z.cps.toList.map fun c=>decide (c ∈ g.cps.toList)).all id = Jq7 g z:=by
    unfold Jq7
    rw [List.all_map]
    rfl
   rw [e2]
   exact k _ (Same.upd hD)
theorem Jxi {H : Hp} {x : V} (h : Tm K H x) (n : ∀ z,x ≠ .str z) : ∃ t,TyX K H x t ∧ W.kitOne K t (.type "str") = some false:=by
 rcases h with ⟨i,rfl⟩ | ⟨t,ty,ht⟩
 ·exact ⟨_,.of (.int i),rfl⟩
 ·refine ⟨t,ty,?_⟩
  unfold tpB at ht
  simp only [List.contains_cons,List.contains_nil,Bool.or_false,Bool.or_eq_true,beq_iff_eq] at ht
  rcases ht with rfl | rfl | rfl | rfl | rfl | rfl
  ·rfl
  ·obtain ⟨z,e⟩:=ty_str ty rfl
   exact absurd e (n z)
  ·rfl
  ·rfl
  ·rfl
  ·rfl
theorem Jt5 : Jic ["thing"] ["thing"] (Ji6 (top 18)):=⟨rfl,rfl,rfl,by decide +kernel,rfl,by decide +kernel,by decide +kernel⟩
theorem Jp8 (T : Tx K mg a) : FnOk P w K mg base CX0 2 a.Jek a.Jel ["thing"] (spName K):=by
 have G_is_made_of:=Jps (P:=P) (w:=w) (base:=base) T
 refine T.J2.fn.ok Jt5 (fun vs H Q E h=>?_) (fun cdv A outer s H vs Q E hr h=>?_)
 ·obtain ⟨x,rfl,_⟩:=h
  rfl
 ·obtain ⟨x,rfl,nm,k⟩:=h
  refine ⟨_,(Ji4 (Jiy (Jip (Jiq (Jib Jjj (by rfl) T.Jag Jii (Ji1 (pv 0) (Ji1 (Jjm (v:=.ty "str") (by rfl) T.Jan bt_str rfl) Ji2))))) (Ji7 (Jif Jjx)) Jik)
   (Ji7 (Jif (Jrb (Jpb Jmw Jmw Ji5 (Jib Jqx (by rfl) T.Jah Jjb (Ji1 (pv 0) Ji2)) (Jjd (by rfl) T.Ja2 (v:=.int 8) ⟨_,rfl⟩)) (Jrc (Jia T.J1 G_is_made_of hr (by decide) (Ji1 (pv 0) (Ji1 (Jjd (by rfl) T.Ja1 (v:=.str "abcdefghijklmnopqrstuvwxyz") ⟨_,rfl⟩) Ji2)))))))),?_⟩
  by_cases hx : ∃ z,x = .str z
  ·obtain ⟨z,rfl⟩:=hx
   have k : ∀ H', Same H H' → Q (.bl (Jm0 z)) H':=k
   have hz : z.length ≤ 2000:=by have:=(nm.2 z rfl).len; omega
   refine ⟨_,rfl,_,_,_,_,_,rfl,rfl,.of (.str z),(by rfl : W.kitOne K (.type "str") (.type "str") = some true),_,rfl,Jj3 ?_⟩
   refine ⟨_,rfl,z,rfl,Jla _ hz,_,_,rfl,rfl,_,rfl,?_⟩
   have no : ¬ (1 ≤ z.length ∧ z.length ≤ 8) → Q (.bl false) H:=fun q=>by
    have k':=k H (Same.refl H)
    unfold Jm0 at k'
    rw [decide_eq_false q,Bool.false_and] at k'
    exact k'
   by_cases h1 : (1 : Int) ≤ (z.length : Int)
   ·rw [decide_eq_true h1]
    refine Jjr ⟨_,_,rfl,rfl,_,rfl,?_⟩
    by_cases h2 : (z.length : Int) ≤ 8
    ·rw [decide_eq_true h2]
     refine Jjr ⟨_,rfl,z,_,rfl,hz,fun H' s'=>?_⟩
     have e : Jm0 z = Jq7 LET z:=by
      unfold Jm0
      rw [decide_eq_true (by omega : 1 ≤ z.length ∧ z.length ≤ 8),Bool.true_and]
     have k':=k H' s'
     rw [e] at k'
     exact k'
    ·rw [decide_eq_false h2]
     exact Jj3 (no (by omega))
   ·rw [decide_eq_false h1]
    exact Jj3 ⟨_,rfl,Jj3 (no (by omega))⟩
  ·obtain ⟨t,ty,e1⟩:=Jxi nm.1 fun z e=>hx ⟨z,e⟩
   have k':=k H (Same.refl H)
   have e : Jkm x = false:=by
    cases x with
    | str z=>exact absurd ⟨z,rfl⟩ hx
    | _=>rfl
   rw [e] at k'
   exact ⟨_,rfl,_,_,_,_,_,rfl,rfl,ty,e1,_,rfl,Jjr k'⟩
theorem Jn7 : Jic ["thing","low","high"] ["thing","low","high"] (Ji6 (top 50)):=⟨rfl,rfl,rfl,by decide +kernel,rfl,by decide +kernel,by decide +kernel⟩
theorem Jn2 (T : Tx K mg a) : FnOk P w K mg base (CXX P w) 3 a.Jfq a.Jfr ["thing","low","high"] (Jv1 K a):=by
 have G_is_whole:=Jjw (P:=P) (w:=w) (base:=base) T
 have G_NoBasin___init__:=Jo9 (P:=P) (w:=w) (base:=base) T
 refine T.Jf.fn.okX Jn7 (fun vs H Q E h=>?_) (fun cdv A outer s H vs Q E hr h=>?_)
 ·obtain ⟨x,lo,hi,rfl,_⟩:=h
  rfl
 ·obtain ⟨x,lo,hi,rfl,tm,h⟩:=h
  refine ⟨_,(Ji7 (Jiy (Jip (Jiq (Jia T.J0 G_is_whole hr (by decide) (Ji1 (pv 0) (Ji1 (pv 1) (Ji1 (pv 2) Ji2)))))) (Ji7 (Jjc Jje rfl (Jk3 T.Jbw G_NoBasin___init__ hr (by decide) T.Jbb.bd T.Jau (Ji1 (pv 0) Ji2)))) Jik)),?_⟩
  refine ⟨_,rfl,_,rfl,_,rfl,x,lo,hi,rfl,tm,_,rfl,?_⟩
  rcases h with ⟨e,k⟩ | ⟨e,k⟩
  ·rw [e]
   exact Jj3 k
  ·rw [e]
   exact Jjr (Jjp T.Jbw T.Jbx rfl fun e dx h1 h2 h3=>k _ _ _ (RfC.new h1 h2 h3))
end
section
variable {P : Program} {w : World} {K : W.Frag} {mg : Str → Option Value} {base : Heap} {a : Ad}
theorem Jjy {f : Str} {v : V} : ∀ {fs : List (Str × V)},(fs.map (·.1)).contains f = false → Jjz f v fs = fs ++ [(f,v)]
 | [],_=>rfl
 | (g,x) :: r,h=>by
  rw [List.map_cons,List.contains_cons,Bool.or_eq_false_iff] at h
  have ne : ¬ g = f:=fun e=>by
   have:=h.1
   rw [e] at this
   simp at this
  show (if g = f then (g,v) :: r else (g,x) :: Jjz f v r) = _
  rw [if_neg ne,Jjy h.2]
  rfl
theorem Jng : Jic ["self","name","low","high","start","rain","gate"] ["self","name","low","high","start","rain","gate"] (Ji6 (Jid (top 51) 0)):=⟨rfl,rfl,rfl,by decide +kernel,rfl,by decide +kernel,by decide +kernel⟩
theorem Jpp (T : Tx K mg a) : FnOk P w K mg base (CXX P w) 4 a.Jfs a.Jft ["self","name","low","high","start","rain","gate"] (Jxw K a):=by
 have G_is_name:=Jp8 (P:=P) (w:=w) (base:=base) T
 have G_refuse_no_level:=Jn2 (P:=P) (w:=w) (base:=base) T
 have G_NoName___init__:=Jm2 (P:=P) (w:=w) (base:=base) T
 have G_NoGate___init__:=Jkr (P:=P) (w:=w) (base:=base) T
 refine T.Jbp.fn.okX Jng (fun vs H Q E h=>?_) (fun cdv A outer s H vs Q E hr h=>?_)
 ·obtain ⟨p,dx,n,lo,hi,st,rn,g,gb,d,rfl,_⟩:=h
  rfl
 ·obtain ⟨p,dx,n,lo,hi,st,rn,g,gb,d,rfl,hp,nm,tlo,thi,tst,trn,gt,du,k⟩:=h
  refine ⟨?t,?B,?C⟩
  case B =>
   refine' Ji4 (Jiy (Jip (Jiq (Jia T.J2 G_is_name hr (by decide) (Ji1 (pv 1) Ji2)))) (Ji7 (Jjc Jje rfl (Jk3 T.Jbs G_NoName___init__ hr (by decide) T.Jb9.bd T.Jas (Ji1 (pv 1) Ji2)))) Jik) ?_
   rotate_left
   refine' Ji4 (Jjv (Jkk T.Jf G_refuse_no_level Jje hr (by decide) (Ji1 (pv 2) (Ji1 Ji5 (Ji1 (Jjd (by rfl) T.Ja5 (v:=.int 12) ⟨_,rfl⟩) Ji2))))) ?_
   rotate_left
   refine' Ji4 (Jjv (Jkk T.Jf G_refuse_no_level Jje hr (by decide) (Ji1 (pv 3) (Ji1 (pv 2) (Ji1 (Jjd (by rfl) T.Ja5 (v:=.int 12) ⟨_,rfl⟩) Ji2))))) ?_
   rotate_left
   refine' Ji4 (Jjv (Jkk T.Jf G_refuse_no_level Jje hr (by decide) (Ji1 (pv 4) (Ji1 (pv 2) (Ji1 (pv 3) Ji2))))) ?_
   rotate_left
   refine' Ji4 (Jjv (Jkk T.Jf G_refuse_no_level Jje hr (by decide) (Ji1 (pv 5) (Ji1 Ji5 (Ji1 (Jjd (by rfl) T.Ja6 (v:=.int 6) ⟨_,rfl⟩) Ji2))))) ?_
   rotate_left
   refine' Ji4 (Jiy (Jip (Jiq (Jib Jjj (by rfl) T.Jag Jii (Ji1 (pv 6) (Ji1 (Jjd (by rfl) T.Jb1 (v:=.ref _) rfl) Ji2))))) (Ji7 (Jjc Jje rfl (Jk3 T.Jbu G_NoGate___init__ hr (by decide) T.Jba.bd T.Jat (Ji1 (pv 6) Ji2)))) Jik) ?_
   rotate_left
   refine' Ji4 (Jju (pv 0) (pv 1) rfl) ?_
   rotate_left
   refine' Ji4 (Jju (pv 0) (pv 2) rfl) ?_
   rotate_left
   refine' Ji4 (Jju (pv 0) (pv 3) rfl) ?_
   rotate_left
   refine' Ji4 (Jju (pv 0) (pv 4) rfl) ?_
   rotate_left
   refine' Ji4 (Jju (pv 0) (pv 5) rfl) ?_
   rotate_left
   exact (Ji7 (Jju (pv 0) (pv 6) rfl))
  refine ⟨_,rfl,n,rfl,nm,fun H1 s1=>⟨_,rfl,?_⟩⟩
  cases du with
  | name e =>
   rw [e]
   exact Jjr (Jjp T.Jbs T.Jbt rfl fun e dx h1 h2 h3=>k _ _ _ ((RfC.new h1 h2 h3).of s1))
  | low e1 e2 =>
   rw [e1]
   exact Jj3 ⟨_,rfl,lo,0,12,rfl,tlo.same s1,.inr ⟨e2,fun c eo H' rf=>k c eo H' (rf.of s1)⟩⟩
  | high l e1 e2 e3 e4 =>
   subst e2
   rw [e1]
   refine Jj3 ⟨_,rfl,_,0,12,rfl,tlo.same s1,.inl ⟨e3,?_⟩⟩
   exact ⟨_,rfl,_,rfl,hi,l,12,rfl,thi.same s1,.inr ⟨e4,fun c eo H' rf=>k c eo H' (rf.of s1)⟩⟩
  | start l h e1 e2 e3 e4 e5 e6 =>
   subst e2 e3
   rw [e1]
   refine Jj3 ⟨_,rfl,_,0,12,rfl,tlo.same s1,.inl ⟨e4,?_⟩⟩
   refine ⟨_,rfl,_,rfl,_,l,12,rfl,thi.same s1,.inl ⟨e5,?_⟩⟩
   exact ⟨_,rfl,_,rfl,_,rfl,st,l,h,rfl,tst.same s1,.inr ⟨e6,fun c eo H' rf=>k c eo H' (rf.of s1)⟩⟩
  | rain l h e1 e2 e3 e4 e5 e6 e7 =>
   subst e2 e3
   rw [e1]
   refine Jj3 ⟨_,rfl,_,0,12,rfl,tlo.same s1,.inl ⟨e4,?_⟩⟩
   refine ⟨_,rfl,_,rfl,_,l,12,rfl,thi.same s1,.inl ⟨e5,?_⟩⟩
   refine ⟨_,rfl,_,rfl,_,rfl,st,l,h,rfl,tst.same s1,.inl ⟨e6,?_⟩⟩
   exact ⟨_,rfl,rn,0,6,rfl,trn.same s1,.inr ⟨e7,fun c eo H' rf=>k c eo H' (rf.of s1)⟩⟩
  | gate l h e1 e2 e3 e4 e5 e6 e7 e8 =>
   subst e2 e3 e8
   obtain ⟨t,ty,g1,g2,g3⟩:=gt
   rw [e1]
   refine Jj3 ⟨_,rfl,_,0,12,rfl,tlo.same s1,.inl ⟨e4,?_⟩⟩
   refine ⟨_,rfl,_,rfl,_,l,12,rfl,thi.same s1,.inl ⟨e5,?_⟩⟩
   refine ⟨_,rfl,_,rfl,_,rfl,st,l,h,rfl,tst.same s1,.inl ⟨e6,?_⟩⟩
   refine ⟨_,rfl,rn,0,6,rfl,trn.same s1,.inl ⟨e7,?_⟩⟩
   exact ⟨_,rfl,g,_,_,t,_,rfl,rfl,Jll s1 ty,g1,_,rfl,Jjr (Jjp T.Jbu T.Jbv rfl fun e dx h1 h2 h3=>k _ _ _ ((RfC.new h1 h2 h3).of s1))⟩
  | good l h e1 e2 e3 e4 e5 e6 e7 e8 =>
   subst e2 e3 e8
   obtain ⟨t,ty,g1,g2,g3⟩:=gt
   rw [e1]
   refine Jj3 ⟨_,rfl,_,0,12,rfl,tlo.same s1,.inl ⟨e4,?_⟩⟩
   refine ⟨_,rfl,_,rfl,_,l,12,rfl,thi.same s1,.inl ⟨e5,?_⟩⟩
   refine ⟨_,rfl,_,rfl,_,rfl,st,l,h,rfl,tst.same s1,.inl ⟨e6,?_⟩⟩
   refine ⟨_,rfl,rn,0,6,rfl,trn.same s1,.inl ⟨e7,?_⟩⟩
   refine ⟨_,rfl,g,_,_,t,_,rfl,rfl,Jll s1 ty,g1,_,rfl,Jj3 ?_⟩
   refine ⟨_,rfl,_,rfl,p,_,dx,[],rfl,s1 _ _ hp,T.Jcs,T.Jcv,by simp,?_⟩
   rw [show Jjz "name" n [] = ([("name",n)] : List (Str × V)) from rfl]
   refine ⟨_,rfl,_,rfl,p,_,dx,_,rfl,Ji3,T.Jcs,T.Jcw,by simp,?_⟩
   rw [show Jjz "low" (.int l) [("name",n)] = ([("name",n),("low",(.int l))] : List (Str × V)) from Jjy (fs:=[("name",n)]) (show (["name"] : List Str).contains "low" = false by decide +kernel)]
   refine ⟨_,rfl,_,rfl,p,_,dx,_,rfl,Ji3,T.Jcs,T.Jcx,by simp,?_⟩
   rw [show Jjz "high" (.int h) [("name",n),("low",.int l)] = ([("name",n),("low",.int l),("high",(.int h))] : List (Str × V)) from Jjy (fs:=[("name",n),("low",.int l)]) (show (["name","low"] : List Str).contains "high" = false by decide +kernel)]
   refine ⟨_,rfl,_,rfl,p,_,dx,_,rfl,Ji3,T.Jcs,T.Jcy,by simp,?_⟩
   rw [show Jjz "start" st [("name",n),("low",.int l),("high",.int h)] = ([("name",n),("low",.int l),("high",.int h),("start",st)] : List (Str × V)) from Jjy (fs:=[("name",n),("low",.int l),("high",.int h)]) (show (["name","low","high"] : List Str).contains "start" = false by decide +kernel)]
   refine ⟨_,rfl,_,rfl,p,_,dx,_,rfl,Ji3,T.Jcs,T.Jcz,by simp,?_⟩
   rw [show Jjz "rain" rn [("name",n),("low",.int l),("high",.int h),("start",st)] = ([("name",n),("low",.int l),("high",.int h),("start",st),("rain",rn)] : List (Str × V)) from Jjy (fs:=[("name",n),("low",.int l),("high",.int h),("start",st)]) (show (["name","low","high","start"] : List Str).contains "rain" = false by decide +kernel)]
   refine ⟨_,rfl,_,rfl,p,_,dx,_,rfl,Ji3,T.Jcs,T.Jd0,by simp,?_⟩
   rw [show Jjz "gate" g [("name",n),("low",.int l),("high",.int h),("start",st),("rain",rn)] = ([("name",n),("low",.int l),("high",.int h),("start",st),("rain",rn),("gate",g)] : List (Str × V)) from Jjy (fs:=[("name",n),("low",.int l),("high",.int h),("start",st),("rain",rn)]) (show (["name","low","high","start","rain"] : List Str).contains "gate" = false by decide +kernel)]
   show Q .non _
   simp only [Jka]
   exact k _ s1
theorem Jo0 : Jic ["self","name","basin","want"] ["self","name","basin","want"] (Ji6 (Jid (top 52) 0)):=⟨rfl,rfl,rfl,by decide +kernel,rfl,by decide +kernel,by decide +kernel⟩
theorem Jr3 (T : Tx K mg a) : FnOk P w K mg base (CXX P w) 4 a.Jfu a.Jfv ["self","name","basin","want"] (spTown K a):=by
 have G_is_name:=Jp8 (P:=P) (w:=w) (base:=base) T
 have G_is_whole:=Jjw (P:=P) (w:=w) (base:=base) T
 have G_NoName___init__:=Jm2 (P:=P) (w:=w) (base:=base) T
 have G_NoTown___init__:=Jp7 (P:=P) (w:=w) (base:=base) T
 refine T.Jbq.fn.okX Jo0 (fun vs H Q E h=>?_) (fun cdv A outer s H vs Q E hr h=>?_)
 ·obtain ⟨p,dx,n,b,wt,d,rfl,_⟩:=h
  rfl
 ·obtain ⟨p,dx,n,b,wt,d,rfl,hp,nm,nb,tw,du,k⟩:=h
  refine ⟨?t,?B,?C⟩
  case B =>
   refine' Ji4 (Jiy (Jip (Jiq (Jia T.J2 G_is_name hr (by decide) (Ji1 (pv 1) Ji2)))) (Ji7 (Jjc Jje rfl (Jk3 T.Jbs G_NoName___init__ hr (by decide) T.Jb9.bd T.Jas (Ji1 (pv 1) Ji2)))) Jik) ?_
   rotate_left
   refine' Ji4 (Jiy (Jip (Jiq (Jia T.J2 G_is_name hr (by decide) (Ji1 (pv 2) Ji2)))) (Ji7 (Jjc Jje rfl (Jk3 T.Jbs G_NoName___init__ hr (by decide) T.Jb9.bd T.Jas (Ji1 (pv 2) Ji2)))) Jik) ?_
   rotate_left
   refine' Ji4 (Jiy (Jip (Jiq (Jia T.J0 G_is_whole hr (by decide) (Ji1 (pv 3) (Ji1 Ji5 (Ji1 (Jjd (by rfl) T.Ja7 (v:=.int 6) ⟨_,rfl⟩) Ji2)))))) (Ji7 (Jjc Jje rfl (Jk3 T.Jby G_NoTown___init__ hr (by decide) T.Jbc.bd T.Jav (Ji1 (pv 3) Ji2)))) Jik) ?_
   rotate_left
   refine' Ji4 (Jju (pv 0) (pv 1) rfl) ?_
   rotate_left
   refine' Ji4 (Jju (pv 0) (pv 2) rfl) ?_
   rotate_left
   exact (Ji7 (Jju (pv 0) (pv 3) rfl))
  refine ⟨_,rfl,n,rfl,nm,fun H1 s1=>⟨_,rfl,?_⟩⟩
  cases du with
  | name e =>
   rw [e]
   exact Jjr (Jjp T.Jbs T.Jbt rfl fun e dx h1 h2 h3=>k _ _ _ ((RfC.new h1 h2 h3).of s1))
  | basin e1 e2 =>
   rw [e1]
   refine Jj3 ⟨_,rfl,b,rfl,nb.same s1,fun H2 s2=>⟨_,rfl,?_⟩⟩
   rw [e2]
   exact Jjr (Jjp T.Jbs T.Jbt rfl fun e dx h1 h2 h3=>k _ _ _ ((RfC.new h1 h2 h3).of (s1.trans s2)))
  | want e1 e2 e3 =>
   rw [e1]
   refine Jj3 ⟨_,rfl,b,rfl,nb.same s1,fun H2 s2=>⟨_,rfl,?_⟩⟩
   rw [e2]
   refine Jj3 ⟨_,rfl,wt,1,6,rfl,tw.same (s1.trans s2),_,rfl,?_⟩
   rw [e3]
   exact Jjr (Jjp T.Jby T.Jbz rfl fun e dx h1 h2 h3=>k _ _ _ ((RfC.new h1 h2 h3).of (s1.trans s2)))
  | good e1 e2 e3 =>
   rw [e1]
   refine Jj3 ⟨_,rfl,b,rfl,nb.same s1,fun H2 s2=>⟨_,rfl,?_⟩⟩
   rw [e2]
   refine Jj3 ⟨_,rfl,wt,1,6,rfl,tw.same (s1.trans s2),_,rfl,?_⟩
   rw [e3]
   refine Jj3 ⟨_,rfl,_,rfl,p,_,dx,[],rfl,s2 _ _ (s1 _ _ hp),T.Jd1,T.Jd4,by simp,?_⟩
   rw [show Jjz "name" n [] = ([("name",n)] : List (Str × V)) from rfl]
   refine ⟨_,rfl,_,rfl,p,_,dx,_,rfl,Ji3,T.Jd1,T.Jd5,by simp,?_⟩
   rw [show Jjz "basin" b [("name",n)] = ([("name",n),("basin",b)] : List (Str × V)) from Jjy (fs:=[("name",n)]) (show (["name"] : List Str).contains "basin" = false by decide +kernel)]
   refine ⟨_,rfl,_,rfl,p,_,dx,_,rfl,Ji3,T.Jd1,T.Jd6,by simp,?_⟩
   rw [show Jjz "want" wt [("name",n),("basin",b)] = ([("name",n),("basin",b),("want",wt)] : List (Str × V)) from Jjy (fs:=[("name",n),("basin",b)]) (show (["name","basin"] : List Str).contains "want" = false by decide +kernel)]
   show Q .non _
   simp only [Jka]
   exact k _ (s1.trans s2)
end
section
variable {P : Program} {w : World} {K : W.Frag} {mg : Str → Option Value} {base : Heap} {a : Ad}
theorem ifF {b : Bool} {A B : Prop} (h : b = false) (k : B) : if b = true then A else B:=by rw [h]; exact Jj3 k
theorem ifT {b : Bool} {A B : Prop} (h : b = true) (k : A) : if b = true then A else B:=by rw [h]; exact Jjr k
theorem Jpy : Jic ["names"] ["names"] (Ji6 (top 53)):=⟨rfl,rfl,rfl,by decide +kernel,rfl,by decide +kernel,by decide +kernel⟩
theorem Jmt (T : Tx K mg a) : FnOk P w K mg base CX0 1 a.Jfw a.Jfx ["names"] (Jwk K):=by
 refine T.Jg.fn.ok Jpy (fun vs H Q E h=>?_) (fun cdv A outer s H vs Q E hr h=>?_)
 ·obtain ⟨l,zs,rfl,_⟩:=h
  rfl
 ·obtain ⟨l,zs,rfl,hq,hz,k⟩:=h
  refine ⟨_,(Ji7 (Jif (Jki Jmv (Jib Jou (by rfl) T.Jah Jjb (Ji1 (Jin (Jov rfl) (by rfl) T.Jam bt_set (Ji1 (pv 0) Ji2)) Ji2)) (Jib Jih (by rfl) T.Jah Jjb (Ji1 (pv 0) Ji2)) (Jj7 _)))),?_⟩
  refine ⟨_,rfl,l,zs,rfl,hq,hz,fun t ht=>⟨t,zs,rfl,Ji3,?_⟩⟩
  have s1:=Same.upd (o:=TxS P w t zs) ht
  refine ⟨_,rfl,l,_,rfl,.inl (s1.seq hq),rfl,?_⟩
  have e : decide (V.int ((uq zs).length : Nat) = V.int ((zs.map V.str).length : Nat)) = decide ((uq zs).length = zs.length):=by
   rw [List.length_map]
   by_cases h : (uq zs).length = zs.length
   ·rw [decide_eq_true h,decide_eq_true (by rw [h])]
   ·rw [decide_eq_false h,decide_eq_false (fun q=>h (by have:=V.int.inj q; omega))]
  rw [e]
  exact k _ s1
theorem Jpx : Jic ["thing"] ["thing"] (Ji6 (top 54)):=⟨rfl,rfl,rfl,by decide +kernel,rfl,by decide +kernel,by decide +kernel⟩
theorem Jpr (T : Tx K mg a) : FnOk P w K mg base CX0 2 a.Jfy a.Jfz ["thing"] (Jwc K a):=by
 have G_are_unlike:=Jmt (P:=P) (w:=w) (base:=base) T
 refine T.Jh.fn.ok Jpx (fun vs H Q E h=>?_) (fun cdv A outer s H vs Q E hr h=>?_)
 ·obtain ⟨l,os,Bs,rfl,_⟩:=h
  rfl
 ·obtain ⟨l,os,Bs,rfl,hl,bl,hn,nd,k⟩:=h
  have len:=bl.len
  refine ⟨?t,?B,?C⟩
  case B =>
   refine' Ji4 ?s1 ?r1
   case s1 =>
    refine' Jiy ?c2 ?a2 ?b2
    case c2 =>
     exact (Jm9 (Jip (Jiq (Jib Jn8 (by rfl) T.Jag Jii (Ji1 (pv 0) (Ji1 (Jk9 (Ji1 (Jjm (v:=.ty "list") (by rfl) T.Jai Jk7 rfl) (Ji1 (Jjm (v:=.ty "tuple") (by rfl) T.Jap Jj6 rfl) Ji2))) Ji2))))) (Jlj (Jip (Js7 Jmw Jmw Ji5 (Jib Jih (by rfl) T.Jah Jjb (Ji1 (pv 0) Ji2)) (Jjd (by rfl) T.Ja9 (v:=.int 16) ⟨_,rfl⟩))))).pt
    case a2 =>
     refine' Ji7 ?s3
     case s3 =>
      exact (Jif Jjx)
    case b2 =>
     exact Jik
   case r1 =>
    refine' Ji4 ?s7 ?r7
    case s7 =>
     refine' Jiy ?c8 ?a8 ?b8
     case c8 =>
      exact (Jip (Jiq (Jib (Jlu rfl) (by rfl) T.Jac Jos (Ji1 (Jiz (N:=(["basin"] : List Str)) (ini:=[none]) rfl (Jj8 (pv 0)) (fun _ _ _ _ _=>(Jie (i:=0) (by decide +kernel : (["basin"] : List Str).Nodup) rfl (Or.inl rfl))) (fun _ _ _ _ _=>Jit) (fun _ _ _ _ _=>(Jib (Jqa (K:=K) rfl) (by rfl) T.Jag Jii (Ji1 (pv 0) (Ji1 (Jjd (by rfl) T.Jb6 (v:=.ref _) rfl) Ji2))))) Ji2))))
     case a8 =>
      refine' Ji7 ?s9
      case s9 =>
       exact (Jif Jjx)
     case b8 =>
      exact Jik
    case r7 =>
     refine' Ji7 ?s13
     case s13 =>
      exact (Jif (Jia T.Jg G_are_unlike hr (by decide) (Ji1 (Jiz (N:=(["basin"] : List Str)) (ini:=[none]) rfl (Jj8 (pv 0)) (fun _ _ _ _ _=>(Jie (i:=0) (by decide +kernel : (["basin"] : List Str).Nodup) rfl (Or.inl rfl))) (fun _ _ _ _ _=>Jit) (fun _ _ _ _ _=>(Jkx (K:=K) rfl (pv 0) (by rfl)))) Ji2)))
  refine ⟨_,rfl,(show 2 ≤ sizeLine by decide),fun p hp=>⟨_,p,_,_,.type "list",true,rfl,Ji3,rfl,.of (.lst (Same.upd hp _ _ hl)),rfl,_,rfl,Jj3 ?_⟩⟩
  have s1:=Same.upd (o:=.tup [.ty "list",.ty "tuple"]) hp
  refine ⟨_,rfl,l,_,rfl,.inl (SqL.of (s1 _ _ hl)),_,_,rfl,rfl,_,rfl,ifT (by rw [List.length_map]; simp; omega) ⟨_,_,rfl,rfl,_,rfl,ifF (by rw [List.length_map]; simp; omega) ?_⟩⟩
  refine ⟨_,rfl,l,rfl,⟨_,SqL.of (s1 _ _ hl)⟩,fun D hD=>?_⟩
  refine Jjq (K:=K) (a:=l) (xs:=os.map V.ref) (D:=D) (fun i σ H'=>∃ o,σ = [o] ∧ H' D = some (.lst ((List.replicate i true).map V.bl)) ∧ Same (upd H p (.tup [.ty "list",.ty "tuple"])) H') ⟨_,rfl,Ji3,Same.upd hD⟩ (fun i σ H' _ ⟨o,_,_,sm⟩=>SqL.of (sm _ _ (s1 _ _ hl))) ?_ ?_
  ·rintro i v σ H' hv ⟨o,rfl,hDs,sm⟩
   obtain ⟨ob,B,rfl,hB,dx,hb,gs⟩:=(bl.same (s1.trans sm)).get hv
   have hi : i < os.length:=by have:=(List.getElem?_eq_some_iff.mp hv).1; rwa [List.length_map] at this
   refine Jjh ⟨_,rfl,_,_,_,_,true,rfl,rfl,.of (T.Jct.ty T.Jcs hb),T.Jdl,_,hDs,?_,_,rfl,?_,fun c o z=>?_⟩
   ·rw [List.length_map,List.length_replicate]
    exact Jiu (by omega)
   ·rw [Ji3,List.replicate_succ', List.map_append]
    rfl
   ·rw [Ji9 (Ji8 z hD)]
    exact sm _ _ z
  rintro σ H1 ⟨o,rfl,hDs,sm⟩
  refine ⟨D,_,rfl,SqL.of hDs,_,rfl,ifF (by simp) ?_⟩
  have s2:=s1.trans sm
  refine ⟨_,rfl,l,rfl,⟨_,SqL.of (s2 _ _ hl)⟩,fun D2 hD2=>?_⟩
  refine Jjq (K:=K) (a:=l) (xs:=os.map V.ref) (D:=D2) (fun i σ H'=>∃ o,σ = [o] ∧ H' D2 = some (.lst (((Bs.take i).map (·.z)).map V.str)) ∧ Same H1 H') ⟨_,rfl,Ji3,Same.upd hD2⟩ (fun i σ H' _ ⟨o,_,_,sm⟩=>SqL.of (sm _ _ (s2 _ _ hl))) ?_ ?_
  ·rintro i v σ H' hv ⟨o,rfl,hDs,sm3⟩
   obtain ⟨ob,B,rfl,hB,dx,hb,gs⟩:=(bl.same (s2.trans sm3)).get hv
   refine Jjh ⟨_,rfl,ob,_,dx,_,_,rfl,hb,T.Jcs,T.Jcv,rfl,_,hDs,?_,_,rfl,?_,fun c o z=>?_⟩
   ·rw [List.length_map,List.length_map,List.length_take]
    exact Jiu (by omega)
   ·rw [Ji3,List.take_add_one,hB]
    simp
   ·rw [Ji9 (Ji8 z hD2)]
    exact sm3 _ _ z
  rintro σ H2 ⟨o,rfl,hDs,sm3⟩
  rw [List.length_map,List.take_of_length_le (by omega)] at hDs
  refine ⟨D2,Bs.map (·.z),rfl,SqL.of hDs,by rw [List.length_map]; omega,fun H3 s3=>?_⟩
  rw [Jsj nd,decide_eq_true rfl]
  exact k _ ((s2.trans sm3).trans s3)
theorem sc_are_towns : Jic ["thing","basins","names"] ["thing","basins"] (Ji6 (top 55)):=⟨rfl,rfl,rfl,by decide +kernel,rfl,by decide +kernel,by decide +kernel⟩
theorem Jr5 (T : Tx K mg a) : FnOk P w K mg base CX0 2 a.Jg0 a.Jg1 ["thing","basins"] (Jy5 K a):=by
 have G_are_unlike:=Jmt (P:=P) (w:=w) (base:=base) T
 refine T.Ji.fn.ok sc_are_towns (fun vs H Q E h=>?_) (fun cdv A outer s H vs Q E hr h=>?_)
 ·obtain ⟨l,m,os,ts,Bs,Ts,rfl,_⟩:=h
  rfl
 ·obtain ⟨l,m,os,ts,Bs,Ts,rfl,hl,bl,hn,hm,tl,tn,nd,inn,k⟩:=h
  have len:=bl.len
  have tlen:=tl.len
  refine ⟨?t,?B,?C⟩
  case B =>
   refine' Ji4 ?s1 ?r1
   case s1 =>
    refine' Jiy ?c2 ?a2 ?b2
    case c2 =>
     exact (Jm9 (Jip (Jiq (Jib Jn8 (by rfl) T.Jag Jii (Ji1 (pv 0) (Ji1 (Jk9 (Ji1 (Jjm (v:=.ty "list") (by rfl) T.Jai Jk7 rfl) (Ji1 (Jjm (v:=.ty "tuple") (by rfl) T.Jap Jj6 rfl) Ji2))) Ji2))))) (Jlj (Jji op_gt (Jib Jih (by rfl) T.Jah Jjb (Ji1 (pv 0) Ji2)) (Jjd (by rfl) T.Jaa (v:=.int 3) ⟨_,rfl⟩) (Jj7 _)))).pt
    case a2 =>
     refine' Ji7 ?s3
     case s3 =>
      exact (Jif Jjx)
    case b2 =>
     exact Jik
   case r1 =>
    refine' Ji4 ?s7 ?r7
    case s7 =>
     refine' Jiy ?c8 ?a8 ?b8
     case c8 =>
      exact (Jip (Jiq (Jib (Jlu rfl) (by rfl) T.Jac Jos (Ji1 (Jiz (N:=(["town"] : List Str)) (ini:=[none]) rfl (Jj8 (pv 0)) (fun _ _ _ _ _=>(Jie (i:=0) (by decide +kernel : (["town"] : List Str).Nodup) rfl (Or.inl rfl))) (fun _ _ _ _ _=>Jit) (fun _ _ _ _ _=>(Jib (Jqa (K:=K) rfl) (by rfl) T.Jag Jii (Ji1 (pv 0) (Ji1 (Jjd (by rfl) T.Jb7 (v:=.ref _) rfl) Ji2))))) Ji2))))
     case a8 =>
      refine' Ji7 ?s9
      case s9 =>
       exact (Jif Jjx)
     case b8 =>
      exact Jik
    case r7 =>
     refine' Ji4 ?s13 ?r13
     case s13 =>
      exact (Jig (i:=2) sc_are_towns.nd rfl (Or.inr rfl) (Jiz (N:=(["basin"] : List Str)) (ini:=[none]) rfl (Jj8 (pv 1)) (fun _ _ _ _ _=>(Jie (i:=0) (by decide +kernel : (["basin"] : List Str).Nodup) rfl (Or.inl rfl))) (fun _ _ _ _ _=>Jit) (fun _ _ _ _ _=>(Jkx (K:=K) rfl (pv 0) (by rfl)))))
     case r13 =>
      refine' Ji7 ?s15
      case s15 =>
       exact (Jif (Jrb (Jia T.Jg G_are_unlike hr (by decide) (Ji1 (Jiz (N:=(["town"] : List Str)) (ini:=[none]) rfl (Jj8 (pv 0)) (fun _ _ _ _ _=>(Jie (i:=0) (by decide +kernel : (["town"] : List Str).Nodup) rfl (Or.inl rfl))) (fun _ _ _ _ _=>Jit) (fun _ _ _ _ _=>(Jkx (K:=K) rfl (pv 0) (by rfl)))) Ji2)) (Jrc (Jib (Jlu rfl) (by rfl) T.Jac Jos (Ji1 (Jiz (N:=(["town","names"] : List Str)) (ini:=[none,some 2]) rfl (Jj8 (pv 0)) (fun _ _ _ _ _=>(Jie (i:=0) (by decide +kernel : (["town","names"] : List Str).Nodup) rfl (Or.inl rfl))) (fun _ _ _ _ _=>Jit) (fun _ _ _ _ _=>(Jki (Jt2 (K:=K) rfl) (Jkx (K:=K) rfl (pv 0) (by rfl)) (pv 1) (by with_unfolding_all rfl)))) Ji2)))))
  refine ⟨_,rfl,(show 2 ≤ sizeLine by decide),fun p hp=>⟨_,p,_,_,.type "list",true,rfl,Ji3,rfl,.of (.lst (Same.upd hp _ _ hm)),rfl,_,rfl,Jj3 ?_⟩⟩
  have s1:=Same.upd (o:=.tup [.ty "list",.ty "tuple"]) hp
  refine ⟨_,rfl,m,_,rfl,.inl (SqL.of (s1 _ _ hm)),_,_,rfl,rfl,_,rfl,ifF (by rw [List.length_map]; simp; omega) ?_⟩
  refine ⟨_,rfl,m,rfl,⟨_,SqL.of (s1 _ _ hm)⟩,fun D hD=>?_⟩
  refine Jjq (K:=K) (a:=m) (xs:=ts.map V.ref) (D:=D) (fun i σ H'=>∃ o,σ = [o] ∧ H' D = some (.lst ((List.replicate i true).map V.bl)) ∧ Same (upd H p (.tup [.ty "list",.ty "tuple"])) H') ⟨_,rfl,Ji3,Same.upd hD⟩ (fun i σ H' _ ⟨o,_,_,sm⟩=>SqL.of (sm _ _ (s1 _ _ hm))) ?_ ?_
  ·rintro i v σ H' hv ⟨o,rfl,hDs,sm⟩
   obtain ⟨ob,B,rfl,hB,dx,hb⟩:=(tl.same (s1.trans sm)).get hv
   have hi : i < ts.length:=by have:=(List.getElem?_eq_some_iff.mp hv).1; rwa [List.length_map] at this
   refine Jjh ⟨_,rfl,_,_,_,_,true,rfl,rfl,.of (T.Jd2.ty T.Jd1 hb),T.Jdm,_,hDs,?_,_,rfl,?_,fun c o z=>?_⟩
   ·rw [List.length_map,List.length_replicate]
    exact Jiu (by omega)
   ·rw [Ji3,List.replicate_succ', List.map_append]
    rfl
   ·rw [Ji9 (Ji8 z hD)]
    exact sm _ _ z
  rintro σ H1 ⟨o,rfl,hDs,sm⟩
  refine ⟨D,_,rfl,SqL.of hDs,_,rfl,ifF (by simp) ?_⟩
  have s2:=s1.trans sm
  refine ⟨_,rfl,l,rfl,⟨_,SqL.of (s2 _ _ hl)⟩,fun D2 hD2=>?_⟩
  refine Jjq (K:=K) (a:=l) (xs:=os.map V.ref) (D:=D2) (fun i σ H'=>∃ o,σ = [o] ∧ H' D2 = some (.lst (((Bs.take i).map (·.z)).map V.str)) ∧ Same H1 H') ⟨_,rfl,Ji3,Same.upd hD2⟩ (fun i σ H' _ ⟨o,_,_,sm⟩=>SqL.of (sm _ _ (s2 _ _ hl))) ?_ ?_
  ·rintro i v σ H' hv ⟨o,rfl,hDs,sm3⟩
   obtain ⟨ob,B,rfl,hB,dx,hb,gs⟩:=(bl.same (s2.trans sm3)).get hv
   refine Jjh ⟨_,rfl,ob,_,dx,_,_,rfl,hb,T.Jcs,T.Jcv,rfl,_,hDs,?_,_,rfl,?_,fun c o z=>?_⟩
   ·rw [List.length_map,List.length_map,List.length_take]
    exact Jiu (by omega)
   ·rw [Ji3,List.take_add_one,hB]
    simp
   ·rw [Ji9 (Ji8 z hD2)]
    exact sm3 _ _ z
  rintro σ H2 ⟨o,rfl,hD2s,sm3⟩
  rw [List.length_map,List.take_of_length_le (by omega)] at hD2s
  have s3:=s2.trans sm3
  refine ⟨_,rfl,m,rfl,⟨_,SqL.of (s3 _ _ hm)⟩,fun D3 hD3=>?_⟩
  refine Jjq (K:=K) (a:=m) (xs:=ts.map V.ref) (D:=D3) (fun i σ H'=>∃ o,σ = [o] ∧ H' D3 = some (.lst (((Ts.take i).map (·.z)).map V.str)) ∧ Same H2 H') ⟨_,rfl,Ji3,Same.upd hD3⟩ (fun i σ H' _ ⟨o,_,_,sm⟩=>SqL.of (sm _ _ (s3 _ _ hm))) ?_ ?_
  ·rintro i v σ H' hv ⟨o,rfl,hDs,sm4⟩
   obtain ⟨ob,B,rfl,hB,dx,hb⟩:=(tl.same (s3.trans sm4)).get hv
   refine Jjh ⟨_,rfl,ob,_,dx,_,_,rfl,hb,T.Jd1,T.Jd4,rfl,_,hDs,?_,_,rfl,?_,fun c o z=>?_⟩
   ·rw [List.length_map,List.length_map,List.length_take]
    exact Jiu (by omega)
   ·rw [Ji3,List.take_add_one,hB]
    simp
   ·rw [Ji9 (Ji8 z hD3)]
    exact sm4 _ _ z
  rintro σ H3 ⟨o,rfl,hD3s,sm4⟩
  rw [List.length_map,List.take_of_length_le (by omega)] at hD3s
  refine ⟨D3,Ts.map (·.z),rfl,SqL.of hD3s,by rw [List.length_map]; omega,fun H4 s4=>⟨_,rfl,ifT (by rw [Jsj nd,decide_eq_true rfl]) ?_⟩⟩
  have s5:=(s3.trans sm4).trans s4
  have hD24:=s4 _ _ (sm4 _ _ hD2s)
  refine ⟨_,rfl,m,rfl,⟨_,SqL.of (s5 _ _ hm)⟩,fun D4 hD4=>?_⟩
  refine Jjq (K:=K) (a:=m) (xs:=ts.map V.ref) (D:=D4) (fun i σ H'=>∃ o,σ = [o,some (.ref D2)] ∧ H' D4 = some (.lst ((List.replicate i true).map V.bl)) ∧ Same H4 H') ⟨_,rfl,Ji3,Same.upd hD4⟩ (fun i σ H' _ ⟨o,_,_,sm⟩=>SqL.of (sm _ _ (s5 _ _ hm))) ?_ ?_
  ·rintro i v σ H' hv ⟨o,rfl,hDs,sm6⟩
   obtain ⟨ob,B,rfl,hB,dx,hb⟩:=(tl.same (s5.trans sm6)).get hv
   have hi : i < ts.length:=by have:=(List.getElem?_eq_some_iff.mp hv).1; rwa [List.length_map] at this
   refine Jjh ⟨_,rfl,ob,_,dx,_,_,rfl,hb,T.Jd1,T.Jd5,rfl,_,rfl,D2,_,rfl,.inl (SqL.of (sm6 _ _ hD24)),rfl,by simp [Jkj],?_⟩
   have e : inV (V.str B.b) ((Bs.map (·.z)).map V.str) = true:=by
    obtain ⟨z,hz,ez⟩:=List.mem_map.mp (inn B (List.mem_of_getElem? hB))
    unfold inV
    refine List.any_eq_true.mpr ⟨V.str z.z,List.mem_map.mpr ⟨z.z,List.mem_map.mpr ⟨z,hz,rfl⟩,rfl⟩,?_⟩
    simp [eqV,ez]
   show ∃ ys,_
   rw [if_neg Bool.false_ne_true,e]
   refine ⟨_,hDs,?_,_,rfl,?_,fun c o z=>?_⟩
   ·rw [List.length_map,List.length_replicate]
    exact Jiu (by omega)
   ·rw [Ji3,List.replicate_succ', List.map_append]
    rfl
   ·rw [Ji9 (Ji8 z hD4)]
    exact sm6 _ _ z
  rintro σ H5 ⟨o,rfl,hD4s,sm6⟩
  refine ⟨D4,_,rfl,SqL.of hD4s,?_⟩
  rw [show (List.replicate (ts.map V.ref).length true).all id = true by simp]
  exact k _ (s5.trans sm6)
end
section
variable {P : Program} {w : World} {K : W.Frag} {mg : Str → Option Value} {base : Heap} {a : Ad}
theorem Jmm : Jic ["self","thing"] ["self","thing"] (Ji6 (Jid (top 7) 0)):=⟨rfl,rfl,rfl,by decide +kernel,rfl,by decide +kernel,by decide +kernel⟩
theorem Joa (T : Tx K mg a) : FnOk P w K mg base CX0 1 a.Je8 a.Je9 ["self","thing"] (Jl3 K "thing"):=by
 refine T.Jbd.fn.ok Jmm (fun vs H Q E h=>?_) (fun cdv A outer s H vs Q E hr h=>?_)
 ·obtain ⟨e,C,W,fI,y,rfl,_⟩:=h
  rfl
 ·obtain ⟨e,C,W,fI,y,rfl,q,c,n,k⟩:=h
  refine ⟨_,(Ji7 (Jkz (pv 0) (pv 1) rfl)),?_⟩
  exact ⟨_,rfl,_,rfl,e,C,W,fI,true,rfl,q,c,n,k⟩
theorem Jmn : Jic ["self","thing"] ["self","thing"] (Ji6 (Jid (top 8) 0)):=⟨rfl,rfl,rfl,by decide +kernel,rfl,by decide +kernel,by decide +kernel⟩
theorem Job (T : Tx K mg a) : FnOk P w K mg base CX0 1 a.Jea a.Jeb ["self","thing"] (Jl3 K "thing"):=by
 refine T.Jbe.fn.ok Jmn (fun vs H Q E h=>?_) (fun cdv A outer s H vs Q E hr h=>?_)
 ·obtain ⟨e,C,W,fI,y,rfl,_⟩:=h
  rfl
 ·obtain ⟨e,C,W,fI,y,rfl,q,c,n,k⟩:=h
  refine ⟨_,(Ji7 (Jkz (pv 0) (pv 1) rfl)),?_⟩
  exact ⟨_,rfl,_,rfl,e,C,W,fI,true,rfl,q,c,n,k⟩
theorem Jsi {H : Hp} {p q : Addr} {o u : HO} (h : p ≠ q) : upd (upd H p o) q u = upd (upd H q u) p o:=by
 funext c
 by_cases h1 : c = p
 ·subst h1
  rw [Ji3,Ji9 h,Ji3]
 ·rw [Ji9 h1]
  by_cases h2 : c = q
  ·subst h2
   rw [Ji3,Ji3]
  ·rw [Ji9 h2,Ji9 h2,Ji9 h1]
def rivF (c g b t : V) : List (Str × V):=[("cloud",c),("gain",g),("basins",b),("towns",t)]
def Jy3 (K : W.Frag) (a : Ad) : Sp:=fun vs H Q _=>∃ (p dx l m : Addr) (c g : Int) (os ts : List Addr) (Bs : List Bsn) (Ts : List Twn),vs = [.ref p,.int c,.int g,.ref l,.ref m] ∧ H p = some (.ins a.Jhw dx []) ∧ (0 ≤ c ∧ c ≤ 12) ∧ (0 ≤ g ∧ g ≤ c) ∧ H l = some (.lst (os.map V.ref)) ∧ BasL K a H os Bs ∧ (1 ≤ Bs.length ∧ Bs.length ≤ 16) ∧ (Bs.map (·.z)).Nodup ∧ H m = some (.lst (ts.map V.ref)) ∧ TwnL a H ts Ts ∧ Ts.length ≤ 3 ∧ (Ts.map (·.z)).Nodup ∧ (∀ t ∈ Ts,t.b ∈ Bs.map (·.z)) ∧ ∀ H' b t,Same H H' → H' b = some (.tup (os.map V.ref)) → H' t = some (.tup (ts.map V.ref)) → b ≠ p → t ≠ p → Q .non (upd H' p (.ins a.Jhw dx (rivF (.int c) (.int g) (.ref b) (.ref t))))
theorem Jku {i lo hi : Int} (h1 : lo ≤ i) (h2 : i ≤ hi) : Jil (.int i) lo hi = true:=by
 show (decide (lo ≤ i) && decide (i ≤ hi)) = true
 rw [decide_eq_true h1,decide_eq_true h2]
 rfl
theorem Jnh : Jic ["self","cloud","gain","basins","towns"] ["self","cloud","gain","basins","towns"] (Ji6 (Jid (top 56) 0)):=⟨rfl,rfl,rfl,by decide +kernel,rfl,by decide +kernel,by decide +kernel⟩
theorem Jpq (T : Tx K mg a) : FnOk P w K mg base (CXX P w) 4 a.Jg2 a.Jg3 ["self","cloud","gain","basins","towns"] (Jy3 K a):=by
 have G_is_whole:=Jjw (P:=P) (w:=w) (base:=base) T
 have G_are_basins:=Jpr (P:=P) (w:=w) (base:=base) T
 have G_are_towns:=Jr5 (P:=P) (w:=w) (base:=base) T
 have G_NoCloud___init__:=Joa (P:=P) (w:=w) (base:=base) T
 have G_NoRiver___init__:=Job (P:=P) (w:=w) (base:=base) T
 refine T.Jbr.fn.okX Jnh (fun vs H Q E h=>?_) (fun cdv A outer s H vs Q E hr h=>?_)
 ·obtain ⟨p,dx,l,m,c,g,os,ts,Bs,Ts,rfl,_⟩:=h
  rfl
 ·obtain ⟨p,dx,l,m,c,g,os,ts,Bs,Ts,rfl,hp,hc,hg,hl,bl,hn,nd,hm,tl,tn,tnd,inn,k⟩:=h
  refine ⟨?t,?B,?C⟩
  case B =>
   refine' Ji4 ?s1 ?r1
   case s1 =>
    refine' Jiy ?c2 ?a2 ?b2
    case c2 =>
     exact (Jip (Jiq (Jia T.J0 G_is_whole hr (by decide) (Ji1 (pv 1) (Ji1 Ji5 (Ji1 (Jjd (by rfl) T.Ja8 (v:=.int 12) ⟨_,rfl⟩) Ji2))))))
    case a2 =>
     refine' Ji7 ?s3
     case s3 =>
      exact (Jjc Jje rfl (Jk3 T.Jc0 G_NoCloud___init__ hr (by decide) T.Jbd.bd T.Jaw (Ji1 (pv 1) Ji2)))
    case b2 =>
     exact Jik
   case r1 =>
    refine' Ji4 ?s6 ?r6
    case s6 =>
     refine' Jiy ?c7 ?a7 ?b7
     case c7 =>
      exact (Jip (Jiq (Jia T.J0 G_is_whole hr (by decide) (Ji1 (pv 2) (Ji1 Ji5 (Ji1 (pv 1) Ji2))))))
     case a7 =>
      refine' Ji7 ?s8
      case s8 =>
       exact (Jjc Jje rfl (Jk3 T.Jc0 G_NoCloud___init__ hr (by decide) T.Jbd.bd T.Jaw (Ji1 (pv 2) Ji2)))
     case b7 =>
      exact Jik
    case r6 =>
     refine' Ji4 ?s11 ?r11
     case s11 =>
      refine' Jiy ?c12 ?a12 ?b12
      case c12 =>
       exact (Jip (Jiq (Jia T.Jh G_are_basins hr (by decide) (Ji1 (pv 3) Ji2))))
      case a12 =>
       refine' Ji7 ?s13
       case s13 =>
        exact (Jjc Jje rfl (Jk3 T.Jc1 G_NoRiver___init__ hr (by decide) T.Jbe.bd T.Jax (Ji1 (pv 3) Ji2)))
      case b12 =>
       exact Jik
     case r11 =>
      refine' Ji4 ?s16 ?r16
      case s16 =>
       refine' Jiy ?c17 ?a17 ?b17
       case c17 =>
        exact (Jip (Jiq (Jia T.Ji G_are_towns hr (by decide) (Ji1 (pv 4) (Ji1 (pv 3) Ji2)))))
       case a17 =>
        refine' Ji7 ?s18
        case s18 =>
         exact (Jjc Jje rfl (Jk3 T.Jc1 G_NoRiver___init__ hr (by decide) T.Jbe.bd T.Jax (Ji1 (pv 4) Ji2)))
       case b17 =>
        exact Jik
      case r16 =>
       refine' Ji4 ?s21 ?r21
       case s21 =>
        exact (Jju (pv 0) (pv 1) rfl)
       case r21 =>
        refine' Ji4 ?s23 ?r23
        case s23 =>
         exact (Jju (pv 0) (pv 2) rfl)
        case r23 =>
         refine' Ji4 ?s25 ?r25
         case s25 =>
          exact (Jju (pv 0) (Jin Jis (by rfl) T.Jap Jj6 (Ji1 (pv 3) Ji2)) rfl)
         case r25 =>
          refine' Ji7 ?s27
          case s27 =>
           exact (Jju (pv 0) (Jin Jis (by rfl) T.Jap Jj6 (Ji1 (pv 4) Ji2)) rfl)
  refine ⟨_,rfl,_,0,12,rfl,.inl ⟨_,rfl⟩,_,rfl,ifF (by rw [Jku hc.1 hc.2]; rfl) ?_⟩
  refine ⟨_,rfl,_,rfl,_,0,c,rfl,.inl ⟨_,rfl⟩,_,rfl,ifF (by rw [Jku hg.1 hg.2]; rfl) ?_⟩
  refine ⟨_,rfl,l,os,Bs,rfl,hl,bl,hn,nd,fun H1 s1=>⟨_,rfl,Jj3 ?_⟩⟩
  refine ⟨_,rfl,_,rfl,l,m,os,ts,Bs,Ts,rfl,s1 _ _ hl,bl.same s1,hn.2,s1 _ _ hm,tl.same s1,tn,tnd,inn,fun H2 s2=>⟨_,rfl,Jj3 ?_⟩⟩
  have s3:=s1.trans s2
  have hp2:=s3 _ _ hp
  refine ⟨_,rfl,_,rfl,p,_,dx,[],rfl,hp2,T.Jd7,T.Jd9,by simp,?_⟩
  rw [show Jjz "cloud" (.int c) [] = ([("cloud",.int c)] : List (Str × V)) from rfl]
  refine ⟨_,rfl,_,rfl,p,_,dx,_,rfl,Ji3,T.Jd7,T.Jda,by simp,?_⟩
  rw [show Jjz "gain" (.int g) [("cloud",.int c)] = ([("cloud",.int c),("gain",.int g)] : List (Str × V)) from Jjy (fs:=[("cloud",.int c)]) (show (["cloud"] : List Str).contains "gain" = false by decide +kernel),Jka]
  have nl : l ≠ p:=fun e=>by subst e; rw [hl] at hp; cases hp
  have nm : m ≠ p:=fun e=>by subst e; rw [hm] at hp; cases hp
  refine ⟨_,rfl,l,_,rfl,.inl ⟨SqL.of (by rw [Ji9 nl]; exact s3 _ _ hl),fun b hb=>?_⟩⟩
  have nb : b ≠ p:=fun e=>by subst e; rw [Ji3] at hb; cases hb
  rw [Ji9 nb] at hb
  rw [Jsi nb.symm]
  refine ⟨_,rfl,p,_,dx,_,rfl,Ji3,T.Jd7,T.Jdb,by simp,?_⟩
  rw [show Jjz "basins" (.ref b) [("cloud",.int c),("gain",.int g)] = ([("cloud",.int c),("gain",.int g),("basins",.ref b)] : List (Str × V)) from Jjy (fs:=[("cloud",.int c),("gain",.int g)]) (show (["cloud","gain"] : List Str).contains "basins" = false by decide +kernel),Jka]
  have s4:=s3.trans (Same.upd (o:=.tup (os.map V.ref)) hb)
  refine ⟨_,rfl,m,_,rfl,.inl ⟨SqL.of (by rw [Ji9 nm]; exact s4 _ _ hm),fun t ht=>?_⟩⟩
  have nt : t ≠ p:=fun e=>by subst e; rw [Ji3] at ht; cases ht
  rw [Ji9 nt] at ht
  rw [Jsi nt.symm]
  refine ⟨_,rfl,p,_,dx,_,rfl,Ji3,T.Jd7,T.Jdc,by simp,?_⟩
  rw [show Jjz "towns" (.ref t) [("cloud",.int c),("gain",.int g),("basins",.ref b)] = (rivF (.int c) (.int g) (.ref b) (.ref t)) from Jjy (fs:=[("cloud",.int c),("gain",.int g),("basins",.ref b)]) (show (["cloud","gain","basins"] : List Str).contains "towns" = false by decide +kernel),Jka]
  have s5:=Same.upd (o:=.tup (ts.map V.ref)) ht
  exact k _ b t (s4.trans s5) (s5 _ _ Ji3) Ji3 nb nt
end
def wl : List V → List Int → List Int → List Bool
 | v :: vs,l :: ls,h :: hs=>Jil v l h :: wl vs ls hs
 | _,_,_=>[]
theorem Jwx : ∀ {vs : List V} {ls hs : List Int},vs.length = ls.length → ls.length = hs.length → (wl vs ls hs).length = vs.length
 | [],_,_,_,_=>rfl
 | _ :: _,[],_,e,_=>by simp at e
 | _ :: _,_ :: _,[],_,e=>by simp at e
 | _ :: vs,_ :: ls,_ :: hs,e1,e2=>by
  show (wl vs ls hs).length + 1 = vs.length + 1
  rw [Jwx (by simpa using e1) (by simpa using e2)]
theorem Jww : ∀ {vs : List V} {ls hs : List Int} {i : Nat} {v x y : V},vs[i]? = some v → (ls.map V.int)[i]? = some x → (hs.map V.int)[i]? = some y → ∃ l h,x = .int l ∧ y = .int h ∧ (wl vs ls hs)[i]? = some (Jil v l h)
 | _ :: _,l :: _,h :: _,0,v,x,y,e1,e2,e3=>⟨l,h,by simpa using e2.symm,by simpa using e3.symm,by cases e1; rfl⟩
 | _ :: vs,_ :: ls,_ :: hs,i + 1,v,x,y,e1,e2,e3=>by
  obtain ⟨l,h,a1,a2,a3⟩:=Jww (vs:=vs) (ls:=ls) (hs:=hs) (i:=i) (v:=v) (x:=x) (y:=y) (by simpa using e1) (by simpa using e2) (by simpa using e3)
  exact ⟨l,h,a1,a2,a3⟩
 | [],_,_,_,_,_,_,e,_,_=>by simp at e
 | _ :: _,[],_,_,_,_,_,_,e,_=>by simp at e
 | _ :: _,_ :: _,[],_,_,_,_,_,_,e=>by simp at e
def RowT (K : W.Frag) (H : Hp) (x : V) : Option (List V) → Prop
 | some vs=>∃ p,x = .ref p ∧ H p = some (.tup vs) ∧ (∀ v ∈ vs,Tm K H v) ∧ vs.length ≤ 40
 | none=>∃ t,TyX K H x t ∧ W.kitOne K t (.type "tuple") = some false
theorem RowT.same {K : W.Frag} {H H' : Hp} {x : V} (s : Same H H') : ∀ {r : Option (List V)},RowT K H x r → RowT K H' x r
 | some _,⟨p,e,h1,h2,h3⟩=>⟨p,e,s _ _ h1,fun v hv=>(h2 v hv).same s,h3⟩
 | none,⟨t,h1,h2⟩=>⟨t,Jll s h1,h2⟩
def Joe : Option (List V) → List Int → List Int → Bool
 | some vs,ls,hs=>decide (vs.length = ls.length) && (wl vs ls hs).all id
 | none,_,_=>false
def spRow (K : W.Frag) : Sp:=fun vs H Q _=>∃ (x : V) (r : Option (List V)) (l m : Addr) (ls hs : List Int),vs = [x,.ref l,.ref m] ∧ RowT K H x r ∧ H l = some (.lst (ls.map V.int)) ∧ H m = some (.lst (hs.map V.int)) ∧ ls.length = hs.length ∧ ls.length ≤ 40 ∧ ∀ H', Same H H' → Q (.bl (Joe r ls hs)) H'
def Jy4 (K : W.Frag) : Sp:=fun vs H Q _=>∃ (x : V) (r : Option (List V)) (m : Addr) (hs : List Int),vs = [x,.ref m] ∧ RowT K H x r ∧ H m = some (.lst (hs.map V.int)) ∧ hs.length ≤ 40 ∧ ∀ H', Same H H' → Q (.bl (Joe r (List.replicate hs.length 0) hs)) H'
def Jvz : Option (List V) → Bool
 | some vs=>decide (vs.length = 2)
 | none=>false
def spPair (K : W.Frag) : Sp:=fun vs H Q _=>∃ (x : V) (r : Option (List V)),vs = [x] ∧ (match r with | some vs=>∃ p,x = .ref p ∧ H p = some (.tup vs) | none=>∃ t,TyX K H x t ∧ W.kitOne K t (.type "tuple") = some false) ∧ Q (.bl (Jvz r)) H
section
variable {P : Program} {w : World} {K : W.Frag} {mg : Str → Option Value} {base : Heap} {a : Ad}
theorem turn3 {i j k : Nat} {T : Addr} {x y u : V} {σ : L2.St} {H : Hp} {A B : L2.St → Hp → Prop} (hT : SqT K H T [x,y,u]) (h : A (((σ.set i (some x)).set j (some y)).set k (some u)) H) :
  gTup K 3 (Jtp (Jmq i) (Jtp (Jmq j) (Jtp (Jmq k) gNil))) (.ref T) σ H fun σ3 H3=>Jv4 σ3 H3 fun b H4=>if b = true then A σ3 H4 else B σ3 H4:=by
 refine ⟨T,_,rfl,hT,rfl,_,_,rfl,_,_,rfl,_,_,rfl,rfl,?_⟩
 show if true = true then A (((σ.set i (some x)).set j (some y)).set k (some u)) H else B (((σ.set i (some x)).set j (some y)).set k (some u)) H
 rw [if_pos rfl]
 exact h
theorem Juu : Jic ["thing","lows","highs"] ["thing","lows","highs"] (Ji6 (top 20)):=⟨rfl,rfl,rfl,by decide +kernel,rfl,by decide +kernel,by decide +kernel⟩
theorem Jqj (T : Tx K mg a) : FnOk P w K mg base CX0 2 a.Jem a.Jen ["thing","lows","highs"] (spRow K):=by
 have G_is_whole:=Jjw (P:=P) (w:=w) (base:=base) T
 refine T.J3.fn.ok Juu (fun vs H Q E h=>?_) (fun cdv A outer s H vs Q E hr h=>?_)
 ·obtain ⟨x,r,l,m,ls,hs,rfl,_⟩:=h
  rfl
 ·obtain ⟨x,r,l,m,ls,hs,rfl,rt,hl,hm,e1,e2,k⟩:=h
  refine ⟨?t,?B,?C⟩
  case B =>
   refine' Ji4 ?s1 ?r1
   case s1 =>
    refine' Jiy ?c2 ?a2 ?b2
    case c2 =>
     exact (Jm9 (Jip (Jiq (Jib Jjj (by rfl) T.Jag Jii (Ji1 (pv 0) (Ji1 (Jjm (v:=.ty "tuple") (by rfl) T.Jap Jj6 rfl) Ji2))))) (Jlj (Jji Jvw (Jib Jih (by rfl) T.Jah Jjb (Ji1 (pv 0) Ji2)) (Jib Jih (by rfl) T.Jah Jjb (Ji1 (pv 1) Ji2)) (Jj7 _)))).pt
    case a2 =>
     refine' Ji7 ?s3
     case s3 =>
      exact (Jif Jjx)
    case b2 =>
     exact Jik
   case r1 =>
    refine' Ji7 ?s7
    case s7 =>
     exact (Jif (Jib (Jlu rfl) (by rfl) T.Jac Jos (Ji1 (Jiz (N:=(["number","low","high"] : List Str)) (ini:=[none,none,none]) rfl (Jxn true false false (by rfl) T.Jaq (Ji1 (pv 0) (Ji1 (pv 1) (Ji1 (pv 2) Ji2)))) (fun _ _ _ _ _=>(Jtz (K:=K) (n:=3) rfl rfl (Jio (Jie (i:=0) (by decide +kernel : (["number","low","high"] : List Str).Nodup) rfl (Or.inl rfl)) (Jio (Jie (i:=1) (by decide +kernel : (["number","low","high"] : List Str).Nodup) rfl (Or.inl rfl)) (Jio (Jie (i:=2) (by decide +kernel : (["number","low","high"] : List Str).Nodup) rfl (Or.inl rfl)) Jky))))) (fun _ _ _ _ _=>Jit) (fun _ _ _ _ _=>(Jia T.J0 G_is_whole hr (by decide) (Ji1 (pv 0) (Ji1 (pv 1) (Ji1 (pv 2) Ji2)))))) Ji2)))
  cases r with
  | none =>
   obtain ⟨t,ty,ek⟩:=rt
   refine ⟨_,rfl,x,_,_,t,_,rfl,rfl,ty,ek,_,rfl,Jjr ?_⟩
   refine Jjr ?_
   exact k _ (fun _ _ h=>h)
  | some vs =>
   obtain ⟨p,rfl,hp,tms,hn⟩:=rt
   refine ⟨_,rfl,_,_,_,.type "tuple",true,rfl,rfl,.of (.tup hp),rfl,_,rfl,Jj3 ?_⟩
   refine ⟨_,rfl,p,_,rfl,.inr (SqT.of hp),_,rfl,l,_,rfl,.inl (SqL.of hl),rfl,?_⟩
   by_cases en : vs.length = ls.length
   ·refine ⟨_,rfl,ifF (by simp [en]) ?_⟩
    refine ⟨_,rfl,_,rfl,_,rfl,p,l,m,rfl,⟨_,SqT.of hp⟩,⟨_,SqL.of hl⟩,⟨_,SqL.of hm⟩,fun D hD=>?_⟩
    have s0:=Same.upd (o:=.lst []) hD
    refine Jue (K:=K) (l1:=p) (l2:=l) (l3:=m) (b1:=true) (b2:=false) (b3:=false) (xs:=vs) (ys:=ls.map V.int) (us:=hs.map V.int) (D:=D) (fun i σ H'=>(∃ o1 o2 o3,σ = [o1,o2,o3]) ∧ H' D = some (.lst (((wl vs ls hs).take i).map V.bl)) ∧ Same H H') ⟨⟨_,_,_,rfl⟩,Ji3,s0⟩ (fun i σ H' _ ⟨_,_,sm⟩=>⟨SqT.of (sm _ _ hp),SqL.of (sm _ _ hl),SqL.of (sm _ _ hm)⟩) (by rw [List.length_map]; exact en) (by rw [List.length_map]; omega) ?_ ?_
    ·rintro i x y u σ H' Ta hx hy hu ⟨⟨o1,o2,o3,rfl⟩,hDs,sm⟩ hT
     obtain ⟨lo,hi,rfl,rfl,ew⟩:=Jww hx hy hu
     have sT:=Same.upd (o:=.tup [x,.int lo,.int hi]) hT
     have hi' : i < vs.length:=(List.getElem?_eq_some_iff.mp hx).1
     refine turn3 (SqT.of Ji3) ⟨_,rfl,_,rfl,_,rfl,_,lo,hi,rfl,(tms _ (List.mem_of_getElem? hx)).same (sm.trans sT),_,sT _ _ hDs,?_,⟨_,_,_,rfl⟩,?_,?_⟩
     ·rw [List.length_map,List.length_take]
      exact Jiu (by omega)
     ·rw [Ji3,List.take_add_one,ew]
      simp
     ·intro c o z
      rw [Ji9 (Ji8 z hD)]
      exact sT _ _ (sm _ _ z)
    rintro σ H1 ⟨_,hDs,sm⟩
    rw [List.take_of_length_le (by rw [Jwx en e1]; omega)] at hDs
    refine ⟨D,_,rfl,SqL.of hDs,?_⟩
    have e : Joe (some vs) ls hs = (wl vs ls hs).all id:=by
     show (decide (vs.length = ls.length) && _) = _
     rw [decide_eq_true en,Bool.true_and]
    rw [← e]
    exact k _ sm
   ·refine ⟨_,rfl,ifT (by simp; omega) ?_⟩
    have e : Joe (some vs) ls hs = false:=by
     show (decide (vs.length = ls.length) && _) = _
     rw [decide_eq_false en,Bool.false_and]
    rw [e] at k
    exact k _ (fun _ _ h=>h)
end
section
variable {P : Program} {w : World} {K : W.Frag} {mg : Str → Option Value} {base : Heap} {a : Ad}
theorem Jof : Jic ["thing","highs"] ["thing","highs"] (Ji6 (top 21)):=⟨rfl,rfl,rfl,by decide +kernel,rfl,by decide +kernel,by decide +kernel⟩
theorem Joc (T : Tx K mg a) : FnOk P w K mg base CX0 3 a.Jeo a.Jep ["thing","highs"] (Jy4 K):=by
 have G_is_row:=Jqj (P:=P) (w:=w) (base:=base) T
 refine T.J4.fn.ok Jof (fun vs H Q E h=>?_) (fun cdv A outer s H vs Q E hr h=>?_)
 ·obtain ⟨x,r,m,hs,rfl,_⟩:=h
  rfl
 ·obtain ⟨x,r,m,hs,rfl,rt,hm,e2,k⟩:=h
  refine ⟨?t,?B,?C⟩
  case B =>
   refine' Ji7 ?s1
   case s1 =>
    exact (Jif (Jia T.J3 G_is_row hr (by decide) (Ji1 (pv 0) (Ji1 (Jiz (N:=(["high"] : List Str)) (ini:=[none]) rfl (Jj8 (pv 1)) (fun _ _ _ _ _=>(Jie (i:=0) (by decide +kernel : (["high"] : List Str).Nodup) rfl (Or.inl rfl))) (fun _ _ _ _ _=>Jit) (fun _ _ _ _ _=>Ji5)) (Ji1 (pv 1) Ji2)))))
  refine ⟨_,rfl,_,rfl,m,rfl,⟨_,SqL.of hm⟩,fun D hD=>?_⟩
  refine Jlf ((List.replicate hs.length (0 : Int)).map V.int) hD (by simp) (by rw [List.length_map]; omega) hm ?_ ?_
  ·intro i x y H' Q' hx hy sm k'
   have e : y = .int 0:=by
    rw [List.map_replicate,List.getElem?_replicate] at hy
    split at hy
    ·exact (Option.some.inj hy).symm
    ·cases hy
   subst e
   exact k' _ (fun _ _ h=>h)
  ·intro H' sm hDs
   refine ⟨_,rfl,x,r,D,m,List.replicate hs.length 0,hs,rfl,rt.same sm,hDs,sm _ _ hm,by simp,by simpa using e2,fun H2 s2=>k _ (sm.trans s2)⟩
theorem Jt6 : Jic ["thing"] ["thing"] (Ji6 (top 22)):=⟨rfl,rfl,rfl,by decide +kernel,rfl,by decide +kernel,by decide +kernel⟩
theorem Jsy (T : Tx K mg a) : FnOk P w K mg base CX0 1 a.Jeq a.Jer ["thing"] (spPair K):=by
 refine T.J5.fn.ok Jt6 (fun vs H Q E h=>?_) (fun cdv A outer s H vs Q E hr h=>?_)
 ·obtain ⟨x,r,rfl,_⟩:=h
  rfl
 ·obtain ⟨x,r,rfl,rt,k⟩:=h
  refine ⟨?t,?B,?C⟩
  case B =>
   refine' Ji7 ?s1
   case s1 =>
    exact (Jif (Jrb (Jib Jjj (by rfl) T.Jag Jii (Ji1 (pv 0) (Ji1 (Jjm (v:=.ty "tuple") (by rfl) T.Jap Jj6 rfl) Ji2))) (Jrc (Jki Jmv (Jib Jih (by rfl) T.Jah Jjb (Ji1 (pv 0) Ji2)) Ji5 (Jj7 _)))))
  cases r with
  | none =>
   obtain ⟨t,ty,ek⟩:=rt
   refine ⟨_,rfl,x,_,_,t,_,rfl,rfl,ty,ek,_,rfl,?_⟩
   exact Jj3 k
  | some vs =>
   obtain ⟨p,rfl,hp⟩:=rt
   refine ⟨_,rfl,_,_,_,.type "tuple",true,rfl,rfl,.of (.tup hp),rfl,_,rfl,Jjr ?_⟩
   refine ⟨_,rfl,p,_,rfl,.inr (SqT.of hp),rfl,?_⟩
   have e : decide (V.int (vs.length : Nat) = V.int 2) = Jvz (some vs):=by
    show _ = decide (vs.length = 2)
    by_cases h : vs.length = 2
    ·rw [decide_eq_true h,decide_eq_true (by rw [h]; rfl)]
    ·rw [decide_eq_false h,decide_eq_false (fun q=>h (by have:=V.int.inj q; omega))]
   rw [e]
   exact k
end
structure Riv where
 c : Int
 g : Int
 Bs : List Bsn
 Ts : List Twn
def RivAt (K : W.Frag) (a : Ad) (H : Hp) (o : Addr) (R : Riv) : Prop:=∃ (dx b t : Addr) (os ts : List Addr),H o = some (.ins a.Jhw dx (rivF (.int R.c) (.int R.g) (.ref b) (.ref t))) ∧ H b = some (.tup (os.map V.ref)) ∧ BasL K a H os R.Bs ∧ H t = some (.tup (ts.map V.ref)) ∧ TwnL a H ts R.Ts ∧ R.Bs.length ≤ 16 ∧ R.Ts.length ≤ 3 ∧ ∀ B ∈ R.Bs,0 ≤ B.rn ∧ B.rn ≤ 6
theorem RivAt.same {K : W.Frag} {a : Ad} {H H' : Hp} {o : Addr} {R : Riv} (s : Same H H') (h : RivAt K a H o R) : RivAt K a H' o R :=
 let ⟨dx,b,t,os,ts,h1,h2,h3,h4,h5,h6⟩:=h
 ⟨dx,b,t,os,ts,s _ _ h1,s _ _ h2,h3.same s,s _ _ h4,h5.same s,h6⟩
inductive Pr where
 | no
 | oth (vs : List V)
 | two (u w : V) (r : Option (List V))
def PrT (K : W.Frag) (H : Hp) (x : V) : Pr → Prop
 | .no=>∃ t,TyX K H x t ∧ W.kitOne K t (.type "tuple") = some false
 | .oth vs=>∃ p,x = .ref p ∧ H p = some (.tup vs) ∧ vs.length ≠ 2
 | .two u w r=>∃ p,x = .ref p ∧ H p = some (.tup [u,w]) ∧ RowT K H u r ∧ Tm K H w
def stB (R : Riv) : Pr → Bool
 | .two _ w r=>Jil w 0 R.c && Joe r (R.Bs.map (·.lo)) (R.Bs.map (·.hi))
 | _=>false
def Jt9 (K : W.Frag) (a : Ad) : Sp:=fun vs H Q _=>∃ (o : Addr) (R : Riv) (x : V) (r : Pr),vs = [.ref o,x] ∧ RivAt K a H o R ∧ PrT K H x r ∧ ∀ H', Same H H' → Q (.bl (stB R r)) H'
section
variable {P : Program} {w : World} {K : W.Frag} {mg : Str → Option Value} {base : Heap} {a : Ad}
theorem Jpg : Jic ["river","thing"] ["river","thing"] (Ji6 (top 23)):=⟨rfl,rfl,rfl,by decide +kernel,rfl,by decide +kernel,by decide +kernel⟩
theorem Jp9 (T : Tx K mg a) : FnOk P w K mg base CX0 3 a.Jes a.Jet ["river","thing"] (Jt9 K a):=by
 have G_is_row:=Jqj (P:=P) (w:=w) (base:=base) T
 have G_is_pair:=Jsy (P:=P) (w:=w) (base:=base) T
 have G_is_whole:=Jjw (P:=P) (w:=w) (base:=base) T
 refine T.J6.fn.ok Jpg (fun vs H Q E h=>?_) (fun cdv A outer s H vs Q E hr h=>?_)
 ·obtain ⟨o,R,x,r,rfl,_⟩:=h
  rfl
 ·obtain ⟨o,R,x,r,rfl,ro,rx,k⟩:=h
  refine ⟨?t,?B,?C⟩
  case B =>
   refine' Ji4 ?s1 ?r1
   case s1 =>
    refine' Jiy ?c2 ?a2 ?b2
    case c2 =>
     exact (Jm9 (Jip (Jiq (Jia T.J5 G_is_pair hr (by decide) (Ji1 (pv 1) Ji2)))) (Jlj (Jip (Jiq (Jia T.J0 G_is_whole hr (by decide) (Ji1 (Jim Jj5 (pv 1) Ji5 (fun _ _=>rfl)) (Ji1 Ji5 (Ji1 (Jk0 (pv 0) (by rfl)) Ji2)))))))).pt
    case a2 =>
     refine' Ji7 ?s3
     case s3 =>
      exact (Jif Jjx)
    case b2 =>
     exact Jik
   case r1 =>
    refine' Ji7 ?s7
    case s7 =>
     exact (Jif (Jia T.J3 G_is_row hr (by decide) (Ji1 (Jim Jj5 (pv 1) Ji5 (fun _ _=>rfl)) (Ji1 (Jiz (N:=(["basin"] : List Str)) (ini:=[none]) rfl (Jpd (Jk0 (pv 0) (by rfl))) (fun _ _ _ _ _=>(Jie (i:=0) (by decide +kernel : (["basin"] : List Str).Nodup) rfl (Or.inl rfl))) (fun _ _ _ _ _=>Jit) (fun _ _ _ _ _=>(Jkx (K:=K) rfl (pv 0) (by rfl)))) (Ji1 (Jiz (N:=(["basin"] : List Str)) (ini:=[none]) rfl (Jpd (Jk0 (pv 0) (by rfl))) (fun _ _ _ _ _=>(Jie (i:=0) (by decide +kernel : (["basin"] : List Str).Nodup) rfl (Or.inl rfl))) (fun _ _ _ _ _=>Jit) (fun _ _ _ _ _=>(Jkx (K:=K) rfl (pv 0) (by rfl)))) Ji2)))))
  cases r with
  | no =>
   refine ⟨_,rfl,x,none,rfl,rx,_,rfl,Jjr ?_⟩
   exact Jjr (k _ fun _ _ h=>h)
  | oth vs =>
   obtain ⟨p,rfl,hp,ne⟩:=rx
   refine ⟨_,rfl,_,some vs,rfl,⟨p,rfl,hp⟩,_,rfl,ifT (by rw [show Jvz (some vs) = false from decide_eq_false ne]; rfl) ?_⟩
   exact Jjr (k _ fun _ _ h=>h)
  | two u y r =>
   obtain ⟨p,rfl,hp,rt,ty⟩:=rx
   obtain ⟨dx,b,t,os,ts,ho,hb,bl,ht,tl,n1,n2,n3⟩:=ro
   refine ⟨_,rfl,_,some [u,y],rfl,⟨p,rfl,hp⟩,_,rfl,Jj3 ?_⟩
   refine ⟨_,rfl,p,_,1,y,rfl,rfl,SqT.of hp,rfl,_,rfl,o,_,dx,_,_,rfl,ho,T.Jd7,T.Jd9,rfl,y,0,R.c,rfl,ty,_,rfl,?_⟩
   cases ew : Jil y 0 R.c with
   | false =>
    have e : stB R (.two u y r) = false:=by
     show (Jil y 0 R.c && _) = false
     rw [ew,Bool.false_and]
    rw [e] at k
    exact Jjr (k _ fun _ _ h=>h)
   | true =>
    have e : stB R (.two u y r) = Joe r (R.Bs.map (·.lo)) (R.Bs.map (·.hi)):=by
     show (Jil y 0 R.c && _) = _
     rw [ew,Bool.true_and]
    rw [e] at k
    have len:=bl.len
    refine Jj3 ⟨_,rfl,p,_,0,u,rfl,rfl,SqT.of hp,rfl,?_⟩
    refine ⟨_,rfl,o,_,dx,_,_,rfl,ho,T.Jd7,T.Jdb,rfl,b,rfl,⟨_,SqT.of hb⟩,fun D hD=>?_⟩
    refine Jl6 ((R.Bs.map (·.lo)).map V.int) hD (by simp [len]) (by rw [List.length_map]; omega) hb ?_ ?_
    ·intro i x y H' Q' hx hy sm k'
     obtain ⟨ob,B,rfl,hB,dx,hb,gs⟩:=(bl.same sm).get hx
     rw [List.getElem?_map,List.getElem?_map,hB] at hy
     cases hy
     exact ⟨_,rfl,ob,_,dx,_,_,rfl,hb,T.Jcs,T.Jcw,rfl,k' _ fun _ _ h=>h⟩
    intro H1 s1 hD1
    refine ⟨_,rfl,o,_,dx,_,_,rfl,s1 _ _ ho,T.Jd7,T.Jdb,rfl,b,rfl,⟨_,SqT.of (s1 _ _ hb)⟩,fun D2 hD2=>?_⟩
    refine Jl6 ((R.Bs.map (·.hi)).map V.int) hD2 (by simp [len]) (by rw [List.length_map]; omega) (s1 _ _ hb) ?_ ?_
    ·intro i x y H' Q' hx hy sm k'
     obtain ⟨ob,B,rfl,hB,dx,hb,gs⟩:=(bl.same (s1.trans sm)).get hx
     rw [List.getElem?_map,List.getElem?_map,hB] at hy
     cases hy
     exact ⟨_,rfl,ob,_,dx,_,_,rfl,hb,T.Jcs,T.Jcx,rfl,k' _ fun _ _ h=>h⟩
    intro H2 s2 hD3
    exact ⟨u,r,D,D2,_,_,rfl,rt.same (s1.trans s2),s2 _ _ hD1,hD3,by simp,by rw [List.length_map]; omega,fun H3 s3=>k _ ((s1.trans s2).trans s3)⟩
end
def Jk8 (R : Riv) (wet : Int) : Int :=
 if (R.Bs.map (·.rn)).sum < (if 0 > wet + R.g - R.c then 0 else wet + R.g - R.c) then (R.Bs.map (·.rn)).sum else (if 0 > wet + R.g - R.c then 0 else wet + R.g - R.c)
def Jsd (K : W.Frag) (a : Ad) : Sp:=fun vs H Q _=>∃ (o : Addr) (R : Riv) (wet : Int),vs = [.ref o,.int wet] ∧ RivAt K a H o R ∧ ∀ H', Same H H' → Q (.int (Jk8 R wet)) H'
theorem Jux {Bs : List Bsn} (n1 : Bs.length ≤ 16) (n3 : ∀ B ∈ Bs,0 ≤ B.rn ∧ B.rn ≤ 6) : Sml (Bs.map (·.rn)):=by
 refine ⟨by rw [List.length_map]; omega,fun n hn=>?_⟩
 obtain ⟨B,hB,rfl⟩:=List.mem_map.mp hn
 have:=n3 B hB
 omega
def Jts : V → Int
 | .int i=>i
 | _=>0
def Jwv : Pr → Int
 | .two _ w _=>Jts w
 | _=>0
def Jta (vs : List V) : Int:=(vs.map Jts).sum
def rnB (R : Riv) (wet : Int) : Option (List V) → Bool
 | some vs=>Joe (some vs) (List.replicate R.Bs.length 0) (R.Bs.map (·.rn)) && (decide (Jk8 R wet ≤ Jta vs) && decide (Jta vs ≤ wet))
 | none=>false
def spRain (K : W.Frag) (a : Ad) : Sp:=fun vs H Q E=>∃ (o : Addr) (R : Riv) (z : V) (q : Pr) (x : V) (r : Option (List V)),vs = [.ref o,z,x] ∧ RivAt K a H o R ∧ PrT K H z q ∧ RowT K H x r ∧
 (if stB R q = true then ∀ H', Same H H' → Q (.bl (rnB R (Jwv q) r)) H' else ∀ c eo H', RfC a.Jhl H H' z c eo → E c eo H')
theorem st_wet {R : Riv} {q : Pr} (h : stB R q = true) : ∃ u wt rr,q = .two u (.int wt) rr ∧ (0 ≤ wt ∧ wt ≤ R.c):=by
 cases q with
 | no=>cases h
 | oth vs=>cases h
 | two u w r =>
  have h1 : Jil w 0 R.c = true:=by
   cases e : Jil w 0 R.c with
   | true=>rfl
   | false =>
    have : (Jil w 0 R.c && Joe r (R.Bs.map (·.lo)) (R.Bs.map (·.hi))) = true:=h
    rw [e,Bool.false_and] at this
    exact this
  obtain ⟨i,rfl⟩:=Jqq h1
  refine ⟨u,i,r,rfl,?_⟩
  have h2 : (decide (0 ≤ i) && decide (i ≤ R.c)) = true:=h1
  simpa using h2
theorem Ju7 : ∀ {vs : List V} {n : Nat} {hs : List Int},vs.length = n → n = hs.length → (wl vs (List.replicate n 0) hs).all id = true → ∃ ns : List Int,vs = ns.map V.int ∧ ns.length = n ∧ ∀ k ∈ ns,0 ≤ k ∧ ∃ h ∈ hs,k ≤ h
 | [],_,_,e,_,_=>⟨[],rfl,e,fun _ h=>nomatch h⟩
 | _ :: _,0,_,e,_,_=>by simp at e
 | _ :: _,_ + 1,[],_,e,_=>by simp at e
 | v :: vs,n + 1,h :: hs,e1,e2,a=>by
  have a' : (Jil v 0 h && (wl vs (List.replicate n 0) hs).all id) = true:=a
  rw [Bool.and_eq_true] at a'
  obtain ⟨ns,rfl,l,q⟩:=Ju7 (vs:=vs) (n:=n) (hs:=hs) (by simpa using e1) (by simpa using e2) a'.2
  obtain ⟨i,rfl⟩:=Jqq a'.1
  have h2 : (decide (0 ≤ i) && decide (i ≤ h)) = true:=a'.1
  have h3 : 0 ≤ i ∧ i ≤ h:=by simpa using h2
  refine ⟨i :: ns,rfl,by rw [List.length_cons,l],fun k hk=>?_⟩
  rcases List.mem_cons.mp hk with rfl | hk
  ·exact ⟨h3.1,h,List.mem_cons_self ..,h3.2⟩
  ·obtain ⟨g1,x,hx,g2⟩:=q k hk
   exact ⟨g1,x,List.mem_cons_of_mem _ hx,g2⟩
theorem Jw6 {R : Riv} {r : Option (List V)} (h : Joe r (List.replicate R.Bs.length 0) (R.Bs.map (·.rn)) = true) (n1 : R.Bs.length ≤ 16) (n3 : ∀ B ∈ R.Bs,0 ≤ B.rn ∧ B.rn ≤ 6) : ∃ (vs : List V) (ns : List Int),r = some vs ∧ vs = ns.map V.int ∧ Sml ns:=by
 cases r with
 | none=>cases h
 | some vs =>
  have h' : (decide (vs.length = (List.replicate R.Bs.length (0 : Int)).length) && (wl vs (List.replicate R.Bs.length 0) (R.Bs.map (·.rn))).all id) = true:=h
  rw [Bool.and_eq_true] at h'
  have e1 : vs.length = R.Bs.length:=by simpa using h'.1
  obtain ⟨ns,rfl,l,q⟩:=Ju7 e1 (by simp) h'.2
  refine ⟨_,ns,rfl,rfl,by omega,fun n hn=>?_⟩
  obtain ⟨g1,x,hx,g2⟩:=q n hn
  obtain ⟨B,hB,rfl⟩:=List.mem_map.mp hx
  have:=n3 B hB
  omega
theorem Jqn (ns : List Int) : Jta (ns.map V.int) = ns.sum:=by
 show ((ns.map V.int).map Jts).sum = _
 rw [List.map_map]
 congr 1
 exact (List.map_congr_left fun _ _=>rfl).trans (List.map_id _)
section
variable {P : Program} {w : World} {K : W.Frag} {mg : Str → Option Value} {base : Heap} {a : Ad}
theorem sc_forced_rain : Jic ["river","wet","too_many"] ["river","wet"] (Ji6 (top 24)):=⟨rfl,rfl,rfl,by decide +kernel,rfl,by decide +kernel,by decide +kernel⟩
theorem Jm5 (T : Tx K mg a) : FnOk P w K mg base CX0 1 a.Jeu a.Jev ["river","wet"] (Jsd K a):=by
 refine T.J7.fn.ok sc_forced_rain (fun vs H Q E h=>?_) (fun cdv A outer s H vs Q E hr h=>?_)
 ·obtain ⟨o,R,wet,rfl,_⟩:=h
  rfl
 ·obtain ⟨o,R,wet,rfl,ro,k⟩:=h
  refine ⟨?t,?B,?C⟩
  case B =>
   refine' Ji4 ?s1 ?r1
   case s1 =>
    exact (Jig (i:=2) sc_forced_rain.nd rfl (Or.inl rfl) (Jib (Jkn rfl) (by rfl) T.Jaj Jnp (Ji1 (Jij Jjt (Jij Jj1 (pv 1) (Jk0 (pv 0) (by rfl))) (Jk0 (pv 0) (by rfl))) (Ji1 Ji5 Ji2))))
   case r1 =>
    refine' Ji7 ?s3
    case s3 =>
     exact (Jif (Jib (Jke rfl) (by rfl) T.Jak Jlc (Ji1 (pv 2) (Ji1 (Jib (Jkp rfl) (by rfl) T.Jao Jmy (Ji1 (Jiz (N:=(["basin"] : List Str)) (ini:=[none]) rfl (Jpd (Jk0 (pv 0) (by rfl))) (fun _ _ _ _ _=>(Jie (i:=0) (by decide +kernel : (["basin"] : List Str).Nodup) rfl (Or.inl rfl))) (fun _ _ _ _ _=>Jit) (fun _ _ _ _ _=>(Jkx (K:=K) rfl (pv 0) (by rfl)))) Ji2)) Ji2))))
  obtain ⟨dx,b,t,os,ts,ho,hb,bl,ht,tl,n1,n2,n3⟩:=ro
  have len:=bl.len
  refine ⟨_,rfl,_,rfl,o,_,dx,_,_,rfl,ho,T.Jd7,T.Jda,rfl,_,_,rfl,rfl,?_⟩
  refine ⟨_,rfl,o,_,dx,_,_,rfl,ho,T.Jd7,T.Jd9,rfl,_,_,rfl,rfl,_,_,rfl,?_⟩
  refine ⟨_,rfl,_,rfl,o,_,dx,_,_,rfl,ho,T.Jd7,T.Jdb,rfl,b,rfl,⟨_,SqT.of hb⟩,fun D hD=>?_⟩
  refine Jl6 ((R.Bs.map (·.rn)).map V.int) hD (by simp [len]) (by rw [List.length_map]; omega) hb ?_ ?_
  ·intro i x y H' Q' hx hy sm k'
   obtain ⟨ob,B,rfl,hB,dx,hb,gs⟩:=(bl.same sm).get hx
   rw [List.getElem?_map,List.getElem?_map,hB] at hy
   cases hy
   exact ⟨_,rfl,ob,_,dx,_,_,rfl,hb,T.Jcs,T.Jcz,rfl,k' _ fun _ _ h=>h⟩
  intro H1 s1 hD1
  exact ⟨D,_,rfl,.inl (SqL.of hD1),Jux n1 n3,_,_,rfl,k _ s1⟩
theorem Jlk : Jic ["self","thing"] ["self","thing"] (Ji6 (Jid (top 9) 0)):=⟨rfl,rfl,rfl,by decide +kernel,rfl,by decide +kernel,by decide +kernel⟩
theorem Jn1 (T : Tx K mg a) : FnOk P w K mg base CX0 1 a.Jec a.Jed ["self","thing"] (Jl3 K "thing"):=by
 refine T.Jbf.fn.ok Jlk (fun vs H Q E h=>?_) (fun cdv A outer s H vs Q E hr h=>?_)
 ·obtain ⟨e,C,W,fI,y,rfl,_⟩:=h
  rfl
 ·obtain ⟨e,C,W,fI,y,rfl,q,c,n,k⟩:=h
  refine ⟨_,(Ji7 (Jkz (pv 0) (pv 1) rfl)),?_⟩
  exact ⟨_,rfl,_,rfl,e,C,W,fI,true,rfl,q,c,n,k⟩
theorem Jt7 : Jic ["river","standing","thing"] ["river","standing","thing"] (Ji6 (top 25)):=⟨rfl,rfl,rfl,by decide +kernel,rfl,by decide +kernel,by decide +kernel⟩
theorem Jsz (T : Tx K mg a) : FnOk P w K mg base (CXX P w) 4 a.Jew a.Jex ["river","standing","thing"] (spRain K a):=by
 have G_is_row_up_to:=Joc (P:=P) (w:=w) (base:=base) T
 have G_is_standing:=Jp9 (P:=P) (w:=w) (base:=base) T
 have G_forced_rain:=Jm5 (P:=P) (w:=w) (base:=base) T
 have G_NoStanding___init__:=Jn1 (P:=P) (w:=w) (base:=base) T
 refine T.J8.fn.okX Jt7 (fun vs H Q E h=>?_) (fun cdv A outer s H vs Q E hr h=>?_)
 ·obtain ⟨o,R,z,q,x,r,rfl,_⟩:=h
  rfl
 ·obtain ⟨o,R,z,q,x,r,rfl,ro,pz,rx,k⟩:=h
  refine ⟨?t,?B,?C⟩
  case B =>
   refine' Ji4 ?s1 ?r1
   case s1 =>
    refine' Jiy ?c2 ?a2 ?b2
    case c2 =>
     exact (Jip (Jiq (Jia T.J6 G_is_standing hr (by decide) (Ji1 (pv 0) (Ji1 (pv 1) Ji2)))))
    case a2 =>
     refine' Ji7 ?s3
     case s3 =>
      exact (Jjc Jje rfl (Jk3 T.Jc2 G_NoStanding___init__ hr (by decide) T.Jbf.bd T.Jay (Ji1 (pv 1) Ji2)))
    case b2 =>
     exact Jik
   case r1 =>
    refine' Ji4 ?s6 ?r6
    case s6 =>
     refine' Jiy ?c7 ?a7 ?b7
     case c7 =>
      exact (Jip (Jiq (Jia T.J4 G_is_row_up_to hr (by decide) (Ji1 (pv 2) (Ji1 (Jiz (N:=(["basin"] : List Str)) (ini:=[none]) rfl (Jpd (Jk0 (pv 0) (by rfl))) (fun _ _ _ _ _=>(Jie (i:=0) (by decide +kernel : (["basin"] : List Str).Nodup) rfl (Or.inl rfl))) (fun _ _ _ _ _=>Jit) (fun _ _ _ _ _=>(Jkx (K:=K) rfl (pv 0) (by rfl)))) Ji2)))))
     case a7 =>
      refine' Ji7 ?s8
      case s8 =>
       exact (Jif Jjx)
     case b7 =>
      exact Jik
    case r6 =>
     refine' Ji7 ?s12
     case s12 =>
      exact (Jif (Jpb Jmw Jmw (Jia T.J7 G_forced_rain hr (by decide) (Ji1 (pv 0) (Ji1 (Jim Jj5 (pv 1) Ji5 (fun _ _=>rfl)) Ji2))) (Jib (Jkp rfl) (by rfl) T.Jao Jmy (Ji1 (pv 2) Ji2)) (Jim Jj5 (pv 1) Ji5 (fun _ _=>rfl))))
  refine ⟨_,rfl,_,rfl,o,R,z,q,rfl,ro,pz,fun H1 s1=>⟨_,rfl,?_⟩⟩
  cases es : stB R q with
  | false =>
   rw [es] at k
   exact Jjr (Jjp T.Jc2 T.Jc3 rfl fun e dx h1 h2 h3=>k _ _ _ ((RfC.new h1 h2 h3).of s1))
  | true =>
   rw [if_pos es] at k
   obtain ⟨u,wt,rr,rfl,ew⟩ : ∃ u wt rr,q = .two u (.int wt) rr ∧ (0 ≤ wt ∧ wt ≤ R.c):=st_wet es
   obtain ⟨p,rfl,hp,_,_⟩:=pz
   obtain ⟨dx,b,t,os,ts,ho,hb,bl,ht,tl,n1,n2,n3⟩:=ro.same s1
   have len:=bl.len
   refine Jj3 ⟨_,rfl,_,rfl,o,_,dx,_,_,rfl,ho,T.Jd7,T.Jdb,rfl,b,rfl,⟨_,SqT.of hb⟩,fun D hD=>?_⟩
   refine Jl6 ((R.Bs.map (·.rn)).map V.int) hD (by simp [len]) (by rw [List.length_map]; omega) hb ?_ ?_
   ·intro i x y H' Q' hx hy sm k'
    obtain ⟨ob,B,rfl,hB,dx,hb,gs⟩:=(bl.same sm).get hx
    rw [List.getElem?_map,List.getElem?_map,hB] at hy
    cases hy
    exact ⟨_,rfl,ob,_,dx,_,_,rfl,hb,T.Jcs,T.Jcz,rfl,k' _ fun _ _ h=>h⟩
   intro H2 s2 hD1
   refine ⟨x,r,D,_,rfl,rx.same (s1.trans s2),hD1,by rw [List.length_map]; omega,fun H3 s3=>⟨_,rfl,?_⟩⟩
   rw [List.length_map]
   have s13:=(s1.trans s2).trans s3
   cases er : Joe r (List.replicate R.Bs.length 0) (R.Bs.map (·.rn)) with
   | false =>
    have e : rnB R (Jwv (.two u (.int wt) rr)) r = false:=by
     cases r with
     | none=>rfl
     | some vs =>
      show (Joe (some vs) _ _ && _) = false
      rw [er,Bool.false_and]
    rw [e] at k
    exact Jjr (k _ s13)
   | true =>
    obtain ⟨vs,ns,rfl,rfl,hns⟩:=Jw6 er n1 n3
    obtain ⟨px,rfl,hpx,_,_⟩:=rx
    refine Jj3 ⟨_,rfl,_,rfl,p,_,1,_,rfl,rfl,SqT.of (s13 _ _ hp),rfl,o,R,wt,rfl,ro.same s13,fun H4 s4=>?_⟩
    have s14:=s13.trans s4
    refine ⟨_,rfl,px,ns,rfl,.inr (SqT.of (s14 _ _ hpx)),hns,?_⟩
    have e : rnB R (Jwv (.two u (.int wt) rr)) (some (ns.map V.int)) = (decide (Jk8 R wt ≤ ns.sum) && decide (ns.sum ≤ wt)):=by
     show (Joe (some (ns.map V.int)) _ _ && (decide (Jk8 R wt ≤ Jta (ns.map V.int)) && decide (Jta (ns.map V.int) ≤ wt))) = _
     rw [er,Bool.true_and,Jqn]
    rw [e] at k
    refine ⟨_,_,rfl,rfl,_,rfl,?_⟩
    cases ef : decide (Jk8 R wt ≤ ns.sum) with
    | false =>
     rw [ef,Bool.false_and] at k
     exact Jj3 (k _ s14)
    | true =>
     rw [ef,Bool.true_and] at k
     exact Jjr ⟨_,rfl,p,_,1,_,rfl,rfl,SqT.of (s14 _ _ hp),rfl,_,_,rfl,rfl,k _ s14⟩
end
structure Ltr (n : Nat) (z : Str) : Prop where
 len : z.length ≤ n
 inn : ∀ c ∈ z.cps.toList,c ∈ LET.cps.toList
theorem Ltr.app {n m : Nat} {x y : Str} (a : Ltr n x) (b : Ltr m y) : Ltr (n + m) (x ++ y):=by
 refine ⟨by rw [Str.length_append]; have:=a.len; have:=b.len; omega,fun c hc=>?_⟩
 have e : (x ++ y).cps = x.cps ++ y.cps:=rfl
 rw [e,Array.toList_append,List.mem_append] at hc
 exact hc.elim (a.inn c) (b.inn c)
theorem Ltr.wd {n : Nat} {z : Str} (a : Ltr n z) : Wd n z:=⟨a.len,fun c hc=>wd_let.low c (a.inn c hc)⟩
theorem Ltr.sign {c : Nat} (h : c ∈ LET.cps.toList) : Ltr 1 (⟨#[c]⟩ : Str):=⟨Nat.le_refl 1,fun d hd=>by
 have : d = c:=by simpa using hd
 rw [this]; exact h⟩
theorem Jvp (ys : List Str) (h : ∀ y ∈ ys,Ltr 1 y) : Ltr ys.length (Txt.join ("" : Str) ys):=by
 have e0 : ∀ l : List Str,(∀ y ∈ l,Ltr 1 y) → Ltr l.length (Str.join ("" : Str) l):=by
  intro l
  induction l with
  | nil=>intro _; exact ⟨Nat.le_refl _,fun c hc=>by simp [Str.join,Str.empty] at hc⟩
  | cons y r ih =>
   intro hy
   have hr:=ih fun z hz=>hy z (List.mem_cons_of_mem _ hz)
   have h1:=hy y List.mem_cons_self
   cases r with
   | nil=>exact h1
   | cons z r' =>
    have : Str.join ("" : Str) (y :: z :: r') = y ++ ("" : Str) ++ Str.join ("" : Str) (z :: r'):=rfl
    rw [this]
    have hE : Ltr 0 ("" : Str):=⟨by decide +kernel,fun c hc=>absurd hc (by
     have : ("" : Str).cps.toList = []:=by decide +kernel
     rw [this]; simp)⟩
    have q:=(h1.app hE).app hr
    exact ⟨Nat.le_trans q.len (by simp only [List.length_cons]; omega),q.inn⟩
 have e1 : Txt.join ("" : Str) ys = Str.join ("" : Str) ys:=by
  have:=join_plain_closes ("" : Str) ys
  exact beq_iff_eq.mp this
 rw [e1]
 exact e0 ys h
def NmK (f : Int) (k : Nat) (z : Str) : Prop:=∃ (c : Nat) (s : Str),z = (⟨#[c]⟩ : Str) ++ s ∧ Ltr 7 s ∧ atI LET.cps.toList ((f + 11 * (k : Int)) % 26) = some c
theorem NmK.mem {f : Int} {k : Nat} {z : Str} (h : NmK f k z) : Ltr 8 z ∧ Jm0 z = true:=by
 obtain ⟨c,s,rfl,hs,hc⟩:=h
 have hl : LET.length = 26:=by decide +kernel
 obtain ⟨c', m,e⟩:=Jsm (g:=LET) (r:=(f + 11 * (k : Int)) % 26) (by omega) (by rw [hl]; omega)
 rw [hc] at e
 cases e
 have q:=(Ltr.sign m).app hs
 refine ⟨q,?_⟩
 unfold Jm0 Jq7
 rw [Bool.and_eq_true]
 refine ⟨decide_eq_true ⟨?_,q.len⟩,List.all_eq_true.mpr fun d hd=>decide_eq_true (q.inn d hd)⟩
 rw [Str.length_append]
 show 1 ≤ 1 + s.length
 omega
theorem Jxd {i j : Int} {c : Nat} (i0 : 0 ≤ i) (i1 : i < 26) (j0 : 0 ≤ j) (j1 : j < 26) (hi : atI LET.cps.toList i = some c) (hj : atI LET.cps.toList j = some c) : i = j:=by
 have all : (List.range 26).all (fun p=>(List.range 26).all fun q=>decide (p = q) || !decide (atI LET.cps.toList (p : Int) = atI LET.cps.toList (q : Int))) = true:=by decide +kernel
 obtain ⟨p,rfl⟩:=Int.eq_ofNat_of_zero_le i0
 obtain ⟨q,rfl⟩:=Int.eq_ofNat_of_zero_le j0
 have h1:=List.all_eq_true.mp all p (List.mem_range.mpr (by omega))
 have h2:=List.all_eq_true.mp h1 q (List.mem_range.mpr (by omega))
 rw [hi,hj] at h2
 simp at h2
 rw [h2]
theorem NmK.ne {f : Int} {j k : Nat} {z : Str} (hj : j < 26) (hk : k < 26) (a : NmK f j z) (b : NmK f k z) : j = k:=by
 obtain ⟨c,s,rfl,_,h1⟩:=a
 obtain ⟨d,t,e,_,h2⟩:=b
 have e1 : ((⟨#[c]⟩ : Str) ++ s).cps.toList = ((⟨#[d]⟩ : Str) ++ t).cps.toList:=by rw [e]
 have e2 : ∀ (x : Nat) (y : Str),((⟨#[x]⟩ : Str) ++ y).cps.toList = x :: y.cps.toList:=fun x y=>by
  show (#[x] ++ y.cps).toList = _
  rw [Array.toList_append]
  rfl
 rw [e2,e2] at e1
 cases List.head_eq_of_cons_eq e1
 have:=Jxd (by omega) (by omega) (by omega) (by omega) h1 h2
 omega
def Nms (f : Int) (zs : List Str) : Prop:=∀ k z,zs[k]? = some z → NmK f k z
theorem Nms.nodup {f : Int} {zs : List Str} (h : Nms f zs) (hl : zs.length ≤ 26) : zs.Nodup:=by
 unfold List.Nodup
 rw [List.pairwise_iff_getElem]
 intro i j hi hj hij e
 have a:=h i zs[i] (List.getElem?_eq_getElem hi)
 have b:=h j zs[j] (List.getElem?_eq_getElem hj)
 rw [← e] at b
 have:=NmK.ne (by omega) (by omega) a b
 omega
theorem Jrq (ys : List Str) (lo hi : Option Int) : ∃ us : List Str,Jn9 (ys.map V.str) lo hi = us.map V.str ∧ us.Sublist ys:=by
 unfold Jn9
 refine ⟨(ys.drop (HT.sIx (ys.map V.str).length 0 lo)).take (HT.sIx (ys.map V.str).length (ys.map V.str).length hi - HT.sIx (ys.map V.str).length 0 lo),?_,(List.take_sublist _ _).trans (List.drop_sublist _ _)⟩
 rw [List.map_take,List.map_drop]
def Jy2 : Sp:=fun vs H Q _=>∃ (p : Addr) (m : Nat),vs = [.ref p,.int m] ∧ Strm H p ∧ m ≤ 26 ∧ ∀ (l : Addr) (f : Int) (zs : List Str) (H' : Hp),H l = none → But p H H' → H' l = some (.lst (zs.map V.str)) → zs.length = m → Nms f zs → Q (.ref l) H'
section
variable {P : Program} {w : World} {K : W.Frag} {mg : Str → Option Value} {base : Heap} {a : Ad}
theorem sc_law_names : Jic ["_law_stream_here","_law_many","_law_letters","_law_first","_law_base","_law_cut"] ["_law_stream_here","_law_many"] (Ji6 (top 61)):=⟨rfl,rfl,rfl,by decide +kernel,rfl,by decide +kernel,by decide +kernel⟩
theorem Jr8 (T : Tx K mg a) : FnOk P w K mg base CX0 2 a.Jga a.Jgb ["_law_stream_here","_law_many"] Jy2:=by
 have G__law_take:=Jjk (P:=P) (w:=w) (base:=base) T
 refine T.Jm.fn.ok sc_law_names (fun vs H Q E h=>?_) (fun cdv A outer s H vs Q E hr h=>?_)
 ·obtain ⟨p,m,rfl,_⟩:=h
  rfl
 ·obtain ⟨p,m,rfl,st,hm,k⟩:=h
  refine ⟨?t,?B,?C⟩
  case B =>
   refine' Ji4 ?s1 ?r1
   case s1 =>
    exact (Jig (i:=2) sc_law_names.nd rfl (Or.inr rfl) Jks)
   case r1 =>
    refine' Ji4 ?s3 ?r3
    case s3 =>
     exact (Jig (i:=3) sc_law_names.nd rfl (Or.inr rfl) (Jia T.Jl G__law_take hr (by decide) (Ji1 (pv 0) (Ji1 Ji5 Ji2))))
    case r3 =>
     refine' Ji4 ?s5 ?r5
     case s5 =>
      exact (Jig (i:=4) sc_law_names.nd rfl (Or.inr rfl) (Jiz (N:=(["_law_k","_law_letters","_law_stream_here"] : List Str)) (ini:=[none,some 2,some 0]) rfl (Jl8 (by rfl) T.Jal (Ji1 Ji5 Ji2)) (fun _ _ _ _ _=>(Jie (i:=0) (by decide +kernel : (["_law_k","_law_letters","_law_stream_here"] : List Str).Nodup) rfl (Or.inl rfl))) (fun _ _ _ _ _=>Jit) (fun _ _ _ _ _=>(Jim Jvo (pv 1) (Jia T.Jl G__law_take hr (by decide) (Ji1 (pv 2) (Ji1 Ji5 Ji2))) (fun _ _=>rfl)))))
     case r5 =>
      refine' Ji4 ?s7 ?r7
      case s7 =>
       exact (Jig (i:=5) sc_law_names.nd rfl (Or.inr rfl) (Jia T.Jl G__law_take hr (by decide) (Ji1 (pv 0) (Ji1 Ji5 Ji2))))
      case r7 =>
       refine' Ji7 ?s9
       case s9 =>
        exact (Jif (Jiz (N:=(["_law_k","_law_letters","_law_base","_law_first","_law_cut"] : List Str)) (ini:=[none,some 2,some 4,some 3,some 5]) rfl (Jl8 (by rfl) T.Jal (Ji1 (pv 1) Ji2)) (fun _ _ _ _ _=>(Jie (i:=0) (by decide +kernel : (["_law_k","_law_letters","_law_base","_law_first","_law_cut"] : List Str).Nodup) rfl (Or.inl rfl))) (fun _ _ _ _ _=>Jit) (fun _ _ _ _ _=>(Jij Jt1 (Jim Jvo (pv 1) (Jij Jm6 (Jij Jj1 (pv 3) (Jij Jm7 Ji5 (pv 0))) Ji5) (fun _ _=>rfl)) (pe_bmK (K:=K) rfl F.plainAttrs_str F.slot_str_join F.type_str_join (Jvt (K:=K) rfl) Jks (Ji1 (Jpc (Jwb (K:=K) rfl) (pv 2) Ju0 (Jol (Jij Jm6 (Jij Jj1 (pv 4) (Jij Jm7 Ji5 (pv 0))) Ji5))) Ji2))))))
  refine ⟨_,rfl,p,26,rfl,st,by decide,by decide,fun f H1 f0 f1 b1=>⟨_,rfl,by omega,by omega,fun D hD=>?_⟩⟩
  have neD : D ≠ p:=b1.2.ne hD
  refine Jn0 (D:=D) (fun i σ H'=>∃ (o : Option V) (ys : List Str),σ = [o,some (.str LET),some (.ref p)] ∧ H' D = some (.lst (ys.map V.str)) ∧ ys.length = i ∧ (∀ y ∈ ys,Ltr 1 y) ∧ But p H1 H')
   ?_ ?_ ?_
  ·exact ⟨none,[],rfl,Ji3,rfl,(fun y hy=>absurd hy (by simp)),But.of b1.2 (Same.upd hD)⟩
  ·rintro i σ H' hi ⟨o,ys,rfl,hDs,hl,hw,b⟩
   refine Jjh ⟨_,rfl,_,rfl,p,26,rfl,b.2,by decide,by decide,fun r H2 r0 r1 b2=>?_⟩
   obtain ⟨c,hc,hat⟩:=Jsm (g:=LET) r0 (by
    have : LET.length = 26:=by decide +kernel
    omega)
   refine ⟨LET,r,c,rfl,rfl,Jla _ (by decide +kernel),hat,ys.map V.str,b2.1 D _ neD hDs,?_,_,ys ++ [⟨#[c]⟩],rfl,?_,?_,?_,(b.trans b2).new hD b1.2⟩
   ·rw [List.length_map]
    exact Jiu (by omega)
   ·rw [Ji3,List.map_append]
    rfl
   ·rw [List.length_append]
    show ys.length + 1 = i + 1
    omega
   ·intro y hy
    rcases List.mem_append.mp hy with hy | hy
    ·exact hw y hy
    ·rw [List.mem_singleton.mp hy]
     exact Ltr.sign hc
  rintro σ H2 ⟨o,ys,rfl,hDs,hl,hw,b⟩
  have b2:=b1.trans b
  refine ⟨_,rfl,p,8,rfl,b2.2,by decide,by decide,fun ct H3 c0 c1 b3=>?_⟩
  have hD3:=b3.1 D _ neD hDs
  have b4:=b2.trans b3
  refine ⟨_,rfl,_,rfl,by omega,by omega,fun D2 hD2=>?_⟩
  have ne2 : D ≠ D2:=fun e=>by rw [e,hD2] at hD3; cases hD3
  refine Jn0 (D:=D2) (fun i σ H'=>∃ (o : Option V) (zs : List Str),σ = [o,some (.str LET),some (.ref D),some (.int f),some (.int ct)] ∧ H' D2 = some (.lst (zs.map V.str)) ∧ zs.length = i ∧ Nms f zs ∧ Same H3 H')
   ⟨none,[],rfl,Ji3,rfl,fun k z e=>by simp at e,Same.upd hD2⟩ ?_ ?_
  ·rintro i σ H' hi ⟨o,zs,rfl,hDs2,hl2,hz,sm⟩
   obtain ⟨c,hc,hat⟩:=Jsm (g:=LET) (r:=(f + 11 * (0 + (i : Int))) % 26) (by omega) (by
    have : LET.length = 26:=by decide +kernel
    omega)
   refine Jjh ⟨_,rfl,_,rfl,_,rfl,_,_,rfl,rfl,.inl (by decide),_,_,rfl,rfl,_,_,rfl,rfl,(show (0 : Int) < 26 by decide),LET,_,c,rfl,rfl,Jla _ (by decide +kernel),hat,?_⟩
   refine ⟨rfl,_,rfl,_,rfl,_,rfl,_,_,rfl,rfl,.inl (by decide),_,_,rfl,rfl,_,_,rfl,rfl,(show (0 : Int) < 8 by decide),_,rfl,D,_,rfl,SqL.of (sm _ _ hD3),fun q hq=>?_⟩
   obtain ⟨us,eu,hus⟩:=Jrq ys none (some ((ct + 3 * (0 + (i : Int))) % 8))
   have hu1 : ∀ y ∈ us,Ltr 1 y:=fun y hy=>hw y (hus.subset hy)
   have hul : us.length ≤ 7:=by
    have:=hus.length_le
    omega
   have hs1:=Ju4 us fun y hy=>(hu1 y hy).wd
   have jl:=Jvp us hu1
   have sq:=Same.upd (o:=.lst (Jn9 (ys.map V.str) none (some ((ct + 3 * (0 + (i : Int))) % 8)))) hq
   refine ⟨"",q,us,rfl,rfl,SqL.of (by rw [Ji3,eu]),?_,_,_,rfl,rfl,?_,_,sq _ _ hDs2,?_,_,zs ++ [(⟨#[c]⟩ : Str) ++ Txt.join ("" : Str) us],rfl,?_,?_,?_,?_⟩
   ·have : ("" : Str).length = 0:=by decide +kernel
    rw [this]
    omega
   ·have:=jl.len
    show 1 + _ ≤ sizeLine
    exact Jla _ (by omega)
   ·rw [List.length_map]
    exact Jiu (by omega)
   ·rw [Ji3,List.map_append]
    rfl
   ·rw [List.length_append]
    show zs.length + 1 = i + 1
    omega
   ·intro j z ej
    rw [List.getElem?_append] at ej
    split at ej
    ·exact hz j z ej
    ·have hj : j = i:=by
      have:=(List.getElem?_eq_some_iff.mp ej).1
      simp at this
      omega
     subst hj
     rw [hl2,Nat.sub_self] at ej
     cases ej
     refine ⟨c,_,rfl,⟨Nat.le_trans jl.len hul,jl.inn⟩,?_⟩
     rw [← hat,Int.zero_add]
   ·intro b o e
    rw [Ji9 (Ji8 e hD2)]
    exact sq _ _ (sm _ _ e)
  ·rintro σ H4 ⟨o,zs,rfl,hDs2,hl2,hz,sm⟩
   have hn : H D2 = none:=by
    cases e : H D2 with
    | none=>rfl
    | some u =>
     by_cases hp : D2 = p
     ·subst hp
      obtain ⟨_,_,_,q⟩:=b4.2
      rw [hD2] at q
      cases q
     ·rw [b4.1 _ _ hp e] at hD2
      cases hD2
   exact k D2 f zs H4 hn (b4.same sm) hDs2 (by omega) hz
end
theorem Jo6 : ∀ (ns : List Int) (lo m n : Int),Jjs lo (ns.map V.int) = true → ns.getLast? = some m → m + 1 ≤ n → n ≤ 12 → Jjs lo ((ns ++ [n]).map V.int) = true
 | [],_,_,_,_,h,_,_=>by simp at h
 | [x],lo,m,n,h,hl,h1,h2=>by
  have e : x = m:=by simpa using hl
  subst e
  simp [Jjs] at h ⊢
  omega
 | x :: y :: r,lo,m,n,h,hl,h1,h2=>by
  have hl' : (y :: r).getLast? = some m:=by simpa using hl
  have h' : ((decide (lo ≤ x) && decide (x ≤ 12)) && Jjs (x + 1) ((y :: r).map V.int)) = true:=h
  rw [Bool.and_eq_true] at h'
  have ih:=Jo6 (y :: r) (x + 1) m n h'.2 hl' h1 h2
  show ((decide (lo ≤ x) && decide (x ≤ 12)) && Jjs (x + 1) (((y :: r) ++ [n]).map V.int)) = true
  rw [h'.1,ih]
  rfl
theorem Jo5 : ∀ (ns : List Int) (lo m : Int),Jjs lo (ns.map V.int) = true → ns.getLast? = some m → lo ≤ m ∧ m ≤ 12
 | [],_,_,_,h=>by simp at h
 | [x],lo,m,h,hl=>by
  have e : x = m:=by simpa using hl
  subst e
  simpa [Jjs] using h
 | x :: y :: r,lo,m,h,hl=>by
  have hl' : (y :: r).getLast? = some m:=by simpa using hl
  have h' : ((decide (lo ≤ x) && decide (x ≤ 12)) && Jjs (x + 1) ((y :: r).map V.int)) = true:=h
  rw [Bool.and_eq_true,Bool.and_eq_true,decide_eq_true_eq,decide_eq_true_eq] at h'
  have ih:=Jo5 (y :: r) (x + 1) m h'.2 hl'
  omega
structure Jl4 where
 kd : Str
 ns : List Int
 sv : Option Int
def svV : Option Int → V
 | some i=>.int i
 | none=>.non
structure GGood (G : Jl4) : Prop where
 kd : Knd G.kd
 ns : Jlp (Jl7 G.kd) (G.ns.map V.int) = true
 sv : ∀ i,G.sv = some i → 0 ≤ i ∧ i < G.ns.length
def GTAt (p : Addr) (H : Hp) (x : V) (G : Jl4) : Prop:=∃ t m : Addr,x = .ref t ∧ H t = some (.tup [.str G.kd,.ref m,svV G.sv]) ∧ H m = some (.lst (G.ns.map V.int)) ∧ m ≠ p
theorem GTAt.same {p : Addr} {H H' : Hp} {x : V} {G : Jl4} (s : Same H H') (h : GTAt p H x G) : GTAt p H' x G:=let ⟨t,m,e,h1,h2,n⟩:=h; ⟨t,m,e,s _ _ h1,s _ _ h2,n⟩
theorem GTAt.but {p : Addr} {H H' : Hp} {x : V} {G : Jl4} (st : Strm H p) (b : But p H H') (h : GTAt p H x G) : GTAt p H' x G :=
 let ⟨t,m,e,h1,h2,n⟩:=h
 ⟨t,m,e,b.1 _ _ (Jk2 st h1 (fun _ _ _ z=>by cases z)) h1,b.1 _ _ n h2,n⟩
theorem GTAt.move {p q : Addr} {H : Hp} {x : V} {G : Jl4} (hq : H q = none) (h : GTAt p H x G) : GTAt q H x G :=
 let ⟨t,m,e,h1,h2,_⟩:=h
 ⟨t,m,e,h1,h2,fun z=>by rw [z,hq] at h2; cases h2⟩
def Jxz : Sp:=fun vs H Q _=>∃ (p : Addr),vs = [.ref p] ∧ Strm H p ∧ ∀ (x : V) (G : Jl4) (H' : Hp),But p H H' → GTAt p H' x G → GGood G → Q x H'
section
variable {P : Program} {w : World} {K : W.Frag} {mg : Str → Option Value} {base : Heap} {a : Ad}
theorem sc_law_gate : Jic ["_law_stream_here","_law_kind","_law_mark","_law_marks","_law_k","_law_stuck"] ["_law_stream_here"] (Ji6 (top 62)):=⟨rfl,rfl,rfl,by decide +kernel,rfl,by decide +kernel,by decide +kernel⟩
theorem Js3 (T : Tx K mg a) : FnOk P w K mg base CX0 2 a.Jgc a.Jgd ["_law_stream_here"] Jxz:=by
 have G__law_take:=Jjk (P:=P) (w:=w) (base:=base) T
 refine T.Jn.fn.ok sc_law_gate (fun vs H Q E h=>?_) (fun cdv A outer s H vs Q E hr h=>?_)
 ·obtain ⟨p,rfl,_⟩:=h
  rfl
 ·obtain ⟨p,rfl,st,k⟩:=h
  refine ⟨?t,?B,?C⟩
  case B =>
   refine' Ji4 ?s1 ?r1
   case s1 =>
    exact (Jig (i:=1) sc_law_gate.nd rfl (Or.inl rfl) (Jim Jiw (Jjn (Ji1 Jks (Ji1 Jks (Ji1 Jks Ji2)))) (Jia T.Jl G__law_take hr (by decide) (Ji1 (pv 0) (Ji1 Ji5 Ji2))) (fun _ _=>rfl)))
   case r1 =>
    refine' Ji4 ?s3 ?r3
    case s3 =>
     exact (Jig (i:=2) sc_law_gate.nd rfl (Or.inl rfl) (Jij Jj1 (Jia T.Jl G__law_take hr (by decide) (Ji1 (pv 0) (Ji1 (Jij Jjt Ji5 (Jin Jmj (by rfl) T.Jaf Jot (Ji1 (Jki Jmv (pv 1) Jks (Jj7 _)) Ji2))) Ji2))) (Jin Jmj (by rfl) T.Jaf Jot (Ji1 (Jki Jmv (pv 1) Jks (Jj7 _)) Ji2))))
    case r3 =>
     refine' Ji4 ?s5 ?r5
     case s5 =>
      exact (Jig (i:=3) sc_law_gate.nd rfl (Or.inl rfl) (Jjn (Ji1 (pv 2) Ji2)))
     case r5 =>
      refine' Ji4 ?s7 ?r7
      case s7 =>
       refine' Jkl ?f8_0 ?f8_1 ?f8_2 ?f8_3 ?f8_4
       case f8_0 =>
        exact PassesOwn.never
       case f8_1 =>
        exact rfl
       case f8_2 =>
        exact (Jl8 (by rfl) T.Jal (Ji1 (Jia T.Jl G__law_take hr (by decide) (Ji1 (pv 0) (Ji1 Ji5 Ji2))) Ji2))
       case f8_3 =>
        exact (Jie (i:=4) sc_law_gate.nd rfl (Or.inl rfl))
       case f8_4 =>
        refine' Ji4 ?s9 ?r9
        case s9 =>
         exact (Jig (i:=2) sc_law_gate.nd rfl (Or.inl rfl) (Jij Jj1 (Jij Jj1 (pv 2) Ji5) (Jia T.Jl G__law_take hr (by decide) (Ji1 (pv 0) (Ji1 Ji5 Ji2)))))
        case r9 =>
         refine' Ji7 ?s11
         case s11 =>
          exact (Jjv (Jo7 F.plainAttrs_list F.slot_list_append F.type_list_append Jk5 (pv 3) (Ji1 (pv 2) Ji2)))
      case r7 =>
       refine' Ji4 ?s13 ?r13
       case s13 =>
        exact (Jig (i:=5) sc_law_gate.nd rfl (Or.inl rfl) Jl2)
       case r13 =>
        refine' Ji4 ?s15 ?r15
        case s15 =>
         refine' Jiy ?c16 ?a16 ?b16
         case c16 =>
          exact (Jji Jmv (Jia T.Jl G__law_take hr (by decide) (Ji1 (pv 0) (Ji1 Ji5 Ji2))) Ji5 (Jj7 _))
         case a16 =>
          refine' Ji7 ?s17
          case s17 =>
           exact (Jig (i:=5) sc_law_gate.nd rfl (Or.inl rfl) (Jia T.Jl G__law_take hr (by decide) (Ji1 (pv 0) (Ji1 (Jib Jih (by rfl) T.Jah Jjb (Ji1 (pv 3) Ji2)) Ji2))))
         case b16 =>
          exact Jik
        case r15 =>
         refine' Ji7 ?s20
         case s20 =>
          exact (Jif (Jk9 (Ji1 (pv 1) (Ji1 (pv 3) (Ji1 (pv 5) Ji2)))))
  refine ⟨(show 3 ≤ sizeLine by decide),fun L hL=>?_⟩
  have sL:=Same.upd (o:=.lst [.str "step",.str "flap",.str "part"]) hL
  have bL:=But.of st sL
  have nL : L ≠ p:=st.ne hL
  refine ⟨_,rfl,p,3,rfl,bL.2,by decide,by decide,fun r H1 r0 r1 b1=>?_⟩
  obtain ⟨kd,hat,hk⟩ : ∃ kd : Str,atI [V.str "step",.str "flap",.str "part"] r = some (.str kd) ∧ Knd kd:=by
   have cs : r = 0 ∨ r = 1 ∨ r = 2:=by omega
   rcases cs with rfl | rfl | rfl
   ·exact ⟨_,rfl,.inl rfl⟩
   ·exact ⟨_,rfl,.inr (.inl rfl)⟩
   ·exact ⟨_,rfl,.inr (.inr rfl)⟩
  refine ⟨L,_,r,_,rfl,rfl,SqL.of (b1.1 _ _ nL Ji3),hat,?_⟩
  have bK:=bL.trans b1
  have el : Jl7 kd = if decide (V.str kd = V.str "part") = true then 1 else 0:=by
   unfold Jl7
   by_cases h : kd = ("part" : Str)
   ·rw [if_pos h,if_pos (decide_eq_true (by rw [h]))]
   ·rw [if_neg h,if_neg (by rw [decide_eq_false (fun e=>h (V.str.inj e))]; decide)]
  have hlo : Jl7 kd = 0 ∨ Jl7 kd = 1:=by unfold Jl7; split <;> simp
  refine ⟨_,rfl,_,rfl,rfl,.inr ⟨_,rfl,_,_,rfl,rfl,?_⟩⟩
  rw [← el]
  have hm : (0 : Int) < 4 - Jl7 kd ∧ (4 - Jl7 kd).natAbs.log2 < 9000:=by rcases hlo with e | e <;> rw [e] <;> decide
  refine ⟨p,4 - Jl7 kd,rfl,bK.2,hm.1,hm.2,fun r2 H2 s0 s1 b2=>?_⟩
  refine ⟨_,rfl,rfl,.inr ⟨_,rfl,_,_,rfl,rfl,?_⟩⟩
  rw [← el]
  have b02:=bK.trans b2
  refine ⟨_,rfl,(show 1 ≤ sizeLine by decide),fun l hl=>?_⟩
  have hl0 : H l = none:=But.free st b02 hl
  have nlp : l ≠ p:=st.ne hl0
  have b3 : But p H (upd H2 l (.lst [.int (r2 + Jl7 kd)])):=b02.updD hl0 nlp
  refine ⟨_,rfl,p,4,rfl,b3.2,by decide,by decide,fun j H3 j0 j1 b4=>⟨j,rfl,by omega,by omega,?_⟩⟩
  refine Jns (fun i σ H'=>∃ (o o' : Option V) (ns : List Int) (m : Int),σ = [some (.ref p),some (.str kd),some (.int m),some (.ref l),o,o'] ∧ But p H H' ∧ H' l = some (.lst (ns.map V.int)) ∧ Jjs (Jl7 kd) (ns.map V.int) = true ∧ ns.getLast? = some m ∧ ns.length = i + 1 ∧ m ≤ 3 + 3 * i)
   ⟨_,_,[r2 + Jl7 kd],r2 + Jl7 kd,rfl,b3.trans b4,b4.1 _ _ nlp Ji3,?_,rfl,by simp,by omega⟩ ?_ ?_
  ·simp [Jjs]
   omega
  ·rintro i σ H4 hi ⟨o,o', ns,m,rfl,b5,h5,hmk,hla,hle,hmi⟩
   have hb:=Jo5 ns (Jl7 kd) m hmk hla
   refine ⟨_,rfl,_,_,rfl,rfl,_,rfl,p,3,rfl,b5.2,by decide,by decide,fun r' H5 t0 t1 b6=>?_⟩
   refine ⟨_,_,rfl,rfl,?_⟩
   have h6:=b6.1 _ _ nlp h5
   refine ⟨_,rfl,.inl ⟨rfl,_,SqL.of h6⟩,_,rfl,l,_,_,rfl,rfl,h6,by rw [List.length_map]; exact Jiu (by omega),?_⟩
   refine ⟨_,_,ns ++ [m + 1 + r'],m + 1 + r', rfl,(b5.trans b6).updD hl0 nlp,?_,Jo6 ns (Jl7 kd) m _ hmk hla (by omega) (by omega),by simp,by simp; omega,by omega⟩
   rw [Ji3]
   simp
  ·rintro σ H4 ⟨o,o', ns,m,rfl,b5,h5,hmk,hla,hle,hmi⟩
   have har : Jlp (Jl7 kd) (ns.map V.int) = true:=by
    unfold Jlp
    rw [hmk,Bool.and_true,List.length_map]
    exact decide_eq_true (by omega)
   refine ⟨_,rfl,p,6,rfl,b5.2,by decide,by decide,fun r6 H6 _ _ b6=>⟨rfl,_,rfl,ite2 (fun _=>?_) (fun _=>?_)⟩⟩
   ·have h6:=b6.1 _ _ nlp h5
    refine ⟨_,rfl,_,rfl,l,_,rfl,.inl (SqL.of h6),p,_,rfl,(b5.trans b6).2,by rw [List.length_map]; omega,?_,fun r7 H7 u0 u1 b7=>?_⟩
    ·rw [List.length_map]
     have : ((ns.length : Int)).natAbs ≤ 4:=by omega
     exact Nat.lt_of_le_of_lt (Nat.log2_le_self _) (by omega)
    rw [List.length_map] at u1
    have h7:=b7.1 _ _ nlp h6
    refine ⟨_,rfl,_,rfl,_,rfl,(show 3 ≤ sizeLine by decide),fun t ht=>?_⟩
    have sT:=Same.upd (o:=.tup [.str kd,.ref l,svV (some r7)]) ht
    refine k (.ref t) ⟨kd,ns,some r7⟩ _ (((b5.trans b6).trans b7).same sT) ⟨t,l,rfl,Ji3,sT _ _ h7,nlp⟩ ⟨hk,har,fun i e=>?_⟩
    cases e
    exact ⟨u0,u1⟩
   ·have h6:=b6.1 _ _ nlp h5
    refine ⟨_,rfl,_,rfl,_,rfl,(show 3 ≤ sizeLine by decide),fun t ht=>?_⟩
    have sT:=Same.upd (o:=.tup [.str kd,.ref l,svV (none)]) ht
    refine k (.ref t) ⟨kd,ns,none⟩ _ ((b5.trans b6).same sT) ⟨t,l,rfl,Ji3,sT _ _ h6,nlp⟩ ⟨hk,har,fun i e=>?_⟩
    cases e
end
structure Jkc where
 z : Str
 lo : Int
 hi : Int
 st : Int
 rn : Int
 G : Jl4
structure Jq5 (B : Jkc) : Prop where
 lo : 0 ≤ B.lo ∧ B.lo ≤ 12
 hi : B.lo ≤ B.hi ∧ B.hi ≤ 12
 st : B.lo ≤ B.st ∧ B.st ≤ B.hi
 rn : 0 ≤ B.rn ∧ B.rn ≤ 6
 G : GGood B.G
def BTAt (p : Addr) (H : Hp) (x : V) (B : Jkc) : Prop:=∃ (t : Addr) (g : V),x = .ref t ∧ H t = some (.tup [.str B.z,.int B.lo,.int B.hi,.int B.st,.int B.rn,g]) ∧ GTAt p H g B.G
theorem BTAt.same {p : Addr} {H H' : Hp} {x : V} {B : Jkc} (s : Same H H') (h : BTAt p H x B) : BTAt p H' x B:=let ⟨t,g,e,h1,h2⟩:=h; ⟨t,g,e,s _ _ h1,h2.same s⟩
theorem BTAt.but {p : Addr} {H H' : Hp} {x : V} {B : Jkc} (st : Strm H p) (b : But p H H') (h : BTAt p H x B) : BTAt p H' x B :=
 let ⟨t,g,e,h1,h2⟩:=h
 ⟨t,g,e,b.1 _ _ (Jk2 st h1 (fun _ _ _ z=>by cases z)) h1,h2.but st b⟩
theorem BTAt.move {p q : Addr} {H : Hp} {x : V} {B : Jkc} (hq : H q = none) (h : BTAt p H x B) : BTAt q H x B :=
 let ⟨t,g,e,h1,h2⟩:=h
 ⟨t,g,e,h1,h2.move hq⟩
def Jwe : Sp:=fun vs H Q _=>∃ (p : Addr) (z : Str),vs = [.ref p,.str z] ∧ Strm H p ∧ ∀ (x : V) (B : Jkc) (H' : Hp),But p H H' → BTAt p H' x B → Jq5 B → B.z = z → Q x H'
theorem Jms {i : Int} (h : i.natAbs ≤ 1000) : i.natAbs.log2 < 9000:=Nat.lt_of_le_of_lt (Nat.log2_le_self _) (by omega)
section
variable {P : Program} {w : World} {K : W.Frag} {mg : Str → Option Value} {base : Heap} {a : Ad}
theorem sc_law_basin : Jic ["_law_stream_here","_law_name","_law_low","_law_high","_law_start"] ["_law_stream_here","_law_name"] (Ji6 (top 63)):=⟨rfl,rfl,rfl,by decide +kernel,rfl,by decide +kernel,by decide +kernel⟩
theorem Jr7 (T : Tx K mg a) : FnOk P w K mg base CX0 3 a.Jge a.Jgf ["_law_stream_here","_law_name"] Jwe:=by
 have G__law_take:=Jjk (P:=P) (w:=w) (base:=base) T
 have G__law_gate:=Js3 (P:=P) (w:=w) (base:=base) T
 refine T.Jo.fn.ok sc_law_basin (fun vs H Q E h=>?_) (fun cdv A outer s H vs Q E hr h=>?_)
 ·obtain ⟨p,z,rfl,_⟩:=h
  rfl
 ·obtain ⟨p,z,rfl,st,k⟩:=h
  refine ⟨?t,?B,?C⟩
  case B =>
   refine' Ji4 ?s1 ?r1
   case s1 =>
    exact (Jig (i:=2) sc_law_basin.nd rfl (Or.inl rfl) (Jia T.Jl G__law_take hr (by decide) (Ji1 (pv 0) (Ji1 Ji5 Ji2))))
   case r1 =>
    refine' Ji4 ?s3 ?r3
    case s3 =>
     exact (Jig (i:=3) sc_law_basin.nd rfl (Or.inl rfl) (Jij Jj1 (pv 2) (Jia T.Jl G__law_take hr (by decide) (Ji1 (pv 0) (Ji1 (Jij Jjt Ji5 (pv 2)) Ji2)))))
    case r3 =>
     refine' Ji4 ?s5 ?r5
     case s5 =>
      exact (Jig (i:=4) sc_law_basin.nd rfl (Or.inl rfl) (Jij Jj1 (pv 2) (Jia T.Jl G__law_take hr (by decide) (Ji1 (pv 0) (Ji1 (Jij Jj1 (Jij Jjt (pv 3) (pv 2)) Ji5) Ji2)))))
     case r5 =>
      refine' Ji7 ?s7
      case s7 =>
       refine' Jif ?e9_0
       case e9_0 =>
        refine' Jk9 ?e10_0
        case e10_0 =>
         refine' pa6 ?e11_0 ?e11_1 ?e11_2 ?e11_3 ?e11_4 ?e11_5
         case e11_0 =>
          exact (pv 1)
         case e11_1 =>
          exact (pv 2)
         case e11_2 =>
          exact (pv 3)
         case e11_3 =>
          exact (pv 4)
         case e11_4 =>
          exact (Jia T.Jl G__law_take hr (by decide) (Ji1 (pv 0) (Ji1 Ji5 Ji2)))
         case e11_5 =>
          exact (Jia T.Jn G__law_gate hr (by decide) (Ji1 (pv 0) Ji2))
  refine ⟨_,rfl,p,13,rfl,st,by decide,by decide,fun lo H1 l0 l1 b1=>?_⟩
  refine ⟨_,rfl,_,rfl,_,rfl,_,_,rfl,rfl,p,13 - lo,rfl,b1.2,by omega,Jms (by omega),fun hi H2 h0 h1 b2=>⟨_,_,rfl,rfl,?_⟩⟩
  refine ⟨_,rfl,_,rfl,_,rfl,_,rfl,_,_,rfl,rfl,_,_,rfl,rfl,p,lo + hi - lo + 1,rfl,b2.2,by omega,Jms (by omega),fun sv H3 s0 s1 b3=>⟨_,_,rfl,rfl,?_⟩⟩
  refine ⟨_,rfl,_,rfl,_,rfl,_,rfl,_,rfl,p,7,rfl,b3.2,by decide,by decide,fun rn H4 n0 n1 b4=>?_⟩
  refine ⟨_,rfl,p,rfl,b4.2,fun g G H5 b5 gt gg=>?_⟩
  refine ⟨(show 6 ≤ sizeLine by decide),fun t ht=>?_⟩
  have sT:=Same.upd (o:=.tup [.str z,.int lo,.int (lo + hi),.int (lo + sv),.int rn,g]) ht
  exact k (.ref t) ⟨z,lo,lo + hi,lo + sv,rn,G⟩ _ (((((b1.trans b2).trans b3).trans b4).trans b5).same sT) ⟨t,g,rfl,Ji3,gt.same sT⟩ ⟨by dsimp only; omega,by dsimp only; omega,by dsimp only; omega,by dsimp only; omega,gg⟩ rfl
end
theorem Jxq {bs : List V} {ns : List Int} (h : ∀ b ∈ bs,∃ o,b = V.ref o) (hn : 1 ≤ ns.length) : bs ≠ ns.map V.int:=by
 intro e
 cases ns with
 | nil=>simp at hn
 | cons n r =>
  obtain ⟨o,q⟩:=h (.int n) (by rw [e]; simp)
  cases q
theorem GGood.len {G : Jl4} (h : GGood G) : 1 ≤ G.ns.length ∧ G.ns.length ≤ 4:=by
 have q:=h.ns
 unfold Jlp at q
 rw [Bool.and_eq_true,decide_eq_true_eq,List.length_map] at q
 exact q.1
theorem GTAt.put {p D : Addr} {H : Hp} {x : V} {G : Jl4} {bs : List V} {o : HO} (g : GGood G) (hD : H D = some (.lst bs)) (hb : ∀ b ∈ bs,∃ o,b = V.ref o) (h : GTAt p H x G) : GTAt p (upd H D o) x G:=by
 obtain ⟨t,m,e,h1,h2,n⟩:=h
 refine ⟨t,m,e,?_,?_,n⟩
 ·rw [Ji9 (fun z=>by rw [z,hD] at h1; cases h1)]
  exact h1
 ·rw [Ji9 (fun z=>by rw [z,hD] at h2; cases h2; exact Jxq hb g.len.1 rfl)]
  exact h2
theorem BTAt.put {p D : Addr} {H : Hp} {x : V} {B : Jkc} {bs : List V} {o : HO} (g : Jq5 B) (hD : H D = some (.lst bs)) (hb : ∀ b ∈ bs,∃ o,b = V.ref o) (h : BTAt p H x B) : BTAt p (upd H D o) x B:=by
 obtain ⟨t,y,e,h1,h2⟩:=h
 refine ⟨t,y,e,?_,h2.put g.G hD hb⟩
 rw [Ji9 (fun z=>by rw [z,hD] at h1; cases h1)]
 exact h1
def BTL (p : Addr) (H : Hp) : List V → List Jkc → Prop
 | [],[]=>True
 | x :: xs,B :: Bs=>BTAt p H x B ∧ BTL p H xs Bs
 | _,_=>False
theorem BTL.map {p q : Addr} {H H' : Hp} (f : ∀ x B,Jq5 B → BTAt p H x B → BTAt q H' x B) : ∀ {xs : List V} {Bs : List Jkc},(∀ B ∈ Bs,Jq5 B) → BTL p H xs Bs → BTL q H' xs Bs
 | [],[],_,_=>True.intro
 | _ :: _,_ :: _,g,⟨h,t⟩=>⟨f _ _ (g _ List.mem_cons_self) h,BTL.map f (fun B hB=>g B (List.mem_cons_of_mem _ hB)) t⟩
theorem BTL.snoc {p : Addr} {H : Hp} {x : V} {B : Jkc} (h : BTAt p H x B) : ∀ {xs : List V} {Bs : List Jkc},BTL p H xs Bs → BTL p H (xs ++ [x]) (Bs ++ [B])
 | [],[],_=>⟨h,True.intro⟩
 | _ :: _,_ :: _,⟨a,t⟩=>⟨a,BTL.snoc h t⟩
theorem BTL.refs {p : Addr} {H : Hp} : ∀ {xs : List V} {Bs : List Jkc},BTL p H xs Bs → ∀ b ∈ xs,∃ o,b = V.ref o
 | [],[],_,b,hb=>by simp at hb
 | x :: xs,B :: Bs,⟨⟨t,g,e,_⟩,tl⟩,b,hb=>by
  rcases List.mem_cons.mp hb with rfl | hb
  ·exact ⟨t,e⟩
  ·exact BTL.refs tl b hb
theorem BTL.len {p : Addr} {H : Hp} : ∀ {xs : List V} {Bs : List Jkc},BTL p H xs Bs → xs.length = Bs.length
 | [],[],_=>rfl
 | _ :: _,_ :: _,⟨_,t⟩=>by rw [List.length_cons,List.length_cons,BTL.len t]
structure Jlm where
 z : Str
 b : Str
 wt : Int
def TTAt (H : Hp) (x : V) (B : Jlm) : Prop:=∃ t : Addr,x = .ref t ∧ H t = some (.tup [.str B.z,.str B.b,.int B.wt])
theorem TTAt.same {H H' : Hp} {x : V} {B : Jlm} (s : Same H H') (h : TTAt H x B) : TTAt H' x B:=let ⟨t,e,h1⟩:=h; ⟨t,e,s _ _ h1⟩
theorem TTAt.but {p : Addr} {H H' : Hp} {x : V} {B : Jlm} (st : Strm H p) (b : But p H H') (h : TTAt H x B) : TTAt H' x B :=
 let ⟨t,e,h1⟩:=h
 ⟨t,e,b.1 _ _ (Jk2 st h1 (fun _ _ _ z=>by cases z)) h1⟩
theorem TTAt.put {D : Addr} {H : Hp} {x : V} {B : Jlm} {bs : List V} {o : HO} (hD : H D = some (.lst bs)) (h : TTAt H x B) : TTAt (upd H D o) x B:=by
 obtain ⟨t,e,h1⟩:=h
 refine ⟨t,e,?_⟩
 rw [Ji9 (fun z=>by rw [z,hD] at h1; cases h1)]
 exact h1
def TTL (H : Hp) : List V → List Jlm → Prop
 | [],[]=>True
 | x :: xs,B :: Bs=>TTAt H x B ∧ TTL H xs Bs
 | _,_=>False
theorem TTL.map {H H' : Hp} (f : ∀ x B,TTAt H x B → TTAt H' x B) : ∀ {xs : List V} {Bs : List Jlm},TTL H xs Bs → TTL H' xs Bs
 | [],[],_=>True.intro
 | _ :: _,_ :: _,⟨h,t⟩=>⟨f _ _ h,TTL.map f t⟩
theorem TTL.snoc {H : Hp} {x : V} {B : Jlm} (h : TTAt H x B) : ∀ {xs : List V} {Bs : List Jlm},TTL H xs Bs → TTL H (xs ++ [x]) (Bs ++ [B])
 | [],[],_=>⟨h,True.intro⟩
 | _ :: _,_ :: _,⟨a,t⟩=>⟨a,TTL.snoc h t⟩
theorem TTL.len {H : Hp} : ∀ {xs : List V} {Bs : List Jlm},TTL H xs Bs → xs.length = Bs.length
 | [],[],_=>rfl
 | _ :: _,_ :: _,⟨_,t⟩=>by rw [List.length_cons,List.length_cons,TTL.len t]
structure Jja where
 c : Int
 g : Int
 Bs : List Jkc
 Ts : List Jlm
structure Jko (R : Jja) : Prop where
 c : 0 ≤ R.c ∧ R.c ≤ 12
 g : 0 ≤ R.g ∧ R.g ≤ R.c
 n : 1 ≤ R.Bs.length ∧ R.Bs.length ≤ 16
 Bs : ∀ B ∈ R.Bs,Jq5 B ∧ Jm0 B.z = true ∧ Ltr 8 B.z
 nd : (R.Bs.map (·.z)).Nodup
 tn : R.Ts.length ≤ 3
 Ts : ∀ B ∈ R.Ts,Jm0 B.z = true ∧ Ltr 8 B.z ∧ B.b ∈ R.Bs.map (·.z) ∧ 1 ≤ B.wt ∧ B.wt ≤ 6
 td : (R.Ts.map (·.z)).Nodup
def RTAt (p : Addr) (H : Hp) (x : V) (R : Jja) : Prop:=∃ (t lb lt : Addr) (bs ts : List V),x = .ref t ∧ H t = some (.tup [.int R.c,.int R.g,.ref lb,.ref lt]) ∧ H lb = some (.lst bs) ∧ BTL p H bs R.Bs ∧ H lt = some (.lst ts) ∧ TTL H ts R.Ts ∧ lb ≠ p ∧ lt ≠ p
def Jwg : Sp:=fun vs H Q _=>∃ (c : Int),vs = [.int c] ∧ ∀ (x : V) (R : Jja) (p : Addr) (H' : Hp),H p = none → Same H H' → Strm H' p → RTAt p H' x R → Jko R → Q x H'
section
variable {P : Program} {w : World} {K : W.Frag} {mg : Str → Option Value} {base : Heap} {a : Ad}
theorem sc_law_river : Jic ["_law_cell_here","_law_stream_here","_law_many","_law_cloud","_law_gain","_law_names_here","_law_basins","_law_towns","_law_name"] ["_law_cell_here"] (Ji6 (top 64)):=⟨rfl,rfl,rfl,by decide +kernel,rfl,by decide +kernel,by decide +kernel⟩
theorem Jra (T : Tx K mg a) : FnOk P w K mg base CX0 4 a.Jgg a.Jgh ["_law_cell_here"] Jwg:=by
 have G__law_take:=Jjk (P:=P) (w:=w) (base:=base) T
 have G__law_names:=Jr8 (P:=P) (w:=w) (base:=base) T
 have G__law_basin:=Jr7 (P:=P) (w:=w) (base:=base) T
 have G__law_stream:=Jmu (P:=P) (w:=w) (base:=base) T
 refine T.Jp.fn.ok sc_law_river (fun vs H Q E h=>?_) (fun cdv A outer s H vs Q E hr h=>?_)
 ·obtain ⟨c,rfl,_⟩:=h
  rfl
 ·obtain ⟨c,rfl,k⟩:=h
  refine ⟨?t,?B,?C⟩
  case B =>
   refine' Ji4 ?s1 ?r1
   case s1 =>
    exact (Jig (i:=1) sc_law_river.nd rfl (Or.inr rfl) (Jia T.Jk G__law_stream hr (by decide) (Ji1 (pv 0) Ji2)))
   case r1 =>
    refine' Ji4 ?s3 ?r3
    case s3 =>
     exact (Jig (i:=2) sc_law_river.nd rfl (Or.inl rfl) (Jim Jiw (Jjn (pa8 Ji5 Ji5 Ji5 Ji5 Ji5 Ji5 (Jij Jj1 Ji5 (Jia T.Jl G__law_take hr (by decide) (Ji1 (pv 1) (Ji1 Ji5 Ji2)))) (Jij Jj1 Ji5 (Jia T.Jl G__law_take hr (by decide) (Ji1 (pv 1) (Ji1 Ji5 Ji2)))))) (Jia T.Jl G__law_take hr (by decide) (Ji1 (pv 1) (Ji1 Ji5 Ji2))) (fun _ _=>rfl)))
    case r3 =>
     refine' Ji4 ?s5 ?r5
     case s5 =>
      exact (Jig (i:=3) sc_law_river.nd rfl (Or.inl rfl) (Jia T.Jl G__law_take hr (by decide) (Ji1 (pv 1) (Ji1 Ji5 Ji2))))
     case r5 =>
      refine' Ji4 ?s7 ?r7
      case s7 =>
       exact (Jig (i:=4) sc_law_river.nd rfl (Or.inl rfl) (Jia T.Jl G__law_take hr (by decide) (Ji1 (pv 1) (Ji1 (Jij Jj1 (pv 3) Ji5) Ji2))))
      case r7 =>
       refine' Ji4 ?s9 ?r9
       case s9 =>
        exact (Jig (i:=5) sc_law_river.nd rfl (Or.inl rfl) (Jia T.Jm G__law_names hr (by decide) (Ji1 (pv 1) (Ji1 (pv 2) Ji2))))
       case r9 =>
        refine' Ji4 ?s11 ?r11
        case s11 =>
         exact (Ju1 (i:=6) (N:=(["_law_name","_law_stream_here"] : List Str)) (ini:=[none,some 1]) sc_law_river.nd rfl (Or.inl rfl) rfl (Jj8 (pv 5)) (fun _ _ _ _ _=>(Jie (i:=0) (by decide +kernel : (["_law_name","_law_stream_here"] : List Str).Nodup) rfl (Or.inl rfl))) (fun _ _ _ _ _=>Jit) (fun _ _ _ _ _=>(Jia T.Jo G__law_basin hr (by decide) (Ji1 (pv 1) (Ji1 (pv 0) Ji2)))))
        case r11 =>
         refine' Ji4 ?s13 ?r13
         case s13 =>
          exact (Jig (i:=7) sc_law_river.nd rfl (Or.inl rfl) (Jjn Ji2))
         case r13 =>
          refine' Ji4 ?s15 ?r15
          case s15 =>
           refine' Jkl ?f16_0 ?f16_1 ?f16_2 ?f16_3 ?f16_4
           case f16_0 =>
            exact PassesOwn.never
           case f16_1 =>
            exact rfl
           case f16_2 =>
            exact (Jj8 (Jpc Jrh (Jia T.Jm G__law_names hr (by decide) (Ji1 (pv 1) (Ji1 Ji5 Ji2))) Ju0 (Jol (Jia T.Jl G__law_take hr (by decide) (Ji1 (pv 1) (Ji1 Ji5 Ji2))))))
           case f16_3 =>
            exact (Jie (i:=8) sc_law_river.nd rfl (Or.inl rfl))
           case f16_4 =>
            refine' Ji7 ?s17
            case s17 =>
             exact (Jjv (Jo7 F.plainAttrs_list F.slot_list_append F.type_list_append Jk5 (pv 7) (Ji1 (Jk9 (Ji1 (pv 8) (Ji1 (Jim Jiw (pv 5) (Jia T.Jl G__law_take hr (by decide) (Ji1 (pv 1) (Ji1 (pv 2) Ji2))) (fun _ _=>rfl)) (Ji1 (Jij Jj1 Ji5 (Jia T.Jl G__law_take hr (by decide) (Ji1 (pv 1) (Ji1 Ji5 Ji2)))) Ji2)))) Ji2)))
          case r15 =>
           refine' Ji7 ?s19
           case s19 =>
            refine' Jif ?e21_0
            case e21_0 =>
             refine' Jk9 ?e22_0
             case e22_0 =>
              refine' pa4 ?e23_0 ?e23_1 ?e23_2 ?e23_3
              case e23_0 =>
               exact (pv 3)
              case e23_1 =>
               exact (pv 4)
              case e23_2 =>
               exact (pv 6)
              case e23_3 =>
               exact (pv 7)
  refine ⟨_,rfl,c,rfl,fun p H1 hp s1 st=>?_⟩
  refine ⟨_,rfl,p,12,rfl,st,by decide,by decide,fun r1 H2 r10 r11 b1=>⟨_,_,rfl,rfl,?_⟩⟩
  refine ⟨_,rfl,p,16,rfl,b1.2,by decide,by decide,fun r2 H3 r20 r21 b2=>⟨_,_,rfl,rfl,(show 8 ≤ sizeLine by decide),fun L hL=>?_⟩⟩
  have b12:=b1.trans b2
  have nL : L ≠ p:=b12.2.ne hL
  have b3:=But.of b12.2 (Same.upd (o:=.lst [V.int 1,V.int 2,V.int 3,V.int 4,V.int 2,V.int 3,V.int (5 + r1),V.int (1 + r2)]) hL)
  refine ⟨_,rfl,p,8,rfl,b3.2,by decide,by decide,fun r3 H4 r30 r31 b4=>?_⟩
  obtain ⟨n,hat,n1,n16⟩ : ∃ n : Nat,atI [V.int 1,V.int 2,V.int 3,V.int 4,V.int 2,V.int 3,V.int (5 + r1),V.int (1 + r2)] r3 = some (.int n) ∧ 1 ≤ n ∧ n ≤ 16:=by
   have cs : r3 = 0 ∨ r3 = 1 ∨ r3 = 2 ∨ r3 = 3 ∨ r3 = 4 ∨ r3 = 5 ∨ r3 = 6 ∨ r3 = 7:=by omega
   rcases cs with rfl | rfl | rfl | rfl | rfl | rfl | rfl | rfl
   ·exact ⟨1,rfl,by omega,by omega⟩
   ·exact ⟨2,rfl,by omega,by omega⟩
   ·exact ⟨3,rfl,by omega,by omega⟩
   ·exact ⟨4,rfl,by omega,by omega⟩
   ·exact ⟨2,rfl,by omega,by omega⟩
   ·exact ⟨3,rfl,by omega,by omega⟩
   ·refine ⟨(5 + r1).toNat,?_,by omega,by omega⟩
    rw [Int.toNat_of_nonneg (by omega)]
    rfl
   ·refine ⟨(1 + r2).toNat,?_,by omega,by omega⟩
    rw [Int.toNat_of_nonneg (by omega)]
    rfl
  refine ⟨L,_,r3,_,rfl,rfl,SqL.of (b4.1 _ _ nL Ji3),hat,?_⟩
  have b5:=(b12.trans b3).trans b4
  refine ⟨_,rfl,p,13,rfl,b5.2,by decide,by decide,fun cl H5 c0 c1 b6=>?_⟩
  refine ⟨_,rfl,_,rfl,_,_,rfl,rfl,p,cl + 1,rfl,b6.2,by omega,Jms (by omega),fun gn H6 g0 g1 b7=>?_⟩
  refine ⟨_,rfl,_,rfl,p,n,rfl,b7.2,by omega,fun l f zs H7 hl b8 hl7 len nms=>?_⟩
  have b57:=(b5.trans b6).trans (b7.trans b8)
  have nlp : l ≠ p:=b7.2.ne hl
  refine ⟨_,rfl,l,rfl,⟨_,SqL.of hl7⟩,fun D hD=>?_⟩
  have nD : D ≠ p:=b57.2.ne hD
  refine Jjq (K:=K) (a:=l) (xs:=zs.map V.str) (D:=D) (fun i σ H'=>∃ (o : Option V) (bs : List V) (Bs : List Jkc),σ = [o,some (.ref p)] ∧ H' D = some (.lst bs) ∧ BTL p H' bs Bs ∧ Bs.length = i ∧ (∀ B ∈ Bs,Jq5 B) ∧ Bs.map (·.z) = zs.take i ∧ But p H7 H') ?_ ?_ ?_ ?_
  ·exact ⟨_,[],[],rfl,Ji3,True.intro,rfl,fun B hB=>absurd hB (by simp),rfl,But.of b57.2 (Same.upd hD)⟩
  ·rintro i σ H' _ ⟨o,bs,Bs,rfl,_,_,_,_,_,b⟩
   exact SqL.of (b.1 _ _ nlp hl7)
  ·rintro i x σ H' hx ⟨o,bs,Bs,rfl,hDs,btl,hln,good,names,b⟩
   rw [List.getElem?_map] at hx
   cases ez : zs[i]? with
   | none=>rw [ez] at hx; cases hx
   | some z =>
    rw [ez] at hx
    cases hx
    have hi : i < zs.length:=(List.getElem?_eq_some_iff.mp ez).1
    refine Jjh ⟨_,rfl,_,rfl,p,z,rfl,b.2,fun x B H8 b9 bt bg bz=>?_⟩
    have btl8:=BTL.map (fun x B _ h=>h.but b.2 b9) good btl
    have hD8:=b9.1 _ _ nD hDs
    have blen:=btl.len
    refine ⟨bs,hD8,Jiu (by omega),_,bs ++ [x],Bs ++ [B],rfl,Ji3,?_,by rw [List.length_append]; show Bs.length + 1 = i + 1; omega,?_,?_,(b.trans b9).updD hD nD⟩
    ·exact BTL.snoc (bt.put bg hD8 btl.refs) (BTL.map (fun x B g h=>h.put g hD8 btl.refs) good btl8)
    ·intro B' hB'
     rcases List.mem_append.mp hB' with h | h
     ·exact good B' h
     ·rw [List.mem_singleton.mp h]
      exact bg
    ·rw [List.map_append,names,List.take_add_one,ez,List.map_singleton,bz]
     rfl
  rintro σ H8 ⟨o,bs,Bs,rfl,hDs,btl,hln,good,names,b9⟩
  rw [List.length_map] at hln names
  rw [List.take_length] at names
  have st8 : Strm H8 p:=b9.2
  have hl8:=b9.1 _ _ nlp hl7
  refine ⟨(show 0 ≤ sizeLine by decide),fun lt hlt=>?_⟩
  have nlt : lt ≠ p:=st8.ne hlt
  have sA:=Same.upd (o:=.lst []) hlt
  have bA:=But.of st8 sA
  refine ⟨_,rfl,p,3,rfl,bA.2,by omega,fun l2 f2 ys HB hl2 bB hB len2 nms2=>?_⟩
  have nl2 : l2 ≠ p:=bA.2.ne hl2
  refine ⟨_,rfl,p,4,rfl,bB.2,by decide,by decide,fun r4 HC r40 r41 bC=>⟨_,rfl,l2,_,rfl,SqL.of (bC.1 _ _ nl2 hB),fun q hq=>?_⟩⟩
  obtain ⟨us,eu,hus⟩:=Jrq ys none (some r4)
  rw [eu]
  have bD:=(bA.trans bB).trans bC
  have nq : q ≠ p:=bD.2.ne hq
  have hltC : HC lt = some (.lst []):=bC.1 _ _ nlt (bB.1 _ _ nlt Ji3)
  have nql : q ≠ lt:=fun e=>by rw [e,hltC] at hq; cases hq
  have sq:=Same.upd (o:=.lst (us.map V.str)) hq
  have ul : us.length ≤ 3:=by
   have:=hus.length_le
   omega
  refine ⟨q,rfl,⟨_,SqL.of Ji3⟩,?_⟩
  refine Jlw (xs:=us.map V.str) (fun i σ H'=>∃ (o : Option V) (ts : List V) (Ts : List Jlm),σ = [some (.int c),some (.ref p),some (.int n),some (.int cl),some (.int gn),some (.ref l),some (.ref D),some (.ref lt),o] ∧ H' lt = some (.lst ts) ∧ TTL H' ts Ts ∧ Ts.length = i ∧ Ts.map (·.z) = us.take i ∧ (∀ B ∈ Ts,B.b ∈ zs ∧ 1 ≤ B.wt ∧ B.wt ≤ 6) ∧ But p H8 H' ∧ H' q = some (.lst (us.map V.str))) ?_ ?_ ?_ ?_
  ·exact ⟨_,[],[],rfl,sq _ _ hltC,True.intro,rfl,rfl,fun B hB=>absurd hB (by simp),bD.same sq,Ji3⟩
  ·rintro i σ H' _ ⟨_,_,_,_,_,_,_,_,_,_,h⟩
   exact SqL.of h
  ·rintro i x σ H' hx ⟨o,ts,Ts,rfl,hts,ttl,tln,tnm,tgd,b,hq'⟩
   rw [List.getElem?_map] at hx
   cases ez : us[i]? with
   | none=>rw [ez] at hx; cases hx
   | some u =>
    rw [ez] at hx
    cases hx
    have hi : i < us.length:=(List.getElem?_eq_some_iff.mp ez).1
    have tlen:=ttl.len
    refine ⟨_,rfl,.inl ⟨rfl,_,SqL.of hts⟩,_,rfl,_,rfl,_,rfl,_,rfl,p,n,rfl,b.2,by omega,Jms (by omega),fun r5 HE e0 e1 bE=>?_⟩
    have hr5 : r5.toNat < zs.length:=by omega
    refine ⟨l,_,r5,.str zs[r5.toNat],rfl,rfl,SqL.of (bE.1 _ _ nlp (b.1 _ _ nlp hl8)),atI_of (j:=r5.toNat) (by omega) (by rw [List.getElem?_map,List.getElem?_eq_getElem hr5]; rfl),?_⟩
    refine ⟨_,rfl,p,6,rfl,bE.2,by decide,by decide,fun r6 HF f0 f1 bF=>⟨_,_,rfl,rfl,(show 3 ≤ sizeLine by decide),fun t ht=>?_⟩⟩
    have bG:=bE.trans bF
    have htsF:=bG.1 _ _ nlt hts
    have sT:=Same.upd (o:=.tup [.str u,.str zs[r5.toNat],.int (1 + r6)]) ht
    refine ⟨lt,_,_,rfl,rfl,sT _ _ htsF,Jiu (by omega),?_⟩
    refine ⟨_,ts ++ [.ref t],Ts ++ [⟨u,zs[r5.toNat],1 + r6⟩],rfl,Ji3,?_,by rw [List.length_append]; show Ts.length + 1 = i + 1; omega,?_,?_,((b.trans bG).same sT).updD hlt nlt,?_⟩
    ·refine TTL.snoc ?_ (TTL.map (fun x B h=>(((h.but b.2 bG).same sT).put (sT _ _ htsF))) ttl)
     exact TTAt.put (sT _ _ htsF) ⟨t,rfl,Ji3⟩
    ·rw [List.map_append,tnm,List.take_add_one,ez]
     rfl
    ·intro B hB
     rcases List.mem_append.mp hB with h | h
     ·exact tgd B h
     ·rw [List.mem_singleton.mp h]
      exact ⟨List.getElem_mem hr5,by dsimp only; omega,by dsimp only; omega⟩
    ·rw [Ji9 nql]
     exact sT _ _ (bG.1 _ _ nq hq')
  ·rintro σ HZ ⟨o,ts,Ts,rfl,hts,ttl,tln,tnm,tgd,b,_⟩
   rw [List.length_map] at tln tnm
   rw [List.take_length] at tnm
   refine ⟨_,rfl,_,rfl,_,rfl,_,rfl,(show 4 ≤ sizeLine by decide),fun t ht=>?_⟩
   have sT:=Same.upd (o:=.tup [.int cl,.int gn,.ref D,.ref lt]) ht
   have bZ:=((b57.trans b9).trans b).same sT
   refine k (.ref t) ⟨cl,gn,Bs,Ts⟩ p _ hp (fun x u e=>bZ.1 _ _ (Ji8 e hp) (s1 _ _ e)) bZ.2 ⟨t,D,lt,bs,ts,rfl,Ji3,sT _ _ (b.1 _ _ nD hDs),BTL.map (fun x B _ h=>(h.but st8 b).same sT) good btl,sT _ _ hts,TTL.map (fun x B h=>h.same sT) ttl,nD,nlt⟩ ?_
   have nameOf : ∀ (f : Int) (zs : List Str),Nms f zs → ∀ z ∈ zs,Jm0 z = true ∧ Ltr 8 z:=fun f zs h z hz=>by
    obtain ⟨k,hk,rfl⟩:=List.mem_iff_getElem.mp hz
    have:=(h k _ (List.getElem?_eq_getElem hk)).mem
    exact ⟨this.2,this.1⟩
   refine ⟨by dsimp only; omega,by dsimp only; omega,by dsimp only; omega,fun B hB=>⟨good B hB,nameOf f zs nms _ (by rw [← names]; exact List.mem_map_of_mem hB)⟩,by dsimp only; rw [names]; exact nms.nodup (by omega),by dsimp only; omega,fun B hB=>?_,?_⟩
   ·have hu : B.z ∈ us:=by rw [← tnm]; exact List.mem_map_of_mem hB
    have h1:=nameOf f2 ys nms2 _ (hus.subset hu)
    have h2:=tgd B hB
    exact ⟨h1.1,h1.2,by dsimp only; rw [names]; exact h2.1,h2.2⟩
   ·dsimp only
    rw [tnm]
    exact hus.nodup (nms2.nodup (by omega))
end
def nOf (G : Jl4) : Nat:=match G.sv with
 | some _=>1
 | none=>G.ns.length
def spMG (K : W.Frag) (a : Ad) : Sp:=fun vs H Q _=>∃ (p : Addr) (x : V) (G : Jl4),vs = [x] ∧ GTAt p H x G ∧ GGood G ∧ ∀ (g : V) (H' : Hp),Same H H' → GS K a H' g (nOf G) → Q g H'
theorem Jxu {t1 t2 : TS} {D : Ends} {σ : L2.St} {H : Hp} (Mid : L2.St → Hp → Prop) (h1 : ∀ R,(∀ σ H,Mid σ H → R σ H) → t1 { D with nx:=R } σ H) (h2 : ∀ σ H,Mid σ H → t2 D σ H) : tSeq t1 t2 D σ H:=h1 _ h2
section
variable {P : Program} {w : World} {K : W.Frag} {mg : Str → Option Value} {base : Heap} {a : Ad}
theorem Jnj {H : Hp} {ns : List Int} {y : V} (h : y ∈ ns.map V.int) : Tm K H y:=by
 obtain ⟨i,_,rfl⟩:=List.mem_map.mp h
 exact .inl ⟨i,rfl⟩
theorem Jp2 {C : Addr} {lo : Int} {x : V} {H : Hp} {Q1 : Hp → Prop} {E : XK} {g dx : Addr} (c : Cls K C) (n : NoAttr K C "marks") (hg : H g = none) (hd : H dx = none) (ne : dx ≠ g)
  (h : ∃ xs,Sq H x xs ∧ (∀ y ∈ xs,Tm K H y) ∧ Jlp lo xs = true ∧ ∀ H', Same H H' → GateAt C H' g xs → Q1 H') :
  Jrj K a lo [.ref g,x] (upd (upd H dx (.own g)) g (.ins C dx [])) (fun v H2=>v = .non ∧ Q1 H2) E:=by
 have s1 : Same H (upd (upd H dx (.own g)) g (.ins C dx [])):=fun b o e=>by rw [Ji9 (Ji8 e hg),Ji9 (Ji8 e hd)]; exact e
 refine ⟨g,C,dx,x,rfl,Ji3,c,n,?_⟩
 obtain ⟨xs,sq,tms,e,k⟩:=h
 refine .inl ⟨xs,sq.same s1,fun y hy=>(tms y hy).same s1,e,fun t H' s' ht=>⟨rfl,?_⟩⟩
 have ng : t ≠ g:=ne_of ht (s' _ _ Ji3) (by intro z; cases z)
 exact k _ (fun b o e=>by rw [Ji9 (Ji8 e hg)]; exact s' _ _ (s1 _ _ e)) ⟨dx,t,Ji3,by rw [Ji9 ng]; exact ht⟩
theorem sc_law_made_gate : Jic ["_law_told","_law_kind","_law_marks","_law_stuck","_law_gate_here"] ["_law_told"] (Ji6 (top 65)):=⟨rfl,rfl,rfl,by decide +kernel,rfl,by decide +kernel,by decide +kernel⟩
theorem Jnz (T : Tx K mg a) : FnOk P w K mg base CX0 6 a.Jgi a.Jgj ["_law_told"] (spMG K a):=by
 have G_StepGate___init__:=Jny (P:=P) (w:=w) (base:=base) T
 have G_FlapGate___init__:=Jnv (P:=P) (w:=w) (base:=base) T
 have G_PartGate___init__:=Jnx (P:=P) (w:=w) (base:=base) T
 have G_StuckGate___init__:=Jnc (P:=P) (w:=w) (base:=base) T
 refine T.Jq.fn.ok sc_law_made_gate (fun vs H Q E h=>?_) (fun cdv A outer s H vs Q E hr h=>?_)
 ·obtain ⟨p,x,G,rfl,_⟩:=h
  rfl
 ·obtain ⟨p,x,⟨kd,ns,sv⟩,rfl,⟨t,m,rfl,ht,hm,_⟩,gg,k⟩:=h
  refine ⟨?t,?B,?C⟩
  case B =>
   refine' Ji4 ?s1 ?r1
   case s1 =>
    exact (Jre (pv 0) (Jn3 rfl (Jio (Jie (i:=1) sc_law_made_gate.nd rfl (Or.inl rfl)) (Jio (Jie (i:=2) sc_law_made_gate.nd rfl (Or.inl rfl)) (Jio (Jie (i:=3) sc_law_made_gate.nd rfl (Or.inl rfl)) Jky)))))
   case r1 =>
    refine' Ji4 ?s4 ?r4
    case s4 =>
     refine' Jiy ?c5 ?a5 ?b5
     case c5 =>
      exact (Jji Jmv (pv 1) Jks (Jj7 _))
     case a5 =>
      refine' Ji7 ?s6
      case s6 =>
       exact (Jig (i:=4) sc_law_made_gate.nd rfl (Or.inl rfl) (Jli T.Jc9 G_StepGate___init__.calm (hr.mono (by decide)) (by rfl) T.Jb2 T.Jbh.bd .nil Jnd (Ji1 (Jin Jjl (by rfl) T.Jai Jk7 (Ji1 (pv 2) Ji2)) Ji2)))
     case b5 =>
      refine' Ji7 ?s8
      case s8 =>
       refine' Jiy ?c9 ?a9 ?b9
       case c9 =>
        exact (Jji Jmv (pv 1) Jks (Jj7 _))
       case a9 =>
        refine' Ji7 ?s10
        case s10 =>
         exact (Jig (i:=4) sc_law_made_gate.nd rfl (Or.inl rfl) (Jli T.Jce G_FlapGate___init__.calm (hr.mono (by decide)) (by rfl) T.Jb3 T.Jbj.bd .nil Jnd (Ji1 (Jin Jjl (by rfl) T.Jai Jk7 (Ji1 (pv 2) Ji2)) Ji2)))
       case b9 =>
        refine' Ji7 ?s12
        case s12 =>
         exact (Jig (i:=4) sc_law_made_gate.nd rfl (Or.inl rfl) (Jli T.Jcj G_PartGate___init__.calm (hr.mono (by decide)) (by rfl) T.Jb4 T.Jbl.bd .nil Jnd (Ji1 (Jin Jjl (by rfl) T.Jai Jk7 (Ji1 (pv 2) Ji2)) Ji2)))
    case r4 =>
     refine' Ji4 ?s14 ?r14
     case s14 =>
      refine' Jiy ?c15 ?a15 ?b15
      case c15 =>
       exact (Jji Jvu (pv 3) Jl2 (Jj7 _))
      case a15 =>
       refine' Ji7 ?s16
       case s16 =>
        exact (Jif (pv 4))
      case b15 =>
       exact Jik
     case r14 =>
      refine' Ji7 ?s20
      case s20 =>
       exact (Jif (Jli T.Jco G_StuckGate___init__.calm (hr.mono (by decide)) (by rfl) T.Jb5 T.Jbn.bd .nil Jnd (Ji1 (pv 4) (Ji1 (pv 3) Ji2))))
  have hkd : Knd kd:=gg.kd
  have har : Jlp (Jl7 kd) (ns.map V.int) = true:=gg.ns
  have hsv : ∀ i,sv = some i → 0 ≤ i ∧ i < (ns.length : Int):=gg.sv
  have hlen:=gg.len
  dsimp only at ht hm hlen
  refine ⟨_,rfl,t,_,rfl,SqT.of ht,rfl,_,_,rfl,_,_,rfl,_,_,rfl,rfl,?_⟩
  dsimp only
  refine Jxu (fun σ H1=>∃ g : Addr,σ = [some (.ref t),some (.str kd),some (.ref m),some (svV sv),some (.ref g)] ∧ Same H H1 ∧ GateAt (cOf a kd) H1 g (ns.map V.int)) (fun R hR=>?_) ?_
  ·rcases hkd with rfl | rfl | rfl
   ·have e1 : Jl7 "step" = 0:=if_neg ne_sp
    have e2 : cOf a "step" = a.Jhq:=if_pos rfl
    have hr' : Jlp (0) (ns.map V.int) = true:=by rw [← e1]; exact har
    refine ⟨_,rfl,rfl,_,rfl,iteD rfl ⟨_,rfl,m,_,rfl,.inl (SqL.of hm),fun l hl g dx hg hd ne=>Jp2 T.Jc7 T.Jcb hg hd ne ⟨ns.map V.int,.lst Ji3,fun y hy=>Jnj hy,hr', fun H' s' ga=>?_⟩⟩⟩
    exact hR _ _ ⟨g,rfl,(Same.upd hl).trans s', by rw [e2]; exact ga⟩
   ·have e1 : Jl7 "flap" = 0:=if_neg ne_fp
    have e2 : cOf a "flap" = a.Jhr:=by unfold cOf; rw [if_neg ne_fs,if_pos rfl]
    have hr' : Jlp (0) (ns.map V.int) = true:=by rw [← e1]; exact har
    refine ⟨_,rfl,rfl,_,rfl,iteN (strN ne_fs) ⟨_,rfl,rfl,_,rfl,iteD rfl ⟨_,rfl,m,_,rfl,.inl (SqL.of hm),fun l hl g dx hg hd ne=>Jp2 T.Jcc T.Jcg hg hd ne ⟨ns.map V.int,.lst Ji3,fun y hy=>Jnj hy,hr', fun H' s' ga=>?_⟩⟩⟩⟩
    exact hR _ _ ⟨g,rfl,(Same.upd hl).trans s', by rw [e2]; exact ga⟩
   ·have e1 : Jl7 "part" = 1:=if_pos rfl
    have e2 : cOf a "part" = a.Jhs:=by unfold cOf; rw [if_neg ne_ps,if_neg ne_pf]
    have hr' : Jlp (1) (ns.map V.int) = true:=by rw [← e1]; exact har
    refine ⟨_,rfl,rfl,_,rfl,iteN (strN ne_ps) ⟨_,rfl,rfl,_,rfl,iteN (strN ne_pf) ⟨_,rfl,m,_,rfl,.inl (SqL.of hm),fun l hl g dx hg hd ne=>Jp2 T.Jch T.Jcl hg hd ne ⟨ns.map V.int,.lst Ji3,fun y hy=>Jnj hy,hr', fun H' s' ga=>?_⟩⟩⟩⟩
    exact hR _ _ ⟨g,rfl,(Same.upd hl).trans s', by rw [e2]; exact ga⟩
  ·rintro σ H1 ⟨g,rfl,s1,ga⟩
   have gs : GS K a H1 (.ref g) ns.length:=by
    have q:=GS.plain (K:=K) cOf_is ga (by rw [List.length_map]; exact hlen.2)
    rw [List.length_map] at q
    exact q
   cases sv with
   | none=>exact ⟨_,rfl,rfl,_,rfl,iteD rfl ⟨_,rfl,k _ _ s1 gs⟩⟩
   | some j =>
    have hj:=hsv j rfl
    refine ⟨_,rfl,rfl,_,rfl,iteN (fun z=>by cases z) ⟨_,rfl,_,rfl,fun x dx hx hdx ne=>?_⟩⟩
    have sn : Same H1 (upd (upd H1 dx (.own x)) x (.ins a.Jht dx [])):=fun b o e=>by rw [Ji9 (Ji8 e hx),Ji9 (Ji8 e hdx)]; exact e
    refine ⟨x,dx,_,.int j,rfl,Ji3,.inr (.inr ⟨ns.length,gs.same sn,.inl ⟨j,rfl⟩,by simp [Jil]; omega,rfl,?_⟩)⟩
    refine k _ _ ?_ (.stuck Ji3)
    rw [Jka]
    exact s1.trans fun b o e=>by rw [Ji9 (Ji8 e hx),Ji9 (Ji8 e hdx)]; exact e
end
theorem GS.put {K : W.Frag} {a : Ad} {H : Hp} {x : V} {n : Nat} {D : Addr} {bs : List V} {o : HO} (hD : H D = some (.lst bs)) (h : GS K a H x n) : GS K a (upd H D o) x n:=by
 cases h with
 | plain i g l =>
  obtain ⟨dx,t,h1,h2⟩:=g
  exact .plain i ⟨dx,t,by rw [Ji9 (fun z=>by rw [z,hD] at h1; cases h1)]; exact h1,by rw [Ji9 (fun z=>by rw [z,hD] at h2; cases h2)]; exact h2⟩ l
 | stuck e=>exact .stuck (by rw [Ji9 (fun z=>by rw [z,hD] at e; cases e)]; exact e)
theorem BasAt.put {K : W.Frag} {a : Ad} {H : Hp} {b D : Addr} {B : Bsn} {bs : List V} {o : HO} (hD : H D = some (.lst bs)) (h : BasAt K a H b B) : BasAt K a (upd H D o) b B:=by
 obtain ⟨dx,h1,h2⟩:=h
 exact ⟨dx,by rw [Ji9 (fun z=>by rw [z,hD] at h1; cases h1)]; exact h1,h2.put hD⟩
theorem BasL.map {K : W.Frag} {a : Ad} {H H' : Hp} (f : ∀ x B,BasAt K a H x B → BasAt K a H' x B) : ∀ {xs : List Addr} {Bs : List Bsn},BasL K a H xs Bs → BasL K a H' xs Bs
 | [],[],_=>True.intro
 | _ :: _,_ :: _,⟨h,t⟩=>⟨f _ _ h,BasL.map f t⟩
theorem BasL.snoc {K : W.Frag} {a : Ad} {H : Hp} {x : Addr} {B : Bsn} (h : BasAt K a H x B) : ∀ {xs : List Addr} {Bs : List Bsn},BasL K a H xs Bs → BasL K a H (xs ++ [x]) (Bs ++ [B])
 | [],[],_=>⟨h,True.intro⟩
 | _ :: _,_ :: _,⟨a,t⟩=>⟨a,BasL.snoc h t⟩
theorem TwnAt.put {a : Ad} {H : Hp} {b D : Addr} {B : Twn} {bs : List V} {o : HO} (hD : H D = some (.lst bs)) (h : TwnAt a H b B) : TwnAt a (upd H D o) b B:=by
 obtain ⟨dx,h1⟩:=h
 exact ⟨dx,by rw [Ji9 (fun z=>by rw [z,hD] at h1; cases h1)]; exact h1⟩
theorem TwnL.map {a : Ad} {H H' : Hp} (f : ∀ x B,TwnAt a H x B → TwnAt a H' x B) : ∀ {xs : List Addr} {Bs : List Twn},TwnL a H xs Bs → TwnL a H' xs Bs
 | [],[],_=>True.intro
 | _ :: _,_ :: _,⟨h,t⟩=>⟨f _ _ h,TwnL.map f t⟩
theorem TwnL.snoc {a : Ad} {H : Hp} {x : Addr} {B : Twn} (h : TwnAt a H x B) : ∀ {xs : List Addr} {Bs : List Twn},TwnL a H xs Bs → TwnL a H (xs ++ [x]) (Bs ++ [B])
 | [],[],_=>⟨h,True.intro⟩
 | _ :: _,_ :: _,⟨a,t⟩=>⟨a,TwnL.snoc h t⟩
theorem BTL.get {p : Addr} {H : Hp} : ∀ {xs : List V} {Bs : List Jkc} {i : Nat} {x : V},BTL p H xs Bs → xs[i]? = some x → ∃ B,Bs[i]? = some B ∧ BTAt p H x B
 | _ :: _,B :: _,0,_,⟨h,_⟩,e=>by cases e; exact ⟨B,rfl,h⟩
 | _ :: _,_ :: _,i + 1,_,⟨_,t⟩,e=>BTL.get (i:=i) t (by simpa using e)
 | [],[],i,_,_,e=>by simp at e
theorem TTL.get {H : Hp} : ∀ {xs : List V} {Bs : List Jlm} {i : Nat} {x : V},TTL H xs Bs → xs[i]? = some x → ∃ B,Bs[i]? = some B ∧ TTAt H x B
 | _ :: _,B :: _,0,_,⟨h,_⟩,e=>by cases e; exact ⟨B,rfl,h⟩
 | _ :: _,_ :: _,i + 1,_,⟨_,t⟩,e=>TTL.get (i:=i) t (by simpa using e)
 | [],[],i,_,_,e=>by simp at e
def Jsn (B : Bsn) : Str × Int × Int × Int × Int × Nat:=(B.z,B.lo,B.hi,B.st,B.rn,B.n)
def Jtb (B : Jkc) : Str × Int × Int × Int × Int × Nat:=(B.z,B.lo,B.hi,B.st,B.rn,nOf B.G)
structure Jqr (R : Jja) (S : Riv) : Prop where
 c : S.c = R.c
 g : S.g = R.g
 Bs : S.Bs.map Jsn = R.Bs.map Jtb
 Ts : S.Ts.map (fun B=>(B.z,B.b,B.wt)) = R.Ts.map (fun B=>(B.z,B.b,B.wt))
def Jy0 (K : W.Frag) (a : Ad) : Sp:=fun vs H Q _=>∃ (p : Addr) (x : V) (R : Jja),vs = [x] ∧ RTAt p H x R ∧ Jko R ∧ ∀ (o : Addr) (S : Riv) (H' : Hp),Same H H' → RivAt K a H' o S → Jqr R S → Q (.ref o) H'
section
variable {P : Program} {w : World} {K : W.Frag} {mg : Str → Option Value} {base : Heap} {a : Ad}
theorem GS.gti {H : Hp} {x : V} {n : Nat} (T : Tx K mg a) (g : GS K a H x n) : GtI K a H x true:=by
 cases g with
 | plain i ga l =>
  obtain ⟨dx,t,h1,h2⟩:=ga
  rcases i with rfl | rfl | rfl
  ·exact ⟨_,.of (T.Jc8.ty T.Jc7 h1),T.Jdh,T.Jdr,_,T.Jdn,fun _=>rfl,by intro w'; cases w'⟩
  ·exact ⟨_,.of (T.Jcd.ty T.Jcc h1),T.Jdi,T.Jds,_,T.Jdo,fun _=>rfl,by intro w'; cases w'⟩
  ·exact ⟨_,.of (T.Jci.ty T.Jch h1),T.Jdj,T.Jdt,_,T.Jdp,fun _=>rfl,by intro w'; cases w'⟩
 | stuck h1=>exact ⟨_,.of (T.Jcn.ty T.Jcm h1),T.Jdk,T.Jdu,_,T.Jdq,fun _=>rfl,by intro w'; cases w'⟩
theorem Jsw {H : Hp} {z : Str} (h : Ltr 8 z) : Nmd K H (.str z):=⟨.inr ⟨_,.of (.str z),rfl⟩,fun y e=>by cases e; exact ⟨Nat.le_trans h.len (by omega),h.wd.low⟩⟩
theorem sc_law_made : Jic ["_law_told","_law_basins","_law_name","_law_low","_law_high","_law_start","_law_rain_here","_law_gate_here"] ["_law_told"] (Ji6 (top 66)):=⟨rfl,rfl,rfl,by decide +kernel,rfl,by decide +kernel,by decide +kernel⟩
theorem Js4 (T : Tx K mg a) : FnOk P w K mg base CX0 7 a.Jgk a.Jgl ["_law_told"] (Jy0 K a):=by
 have G__law_made_gate:=Jnz (P:=P) (w:=w) (base:=base) T
 have G_Basin___init__:=Jpp (P:=P) (w:=w) (base:=base) T
 have G_Town___init__:=Jr3 (P:=P) (w:=w) (base:=base) T
 have G_River___init__:=Jpq (P:=P) (w:=w) (base:=base) T
 refine T.Jr.fn.ok sc_law_made (fun vs H Q E h=>?_) (fun cdv A outer s H vs Q E hr h=>?_)
 ·obtain ⟨p,x,R,rfl,_⟩:=h
  rfl
 ·obtain ⟨p,x,R,rfl,⟨t,lb,lt,bs,ts,rfl,ht,hb,btl,htt,ttl,_,_⟩,rg,k⟩:=h
  refine ⟨?t,?B,?C⟩
  case B =>
   refine' Ji4 ?s1 ?r1
   case s1 =>
    exact (Jig (i:=1) sc_law_made.nd rfl (Or.inl rfl) (Jjn Ji2))
   case r1 =>
    refine' Ji4 ?s3 ?r3
    case s3 =>
     refine' Jkl ?f4_0 ?f4_1 ?f4_2 ?f4_3 ?f4_4
     case f4_0 =>
      exact PassesOwn.never
     case f4_1 =>
      exact rfl
     case f4_2 =>
      exact (Jj8 (Jim Jj5 (pv 0) Ji5 (fun _ _=>rfl)))
     case f4_3 =>
      exact (Jn3 rfl (Jio (Jie (i:=2) sc_law_made.nd rfl (Or.inl rfl)) (Jio (Jie (i:=3) sc_law_made.nd rfl (Or.inl rfl)) (Jio (Jie (i:=4) sc_law_made.nd rfl (Or.inl rfl)) (Jio (Jie (i:=5) sc_law_made.nd rfl (Or.inl rfl)) (Jio (Jie (i:=6) sc_law_made.nd rfl (Or.inl rfl)) (Jio (Jie (i:=7) sc_law_made.nd rfl (Or.inl rfl)) Jky)))))))
     case f4_4 =>
      refine' Ji7 ?s5
      case s5 =>
       exact (Jjv (Jo7 F.plainAttrs_list F.slot_list_append F.type_list_append Jk5 (pv 1) (Ji1 (Jli T.Jcu G_Basin___init__.calm (hr.mono (by decide)) (by rfl) T.Jb6 T.Jbp.bd .nil Jnd (pa6 (pv 2) (pv 3) (pv 4) (pv 5) (pv 6) (Jia T.Jq G__law_made_gate hr (by decide) (Ji1 (pv 7) Ji2)))) Ji2)))
    case r3 =>
     refine' Ji7 ?s7
     case s7 =>
      refine' Jif ?e9_0
      case e9_0 =>
       exact (Jli T.Jd8 G_River___init__.calm (hr.mono (by decide)) (by rfl) T.Jb8 T.Jbr.bd .nil Jnd (pa4 (Jim Jj5 (pv 0) Ji5 (fun _ _=>rfl)) (Jim Jj5 (pv 0) Ji5 (fun _ _=>rfl)) (pv 1) (Jiz (N:=(["_law_name","_law_basin_here","_law_want"] : List Str)) (ini:=[none,none,none]) rfl (Jj8 (Jim Jj5 (pv 0) Ji5 (fun _ _=>rfl))) (fun _ _ _ _ _=>(Jtz (K:=K) (n:=3) rfl rfl (Jio (Jie (i:=0) (by decide +kernel : (["_law_name","_law_basin_here","_law_want"] : List Str).Nodup) rfl (Or.inl rfl)) (Jio (Jie (i:=1) (by decide +kernel : (["_law_name","_law_basin_here","_law_want"] : List Str).Nodup) rfl (Or.inl rfl)) (Jio (Jie (i:=2) (by decide +kernel : (["_law_name","_law_basin_here","_law_want"] : List Str).Nodup) rfl (Or.inl rfl)) Jky))))) (fun _ _ _ _ _=>Jit) (fun _ _ _ _ _=>(Jli T.Jd3 G_Town___init__.calm (hr.mono (by decide)) (by rfl) T.Jb7 T.Jbq.bd .nil Jnd (Ji1 (pv 0) (Ji1 (pv 1) (Ji1 (pv 2) Ji2))))))))
  refine ⟨(show 0 ≤ sizeLine by decide),fun nb hnb=>?_⟩
  have s0:=Same.upd (o:=.lst []) hnb
  refine ⟨_,rfl,t,_,2,_,rfl,rfl,SqT.of (s0 _ _ ht),rfl,lb,rfl,⟨_,SqL.of (s0 _ _ hb)⟩,?_⟩
  have blen:=btl.len
  refine Jlw (xs:=bs) (fun i σ H'=>∃ (o1 o2 o3 o4 o5 o6 : Option V) (os : List Addr) (Bs : List Bsn),σ = [some (.ref t),some (.ref nb),o1,o2,o3,o4,o5,o6] ∧ H' nb = some (.lst (os.map V.ref)) ∧ BasL K a H' os Bs ∧ Bs.length = i ∧ Bs.map Jsn = (R.Bs.take i).map Jtb ∧ Same H H') ?_ ?_ ?_ ?_
  ·exact ⟨_,_,_,_,_,_,[],[],rfl,Ji3,True.intro,rfl,rfl,s0⟩
  ·rintro i σ H' _ ⟨_,_,_,_,_,_,_,_,_,_,_,_,_,sm⟩
   exact SqL.of (sm _ _ hb)
  ·rintro i x σ H' hx ⟨o1,o2,o3,o4,o5,o6,os,Bs,rfl,hnbs,bl,bln,bkey,sm⟩
   obtain ⟨B,eB,⟨tb,g,rfl,htb,gt⟩⟩:=btl.get hx
   have hB : B ∈ R.Bs:=List.mem_of_getElem? eB
   obtain ⟨bg,bnm,blt⟩:=rg.Bs B hB
   have olen:=bl.len
   have hi : i < R.Bs.length:=(List.getElem?_eq_some_iff.mp eB).1
   have hn:=rg.n
   refine ⟨tb,_,rfl,SqT.of (sm _ _ htb),rfl,_,_,rfl,_,_,rfl,_,_,rfl,_,_,rfl,_,_,rfl,_,_,rfl,rfl,?_⟩
   refine ⟨_,rfl,.inl ⟨rfl,_,SqL.of hnbs⟩,_,rfl,_,rfl,_,rfl,_,rfl,_,rfl,_,rfl,p,g,B.G,rfl,gt.same sm,bg.G,fun gv H1 s1 gs=>?_⟩
   intro x dx hx1 hd1 ne
   have sn : Same H1 (upd (upd H1 dx (.own x)) x (.ins a.Jhu dx [])):=fun b o e=>by rw [Ji9 (Ji8 e hx1),Ji9 (Ji8 e hd1)]; exact e
   refine ⟨x,dx,.str B.z,.int B.lo,.int B.hi,.int B.st,.int B.rn,gv,true,none,rfl,Ji3,Jsw blt,.inl ⟨_,rfl⟩,.inl ⟨_,rfl⟩,.inl ⟨_,rfl⟩,.inl ⟨_,rfl⟩,(gs.gti T).same sn,.good B.lo B.hi bnm rfl rfl (Jku bg.lo.1 bg.lo.2) (Jku bg.hi.1 bg.hi.2) (Jku bg.st.1 bg.st.2) (Jku bg.rn.1 bg.rn.2) rfl,fun H2 s2=>⟨rfl,?_⟩⟩
   have s3 : Same H1 (upd H2 x (.ins a.Jhu dx (basF (.str B.z) (.int B.lo) (.int B.hi) (.int B.st) (.int B.rn) gv))):=fun b o e=>by rw [Ji9 (Ji8 e hx1)]; exact s2 _ _ (sn _ _ e)
   have s13:=s1.trans s3
   have hnb3:=s13 _ _ hnbs
   refine ⟨nb,_,_,rfl,rfl,hnb3,by rw [List.length_map]; exact Jiu (by omega),?_⟩
   refine ⟨_,_,_,_,_,_,os ++ [x],Bs ++ [⟨B.z,B.lo,B.hi,B.st,B.rn,gv,nOf B.G⟩],rfl,by rw [Ji3,List.map_append]; rfl,?_,by rw [List.length_append]; show Bs.length + 1 = i + 1; omega,?_,?_⟩
   ·exact BasL.snoc (BasAt.put hnb3 ⟨dx,Ji3,gs.same s3⟩) (BasL.map (fun x B h=>(h.same s13).put hnb3) bl)
   ·rw [List.map_append,bkey,List.take_add_one,eB,List.map_append]
    rfl
   ·intro b o e
    rw [Ji9 (Ji8 e hnb)]
    exact s13 _ _ (sm _ _ e)
  ·rintro σ H1 ⟨o1,o2,o3,o4,o5,o6,os,Bs,rfl,hnbs,bl,bln,bkey,sm⟩
   rw [List.take_of_length_le (by omega)] at bkey
   refine ⟨_,rfl,t,_,0,_,rfl,rfl,SqT.of (sm _ _ ht),rfl,?_⟩
   refine ⟨_,rfl,t,_,1,_,rfl,rfl,SqT.of (sm _ _ ht),rfl,?_⟩
   refine ⟨_,rfl,_,rfl,t,_,3,_,rfl,rfl,SqT.of (sm _ _ ht),rfl,lt,rfl,⟨_,SqL.of (sm _ _ htt)⟩,fun D hD=>?_⟩
   have tlen:=ttl.len
   refine Jjq (K:=K) (a:=lt) (xs:=ts) (D:=D) (fun i σ H'=>∃ (o1 o2 o3 : Option V) (ws : List Addr) (Ws : List Twn),σ = [o1,o2,o3] ∧ H' D = some (.lst (ws.map V.ref)) ∧ TwnL a H' ws Ws ∧ Ws.length = i ∧ Ws.map (fun B=>(B.z,B.b,B.wt)) = (R.Ts.take i).map (fun B=>(B.z,B.b,B.wt)) ∧ Same H1 H') ?_ ?_ ?_ ?_
   ·exact ⟨_,_,_,[],[],rfl,Ji3,True.intro,rfl,rfl,Same.upd hD⟩
   ·rintro i σ H' _ ⟨_,_,_,_,_,_,_,_,_,_,s1⟩
    exact SqL.of (s1 _ _ (sm _ _ htt))
   ·rintro i x σ H' hx ⟨p1,p2,p3,ws,Ws,rfl,hDs,wl,wln,wkey,s1⟩
    obtain ⟨B,eB,⟨tb,rfl,htb⟩⟩:=ttl.get hx
    obtain ⟨bnm,blt,bin,bw⟩:=rg.Ts B (List.mem_of_getElem? eB)
    have hi : i < R.Ts.length:=(List.getElem?_eq_some_iff.mp eB).1
    have h3:=rg.tn
    have wlen:=wl.len
    obtain ⟨Bb,hBb,ebb⟩:=List.mem_map.mp bin
    have blb : Ltr 8 B.b:=by rw [← ebb]; exact (rg.Bs Bb hBb).2.2
    have bnb : Jm0 B.b = true:=by rw [← ebb]; exact (rg.Bs Bb hBb).2.1
    refine turn3 (SqT.of (s1 _ _ (sm _ _ htb))) ⟨_,rfl,_,rfl,_,rfl,fun x dx hx1 hd1 ne=>?_⟩
    have sn : Same H' (upd (upd H' dx (.own x)) x (.ins a.Jhv dx [])):=fun b o e=>by rw [Ji9 (Ji8 e hx1),Ji9 (Ji8 e hd1)]; exact e
    refine ⟨x,dx,.str B.z,.str B.b,.int B.wt,none,rfl,Ji3,Jsw blt,Jsw blb,.inl ⟨_,rfl⟩,.good bnm bnb (Jku bw.1 bw.2),fun H2 s2=>⟨rfl,?_⟩⟩
    have s3 : Same H' (upd H2 x (.ins a.Jhv dx (twnF (.str B.z) (.str B.b) (.int B.wt)))):=fun b o e=>by rw [Ji9 (Ji8 e hx1)]; exact s2 _ _ (sn _ _ e)
    have hD3:=s3 _ _ hDs
    refine ⟨_,hD3,by rw [List.length_map]; exact Jiu (by omega),_,_,_,ws ++ [x],Ws ++ [⟨B.z,B.b,B.wt⟩],rfl,by rw [Ji3,List.map_append]; rfl,?_,by rw [List.length_append]; show Ws.length + 1 = i + 1; omega,?_,?_⟩
    ·exact TwnL.snoc (TwnAt.put hD3 ⟨dx,Ji3⟩) (TwnL.map (fun x B h=>(h.same s3).put hD3) wl)
    ·rw [List.map_append,wkey,List.take_add_one,eB,List.map_append]
     rfl
    ·intro b o e
     rw [Ji9 (Ji8 e hD)]
     exact s3 _ _ (s1 _ _ e)
   ·rintro σ H2 ⟨p1,p2,p3,ws,Ws,rfl,hDs,wl,wln,wkey,s1⟩
    rw [List.take_of_length_le (by omega)] at wkey
    intro x dx hx1 hd1 ne
    have sn : Same H2 (upd (upd H2 dx (.own x)) x (.ins a.Jhw dx [])):=fun b o e=>by rw [Ji9 (Ji8 e hx1),Ji9 (Ji8 e hd1)]; exact e
    have hz : Bs.map (·.z) = R.Bs.map (·.z):=by
     have:=congrArg (List.map (·.1)) bkey
     simpa [List.map_map,Jsn,Jtb,Function.comp_def] using this
    have hr : Bs.map (·.rn) = R.Bs.map (·.rn):=by
     have:=congrArg (List.map (·.2.2.2.2.1)) bkey
     simpa [List.map_map,Jsn,Jtb,Function.comp_def] using this
    have hw : Ws.map (·.z) = R.Ts.map (·.z):=by
     have:=congrArg (List.map (·.1)) wkey
     simpa [List.map_map,Function.comp_def] using this
    have hwb : Ws.map (·.b) = R.Ts.map (·.b):=by
     have:=congrArg (List.map (·.2.1)) wkey
     simpa [List.map_map,Function.comp_def] using this
    have n1:=rg.n
    have n2:=rg.tn
    refine ⟨x,dx,nb,D,R.c,R.g,os,ws,Bs,Ws,rfl,Ji3,rg.c,rg.g,sn _ _ (s1 _ _ hnbs),(bl.same s1).same sn,by omega,by rw [hz]; exact rg.nd,sn _ _ hDs,wl.same sn,by omega,by rw [hw]; exact rg.td,fun B hB=>?_,fun H3 b t s3 hb3 ht3 nb3 nt3=>⟨rfl,?_⟩⟩
    ·have : B.b ∈ R.Ts.map (·.b):=by rw [← hwb]; exact List.mem_map_of_mem hB
     obtain ⟨C,hC,e⟩:=List.mem_map.mp this
     rw [hz,← e]
     exact (rg.Ts C hC).2.2.1
    ·have s4 : Same H2 (upd H3 x (.ins a.Jhw dx (rivF (.int R.c) (.int R.g) (.ref b) (.ref t)))):=fun b o e=>by rw [Ji9 (Ji8 e hx1)]; exact s3 _ _ (sn _ _ e)
     refine k x ⟨R.c,R.g,Bs,Ws⟩ _ ((sm.trans s1).trans s4) ⟨dx,b,t,os,ws,Ji3,by rw [Ji9 nb3]; exact hb3,(bl.same s1).same s4,by rw [Ji9 nt3]; exact ht3,wl.same s4,by dsimp only; omega,by dsimp only; omega,fun B hB=>?_⟩ ⟨rfl,rfl,bkey,wkey⟩
     have : B.rn ∈ R.Bs.map (·.rn):=by rw [← hr]; exact List.mem_map_of_mem hB
     obtain ⟨C,hC,e⟩:=List.mem_map.mp this
     rw [← e]
     exact (rg.Bs C hC).1.rn
end
theorem Jmz {K : W.Frag} {p a D : Addr} {xs : List V} {te : TE} {R : Hp → Prop} {H : Hp} {o : Option V} {rest : List (Option V)} (Pr : Nat → V → Prop) (st : Strm H p) (hD : H D = none) (sz : xs.length ≤ 2000) (hq : H a = some (.lst xs)) (na : a ≠ p)
  (he : ∀ (i : Nat) (x : V) (H' : Hp) (Q : VK),xs[i]? = some x → But p H H' → (∀ y H5,But p H' H5 → Pr i y → Q y H5) → te (some x :: rest) H' Q) (hd : ∀ ys H', But p H H' → H' D = some (.lst ys) → ys.length = xs.length → (∀ i y,ys[i]? = some y → Pr i y) → R H') :
  ∃ W : Nat → Nat → L2.St → Hp → Prop,(∃ m,W 0 m (o :: rest) (upd H D (.lst []))) ∧ ∀ i m σ' H', W i m σ' H' → ((Itl K a).stop i H' ∧ R H') ∨ ((Itl K a).go i H' ∧ ∃ N : L2.St → Hp → Prop,(∀ σ2 H2,N σ2 H2 → ∃ m', m' < m ∧ W (i + 1) m' σ2 H2) ∧
   ∀ x H2,(Itl K a).yld i H' x H2 → Jmq 0 x σ' H2 fun σ3 H3=>Jv4 σ3 H3 fun b H4=>if b = true then te σ3 H4 (fun v H5=>∃ ys,H5 D = some (.lst ys) ∧ ys.length < sizeLine ∧ N σ3 (upd H5 D (.lst (ys ++ [v])))) else N σ3 H4):=by
 have nD : D ≠ p:=st.ne hD
 refine Jjq (fun i σ H'=>(∃ o,σ = o :: rest) ∧ (∃ ys,H' D = some (.lst ys) ∧ ys.length = i ∧ ∀ j y,ys[j]? = some y → Pr j y) ∧ But p H H') ⟨⟨_,rfl⟩,⟨[],Ji3,rfl,fun j y e=>by simp at e⟩,But.of st (Same.upd hD)⟩ (fun i σ H' _ ⟨_,_,b⟩=>SqL.of (b.1 _ _ na hq)) ?_ ?_
 ·rintro i x σ H' hx ⟨⟨o,rfl⟩,⟨ys,hDs,hl,hy⟩,b⟩
  have hi : i < xs.length:=(List.getElem?_eq_some_iff.mp hx).1
  refine Jjh (he i x H' _ hx b fun y H5 b5 py=>⟨ys,b5.1 _ _ nD hDs,Jiu (by omega),⟨_,rfl⟩,⟨ys ++ [y],Ji3,by rw [List.length_append]; show ys.length + 1 = i + 1; omega,fun j z ej=>?_⟩,(b.trans b5).updD hD nD⟩)
  rw [List.getElem?_append] at ej
  split at ej
  ·exact hy j z ej
  ·have hj : j = i:=by
    have:=(List.getElem?_eq_some_iff.mp ej).1
    simp at this
    omega
   subst hj
   rw [hl,Nat.sub_self] at ej
   cases ej
   exact py
 ·rintro σ H' ⟨_,⟨ys,hDs,hl,hy⟩,b⟩
  exact hd ys H' b hDs hl hy
theorem RTAt.but {p : Addr} {H H' : Hp} {x : V} {R : Jja} (rg : Jko R) (st : Strm H p) (b : But p H H') (h : RTAt p H x R) : RTAt p H' x R :=
 let ⟨t,lb,lt,bs,ts,e,h1,h2,h3,h4,h5,n1,n2⟩:=h
 ⟨t,lb,lt,bs,ts,e,b.1 _ _ (Jk2 st h1 (fun _ _ _ z=>by cases z)) h1,b.1 _ _ n1 h2,BTL.map (fun _ _ _ h=>h.but st b) (fun B hB=>(rg.Bs B hB).1) h3,b.1 _ _ n2 h4,TTL.map (fun _ _ h=>h.but st b) h5,n1,n2⟩
theorem RTAt.same {p : Addr} {H H' : Hp} {x : V} {R : Jja} (rg : Jko R) (s : Same H H') (h : RTAt p H x R) : RTAt p H' x R :=
 let ⟨t,lb,lt,bs,ts,e,h1,h2,h3,h4,h5,n1,n2⟩:=h
 ⟨t,lb,lt,bs,ts,e,s _ _ h1,s _ _ h2,BTL.map (fun _ _ _ h=>h.same s) (fun B hB=>(rg.Bs B hB).1) h3,s _ _ h4,TTL.map (fun _ _ h=>h.same s) h5,n1,n2⟩
theorem Jr2 {Pr : Nat → Int → Prop} : ∀ {ys : List V},(∀ i y,ys[i]? = some y → ∃ n : Int,y = .int n ∧ Pr i n) → ∃ ns : List Int,ys = ns.map V.int ∧ ∀ i n,ns[i]? = some n → Pr i n:=by
 intro ys h
 refine ⟨ys.map Jts,?_,fun i n e=>?_⟩
 ·rw [List.map_map]
  refine List.ext_getElem? fun i=>?_
  rw [List.getElem?_map]
  cases e : ys[i]? with
  | none=>rfl
  | some y =>
   obtain ⟨n,rfl,_⟩:=h i y e
   rfl
 ·rw [List.getElem?_map] at e
  cases ey : ys[i]? with
  | none=>rw [ey] at e; cases e
  | some y =>
   rw [ey] at e
   obtain ⟨m,rfl,pm⟩:=h i y ey
   cases e
   exact pm
def spLSet : Sp:=fun vs H Q _=>∃ (p : Addr) (x : V) (G : Jl4),vs = [x] ∧ GTAt p H x G ∧ ∀ H', Same H H' → Q (.int (nOf G : Nat)) H'
def StdAt (H : Hp) (x : V) (R : Jja) (ls : List Int) (wt : Int) : Prop:=(∃ y u : Addr,x = .ref y ∧ H y = some (.tup [.ref u,.int wt]) ∧ H u = some (.tup (ls.map V.int))) ∧ ls.length = R.Bs.length ∧ (∀ (i : Nat) (n : Int),ls[i]? = some n → ∃ B,R.Bs[i]? = some B ∧ B.lo ≤ n ∧ n ≤ B.hi) ∧ 0 ≤ wt ∧ wt ≤ R.c
def Jwh : Sp:=fun vs H Q _=>∃ (p : Addr) (x : V) (R : Jja),vs = [.ref p,x] ∧ Strm H p ∧ RTAt p H x R ∧ Jko R ∧ ∀ (y : V) (ls : List Int) (wt : Int) (H' : Hp),But p H H' → StdAt H' y R ls wt → Q y H'
section
variable {P : Program} {w : World} {K : W.Frag} {mg : Str → Option Value} {base : Heap} {a : Ad}
theorem Jog : Jic ["_law_gate_here"] ["_law_gate_here"] (Ji6 (top 67)):=⟨rfl,rfl,rfl,by decide +kernel,rfl,by decide +kernel,by decide +kernel⟩
theorem Jod (T : Tx K mg a) : FnOk P w K mg base CX0 1 a.Jgm a.Jgn ["_law_gate_here"] spLSet:=by
 refine T.Js.fn.ok Jog (fun vs H Q E h=>?_) (fun cdv A outer s H vs Q E hr h=>?_)
 ·obtain ⟨p,x,G,rfl,_⟩:=h
  rfl
 ·obtain ⟨p,x,⟨kd,ns,sv⟩,rfl,⟨t,m,rfl,ht,hm,_⟩,k⟩:=h
  refine ⟨?t,?B,?C⟩
  case B =>
   refine' Ji7 ?s1
   case s1 =>
    exact (Jif (Jim Jiw (Jjn (Ji1 (Jib Jih (by rfl) T.Jah Jjb (Ji1 (Jim Jj5 (pv 0) Ji5 (fun _ _=>rfl)) Ji2)) (Ji1 Ji5 Ji2))) (Jin Jmj (by rfl) T.Jaf Jot (Ji1 (Jki Jtx (Jim Jj5 (pv 0) Ji5 (fun _ _=>rfl)) Jl2 (Jj7 _)) Ji2)) (fun _ _=>rfl)))
  dsimp only at ht hm
  refine ⟨_,rfl,t,_,1,_,rfl,rfl,SqT.of ht,rfl,m,_,rfl,.inl (SqL.of hm),(show 2 ≤ sizeLine by decide),fun D hD=>?_⟩
  have s1:=Same.upd (o:=.lst [.int ((ns.map V.int).length : Nat),.int 1]) hD
  refine ⟨_,rfl,t,_,2,_,rfl,rfl,SqT.of (s1 _ _ ht),rfl,rfl,.inr ⟨_,rfl,?_⟩⟩
  cases sv with
  | none =>
   refine ⟨D,_,0,_,rfl,rfl,SqL.of Ji3,rfl,?_⟩
   have:=k _ s1
   rw [show nOf ⟨kd,ns,none⟩ = (ns.map V.int).length by rw [List.length_map]; rfl] at this
   exact this
  | some j=>exact ⟨D,_,1,_,rfl,rfl,SqL.of Ji3,rfl,k _ s1⟩
theorem sc_law_standing : Jic ["_law_stream_here","_law_told","_law_levels"] ["_law_stream_here","_law_told"] (Ji6 (top 68)):=⟨rfl,rfl,rfl,by decide +kernel,rfl,by decide +kernel,by decide +kernel⟩
theorem Jln (T : Tx K mg a) : FnOk P w K mg base CX0 2 a.Jgo a.Jgp ["_law_stream_here","_law_told"] Jwh:=by
 have G__law_take:=Jjk (P:=P) (w:=w) (base:=base) T
 refine T.Jt.fn.ok sc_law_standing (fun vs H Q E h=>?_) (fun cdv A outer s H vs Q E hr h=>?_)
 ·obtain ⟨p,x,R,rfl,_⟩:=h
  rfl
 ·obtain ⟨p,x,R,rfl,st,rt,rg,k⟩:=h
  refine ⟨?t,?B,?C⟩
  case B =>
   refine' Ji4 ?s1 ?r1
   case s1 =>
    exact (Jig (i:=2) sc_law_standing.nd rfl (Or.inl rfl) (Jin Jis (by rfl) T.Jap Jj6 (Ji1 (Jiz (N:=(["_law_one","_law_stream_here"] : List Str)) (ini:=[none,some 0]) rfl (Jj8 (Jim Jj5 (pv 1) Ji5 (fun _ _=>rfl))) (fun _ _ _ _ _=>(Jie (i:=0) (by decide +kernel : (["_law_one","_law_stream_here"] : List Str).Nodup) rfl (Or.inl rfl))) (fun _ _ _ _ _=>Jit) (fun _ _ _ _ _=>(Jij Jj1 (Jim (Jna (K:=K) rfl) (pv 0) Ji5 (fun _ _=>rfl)) (Jia T.Jl G__law_take hr (by decide) (Ji1 (pv 1) (Ji1 (Jij Jj1 (Jij Jjt (Jim (Jna (K:=K) rfl) (pv 0) Ji5 (fun _ _=>rfl)) (Jim (Jna (K:=K) rfl) (pv 0) Ji5 (fun _ _=>rfl))) Ji5) Ji2)))))) Ji2)))
   case r1 =>
    refine' Ji7 ?s3
    case s3 =>
     exact (Jif (Jk9 (Ji1 (pv 2) (Ji1 (Jia T.Jl G__law_take hr (by decide) (Ji1 (pv 0) (Ji1 (Jij Jj1 (Jim Jj5 (pv 1) Ji5 (fun _ _=>rfl)) Ji5) Ji2))) Ji2))))
  obtain ⟨t,lb,lt,bs,ts,rfl,ht,hb,btl,htt,ttl,nb,nt⟩:=rt
  refine ⟨_,rfl,t,_,2,_,rfl,rfl,SqT.of ht,rfl,lb,rfl,⟨_,SqL.of hb⟩,fun D hD=>?_⟩
  have blen:=btl.len
  have hn:=rg.n
  refine Jmz (p:=p) (fun i y=>∃ n : Int,y = .int n ∧ ∃ B,R.Bs[i]? = some B ∧ B.lo ≤ n ∧ n ≤ B.hi) st hD (by omega) hb nb ?_ ?_
  ·intro i x H' Q' hx b k'
   obtain ⟨B,eB,tb,g,rfl,htb,gt⟩:=btl.get hx
   have bg:=(rg.Bs B (List.mem_of_getElem? eB)).1
   have htb':=b.1 _ _ (Jk2 st htb (fun _ _ _ z=>by cases z)) htb
   have q1:=bg.lo
   have q2:=bg.hi
   refine ⟨_,rfl,tb,_,1,_,rfl,rfl,SqT.of htb', rfl,_,rfl,_,rfl,tb,_,2,_,rfl,rfl,SqT.of htb', rfl,_,rfl,tb,_,1,_,rfl,rfl,SqT.of htb', rfl,_,_,rfl,rfl,_,_,rfl,rfl,p,_,rfl,b.2,by omega,Jms (by omega),fun r H5 r0 r1 b5=>⟨_,_,rfl,rfl,k' _ _ b5 ⟨_,rfl,B,eB,by omega,by omega⟩⟩⟩
  ·intro ys H1 b1 hD1 hl1 hy
   obtain ⟨ns,rfl,hns⟩:=Jr2 hy
   rw [List.length_map] at hl1
   have nD : D ≠ p:=st.ne hD
   refine ⟨D,_,rfl,.inl ⟨SqL.of hD1,fun u hu=>?_⟩⟩
   have su:=Same.upd (o:=.tup (ns.map V.int)) hu
   have b2:=b1.same su
   have ht2:=b2.1 _ _ (Jk2 st ht (fun _ _ _ z=>by cases z)) ht
   have hc:=rg.c
   refine ⟨_,rfl,_,rfl,_,rfl,t,_,0,_,rfl,rfl,SqT.of ht2,rfl,_,_,rfl,rfl,p,_,rfl,b2.2,by omega,Jms (by omega),fun r H5 r0 r1 b5=>⟨(show 2 ≤ sizeLine by decide),fun y hy=>?_⟩⟩
   have sy:=Same.upd (o:=.tup [.ref u,.int r]) hy
   have hu5 : H5 u = some (.tup (ns.map V.int)):=b5.1 _ _ (Jk2 b2.2 Ji3 (fun _ _ _ z=>by cases z)) Ji3
   exact k (.ref y) ns r _ ((b2.trans b5).same sy) ⟨⟨y,u,rfl,Ji3,sy _ _ hu5⟩,by omega,hns,r0,by omega⟩
end
def TwnV (R : Jja) (v : V) : Prop:=v = .non ∨ ∃ j : Int,v = .int j ∧ 0 ≤ j ∧ j < R.Ts.length
def ChcAt (H : Hp) (x : V) (R : Jja) (ns : List Int) (tv : V) : Prop:=(∃ y u : Addr,x = .ref y ∧ H y = some (.tup [.ref u,tv]) ∧ H u = some (.tup (ns.map V.int))) ∧ ns.length = R.Bs.length ∧ (∀ (i : Nat) (n : Int),ns[i]? = some n → 0 ≤ n ∧ n ≤ 4) ∧ TwnV R tv
def Juy : Sp:=fun vs H Q _=>∃ (p : Addr) (x : V) (R : Jja),vs = [.ref p,x] ∧ Strm H p ∧ RTAt p H x R ∧ Jko R ∧ ∀ (y : V) (ns : List Int) (tv : V) (H' : Hp),But p H H' → ChcAt H' y R ns tv → Q y H'
theorem nOf_in {G : Jl4} (h : GGood G) : 1 ≤ nOf G ∧ nOf G ≤ 4:=by
 have:=h.len
 unfold nOf
 split <;> omega
def Jkw (R : Jja) (wet : Int) : Int :=
 if (if wet + R.g - R.c > 0 then wet + R.g - R.c else 0) < (R.Bs.map (·.rn)).sum then (if wet + R.g - R.c > 0 then wet + R.g - R.c else 0) else (R.Bs.map (·.rn)).sum
def Juz : Sp:=fun vs H Q _=>∃ (p : Addr) (x : V) (R : Jja) (wet : Int),vs = [x,.int wet] ∧ RTAt p H x R ∧ Jko R ∧ ∀ H', Same H H' → Q (.int (Jkw R wet)) H'
section
variable {P : Program} {w : World} {K : W.Frag} {mg : Str → Option Value} {base : Heap} {a : Ad}
theorem sc_law_choice : Jic ["_law_stream_here","_law_told","_law_settings_here","_law_town"] ["_law_stream_here","_law_told"] (Ji6 (top 69)):=⟨rfl,rfl,rfl,by decide +kernel,rfl,by decide +kernel,by decide +kernel⟩
theorem Jpt (T : Tx K mg a) : FnOk P w K mg base CX0 2 a.Jgq a.Jgr ["_law_stream_here","_law_told"] Juy:=by
 have G__law_take:=Jjk (P:=P) (w:=w) (base:=base) T
 have G__law_settings:=Jod (P:=P) (w:=w) (base:=base) T
 refine T.Ju.fn.ok sc_law_choice (fun vs H Q E h=>?_) (fun cdv A outer s H vs Q E hr h=>?_)
 ·obtain ⟨p,x,R,rfl,_⟩:=h
  rfl
 ·obtain ⟨p,x,R,rfl,st,rt,rg,k⟩:=h
  refine ⟨?t,?B,?C⟩
  case B =>
   refine' Ji4 ?s1 ?r1
   case s1 =>
    exact (Jig (i:=2) sc_law_choice.nd rfl (Or.inl rfl) (Jin Jis (by rfl) T.Jap Jj6 (Ji1 (Jiz (N:=(["_law_one","_law_stream_here"] : List Str)) (ini:=[none,some 0]) rfl (Jj8 (Jim Jj5 (pv 1) Ji5 (fun _ _=>rfl))) (fun _ _ _ _ _=>(Jie (i:=0) (by decide +kernel : (["_law_one","_law_stream_here"] : List Str).Nodup) rfl (Or.inl rfl))) (fun _ _ _ _ _=>Jit) (fun _ _ _ _ _=>(Jia T.Jl G__law_take hr (by decide) (Ji1 (pv 1) (Ji1 (Jia T.Js G__law_settings hr (by decide) (Ji1 (Jim (Jna (K:=K) rfl) (pv 0) Ji5 (fun _ _=>rfl)) Ji2)) Ji2))))) Ji2)))
   case r1 =>
    refine' Ji4 ?s3 ?r3
    case s3 =>
     exact (Jig (i:=3) sc_law_choice.nd rfl (Or.inl rfl) (Jij Jjt (Jia T.Jl G__law_take hr (by decide) (Ji1 (pv 0) (Ji1 (Jij Jj1 (Jib Jih (by rfl) T.Jah Jjb (Ji1 (Jim Jj5 (pv 1) Ji5 (fun _ _=>rfl)) Ji2)) Ji5) Ji2))) Ji5))
    case r3 =>
     refine' Ji7 ?s5
     case s5 =>
      exact (Jif (Jk9 (Ji1 (pv 2) (Ji1 (Jim Jiw (Jjn (Ji1 (pv 3) (Ji1 Jl2 Ji2))) (Jin Jmj (by rfl) T.Jaf Jot (Ji1 (Jki Jvv (pv 3) Ji5 (Jj7 _)) Ji2)) (fun _ _=>rfl)) Ji2))))
  obtain ⟨t,lb,lt,bs,ts,rfl,ht,hb,btl,htt,ttl,nb,nt⟩:=rt
  refine ⟨_,rfl,t,_,2,_,rfl,rfl,SqT.of ht,rfl,lb,rfl,⟨_,SqL.of hb⟩,fun D hD=>?_⟩
  have blen:=btl.len
  have hn:=rg.n
  refine Jmz (p:=p) (fun i y=>∃ n : Int,y = .int n ∧ (0 ≤ n ∧ n ≤ 4)) st hD (by omega) hb nb ?_ ?_
  ·intro i x H' Q' hx b k'
   obtain ⟨B,eB,bt⟩:=btl.get hx
   obtain ⟨tb,g,rfl,htb', gt⟩:=bt.but st b
   have bg:=(rg.Bs B (List.mem_of_getElem? eB)).1
   have q1:=nOf_in bg.G
   refine ⟨_,rfl,_,rfl,tb,_,5,_,rfl,rfl,SqT.of htb', rfl,p,g,B.G,rfl,gt,fun H2 s2=>?_⟩
   exact ⟨p,_,rfl,b.2.same s2,by omega,Jms (by omega),fun r H5 r0 r1 b5=>k' _ _ ((But.of b.2 s2).trans b5) ⟨_,rfl,r0,by omega⟩⟩
  ·intro ys H1 b1 hD1 hl1 hy
   obtain ⟨ns,rfl,hns⟩:=Jr2 hy
   rw [List.length_map] at hl1
   refine ⟨D,_,rfl,.inl ⟨SqL.of hD1,fun u hu=>?_⟩⟩
   have su:=Same.upd (o:=.tup (ns.map V.int)) hu
   have b2:=b1.same su
   have ht2:=b2.1 _ _ (Jk2 st ht (fun _ _ _ z=>by cases z)) ht
   have htt2:=b2.1 _ _ nt htt
   have tlen:=ttl.len
   have tn:=rg.tn
   refine ⟨_,rfl,_,rfl,t,_,3,_,rfl,rfl,SqT.of ht2,rfl,lt,_,rfl,.inl (SqL.of htt2),_,_,rfl,rfl,p,_,rfl,b2.2,by omega,Jms (by omega),fun r H5 r0 r1 b5=>⟨_,_,rfl,rfl,?_⟩⟩
   have hu5 : H5 u = some (.tup (ns.map V.int)):=b5.1 _ _ (Jk2 b2.2 Ji3 (fun _ _ _ z=>by cases z)) Ji3
   refine ⟨_,rfl,_,rfl,(show 2 ≤ sizeLine by decide),fun D2 hD2=>⟨_,rfl,_,_,rfl,rfl,.inr ⟨_,rfl,?_⟩⟩⟩
   have s2:=Same.upd (o:=.lst [.int (r - 1),.non]) hD2
   obtain ⟨tv,hat,htv⟩ : ∃ tv,atI [V.int (r - 1),.non] (if decide (r - 1 < 0) = true then 1 else 0) = some tv ∧ TwnV R tv:=by
    by_cases h : r - 1 < 0
    ·rw [decide_eq_true h]
     exact ⟨.non,rfl,.inl rfl⟩
    ·rw [decide_eq_false h]
     exact ⟨.int (r - 1),rfl,.inr ⟨_,rfl,by omega,by omega⟩⟩
   refine ⟨D2,_,_,tv,rfl,rfl,SqL.of Ji3,hat,(show 2 ≤ sizeLine by decide),fun y hy=>?_⟩
   have sy:=s2.trans (Same.upd (o:=.tup [.ref u,tv]) hy)
   exact k (.ref y) ns tv _ ((b2.trans b5).same sy) ⟨⟨y,u,rfl,Ji3,sy _ _ hu5⟩,by omega,hns,htv⟩
theorem Jq1 : Jic ["_law_told","_law_wet"] ["_law_told","_law_wet"] (Ji6 (top 70)):=⟨rfl,rfl,rfl,by decide +kernel,rfl,by decide +kernel,by decide +kernel⟩
theorem Jpu (T : Tx K mg a) : FnOk P w K mg base CX0 1 a.Jgs a.Jgt ["_law_told","_law_wet"] Juz:=by
 refine T.Jv.fn.ok Jq1 (fun vs H Q E h=>?_) (fun cdv A outer s H vs Q E hr h=>?_)
 ·obtain ⟨p,x,R,wet,rfl,_⟩:=h
  rfl
 ·obtain ⟨p,x,R,wet,rfl,rt,rg,k⟩:=h
  refine ⟨?t,?B,?C⟩
  case B =>
   refine' Ji7 ?s1
   case s1 =>
    exact (Jif (Jib (Jke rfl) (by rfl) T.Jak Jlc (Ji1 (Jib (Jkp rfl) (by rfl) T.Jao Jmy (Ji1 (Jiz (N:=(["_law_one"] : List Str)) (ini:=[none]) rfl (Jj8 (Jim Jj5 (pv 0) Ji5 (fun _ _=>rfl))) (fun _ _ _ _ _=>(Jie (i:=0) (by decide +kernel : (["_law_one"] : List Str).Nodup) rfl (Or.inl rfl))) (fun _ _ _ _ _=>Jit) (fun _ _ _ _ _=>(Jim (Jna (K:=K) rfl) (pv 0) Ji5 (fun _ _=>rfl)))) Ji2)) (Ji1 (Jib (Jkn rfl) (by rfl) T.Jaj Jnp (Ji1 Ji5 (Ji1 (Jij Jjt (Jij Jj1 (pv 1) (Jim Jj5 (pv 0) Ji5 (fun _ _=>rfl))) (Jim Jj5 (pv 0) Ji5 (fun _ _=>rfl))) Ji2))) Ji2))))
  obtain ⟨t,lb,lt,bs,ts,rfl,ht,hb,btl,htt,ttl,nb,nt⟩:=rt
  have blen:=btl.len
  have hn:=rg.n
  refine ⟨_,rfl,t,_,2,_,rfl,rfl,SqT.of ht,rfl,lb,rfl,⟨_,SqL.of hb⟩,fun D hD=>?_⟩
  refine Jlf ((R.Bs.map (·.rn)).map V.int) hD (by simp [blen]) (by omega) hb ?_ ?_
  ·intro i x y H' Q' hx hy sm k'
   obtain ⟨B,eB,tb,g,rfl,htb,gt⟩:=btl.get hx
   rw [List.getElem?_map,List.getElem?_map,eB] at hy
   cases hy
   exact ⟨_,rfl,tb,_,4,_,rfl,rfl,SqT.of (sm _ _ htb),rfl,k' _ fun _ _ h=>h⟩
  intro H1 s1 hD1
  refine ⟨D,_,rfl,.inl (SqL.of hD1),⟨by rw [List.length_map]; omega,fun n hn=>?_⟩,?_⟩
  ·obtain ⟨B,hB,rfl⟩:=List.mem_map.mp hn
   have:=(rg.Bs B hB).1.rn
   omega
  refine ⟨_,rfl,_,rfl,t,_,1,_,rfl,rfl,SqT.of (s1 _ _ ht),rfl,_,_,rfl,rfl,_,rfl,t,_,0,_,rfl,rfl,SqT.of (s1 _ _ ht),rfl,_,_,rfl,rfl,_,_,rfl,_,_,rfl,k _ s1⟩
end
def mn (i j : Int) : Int:=if j < i then j else i
def mx0 (i : Int) : Int:=if i > 0 then i else 0
def Fits : List Int → List Int → Prop
 | r :: rs,b :: bs=>(0 ≤ r ∧ r ≤ b) ∧ Fits rs bs
 | [],[]=>True
 | _,_=>False
theorem Fits.len : ∀ {rs bs : List Int},Fits rs bs → rs.length = bs.length
 | _ :: rs,_ :: bs,h=>by rw [List.length_cons,List.length_cons,Fits.len (rs:=rs) (bs:=bs) h.2]
 | [],[],_=>rfl
theorem Fits.get : ∀ {rs bs : List Int} {i : Nat} {r b : Int},Fits rs bs → rs[i]? = some r → bs[i]? = some b → 0 ≤ r ∧ r ≤ b
 | _ :: _,_ :: _,0,_,_,h,e1,e2=>by cases e1; cases e2; exact h.1
 | _ :: rs,_ :: bs,i + 1,_,_,h,e1,e2=>Fits.get (rs:=rs) (bs:=bs) (i:=i) h.2 (by simpa using e1) (by simpa using e2)
 | [],[],_,_,_,_,e1,_=>by simp at e1
theorem Fits.sum : ∀ {rs bs : List Int},Fits rs bs → 0 ≤ rs.sum ∧ rs.sum ≤ bs.sum
 | r :: rs,b :: bs,h=>by
  have:=Fits.sum (rs:=rs) (bs:=bs) h.2
  have:=h.1
  rw [List.sum_cons,List.sum_cons]
  omega
 | [],[],_=>⟨Int.le_refl _,Int.le_refl _⟩
theorem Fits.mem : ∀ {rs bs : List Int},Fits rs bs → ∀ r ∈ rs,0 ≤ r ∧ ∃ b ∈ bs,r ≤ b
 | r :: rs,b :: bs,h,x,hx=>by
  rcases List.mem_cons.mp hx with rfl | hx
  ·exact ⟨h.1.1,b,List.mem_cons_self,h.1.2⟩
  ·obtain ⟨h1,c,hc,h2⟩:=Fits.mem (rs:=rs) (bs:=bs) h.2 x hx
   exact ⟨h1,c,List.mem_cons_of_mem _ hc,h2⟩
 | [],[],_,x,hx=>by simp at hx
def Jj9 : Int → List Int → List Int → List Int
 | l,b :: bs,r :: rs=>(r + mn l (b - r)) :: Jj9 (l - mn l (b - r)) bs rs
 | _,_,_=>[]
theorem Jlv : ∀ {l : Int} {bs rs : List Int},rs.length = bs.length → (Jj9 l bs rs).length = bs.length
 | l,b :: bs,r :: rs,e=>by
  show (Jj9 (l - mn l (b - r)) bs rs).length + 1 = bs.length + 1
  rw [Jlv (by simpa using e)]
 | _,[],_,_=>rfl
 | _,_ :: _,[],e=>by simp at e
theorem Jnq : ∀ {l : Int} {bs rs : List Int},0 ≤ l → Fits rs bs → Fits (Jj9 l bs rs) bs
 | l,b :: bs,r :: rs,hl,h=>by
  have h1:=h.1
  have hm : 0 ≤ mn l (b - r) ∧ mn l (b - r) ≤ l ∧ mn l (b - r) ≤ b - r:=by unfold mn; split <;> omega
  exact ⟨⟨by omega,by omega⟩,Jnq (by omega) h.2⟩
 | _,[],[],_,_=>True.intro
 | _,[],_ :: _,_,h=>h.elim
 | _,_ :: _,[],_,h=>h.elim
theorem Jrt : ∀ {l : Int} {bs rs : List Int},0 ≤ l → Fits rs bs → (Jj9 l bs rs).sum = rs.sum + mn l (bs.sum - rs.sum)
 | l,b :: bs,r :: rs,hl,h=>by
  have h1:=h.1
  have hs:=Fits.sum h.2
  have hm : 0 ≤ mn l (b - r) ∧ mn l (b - r) ≤ l ∧ mn l (b - r) ≤ b - r:=by unfold mn; split <;> omega
  show (r + mn l (b - r)) + (Jj9 (l - mn l (b - r)) bs rs).sum = _
  rw [Jrt (by omega) h.2,List.sum_cons,List.sum_cons]
  unfold mn
  split <;> split <;> split <;> omega
 | l,[],[],hl,_=>by
  show (0 : Int) = 0 + mn l (0 - 0)
  unfold mn
  split <;> omega
 | _,[],_ :: _,_,h=>h.elim
 | _,_ :: _,[],_,h=>h.elim
theorem Jrs : ∀ {l : Int} {bs rs : List Int} (i : Nat),0 ≤ l → Fits rs bs → 0 ≤ ((Jj9 l bs rs).take i).sum - (rs.take i).sum ∧ ((Jj9 l bs rs).take i).sum - (rs.take i).sum ≤ l
 | _,_,_,0,hl,_=>by simp; exact hl
 | l,b :: bs,r :: rs,i + 1,hl,h=>by
  have h1:=h.1
  have hm : 0 ≤ mn l (b - r) ∧ mn l (b - r) ≤ l ∧ mn l (b - r) ≤ b - r:=by unfold mn; split <;> omega
  have ih:=Jrs (l:=l - mn l (b - r)) (bs:=bs) (rs:=rs) i (by omega) h.2
  show 0 ≤ (((r + mn l (b - r)) :: Jj9 (l - mn l (b - r)) bs rs).take (i + 1)).sum - ((r :: rs).take (i + 1)).sum ∧ _
  simp only [List.take_succ_cons,List.sum_cons]
  show _ ∧ (((r + mn l (b - r)) :: Jj9 (l - mn l (b - r)) bs rs).take (i + 1)).sum - _ ≤ l
  simp only [List.take_succ_cons,List.sum_cons]
  omega
 | l,[],[],_ + 1,hl,_=>by
  show 0 ≤ (0 : Int) - 0 ∧ (0 : Int) - 0 ≤ l
  omega
 | _,[],_ :: _,_ + 1,_,h=>h.elim
 | _,_ :: _,[],_ + 1,_,h=>h.elim
theorem Joy : ∀ {l : Int} {bs rs : List Int} {i : Nat} {b r : Int},bs[i]? = some b → rs[i]? = some r → (Jj9 l bs rs)[i]? = some (r + mn (l - (((Jj9 l bs rs).take i).sum - (rs.take i).sum)) (b - r))
 | l,b' :: bs,r' :: rs,0,b,r,e1,e2=>by
  cases e1
  cases e2
  show some (r' + mn l (b' - r')) = some (r' + mn (l - (0 - 0)) (b' - r'))
  rw [show l - ((0 : Int) - 0) = l by omega]
 | l,b' :: bs,r' :: rs,i + 1,b,r,e1,e2=>by
  have ih:=Joy (l:=l - mn l (b' - r')) (bs:=bs) (rs:=rs) (i:=i) (b:=b) (r:=r) (by simpa using e1) (by simpa using e2)
  show ((r' + mn l (b' - r')) :: Jj9 (l - mn l (b' - r')) bs rs)[i + 1]? = some (r + mn (l - ((((r' + mn l (b' - r')) :: Jj9 (l - mn l (b' - r')) bs rs).take (i + 1)).sum - ((r' :: rs).take (i + 1)).sum)) (b - r))
  simp only [List.take_succ_cons,List.sum_cons,List.getElem?_cons_succ]
  rw [ih]
  congr 3
  omega
 | _,[],_,_,_,_,e1,_=>by simp at e1
 | _,_ :: _,[],_,_,_,_,e2=>by simp at e2
theorem Jt4 {F : Int} {bs ns : List Int} {i : Nat} {b r : Int} (h : Fits ns bs) (e1 : bs[i]? = some b) (e2 : ns[i]? = some r) :
  (Jj9 (mx0 (F - ns.sum)) bs ns)[i]? = some (r + mn (b - r) (mx0 (F - ((Jj9 (mx0 (F - ns.sum)) bs ns).take i ++ ns.drop i).sum))):=by
 have hl : 0 ≤ mx0 (F - ns.sum):=by unfold mx0; split <;> omega
 have ha:=Jrs (l:=mx0 (F - ns.sum)) i hl h
 have hg:=h.get e2 e1
 rw [Joy e1 e2,List.sum_append]
 have hs : ns.sum = (ns.take i).sum + (ns.drop i).sum:=by rw [← List.sum_append,List.take_append_drop]
 congr 2
 generalize ((Jj9 (mx0 (F - ns.sum)) bs ns).take i).sum = p at *
 unfold mx0 at *
 unfold mn
 split at ha <;> split <;> split <;> split <;> omega
def Row6 (n : Nat) (ms : List Int) : Prop:=ms.length = n ∧ ∀ m ∈ ms,0 ≤ m ∧ m ≤ 6
theorem Jru {R : Jja} {ns : List Int} (rg : Jko R) (h : Fits ns (R.Bs.map (·.rn))) : Row6 R.Bs.length ns:=by
 refine ⟨by rw [h.len,List.length_map],fun m hm=>?_⟩
 obtain ⟨h1,b,hb,h2⟩:=h.mem m hm
 obtain ⟨B,hB,rfl⟩:=List.mem_map.mp hb
 have:=(rg.Bs B hB).1.rn
 omega
def Jv0 : Sp:=fun vs H Q _=>∃ (p : Addr) (x : V) (R : Jja) (wet : Int) (r : Addr) (ns : List Int),vs = [x,.int wet,.ref r] ∧ RTAt p H x R ∧ Jko R ∧ H r = some (.lst (ns.map V.int)) ∧ Fits ns (R.Bs.map (·.rn)) ∧ ∀ (u : Addr) (H' : Hp),Same H H' → H' u = some (.tup ((Jj9 (mx0 (Jkw R wet - ns.sum)) (R.Bs.map (·.rn)) ns).map V.int)) → Q (.ref u) H'
section
variable {P : Program} {w : World} {K : W.Frag} {mg : Str → Option Value} {base : Heap} {a : Ad}
theorem sc_law_raised : Jic ["_law_told","_law_wet","_law_row","_law_found","_law_k","_law_one"] ["_law_told","_law_wet","_law_row"] (Ji6 (top 71)):=⟨rfl,rfl,rfl,by decide +kernel,rfl,by decide +kernel,by decide +kernel⟩
theorem Jpv (T : Tx K mg a) : FnOk P w K mg base CX0 2 a.Jgu a.Jgv ["_law_told","_law_wet","_law_row"] Jv0:=by
 have G__law_forced:=Jpu (P:=P) (w:=w) (base:=base) T
 refine T.Jw.fn.ok sc_law_raised (fun vs H Q E h=>?_) (fun cdv A outer s H vs Q E hr h=>?_)
 ·obtain ⟨p,x,R,wet,r,ns,rfl,_⟩:=h
  rfl
 ·obtain ⟨p,x,R,wet,r,ns,rfl,rt,rg,hr0,ft,k⟩:=h
  refine ⟨?t,?B,?C⟩
  case B =>
   refine' Ji4 ?s1 ?r1
   case s1 =>
    exact (Jig (i:=3) sc_law_raised.nd rfl (Or.inl rfl) (Jin Jjl (by rfl) T.Jai Jk7 (Ji1 (pv 2) Ji2)))
   case r1 =>
    refine' Ji4 ?s3 ?r3
    case s3 =>
     refine' Jkl ?f4_0 ?f4_1 ?f4_2 ?f4_3 ?f4_4
     case f4_0 =>
      exact PassesOwn.never
     case f4_1 =>
      exact rfl
     case f4_2 =>
      exact (Jxm (by rfl) T.Jae (Ji1 (Jim Jj5 (pv 0) Ji5 (fun _ _=>rfl)) Ji2))
     case f4_3 =>
      exact (Jn3 rfl (Jio (Jie (i:=4) sc_law_raised.nd rfl (Or.inl rfl)) (Jio (Jie (i:=5) sc_law_raised.nd rfl (Or.inl rfl)) Jky)))
     case f4_4 =>
      refine' Ji7 ?s5
      case s5 =>
       exact (Jre (Jij Jj1 (Jim Jiw (pv 3) (pv 4) (fun _ _=>rfl)) (Jib (Jke rfl) (by rfl) T.Jak Jlc (Ji1 (Jij Jjt (Jim Jj5 (pv 5) Ji5 (fun _ _=>rfl)) (Jim Jiw (pv 3) (pv 4) (fun _ _=>rfl))) (Ji1 (Jib (Jkn rfl) (by rfl) T.Jaj Jnp (Ji1 Ji5 (Ji1 (Jij Jjt (Jia T.Jv G__law_forced hr (by decide) (Ji1 (pv 0) (Ji1 (pv 1) Ji2))) (Jib (Jkp rfl) (by rfl) T.Jao Jmy (Ji1 (pv 3) Ji2))) Ji2))) Ji2)))) (Jt3 (pv 3) (pv 4) Jph))
    case r3 =>
     refine' Ji7 ?s8
     case s8 =>
      exact (Jif (Jin Jis (by rfl) T.Jap Jj6 (Ji1 (pv 3) Ji2)))
  obtain ⟨t,lb,lt,bs,ts,rfl,ht,hb,btl,htt,ttl,nb,nt⟩:=id rt
  have blen:=btl.len
  have hn:=rg.n
  have nl:=ft.len
  rw [List.length_map] at nl
  generalize eL : Jj9 (mx0 (Jkw R wet - ns.sum)) (R.Bs.map (·.rn)) ns = fl at *
  have fll : fl.length = R.Bs.length:=by rw [← eL,Jlv (by rw [List.length_map]; exact nl),List.length_map]
  have ff : Fits fl (R.Bs.map (·.rn)):=by rw [← eL]; exact Jnq (by unfold mx0; split <;> omega) ft
  have sm6 : ∀ i,Sml (fl.take i ++ ns.drop i):=fun i=>by
   refine ⟨by rw [List.length_append,List.length_take,List.length_drop]; omega,fun m hm=>?_⟩
   rcases List.mem_append.mp hm with z | z
   ·have:=(Jru rg ff).2 m (List.mem_of_mem_take z)
    omega
   ·have:=(Jru rg ft).2 m (List.mem_of_mem_drop z)
    omega
  refine ⟨_,rfl,r,_,rfl,.inl (SqL.of hr0),fun F hF=>?_⟩
  have s1:=Same.upd (o:=.lst (ns.map V.int)) hF
  refine ⟨_,rfl,t,_,2,_,rfl,rfl,SqT.of (s1 _ _ ht),rfl,?_⟩
  refine ⟨lb,rfl,⟨_,SqL.of (s1 _ _ hb)⟩,?_⟩
  refine Jx8 (xs:=bs) (fun i σ H'=>∃ (o1 o2 : Option V),σ = [some (.ref t),some (.int wet),some (.ref r),some (.ref F),o1,o2] ∧ H' F = some (.lst ((fl.take i ++ ns.drop i).map V.int)) ∧ Same H H') ?_ ?_ ?_ ?_
  ·exact ⟨_,_,rfl,by simp [Ji3],s1⟩
  ·rintro i σ H' _ ⟨_,_,_,_,sm⟩
   exact SqL.of (sm _ _ hb)
  ·rintro i x σ H' Ta hx ⟨o1,o2,rfl,hFs,sm⟩ hT
   obtain ⟨B,eB,tb,g,rfl,htb,gt⟩:=btl.get hx
   have sT:=Same.upd (o:=.tup [.int i,.ref tb]) hT
   have hi : i < R.Bs.length:=(List.getElem?_eq_some_iff.mp eB).1
   have htb':=sT _ _ (sm _ _ htb)
   have hFT:=sT _ _ hFs
   have en : ns[i]? = some ns[i]:=List.getElem?_eq_getElem (by omega)
   have emid : (fl.take i ++ ns.drop i)[i]? = some ns[i]:=by
    rw [List.getElem?_append_right (by rw [List.length_take]; omega),List.length_take,Nat.min_eq_left (by omega),Nat.sub_self,List.getElem?_drop,Nat.add_zero]
    exact en
   have hat : atI ((fl.take i ++ ns.drop i).map V.int) (i : Int) = some (.int ns[i]):=Jlb (by rw [List.getElem?_map,emid]; rfl)
   have step:=Jt4 (F:=Jkw R wet) ft (by rw [List.getElem?_map,eB]; rfl) en
   rw [eL] at step
   refine ⟨Ta,_,rfl,SqT.of Ji3,rfl,_,_,rfl,_,_,rfl,rfl,?_⟩
   refine ⟨_,rfl,_,rfl,F,_,_,_,rfl,rfl,SqL.of hFT,hat,?_⟩
   refine ⟨_,rfl,tb,_,4,_,rfl,rfl,SqT.of htb', rfl,_,rfl,_,rfl,F,_,_,_,rfl,rfl,SqL.of hFT,hat,_,_,rfl,rfl,?_⟩
   refine ⟨_,rfl,_,rfl,p,_,R,wet,rfl,rt.same rg (sm.trans sT),rg,fun H2 s2=>?_⟩
   refine ⟨_,rfl,F,_,rfl,.inl (SqL.of (s2 _ _ hFT)),sm6 i,_,_,rfl,rfl,_,_,rfl,_,_,rfl,_,_,rfl,rfl,?_⟩
   have s3:=sm.trans (sT.trans s2)
   have hF2:=s2 _ _ hFT
   have hix : ixN ((fl.take i ++ ns.drop i).map V.int).length (i : Int) = some i:=by
    unfold ixN
    rw [if_pos (by omega),if_pos (by rw [List.length_map,List.length_append,List.length_take,List.length_drop]; omega)]
    rfl
   refine ⟨_,rfl,_,rfl,F,_,_,i,rfl,rfl,hF2,hix,?_⟩
   refine ⟨_,_,rfl,?_,fun b o e=>?_⟩
   ·rw [Ji3,← List.map_set]
    congr 3
    have e1 : fl.take (i + 1) = fl.take i ++ [ns[i] + mn (B.rn - ns[i]) (mx0 (Jkw R wet - (fl.take i ++ ns.drop i).sum))]:=by
     rw [List.take_add_one,step]; rfl
    have e2 : ns.drop i = ns[i] :: ns.drop (i + 1):=List.drop_eq_getElem_cons (by omega)
    rw [e1,e2,List.set_append_right _ _ (by rw [List.length_take]; omega),List.length_take,Nat.min_eq_left (by omega),Nat.sub_self,List.append_assoc]
    rfl
   ·rw [Ji9 (Ji8 e hF)]
    exact s3 _ _ e
  ·rintro σ H1 ⟨o1,o2,rfl,hFs,sm⟩
   rw [List.drop_eq_nil_of_le (by omega),List.append_nil,List.take_of_length_le (by omega)] at hFs
   exact ⟨_,rfl,F,_,rfl,.inl ⟨SqL.of hFs,fun u hu=>k u _ (sm.trans (Same.upd hu)) Ji3⟩⟩
end
section
variable {P : Program} {w : World} {K : W.Frag} {mg : Str → Option Value} {base : Heap} {a : Ad}
def LL (H H' : Hp) : Prop:=∀ b o,H b = some o → H' b = some o ∨ ((∃ xs,o = .lst xs) ∧ ∃ ys,H' b = some (.lst ys))
theorem LL.same {H H' : Hp} (s : Same H H') : LL H H':=fun b o e=>.inl (s b o e)
theorem LL.but {p : Addr} {H H' : Hp} (st : Strm H p) (b : But p H H') : LL H H':=fun c o e=>by
 by_cases z : c = p
 ·subst z
  obtain ⟨x,y,w', q⟩:=st
  obtain ⟨x', y', w'', q'⟩:=b.2
  rw [q] at e
  exact .inr ⟨⟨_,(Option.some.inj e).symm⟩,_,q'⟩
 ·exact .inl (b.1 c o z e)
theorem LL.upd {H : Hp} {l : Addr} {xs ys : List V} (h : H l = some (.lst xs)) : LL H (upd H l (.lst ys)):=fun c o e=>by
 by_cases z : c = l
 ·subst z
  rw [h] at e
  exact .inr ⟨⟨_,(Option.some.inj e).symm⟩,ys,Ji3⟩
 ·exact .inl (by rw [Ji9 z]; exact e)
theorem LL.trans {H1 H2 H3 : Hp} (a : LL H1 H2) (b : LL H2 H3) : LL H1 H3:=fun c o e=>by
 rcases a c o e with h | ⟨⟨xs,rfl⟩,ys,h⟩
 ·exact b c o h
 ·rcases b c _ h with h' | ⟨_,zs,h'⟩
  ·exact .inr ⟨⟨xs,rfl⟩,ys,h'⟩
  ·exact .inr ⟨⟨xs,rfl⟩,zs,h'⟩
theorem LL.get {H H' : Hp} (s : LL H H') {b : Addr} {o : HO} (n : ∀ xs,o ≠ .lst xs) (e : H b = some o) : H' b = some o:=by
 rcases s b o e with h | ⟨⟨xs,w'⟩,_⟩
 ·exact h
 ·exact absurd w' (n xs)
end
section
variable {P : Program} {w : World} {K : W.Frag} {mg : Str → Option Value} {base : Heap} {a : Ad}
end
theorem GS.ll {K : W.Frag} {a : Ad} {H H' : Hp} {x : V} {n : Nat} (s : LL H H') (h : GS K a H x n) : GS K a H' x n:=by
 cases h with
 | plain i g l =>
  obtain ⟨dx,t,h1,h2⟩:=g
  exact .plain i ⟨dx,t,s.get (by intro _ z; cases z) h1,s.get (by intro _ z; cases z) h2⟩ l
 | stuck e=>exact .stuck (s.get (by intro _ z; cases z) e)
theorem BasAt.ll {K : W.Frag} {a : Ad} {H H' : Hp} {b : Addr} {B : Bsn} (s : LL H H') (h : BasAt K a H b B) : BasAt K a H' b B:=by
 obtain ⟨dx,h1,h2⟩:=h
 exact ⟨dx,s.get (by intro _ z; cases z) h1,h2.ll s⟩
theorem TwnAt.ll {a : Ad} {H H' : Hp} {b : Addr} {B : Twn} (s : LL H H') (h : TwnAt a H b B) : TwnAt a H' b B:=by
 obtain ⟨dx,h1⟩:=h
 exact ⟨dx,s.get (by intro _ z; cases z) h1⟩
theorem RivAt.ll {K : W.Frag} {a : Ad} {H H' : Hp} {o : Addr} {R : Riv} (s : LL H H') (h : RivAt K a H o R) : RivAt K a H' o R:=by
 obtain ⟨dx,b,t,os,ts,h1,h2,h3,h4,h5,h6⟩:=h
 exact ⟨dx,b,t,os,ts,s.get (by intro _ z; cases z) h1,s.get (by intro _ z; cases z) h2,h3.map fun _ _ h=>h.ll s,s.get (by intro _ z; cases z) h4,h5.map fun _ _ h=>h.ll s,h6⟩
theorem Own.same {H H' : Hp} {x : V} (s : Same H H') (h : Own H x) : Own H' x:=by
 rcases h with h | ⟨c,rfl,⟨vs,h | h,hv⟩ | h | ⟨k,v,h⟩⟩
 ·exact .inl h
 ·exact .inr ⟨c,rfl,.inl ⟨vs,.inl (s _ _ h),hv⟩⟩
 ·exact .inr ⟨c,rfl,.inl ⟨vs,.inr (s _ _ h),hv⟩⟩
 ·exact .inr ⟨c,rfl,.inr (.inl (s _ _ h))⟩
 ·exact .inr ⟨c,rfl,.inr (.inr ⟨k,v,s _ _ h⟩)⟩
theorem Jnb {α : Type} {R : Jja} {S : Riv} (h : Jqr R S) (f : Str × Int × Int × Int × Int × Nat → α) : S.Bs.map (fun B=>f (Jsn B)) = R.Bs.map (fun B=>f (Jtb B)):=by
 have e1 : S.Bs.map (fun B=>f (Jsn B)) = (S.Bs.map Jsn).map f:=by rw [List.map_map]; rfl
 have e2 : R.Bs.map (fun B=>f (Jtb B)) = (R.Bs.map Jtb).map f:=by rw [List.map_map]; rfl
 rw [e1,e2,h.Bs]
theorem Jvr {R : Jja} {S : Riv} (h : Jqr R S) : S.Bs.length = R.Bs.length:=by
 have:=congrArg List.length h.Bs
 simpa using this
abbrev lb_keeper_of : Array (Nat × Nat × Str):=#[((Jne (nst (top 27) 2)).line,(Jne (nst (top 27) 2)).col,"keeper_of.<locals>.keeper")]
def Jva (H : Hp) (f : Addr) (KL : Addr) (xs : List V) : Prop:=H KL = some (.lst xs) ∧ CloAt H f "keeper" "keeper_of.<locals>.keeper" (nst (top 27) 2) [("kept",.ref KL)]
def Jwd : List V → Sp:=fun cs vs H Q _=>∃ (x : V) (k : Nat) (KL : Addr) (xs : List V),cs = [.ref KL] ∧ vs = [x,.int k] ∧ H KL = some (.lst xs) ∧ xs ≠ [] ∧ ∀ v,xs[min k (xs.length - 1)]? = some v → Q v H
def spKof (K : W.Frag) (a : Ad) : Sp:=fun vs H Q E=>∃ x : V,vs = [x] ∧ H a.Jhy = some (.tbl lb_keeper_of) ∧
 ((∃ (l : Addr) (xs : List V),x = .ref l ∧ H l = some (.lst xs) ∧ xs ≠ [] ∧ ∀ (f KL : Addr) (H' : Hp),Same H H' → H KL = none → Jva H' f KL xs → Q (.ref f) H') ∨
  (((∃ t,TyX K H x t ∧ W.kitOne K t (.type "list") = some false) ∨ ∃ l,x = .ref l ∧ H l = some (.lst [])) ∧ ∀ c eo H', RfC a.Jhm H H' x c eo → E c eo H'))
section
variable {P : Program} {w : World} {K : W.Frag} {mg : Str → Option Value} {base : Heap} {a : Ad}
theorem Jmo : Jlt ["standing","k","kept"] ["standing","k"] ["kept"] (Ji6 (nst (top 27) 2)):=⟨rfl,rfl,rfl,by decide +kernel,rfl,by decide +kernel,by decide +kernel,by decide +kernel⟩
theorem Jqk (T : Tx K mg a) (f : Addr) : Jq6 P w K mg base CX0 1 f (Ju2 "keeper" "keeper_of.<locals>.keeper" (nst (top 27) 2) ["kept"] Jwd f):=by
 refine Jtj Jmo (fun _ _ _ _ _ us hl=>match us,hl with | [_,_],_=>rfl) (fun cs vs H Q E h=>?_) (fun f c clos A outer s H vs cs Q E hr h=>?_) f
 ·obtain ⟨x,k,KL,xs,rfl,rfl,_⟩:=h
  exact ⟨rfl,rfl⟩
 ·obtain ⟨x,k,KL,xs,rfl,rfl,hK,ne,k'⟩:=h
  refine ⟨?t,?B,?C⟩
  case B =>
   refine' Ji7 ?s1
   case s1 =>
    exact (Jif (Jim Jiw (pv 2) (Jib (Jke rfl) (by rfl) T.Jak Jlc (Ji1 (pv 1) (Ji1 (Jij Jjt (Jib Jih (by rfl) T.Jah Jjb (Ji1 (pv 2) Ji2)) Ji5) Ji2))) (fun _ _=>rfl)))
  have n0 : 0 < xs.length:=List.length_pos_iff.mpr ne
  have hv : xs[min k (xs.length - 1)]? = some xs[min k (xs.length - 1)]:=List.getElem?_eq_getElem (by omega)
  have hi : (if ((xs.length : Nat) : Int) - 1 < (k : Int) then ((xs.length : Nat) : Int) - 1 else (k : Int)) = ((min k (xs.length - 1) : Nat) : Int):=by
   split <;> omega
  exact ⟨_,rfl,_,rfl,_,rfl,KL,_,rfl,.inl (SqL.of hK),_,_,rfl,rfl,_,_,rfl,KL,_,_,_,rfl,rfl,SqL.of hK,by rw [hi]; exact Jlb hv,k' _ hv⟩
theorem Jmd : Jic ["self","thing"] ["self","thing"] (Ji6 (Jid (top 10) 0)):=⟨rfl,rfl,rfl,by decide +kernel,rfl,by decide +kernel,by decide +kernel⟩
theorem Jnw (T : Tx K mg a) : FnOk P w K mg base CX0 1 a.Jee a.Jef ["self","thing"] (Jl3 K "thing"):=by
 refine T.Jbg.fn.ok Jmd (fun vs H Q E h=>?_) (fun cdv A outer s H vs Q E hr h=>?_)
 ·obtain ⟨e,C,W,fI,y,rfl,_⟩:=h
  rfl
 ·obtain ⟨e,C,W,fI,y,rfl,q,c,n,k⟩:=h
  refine ⟨_,(Ji7 (Jkz (pv 0) (pv 1) rfl)),?_⟩
  exact ⟨_,rfl,_,rfl,e,C,W,fI,true,rfl,q,c,n,k⟩
theorem sc_keeper_of : Jic ["choices","kept","keeper"] ["choices"] (Ji6 (top 27)):=⟨rfl,rfl,rfl,by decide +kernel,rfl,by decide +kernel,by decide +kernel⟩
theorem Jlh (T : Tx K mg a) (B : Bmn mg base) : FnOk P w K mg base (CXX P w) 3 a.Jey a.Jez ["choices"] (spKof K a):=by
 have G_NoChoice___init__:=Jnw (P:=P) (w:=w) (base:=base) T
 refine T.J9.fn.okN T.Jdd sc_keeper_of (fun vs H Q E h=>?_) (fun A outer s H vs Q E hr h=>?_)
 ·obtain ⟨x,rfl,_⟩:=h
  rfl
 ·obtain ⟨x,rfl,ht,h⟩:=h
  refine ⟨?t,?B,?C⟩
  case B =>
   refine' Jok ?s1 ?r1
   case s1 =>
    refine' Jiy ?c2 ?a2 ?b2
    case c2 =>
     exact (Jm9 (Jip (Jiq (Jib Jjj (by rfl) T.Jag Jii (Ji1 (pv 0) (Ji1 (Jjm (v:=.ty "list") (by rfl) T.Jai Jk7 rfl) Ji2))))) (Jlj (Jji Jmv (Jib Jih (by rfl) T.Jah Jjb (Ji1 (pv 0) Ji2)) Ji5 (Jj7 _)))).pt
    case a2 =>
     refine' Ji7 ?s3
     case s3 =>
      exact (Jjc Jje rfl (Jk3 T.Jc4 G_NoChoice___init__ hr (by decide) T.Jbg.bd T.Jaz (Ji1 (pv 0) Ji2)))
    case b2 =>
     exact Jik
   case r1 =>
    refine' Jok ?s6 ?r6
    case s6 =>
     exact (Jig (i:=1) sc_keeper_of.nd rfl (Or.inr rfl) (Jin Jjl (by rfl) T.Jai Jk7 (Ji1 (pv 0) Ji2)))
    case r6 =>
     refine' Jw0 (st:=nst (top 27) 2) (name := "keeper") (qual := "keeper_of.<locals>.keeper") (i:=2) (lb:=lb_keeper_of) (caps:=[("kept",1)]) T.Jdd B rfl rfl rfl rfl rfl (by rfl) Jvq (fun _=>Jtu) sc_keeper_of.nd rfl rfl (by intro y hy; simp only [List.mem_cons,List.not_mem_nil,or_false] at hy; rcases hy with rfl <;> exact ⟨rfl,by decide,rfl,rfl,rfl⟩) (by decide +kernel) ?r8
     case r8 =>
      refine' PSs.pb ?s9
      case s9 =>
       refine' Ji7 ?s10
       case s10 =>
        exact (Jif (pv 2))
  rcases h with ⟨l,xs,rfl,hl,ne,k⟩ | ⟨⟨t,ty,ek⟩ | ⟨l,rfl,hl⟩,k⟩
  ·have n0 : xs.length ≠ 0:=fun z=>ne (List.length_eq_zero_iff.mp z)
   refine ⟨_,rfl,_,_,_,.type "list",true,rfl,rfl,.of (.lst hl),rfl,_,rfl,Jj3 ?_⟩
   refine ⟨_,rfl,l,_,rfl,.inl (SqL.of hl),rfl,?_⟩
   refine ⟨_,rfl,ifF (decide_eq_false fun z=>n0 (by have:=V.int.inj z; omega)) ?_⟩
   refine ⟨_,rfl,l,xs,rfl,.inl (SqL.of hl),fun F hF=>?_⟩
   have s1:=Same.upd (o:=.lst xs) hF
   refine ⟨s1 _ _ ht,[.ref F],?_,rfl,fun f H' s' hf clo=>?_⟩
   ·intro y hy
    obtain rfl : y = (((("kept" : Str),1) : Str × Nat),V.ref F):=List.mem_singleton.mp hy
    rfl
   ·exact ⟨_,rfl,k f F H' (s1.trans s') hF ⟨s' _ _ Ji3,clo⟩⟩
  ·refine ⟨_,rfl,x,_,_,t,_,rfl,rfl,ty,ek,_,rfl,Jjr ?_⟩
   exact Jjr (Jjp T.Jc4 T.Jc6 rfl fun e dx h1 h2 h3=>k _ _ _ (RfC.new h1 h2 h3))
  ·refine ⟨_,rfl,_,_,_,.type "list",true,rfl,rfl,.of (.lst hl),rfl,_,rfl,Jj3 ?_⟩
   refine ⟨_,rfl,l,_,rfl,.inl (SqL.of hl),rfl,?_⟩
   refine ⟨_,rfl,ifT (decide_eq_true rfl) ?_⟩
   exact Jjp T.Jc4 T.Jc6 rfl fun e dx h1 h2 h3=>k _ _ _ (RfC.new h1 h2 h3)
end
def rby : List Int → List Int → Int → List Int
 | b :: bs,n :: ns,l=>Jl0 n b l :: rby bs ns (l - Jl0 n b l)
 | _,_,_=>[]
theorem Jxe {n b l : Int} (h1 : 0 ≤ n) (h2 : 0 ≤ b) (h3 : 0 ≤ l) : 0 ≤ Jl0 n b l ∧ Jl0 n b l ≤ b ∧ Jl0 n b l ≤ l:=by
 unfold Jl0
 split <;> split <;> omega
theorem Jma : ∀ {bs ns : List Int} {l : Int},ns.length = bs.length → (∀ n ∈ ns,0 ≤ n) → (∀ b ∈ bs,0 ≤ b) → 0 ≤ l → Fits (rby bs ns l) bs ∧ (rby bs ns l).sum ≤ l
 | [],[],l,_,_,_,hl=>⟨True.intro,hl⟩
 | b :: bs,n :: ns,l,e,h1,h2,hl=>by
  have m:=Jxe (h1 n List.mem_cons_self) (h2 b List.mem_cons_self) hl
  have ih:=Jma (bs:=bs) (ns:=ns) (l:=l - Jl0 n b l) (by simpa using e) (fun x hx=>h1 x (List.mem_cons_of_mem _ hx)) (fun x hx=>h2 x (List.mem_cons_of_mem _ hx)) (by omega)
  refine ⟨⟨⟨m.1,m.2.1⟩,ih.1⟩,?_⟩
  show Jl0 n b l + (rby bs ns (l - Jl0 n b l)).sum ≤ l
  omega
 | [],_ :: _,_,e,_,_,_=>by simp at e
 | _ :: _,[],_,e,_,_,_=>by simp at e
theorem Jrf : ∀ {bs ns : List Int} {l : Int} {i : Nat} {b n : Int},bs[i]? = some b → ns[i]? = some n → (rby bs ns l)[i]? = some (Jl0 n b (l - ((rby bs ns l).take i).sum))
 | b' :: bs,n' :: ns,l,0,b,n,e1,e2=>by
  cases e1
  cases e2
  show some (Jl0 n' b' l) = some (Jl0 n' b' (l - 0))
  rw [Int.sub_zero]
 | b' :: bs,n' :: ns,l,i + 1,b,n,e1,e2=>by
  have ih:=Jrf (bs:=bs) (ns:=ns) (l:=l - Jl0 n' b' l) (i:=i) (b:=b) (n:=n) (by simpa using e1) (by simpa using e2)
  show (Jl0 n' b' l :: rby bs ns (l - Jl0 n' b' l))[i + 1]? = some (Jl0 n b (l - ((Jl0 n' b' l :: rby bs ns (l - Jl0 n' b' l)).take (i + 1)).sum))
  simp only [List.take_succ_cons,List.sum_cons,List.getElem?_cons_succ]
  rw [ih]
  congr 2
  omega
 | [],_,_,_,_,_,e1,_=>by simp at e1
 | _ :: _,[],_,_,_,_,_,e2=>by simp at e2
theorem Jnf : ∀ {bs ns : List Int} {l : Int},ns.length = bs.length → (rby bs ns l).length = bs.length
 | [],_,_,_=>rfl
 | _ :: _,[],_,e=>by simp at e
 | b :: bs,n :: ns,l,e=>by
  show (rby bs ns (l - Jl0 n b l)).length + 1 = bs.length + 1
  rw [Jnf (by simpa using e)]
def Jua (n : Nat) (ns : List Int) : Prop:=ns.length = n ∧ ∀ m ∈ ns,0 ≤ m ∧ m ≤ 1000000
theorem Joz {rs bs : List Int} (h : Fits rs bs) (n : bs.length ≤ 16) (h6 : ∀ b ∈ bs,0 ≤ b ∧ b ≤ 6) (i : Nat) : Sml (rs.take i):=by
 have:=h.len
 refine ⟨by rw [List.length_take]; omega,fun m hm=>?_⟩
 obtain ⟨h1,b,hb,h2⟩:=h.mem m (List.mem_of_mem_take hm)
 have:=h6 b hb
 omega
def rnL (S : Riv) : List Int:=S.Bs.map (·.rn)
theorem Jjo (S : Riv) : (rnL S).length = S.Bs.length:=List.length_map ..
def Jse (K : W.Frag) (a : Ad) : Sp:=fun vs H Q _=>∃ (o : Addr) (S : Riv) (wet : Int) (q : Addr) (ns : List Int),vs = [.ref o,.int wet,.ref q] ∧ RivAt K a H o S ∧ H q = some (.tup (ns.map V.int)) ∧ Jua S.Bs.length ns ∧ 0 ≤ wet ∧ ∀ (D : Addr) (H' : Hp),Same H H' → H' D = some (.lst ((rby (rnL S) ns wet).map V.int)) → Q (.ref D) H'
def Jsc (K : W.Frag) (a : Ad) : Sp:=fun vs H Q _=>∃ (o : Addr) (S : Riv) (r : Addr) (rs : List Int) (least : Int),vs = [.ref o,.ref r,.int least] ∧ RivAt K a H o S ∧ H r = some (.lst (rs.map V.int)) ∧ Fits rs (rnL S) ∧ ∀ (u : Addr) (H' : Hp),Same H H' → H' u = some (.tup ((Jj9 (mx0 (least - rs.sum)) (rnL S) rs).map V.int)) → Q (.ref u) H'
section
variable {P : Program} {w : World} {K : W.Frag} {mg : Str → Option Value} {base : Heap} {a : Ad}
theorem sc_rain_by : Jic ["river","wet","wanted","rain","basin","cubes"] ["river","wet","wanted"] (Ji6 (top 28)):=⟨rfl,rfl,rfl,by decide +kernel,rfl,by decide +kernel,by decide +kernel⟩
theorem Jt0 (T : Tx K mg a) : FnOk P w K mg base CX0 1 a.Jf0 a.Jf1 ["river","wet","wanted"] (Jse K a):=by
 refine T.Ja.fn.ok sc_rain_by (fun vs H Q E h=>?_) (fun cdv A outer s H vs Q E hr h=>?_)
 ·obtain ⟨o,S,wet,q,ns,rfl,_⟩:=h
  rfl
 ·obtain ⟨o,S,wet,q,ns,rfl,ro,hq,nn,hw,k⟩:=h
  refine ⟨?t,?B,?C⟩
  case B =>
   refine' Ji4 ?s1 ?r1
   case s1 =>
    exact (Jig (i:=3) sc_rain_by.nd rfl (Or.inl rfl) (Jjn Ji2))
   case r1 =>
    refine' Ji4 ?s3 ?r3
    case s3 =>
     refine' Jkl ?f4_0 ?f4_1 ?f4_2 ?f4_3 ?f4_4
     case f4_0 =>
      exact PassesOwn.never
     case f4_1 =>
      exact rfl
     case f4_2 =>
      exact (Jrd true true (by rfl) T.Jaq (Ji1 (Jk0 (pv 0) (by rfl)) (Ji1 (pv 2) Ji2)))
     case f4_3 =>
      exact (Jn3 rfl (Jio (Jie (i:=4) sc_rain_by.nd rfl (Or.inl rfl)) (Jio (Jie (i:=5) sc_rain_by.nd rfl (Or.inl rfl)) Jky)))
     case f4_4 =>
      refine' Ji7 ?s5
      case s5 =>
       exact (Jjv (Jo7 F.plainAttrs_list F.slot_list_append F.type_list_append Jk5 (pv 3) (Ji1 (Jib (Jqb rfl) (by rfl) T.Jak Jlc (Ji1 (pv 5) (Ji1 (Jk0 (pv 4) (by rfl)) (Ji1 (Jij Jjt (pv 1) (Jib (Jkp rfl) (by rfl) T.Jao Jmy (Ji1 (pv 3) Ji2))) Ji2)))) Ji2)))
    case r3 =>
     refine' Ji7 ?s7
     case s7 =>
      exact (Jif (pv 3))
  obtain ⟨dx,b,t,os,ts,ho,hb,bl,ht,tl,n1,n2,n3⟩:=id ro
  have len:=bl.len
  have b6 : ∀ x ∈ rnL S,0 ≤ x ∧ x ≤ 6:=fun x hx=>by
   obtain ⟨B,hB,rfl⟩:=List.mem_map.mp hx
   exact n3 B hB
  obtain ⟨ft,_⟩:=Jma (l:=wet) (by rw [Jjo]; exact nn.1) (fun m hm=>(nn.2 m hm).1) (fun x hx=>(b6 x hx).1) hw
  refine ⟨(show 0 ≤ sizeLine by decide),fun F hF=>?_⟩
  have s1:=Same.upd (o:=.lst []) hF
  refine ⟨_,rfl,o,_,dx,_,_,rfl,s1 _ _ ho,T.Jd7,T.Jdb,rfl,_,rfl,b,q,rfl,⟨_,SqT.of (s1 _ _ hb)⟩,⟨_,SqT.of (s1 _ _ hq)⟩,?_⟩
  refine Jp0 (xs:=os.map V.ref) (ys:=ns.map V.int) (fun i σ H'=>∃ (o1 o2 : Option V),σ = [some (.ref o),some (.int wet),some (.ref q),some (.ref F),o1,o2] ∧ H' F = some (.lst (((rby (rnL S) ns wet).take i).map V.int)) ∧ Same H H') ⟨_,_,rfl,Ji3,s1⟩ (fun i σ H' _ ⟨_,_,_,_,sm⟩=>⟨SqT.of (sm _ _ hb),SqT.of (sm _ _ hq)⟩) (by rw [List.length_map,List.length_map,len]; exact nn.1.symm) ?_ ?_
  ·rintro i x y σ H' Ta hx hy ⟨o1,o2,rfl,hFs,sm⟩ hT
   have sT:=Same.upd (o:=.tup [x,y]) hT
   obtain ⟨ob,B,rfl,hB,dxb,hob,gs⟩:=(bl.same (sm.trans sT)).get hx
   rw [List.getElem?_map] at hy
   cases hn : ns[i]? with
   | none=>rw [hn] at hy; cases hy
   | some n =>
    rw [hn] at hy
    cases hy
    have hi : i < S.Bs.length:=(List.getElem?_eq_some_iff.mp hB).1
    have step:=Jrf (bs:=rnL S) (ns:=ns) (l:=wet) (i:=i) (b:=B.rn) (n:=n) (by unfold rnL; rw [List.getElem?_map,hB]; rfl) hn
    refine ⟨Ta,_,rfl,SqT.of Ji3,rfl,_,_,rfl,_,_,rfl,rfl,?_⟩
    refine ⟨_,rfl,.inl ⟨rfl,_,SqL.of (sT _ _ hFs)⟩,_,rfl,_,rfl,ob,_,dxb,_,_,rfl,hob,T.Jcs,T.Jcz,rfl,_,rfl,_,rfl,F,_,rfl,.inl (SqL.of (sT _ _ hFs)),Joz ft (by rw [Jjo]; omega) b6 i,_,_,rfl,rfl,_,_,_,rfl,?_⟩
    refine ⟨F,_,_,rfl,rfl,sT _ _ hFs,by rw [List.length_map,List.length_take]; exact Jiu (by omega),?_⟩
    refine ⟨_,_,rfl,by rw [Ji3,List.take_add_one,step,List.map_append]; rfl,fun c ob' e=>?_⟩
    rw [Ji9 (Ji8 e hF)]
    exact sT _ _ (sm _ _ e)
  ·rintro σ H1 ⟨o1,o2,rfl,hFs,sm⟩
   rw [List.take_of_length_le (by rw [Jnf (by rw [Jjo]; exact nn.1),Jjo,List.length_map]; omega)] at hFs
   exact ⟨_,rfl,k F H1 sm hFs⟩
theorem sc_filled_up : Jic ["river","rain","least","lacks","full","basin","cubes","more"] ["river","rain","least"] (Ji6 (top 29)):=⟨rfl,rfl,rfl,by decide +kernel,rfl,by decide +kernel,by decide +kernel⟩
theorem Jr6 (T : Tx K mg a) : FnOk P w K mg base CX0 1 a.Jf2 a.Jf3 ["river","rain","least"] (Jsc K a):=by
 refine T.Jb.fn.ok sc_filled_up (fun vs H Q E h=>?_) (fun cdv A outer s H vs Q E hr h=>?_)
 ·obtain ⟨o,S,r,rs,least,rfl,_⟩:=h
  rfl
 ·obtain ⟨o,S,r,rs,least,rfl,ro,hr0,ft,k⟩:=h
  refine ⟨?t,?B,?C⟩
  case B =>
   refine' Ji4 ?s1 ?r1
   case s1 =>
    exact (Jig (i:=3) sc_filled_up.nd rfl (Or.inl rfl) (Jib (Jkn rfl) (by rfl) T.Jaj Jnp (Ji1 (Jij Jjt (pv 2) (Jib (Jkp rfl) (by rfl) T.Jao Jmy (Ji1 (pv 1) Ji2))) (Ji1 Ji5 Ji2))))
   case r1 =>
    refine' Ji4 ?s3 ?r3
    case s3 =>
     exact (Jig (i:=4) sc_filled_up.nd rfl (Or.inl rfl) (Jjn Ji2))
    case r3 =>
     refine' Ji4 ?s5 ?r5
     case s5 =>
      refine' Jkl ?f6_0 ?f6_1 ?f6_2 ?f6_3 ?f6_4
      case f6_0 =>
       exact PassesOwn.never
      case f6_1 =>
       exact rfl
      case f6_2 =>
       exact (Jrd true false (by rfl) T.Jaq (Ji1 (Jk0 (pv 0) (by rfl)) (Ji1 (pv 1) Ji2)))
      case f6_3 =>
       exact (Jn3 rfl (Jio (Jie (i:=5) sc_filled_up.nd rfl (Or.inl rfl)) (Jio (Jie (i:=6) sc_filled_up.nd rfl (Or.inl rfl)) Jky)))
      case f6_4 =>
       refine' Ji4 ?s7 ?r7
       case s7 =>
        exact (Jig (i:=7) sc_filled_up.nd rfl (Or.inl rfl) (Jib (Jke rfl) (by rfl) T.Jak Jlc (Ji1 (pv 3) (Ji1 (Jij Jjt (Jk0 (pv 5) (by rfl)) (pv 6)) Ji2))))
       case r7 =>
        refine' Ji4 ?s9 ?r9
        case s9 =>
         exact (Jjv (Jo7 F.plainAttrs_list F.slot_list_append F.type_list_append Jk5 (pv 4) (Ji1 (Jij Jj1 (pv 6) (pv 7)) Ji2)))
        case r9 =>
         refine' Ji7 ?s11
         case s11 =>
          exact (ps_aug (i:=3) sc_filled_up.nd rfl (Or.inl rfl) (pv 7) ip_sub)
     case r5 =>
      refine' Ji7 ?s13
      case s13 =>
       exact (Jif (Jin Jis (by rfl) T.Jap Jj6 (Ji1 (pv 4) Ji2)))
  obtain ⟨dx,b,t,os,ts,ho,hb,bl,ht,tl,n1,n2,n3⟩:=id ro
  have len:=bl.len
  have rl:=ft.len
  rw [Jjo] at rl
  have b6 : ∀ x ∈ rnL S,0 ≤ x ∧ x ≤ 6:=fun x hx=>by
   obtain ⟨B,hB,rfl⟩:=List.mem_map.mp hx
   exact n3 B hB
  have sm0 : Sml rs:=by have:=Joz ft (by rw [Jjo]; omega) b6 rs.length; rw [List.take_length] at this; exact this
  refine ⟨_,rfl,_,rfl,r,rs,rfl,.inl (SqL.of hr0),sm0,_,_,rfl,rfl,_,_,rfl,?_⟩
  rw [show (if (0 : Int) > least - rs.sum then 0 else least - rs.sum) = mx0 (least - rs.sum) by unfold mx0; split <;> split <;> omega]
  refine ⟨(show 0 ≤ sizeLine by decide),fun F hF=>?_⟩
  have s1:=Same.upd (o:=.lst []) hF
  generalize eL : mx0 (least - rs.sum) = l0 at *
  have hl0 : 0 ≤ l0:=by rw [← eL]; unfold mx0; split <;> omega
  have flen : (Jj9 l0 (rnL S) rs).length = S.Bs.length:=by rw [Jlv (by rw [Jjo]; exact rl),Jjo]
  refine ⟨_,rfl,o,_,dx,_,_,rfl,s1 _ _ ho,T.Jd7,T.Jdb,rfl,_,rfl,b,r,rfl,⟨_,SqT.of (s1 _ _ hb)⟩,⟨_,SqL.of (s1 _ _ hr0)⟩,?_⟩
  refine Jp0 (xs:=os.map V.ref) (ys:=rs.map V.int) (fun i σ H'=>∃ (o1 o2 o3 : Option V),σ = [some (.ref o),some (.ref r),some (.int least),some (.int (l0 - (((Jj9 l0 (rnL S) rs).take i).sum - (rs.take i).sum))),some (.ref F),o1,o2,o3] ∧ H' F = some (.lst (((Jj9 l0 (rnL S) rs).take i).map V.int)) ∧ Same H H') ⟨_,_,_,by simp; rfl,Ji3,s1⟩ (fun i σ H' _ ⟨_,_,_,_,_,sm⟩=>⟨SqT.of (sm _ _ hb),SqL.of (sm _ _ hr0)⟩) (by rw [List.length_map,List.length_map,len]; exact rl.symm) ?_ ?_
  ·rintro i x y σ H' Ta hx hy ⟨o1,o2,o3,rfl,hFs,sm⟩ hT
   have sT:=Same.upd (o:=.tup [x,y]) hT
   obtain ⟨ob,B,rfl,hB,dxb,hob,gs⟩:=(bl.same (sm.trans sT)).get hx
   rw [List.getElem?_map] at hy
   cases hn : rs[i]? with
   | none=>rw [hn] at hy; cases hy
   | some n =>
    rw [hn] at hy
    cases hy
    have hi : i < S.Bs.length:=(List.getElem?_eq_some_iff.mp hB).1
    have step:=Joy (l:=l0) (bs:=rnL S) (rs:=rs) (i:=i) (b:=B.rn) (r:=n) (by unfold rnL; rw [List.getElem?_map,hB]; rfl) hn
    refine ⟨Ta,_,rfl,SqT.of Ji3,rfl,_,_,rfl,_,_,rfl,rfl,?_⟩
    refine ⟨_,rfl,_,rfl,ob,_,dxb,_,_,rfl,hob,T.Jcs,T.Jcz,rfl,_,rfl,_,_,rfl,rfl,_,_,rfl,?_⟩
    refine ⟨_,rfl,.inl ⟨rfl,_,SqL.of (sT _ _ hFs)⟩,_,rfl,_,rfl,_,_,rfl,rfl,F,_,_,rfl,rfl,sT _ _ hFs,by rw [List.length_map,List.length_take]; exact Jiu (by omega),?_⟩
    refine ⟨_,rfl,_,rfl,_,_,rfl,rfl,?_⟩
    have e1 : (Jj9 l0 (rnL S) rs).take (i + 1) = (Jj9 l0 (rnL S) rs).take i ++ [n + mn (l0 - (((Jj9 l0 (rnL S) rs).take i).sum - (rs.take i).sum)) (B.rn - n)]:=by rw [List.take_add_one,step]; rfl
    have e2 : rs.take (i + 1) = rs.take i ++ [n]:=by rw [List.take_add_one,hn]; rfl
    have e3 : l0 - (((Jj9 l0 (rnL S) rs).take (i + 1)).sum - (rs.take (i + 1)).sum) = (l0 - (((Jj9 l0 (rnL S) rs).take i).sum - (rs.take i).sum)) - mn (l0 - (((Jj9 l0 (rnL S) rs).take i).sum - (rs.take i).sum)) (B.rn - n):=by
     rw [e1,e2,List.sum_append,List.sum_append,List.sum_singleton,List.sum_singleton]
     omega
    refine ⟨some (.ref ob),some (.int n),some (.int (mn (l0 - (((Jj9 l0 (rnL S) rs).take i).sum - (rs.take i).sum)) (B.rn - n))),by rw [e3]; rfl,by rw [Ji3,e1,List.map_append]; rfl,fun c ob' e=>?_⟩
    ·rw [Ji9 (Ji8 e hF)]
     exact sT _ _ (sm _ _ e)
  ·rintro σ H1 ⟨o1,o2,o3,rfl,hFs,sm⟩
   rw [List.take_of_length_le (by rw [flen,List.length_map]; omega)] at hFs
   exact ⟨_,rfl,F,_,rfl,.inl ⟨SqL.of hFs,fun u hu=>k u _ (sm.trans (Same.upd hu)) Ji3⟩⟩
end
abbrev lb_sky_of : Array (Nat × Nat × Str):=#[((Jne (nst (top 30) 2)).line,(Jne (nst (top 30) 2)).col,"sky_of.<locals>.sky")]
def RowsAt (H : Hp) (xs : List V) (rows : List (List Int)) : Prop:=xs.length = rows.length ∧ ∀ (i : Nat) (v : V) (row : List Int),xs[i]? = some v → rows[i]? = some row → ∃ t,v = .ref t ∧ H t = some (.tup (row.map V.int))
theorem RowsAt.same {H H' : Hp} {xs : List V} {rows : List (List Int)} (s : Same H H') (h : RowsAt H xs rows) : RowsAt H' xs rows:=⟨h.1,fun i v row e1 e2=>let ⟨t,e,q⟩:=h.2 i v row e1 e2; ⟨t,e,s _ _ q⟩⟩
theorem RowsAt.ll {H H' : Hp} {xs : List V} {rows : List (List Int)} (s : LL H H') (h : RowsAt H xs rows) : RowsAt H' xs rows:=⟨h.1,fun i v row e1 e2=>let ⟨t,e,q⟩:=h.2 i v row e1 e2; ⟨t,e,s.get (by intro _ z; cases z) q⟩⟩
def Jop (n : Nat) (rows : List (List Int)) : Prop:=rows.length ≤ 5 ∧ ∀ row ∈ rows,Jua n row
def Jkt (n : Nat) (rows : List (List Int)) (k : Nat) : List Int:=rows.getD k (List.replicate n 0)
theorem Jpf {n : Nat} {rows : List (List Int)} (h : Jop n rows) (k : Nat) : Jua n (Jkt n rows k):=by
 unfold Jkt
 rw [List.getD_eq_getElem?_getD]
 cases e : rows[k]? with
 | none=>exact ⟨by simp,fun m hm=>by rw [List.eq_of_mem_replicate hm]; omega⟩
 | some row=>exact h.2 row (List.mem_of_getElem? e)
def Jl9 (S : Riv) (wt : Int) (row : List Int) : List Int:=Jj9 (mx0 (Jk8 S wt - (rby (rnL S) row wt).sum)) (rnL S) (rby (rnL S) row wt)
def SkyAt (H : Hp) (f o KL nt : Addr) (xs : List V) (n : Nat) : Prop:=H KL = some (.lst xs) ∧ H nt = some (.tup ((List.replicate n (0 : Int)).map V.int)) ∧ CloAt H f "sky" "sky_of.<locals>.sky" (nst (top 30) 2) [("noughts",.ref nt),("river",.ref o),("kept",.ref KL)]
def spSky (K : W.Frag) (a : Ad) : List V → Sp:=fun cs vs H Q _=>∃ (x c u : V) (y : Addr) (wt : Int) (k : Nat) (o KL nt : Addr) (S : Riv) (xs : List V) (rows : List (List Int)),cs = [.ref nt,.ref o,.ref KL] ∧ vs = [.ref y,c,.int k] ∧ H y = some (.tup [u,.int wt]) ∧ 0 ≤ wt ∧ RivAt K a H o S ∧
 H KL = some (.lst xs) ∧ H nt = some (.tup ((List.replicate S.Bs.length (0 : Int)).map V.int)) ∧ RowsAt H xs rows ∧ Jop S.Bs.length rows ∧ ∀ (t : Addr) (H' : Hp),Same H H' → H' t = some (.tup ((Jl9 S wt (Jkt S.Bs.length rows k)).map V.int)) → Q (.ref t) H'
def spSof (K : W.Frag) (a : Ad) : Sp:=fun vs H Q _=>∃ (o l : Addr) (S : Riv) (xs : List V) (rows : List (List Int)),vs = [.ref o,.ref l] ∧ H a.Ji0 = some (.tbl lb_sky_of) ∧ RivAt K a H o S ∧ H l = some (.lst xs) ∧ RowsAt H xs rows ∧ Jop S.Bs.length rows ∧
 ∀ (f KL nt : Addr) (H' : Hp),Same H H' → H KL = none → SkyAt H' f o KL nt xs S.Bs.length → Q (.ref f) H'
section
variable {P : Program} {w : World} {K : W.Frag} {mg : Str → Option Value} {base : Heap} {a : Ad}
theorem sc_sky_of_sky : Jlt ["standing","choice","k","noughts","river","kept","wanted","wet"] ["standing","choice","k"] ["noughts","river","kept"] (Ji6 (nst (top 30) 2)):=⟨rfl,rfl,rfl,by decide +kernel,rfl,by decide +kernel,by decide +kernel,by decide +kernel⟩
theorem ok_sky (T : Tx K mg a) (f : Addr) : Jq6 P w K mg base CX0 2 f (Ju2 "sky" "sky_of.<locals>.sky" (nst (top 30) 2) ["noughts","river","kept"] (spSky K a) f):=by
 have G_rain_by:=Jt0 (P:=P) (w:=w) (base:=base) T
 have G_filled_up:=Jr6 (P:=P) (w:=w) (base:=base) T
 have G_forced_rain:=Jm5 (P:=P) (w:=w) (base:=base) T
 refine Jtj sc_sky_of_sky (fun _ _ _ _ _ us hl=>match us,hl with | [_,_,_],_=>rfl) (fun cs vs H Q E h=>?_) (fun f c clos A outer s H vs cs Q E hr h=>?_) f
 ·obtain ⟨x,c,u,y,wt,k,o,KL,nt,S,xs,rows,rfl,rfl,_⟩:=h
  exact ⟨rfl,rfl⟩
 ·obtain ⟨x,c,u,y,wt,k,o,KL,nt,S,xs,rows,rfl,rfl,hy,hw,ro,hK,hn,ra,rk,k'⟩:=h
  refine ⟨?t,?B,?C⟩
  case B =>
   refine' Ji4 ?s1 ?r1
   case s1 =>
    exact (Jig (i:=6) sc_sky_of_sky.nd rfl (Or.inl rfl) (Jw3 (Jji Jvv (pv 2) (Jib Jih (by rfl) T.Jah Jjb (Ji1 (pv 5) Ji2)) (Jj7 _)) (Jim Jiw (pv 5) (pv 2) (fun _ _=>rfl)) (pv 3)))
   case r1 =>
    refine' Ji4 ?s3 ?r3
    case s3 =>
     exact (Jig (i:=7) sc_sky_of_sky.nd rfl (Or.inl rfl) (Jim Jj5 (pv 0) Ji5 (fun _ _=>rfl)))
    case r3 =>
     refine' Ji7 ?s5
     case s5 =>
      exact (Jif (Jia T.Jb G_filled_up hr (by decide) (Ji1 (pv 4) (Ji1 (Jia T.Ja G_rain_by hr (by decide) (Ji1 (pv 4) (Ji1 (pv 7) (Ji1 (pv 6) Ji2)))) (Ji1 (Jia T.J7 G_forced_rain hr (by decide) (Ji1 (pv 4) (Ji1 (pv 7) Ji2))) Ji2)))))
  have nn:=Jpf rk k
  have fin : ∀ q : Addr,H q = some (.tup ((Jkt S.Bs.length rows k).map V.int)) → tSeq (tAsg (tOp (rIxT K) (Jq4 0) (tC (.int 1))) (Jmq 7)) (tRet (Jsf (Jsc K a) [] E0 (Jj0 (Jq4 4) (Jj0 (Jsf (Jse K a) [] E0 (Jj0 (Jq4 4) (Jj0 (Jq4 7) (Jj0 (Jq4 6) Jpi)))) (Jj0 (Jsf (Jsd K a) [] E0 (Jj0 (Jq4 4) (Jj0 (Jq4 7) Jpi))) Jpi))))) { nx:=fun _ H'=>Q .non H', rt:=Q } [some (.ref y),some c,some (.int k),some (.ref nt),some (.ref o),some (.ref KL),some (.ref q),none] H:=by
   intro q hq
   obtain ⟨ft,_⟩:=Jma (bs:=rnL S) (ns:=Jkt S.Bs.length rows k) (l:=wt) (by rw [Jjo]; exact nn.1) (fun m hm=>(nn.2 m hm).1) (fun x hx=>by
    obtain ⟨B,hB,rfl⟩:=List.mem_map.mp hx
    obtain ⟨_,_,_,_,_,_,_,_,_,_,_,_,n3⟩:=ro
    exact (n3 B hB).1) hw
   refine ⟨_,rfl,y,_,1,_,rfl,rfl,SqT.of hy,rfl,?_⟩
   refine ⟨_,rfl,_,rfl,_,rfl,_,rfl,o,S,wt,q,_,rfl,ro,hq,nn,hw,fun D H1 s1 hD=>?_⟩
   refine ⟨_,rfl,_,rfl,o,S,wt,rfl,ro.same s1,fun H2 s2=>?_⟩
   exact ⟨o,S,D,_,_,rfl,(ro.same s1).same s2,s2 _ _ hD,ft,fun t H3 s3 ht=>k' t H3 ((s1.trans s2).trans s3) ht⟩
  have e : Jkt S.Bs.length rows k = (rows[k]?).getD (List.replicate S.Bs.length 0):=by unfold Jkt; rw [List.getD_eq_getElem?_getD]
  refine ⟨_,rfl,_,rfl,KL,_,rfl,.inl (SqL.of hK),_,_,rfl,rfl,_,rfl,?_⟩
  by_cases hk : k < xs.length
  ·have hk' : k < rows.length:=by rw [← ra.1]; exact hk
   obtain ⟨q,eq,hq⟩:=ra.2 k xs[k] rows[k] (List.getElem?_eq_getElem hk) (List.getElem?_eq_getElem hk')
   refine ifT (decide_eq_true (by omega)) ⟨_,rfl,_,rfl,KL,_,_,_,rfl,rfl,SqL.of hK,Jlb (List.getElem?_eq_getElem hk),?_⟩
   rw [eq]
   exact fin q (by rw [e,List.getElem?_eq_getElem hk']; exact hq)
  ·refine ifF (decide_eq_false (by omega)) ⟨_,rfl,?_⟩
   exact fin nt (by rw [e,List.getElem?_eq_none (by rw [← ra.1]; omega)]; exact hn)
theorem sc_sky_of : Jic ["river","rains","kept","noughts","sky"] ["river","rains"] (Ji6 (top 30)):=⟨rfl,rfl,rfl,by decide +kernel,rfl,by decide +kernel,by decide +kernel⟩
theorem Juo (T : Tx K mg a) (B : Bmn mg base) : FnOk P w K mg base CX0 1 a.Jf4 a.Jf5 ["river","rains"] (spSof K a):=by
 refine T.Jc.fn.okN T.Jdf sc_sky_of (fun vs H Q E h=>?_) (fun A outer s H vs Q E hr h=>?_)
 ·obtain ⟨o,l,S,xs,rows,rfl,_⟩:=h
  rfl
 ·obtain ⟨o,l,S,xs,rows,rfl,ht,ro,hl,ra,rk,k⟩:=h
  refine ⟨?t,PB.nox ?B,?C⟩
  case B =>
   refine' Jok ?s1 ?r1
   case s1 =>
    exact (Jig (i:=2) sc_sky_of.nd rfl (Or.inr rfl) (Jiz (N:=(["row"] : List Str)) (ini:=[none]) rfl (Jj8 (pv 1)) (fun _ _ _ _ _=>(Jie (i:=0) (by decide +kernel : (["row"] : List Str).Nodup) rfl (Or.inl rfl))) (fun _ _ _ _ _=>Jit) (fun _ _ _ _ _=>(Jin (Jow (K:=K) rfl) (by rfl) T.Jap Jj6 (Ji1 (pv 0) Ji2)))))
   case r1 =>
    refine' Jok ?s3 ?r3
    case s3 =>
     exact (Jig (i:=3) sc_sky_of.nd rfl (Or.inr rfl) (Jin Jis (by rfl) T.Jap Jj6 (Ji1 (Jiz (N:=(["basin"] : List Str)) (ini:=[none]) rfl (Jpd (Jk0 (pv 0) (by rfl))) (fun _ _ _ _ _=>(Jie (i:=0) (by decide +kernel : (["basin"] : List Str).Nodup) rfl (Or.inl rfl))) (fun _ _ _ _ _=>Jit) (fun _ _ _ _ _=>Ji5)) Ji2)))
    case r3 =>
     refine' Jw0 (st:=nst (top 30) 2) (name := "sky") (qual := "sky_of.<locals>.sky") (i:=4) (lb:=lb_sky_of) (caps:=[("noughts",3),("river",0),("kept",2)]) T.Jdf B rfl rfl rfl rfl rfl (by rfl) Jvq (fun _=>Jtu) sc_sky_of.nd rfl rfl (by intro y hy; simp only [List.mem_cons,List.not_mem_nil,or_false] at hy; rcases hy with rfl | rfl | rfl <;> exact ⟨rfl,by decide,rfl,rfl,rfl⟩) (by decide +kernel) ?r5
     case r5 =>
      refine' PSs.pb ?s6
      case s6 =>
       refine' Ji7 ?s7
       case s7 =>
        exact (Jif (pv 4))
  obtain ⟨dx,b,t,os,ts,ho,hb,bl,ht', tl,n1,n2,n3⟩:=id ro
  have len:=bl.len
  have x5 : xs.length ≤ 5:=by rw [ra.1]; exact rk.1
  refine ⟨_,rfl,l,rfl,⟨_,SqL.of hl⟩,fun KL hKL=>?_⟩
  refine Jlf xs hKL rfl (by omega) hl ?_ ?_
  ·intro i x y H' Q' hx hy sm k'
   rw [hx] at hy
   cases hy
   have hi : i < rows.length:=by rw [← ra.1]; exact (List.getElem?_eq_some_iff.mp hx).1
   obtain ⟨q,rfl,hq⟩:=ra.2 i x rows[i] hx (List.getElem?_eq_getElem hi)
   exact ⟨_,rfl,q,_,rfl,.inr ⟨SqT.of (sm _ _ hq),k' _ fun _ _ h=>h⟩⟩
  intro H1 s1 hK1
  refine ⟨_,rfl,o,_,dx,_,_,rfl,s1 _ _ ho,T.Jd7,T.Jdb,rfl,b,rfl,⟨_,SqT.of (s1 _ _ hb)⟩,fun D hD=>?_⟩
  refine Jl6 ((List.replicate S.Bs.length (0 : Int)).map V.int) hD (by simp [len]) (by rw [List.length_map]; omega) (s1 _ _ hb) ?_ ?_
  ·intro i x y H' Q' hx hy sm k'
   have e : y = .int 0:=by
    rw [List.map_replicate,List.getElem?_replicate] at hy
    split at hy
    ·exact (Option.some.inj hy).symm
    ·cases hy
   subst e
   exact k' _ (fun _ _ h=>h)
  intro H2 s2 hD2
  refine ⟨D,_,rfl,.inl ⟨SqL.of hD2,fun nt hnt=>?_⟩⟩
  have s3:=Same.upd (o:=.tup ((List.replicate S.Bs.length (0 : Int)).map V.int)) hnt
  have s13:=(s1.trans s2).trans s3
  refine ⟨s13 _ _ ht,[.ref nt,.ref o,.ref KL],?_,rfl,fun f H' s' hf clo=>?_⟩
  ·intro y hy
   simp only [List.zip_cons_cons,List.zip_nil_right,List.mem_cons,List.not_mem_nil,or_false] at hy
   rcases hy with rfl | rfl | rfl <;> rfl
  ·exact ⟨_,rfl,k f KL nt H' (s13.trans s') hKL ⟨s' _ _ (s3 _ _ (s2 _ _ hK1)),s' _ _ Ji3,clo⟩⟩
end
theorem log1m {i : Int} (h0 : 0 < i) (h : i ≤ 1000000) : i.natAbs.log2 < 9000:=Nat.lt_of_lt_of_le ((Nat.log2_lt (by omega)).mpr (show i.natAbs < 2 ^ 20 by omega)) (by decide)
def Jrg (R : Jja) : List Int:=R.Bs.map (·.rn)
def Jto (R : Jja) (wt : Int) (row : List Int) : List Int:=Jj9 (mx0 (Jkw R wt - (rby (Jrg R) row wt).sum)) (Jrg R) (rby (Jrg R) row wt)
def Jxy : Sp:=fun vs H Q _=>∃ (p : Addr) (x : V) (R : Jja) (wet : Int) (q : Addr) (ns : List Int),vs = [x,.int wet,.ref q] ∧ RTAt p H x R ∧ Jko R ∧ H q = some (.tup (ns.map V.int)) ∧ Jua R.Bs.length ns ∧ 0 ≤ wet ∧ ∀ (u : Addr) (H' : Hp),Same H H' → H' u = some (.tup ((Jto R wet ns).map V.int)) → Q (.ref u) H'
def Jy1 : Sp:=fun vs H Q _=>∃ (p : Addr) (x : V) (R : Jja),vs = [.ref p,x] ∧ Strm H p ∧ RTAt p H x R ∧ Jko R ∧ ∀ (l : Addr) (xs : List V) (rows : List (List Int)) (H' : Hp),But p H H' → H l = none → H' l = some (.lst xs) → RowsAt H' xs rows → Jop R.Bs.length rows → Q (.ref l) H'
section
variable {P : Program} {w : World} {K : W.Frag} {mg : Str → Option Value} {base : Heap} {a : Ad}
theorem sc_law_fell : Jic ["_law_told","_law_wet","_law_row","_law_found","_law_one","_law_number"] ["_law_told","_law_wet","_law_row"] (Ji6 (top 73)):=⟨rfl,rfl,rfl,by decide +kernel,rfl,by decide +kernel,by decide +kernel⟩
theorem Js2 (T : Tx K mg a) : FnOk P w K mg base CX0 3 a.Jgw a.Jgx ["_law_told","_law_wet","_law_row"] Jxy:=by
 have G__law_raised:=Jpv (P:=P) (w:=w) (base:=base) T
 refine T.Jx.fn.ok sc_law_fell (fun vs H Q E h=>?_) (fun cdv A outer s H vs Q E hr h=>?_)
 ·obtain ⟨p,x,R,wet,q,ns,rfl,_⟩:=h
  rfl
 ·obtain ⟨p,x,R,wet,q,ns,rfl,rt,rg,hq,nn,hw,k⟩:=h
  refine ⟨?t,?B,?C⟩
  case B =>
   refine' Ji4 ?s1 ?r1
   case s1 =>
    exact (Jig (i:=3) sc_law_fell.nd rfl (Or.inl rfl) (Jjn Ji2))
   case r1 =>
    refine' Ji4 ?s3 ?r3
    case s3 =>
     refine' Jkl ?f4_0 ?f4_1 ?f4_2 ?f4_3 ?f4_4
     case f4_0 =>
      exact PassesOwn.never
     case f4_1 =>
      exact rfl
     case f4_2 =>
      exact (Jrd false true (by rfl) T.Jaq (Ji1 (Jim Jj5 (pv 0) Ji5 (fun _ _=>rfl)) (Ji1 (pv 2) Ji2)))
     case f4_3 =>
      exact (Jn3 rfl (Jio (Jie (i:=4) sc_law_fell.nd rfl (Or.inl rfl)) (Jio (Jie (i:=5) sc_law_fell.nd rfl (Or.inl rfl)) Jky)))
     case f4_4 =>
      refine' Ji7 ?s5
      case s5 =>
       exact (Jjv (Jo7 F.plainAttrs_list F.slot_list_append F.type_list_append Jk5 (pv 3) (Ji1 (Jib (Jqb rfl) (by rfl) T.Jak Jlc (Ji1 (pv 5) (Ji1 (Jim Jj5 (pv 4) Ji5 (fun _ _=>rfl)) (Ji1 (Jij Jjt (pv 1) (Jib (Jkp rfl) (by rfl) T.Jao Jmy (Ji1 (pv 3) Ji2))) Ji2)))) Ji2)))
    case r3 =>
     refine' Ji7 ?s7
     case s7 =>
      exact (Jif (Jia T.Jw G__law_raised hr (by decide) (Ji1 (pv 0) (Ji1 (pv 1) (Ji1 (pv 3) Ji2)))))
  obtain ⟨t,lb,lt,bs,ts,rfl,ht,hb,btl,htt,ttl,nb,nt⟩:=id rt
  have blen:=btl.len
  have hn:=rg.n
  have rl : (Jrg R).length = R.Bs.length:=List.length_map ..
  have b6 : ∀ x ∈ Jrg R,0 ≤ x ∧ x ≤ 6:=fun x hx=>by
   obtain ⟨B,hB,rfl⟩:=List.mem_map.mp hx
   exact (rg.Bs B hB).1.rn
  obtain ⟨ft,_⟩:=Jma (l:=wet) (by rw [rl]; exact nn.1) (fun m hm=>(nn.2 m hm).1) (fun x hx=>(b6 x hx).1) hw
  refine ⟨(show 0 ≤ sizeLine by decide),fun F hF=>?_⟩
  have s1:=Same.upd (o:=.lst []) hF
  refine ⟨_,rfl,t,_,2,_,rfl,rfl,SqT.of (s1 _ _ ht),rfl,_,rfl,lb,q,rfl,⟨_,SqL.of (s1 _ _ hb)⟩,⟨_,SqT.of (s1 _ _ hq)⟩,?_⟩
  refine Jp0 (xs:=bs) (ys:=ns.map V.int) (fun i σ H'=>∃ (o1 o2 : Option V),σ = [some (.ref t),some (.int wet),some (.ref q),some (.ref F),o1,o2] ∧ H' F = some (.lst (((rby (Jrg R) ns wet).take i).map V.int)) ∧ Same H H') ⟨_,_,rfl,Ji3,s1⟩ (fun i σ H' _ ⟨_,_,_,_,sm⟩=>⟨SqL.of (sm _ _ hb),SqT.of (sm _ _ hq)⟩) (by rw [List.length_map,blen]; exact nn.1.symm) ?_ ?_
  ·rintro i x y σ H' Ta hx hy ⟨o1,o2,rfl,hFs,sm⟩ hT
   have sT:=Same.upd (o:=.tup [x,y]) hT
   obtain ⟨B,eB,tb,g,rfl,htb,gt⟩:=btl.get hx
   rw [List.getElem?_map] at hy
   cases hn' : ns[i]? with
   | none=>rw [hn'] at hy; cases hy
   | some n =>
    rw [hn'] at hy
    cases hy
    have hi : i < R.Bs.length:=(List.getElem?_eq_some_iff.mp eB).1
    have step:=Jrf (bs:=Jrg R) (ns:=ns) (l:=wet) (i:=i) (b:=B.rn) (n:=n) (by unfold Jrg; rw [List.getElem?_map,eB]; rfl) hn'
    refine ⟨Ta,_,rfl,SqT.of Ji3,rfl,_,_,rfl,_,_,rfl,rfl,?_⟩
    refine ⟨_,rfl,.inl ⟨rfl,_,SqL.of (sT _ _ hFs)⟩,_,rfl,_,rfl,tb,_,4,_,rfl,rfl,SqT.of (sT _ _ (sm _ _ htb)),rfl,_,rfl,_,rfl,F,_,rfl,.inl (SqL.of (sT _ _ hFs)),Joz ft (by rw [rl]; omega) b6 i,_,_,rfl,rfl,_,_,_,rfl,?_⟩
    refine ⟨F,_,_,rfl,rfl,sT _ _ hFs,by rw [List.length_map,List.length_take]; exact Jiu (by omega),?_⟩
    refine ⟨_,_,rfl,by rw [Ji3,List.take_add_one,step,List.map_append]; rfl,fun c ob' e=>?_⟩
    rw [Ji9 (Ji8 e hF)]
    exact sT _ _ (sm _ _ e)
  ·rintro σ H1 ⟨o1,o2,rfl,hFs,sm⟩
   rw [List.take_of_length_le (by rw [Jnf (by rw [rl]; exact nn.1),rl]; omega)] at hFs
   exact ⟨_,rfl,_,rfl,_,rfl,p,_,R,wet,F,_,rfl,rt.same rg sm,rg,hFs,ft,fun u H2 s2 hu=>k u H2 (sm.trans s2) hu⟩
theorem sc_law_rows : Jic ["_law_stream_here","_law_told","_law_rows_here","_law_k","_law_most"] ["_law_stream_here","_law_told"] (Ji6 (top 74)):=⟨rfl,rfl,rfl,by decide +kernel,rfl,by decide +kernel,by decide +kernel⟩
theorem Js5 (T : Tx K mg a) : FnOk P w K mg base CX0 2 a.Jgy a.Jgz ["_law_stream_here","_law_told"] Jy1:=by
 have G__law_take:=Jjk (P:=P) (w:=w) (base:=base) T
 refine T.Jy.fn.ok sc_law_rows (fun vs H Q E h=>?_) (fun cdv A outer s H vs Q E hr h=>?_)
 ·obtain ⟨p,x,R,rfl,_⟩:=h
  rfl
 ·obtain ⟨p,x,R,rfl,st,rt,rg,k⟩:=h
  refine ⟨?t,?B,?C⟩
  case B =>
   refine' Ji4 ?s1 ?r1
   case s1 =>
    exact (Jig (i:=2) sc_law_rows.nd rfl (Or.inl rfl) (Jjn Ji2))
   case r1 =>
    refine' Ji4 ?s3 ?r3
    case s3 =>
     refine' Jkl ?f4_0 ?f4_1 ?f4_2 ?f4_3 ?f4_4
     case f4_0 =>
      exact PassesOwn.never
     case f4_1 =>
      exact rfl
     case f4_2 =>
      exact (Jl8 (by rfl) T.Jal (Ji1 (Jia T.Jl G__law_take hr (by decide) (Ji1 (pv 0) (Ji1 Ji5 Ji2))) Ji2))
     case f4_3 =>
      exact (Jie (i:=3) sc_law_rows.nd rfl (Or.inl rfl))
     case f4_4 =>
      refine' Ji4 ?s5 ?r5
      case s5 =>
       exact (Jig (i:=4) sc_law_rows.nd rfl (Or.inr rfl) (Jim Jiw (Jjn (pa4 Ji5 Ji5 Ji5 (Jij Jvy Ji5 Ji5))) (Jia T.Jl G__law_take hr (by decide) (Ji1 (pv 0) (Ji1 Ji5 Ji2))) (fun _ _=>rfl)))
      case r5 =>
       refine' Ji7 ?s7
       case s7 =>
        exact (Jjv (Jo7 F.plainAttrs_list F.slot_list_append F.type_list_append Jk5 (pv 2) (Ji1 (Jin Jis (by rfl) T.Jap Jj6 (Ji1 (Jiz (N:=(["_law_one","_law_stream_here","_law_most"] : List Str)) (ini:=[none,some 0,some 4]) rfl (Jj8 (Jim Jj5 (pv 1) Ji5 (fun _ _=>rfl))) (fun _ _ _ _ _=>(Jie (i:=0) (by decide +kernel : (["_law_one","_law_stream_here","_law_most"] : List Str).Nodup) rfl (Or.inl rfl))) (fun _ _ _ _ _=>Jit) (fun _ _ _ _ _=>(Jia T.Jl G__law_take hr (by decide) (Ji1 (pv 1) (Ji1 (pv 2) Ji2))))) Ji2)) Ji2)))
    case r3 =>
     refine' Ji7 ?s9
     case s9 =>
      exact (Jif (pv 2))
  obtain ⟨t,lb,lt,bs,ts,rfl,ht,hb,btl,htt,ttl,nb,nt⟩:=id rt
  have blen:=btl.len
  have hn:=rg.n
  refine ⟨(show 0 ≤ sizeLine by decide),fun F hF=>?_⟩
  have s1:=Same.upd (o:=.lst []) hF
  have nF : F ≠ p:=st.ne hF
  refine ⟨_,rfl,p,_,rfl,st.same s1,by omega,Jms (by omega),fun m H1 m0 m1 b1=>?_⟩
  have b01:=(But.of st s1).trans b1
  have hF1:=b1.1 _ _ nF Ji3
  refine ⟨_,rfl,by omega,by omega,?_⟩
  refine Jns (fun i σ H'=>∃ (o1 o2 : Option V) (xs : List V) (rows : List (List Int)),σ = [some (.ref p),some (.ref t),some (.ref F),o1,o2] ∧ H' F = some (.lst xs) ∧ xs.length = i ∧ RowsAt H' xs rows ∧ (∀ row ∈ rows,Jua R.Bs.length row) ∧ But p H H') ⟨_,_,[],[],rfl,hF1,rfl,⟨rfl,fun i v row e=>by simp at e⟩,fun row h=>by simp at h,b01⟩ ?_ ?_
  ·rintro i σ H' hi ⟨o1,o2,xs,rows,rfl,hFs,hl,ra,rk,b⟩
   refine ⟨_,_,rfl,rfl,⟨by decide,by decide,by decide⟩,(show 4 ≤ sizeLine by decide),fun L hL=>?_⟩
   have sL:=Same.upd (o:=.lst [.int 3,.int 7,.int 21,.int (10 ^ 6)]) hL
   have b2:=b.same sL
   refine ⟨_,rfl,p,_,rfl,b2.2,by omega,Jms (by omega),fun c H2 c0 c1 b3=>?_⟩
   have nL : L ≠ p:=b.2.ne hL
   have hL2:=b3.1 _ _ nL Ji3
   obtain ⟨mo,hat,hmo⟩ : ∃ mo : Int,atI [V.int 3,.int 7,.int 21,.int (10 ^ 6)] c = some (.int mo) ∧ 0 < mo ∧ mo ≤ 1000000:=by
    have : c = 0 ∨ c = 1 ∨ c = 2 ∨ c = 3:=by omega
    rcases this with rfl | rfl | rfl | rfl
    ·exact ⟨3,rfl,by omega,by omega⟩
    ·exact ⟨7,rfl,by omega,by omega⟩
    ·exact ⟨21,rfl,by omega,by omega⟩
    ·exact ⟨10 ^ 6,rfl,by decide,by decide⟩
   refine ⟨L,_,_,_,rfl,rfl,SqL.of hL2,hat,?_⟩
   have b4:=b2.trans b3
   have ht4:=b4.1 _ _ (Jk2 st ht (fun _ _ _ z=>by cases z)) ht
   have hb4:=b4.1 _ _ nb hb
   have hF4 : H2 F = some (.lst xs):=b3.1 _ _ nF (sL _ _ hFs)
   refine ⟨_,rfl,.inl ⟨rfl,_,SqL.of hF4⟩,_,rfl,t,_,2,_,rfl,rfl,SqT.of ht4,rfl,lb,rfl,⟨_,SqL.of hb4⟩,fun D hD=>?_⟩
   have nD : D ≠ p:=b4.2.ne hD
   refine Jmz (p:=p) (fun i y=>∃ n : Int,y = .int n ∧ (0 ≤ n ∧ n ≤ 1000000)) b4.2 hD (by omega) hb4 nb ?_ ?_
   ·intro i x H' Q' hx b' k'
    exact ⟨_,rfl,_,rfl,p,mo,rfl,b'.2,hmo.1,log1m hmo.1 hmo.2,fun r H5 r0 r1 b5=>k' _ _ b5 ⟨r,rfl,r0,by omega⟩⟩
   ·intro ys H5 b5 hD5 hl5 hy
    obtain ⟨ns,rfl,hns⟩:=Jr2 hy
    rw [List.length_map] at hl5
    refine ⟨D,_,rfl,.inl ⟨SqL.of hD5,fun u hu=>?_⟩⟩
    have su:=Same.upd (o:=.tup (ns.map V.int)) hu
    have b6:=b5.same su
    have hF6 : upd H5 u (.tup (ns.map V.int)) F = some (.lst xs):=b6.1 _ _ nF hF4
    refine ⟨F,_,_,rfl,rfl,hF6,Jiu (by omega),?_⟩
    have b06:=b4.trans b6
    have nuF : u ≠ F:=(Ji8 (b5.1 _ _ nF hF4) hu).symm
    have la : LL H' (upd (upd H5 u (.tup (ns.map V.int))) F (.lst (xs ++ [V.ref u]))):=((LL.same sL).trans (LL.but b2.2 b3)).trans ((LL.but b4.2 b6).trans (LL.upd hF6))
    refine ⟨_,_,xs ++ [.ref u],rows ++ [ns],rfl,Ji3,by rw [List.length_append,hl]; rfl,⟨by rw [List.length_append,List.length_append,ra.1]; rfl,fun j v row e1 e2=>?_⟩,fun row hr'=>?_,b06.updD hF nF⟩
    ·by_cases hj : j < xs.length
     ·rw [List.getElem?_append_left hj] at e1
      rw [List.getElem?_append_left (by rw [← ra.1]; exact hj)] at e2
      exact (ra.ll la).2 j v row e1 e2
     ·have hj' : j = xs.length:=by
       have:=(List.getElem?_eq_some_iff.mp e1).1
       rw [List.length_append] at this
       simp at this
       omega
      subst hj'
      rw [List.getElem?_append_right (Nat.le_refl _),Nat.sub_self] at e1
      rw [List.getElem?_append_right (by rw [ra.1]; exact Nat.le_refl _),ra.1,Nat.sub_self] at e2
      cases e1
      cases e2
      exact ⟨u,rfl,by rw [Ji9 nuF]; exact Ji3⟩
    ·rcases List.mem_append.mp hr' with z | z
     ·exact rk row z
     ·rw [List.mem_singleton.mp z]
      refine ⟨by omega,fun m hm=>?_⟩
      obtain ⟨j,hj⟩:=List.getElem?_of_mem hm
      exact hns j m hj
  ·rintro σ H2 ⟨o1,o2,xs,rows,rfl,hFs,hl,ra,rk,b⟩
   exact ⟨_,rfl,k F xs rows H2 b hF hFs ra ⟨by rw [← ra.1]; omega,rk⟩⟩
end
section
variable {P : Program} {w : World} {K : W.Frag} {mg : Str → Option Value} {base : Heap} {a : Ad}
theorem Jpn : bootBuiltins "ValueError" = some (.type "ValueError"):=by decide +kernel
theorem own_bl {H : Hp} {x : V} (h : Own H x) : ∃ t c,TyX K H x t ∧ W.kitOne K t (.type "bool") = some c:=by
 rcases h with h | ⟨p,rfl,⟨vs,h | h,hv⟩ | h | ⟨k,v,h⟩⟩
 ·cases x with
  | non=>exact ⟨_,false,.of .non,rfl⟩
  | bl b=>exact ⟨_,true,.of (.bl b),rfl⟩
  | int i=>exact ⟨_,false,.of (.int i),rfl⟩
  | str z=>exact ⟨_,false,.of (.str z),rfl⟩
  | _=>cases h
 ·exact ⟨_,false,.of (.lst h),rfl⟩
 ·exact ⟨_,false,.of (.tup h),rfl⟩
 ·exact ⟨_,false,.of (.dK h),rfl⟩
 ·exact ⟨_,false,.of (.dK h),rfl⟩
def NoL (K : W.Frag) (H : Hp) (x : V) : Prop:=(∃ t,TyX K H x t ∧ W.kitOne K t (.type "list") = some false) ∨ ∃ l,x = .ref l ∧ H l = some (.lst [])
theorem NoL.same {H H' : Hp} {x : V} (s : Same H H') (h : NoL K H x) : NoL K H' x:=by
 rcases h with ⟨t,h1,h2⟩ | ⟨l,e,h⟩
 ·exact .inl ⟨t,Jll s h1,h2⟩
 ·exact .inr ⟨l,e,s _ _ h⟩
def spLRef (K : W.Frag) (a : Ad) : Sp:=fun vs H Q _=>∃ (x : V),vs = [x] ∧ H a.Jhy = some (.tbl lb_keeper_of) ∧ NoL K H x ∧ Own H x ∧ ∀ H', Same H H' → Q (.bl true) H'
theorem sc_law_refused : Jic ["_law_thing","_law_found","e"] ["_law_thing"] (Ji6 (top 75)):=⟨rfl,rfl,rfl,by decide +kernel,rfl,by decide +kernel,by decide +kernel⟩
theorem Jpa (T : Tx K mg a) (B : Bmn mg base) : FnOk P w K mg base CX0 4 a.Jh0 a.Jh1 ["_law_thing"] (spLRef K a):=by
 have G_keeper_of:=Jlh (P:=P) (w:=w) (base:=base) T B
 refine T.Jz.fn.ok sc_law_refused (fun vs H Q E h=>?_) (fun cdv A outer s H vs Q E hr h=>?_)
 ·obtain ⟨x,rfl,_⟩:=h
  rfl
 ·obtain ⟨x,rfl,ht,nl,ow,k⟩:=h
  have hu64:=Jtr hr
  refine ⟨?t,?B,?C⟩
  case B =>
   refine' Ji4 ?s1 ?r1
   case s1 =>
    exact (Jig (i:=1) sc_law_refused.nd rfl (Or.inl rfl) Jl2)
   case r1 =>
    refine' Ji4 ?s3 ?r3
    case s3 =>
     exact (ps_try ⟨rfl,rfl⟩ (fun _ _ hw=>(Ji7 (Jjv (Jkk T.J9 G_keeper_of hw hr (by decide) (Ji1 (pv 0) Ji2))))) (by exact ph_as T.Jc5 T.Jaz sc_law_refused.nd (i:=2) rfl rfl (fun _=>(Ji7 (Jig (i:=1) sc_law_refused.nd rfl (Or.inl rfl) (pv 2)))) ph_nil))
    case r3 =>
     refine' Ji4 ?s5 ?r5
     case s5 =>
      refine' Jiy ?c6 ?a6 ?b6
      case c6 =>
       exact (Jm9 (Jji Jvu (pv 1) Jl2 (Jj7 _)) (Jm9 (Jip (Jiq (Jib Jjj (by rfl) T.Jag Jii (Ji1 (pv 1) (Ji1 (Jjd (by rfl) T.Jar (v:=.ref _) rfl) Ji2))))) (Jlj (Jip (Jiq (Jib Jjj (by rfl) T.Jag Jii (Ji1 (pv 1) (Ji1 (Jjm (v:=.ty "ValueError") (by rfl) T.Jab Jpn rfl) Ji2)))))))).pt
      case a6 =>
       refine' Ji7 ?s7
       case s7 =>
        exact (Jif Jjx)
      case b6 =>
       exact Jik
     case r5 =>
      refine' Ji4 ?s11 ?r11
      case s11 =>
       refine' Jiy ?c12 ?a12 ?b12
       case c12 =>
        exact (Jiq (Jib Jn8 (by rfl) T.Jag Jii (Ji1 (pv 1) (Ji1 (Jk9 (Ji1 (Jjd (by rfl) T.Jay (v:=.ref _) rfl) (Ji1 (Jjd (by rfl) T.Jb0 (v:=.ref _) rfl) Ji2))) Ji2))))
       case a12 =>
        refine' Ji7 ?s13
        case s13 =>
         exact (Jif Jjx)
       case b12 =>
        exact Jik
      case r11 =>
       refine' Ji7 ?s17
       case s17 =>
        exact (Jif (Jrb (Jki Jmv (Jib Jjj (by rfl) T.Jag Jii (Ji1 (Jty (pv 1) (by rfl)) (Ji1 (Jjm (v:=.ty "bool") (by rfl) T.Jad Jqv rfl) Ji2))) (Jib Jjj (by rfl) T.Jag Jii (Ji1 (pv 0) (Ji1 (Jjm (v:=.ty "bool") (by rfl) T.Jad Jqv rfl) Ji2))) (Jj7 _)) (Jrc (Jki (op_eqO hu64) (Jty (pv 1) (by rfl)) (pv 0) (Jj7 _)))))
  refine fun pins=>⟨_,rfl,x,rfl,ht,.inr ⟨nl,?_⟩⟩
  intro c eo H1 rf
  obtain ⟨e,dx,rfl,rfl,s1,q1,q2⟩:=rf
  have ty : ∀ {H'},Same H1 H' → TyX K H' (.ref e) (.ref a.Jhm):=fun s=>.exc (s _ _ q1) (s _ _ q2) T.Jc4
  obtain ⟨t,b,tb,eb⟩:=own_bl (K:=K) (Own.same s1 ow)
  refine ⟨e,_,true,rfl,rfl,T.Jdz,Jjr ?_⟩
  refine ⟨_,rfl,?_⟩
  refine ⟨_,rfl,rfl,_,rfl,ifF (decide_eq_false (fun z=>by cases z)) ?_⟩
  refine ⟨_,rfl,_,_,_,_,_,rfl,rfl,ty (Same.refl H1),T.Jdx,_,rfl,Jj3 ⟨_,rfl,_,_,_,_,_,rfl,rfl,ty (Same.refl H1),T.Jdy,_,rfl,Jj3 ?_⟩⟩
  refine ⟨_,rfl,(show 2 ≤ sizeLine by decide),fun tp etp=>?_⟩
  have s2:=Same.upd (o:=.tup [.ref a.Jhl,.ref a.Jhn]) etp
  refine ⟨_,tp,_,_,_,false,rfl,Ji3,rfl,ty s2,(show W.kitAny K (.ref a.Jhm) [.ref a.Jhl,.ref a.Jhn] = some false by simp only [W.kitAny,T.Jdv,T.Jdw]),_,rfl,Jj3 ?_⟩
  refine ⟨_,rfl,e,_,_,_,dx,_,_,_,rfl,s2 _ _ q1,s2 _ _ q2,T.Jc4,T.Jc6,rfl,?_⟩
  refine ⟨_,_,_,t,b,rfl,rfl,Jll s2 tb,eb,_,rfl,_,_,_,t,b,rfl,rfl,Jll s2 tb,eb,rfl,?_⟩
  rw [decide_eq_true rfl]
  exact ⟨_,rfl,Jjr ⟨_,rfl,e,_,_,_,dx,_,_,_,rfl,s2 _ _ q1,s2 _ _ q2,T.Jc4,T.Jc6,rfl,_,rfl,rfl,Own.same (s1.trans s2) ow,k _ (s1.trans s2)⟩⟩
end
theorem Jwy : ∀ {ls : List Int} {Bs : List Jkc},ls.length = Bs.length → (∀ (i : Nat) (n : Int),ls[i]? = some n → ∃ B,Bs[i]? = some B ∧ B.lo ≤ n ∧ n ≤ B.hi) → (wl (ls.map V.int) (Bs.map (·.lo)) (Bs.map (·.hi))).all id = true
 | [],[],_,_=>rfl
 | n :: ls,B :: Bs,e,h=>by
  have h0 : B.lo ≤ n ∧ n ≤ B.hi:=by
   obtain ⟨B', e', q⟩:=h 0 n rfl
   obtain rfl : B = B':=by simpa using e'
   exact q
  have t:=Jwy (ls:=ls) (Bs:=Bs) (by simpa using e) (fun i n hi=>by
   obtain ⟨B', e', q⟩:=h (i + 1) n (by simpa using hi)
   exact ⟨B', by simpa using e', q⟩)
  show ((decide (B.lo ≤ n) && decide (n ≤ B.hi)) && _) = true
  rw [decide_eq_true h0.1,decide_eq_true h0.2]
  exact t
 | [],_ :: _,e,_=>by simp at e
 | _ :: _,[],e,_=>by simp at e
theorem Ju6 : ∀ {ms hs : List Int},Fits ms hs → (wl (ms.map V.int) (List.replicate hs.length 0) hs).all id = true
 | [],[],_=>rfl
 | m :: ms,h :: hs,f=>by
  have t:=Ju6 (ms:=ms) (hs:=hs) f.2
  show ((decide ((0 : Int) ≤ m) && decide (m ≤ h)) && _) = true
  rw [decide_eq_true f.1.1,decide_eq_true f.1.2]
  exact t
 | [],_ :: _,f=>f.elim
 | _ :: _,[],f=>f.elim
theorem std_st {H : Hp} {x : V} {R : Jja} {S : Riv} {ls : List Int} {wt : Int} {u : V} (lk : Jqr R S) (h : StdAt H x R ls wt) : stB S (.two u (.int wt) (some (ls.map V.int))) = true:=by
 obtain ⟨_,h3,h4,h5,h6⟩:=h
 have e1 : S.Bs.map (·.lo) = R.Bs.map (·.lo):=Jnb lk fun k=>k.2.1
 have e2 : S.Bs.map (·.hi) = R.Bs.map (·.hi):=Jnb lk fun k=>k.2.2.1
 show ((decide (0 ≤ wt) && decide (wt ≤ S.c)) && (decide ((ls.map V.int).length = (S.Bs.map (·.lo)).length) && (wl (ls.map V.int) (S.Bs.map (·.lo)) (S.Bs.map (·.hi))).all id)) = true
 rw [e1,e2,lk.c,decide_eq_true h5,decide_eq_true h6,decide_eq_true (by rw [List.length_map,List.length_map]; exact h3)]
 exact Jwy h3 h4
theorem Jry {R : Jja} {S : Riv} (lk : Jqr R S) : rnL S = Jrg R:=Jnb lk fun k=>k.2.2.2.2.1
theorem Jrx {R : Jja} {S : Riv} (lk : Jqr R S) (wt : Int) : Jk8 S wt = Jkw R wt:=by
 have e : S.Bs.map (·.rn) = R.Bs.map (·.rn):=Jnb lk fun k=>k.2.2.2.2.1
 unfold Jk8 Jkw
 rw [e,lk.c,lk.g]
 split <;> split <;> split <;> split <;> omega
theorem Jul {R : Jja} {S : Riv} (lk : Jqr R S) (wt : Int) (row : List Int) : Jl9 S wt row = Jto R wt row:=by
 unfold Jl9 Jto
 rw [Jry lk,Jrx lk]
theorem Jwa {R : Jja} {S : Riv} {wt : Int} {row : List Int} (lk : Jqr R S) (rg : Jko R) (nn : Jua S.Bs.length row) (hw : 0 ≤ wt ∧ wt ≤ R.c) : rnB S wt (some ((Jl9 S wt row).map V.int)) = true:=by
 have b0 : ∀ x ∈ rnL S,0 ≤ x:=fun x hx=>by
  rw [Jry lk] at hx
  obtain ⟨B,hB,rfl⟩:=List.mem_map.mp hx
  exact (rg.Bs B hB).1.rn.1
 obtain ⟨ft,hs⟩:=Jma (bs:=rnL S) (ns:=row) (l:=wt) (by rw [Jjo]; exact nn.1) (fun m hm=>(nn.2 m hm).1) b0 hw.1
 have hl : 0 ≤ mx0 (Jk8 S wt - (rby (rnL S) row wt).sum):=by unfold mx0; split <;> omega
 have f2:=Jnq hl ft
 have sm:=Jrt hl ft
 have fs:=ft.sum
 have hF : Jk8 S wt ≤ (rnL S).sum ∧ Jk8 S wt ≤ wt:=by
  have g1:=rg.g
  have e : (rnL S).sum = (S.Bs.map (·.rn)).sum:=rfl
  unfold Jk8
  rw [lk.c,lk.g]
  split <;> split <;> omega
 have len : ((Jl9 S wt row).map V.int).length = (List.replicate S.Bs.length (0 : Int)).length:=by
  rw [List.length_map,List.length_replicate]
  unfold Jl9
  rw [Jlv (by rw [Jnf (by rw [Jjo]; exact nn.1)]),Jjo]
 have wf:=Ju6 f2
 rw [Jjo] at wf
 show ((decide (((Jl9 S wt row).map V.int).length = (List.replicate S.Bs.length (0 : Int)).length) && (wl ((Jl9 S wt row).map V.int) (List.replicate S.Bs.length 0) (S.Bs.map (·.rn))).all id) && (decide (Jk8 S wt ≤ Jta ((Jl9 S wt row).map V.int)) && decide (Jta ((Jl9 S wt row).map V.int) ≤ wt))) = true
 rw [decide_eq_true len,Jqn]
 have e : (wl ((Jl9 S wt row).map V.int) (List.replicate S.Bs.length 0) (S.Bs.map (·.rn))).all id = true:=wf
 rw [e]
 have : Jk8 S wt ≤ (Jl9 S wt row).sum ∧ (Jl9 S wt row).sum ≤ wt:=by
  unfold Jl9
  rw [sm]
  generalize (rby (rnL S) row wt).sum = p at *
  unfold mx0 mn
  split <;> split <;> omega
 rw [decide_eq_true this.1,decide_eq_true this.2]
 rfl
def ChL (H : Hp) (ys : List V) : Prop:=∀ y ∈ ys,∃ (c u : Addr) (tv : V),y = .ref c ∧ H c = some (.tup [.ref u,tv]) ∧ Jkj tv = true
theorem ChL.ll {H H' : Hp} {ys : List V} (s : LL H H') (h : ChL H ys) : ChL H' ys:=fun y hy=>let ⟨c,u,tv,e,q,f⟩:=h y hy; ⟨c,u,tv,e,s.get (by intro _ z; cases z) q,f⟩
structure RgS (K : W.Frag) (a : Ad) (H : Hp) (p : Addr) (x : V) (R : Jja) (o : Addr) (S : Riv) (CL : Addr) (ys : List V) (l : Addr) (xs : List V) (rows : List (List Int)) (fk KL fs KL2 nt : Addr) : Prop where
 st : Strm H p
 rt : RTAt p H x R
 ro : RivAt K a H o S
 hC : H CL = some (.lst ys)
 nC : CL ≠ p
 cl : ChL H ys
 hl : H l = some (.lst xs)
 nl : l ≠ p
 ra : RowsAt H xs rows
 kp : Jva H fk KL ys
 nK : KL ≠ p
 sk : SkyAt H fs o KL2 nt xs S.Bs.length
 nS : KL2 ≠ p
theorem RgS.but {K : W.Frag} {a : Ad} {H H' : Hp} {p : Addr} {x : V} {R : Jja} {o : Addr} {S : Riv} {CL : Addr} {ys : List V} {l : Addr} {xs : List V} {rows : List (List Int)} {fk KL fs KL2 nt : Addr} (rg : Jko R) (b : But p H H') (h : RgS K a H p x R o S CL ys l xs rows fk KL fs KL2 nt) : RgS K a H' p x R o S CL ys l xs rows fk KL fs KL2 nt:=by
 have ll:=LL.but h.st b
 exact ⟨b.2,h.rt.but rg h.st b,h.ro.ll ll,b.1 _ _ h.nC h.hC,h.nC,h.cl.ll ll,b.1 _ _ h.nl h.hl,h.nl,h.ra.ll ll,⟨b.1 _ _ h.nK h.kp.1,h.kp.2.but h.st b⟩,h.nK,⟨b.1 _ _ h.nS h.sk.1,ll.get (by intro _ z; cases z) h.sk.2.1,h.sk.2.2.but h.st b⟩,h.nS⟩
theorem Joi (xs : List V) (k : Nat) : Jn9 xs (some (k : Int)) (some ((k : Int) + 1)) = (xs.drop k).take 1:=by
 unfold Jn9
 have e : ((k : Int) + 1) = ((k + 1 : Nat) : Int):=by omega
 rw [e,HT.sIx_nat,HT.sIx_nat]
 by_cases h : k < xs.length
 ·rw [Nat.min_eq_left (by omega),Nat.min_eq_left (by omega),show k + 1 - k = 1 by omega]
 ·rw [Nat.min_eq_right (by omega),Nat.min_eq_right (by omega),List.drop_eq_nil_of_le (Nat.le_refl _),List.drop_eq_nil_of_le (by omega),List.take_nil,List.take_nil]
def Jwf (K : W.Frag) (a : Ad) : Sp:=fun vs H Q _=>∃ (p o : Addr) (x : V) (R : Jja) (S : Riv),vs = [x,.ref o,.ref p] ∧ H a.Jhy = some (.tbl lb_keeper_of) ∧ H a.Ji0 = some (.tbl lb_sky_of) ∧ Strm H p ∧ RTAt p H x R ∧ Jko R ∧ RivAt K a H o S ∧ Jqr R S ∧ ∀ H', But p H H' → Q (.bl true) H'
section
variable {P : Program} {w : World} {K : W.Frag} {mg : Str → Option Value} {base : Heap} {a : Ad}
theorem sc_law_right : Jic ["_law_told","_law_river_here","_law_stream_here","_law_choices","_law_rows_here","_law_handed","_law_keeper","_law_sky","_law_k","_law_standing_here","_law_choice_here","_law_row","_law_rain_here"] ["_law_told","_law_river_here","_law_stream_here"] (Ji6 (top 76)):=⟨rfl,rfl,rfl,by decide +kernel,rfl,by decide +kernel,by decide +kernel⟩
theorem Jr9 (T : Tx K mg a) (B : Bmn mg base) : FnOk P w K mg base CX0 5 a.Jh2 a.Jh3 ["_law_told","_law_river_here","_law_stream_here"] (Jwf K a):=by
 have G__law_take:=Jjk (P:=P) (w:=w) (base:=base) T
 have G__law_choice:=Jpt (P:=P) (w:=w) (base:=base) T
 have G__law_rows:=Js5 (P:=P) (w:=w) (base:=base) T
 have G__law_standing:=Jln (P:=P) (w:=w) (base:=base) T
 have G__law_fell:=Js2 (P:=P) (w:=w) (base:=base) T
 have G_keeper_of:=Jlh (P:=P) (w:=w) (base:=base) T B
 have G_sky_of:=Juo (P:=P) (w:=w) (base:=base) T B
 have G_keeper:=Jqk (P:=P) (w:=w) (base:=base) T
 have G_sky:=ok_sky (P:=P) (w:=w) (base:=base) T
 have G_is_rain:=Jsz (P:=P) (w:=w) (base:=base) T
 refine T.Ja0.fn.ok sc_law_right (fun vs H Q E h=>?_) (fun cdv A outer s H vs Q E hr h=>?_)
 ·obtain ⟨p,o,x,R,S,rfl,_⟩:=h
  rfl
 ·obtain ⟨p,o,x,R,S,rfl,htk,hts,st,rt,rg,ro,lk,k⟩:=h
  have hu64:=Jtr hr
  refine ⟨?t,?B,?C⟩
  case B =>
   refine' Ji4 ?s1 ?r1
   case s1 =>
    exact (Ju1 (i:=3) (N:=(["_law_k","_law_stream_here","_law_told"] : List Str)) (ini:=[none,some 2,some 0]) sc_law_right.nd rfl (Or.inl rfl) rfl (Jl8 (by rfl) T.Jal (Ji1 (Jij Jj1 Ji5 (Jia T.Jl G__law_take hr (by decide) (Ji1 (pv 2) (Ji1 Ji5 Ji2)))) Ji2)) (fun _ _ _ _ _=>(Jie (i:=0) (by decide +kernel : (["_law_k","_law_stream_here","_law_told"] : List Str).Nodup) rfl (Or.inl rfl))) (fun _ _ _ _ _=>Jit) (fun _ _ _ _ _=>(Jia T.Ju G__law_choice hr (by decide) (Ji1 (pv 1) (Ji1 (pv 2) Ji2)))))
   case r1 =>
    refine' Ji4 ?s3 ?r3
    case s3 =>
     exact (Jig (i:=4) sc_law_right.nd rfl (Or.inl rfl) (Jia T.Jy G__law_rows hr (by decide) (Ji1 (pv 2) (Ji1 (pv 0) Ji2))))
    case r3 =>
     refine' Ji4 ?s5 ?r5
     case s5 =>
      exact (Jig (i:=5) sc_law_right.nd rfl (Or.inl rfl) (Jjn (Ji1 (Jin Jjl (by rfl) T.Jai Jk7 (Ji1 (pv 3) Ji2)) (Ji1 (Jin Jjl (by rfl) T.Jai Jk7 (Ji1 (pv 4) Ji2)) Ji2))))
     case r5 =>
      refine' Ji4 ?s7 ?r7
      case s7 =>
       exact (Jig (i:=6) sc_law_right.nd rfl (Or.inl rfl) (Jia T.J9 G_keeper_of.calm hr (by decide) (Ji1 (Jim Jiw (pv 5) Ji5 (fun _ _=>rfl)) Ji2)))
      case r7 =>
       refine' Ji4 ?s9 ?r9
       case s9 =>
        exact (Jig (i:=7) sc_law_right.nd rfl (Or.inl rfl) (Jia T.Jc G_sky_of hr (by decide) (Ji1 (pv 1) (Ji1 (Jim Jiw (pv 5) Ji5 (fun _ _=>rfl)) Ji2))))
       case r9 =>
        refine' Ji4 ?s11 ?r11
        case s11 =>
         exact (Jjv (Jw1 F.plainAttrs_list F.slot_list_clear F.type_list_clear Js0 (Jim Jiw (pv 5) Ji5 (fun _ _=>rfl))))
        case r11 =>
         refine' Ji4 ?s13 ?r13
         case s13 =>
          exact (Jjv (Jw1 F.plainAttrs_list F.slot_list_clear F.type_list_clear Js0 (Jim Jiw (pv 5) Ji5 (fun _ _=>rfl))))
         case r13 =>
          refine' Ji4 ?s15 ?r15
          case s15 =>
           refine' Jkl ?f16_0 ?f16_1 ?f16_2 ?f16_3 ?f16_4
           case f16_0 =>
            exact PassesOwn.never
           case f16_1 =>
            exact rfl
           case f16_2 =>
            refine' Jj8 ?e17_0
            case e17_0 =>
             refine' Jjn ?e18_0
             case e18_0 =>
              refine' pa6 ?e19_0 ?e19_1 ?e19_2 ?e19_3 ?e19_4 ?e19_5
              case e19_0 =>
               exact Ji5
              case e19_1 =>
               exact (Jia T.Jl G__law_take hr (by decide) (Ji1 (pv 2) (Ji1 Ji5 Ji2)))
              case e19_2 =>
               exact (Jij Jjt (Jib Jih (by rfl) T.Jah Jjb (Ji1 (pv 3) Ji2)) Ji5)
              case e19_3 =>
               exact (Jib Jih (by rfl) T.Jah Jjb (Ji1 (pv 4) Ji2))
              case e19_4 =>
               exact (Jia T.Jl G__law_take hr (by decide) (Ji1 (pv 2) (Ji1 Ji5 Ji2)))
              case e19_5 =>
               exact (Jia T.Jl G__law_take hr (by decide) (Ji1 (pv 2) (Ji1 Ji5 Ji2)))
           case f16_3 =>
            exact (Jie (i:=8) sc_law_right.nd rfl (Or.inl rfl))
           case f16_4 =>
            refine' Ji4 ?s25 ?r25
            case s25 =>
             exact (Jig (i:=9) sc_law_right.nd rfl (Or.inl rfl) (Jia T.Jt G__law_standing hr (by decide) (Ji1 (pv 2) (Ji1 (pv 0) Ji2))))
            case r25 =>
             refine' Ji4 ?s27 ?r27
             case s27 =>
              exact (Jig (i:=10) sc_law_right.nd rfl (Or.inl rfl) (Jm8 G_keeper hr (by decide) 6 (Ji1 (pv 9) (Ji1 (pv 8) Ji2))))
             case r27 =>
              refine' Ji4 ?s29 ?r29
              case s29 =>
               refine' Jiy ?c30 ?a30 ?b30
               case c30 =>
                exact (Jji (Jvx hu64) (pv 10) (Jim Jiw (pv 3) (Jib (Jke rfl) (by rfl) T.Jak Jlc (Ji1 (pv 8) (Ji1 (Jij Jjt (Jib Jih (by rfl) T.Jah Jjb (Ji1 (pv 3) Ji2)) Ji5) Ji2))) (fun _ _=>rfl)) (Jj7 _))
               case a30 =>
                refine' Ji7 ?s31
                case s31 =>
                 exact (Jif Jjx)
               case b30 =>
                exact Jik
              case r29 =>
               refine' Ji4 ?s35 ?r35
               case s35 =>
                exact (Jig (i:=11) sc_law_right.nd rfl (Or.inl rfl) (Jim Jiw (Jij op_cat (Jpc Jrh (pv 4) (Jol (pv 8)) (Jol (Jij Jj1 (pv 8) Ji5))) (Jjn (Ji1 (Jin Jis (by rfl) T.Jap Jj6 (Ji1 (Jiz (N:=(["_law_one"] : List Str)) (ini:=[none]) rfl (Jj8 (Jim Jj5 (pv 0) Ji5 (fun _ _=>rfl))) (fun _ _ _ _ _=>(Jie (i:=0) (by decide +kernel : (["_law_one"] : List Str).Nodup) rfl (Or.inl rfl))) (fun _ _ _ _ _=>Jit) (fun _ _ _ _ _=>Ji5)) Ji2)) Ji2))) Ji5 (fun _ _=>rfl)))
               case r35 =>
                refine' Ji4 ?s37 ?r37
                case s37 =>
                 exact (Jig (i:=12) sc_law_right.nd rfl (Or.inl rfl) (Jm8 G_sky hr (by decide) 7 (Ji1 (pv 9) (Ji1 (pv 10) (Ji1 (pv 8) Ji2)))))
                case r37 =>
                 refine' Ji7 ?s39
                 case s39 =>
                  refine' Jiy ?c40 ?a40 ?b40
                  case c40 =>
                   exact (Jm9 (Jip (Jiq (Jia T.J8 G_is_rain.calm hr (by decide) (Ji1 (pv 1) (Ji1 (pv 9) (Ji1 (pv 12) Ji2)))))) (Jlj (Jji (Jvx hu64) (pv 12) (Jia T.Jx G__law_fell hr (by decide) (Ji1 (pv 0) (Ji1 (Jim Jj5 (pv 9) Ji5 (fun _ _=>rfl)) (Ji1 (pv 11) Ji2)))) (Jj7 _)))).pt
                  case a40 =>
                   refine' Ji7 ?s41
                   case s41 =>
                    exact (Jif Jjx)
                  case b40 =>
                   exact Jik
          case r15 =>
           refine' Ji7 ?s45
           case s45 =>
            exact (Jif Jjx)
  have nR:=rg.n
  have nS:=Jvr lk
  refine ⟨_,rfl,p,5,rfl,st,by decide,by decide,fun m H1 m0 m1 b1=>⟨_,_,rfl,rfl,_,rfl,by omega,by omega,fun CL hCL=>?_⟩⟩
  have nCL : CL ≠ p:=b1.2.ne hCL
  have rt1:=rt.but rg st b1
  refine Jn0 (D:=CL) (fun i σ H'=>∃ (o1 : Option V) (ys : List V),σ = [o1,some (.ref p),some x] ∧ H' CL = some (.lst ys) ∧ ys.length = i ∧ ChL H' ys ∧ But p H1 H') ⟨none,[],rfl,Ji3,rfl,fun y hy=>by simp at hy,But.of b1.2 (Same.upd hCL)⟩ ?_ ?_
  ·rintro i σ H' hi ⟨o1,ys,rfl,hC,hl,ch,b⟩
   refine Jjh ⟨_,rfl,_,rfl,p,x,R,rfl,b.2,rt1.but rg b1.2 b,rg,fun y ns tv H2 b2 cc=>?_⟩
   have hC2:=b2.1 _ _ nCL hC
   have l2:=(LL.but b.2 b2).trans (LL.upd (ys:=ys ++ [y]) hC2)
   refine ⟨ys,hC2,Jiu (by omega),_,ys ++ [y],rfl,Ji3,by rw [List.length_append,hl]; rfl,fun z hz=>?_,(b.trans b2).updD hCL nCL⟩
   rcases List.mem_append.mp hz with hz | hz
   ·exact ch.ll l2 z hz
   ·rw [List.mem_singleton.mp hz]
    obtain ⟨⟨c,u,e,q1,q2⟩,_,_,tw⟩:=cc
    refine ⟨c,u,tv,e,(LL.upd hC2).get (by intro _ z; cases z) q1,?_⟩
    rcases tw with rfl | ⟨j,rfl,_⟩ <;> rfl
  rintro σ H2 ⟨o1,ys,_,hC2,yl,ch2,b2⟩
  have b02:=b1.trans b2
  have ny : ys ≠ []:=fun z=>by rw [z] at yl; simp at yl; omega
  have rt2:=rt.but rg st b02
  refine ⟨_,rfl,_,rfl,p,x,R,rfl,b02.2,rt2,rg,fun l xs rows H3 b3 hl0 hl3 ra3 rk=>?_⟩
  have nl : l ≠ p:=b02.2.ne hl0
  have b03:=b02.trans b3
  have hC3:=b3.1 _ _ nCL hC2
  have ch3:=ch2.ll (LL.but b02.2 b3)
  refine ⟨_,rfl,CL,ys,rfl,.inl (SqL.of hC3),fun L0 hL0=>?_⟩
  have sa:=Same.upd (o:=.lst ys) hL0
  refine ⟨_,rfl,l,xs,rfl,.inl (SqL.of (sa _ _ hl3)),fun L1 hL1=>?_⟩
  have sb:=Same.upd (o:=.lst xs) hL1
  refine ⟨(show 2 ≤ sizeLine by decide),fun HL hHL=>?_⟩
  have sc:=Same.upd (o:=.lst [.ref L0,.ref L1]) hHL
  have s34:=(sa.trans sb).trans sc
  have hL04 : ∀ {H' : Hp},Same (upd (upd (upd H3 L0 (.lst ys)) L1 (.lst xs)) HL (.lst [.ref L0,.ref L1])) H' → H' L0 = some (.lst ys):=fun s=>s _ _ (sc _ _ (sb _ _ Ji3))
  have hL14 : ∀ {H' : Hp},Same (upd (upd (upd H3 L0 (.lst ys)) L1 (.lst xs)) HL (.lst [.ref L0,.ref L1])) H' → H' L1 = some (.lst xs):=fun s=>s _ _ (sc _ _ Ji3)
  have hHL4 : ∀ {H' : Hp},Same (upd (upd (upd H3 L0 (.lst ys)) L1 (.lst xs)) HL (.lst [.ref L0,.ref L1])) H' → H' HL = some (.lst [.ref L0,.ref L1]):=fun s=>s _ _ Ji3
  generalize upd (upd (upd H3 L0 (.lst ys)) L1 (.lst xs)) HL (.lst [.ref L0,.ref L1]) = H4 at *
  have b04:=b03.same s34
  have kt : ∀ {c : Addr} {lb},H c = some (.tbl lb) → H4 c = some (.tbl lb):=fun h=>b04.1 _ _ (Jk2 st h (fun _ _ _ z=>by cases z)) h
  refine ⟨_,rfl,HL,_,0,_,rfl,rfl,SqL.of (hHL4 (Same.refl _)),rfl,_,rfl,kt htk,.inl ⟨L0,ys,rfl,hL04 (Same.refl _),ny,fun fk KL H5 s5 hKL kp=>?_⟩⟩
  have l05:=LL.but st (b04.same s5)
  refine ⟨_,rfl,_,rfl,HL,_,1,_,rfl,rfl,SqL.of (hHL4 s5),rfl,o,L1,S,xs,rows,rfl,s5 _ _ (kt hts),ro.ll l05,hL14 s5,(ra3.same s34).same s5,by rw [nS]; exact rk,fun fs KL2 nt H6 s6 hKL2 sk=>?_⟩
  have s46:=s5.trans s6
  have b06:=b04.same s46
  have hp0 : L0 ≠ p:=b03.2.ne hL0
  have hp1 : L1 ≠ p:=(b03.same sa).2.ne hL1
  have hL0H : H L0 = none:=But.free st b03 hL0
  have hL1H : H L1 = none:=But.free st b03 (sa.free hL1)
  refine ⟨_,rfl,HL,_,0,_,rfl,rfl,SqL.of (hHL4 s46),rfl,.inl ⟨rfl,_,SqL.of (hL04 s46)⟩,L0,_,rfl,rfl,hL04 s46,?_⟩
  have n01 : L1 ≠ L0:=(Ji8 (show upd H3 L0 (.lst ys) L0 = some (.lst ys) from Ji3) hL1).symm
  have nH0 : HL ≠ L0:=(Ji8 (sb _ _ (show upd H3 L0 (.lst ys) L0 = some (.lst ys) from Ji3)) hHL).symm
  have hL16 : upd H6 L0 (.lst []) L1 = some (.lst xs):=by rw [Ji9 n01]; exact hL14 s46
  refine ⟨_,rfl,HL,[.ref L0,.ref L1],1,.ref L1,rfl,rfl,SqL.of (by rw [Ji9 nH0]; exact hHL4 s46),rfl,.inl ⟨rfl,_,SqL.of hL16⟩,L1,_,rfl,rfl,hL16,?_⟩
  have b08 : But p H (upd (upd H6 L0 (.lst [])) L1 (.lst [])):=(b06.updD hL0H hp0).updD hL1H hp1
  have l68 : LL H6 (upd (upd H6 L0 (.lst [])) L1 (.lst [])):=(LL.upd (hL04 s46)).trans (LL.upd hL16)
  have keep : ∀ b ob,b ≠ L0 → b ≠ L1 → H6 b = some ob → upd (upd H6 L0 (.lst [])) L1 (.lst []) b = some ob:=fun b ob n1 n2 e=>by rw [Ji9 n2,Ji9 n1]; exact e
  have C6:=s46 _ _ (s34 _ _ hC3)
  have l6:=s46 _ _ (s34 _ _ hl3)
  have nCL0 : CL ≠ L0:=Ji8 hC3 hL0
  have nCL1 : CL ≠ L1:=Ji8 (sa _ _ hC3) hL1
  have nl0 : l ≠ L0:=Ji8 hl3 hL0
  have nl1 : l ≠ L1:=Ji8 (sa _ _ hl3) hL1
  have nK0 : KL ≠ L0:=(Ji8 (hL04 (Same.refl _)) hKL).symm
  have nK1 : KL ≠ L1:=(Ji8 (hL14 (Same.refl _)) hKL).symm
  have nS0 : KL2 ≠ L0:=(Ji8 (hL04 s5) hKL2).symm
  have nS1 : KL2 ≠ L1:=(Ji8 (hL14 s5) hKL2).symm
  have nKp : KL ≠ p:=b04.2.ne hKL
  have nSp : KL2 ≠ p:=(b04.same s5).2.ne hKL2
  have R8 : RgS K a (upd (upd H6 L0 (.lst [])) L1 (.lst [])) p x R o S CL ys l xs rows fk KL fs KL2 nt:=by
   refine ⟨b08.2,rt.but rg st b08,ro.ll (LL.but st b08),keep _ _ nCL0 nCL1 C6,nCL,(ch3.ll (LL.same (s34.trans s46))).ll l68,keep _ _ nl0 nl1 l6,nl,(ra3.ll (LL.same (s34.trans s46))).ll l68,⟨keep _ _ nK0 nK1 (s6 _ _ kp.1),?_⟩,nKp,⟨keep _ _ nS0 nS1 sk.1,l68.get (by intro _ z; cases z) sk.2.1,?_⟩,nSp⟩
   ·exact ((kp.2.same s6).upd (hL04 s46)).upd hL16
   ·exact (sk.2.2.upd (hL04 s46)).upd hL16
  generalize upd (upd H6 L0 (.lst [])) L1 (.lst []) = H8 at *
  refine ⟨_,rfl,p,6,rfl,R8.st,by decide,by decide,fun r1 H9 r10 r11 b9=>?_⟩
  have R9:=R8.but rg b9
  refine ⟨_,rfl,CL,_,rfl,.inl (SqL.of R9.hC),_,_,rfl,rfl,_,rfl,l,_,rfl,.inl (SqL.of R9.hl),?_⟩
  refine ⟨_,rfl,p,200,rfl,R9.st,by decide,by decide,fun r2 H10 r20 r21 b10=>?_⟩
  have R10:=R9.but rg b10
  refine ⟨_,rfl,p,6,rfl,R10.st,by decide,by decide,fun r3 H11 r30 r31 b11=>?_⟩
  have R11:=R10.but rg b11
  refine ⟨(show 6 ≤ sizeLine by decide),fun NL hNL=>?_⟩
  have sN:=Same.upd (o:=.lst [.int 0,.int r1,.int ((ys.length : Nat) - 1),.int (xs.length : Nat),.int r2,.int r3]) hNL
  have nN : NL ≠ p:=R11.st.ne hNL
  have bN:=But.of R11.st sN
  have R12:=R11.but rg bN
  have hN12 : upd H11 NL (.lst [.int 0,.int r1,.int ((ys.length : Nat) - 1),.int (xs.length : Nat),.int r2,.int r3]) NL = some (.lst [.int 0,.int r1,.int ((ys.length : Nat) - 1),.int (xs.length : Nat),.int r2,.int r3]):=Ji3
  have b012:=((b08.trans b9).trans b10).trans (b11.trans bN)
  have all : ∀ v ∈ [V.int 0,.int r1,.int ((ys.length : Nat) - 1),.int (xs.length : Nat),.int r2,.int r3],∃ kk : Nat,v = .int kk:=by
   have y0 : 0 < ys.length:=List.length_pos_iff.mpr ny
   intro v hv
   simp only [List.mem_cons,List.not_mem_nil,or_false] at hv
   rcases hv with rfl | rfl | rfl | rfl | rfl | rfl
   ·exact ⟨0,rfl⟩
   ·exact ⟨r1.toNat,by rw [Int.toNat_of_nonneg r10]⟩
   ·exact ⟨ys.length - 1,by congr 1; omega⟩
   ·exact ⟨_,rfl⟩
   ·exact ⟨r2.toNat,by rw [Int.toNat_of_nonneg r20]⟩
   ·exact ⟨r3.toNat,by rw [Int.toNat_of_nonneg r30]⟩
  refine ⟨NL,rfl,⟨_,SqL.of hN12⟩,?_⟩
  generalize upd H11 NL (.lst [.int 0,.int r1,.int ((ys.length : Nat) - 1),.int (xs.length : Nat),.int r2,.int r3]) = H12 at *
  refine Jlw (xs:=[.int 0,.int r1,.int ((ys.length : Nat) - 1),.int (xs.length : Nat),.int r2,.int r3]) (fun j σ H'=>∃ o8 o9 o10 o11 o12,σ = [some x,some (.ref o),some (.ref p),some (.ref CL),some (.ref l),some (.ref HL),some (.ref fk),some (.ref fs),o8,o9,o10,o11,o12] ∧ But p H12 H') ⟨_,_,_,_,_,rfl,But.refl R12.st⟩ (fun j σ H' _ ⟨_,_,_,_,_,_,b⟩=>SqL.of (b.1 _ _ nN hN12)) ?_ ?_
  ·rintro j v σ H' hv ⟨o8,o9,o10,o11,o12,rfl,b⟩
   obtain ⟨kk,rfl⟩:=all v (List.mem_of_getElem? hv)
   have RR:=R12.but rg b
   refine ⟨_,rfl,_,rfl,p,x,R,rfl,RR.st,RR.rt,rg,fun yv ls wt H13 b13 sd=>?_⟩
   have R13:=RR.but rg b13
   obtain ⟨⟨y,u,rfl,hy,hu⟩,hll,hlb,hw0,hw1⟩:=id sd
   refine ⟨fk,rfl,_,rfl,_,rfl,[.ref KL],R13.kp.2,.ref y,kk,KL,ys,rfl,rfl,R13.kp.1,ny,fun cv hcv=>?_⟩
   obtain ⟨c,cu,tv,rfl,hc,ftv⟩:=R13.cl cv (List.mem_of_getElem? hcv)
   have hmin : (if ((ys.length : Nat) : Int) - 1 < (kk : Int) then ((ys.length : Nat) : Int) - 1 else (kk : Int)) = ((min kk (ys.length - 1) : Nat) : Int):=by
    have y0 : 0 < ys.length:=List.length_pos_iff.mpr ny
    split <;> omega
   refine ⟨_,rfl,_,rfl,_,rfl,_,rfl,CL,_,rfl,.inl (SqL.of R13.hC),_,_,rfl,rfl,_,_,rfl,CL,_,_,.ref c,rfl,rfl,SqL.of R13.hC,by rw [hmin]; exact Jlb hcv,?_⟩
   refine ⟨c,c,_,_,[true,true],rfl,rfl,SqT.of hc,SqT.of hc,rfl,rfl,?_,_,rfl,Jj3 ?_⟩
   ·intro i x' y' b' e1 e2 e3
    rw [e1] at e2
    cases e2
    have hb' : b' = true:=by
     have:=List.mem_of_getElem? e3
     simpa using this
    subst hb'
    refine SameOr.self ?_
    have:=List.mem_of_getElem? e1
    simp only [List.mem_cons,List.not_mem_nil,or_false] at this
    rcases this with rfl | rfl
    ·exact .inr ⟨_,rfl⟩
    ·exact .inl ftv
   obtain ⟨t,lb,lt,bs,ts,ex,ht,hb,btl,htt,ttl,nb,ntt⟩:=id R13.rt
   subst ex
   have blen:=btl.len
   refine ⟨_,rfl,_,rfl,_,rfl,_,rfl,_,_,rfl,rfl,_,rfl,l,xs,rfl,SqL.of R13.hl,fun q1 hq1=>?_⟩
   have sq:=Same.upd (o:=.lst (Jn9 xs (some (kk : Int)) (some ((kk : Int) + 1)))) hq1
   refine ⟨_,rfl,t,_,2,_,rfl,rfl,SqT.of (sq _ _ ht),rfl,lb,rfl,⟨_,SqL.of (sq _ _ hb)⟩,fun D hD=>?_⟩
   refine Jlf ((List.replicate R.Bs.length (0 : Int)).map V.int) hD (by simp [blen]) (by omega) (sq _ _ hb) ?_ ?_
   ·intro i x' y' H' Q' hx' hy' sm k'
    have e : y' = .int 0:=by
     rw [List.map_replicate,List.getElem?_replicate] at hy'
     split at hy'
     ·exact (Option.some.inj hy').symm
     ·cases hy'
    subst e
    exact k' _ (fun _ _ h=>h)
   intro H14 s14 hD14
   refine ⟨D,_,rfl,.inl ⟨SqL.of hD14,fun z0 hz0=>?_⟩⟩
   have sz:=Same.upd (o:=.tup ((List.replicate R.Bs.length (0 : Int)).map V.int)) hz0
   refine ⟨(show 1 ≤ sizeLine by decide),fun LD hLD=>?_⟩
   have sl:=Same.upd (o:=.lst [.ref z0]) hLD
   have sA:=(s14.trans sz).trans sl
   have xl : xs.length ≤ 5:=by rw [R13.ra.1]; exact rk.1
   refine ⟨q1,LD,_,[.ref z0],rfl,rfl,sA _ _ Ji3,Ji3,Nat.le_of_lt (Jiu (by rw [Joi,List.length_take]; simp; omega)),fun q2 hq2=>?_⟩
   have s2:=Same.upd (o:=.lst (Jn9 xs (some (kk : Int)) (some ((kk : Int) + 1)) ++ [.ref z0])) hq2
   have sAll:=(sq.trans sA).trans s2
   obtain ⟨rv,hat,q,rfl,hq⟩ : ∃ rv,atI (Jn9 xs (some (kk : Int)) (some ((kk : Int) + 1)) ++ [V.ref z0]) 0 = some rv ∧ ∃ q,rv = .ref q ∧ upd (upd (upd H14 z0 (.tup ((List.replicate R.Bs.length (0 : Int)).map V.int))) LD (.lst [.ref z0])) q2 (.lst (Jn9 xs (some (kk : Int)) (some ((kk : Int) + 1)) ++ [.ref z0])) q = some (.tup ((Jkt R.Bs.length rows kk).map V.int)):=by
    rw [Joi]
    unfold Jkt
    rw [List.getD_eq_getElem?_getD]
    by_cases hk : kk < xs.length
    ·have hk' : kk < rows.length:=by rw [← R13.ra.1]; exact hk
     obtain ⟨q,e1,e2⟩:=R13.ra.2 kk xs[kk] rows[kk] (List.getElem?_eq_getElem hk) (List.getElem?_eq_getElem hk')
     refine ⟨xs[kk],?_,q,e1,?_⟩
     ·rw [List.drop_eq_getElem_cons hk]
      rfl
     ·rw [List.getElem?_eq_getElem hk']
      rw [← Joi]
      exact sAll _ _ e2
    ·refine ⟨.ref z0,?_,z0,rfl,?_⟩
     ·rw [List.drop_eq_nil_of_le (by omega)]
      rfl
     ·rw [List.getElem?_eq_none (by rw [← R13.ra.1]; omega),← Joi]
      exact s2 _ _ (sl _ _ Ji3)
   refine ⟨q2,_,0,_,rfl,rfl,SqL.of Ji3,hat,?_⟩
   have R15:=R13.but rg (But.of R13.st sAll)
   have sd15:=sAll _ _ hy
   have su15:=sAll _ _ hu
   generalize upd (upd (upd H14 z0 (.tup ((List.replicate R.Bs.length (0 : Int)).map V.int))) LD (.lst [.ref z0])) q2 (.lst (Jn9 xs (some (kk : Int)) (some ((kk : Int) + 1)) ++ [.ref z0])) = H15 at *
   have rkS : Jop S.Bs.length rows:=by rw [nS]; exact rk
   refine ⟨fs,rfl,_,rfl,_,rfl,_,rfl,[.ref nt,.ref o,.ref KL2],R15.sk.2.2,.non,_,_,y,wt,kk,o,KL2,nt,S,xs,rows,rfl,rfl,sd15,hw0,R15.ro,R15.sk.1,R15.sk.2.1,R15.ra,rkS,fun tr H16 s16 htr=>?_⟩
   have nn:=Jpf rkS kk
   have R16:=R15.but rg (But.of R15.st s16)
   have skl : (Jl9 S wt (Jkt S.Bs.length rows kk)).length ≤ 16:=by
    unfold Jl9
    rw [Jlv (by rw [Jnf (by rw [Jjo]; exact nn.1)]),Jjo]
    omega
   refine ⟨_,rfl,_,rfl,_,rfl,o,S,.ref y,.two (.ref u) (.int wt) (some (ls.map V.int)),.ref tr,some ((Jl9 S wt (Jkt S.Bs.length rows kk)).map V.int),rfl,R16.ro,⟨y,rfl,s16 _ _ sd15,⟨u,rfl,s16 _ _ su15,fun v hv=>Jnj hv,by rw [List.length_map]; omega⟩,.inl ⟨wt,rfl⟩⟩,⟨tr,rfl,htr,fun v hv=>Jnj hv,by rw [List.length_map]; omega⟩,?_⟩
   rw [if_pos (std_st lk sd)]
   intro H17 s17
   refine ⟨_,rfl,ifF (by show (!rnB S wt (some ((Jl9 S wt (Jkt S.Bs.length rows kk)).map V.int))) = false; rw [Jwa lk rg nn ⟨hw0,hw1⟩]; rfl) ?_⟩
   have R17:=R16.but rg (But.of R16.st s17)
   have hy17:=s17 _ _ (s16 _ _ sd15)
   refine ⟨_,rfl,_,rfl,_,rfl,y,_,1,_,rfl,rfl,SqT.of hy17,rfl,_,rfl,p,.ref t,R,wt,q,_,rfl,R17.rt,rg,s17 _ _ (s16 _ _ hq),by rw [← nS]; rw [nS]; exact (by rw [← nS]; exact nn),hw0,fun u2 H18 s18 hu2=>?_⟩
   have htr18:=s18 _ _ (s17 _ _ htr)
   have ef : Jto R wt (Jkt R.Bs.length rows kk) = Jl9 S wt (Jkt S.Bs.length rows kk):=by rw [nS]; exact (Jul lk wt _).symm
   rw [ef] at hu2
   generalize Jl9 S wt (Jkt S.Bs.length rows kk) = ms at *
   refine ⟨tr,u2,_,_,List.replicate (ms.map V.int).length true,rfl,rfl,SqT.of htr18,SqT.of hu2,rfl,by simp,?_,_,rfl,ifF (by simp) ?_⟩
   ·intro i x' y' b' e1 e2 e3
    rw [e1] at e2
    cases e2
    have hb' : b' = true:=List.eq_of_mem_replicate (List.mem_of_getElem? e3)
    subst hb'
    obtain ⟨n,_,rfl⟩:=List.mem_map.mp (List.mem_of_getElem? e1)
    exact SameOr.self (.inl rfl)
   ·exact ⟨_,_,_,_,_,rfl,((((b.trans b13).same sAll).same s16).same s17).same s18⟩
  ·rintro σ H' ⟨o8,o9,o10,o11,o12,rfl,b⟩
   exact k _ (b012.trans b)
end
theorem RTAt.move {p q : Addr} {H : Hp} {x : V} {R : Jja} (rg : Jko R) (hq : H q = none) (h : RTAt p H x R) : RTAt q H x R:=by
 obtain ⟨t,lb,lt,bs,ts,e,ht,hb,btl,htt,ttl,nb,nt⟩:=h
 exact ⟨t,lb,lt,bs,ts,e,ht,hb,btl.map (fun _ _ _ h=>h.move hq) (fun B hB=>(rg.Bs B hB).1),htt,ttl,Ji8 hb hq,Ji8 htt hq⟩
def spLaw (K : W.Frag) (a : Ad) : Sp:=fun vs H Q _=>∃ (x : Addr) (ns : List Int),vs = [.ref x] ∧ SqL K H x (ns.map V.int) ∧ ns.length ≤ 63 ∧ H a.Jhy = some (.tbl lb_keeper_of) ∧ H a.Ji0 = some (.tbl lb_sky_of) ∧ ∀ H', Q (.bl true) H'
section
variable {P : Program} {w : World} {K : W.Frag} {mg : Str → Option Value} {base : Heap} {a : Ad}
theorem sc_law : Jic ["_law_script","_law_told","_law_river_here","_law_k","_law_odd","_law_beginning","_law_thing"] ["_law_script"] (Ji6 (top 77)):=⟨rfl,rfl,rfl,by decide +kernel,rfl,by decide +kernel,by decide +kernel⟩
theorem ok_law (T : Tx K mg a) (B : Bmn mg base) : FnOk P w K mg base CX0 10 a.a_law a.d_law ["_law_script"] (spLaw K a):=by
 have G__law_cell:=Js1 (P:=P) (w:=w) (base:=base) T
 have G__law_stream:=Jmu (P:=P) (w:=w) (base:=base) T
 have G__law_river:=Jra (P:=P) (w:=w) (base:=base) T
 have G__law_made:=Js4 (P:=P) (w:=w) (base:=base) T
 have G__law_standing:=Jln (P:=P) (w:=w) (base:=base) T
 have G__law_right:=Jr9 (P:=P) (w:=w) (base:=base) T B
 have G__law_refused:=Jpa (P:=P) (w:=w) (base:=base) T B
 have G_keeper_of:=Jlh (P:=P) (w:=w) (base:=base) T B
 have G_keeper:=Jqk (P:=P) (w:=w) (base:=base) T
 refine T.f_law.fn.ok sc_law (fun vs H Q E h=>?_) (fun cdv A outer s H vs Q E hr h=>?_)
 ·obtain ⟨x,ns,rfl,_⟩:=h
  rfl
 ·obtain ⟨x,ns,rfl,hS,hl,htk,hts,k⟩:=h
  refine ⟨?t,?B,?C⟩
  case B =>
   refine' Ji4 ?s1 ?r1
   case s1 =>
    exact (Jig (i:=1) sc_law.nd rfl (Or.inl rfl) (Jia T.Jp G__law_river hr (by decide) (Ji1 (Jia T.Jj G__law_cell hr (by decide) (Ji1 (pv 0) (Ji1 Ji5 Ji2))) Ji2)))
   case r1 =>
    refine' Ji4 ?s3 ?r3
    case s3 =>
     exact (Jig (i:=2) sc_law.nd rfl (Or.inl rfl) (Jia T.Jr G__law_made hr (by decide) (Ji1 (pv 1) Ji2)))
    case r3 =>
     refine' Ji4 ?s5 ?r5
     case s5 =>
      refine' Jkl ?f6_0 ?f6_1 ?f6_2 ?f6_3 ?f6_4
      case f6_0 =>
       exact PassesOwn.never
      case f6_1 =>
       exact rfl
      case f6_2 =>
       exact (Jus (by rfl) T.Jal (Ji1 Ji5 (Ji1 (Jib (Jkn rfl) (by rfl) T.Jaj Jnp (Ji1 Ji5 (Ji1 (Jib (Jke rfl) (by rfl) T.Jak Jlc (Ji1 (Jib Jih (by rfl) T.Jah Jjb (Ji1 (pv 0) Ji2)) (Ji1 Ji5 Ji2))) Ji2))) Ji2)))
      case f6_3 =>
       exact (Jie (i:=3) sc_law.nd rfl (Or.inl rfl))
      case f6_4 =>
       refine' Ji7 ?s7
       case s7 =>
        refine' Jiy ?c8 ?a8 ?b8
        case c8 =>
         exact (Jip (Jiq (Jia T.Ja0 G__law_right hr (by decide) (Ji1 (pv 1) (Ji1 (pv 2) (Ji1 (Jia T.Jk G__law_stream hr (by decide) (Ji1 (Jia T.Jj G__law_cell hr (by decide) (Ji1 (pv 0) (Ji1 (pv 3) Ji2))) Ji2)) Ji2))))))
        case a8 =>
         refine' Ji7 ?s9
         case s9 =>
          exact (Jif Jjx)
        case b8 =>
         exact Jik
     case r5 =>
      refine' Ji4 ?s13 ?r13
      case s13 =>
       exact (Jig (i:=4) sc_law.nd rfl (Or.inl rfl) (Jia T.J9 G_keeper_of.calm hr (by decide) (Ji1 (Jjn (Ji1 Jl2 (Ji1 Ji5 Ji2))) Ji2)))
      case r13 =>
       refine' Ji4 ?s15 ?r15
       case s15 =>
        exact (Jig (i:=5) sc_law.nd rfl (Or.inl rfl) (Jia T.Jt G__law_standing hr (by decide) (Ji1 (Jia T.Jk G__law_stream hr (by decide) (Ji1 (Jia T.Jj G__law_cell hr (by decide) (Ji1 (pv 0) (Ji1 Ji5 Ji2))) Ji2)) (Ji1 (pv 1) Ji2))))
       case r15 =>
        refine' Ji4 ?s17 ?r17
        case s17 =>
         refine' Jiy ?c18 ?a18 ?b18
         case c18 =>
          exact (Jm9 (Jji Jtx (Jm8 G_keeper hr (by decide) 4 (Ji1 (pv 5) (Ji1 Ji5 Ji2))) Jl2 (Jj7 _)) (Jm9 (Jji Jvw (Jm8 G_keeper hr (by decide) 4 (Ji1 (pv 5) (Ji1 Ji5 Ji2))) Ji5 (Jj7 _)) (Jlj (Jji Jvw (Jm8 G_keeper hr (by decide) 4 (Ji1 (pv 5) (Ji1 Ji5 Ji2))) Ji5 (Jj7 _))))).pt
         case a18 =>
          refine' Ji7 ?s19
          case s19 =>
           exact (Jif Jjx)
         case b18 =>
          exact Jik
        case r17 =>
         refine' Ji4 ?s23 ?r23
         case s23 =>
          refine' Jkl ?f24_0 ?f24_1 ?f24_2 ?f24_3 ?f24_4
          case f24_0 =>
           exact PassesOwn.never
          case f24_1 =>
           exact rfl
          case f24_2 =>
           refine' Jj8 ?e25_0
           case e25_0 =>
            refine' Jjn ?e26_0
            case e26_0 =>
             refine' pa10 ?e27_0 ?e27_1 ?e27_2 ?e27_3 ?e27_4 ?e27_5 ?e27_6 ?e27_7 ?e27_8 ?e27_9
             case e27_0 =>
              exact (Jjn Ji2)
             case e27_1 =>
              exact (Jk9 Ji2)
             case e27_2 =>
              exact Jl2
             case e27_3 =>
              exact Ji5
             case e27_4 =>
              exact Jjx
             case e27_5 =>
              exact Jks
             case e27_6 =>
              exact Jw2
             case e27_7 =>
              exact (Jk9 (Ji1 (Jk9 (Ji1 (Jk9 (Ji1 Ji5 Ji2)) (Ji1 Jl2 Ji2))) Ji2))
             case e27_8 =>
              exact (Jxl (Jw5 Ji5 Ji5 Jxo) rfl rfl (by simp) (by simp))
             case e27_9 =>
              exact Jks
          case f24_3 =>
           exact (Jie (i:=6) sc_law.nd rfl (Or.inl rfl))
          case f24_4 =>
           refine' Ji7 ?s32
           case s32 =>
            refine' Jiy ?c33 ?a33 ?b33
            case c33 =>
             exact (Jip (Jiq (Jia T.Jz G__law_refused hr (by decide) (Ji1 (pv 6) Ji2))))
            case a33 =>
             refine' Ji7 ?s34
             case s34 =>
              exact (Jif Jjx)
            case b33 =>
             exact Jik
         case r23 =>
          refine' Ji7 ?s38
          case s38 =>
           exact (Jif Jjx)
  refine ⟨_,rfl,x,ns,0,rfl,hS,fun c0=>⟨c0,rfl,fun td R p0 H1 hp0 s1 st0 rt rg=>?_⟩⟩
  refine ⟨_,rfl,p0,td,R,rfl,rt,rg,fun o S H2 s2 ro lk=>?_⟩
  have rt2:=rt.same rg s2
  have s12:=s1.trans s2
  refine ⟨_,rfl,x,_,rfl,.inl (s12.seq hS),_,_,rfl,_,_,rfl,_,_,rfl,⟨by decide,by decide,?_,?_⟩,?_⟩
  ·split <;> split <;> omega
  ·split <;> split <;> omega
  refine Jns (fun i σ H'=>∃ o3 o4 o5 o6,σ = [some (.ref x),some td,some (.ref o),o3,o4,o5,o6] ∧ Same H2 H') ⟨_,_,_,_,rfl,Same.refl _⟩ ?_ ?_
  ·rintro i σ Hs hi ⟨o3,o4,o5,o6,rfl,sH⟩
   have sh:=s12.trans sH
   refine ⟨_,rfl,_,rfl,_,rfl,_,rfl,x,ns,1 + i,by simp,sh.seq hS,fun cl=>⟨cl,rfl,fun p H3 hp s3 st=>?_⟩⟩
   have rt3:=((rt2.same rg sH).move rg hp).same rg s3
   have ro3:=(ro.same sH).same s3
   refine ⟨p,o,td,R,S,rfl,s3 _ _ (sh _ _ htk),s3 _ _ (sh _ _ hts),st,rt3,rg,ro3,lk,fun H4 b4=>⟨_,rfl,Jj3 ?_⟩⟩
   exact ⟨_,_,_,_,rfl,fun c ob e=>b4.1 _ _ (Ji8 (sH _ _ e) hp) (s3 _ _ (sH _ _ e))⟩
  rintro σ H3 ⟨o3,o4,o5,o6,rfl,sH⟩
  have s3:=s12.trans sH
  refine ⟨(show 2 ≤ sizeLine by decide),fun L hL=>?_⟩
  have sL:=Same.upd (o:=.lst [.non,.int 5]) hL
  refine ⟨_,rfl,sL _ _ (s3 _ _ htk),.inl ⟨L,_,rfl,Ji3,by simp,fun f KL H4 s4 hKL kp=>?_⟩⟩
  have s04:=(s3.trans sL).trans s4
  have rt4:=((rt2.same rg sH).same rg sL).same rg s4
  refine ⟨_,rfl,x,ns,1,rfl,s04.seq hS,fun c1=>⟨c1,rfl,fun p H5 hp s5 st=>?_⟩⟩
  refine ⟨_,rfl,p,td,R,rfl,st,(rt4.move rg hp).same rg s5,rg,fun yv ls wt H6 b6 sd=>?_⟩
  have kp6 : Jva H6 f KL [.non,.int 5]:=⟨b6.1 _ _ (Ji8 kp.1 hp) (s5 _ _ kp.1),(kp.2.same s5).but st b6⟩
  have ht6 : H6 a.Jhy = some (.tbl lb_keeper_of):=b6.1 _ _ (Ji8 (s04 _ _ htk) hp) (s5 _ _ (s04 _ _ htk))
  refine ⟨f,rfl,_,rfl,[.ref KL],kp6.2,yv,0,KL,_,rfl,rfl,kp6.1,by simp,fun v hv=>?_⟩
  obtain rfl : V.non = v:=Option.some.inj hv
  refine ⟨rfl,_,rfl,Jj3 ?_⟩
  refine ⟨f,rfl,_,rfl,[.ref KL],kp6.2,yv,1,KL,_,rfl,rfl,kp6.1,by simp,fun v hv=>?_⟩
  obtain rfl : V.int 5 = v:=Option.some.inj hv
  refine ⟨rfl,_,rfl,Jj3 ?_⟩
  refine ⟨f,rfl,_,rfl,[.ref KL],kp6.2,yv,7,KL,_,rfl,rfl,kp6.1,by simp,fun v hv=>?_⟩
  obtain rfl : V.int 5 = v:=Option.some.inj hv
  refine ⟨rfl,_,rfl,Jj3 ?_⟩
  refine ⟨(show 0 ≤ sizeLine by decide),fun l1 h1=>?_⟩
  have q1:=Same.upd (o:=.lst []) h1
  refine ⟨(show 0 ≤ sizeLine by decide),fun t1 h2=>?_⟩
  have q2:=Same.upd (o:=.tup []) h2
  refine fun d1 h3=>?_
  have q3:=Same.upd (o:=.dK []) h3
  refine ⟨(show 1 ≤ sizeLine by decide),fun t2 h4=>?_⟩
  have q4:=Same.upd (o:=.tup [.int 0]) h4
  refine ⟨(show 2 ≤ sizeLine by decide),fun t3 h5=>?_⟩
  have q5:=Same.upd (o:=.tup [.ref t2,.non]) h5
  refine ⟨(show 1 ≤ sizeLine by decide),fun t4 h6=>?_⟩
  have q6:=Same.upd (o:=.tup [.ref t3]) h6
  refine fun d2 h7=>⟨Ji3,[(.inl 0,.int 1)],rfl,by simp,?_⟩
  rw [Jka]
  have q7:=Same.upd (o:=.dK (Jly [] [(.inl 0,.int 1)])) h7
  refine ⟨(show 10 ≤ sizeLine by decide),fun TL hTL=>?_⟩
  have q8:=Same.upd (o:=.lst [.ref l1,.ref t1,.non,.int 5,.bl true,.str "choices",.ref d1,.ref t4,.ref d2,.str ""]) hTL
  have g1:=q8 _ _ (q7 _ _ (q6 _ _ (q5 _ _ (q4 _ _ (q3 _ _ (q2 _ _ Ji3))))))
  have g2:=q8 _ _ (q7 _ _ (q6 _ _ (q5 _ _ (q4 _ _ (q3 _ _ Ji3)))))
  have g3:=q8 _ _ (q7 _ _ (q6 _ _ (q5 _ _ (q4 _ _ Ji3))))
  have g6:=q8 _ _ (q7 _ _ Ji3)
  have g7:=q8 _ _ Ji3
  have ht8:=q8 _ _ (q7 _ _ (q6 _ _ (q5 _ _ (q4 _ _ (q3 _ _ (q2 _ _ (q1 _ _ ht6)))))))
  refine ⟨TL,rfl,⟨_,SqL.of Ji3⟩,?_⟩
  have gT:=Ji3 (H:=upd (upd (upd (upd (upd (upd (upd H6 l1 (.lst [])) t1 (.tup [])) d1 (.dK [])) t2 (.tup [.int 0])) t3 (.tup [.ref t2,.non])) t4 (.tup [.ref t3])) d2 (.dK (Jly [] [(.inl 0,.int 1)]))) (a:=TL) (o:=.lst [.ref l1,.ref t1,.non,.int 5,.bl true,.str "choices",.ref d1,.ref t4,.ref d2,.str ""])
  generalize upd (upd (upd (upd (upd (upd (upd (upd H6 l1 (.lst [])) t1 (.tup [])) d1 (.dK [])) t2 (.tup [.int 0])) t3 (.tup [.ref t2,.non])) t4 (.tup [.ref t3])) d2 (.dK (Jly [] [(.inl 0,.int 1)]))) TL (.lst [.ref l1,.ref t1,.non,.int 5,.bl true,.str "choices",.ref d1,.ref t4,.ref d2,.str ""]) = H8 at *
  have all : ∀ z ∈ [V.ref l1,.ref t1,.non,.int 5,.bl true,.str "choices",.ref d1,.ref t4,.ref d2,.str ""],NoL K H8 z ∧ Own H8 z:=by
   intro z hz
   simp only [List.mem_cons,List.not_mem_nil,or_false] at hz
   rcases hz with rfl | rfl | rfl | rfl | rfl | rfl | rfl | rfl | rfl | rfl
   ·exact ⟨.inr ⟨l1,rfl,g1⟩,.inr ⟨l1,rfl,.inl ⟨[],.inl g1,fun v hv=>by simp at hv⟩⟩⟩
   ·exact ⟨.inl ⟨_,.of (.tup g2),rfl⟩,.inr ⟨t1,rfl,.inl ⟨[],.inr g2,fun v hv=>by simp at hv⟩⟩⟩
   ·exact ⟨.inl ⟨_,.of .non,rfl⟩,.inl rfl⟩
   ·exact ⟨.inl ⟨_,.of (.int 5),rfl⟩,.inl rfl⟩
   ·exact ⟨.inl ⟨_,.of (.bl true),rfl⟩,.inl rfl⟩
   ·exact ⟨.inl ⟨_,.of (.str _),rfl⟩,.inl rfl⟩
   ·exact ⟨.inl ⟨_,.of (.dK g3),rfl⟩,.inr ⟨d1,rfl,.inr (.inl g3)⟩⟩
   ·exact ⟨.inl ⟨_,.of (.tup g6),rfl⟩,.inr ⟨t4,rfl,.inl ⟨[.ref t3],.inr g6,fun v hv=>by rw [List.mem_singleton.mp hv]; exact .inr ⟨t3,rfl⟩⟩⟩⟩
   ·exact ⟨.inl ⟨_,.of (.dK g7),rfl⟩,.inr ⟨d2,rfl,.inr (.inr ⟨_,_,g7⟩)⟩⟩
   ·exact ⟨.inl ⟨_,.of (.str _),rfl⟩,.inl rfl⟩
  refine Jlw (xs:=[.ref l1,.ref t1,.non,.int 5,.bl true,.str "choices",.ref d1,.ref t4,.ref d2,.str ""]) (fun j σ H'=>∃ o3 o6,σ = [some (.ref x),some td,some (.ref o),o3,some (.ref f),some yv,o6] ∧ Same H8 H') ⟨_,_,rfl,Same.refl _⟩ (fun j σ H' _ ⟨_,_,_,sm⟩=>SqL.of (sm _ _ gT)) ?_ ?_
  ·rintro j z σ H' hz ⟨o3', o6', rfl,sm⟩
   obtain ⟨nl,ow⟩:=all z (List.mem_of_getElem? hz)
   exact ⟨_,rfl,z,rfl,sm _ _ ht8,nl.same sm,Own.same sm ow,fun H9 s9=>⟨_,rfl,Jj3 ⟨_,_,rfl,sm.trans s9⟩⟩⟩
  ·rintro σ H' ⟨o3', o6', rfl,sm⟩
   exact k _
end
theorem tx_mk {K : W.Frag} {mg : Str → Option Value} {f1 f2 f3 f4 f5 f6 f7 f8 f11 f12 f13 f14 f15 f16 f17 f18 f19 f20 f21 f22 f23 f24 f25 f28 f29 f32 f33 f36 f37 f40 f41 f44 f45 f46 f47 f48 f49 f50 f53 f54 f55 f56 f57 f58 f59 f60 f61 f62 f63 f64 f65 f66 f68 f69 f70 f71 f72 C0 C1 C2 C3 C4 C5 C6 C7 C8 C9 C10 C11 C12 C13 C14 C15 C16 C17 C18 nc20 np20 nc23 np23 : Addr} {d1 d2 d3 d4 d5 d6 d7 d8 d11 d12 d13 d14 d15 d16 d17 d18 d19 d20 d21 d22 d23 d24 d25 d28 d29 d32 d33 d36 d37 d40 d41 d44 d45 d46 d47 d48 d49 d50 d53 d54 d55 d56 d57 d58 d59 d60 d61 d62 d63 d64 d65 d66 d68 d69 d70 d71 d72 : FuncData} {t0 t1 t2 t3 t4 t5 t6 t7 t8 t9 : Tok}
(p0 : FT K mg "is_whole" (top 16) ["thing","low","high"] f11 d11)
(p1 : FT K mg "is_made_of" (top 17) ["text","signs"] f12 d12)
(p2 : FT K mg "is_name" (top 18) ["thing"] f13 d13)
(p3 : FT K mg "is_row" (top 20) ["thing","lows","highs"] f14 d14)
(p4 : FT K mg "is_row_up_to" (top 21) ["thing","highs"] f15 d15)
(p5 : FT K mg "is_pair" (top 22) ["thing"] f16 d16)
(p6 : FT K mg "is_standing" (top 23) ["river","thing"] f17 d17)
(p7 : FT K mg "forced_rain" (top 24) ["river","wet"] f18 d18)
(p8 : FT K mg "is_rain" (top 25) ["river","standing","thing"] f19 d19)
(p9 : FT K mg "keeper_of" (top 27) ["choices"] f20 d20)
(p10 : FT K mg "rain_by" (top 28) ["river","wet","wanted"] f21 d21)
(p11 : FT K mg "filled_up" (top 29) ["river","rain","least"] f22 d22)
(p12 : FT K mg "sky_of" (top 30) ["river","rains"] f23 d23)
(p13 : FT K mg "are_marks" (top 35) ["thing","lowest"] f24 d24)
(p14 : FT K mg "kept_marks" (top 36) ["marks","lowest"] f25 d25)
(p15 : FT K mg "refuse_no_level" (top 50) ["thing","low","high"] f44 d44)
(p16 : FT K mg "are_unlike" (top 53) ["names"] f47 d47)
(p17 : FT K mg "are_basins" (top 54) ["thing"] f48 d48)
(p18 : FT K mg "are_towns" (top 55) ["thing","basins"] f49 d49)
(p19 : FT K mg "_law_cell" (top 58) ["_law_script","_law_k"] f53 d53)
(p20 : FT K mg "_law_stream" (top 59) ["_law_cell_here"] f54 d54)
(p21 : FT K mg "_law_take" (top 60) ["_law_stream_here","_law_many"] f55 d55)
(p22 : FT K mg "_law_names" (top 61) ["_law_stream_here","_law_many"] f56 d56)
(p23 : FT K mg "_law_gate" (top 62) ["_law_stream_here"] f57 d57)
(p24 : FT K mg "_law_basin" (top 63) ["_law_stream_here","_law_name"] f58 d58)
(p25 : FT K mg "_law_river" (top 64) ["_law_cell_here"] f59 d59)
(p26 : FT K mg "_law_made_gate" (top 65) ["_law_told"] f60 d60)
(p27 : FT K mg "_law_made" (top 66) ["_law_told"] f61 d61)
(p28 : FT K mg "_law_settings" (top 67) ["_law_gate_here"] f62 d62)
(p29 : FT K mg "_law_standing" (top 68) ["_law_stream_here","_law_told"] f63 d63)
(p30 : FT K mg "_law_choice" (top 69) ["_law_stream_here","_law_told"] f64 d64)
(p31 : FT K mg "_law_forced" (top 70) ["_law_told","_law_wet"] f65 d65)
(p32 : FT K mg "_law_raised" (top 71) ["_law_told","_law_wet","_law_row"] f66 d66)
(p33 : FT K mg "_law_fell" (top 73) ["_law_told","_law_wet","_law_row"] f68 d68)
(p34 : FT K mg "_law_rows" (top 74) ["_law_stream_here","_law_told"] f69 d69)
(p35 : FT K mg "_law_refused" (top 75) ["_law_thing"] f70 d70)
(p36 : FT K mg "_law_right" (top 76) ["_law_told","_law_river_here","_law_stream_here"] f71 d71)
(p37 : FT K mg "law" (top 77) ["_law_script"] f72 d72)
(p38 : mg "LETTERS" = some (.str "abcdefghijklmnopqrstuvwxyz" t0))
(p39 : mg "MOST_LETTERS" = some (.int 8 t1))
(p40 : mg "MOST_SETTINGS" = some (.int 4 t2))
(p41 : mg "HIGHEST_MARK" = some (.int 12 t3))
(p42 : mg "HIGHEST" = some (.int 12 t4))
(p43 : mg "MOST_RAIN" = some (.int 6 t5))
(p44 : mg "MOST_WANT" = some (.int 6 t6))
(p45 : mg "MOST_CLOUD" = some (.int 12 t7))
(p46 : mg "MOST_BASINS" = some (.int 16 t8))
(p47 : mg "MOST_TOWNS" = some (.int 3 t9))
(p48 : mg "ValueError" = none)
(p49 : mg "all" = none)
(p50 : mg "bool" = none)
(p51 : mg "enumerate" = none)
(p52 : mg "int" = none)
(p53 : mg "isinstance" = none)
(p54 : mg "len" = none)
(p55 : mg "list" = none)
(p56 : mg "max" = none)
(p57 : mg "min" = none)
(p58 : mg "range" = none)
(p59 : mg "set" = none)
(p60 : mg "str" = none)
(p61 : mg "sum" = none)
(p62 : mg "tuple" = none)
(p63 : mg "zip" = none)
(p64 : mg "WeirError" = some (.ref C0))
(p65 : mg "NoName" = some (.ref C1))
(p66 : mg "NoGate" = some (.ref C2))
(p67 : mg "NoBasin" = some (.ref C3))
(p68 : mg "NoTown" = some (.ref C4))
(p69 : mg "NoCloud" = some (.ref C5))
(p70 : mg "NoRiver" = some (.ref C6))
(p71 : mg "NoStanding" = some (.ref C7))
(p72 : mg "NoChoice" = some (.ref C8))
(p73 : mg "NoRain" = some (.ref C9))
(p74 : mg "NoNumber" = some (.ref C10))
(p75 : mg "Gate" = some (.ref C11))
(p76 : mg "StepGate" = some (.ref C12))
(p77 : mg "FlapGate" = some (.ref C13))
(p78 : mg "PartGate" = some (.ref C14))
(p79 : mg "StuckGate" = some (.ref C15))
(p80 : mg "Basin" = some (.ref C16))
(p81 : mg "Town" = some (.ref C17))
(p82 : mg "River" = some (.ref C18))
(p83 : W.findIn K (.ref C1) "__init__" = some (some (.ref f1)))
(p84 : FM K "__init__" "NoName.__init__" (Jid (top 3) 0) ["self","thing"] f1 d1)
(p85 : W.findIn K (.ref C2) "__init__" = some (some (.ref f2)))
(p86 : FM K "__init__" "NoGate.__init__" (Jid (top 4) 0) ["self","thing"] f2 d2)
(p87 : W.findIn K (.ref C3) "__init__" = some (some (.ref f3)))
(p88 : FM K "__init__" "NoBasin.__init__" (Jid (top 5) 0) ["self","thing"] f3 d3)
(p89 : W.findIn K (.ref C4) "__init__" = some (some (.ref f4)))
(p90 : FM K "__init__" "NoTown.__init__" (Jid (top 6) 0) ["self","thing"] f4 d4)
(p91 : W.findIn K (.ref C5) "__init__" = some (some (.ref f5)))
(p92 : FM K "__init__" "NoCloud.__init__" (Jid (top 7) 0) ["self","thing"] f5 d5)
(p93 : W.findIn K (.ref C6) "__init__" = some (some (.ref f6)))
(p94 : FM K "__init__" "NoRiver.__init__" (Jid (top 8) 0) ["self","thing"] f6 d6)
(p95 : W.findIn K (.ref C7) "__init__" = some (some (.ref f7)))
(p96 : FM K "__init__" "NoStanding.__init__" (Jid (top 9) 0) ["self","thing"] f7 d7)
(p97 : W.findIn K (.ref C8) "__init__" = some (some (.ref f8)))
(p98 : FM K "__init__" "NoChoice.__init__" (Jid (top 10) 0) ["self","thing"] f8 d8)
(p99 : W.findIn K (.ref C12) "__init__" = some (some (.ref f28)))
(p100 : FM K "__init__" "StepGate.__init__" (Jid (top 39) 0) ["self","marks"] f28 d28)
(p101 : W.findIn K (.ref C12) "settings" = some (some (.ref f29)))
(p102 : FM K "settings" "StepGate.settings" (Jid (top 39) 1) ["self"] f29 d29)
(p103 : W.findIn K (.ref C13) "__init__" = some (some (.ref f32)))
(p104 : FM K "__init__" "FlapGate.__init__" (Jid (top 40) 0) ["self","marks"] f32 d32)
(p105 : W.findIn K (.ref C13) "settings" = some (some (.ref f33)))
(p106 : FM K "settings" "FlapGate.settings" (Jid (top 40) 1) ["self"] f33 d33)
(p107 : W.findIn K (.ref C14) "__init__" = some (some (.ref f36)))
(p108 : FM K "__init__" "PartGate.__init__" (Jid (top 41) 0) ["self","marks"] f36 d36)
(p109 : W.findIn K (.ref C14) "settings" = some (some (.ref f37)))
(p110 : FM K "settings" "PartGate.settings" (Jid (top 41) 1) ["self"] f37 d37)
(p111 : W.findIn K (.ref C15) "__init__" = some (some (.ref f40)))
(p112 : FM K "__init__" "StuckGate.__init__" (Jid (top 42) 0) ["self","gate","setting"] f40 d40)
(p113 : W.findIn K (.ref C15) "settings" = some (some (.ref f41)))
(p114 : FM K "settings" "StuckGate.settings" (Jid (top 42) 1) ["self"] f41 d41)
(p115 : W.findIn K (.ref C16) "__init__" = some (some (.ref f45)))
(p116 : FM K "__init__" "Basin.__init__" (Jid (top 51) 0) ["self","name","low","high","start","rain","gate"] f45 d45)
(p117 : W.findIn K (.ref C17) "__init__" = some (some (.ref f46)))
(p118 : FM K "__init__" "Town.__init__" (Jid (top 52) 0) ["self","name","basin","want"] f46 d46)
(p119 : W.findIn K (.ref C18) "__init__" = some (some (.ref f50)))
(p120 : FM K "__init__" "River.__init__" (Jid (top 56) 0) ["self","cloud","gain","basins","towns"] f50 d50)
(p121 : XCls K C1 C0 f1)
(p122 : W.findIn K (.ref C1) "thing" = some none)
(p123 : XCls K C2 C0 f2)
(p124 : W.findIn K (.ref C2) "thing" = some none)
(p125 : XCls K C3 C0 f3)
(p126 : W.findIn K (.ref C3) "thing" = some none)
(p127 : XCls K C4 C0 f4)
(p128 : W.findIn K (.ref C4) "thing" = some none)
(p129 : XCls K C5 C0 f5)
(p130 : XCls K C6 C0 f6)
(p131 : XCls K C7 C0 f7)
(p132 : W.findIn K (.ref C7) "thing" = some none)
(p133 : XCls K C8 C0 f8)
(p134 : W.findIn K (.ref C8) "thing" = some none)
(p135 : Cls K C12)
(p136 : YCls K C12)
(p137 : Mk K C12 f28)
(p138 : Jon K C12 "settings" f29)
(p139 : W.findIn K (.ref C12) "marks" = some none)
(p140 : Cls K C13)
(p141 : YCls K C13)
(p142 : Mk K C13 f32)
(p143 : Jon K C13 "settings" f33)
(p144 : W.findIn K (.ref C13) "marks" = some none)
(p145 : Cls K C14)
(p146 : YCls K C14)
(p147 : Mk K C14 f36)
(p148 : Jon K C14 "settings" f37)
(p149 : W.findIn K (.ref C14) "marks" = some none)
(p150 : Cls K C15)
(p151 : YCls K C15)
(p152 : Mk K C15 f40)
(p153 : Jon K C15 "settings" f41)
(p154 : W.findIn K (.ref C15) "gate" = some none)
(p155 : W.findIn K (.ref C15) "setting" = some none)
(p156 : Cls K C16)
(p157 : YCls K C16)
(p158 : Mk K C16 f45)
(p159 : W.findIn K (.ref C16) "name" = some none)
(p160 : W.findIn K (.ref C16) "low" = some none)
(p161 : W.findIn K (.ref C16) "high" = some none)
(p162 : W.findIn K (.ref C16) "start" = some none)
(p163 : W.findIn K (.ref C16) "rain" = some none)
(p164 : W.findIn K (.ref C16) "gate" = some none)
(p165 : Cls K C17)
(p166 : YCls K C17)
(p167 : Mk K C17 f46)
(p168 : W.findIn K (.ref C17) "name" = some none)
(p169 : W.findIn K (.ref C17) "basin" = some none)
(p170 : W.findIn K (.ref C17) "want" = some none)
(p171 : Cls K C18)
(p172 : Mk K C18 f50)
(p173 : W.findIn K (.ref C18) "cloud" = some none)
(p174 : W.findIn K (.ref C18) "gain" = some none)
(p175 : W.findIn K (.ref C18) "basins" = some none)
(p176 : W.findIn K (.ref C18) "towns" = some none)
(p177 : Nst K f20 nc20 np20)
(p178 : W.tabIn K "keeper_of" = some (nc20,np20))
(p179 : Nst K f23 nc23 np23)
(p180 : W.tabIn K "sky_of" = some (nc23,np23))
(p181 : [np20,np23].Nodup)
(p182 : W.kitOne K (.ref C12) (.ref C11) = some true)
(p183 : W.kitOne K (.ref C13) (.ref C11) = some true)
(p184 : W.kitOne K (.ref C14) (.ref C11) = some true)
(p185 : W.kitOne K (.ref C15) (.ref C11) = some true)
(p186 : W.kitOne K (.ref C16) (.ref C16) = some true)
(p187 : W.kitOne K (.ref C17) (.ref C17) = some true)
(p188 : W.kitOne K (.ref C12) (.type "bool") = some false)
(p189 : W.kitOne K (.ref C13) (.type "bool") = some false)
(p190 : W.kitOne K (.ref C14) (.type "bool") = some false)
(p191 : W.kitOne K (.ref C15) (.type "bool") = some false)
(p192 : W.kitAny K (.ref C12) [.ref C12,.ref C13,.ref C14,.ref C15] = some true)
(p193 : W.kitAny K (.ref C13) [.ref C12,.ref C13,.ref C14,.ref C15] = some true)
(p194 : W.kitAny K (.ref C14) [.ref C12,.ref C13,.ref C14,.ref C15] = some true)
(p195 : W.kitAny K (.ref C15) [.ref C12,.ref C13,.ref C14,.ref C15] = some true)
(p196 : W.kitOne K (.ref C8) (.ref C7) = some false)
(p197 : W.kitOne K (.ref C8) (.ref C9) = some false)
(p198 : W.kitOne K (.ref C8) (.ref C0) = some true)
(p199 : W.kitOne K (.ref C8) (.type "ValueError") = some true)
(p200 : W.mroIn K C8 (.ref C8) = some true) :
  ∃ a : Ad,a.d_law = d72 ∧ Tx K mg a:=⟨⟨f1,d1,f2,d2,f3,d3,f4,d4,f5,d5,f6,d6,f7,d7,f8,d8,f11,d11,f12,d12,f13,d13,f14,d14,f15,d15,f16,d16,f17,d17,f18,d18,f19,d19,f20,d20,f21,d21,f22,d22,f23,d23,f24,d24,f25,d25,f28,d28,f29,d29,f32,d32,f33,d33,f36,d36,f37,d37,f40,d40,f41,d41,f44,d44,f45,d45,f46,d46,f47,d47,f48,d48,f49,d49,f50,d50,f53,d53,f54,d54,f55,d55,f56,d56,f57,d57,f58,d58,f59,d59,f60,d60,f61,d61,f62,d62,f63,d63,f64,d64,f65,d65,f66,d66,f68,d68,f69,d69,f70,d70,f71,d71,f72,d72,t0,t1,t2,t3,t4,t5,t6,t7,t8,t9,C0,C1,C2,C3,C4,C5,C6,C7,C8,C9,C10,C11,C12,C13,C14,C15,C16,C17,C18,nc20,np20,nc23,np23⟩,rfl,⟨p0,p1,p2,p3,p4,p5,p6,p7,p8,p9,p10,p11,p12,p13,p14,p15,p16,p17,p18,p19,p20,p21,p22,p23,p24,p25,p26,p27,p28,p29,p30,p31,p32,p33,p34,p35,p36,p37,p38,p39,p40,p41,p42,p43,p44,p45,p46,p47,p48,p49,p50,p51,p52,p53,p54,p55,p56,p57,p58,p59,p60,p61,p62,p63,p64,p65,p66,p67,p68,p69,p70,p71,p72,p73,p75,p76,p77,p78,p79,p80,p81,p82,p84,p86,p88,p90,p92,p94,p96,p98,p100,p102,p104,p106,p108,p110,p112,p114,p116,p118,p120,p121,p122,p123,p124,p125,p126,p127,p128,p129,p130,p131,p132,p133,p133.e,p134,p135,p136,p137,p138,p139,p140,p141,p142,p143,p144,p145,p146,p147,p148,p149,p150,p151,p152,p153,p154,p155,p156,p157,p158,p159,p160,p161,p162,p163,p164,p165,p166,p167,p168,p169,p170,p171,p172,p173,p174,p175,p176,p177,p178,p179,p180,p181,p182,p183,p184,p185,p186,p187,p188,p189,p190,p191,p192,p193,p194,p195,p196,p197,p198,p199,p200⟩⟩
theorem tx_fin {K : W.Frag} {mg : Str → Option Value} {d : FuncData} (h : ∃ a : Ad,a.d_law = d ∧ Tx K mg a) (b : ∀ (s : Shared) (v : Value),BindsTo s d ⟨[v],[]⟩ [("_law_script",v)]) : ∃ a : Ad,(∀ (s : Shared) (v : Value),BindsTo s a.d_law ⟨[v],[]⟩ [("_law_script",v)]) ∧ Tx K mg a:=by
 obtain ⟨a,e,T⟩:=h
 exact ⟨a,by rw [e]; exact b,T⟩
end K15
namespace PySem.W.Fast
def tw4471812528049043795:=()
def tw2345102382890499246:=()
def tw1253132854710589771:=()
def tw14155330768862735160:=()
def tw3777379905116509061:=()
def tw14703140409537959301:=()
def tw15877247473866322732:=()
def tw2281684970344435471:=()
def tw7642510563173878711:=()
def tw14533246983718681818:=()
def tw17826666581922219971:=()
def tw8353859716155822096:=()
def tw7049679990754443742:=()
def tw13218848009452275204:=()
def tw13569691988857242072:=()
def tw16438642225604143010:=()
def tw9476104104668640402:=()
def tw4450832406241288132:=()
def tw11219003286808318637:=()
def tw17723488224936497343:=()
def tw8899830708086693512:=()
def tw9597789165663658955:=()
def tw8886652934177023715:=()
def tw15264731162385647236:=()
def tw8199372547962591616:=()
def tw10265810631539278270:=()
def tw6584904367159254860:=()
def tw4102790854827992475:=()
def tw5589680564260911134:=()
def tw5497324974838539440:=()
def tw17484252755164854287:=()
def tw11624957073425742152:=()
def tw10572774409412250011:=()
def tw6133180979599878967:=()
def tw13640562346322486464:=()
def tw1227973377005110302:=()
def tw13560337605775827060:=()
def tw10450009553451371982:=()
def tw12518503312742635625:=()
def tw14123625977352963251:=()
def tw262263459165865275:=()
def tw14550749521843674998:=()
def tw13396579429694160065:=()
def tw12890723287110456572:=()
def tw10875216248932581788:=()
def tw9550400441173557034:=()
def tw6252127819916623911:=()
def tw2551443661348124310:=()
def tw17630555808639238156:=()
def tw10493463145969637829:=()
def tw14165832019382925956:=()
def tw10196767658704553857:=()
def tw17598681657984455012:=()
def tw6327840365296732238:=()
def tw8631743265681512789:=()
def tw17511331438286608134:=()
def tw17725317562851803787:=()
def tw15354939413390111586:=()
def tw8122458411935320440:=()
def tw17706799990206639294:=()
def tw4433526481863837186:=()
def tw17538809383412917503:=()
def tw10428532491430245202:=()
def tw12785745308571192797:=()
def tw799455982260429005:=()
def tw1839316477928251153:=()
def tw13854867007391609580:=()
def tw10861331212371362708:=()
def tw5852288909622151277:=()
def tw16208191240331898605:=()
def tw14554671409311106755:=()
def tw4264080312996526579:=()
def tw15116291734345719582:=()
def tw3833687852160475365:=()
def tw12110413133250789280:=()
def tw10904691159491331338:=()
def tw8732033663377809627:=()
def tw6191559274966569208:=()
def tw18093414669258546441:=()
def tw10498863650751098007:=()
def tw4031152290501173172:=()
def tw13778453996285617460:=()
def tw2519708658606137662:=()
def tw6678889329815419263:=()
def tw9105281687203124285:=()
def tw4833278848148053752:=()
def tw1137639845005716447:=()
def tw15192432614535984757:=()
def tw9029286391385559729:=()
def tw2188768308594244815:=()
def tw13664932247802419812:=()
def tw1004037986115199998:=()
def tw10455487213306780627:=()
def tw5633135118801327402:=()
def tw11930028539139863703:=()
def tw4372069167375725357:=()
def tw14256879045711421229:=()
def tw11640102306618056524:=()
def tw3661489829921938902:=()
def tw231252373038486225:=()
def tw13379258342017407980:=()
def tw9571332191916125874:=()
def tw6675568430851559027:=()
def tw2098556655227130804:=()
def tw14524058701018411062:=()
def tw3244646446614755823:=()
def tw10257074324788388615:=()
def tw7226326196193970239:=()
def tw14275540281374906390:=()
def tw2688802260675297123:=()
def tw1993728386716125495:=()
def tw6732260274697221617:=()
def tw4741499498732670451:=()
def tw2420564006852165601:=()
def tw7871711409014878541:=()
def tw10255729269393070439:=()
def tw3887642885758419219:=()
def tw11966892626438833713:=()
def tw15501002854375563472:=()
def tw3028018081185890150:=()
def tw13849665263972913948:=()
def tw8106152514403942216:=()
def tw5784786303986743410:=()
def tw1769714508971495614:=()
def tw2891940817305830913:=()
def tw13534680868047860251:=()
def tw5370461697419159575:=()
def tw8057666907791227412:=()
def tw7004078649812060194:=()
def tw15352329131679714305:=()
def tw747078002590443840:=()
def tw15770962833255589705:=()
def tw6095004507500531489:=()
def tw17840409959489997933:=()
def tw6293040482212386458:=()
def tw12212506822661928106:=()
def tw4637978942313679092:=()
def tw15589789129788573492:=()
def tw11212471109112163576:=()
def tw512479083276420479:=()
def tw4466829632548091141:=()
def tw16358247453137801603:=()
def tw2155407511400423995:=()
def tw13031025871858252349:=()
def tw10929275500516387479:=()
def tw9186729550162399935:=()
def tw7257747806395041859:=()
def tw18346792427527777881:=()
def tw6289733695549222038:=()
def tw8639184483026000724:=()
def tw4117422989433374558:=()
def tw2990461497223138902:=()
def tw17494027119799651989:=()
def tw3087231943525967643:=()
def tw522445977527113539:=()
def tw13645532556405383855:=()
def tw753520991749501471:=()
def tw805275681077277235:=()
def tw10315244060529204163:=()
def tw14689208997311224272:=()
def tw5609911160825520735:=()
def tw8310810576854815967:=()
def tw15501524108829625649:=()
def tw13089073382241923779:=()
def tw115525930474650651:=()
def tw12203149771974554738:=()
def tw15271588727196435995:=()
def tw9720695996275834216:=()
def tw3474071073360914110:=()
def tw2081455039597460962:=()
def tw16633718310216652906:=()
def tw11882518266280302627:=()
def tw6996413054621482925:=()
def tw11966935794124950506:=()
def tw7484289197899598895:=()
def tw3058291752051562880:=()
def tw1175117878406970425:=()
def tw6213751788520435063:=()
def tw2881719344433831375:=()
def tw10378265505204129634:=()
def tw8936660171568607209:=()
def tw13377851980442153702:=()
def tw3231138882960008129:=()
def tw2811302337979889155:=()
def tw5731945394923829215:=()
def tw18138488108196475568:=()
def tw14432189747506802917:=()
def tw4195898527906003590:=()
def tw96414218441653136:=()
def tw8833233395993150662:=()
def tw15672718765539961788:=()
def tw9301077588343303759:=()
def tw15189649690438671294:=()
def tw12594283238050859626:=()
def tw6123068119556531971:=()
def tw3503068485150142142:=()
def tw17363724592941503306:=()
def tw3672201647058042838:=()
def tw16484829305334889220:=()
def tw7829339022043592432:=()
def tw5625993258920322633:=()
def tw5846664624861064727:=()
def tw32612645907901888:=()
def tw2903710934800205003:=()
def tw10433629702516589452:=()
def tw14309283799813395568:=()
def tw1201435168508652198:=()
def tw5533074234827351212:=()
def tw11104095970090138100:=()
def tw5049257102440448818:=()
def tw9038706544050781494:=()
def tw13236932122572895132:=()
def tw2940523776153187483:=()
def tw8437890188609874836:=()
def tw7593952453133366417:=()
def tw1129015487918216576:=()
def tw15759981092648850892:=()
def tw16448711829463852067:=()
def tw17703312986064573489:=()
def tw2782141362153864490:=()
def tw12881252555659314821:=()
def tw5675025363220263098:=()
def tw16783523940738630390:=()
def tw2964566013432820880:=()
def tw9375579709023143134:=()
def tw6501836272682525982:=()
def tw9455621971389043944:=()
def tw16383613617937571332:=()
def tw5910623165491982359:=()
def tw3340071327613664153:=()
def tw15963347302929264243:=()
def tw1460635544025671077:=()
def tw8932060241163567160:=()
def tw5891186057195806894:=()
def tw7879765445669130556:=()
def tw15093773849988488323:=()
def tw12720610892973313301:=()
def tw6334018666120388643:=()
def tw11962401730571632530:=()
def tw2888834739361239754:=()
def tw10007745877633640281:=()
def tw16020750226330616991:=()
def tw10583995853678532644:=()
def tw2188560288457376699:=()
def tw15280072671743796799:=()
def tw8441079022780291793:=()
def tw14930420367054214466:=()
def tw15087435802110919209:=()
def tw3392222397249825483:=()
def tw12098958860133190309:=()
def tw10600506007777305684:=()
def tw14258383952809313000:=()
def tw17113545019277291755:=()
def tw11278138142619869350:=()
def tw13185285319906372563:=()
def tw295519851766122547:=()
def tw15242962698632849214:=()
def tw9910996356940914851:=()
def tw7841812356135443249:=()
def tw2227251077385869201:=()
def tw8155365461953859582:=()
def tw3652422594081277455:=()
def tw3161011958591003693:=()
def tw659085482344944065:=()
def tw2801454191770574830:=()
def tw10361652184802000437:=()
def tw14678396372671244000:=()
def tw7791941918149442785:=()
def tw12914242866449836580:=()
def tw16192897278162863499:=()
def tw4476927911985515422:=()
def tw8861857814437893854:=()
def tw3262620048816556652:=()
def tw17583132185459290515:=()
def tw1805693020167813945:=()
def tw3213221720691319732:=()
def tw8287227104095356482:=()
def tw3926794920001719086:=()
def tw2831146251986762524:=()
def tw13223471353280227777:=()
def tw17082617421226278511:=()
def tw12595566260421498082:=()
def tw5032313600446910860:=()
def tw6358688828085764856:=()
def tw15046998759879201657:=()
def tw7756910438305995151:=()
def tw16394830039118347201:=()
def tw12178047459935818790:=()
def tw9835166920002019597:=()
def tw12437971259055599761:=()
def tw12630167966698931017:=()
def tw2711089351400811714:=()
def tw16371210365766633945:=()
def tw8595868216169330220:=()
def tw12187896227671099692:=()
def tw2531590254192608090:=()
def tw7958052487685837322:=()
def tw14993731481112612976:=()
def tw15547774729266653480:=()
def tw6345531574162382451:=()
def tw18051088185562308524:=()
def tw9017925229159486943:=()
def tw14028382965289556654:=()
def tw16662196583365313624:=()
def tw8397418521425761255:=()
def tw10390529098310011917:=()
def tw4309152784753009824:=()
def tw8307130573788939128:=()
def tw10509579244923424895:=()
def tw17399626076797171694:=()
def tw17200799094069521551:=()
def tw7565561103691291551:=()
def tw9201944553598119010:=()
def tw3962011894623964610:=()
def tw5967978470725013890:=()
def tw18020163543832623797:=()
def tw7275788666317896962:=()
def tw1465138452564986940:=()
def tw14647208359073329439:=()
def tw11985093373128935236:=()
def tw5843081212657068315:=()
def tw8761090529346138463:=()
def tw11583296245889086394:=()
def tw2230610523807870385:=()
def tw17670364776135256585:=()
def tw12060953738108534617:=()
def tw3658280920357458124:=()
def tw14049944254415711693:=()
def tw17696461127581865923:=()
def tw10007864497617047496:=()
def tw5648343949469914729:=()
def tw6749597613276129618:=()
def tw16430194260846451451:=()
def tw6926197707384279271:=()
def tw9554156792620089393:=()
def tw15750068630095238479:=()
def tw11665399763135320428:=()
def tw12891265562454567096:=()
def tw4515592492172949008:=()
def tw11912190317247379726:=()
def tw4422488244327866474:=()
def tw15343209850459251262:=()
def tw7469466166549175996:=()
def tw13451319491394092441:=()
def tw9206370381232639067:=()
def tw6761115231649714627:=()
def tw2166210225011162453:=()
def tw2048334480601953661:=()
def tw4915805925721304821:=()
def tw12391788653830940509:=()
def tw10517055404330149441:=()
def tw4848596158125473680:=()
def tw16610495841486949456:=()
def tw14432089162975222909:=()
def tw6600492330660711097:=()
def tw208617333333068636:=()
def tw1128890112731621929:=()
def tw2708469953802296147:=()
def tw855740110498740814:=()
def tw10145188971666908076:=()
def tw14697641218107389243:=()
def tw2618257550589486344:=()
def tw10051986517194436446:=()
def tw15452032888462117982:=()
def tw17209711568611605028:=()
def tw13063653519386552307:=()
def tw10103030841287427936:=()
def tw3845577024320082600:=()
def tw14761559359154777027:=()
def tw3921767826531060896:=()
def tw637263134455652669:=()
def tw7717947759726471179:=()
def tw10286379005943886336:=()
def tw3886424522771494762:=()
def tw11461947533542350887:=()
def tw8941663524046319761:=()
def tw10757120170739677318:=()
def tw9552758450042588927:=()
def tw14645726273111845437:=()
def tw4090606127439693855:=()
def tw9518117651625953606:=()
def tw8603486133479912522:=()
def tw97608220360410968:=()
def tw11877539461334622294:=()
def tw14896126294702186982:=()
def tw13101078735977272616:=()
def tw9466721869090222956:=()
def tw15846428396893274182:=()
def tw7197236119324788191:=()
def tw3359031309178469711:=()
def tw7322593794162208893:=()
def tw2200911558774944895:=()
def tw6712027624535247169:=()
def tw7745991153010215429:=()
def tw11179525497296742321:=()
def tw9136783661278456518:=()
def tw10054540488390434990:=()
def tw11631026388626173899:=()
def tw5021637286819568071:=()
def tw2169259803842225846:=()
def tw12313083356695942630:=()
def tw13611479162896139943:=()
def tw5665704475699563610:=()
def tw6280727761035085090:=()
def tw8978747257179121682:=()
def tw11774777283931617724:=()
def tw974643722659480243:=()
def tw9866615876301660290:=()
def tw17294394096121325615:=()
def tw4554787753142573376:=()
def tw15042592220392951842:=()
def tw7208818285771229956:=()
def tw11802760251609545849:=()
def tw7047757936680134428:=()
def tw10929125042656257229:=()
def tw16087633407920386709:=()
def tw10850230652697706836:=()
def tw9305835006508706020:=()
def tw3393455523985758729:=()
def tw2563422950525442535:=()
def tw7449054541925762526:=()
end PySem.W.Fast
open PySem PySem.W PyProof.Rows
set_option maxRecDepth 100000 in
set_option maxHeartbeats 0 in
theorem PySem.Challenge.cw_weirwatch_k15_told_keepers_and_skies_holds : PySem.Challenge.rw_weirwatch_k15_told_keepers_and_skies.Holds := by
 w_on; o_law; k_head; (case hw=>w_witness2)
 k_fill
 refine L2.walk_ofT (l:=PySem.Challenge.rw_weirwatch_k15_told_keepers_and_skies) (n:=63) (k:=10) (x := "_law_script") (CX:=L2.CX0) rfl (by decide) rfl ⟨rfl,by decide,by decide⟩ (fun w h Y=>PySem.W.km_in_of Y) ?K ?F ?C
 case K=>intro w; kernel_rfl
 case F =>
  intro w mg fa h KX G TB hmg
  have T : ∃ a : K15.Ad,(∀ (s : Shared) (v : Value),BindsTo s a.d_law ⟨[v],[]⟩ [("_law_script",v)]) ∧ K15.Tx (L2.KOf KX) mg a:=by
   dsimp only [L2.KOf]
   refine' K15.tx_fin ?tx ?bb
   case tx =>
    refine' K15.tx_mk (L2.ft_mk KX G ?h0 ?h1 ?h2 ?h3 fun _ _ _ _ _ _ u h=>match u,h with | [_,_,_],_=>rfl) (L2.ft_mk KX G ?h4 ?h5 ?h6 ?h7 fun _ _ _ _ _ _ u h=>match u,h with | [_,_],_=>rfl) (L2.ft_mk KX G ?h8 ?h9 ?h10 ?h11 fun _ _ _ _ _ _ u h=>match u,h with | [_],_=>rfl) (L2.ft_mk KX G ?h12 ?h13 ?h14 ?h15 fun _ _ _ _ _ _ u h=>match u,h with | [_,_,_],_=>rfl) (L2.ft_mk KX G ?h16 ?h17 ?h18 ?h19 fun _ _ _ _ _ _ u h=>match u,h with | [_,_],_=>rfl) (L2.ft_mk KX G ?h20 ?h21 ?h22 ?h23 fun _ _ _ _ _ _ u h=>match u,h with | [_],_=>rfl) (L2.ft_mk KX G ?h24 ?h25 ?h26 ?h27 fun _ _ _ _ _ _ u h=>match u,h with | [_,_],_=>rfl) (L2.ft_mk KX G ?h28 ?h29 ?h30 ?h31 fun _ _ _ _ _ _ u h=>match u,h with | [_,_],_=>rfl) (L2.ft_mk KX G ?h32 ?h33 ?h34 ?h35 fun _ _ _ _ _ _ u h=>match u,h with | [_,_,_],_=>rfl) (L2.ft_mk KX G ?h36 ?h37 ?h38 ?h39 fun _ _ _ _ _ _ u h=>match u,h with | [_],_=>rfl) (L2.ft_mk KX G ?h40 ?h41 ?h42 ?h43 fun _ _ _ _ _ _ u h=>match u,h with | [_,_,_],_=>rfl) (L2.ft_mk KX G ?h44 ?h45 ?h46 ?h47 fun _ _ _ _ _ _ u h=>match u,h with | [_,_,_],_=>rfl) (L2.ft_mk KX G ?h48 ?h49 ?h50 ?h51 fun _ _ _ _ _ _ u h=>match u,h with | [_,_],_=>rfl) (L2.ft_mk KX G ?h52 ?h53 ?h54 ?h55 fun _ _ _ _ _ _ u h=>match u,h with | [_,_],_=>rfl) (L2.ft_mk KX G ?h56 ?h57 ?h58 ?h59 fun _ _ _ _ _ _ u h=>match u,h with | [_,_],_=>rfl) (L2.ft_mk KX G ?h60 ?h61 ?h62 ?h63 fun _ _ _ _ _ _ u h=>match u,h with | [_,_,_],_=>rfl) (L2.ft_mk KX G ?h64 ?h65 ?h66 ?h67 fun _ _ _ _ _ _ u h=>match u,h with | [_],_=>rfl) (L2.ft_mk KX G ?h68 ?h69 ?h70 ?h71 fun _ _ _ _ _ _ u h=>match u,h with | [_],_=>rfl) (L2.ft_mk KX G ?h72 ?h73 ?h74 ?h75 fun _ _ _ _ _ _ u h=>match u,h with | [_,_],_=>rfl) (L2.ft_mk KX G ?h76 ?h77 ?h78 ?h79 fun _ _ _ _ _ _ u h=>match u,h with | [_,_],_=>rfl) (L2.ft_mk KX G ?h80 ?h81 ?h82 ?h83 fun _ _ _ _ _ _ u h=>match u,h with | [_],_=>rfl) (L2.ft_mk KX G ?h84 ?h85 ?h86 ?h87 fun _ _ _ _ _ _ u h=>match u,h with | [_,_],_=>rfl) (L2.ft_mk KX G ?h88 ?h89 ?h90 ?h91 fun _ _ _ _ _ _ u h=>match u,h with | [_,_],_=>rfl) (L2.ft_mk KX G ?h92 ?h93 ?h94 ?h95 fun _ _ _ _ _ _ u h=>match u,h with | [_],_=>rfl) (L2.ft_mk KX G ?h96 ?h97 ?h98 ?h99 fun _ _ _ _ _ _ u h=>match u,h with | [_,_],_=>rfl) (L2.ft_mk KX G ?h100 ?h101 ?h102 ?h103 fun _ _ _ _ _ _ u h=>match u,h with | [_],_=>rfl) (L2.ft_mk KX G ?h104 ?h105 ?h106 ?h107 fun _ _ _ _ _ _ u h=>match u,h with | [_],_=>rfl) (L2.ft_mk KX G ?h108 ?h109 ?h110 ?h111 fun _ _ _ _ _ _ u h=>match u,h with | [_],_=>rfl) (L2.ft_mk KX G ?h112 ?h113 ?h114 ?h115 fun _ _ _ _ _ _ u h=>match u,h with | [_],_=>rfl) (L2.ft_mk KX G ?h116 ?h117 ?h118 ?h119 fun _ _ _ _ _ _ u h=>match u,h with | [_,_],_=>rfl) (L2.ft_mk KX G ?h120 ?h121 ?h122 ?h123 fun _ _ _ _ _ _ u h=>match u,h with | [_,_],_=>rfl) (L2.ft_mk KX G ?h124 ?h125 ?h126 ?h127 fun _ _ _ _ _ _ u h=>match u,h with | [_,_],_=>rfl) (L2.ft_mk KX G ?h128 ?h129 ?h130 ?h131 fun _ _ _ _ _ _ u h=>match u,h with | [_,_,_],_=>rfl) (L2.ft_mk KX G ?h132 ?h133 ?h134 ?h135 fun _ _ _ _ _ _ u h=>match u,h with | [_,_,_],_=>rfl) (L2.ft_mk KX G ?h136 ?h137 ?h138 ?h139 fun _ _ _ _ _ _ u h=>match u,h with | [_,_],_=>rfl) (L2.ft_mk KX G ?h140 ?h141 ?h142 ?h143 fun _ _ _ _ _ _ u h=>match u,h with | [_],_=>rfl) (L2.ft_mk KX G ?h144 ?h145 ?h146 ?h147 fun _ _ _ _ _ _ u h=>match u,h with | [_,_,_],_=>rfl) (L2.ft_mk KX G ?h148 ?h149 ?h150 ?h151 fun _ _ _ _ _ _ u h=>match u,h with | [_],_=>rfl) (PySem.W.mg_of KX G ?h152) (PySem.W.mg_of KX G ?h153) (PySem.W.mg_of KX G ?h154) (PySem.W.mg_of KX G ?h155) (PySem.W.mg_of KX G ?h156) (PySem.W.mg_of KX G ?h157) (PySem.W.mg_of KX G ?h158) (PySem.W.mg_of KX G ?h159) (PySem.W.mg_of KX G ?h160) (PySem.W.mg_of KX G ?h161) (PySem.W.mg_none_of KX G ?h162) (PySem.W.mg_none_of KX G ?h163) (PySem.W.mg_none_of KX G ?h164) (PySem.W.mg_none_of KX G ?h165) (PySem.W.mg_none_of KX G ?h166) (PySem.W.mg_none_of KX G ?h167) (PySem.W.mg_none_of KX G ?h168) (PySem.W.mg_none_of KX G ?h169) (PySem.W.mg_none_of KX G ?h170) (PySem.W.mg_none_of KX G ?h171) (PySem.W.mg_none_of KX G ?h172) (PySem.W.mg_none_of KX G ?h173) (PySem.W.mg_none_of KX G ?h174) (PySem.W.mg_none_of KX G ?h175) (PySem.W.mg_none_of KX G ?h176) (PySem.W.mg_none_of KX G ?h177) (PySem.W.mg_of KX G ?h178) (PySem.W.mg_of KX G ?h179) (PySem.W.mg_of KX G ?h180) (PySem.W.mg_of KX G ?h181) (PySem.W.mg_of KX G ?h182) (PySem.W.mg_of KX G ?h183) (PySem.W.mg_of KX G ?h184) (PySem.W.mg_of KX G ?h185) (PySem.W.mg_of KX G ?h186) (PySem.W.mg_of KX G ?h187) (PySem.W.mg_of KX G ?h188) (PySem.W.mg_of KX G ?h189) (PySem.W.mg_of KX G ?h190) (PySem.W.mg_of KX G ?h191) (PySem.W.mg_of KX G ?h192) (PySem.W.mg_of KX G ?h193) (PySem.W.mg_of KX G ?h194) (PySem.W.mg_of KX G ?h195) (PySem.W.mg_of KX G ?h196) ?h197 (L2.fm_mk ?h198 ?h199 ?h200 fun _ _ _ _ _ _ u h=>match u,h with | [_,_],_=>rfl) ?h201 (L2.fm_mk ?h202 ?h203 ?h204 fun _ _ _ _ _ _ u h=>match u,h with | [_,_],_=>rfl) ?h205 (L2.fm_mk ?h206 ?h207 ?h208 fun _ _ _ _ _ _ u h=>match u,h with | [_,_],_=>rfl) ?h209 (L2.fm_mk ?h210 ?h211 ?h212 fun _ _ _ _ _ _ u h=>match u,h with | [_,_],_=>rfl) ?h213 (L2.fm_mk ?h214 ?h215 ?h216 fun _ _ _ _ _ _ u h=>match u,h with | [_,_],_=>rfl) ?h217 (L2.fm_mk ?h218 ?h219 ?h220 fun _ _ _ _ _ _ u h=>match u,h with | [_,_],_=>rfl) ?h221 (L2.fm_mk ?h222 ?h223 ?h224 fun _ _ _ _ _ _ u h=>match u,h with | [_,_],_=>rfl) ?h225 (L2.fm_mk ?h226 ?h227 ?h228 fun _ _ _ _ _ _ u h=>match u,h with | [_,_],_=>rfl) ?h229 (L2.fm_mk ?h230 ?h231 ?h232 fun _ _ _ _ _ _ u h=>match u,h with | [_,_],_=>rfl) ?h233 (L2.fm_mk ?h234 ?h235 ?h236 fun _ _ _ _ _ _ u h=>match u,h with | [_],_=>rfl) ?h237 (L2.fm_mk ?h238 ?h239 ?h240 fun _ _ _ _ _ _ u h=>match u,h with | [_,_],_=>rfl) ?h241 (L2.fm_mk ?h242 ?h243 ?h244 fun _ _ _ _ _ _ u h=>match u,h with | [_],_=>rfl) ?h245 (L2.fm_mk ?h246 ?h247 ?h248 fun _ _ _ _ _ _ u h=>match u,h with | [_,_],_=>rfl) ?h249 (L2.fm_mk ?h250 ?h251 ?h252 fun _ _ _ _ _ _ u h=>match u,h with | [_],_=>rfl) ?h253 (L2.fm_mk ?h254 ?h255 ?h256 fun _ _ _ _ _ _ u h=>match u,h with | [_,_,_],_=>rfl) ?h257 (L2.fm_mk ?h258 ?h259 ?h260 fun _ _ _ _ _ _ u h=>match u,h with | [_],_=>rfl) ?h261 (L2.fm_mk ?h262 ?h263 ?h264 fun _ _ _ _ _ _ u h=>match u,h with | [_,_,_,_,_,_,_],_=>rfl) ?h265 (L2.fm_mk ?h266 ?h267 ?h268 fun _ _ _ _ _ _ u h=>match u,h with | [_,_,_,_],_=>rfl) ?h269 (L2.fm_mk ?h270 ?h271 ?h272 fun _ _ _ _ _ _ u h=>match u,h with | [_,_,_,_,_],_=>rfl) (L2.xc_mk ?h273 ?h274 ?h275) ?h276 (L2.xc_mk ?h277 ?h278 ?h279) ?h280 (L2.xc_mk ?h281 ?h282 ?h283) ?h284 (L2.xc_mk ?h285 ?h286 ?h287) ?h288 (L2.xc_mk ?h289 ?h290 ?h291) (L2.xc_mk ?h292 ?h293 ?h294) (L2.xc_mk ?h295 ?h296 ?h297) ?h298 (L2.xc_mk ?h299 ?h300 ?h301) ?h302 ⟨?h303,?h304,?h305,?h306⟩ ⟨?h307,?h308,?h309,?h310⟩ ⟨?h311,?h312,?h313,?h314⟩ ⟨?h315,?h316,?h317⟩ ?h318 ⟨?h319,?h320,?h321,?h322⟩ ⟨?h323,?h324,?h325,?h326⟩ ⟨?h327,?h328,?h329,?h330⟩ ⟨?h331,?h332,?h333⟩ ?h334 ⟨?h335,?h336,?h337,?h338⟩ ⟨?h339,?h340,?h341,?h342⟩ ⟨?h343,?h344,?h345,?h346⟩ ⟨?h347,?h348,?h349⟩ ?h350 ⟨?h351,?h352,?h353,?h354⟩ ⟨?h355,?h356,?h357,?h358⟩ ⟨?h359,?h360,?h361,?h362⟩ ⟨?h363,?h364,?h365⟩ ?h366 ?h367 ⟨?h368,?h369,?h370,?h371⟩ ⟨?h372,?h373,?h374,?h375⟩ ⟨?h376,?h377,?h378,?h379⟩ ?h380 ?h381 ?h382 ?h383 ?h384 ?h385 ⟨?h386,?h387,?h388,?h389⟩ ⟨?h390,?h391,?h392,?h393⟩ ⟨?h394,?h395,?h396,?h397⟩ ?h398 ?h399 ?h400 ⟨?h401,?h402,?h403,?h404⟩ ⟨?h405,?h406,?h407,?h408⟩ ?h409 ?h410 ?h411 ?h412 (L2.nst_mk ?h413 ?h414 ?h415 ?h416 ?h417) ?h418 (L2.nst_mk ?h419 ?h420 ?h421 ?h422 ?h423) ?h424 ?h425 ?h426 ?h427 ?h428 ?h429 ?h430 ?h431 ?h432 ?h433 ?h434 ?h435 ?h436 ?h437 ?h438 ?h439 ?h440 ?h441 ?h442 ?h443 ?h444
    case h0=>k_is
    case h1=>k_is
    case h2=>k_is
    case h3=>k_is
    case h4=>k_is
    case h5=>k_is
    case h6=>k_is
    case h7=>k_is
    case h8=>k_is
    case h9=>k_is
    case h10=>k_is
    case h11=>k_is
    case h12=>k_is
    case h13=>k_is
    case h14=>k_is
    case h15=>k_is
    case h16=>k_is
    case h17=>k_is
    case h18=>k_is
    case h19=>k_is
    case h20=>k_is
    case h21=>k_is
    case h22=>k_is
    case h23=>k_is
    case h24=>k_is
    case h25=>k_is
    case h26=>k_is
    case h27=>k_is
    case h28=>k_is
    case h29=>k_is
    case h30=>k_is
    case h31=>k_is
    case h32=>k_is
    case h33=>k_is
    case h34=>k_is
    case h35=>k_is
    case h36=>k_is
    case h37=>k_is
    case h38=>k_is
    case h39=>k_is
    case h40=>k_is
    case h41=>k_is
    case h42=>k_is
    case h43=>k_is
    case h44=>k_is
    case h45=>k_is
    case h46=>k_is
    case h47=>k_is
    case h48=>k_is
    case h49=>k_is
    case h50=>k_is
    case h51=>k_is
    case h52=>k_is
    case h53=>k_is
    case h54=>k_is
    case h55=>k_is
    case h56=>k_is
    case h57=>k_is
    case h58=>k_is
    case h59=>k_is
    case h60=>k_is
    case h61=>k_is
    case h62=>k_is
    case h63=>k_is
    case h64=>k_is
    case h65=>k_is
    case h66=>k_is
    case h67=>k_is
    case h68=>k_is
    case h69=>k_is
    case h70=>k_is
    case h71=>k_is
    case h72=>k_is
    case h73=>k_is
    case h74=>k_is
    case h75=>k_is
    case h76=>k_is
    case h77=>k_is
    case h78=>k_is
    case h79=>k_is
    case h80=>k_is
    case h81=>k_is
    case h82=>k_is
    case h83=>k_is
    case h84=>k_is
    case h85=>k_is
    case h86=>k_is
    case h87=>k_is
    case h88=>k_is
    case h89=>k_is
    case h90=>k_is
    case h91=>k_is
    case h92=>k_is
    case h93=>k_is
    case h94=>k_is
    case h95=>k_is
    case h96=>k_is
    case h97=>k_is
    case h98=>k_is
    case h99=>k_is
    case h100=>k_is
    case h101=>k_is
    case h102=>k_is
    case h103=>k_is
    case h104=>k_is
    case h105=>k_is
    case h106=>k_is
    case h107=>k_is
    case h108=>k_is
    case h109=>k_is
    case h110=>k_is
    case h111=>k_is
    case h112=>k_is
    case h113=>k_is
    case h114=>k_is
    case h115=>k_is
    case h116=>k_is
    case h117=>k_is
    case h118=>k_is
    case h119=>k_is
    case h120=>k_is
    case h121=>k_is
    case h122=>k_is
    case h123=>k_is
    case h124=>k_is
    case h125=>k_is
    case h126=>k_is
    case h127=>k_is
    case h128=>k_is
    case h129=>k_is
    case h130=>k_is
    case h131=>k_is
    case h132=>k_is
    case h133=>k_is
    case h134=>k_is
    case h135=>k_is
    case h136=>k_is
    case h137=>k_is
    case h138=>k_is
    case h139=>k_is
    case h140=>k_is
    case h141=>k_is
    case h142=>k_is
    case h143=>k_is
    case h144=>k_is
    case h145=>k_is
    case h146=>k_is
    case h147=>k_is
    case h148=>k_is
    case h149=>k_is
    case h150=>k_is
    case h151=>k_is
    case h152=>k_is
    case h153=>k_is
    case h154=>k_is
    case h155=>k_is
    case h156=>k_is
    case h157=>k_is
    case h158=>k_is
    case h159=>k_is
    case h160=>k_is
    case h161=>k_is
    case h162=>k_is
    case h163=>k_is
    case h164=>k_is
    case h165=>k_is
    case h166=>k_is
    case h167=>k_is
    case h168=>k_is
    case h169=>k_is
    case h170=>k_is
    case h171=>k_is
    case h172=>k_is
    case h173=>k_is
    case h174=>k_is
    case h175=>k_is
    case h176=>k_is
    case h177=>k_is
    case h178=>k_is
    case h179=>k_is
    case h180=>k_is
    case h181=>k_is
    case h182=>k_is
    case h183=>k_is
    case h184=>k_is
    case h185=>k_is
    case h186=>k_is
    case h187=>k_is
    case h188=>k_is
    case h189=>k_is
    case h190=>k_is
    case h191=>k_is
    case h192=>k_is
    case h193=>k_is
    case h194=>k_is
    case h195=>k_is
    case h196=>k_is
    case h197=>k_is
    case h198=>k_is
    case h199=>k_is
    case h200=>k_is
    case h201=>k_is
    case h202=>k_is
    case h203=>k_is
    case h204=>k_is
    case h205=>k_is
    case h206=>k_is
    case h207=>k_is
    case h208=>k_is
    case h209=>k_is
    case h210=>k_is
    case h211=>k_is
    case h212=>k_is
    case h213=>k_is
    case h214=>k_is
    case h215=>k_is
    case h216=>k_is
    case h217=>k_is
    case h218=>k_is
    case h219=>k_is
    case h220=>k_is
    case h221=>k_is
    case h222=>k_is
    case h223=>k_is
    case h224=>k_is
    case h225=>k_is
    case h226=>k_is
    case h227=>k_is
    case h228=>k_is
    case h229=>k_is
    case h230=>k_is
    case h231=>k_is
    case h232=>k_is
    case h233=>k_is
    case h234=>k_is
    case h235=>k_is
    case h236=>k_is
    case h237=>k_is
    case h238=>k_is
    case h239=>k_is
    case h240=>k_is
    case h241=>k_is
    case h242=>k_is
    case h243=>k_is
    case h244=>k_is
    case h245=>k_is
    case h246=>k_is
    case h247=>k_is
    case h248=>k_is
    case h249=>k_is
    case h250=>k_is
    case h251=>k_is
    case h252=>k_is
    case h253=>k_is
    case h254=>k_is
    case h255=>k_is
    case h256=>k_is
    case h257=>k_is
    case h258=>k_is
    case h259=>k_is
    case h260=>k_is
    case h261=>k_is
    case h262=>k_is
    case h263=>k_is
    case h264=>k_is
    case h265=>k_is
    case h266=>k_is
    case h267=>k_is
    case h268=>k_is
    case h269=>k_is
    case h270=>k_is
    case h271=>k_is
    case h272=>k_is
    case h273=>k_is
    case h274=>kernel_rfl
    case h275=>kernel_rfl
    case h276=>k_is
    case h277=>k_is
    case h278=>kernel_rfl
    case h279=>kernel_rfl
    case h280=>k_is
    case h281=>k_is
    case h282=>kernel_rfl
    case h283=>kernel_rfl
    case h284=>k_is
    case h285=>k_is
    case h286=>kernel_rfl
    case h287=>kernel_rfl
    case h288=>k_is
    case h289=>k_is
    case h290=>kernel_rfl
    case h291=>kernel_rfl
    case h292=>k_is
    case h293=>kernel_rfl
    case h294=>kernel_rfl
    case h295=>k_is
    case h296=>kernel_rfl
    case h297=>kernel_rfl
    case h298=>k_is
    case h299=>k_is
    case h300=>kernel_rfl
    case h301=>kernel_rfl
    case h302=>k_is
    case h303=>k_is
    case h304=>k_is
    case h305=>k_is
    case h306=>k_is
    case h307=>k_is
    case h308=>k_is
    case h309=>k_is
    case h310=>k_is
    case h311=>k_is
    case h312=>k_is
    case h313=>k_is
    case h314=>k_is
    case h315=>k_is
    case h316=>k_is
    case h317=>k_is
    case h318=>k_is
    case h319=>k_is
    case h320=>k_is
    case h321=>k_is
    case h322=>k_is
    case h323=>k_is
    case h324=>k_is
    case h325=>k_is
    case h326=>k_is
    case h327=>k_is
    case h328=>k_is
    case h329=>k_is
    case h330=>k_is
    case h331=>k_is
    case h332=>k_is
    case h333=>k_is
    case h334=>k_is
    case h335=>k_is
    case h336=>k_is
    case h337=>k_is
    case h338=>k_is
    case h339=>k_is
    case h340=>k_is
    case h341=>k_is
    case h342=>k_is
    case h343=>k_is
    case h344=>k_is
    case h345=>k_is
    case h346=>k_is
    case h347=>k_is
    case h348=>k_is
    case h349=>k_is
    case h350=>k_is
    case h351=>k_is
    case h352=>k_is
    case h353=>k_is
    case h354=>k_is
    case h355=>k_is
    case h356=>k_is
    case h357=>k_is
    case h358=>k_is
    case h359=>k_is
    case h360=>k_is
    case h361=>k_is
    case h362=>k_is
    case h363=>k_is
    case h364=>k_is
    case h365=>k_is
    case h366=>k_is
    case h367=>k_is
    case h368=>k_is
    case h369=>k_is
    case h370=>k_is
    case h371=>k_is
    case h372=>k_is
    case h373=>k_is
    case h374=>k_is
    case h375=>k_is
    case h376=>k_is
    case h377=>k_is
    case h378=>k_is
    case h379=>k_is
    case h380=>k_is
    case h381=>k_is
    case h382=>k_is
    case h383=>k_is
    case h384=>k_is
    case h385=>k_is
    case h386=>k_is
    case h387=>k_is
    case h388=>k_is
    case h389=>k_is
    case h390=>k_is
    case h391=>k_is
    case h392=>k_is
    case h393=>k_is
    case h394=>k_is
    case h395=>k_is
    case h396=>k_is
    case h397=>k_is
    case h398=>k_is
    case h399=>k_is
    case h400=>k_is
    case h401=>k_is
    case h402=>k_is
    case h403=>k_is
    case h404=>k_is
    case h405=>k_is
    case h406=>k_is
    case h407=>k_is
    case h408=>k_is
    case h409=>k_is
    case h410=>k_is
    case h411=>k_is
    case h412=>k_is
    case h413=>k_is
    case h414=>rfl
    case h415=>k_is
    case h416=>rfl
    case h417=>rfl
    case h418=>kernel_rfl
    case h419=>k_is
    case h420=>rfl
    case h421=>k_is
    case h422=>rfl
    case h423=>rfl
    case h424=>kernel_rfl
    case h425=>decide
    case h426=>kernel_rfl
    case h427=>kernel_rfl
    case h428=>kernel_rfl
    case h429=>kernel_rfl
    case h430=>kernel_rfl
    case h431=>kernel_rfl
    case h432=>kernel_rfl
    case h433=>kernel_rfl
    case h434=>kernel_rfl
    case h435=>kernel_rfl
    case h436=>kernel_rfl
    case h437=>kernel_rfl
    case h438=>kernel_rfl
    case h439=>kernel_rfl
    case h440=>kernel_rfl
    case h441=>kernel_rfl
    case h442=>kernel_rfl
    case h443=>kernel_rfl
    case h444=>kernel_rfl
   case bb=>exact fun s v=>.of_eq rfl
  obtain ⟨a,b,T⟩:=T
  have e:=hmg.symm.trans T.f_law.mgx
  cases e
  exact ⟨a.d_law,K15.spLaw (L2.KOf KX) a,[(a.Jhy,K15.lb_keeper_of),(a.Ji0,K15.lb_sky_of)],b,List.forall_mem_cons.mpr ⟨L2.tab_kn (y := "keeper_of") TB rfl T.Jde,List.forall_mem_cons.mpr ⟨L2.tab_kn (y := "sky_of") TB rfl T.Jdg,fun _ z=>nomatch z⟩⟩,T.tnd,fun base kb nb B=>K15.ok_law T B,fun H x ns hl ht hS=>⟨x,ns,rfl,hS,hl,ht _ (.head _),ht _ (.tail _ (.head _)),fun _=>rfl⟩⟩
 case C=>exact fun _ _ _ _ z=>z
#print axioms PySem.Challenge.cw_weirwatch_k15_told_keepers_and_skies_holds
