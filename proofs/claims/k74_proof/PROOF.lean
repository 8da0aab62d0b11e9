import PyProof.Rows.All
import Wide.All
import OpenK.AllK
import Wide.FinOn
import Lean
import PyProof.EqAt
import PyProof.EqKinds
import PyProof.TupleCall
import PySem.Challenge.RW_weirwatch_k74_least_promises
set_option Elab.async false
set_option linter.all false
set_option maxRecDepth 100000
namespace L2
open PySem PySem.Spec PyProof.Rows
abbrev Key:=Sum Int Str
def Jp7:Key→Value→Bool
 | .inl k,v=>Value.isInt k v
 | .inr x,v=>Value.isStrOf x v
def keyH (w:World):Key→Int
 | .inl k=>hashInt k
 | .inr x=>hashStr w x
theorem Jjf:∀{k:Key} {v:Value},Jp7 k v=true→(∃i t,k=Sum.inl i∧v=Value.int i t)∨(∃x t,k=Sum.inr x∧v=Value.str x t)
 | .inl i,v,h=>by
  obtain ⟨t,e⟩:=Value.isInt_shape (k:=i) (v:=v) h
  exact .inl ⟨i,t,rfl,e⟩
 | .inr x,v,h=>by
  obtain ⟨t,e⟩:=Value.isStrOf_shape (x:=x) (v:=v) h
  exact .inr ⟨x,t,rfl,e⟩
theorem Jxh (i:Int) (t:Tok):Jp7 (.inl i) (.int i t)=true:=by simp [Jp7,Value.isInt]
theorem Jxi (x:Str) (t:Tok):Jp7 (.inr x) (.str x t)=true:=by simp [Jp7,Value.isStrOf]
theorem key_ll (a b:Int):decide ((Sum.inl a:Key)=Sum.inl b)=(a==b):=by
 by_cases e:a=b
 ·subst e;simp
 ·have h:¬(Sum.inl a:Key)=Sum.inl b:=fun q=>e (Sum.inl.inj q)
  rw [decide_eq_false h]
  exact (beq_eq_false_iff_ne.mpr e).symm
theorem key_rr (a b:Str):decide ((Sum.inr a:Key)=Sum.inr b)=decide (a=b):=by
 by_cases e:a=b
 ·subst e;simp
 ·have h:¬(Sum.inr a:Key)=Sum.inr b:=fun q=>e (Sum.inr.inj q)
  rw [decide_eq_false h,decide_eq_false e]
theorem key_lr (a:Int) (b:Str):decide ((Sum.inl a:Key)=Sum.inr b)=false:=decide_eq_false (fun q=>nomatch q)
theorem key_rl (a:Str) (b:Int):decide ((Sum.inr a:Key)=Sum.inl b)=false:=decide_eq_false (fun q=>nomatch q)
def Jif (prog:Program) (w:World):PySem.KeyKind prog w Key where
 is:=Jp7
 hash:=keyH w
 inj:=fun v a b ha hb=>by
  rcases Jjf ha with ⟨i,t,rfl,rfl⟩|⟨x,t,rfl,rfl⟩
  ·rcases Jjf hb with ⟨j,u,rfl,e⟩|⟨y,u,rfl,e⟩
   ·injection e with e1 _;rw [e1]
   ·exact nomatch e
  ·rcases Jjf hb with ⟨j,u,rfl,e⟩|⟨y,u,rfl,e⟩
   ·exact nomatch e
   ·injection e with e1 _;rw [e1]
 byValue:=fun k v h=>by
  rcases Jjf h with ⟨i,t,rfl,rfl⟩|⟨x,t,rfl,rfl⟩ <;> rfl
 pyHash:=fun hv h=>by
  rcases Jjf hv with ⟨i,t,rfl,rfl⟩|⟨x,t,rfl,rfl⟩
  ·exact wpAny_pyHash_int h
  ·exact wpAny_pyHash_str h
 eqBool:=fun hu hv h=>by
  rcases Jjf hu with ⟨i,t,rfl,rfl⟩|⟨x,t,rfl,rfl⟩
  ·rcases Jjf hv with ⟨j,u,rfl,rfl⟩|⟨y,u,rfl,rfl⟩
   ·rw [key_ll] at h;exact wpAny_eqBool_int h
   ·rw [key_lr] at h;exact SeqAt.EqAt.int_str i t y u _ _ _ _ h
  ·rcases Jjf hv with ⟨j,u,rfl,rfl⟩|⟨y,u,rfl,rfl⟩
   ·rw [key_rl] at h;exact SeqAt.EqAt.str_int x t j u _ _ _ _ h
   ·rw [key_rr] at h;exact wpAny_eqBool_str h
 «strs»:=fun k x t v h=>by
  rcases Jjf h with ⟨i,u,rfl,e⟩|⟨y,u,rfl,e⟩
  ·exact nomatch e
  ·injection e with e1 _
   subst e1
   cases v <;> rfl
theorem Jvg (prog:Program) (w:World) (k:Key) (v:Value):(Jif prog w).is k v=Jp7 k v:=rfl
theorem Jmd (prog:Program) (w:World) (i:Int) (t:Tok):(Jif prog w).is (.inl i) (.int i t)=true:=Jxh i t
theorem Jme (prog:Program) (w:World) (x:Str) (t:Tok):(Jif prog w).is (.inr x) (.str x t)=true:=Jxi x t
end L2
namespace L2
open PySem PySem.Spec PyProof.Rows
inductive V where
 |non|bl (b:Bool)|int (i:Int)|str (x:Str)|byt (b:Array UInt8)|flt (b:UInt64)|ref (a:Addr)|ty (n:String)
 deriving DecidableEq
def RelV:V→Value→Prop
 | .non,u=>u=Value.none
 | .bl b,u=>u=Value.bool b
 | .int i,u=>∃t,u=Value.int i t
 | .str x,u=>∃t,u=Value.str x t
 | .byt b,u=>∃t,u=Value.bytes b t
 | .flt b,u=>∃t,u=Value.float b t
 | .ref a,u=>u=Value.ref a
 | .ty n,u=>u=Value.type n
abbrev Vals:List V→List Value→Prop:=Paired RelV
theorem Vals.length {xs:List V} {us:List Value} (r:Vals xs us):xs.length=us.length:=Paired.length r
theorem Vals.get:∀{xs:List V} {us:List Value} {i:Nat} {x:V},Vals xs us→xs[i]?=some x→∃u,us[i]?=some u∧RelV x u
 |_,_,_,_,.nil,e=>by simp at e
 |_,_,0,_,.cons r _,e=>by simp at e;subst e;exact ⟨_,rfl,r⟩
 |_,_,i+1,x,.cons _ t,e=>by
  obtain ⟨u,h1,h2⟩:=Vals.get (i:=i) (x:=x) t (by simpa using e)
  exact ⟨u,by simpa using h1,h2⟩
theorem Vals.set {x:V} {u:Value} (r:RelV x u):∀{xs:List V} {us:List Value} (i:Nat),Vals xs us→Vals (xs.set i x) (us.set i u)
 |_,_,_,.nil=>.nil
 |_,_,0,.cons _ t=>.cons r t
 |_,_,i+1,.cons q t=>.cons q (Vals.set r i t)
theorem Vals.append:∀{xs ys:List V} {us ws:List Value},Vals xs us→Vals ys ws→Vals (xs++ys) (us++ws)
 |_,_,_,_,.nil,s=>s
 |_,_,_,_,.cons r t,s=>.cons r (Vals.append t s)
theorem Vals.take:∀{xs:List V} {us:List Value} (n:Nat),Vals xs us→Vals (xs.take n) (us.take n)
 |_,_,0,_=>.nil
 |_,_,_+1,.nil=>.nil
 |_,_,n+1,.cons r t=>.cons r (Vals.take n t)
theorem Vals.drop:∀{xs:List V} {us:List Value} (n:Nat),Vals xs us→Vals (xs.drop n) (us.drop n)
 |_,_,0,r=>r
 |_,_,_+1,.nil=>.nil
 |_,_,n+1,.cons _ t=>Vals.drop n t
def RelO:Option V→Option Value→Prop
 |some v,some u=>RelV v u
 |none,none=>True
 |_,_=>False
def KV {κ:Type}:List (κ×V)→List (κ×Value)→Prop:=Paired fun (p:κ×V) (q:κ×Value)=>p.1=q.1∧RelV p.2 q.2
def kV:Key→V
 | .inl i=>.int i
 | .inr x=>.str x
inductive HO where
 |lst (xs:List V)
 |tup (xs:List V)
 |dK (kvs:List (Key×V))|dT (kvs:List (List Key×V))
 |set (S:Int→Bool) (n:Nat)
 |ins (C dx:Addr) (fs:List (Str×V))
 |own (x:Addr)
 |xd (fs:List (Str×V))
 |cod (q:Str)
 |rng (lo hi:Int)
 |frz (o:Obj) (u:HO)
 |tbl (ps:Array (Nat×Nat×Str))
 |ext (φ:Heap→Prop)
abbrev Hp:=Addr→Option HO
def upd (H:Hp) (a:Addr) (o:HO):Hp:=fun b=>if b=a then some o else H b
theorem Ji1 {H:Hp} {a:Addr} {o:HO}:upd H a o a=some o:=by unfold upd;rw [if_pos rfl]
theorem Ji7 {H:Hp} {a b:Addr} {o:HO} (h:b≠a):upd H a o b=H b:=by unfold upd;rw [if_neg h]
theorem Jll {H:Hp} {a:Addr} {o u:HO}:upd (upd H a o) a u=upd H a u:=by
 funext b;unfold upd;split <;> rfl
theorem ne_of {H:Hp} {a b:Addr} {o u:HO} (h:H a=some o) (h':H b=some u) (d:o≠u):a≠b:=by
 intro e;subst e;rw [h] at h';exact d (Option.some.inj h')
theorem Ji8 {H:Hp} {a b:Addr} {o:HO} (h:H a=some o) (h':H b=none):a≠b:=by
 intro e;subst e;rw [h] at h';cases h'
def celF (o:Obj):HO:=.frz o (.ext fun _=>True)
def TrOk (H:Hp) (lb:Array (Nat×Nat×Str)):List Value→Prop
 | []=>True
 | .int l _:: .int c _::v::r=>(∃(n m:Nat) (q:Str) (a:Addr),(n,m,q)∈lb∧l=n∧c=m∧v= .ref a∧H a=some (.cod q))∧TrOk H lb r
 |_=>False
theorem TrOk.mono {H H':Hp} {lb:Array (Nat×Nat×Str)} (k:∀b q,H b=some (.cod q)→H' b=some (.cod q)) {l:List Value} (x:TrOk H lb l):TrOk H' lb l:=by
 fun_induction TrOk H lb l with
 |case1=>exact True.intro
 |case2 l _ c _ v r ih=>
  obtain ⟨⟨n,m,q,a,h1,h2,h3,h4,h5⟩,h6⟩:=x
  exact ⟨⟨n,m,q,a,h1,h2,h3,h4,k _ _ h5⟩,ih h6⟩
 |case3=>exact x.elim
section
variable (P:Program) (w:World)
def ObjOk (H:Hp) (h:Heap) (a:Addr):HO→Prop
 | .lst xs=>xs.length≤sizeLine∧∃(its:List Value) (n:Nat),Vals xs its∧h.get? a=some {cls:=.type "list",data:=.seq its.toArray n}
 | .tup xs=>xs.length≤sizeLine∧∃its:List Value,Vals xs its∧IsTup h a its.toArray
 | .dK kvs=>kvs.length≤sizeLine∧(a==sysModules)=false∧∃vs,KV kvs vs∧h.DictOf (Jif P w) a vs
 | .dT kvs=>kvs.length≤sizeLine∧(a==sysModules)=false∧∃xs:List (List Key×Addr×Value),
   Paired (fun (p:List Key×V) (q:List Key×Addr×Value)=>p.1=q.1∧H q.2.1=some (.tup (p.1.map kV))∧RelV p.2 q.2.2) kvs xs∧
   ∃o es ep,h.get? a=some o∧o.ExactDict∧o.data= .dict es ep∧es.toList=xs.map (entryOfKey (tupleKind (Jif P w)))∧(xs.map (·.1)).Nodup
 | .set S n=>h.SetOf (intKind P w) a S n
 | .ins C dx fs=>H dx=some (.own a)∧fs.length≤1000∧dx≠a∧h.get? a=some (PySem.W.instObj C dx)∧
   ∃mA,h.Ns1 dx mA∧(∀f,RelO (fs.lookup f) (mA f))∧PySem.Within mA (fs.map (·.1))
 | .own _=>∃o,h.get? a=some o
 | .xd fs=>∃mA,h.Ns1 a mA∧∀f,RelO (fs.lookup f) (mA f)
 | .rng lo hi=>∃t u v,h.get? a=some {cls:=.type "range",data:=.fields #[.int lo t,.int hi u,.int 1 v]}
 | .frz o u=>h.get? a=some o∧ObjOk H h a u
 | .tbl lb=>∃ts:Array Value,h.get? a=some ⟨.none,none,.fields ts,#[]⟩∧TrOk H lb ts.toList
 | .cod q=>h.CodeRec (.ref a) q
 | .ext φ=>φ h∧(∃o,h.get? a=some o)∧∀h1 h2:Heap,φ h1→(∀o,h1.get? a=some o→h2.get? a=some o)→φ h2
def HOk (H:Hp) (h:Heap):Prop:=∀a o,H a=some o→ObjOk P w H h a o
end
section
variable {P:Program} {w:World} {H H':Hp} {h h':Heap} {a:Addr} {o:HO}
theorem ObjOk.lt (x:ObjOk P w H h a o):a < h.objs.size:=by
 cases o with
 |lst xs=>obtain ⟨_,_,_,_,e⟩:=x;exact Heap.lt_size e
 |tup xs=>obtain ⟨_,_,_,p⟩:=x;exact p.lt
 |dK kvs=>obtain ⟨_,_,_,_,o,_,_,e,_⟩:=x;exact Heap.lt_size e
 |dT kvs=>obtain ⟨_,_,_,_,o,_,_,e,_⟩:=x;exact Heap.lt_size e
 |set S n=>obtain ⟨o,_,_,_,e,_⟩:=x;exact Heap.lt_size e
 |ins C dx fs=>obtain ⟨_,_,_,e,_⟩:=x;exact Heap.lt_size e
 |own y=>obtain ⟨_,e⟩:=x;exact Heap.lt_size e
 |xd fs=>obtain ⟨_,⟨_,_,_,e,_⟩,_⟩:=x;exact Heap.lt_size e
 |rng lo hi=>obtain ⟨_,_,_,e⟩:=x;exact Heap.lt_size e
 |frz ob u=>obtain ⟨e,_⟩:=x;exact Heap.lt_size e
 |tbl lb=>obtain ⟨_,e,_⟩:=x;exact Heap.lt_size e
 |cod q=>obtain ⟨_,_,_,_,e1,e2,_⟩:=x;cases e1;exact Heap.lt_size e2
 |ext φ=>obtain ⟨_,⟨_,e⟩,_⟩:=x;exact Heap.lt_size e
theorem Paired.mapP {α β:Type} {F G:α→β→Prop}:∀{l₁:List α} {l₂:List β},Paired F l₁ l₂→(∀a b,F a b→G a b)→Paired G l₁ l₂
 |_,_,.nil,_=>.nil
 |_,_,.cons r t,f=>.cons (f _ _ r) (Paired.mapP t f)
theorem ObjOk.stay (x:ObjOk P w H h a o) (k:∀b u,(b=a∨H b=some (.own a))→h.get? b=some u→h'.get? b=some u)
  (ho:∀b,H b=some (.own a)→H' b=some (.own a)) (ht:∀b xs,H b=some (.tup xs)→H' b=some (.tup xs)) (hc:∀b q,H b=some (.cod q)→H' b=some (.cod q)):ObjOk P w H' h' a o:=by
 induction o with
 |lst xs=>obtain ⟨z,its,n,r,e⟩:=x;exact ⟨z,its,n,r,k _ _ (.inl rfl) e⟩
 |tup xs=>obtain ⟨z,its,r,ob,e,c⟩:=x;exact ⟨z,its,r,ob,k _ _ (.inl rfl) e,c⟩
 |dK kvs=>obtain ⟨z,y,vs,r,ob,es,ep,e,c⟩:=x;exact ⟨z,y,vs,r,ob,es,ep,k _ _ (.inl rfl) e,c⟩
 |dT kvs=>
  obtain ⟨z,y,xs,r,ob,es,ep,e,c⟩:=x
  exact ⟨z,y,xs,Paired.mapP r fun p q z=>⟨z.1,ht _ _ z.2.1,z.2.2⟩,ob,es,ep,k _ _ (.inl rfl) e,c⟩
 |set S n=>obtain ⟨ob,es,ep,t,e,c⟩:=x;exact ⟨ob,es,ep,t,k _ _ (.inl rfl) e,c⟩
 |ins C dx fs=>
  obtain ⟨d,z,ne,e,mA,⟨od,es,ep,e2,c⟩,r⟩:=x
  exact ⟨ho _ d,z,ne,k _ _ (.inl rfl) e,mA,⟨od,es,ep,k _ _ (.inr d) e2,c⟩,r⟩
 |own y=>obtain ⟨ob,e⟩:=x;exact ⟨ob,k _ _ (.inl rfl) e⟩
 |xd fs=>obtain ⟨mA,⟨od,es,ep,e,c⟩,r⟩:=x;exact ⟨mA,⟨od,es,ep,k _ _ (.inl rfl) e,c⟩,r⟩
 |rng lo hi=>obtain ⟨t,u,v,e⟩:=x;exact ⟨t,u,v,k _ _ (.inl rfl) e⟩
 |frz ob u ih=>obtain ⟨e,q⟩:=x;exact ⟨k _ _ (.inl rfl) e,ih q⟩
 |tbl lb=>obtain ⟨ts,e,r⟩:=x;exact ⟨ts,k _ _ (.inl rfl) e,r.mono hc⟩
 |cod q=>obtain ⟨c,o,vs,t,e1,e2,e3,e4⟩:=x;cases e1;exact ⟨_,o,vs,t,rfl,k _ _ (.inl rfl) e2,e3,e4⟩
 |ext φ=>obtain ⟨p,⟨o,e⟩,st⟩:=x;exact ⟨st _ _ p fun o q=>k _ _ (.inl rfl) q,⟨o,k _ _ (.inl rfl) e⟩,st⟩
theorem HOk.lt (x:HOk P w H h) (e:H a=some o):a < h.objs.size:=(x a o e).lt
theorem HOk.fresh (x:HOk P w H h) (e:h.objs.size≤a):H a=none:=by
 cases q:H a with
 |none=>rfl
 |some u=>exact absurd (Nat.lt_of_lt_of_le (x.lt q) e) (Nat.lt_irrefl _)
theorem HOk.kept (x:HOk P w H h) (k:∀b u,h.get? b=some u→h'.get? b=some u):HOk P w H h':=fun a o e=>
 (x a o e).stay (fun b u _ q=>k b u q) (fun _ q=>q) (fun _ _ q=>q) fun _ _ q=>q
theorem HOk.laid (x:HOk P w H h) (k:∀b u,h.get? b=some u→h'.get? b=some u) (hp:h.objs.size≤a) (new:ObjOk P w (upd H a o) h' a o):HOk P w (upd H a o) h':=fun b u e=>by
 have hn:=x.fresh hp
 by_cases hb:b=a
 ·subst hb;rw [Ji1] at e;cases e;exact new
 ·rw [Ji7 hb] at e
  exact (x b u e).stay (fun c v _ q=>k c v q) (fun c q=>by rw [Ji7 (Ji8 q hn)];exact q) (fun c xs q=>by rw [Ji7 (Ji8 q hn)];exact q) fun c xs q=>by rw [Ji7 (Ji8 q hn)];exact q
end
def Rd (H:Hp) (a:Addr) (u:HO):Prop:=H a=some u∨∃o,H a=some (.frz o u)
theorem Rd.ok {P:Program} {w:World} {H:Hp} {h:Heap} {a:Addr} {u:HO} (r:Rd H a u) (x:HOk P w H h):ObjOk P w H h a u:=by
 rcases r with r|⟨o,r⟩
 ·exact x a u r
 ·obtain ⟨_,q⟩:=x a _ r
  exact q
def Mut:Option HO→Prop
 |some (.lst _)=>True
 |some (.dK _)=>True
 |some (.dT _)=>True
 |some (.set _ _)=>True
 |some (.ins _ _ _)=>True
 |some (.ext _)=>True
 |_=>False
section
variable {P:Program} {w:World} {H:Hp} {h h':Heap} {x e:Addr} {o':HO}
theorem HOk.write (ok:HOk P w H h) (mu:Mut (H x)) (he:e=x∨H e=some (.own x)) (k:∀b u,b≠e→h.get? b=some u→h'.get? b=some u) (heo:∃u,h'.get? e=some u)
  (new:ObjOk P w (upd H x o') h' x o'):HOk P w (upd H x o') h':=fun b u q=>by
 have nown:∀c y,H c=some (.own y)→c≠x:=fun c y r z=>by subst z;rw [r] at mu;exact mu
 have ntup:∀c xs,H c=some (.tup xs)→c≠x:=fun c xs r z=>by subst z;rw [r] at mu;exact mu
 by_cases hb:b=x
 ·subst hb;rw [Ji1] at q;cases q;exact new
 ·rw [Ji7 hb] at q
  by_cases hbe:b=e
  ·have q':H b=some (.own x):=by
    rcases he with z|z
    ·exact absurd (hbe.trans z) hb
    ·rw [hbe];exact z
   rw [q] at q';cases q'
   obtain ⟨v,hv⟩:=heo
   exact ⟨v,by rw [hbe];exact hv⟩
  ·refine (ok b u q).stay (fun c v hc r=>k c v ?_ r) (fun c r=>by rw [Ji7 (nown c b r)];exact r) (fun c xs r=>by rw [Ji7 (ntup c xs r)];exact r) fun c xs r=>by rw [Ji7 fun z=>by subst z;rw [r] at mu;exact mu];exact r
   rcases hc with rfl|hc
   ·exact hbe
   ·rintro rfl
    rcases he with z|z
    ·exact nown c b hc z
    ·rw [hc] at z;cases z;exact hb rfl
end
structure Un (fs ex:List Addr) (H H':Hp) (h h':Heap):Prop where
 keep:∀b o,h.get? b=some o→H b=none→b∉fs→b∉ex→h'.get? b=some o
 slot:∀b o,h.get? b=some o→H b=none→b∈fs→b∉ex→∃sl,h'.get? b=some {o with slots:=sl}
 free:∀b o,h.get? b=some o→H b=none→b∉ex→H' b=none
 there:∀b o,h.get? b=some o→b∉ex→∃o',h'.get? b=some o'
 tups:∀b xs,H b=some (.tup xs)→H' b=some (.tup xs)
 frzs:∀b o u,H b=some (.frz o u)→H' b=some (.frz o u)
 tbls:∀b ps,H b=some (.tbl ps)→∃more,H' b=some (.tbl (ps++more))
section
variable {fs fs' ex ex':List Addr} {H H1 H2:Hp} {h h1 h2 h':Heap} {a x e:Addr} {o:HO}
theorem Un.any (u:Un fs ex H H1 h h1) {b:Addr} {ob:Obj} (q:h.get? b=some ob) (n:H b=none) (hx:b∉ex):∃sl,h1.get? b=some {ob with slots:=sl}:=by
 by_cases hb:b∈fs
 ·exact u.slot b ob q n hb hx
 ·exact ⟨ob.slots,u.keep b ob q n hb hx⟩
theorem Un.trans (a:Un fs ex H H1 h h1) (b:Un fs ex H1 H2 h1 h2):Un fs ex H H2 h h2 where
 keep:=fun c ob q n hc hx=>b.keep c ob (a.keep c ob q n hc hx) (a.free c ob q n hx) hc hx
 slot:=fun c ob q n hc hx=>by
  obtain ⟨sl,e1⟩:=a.slot c ob q n hc hx
  obtain ⟨sl',e2⟩:=b.slot c _ e1 (a.free c ob q n hx) hc hx
  exact ⟨sl',e2⟩
 free:=fun c ob q n hx=>by
  obtain ⟨o',e1⟩:=a.there c ob q hx
  exact b.free c o' e1 (a.free c ob q n hx) hx
 there:=fun c ob q hx=>by
  obtain ⟨o',e1⟩:=a.there c ob q hx
  exact b.there c o' e1 hx
 tups:=fun c xs q=>b.tups c xs (a.tups c xs q)
 frzs:=fun c ob xs q=>b.frzs c ob xs (a.frzs c ob xs q)
 tbls:=fun c ps q=>by
  obtain ⟨m1,e1⟩:=a.tbls c ps q
  obtain ⟨m2,e2⟩:=b.tbls c _ e1
  exact ⟨m1++m2,by rw [e2,Array.append_assoc]⟩
theorem Un.kept (k:∀b u,h.get? b=some u→h'.get? b=some u):Un fs ex H H h h':=
 ⟨fun b ob q _ _ _=>k b ob q,fun b ob q _ _ _=>⟨ob.slots,k b ob q⟩,fun _ _ _ n _=>n,fun b ob q _=>⟨ob,k b ob q⟩,fun _ _ q=>q,fun _ _ _ q=>q,fun _ ps q=>⟨#[],by rw [q];simp⟩⟩
theorem Un.refl:Un fs ex H H h h:=Un.kept fun _ _ q=>q
theorem Un.laid (k:∀b u,h.get? b=some u→h'.get? b=some u) (hp:h.objs.size≤a) (hn:H a=none):Un fs ex H (upd H a o) h h' where
 keep:=fun b u q _ _ _=>k b u q
 slot:=fun b u q _ _ _=>⟨u.slots,k b u q⟩
 free:=fun b u q n _=>by rw [Ji7 (Nat.ne_of_lt (Nat.lt_of_lt_of_le (Heap.lt_size q) hp))];exact n
 there:=fun b u q _=>⟨u,k b u q⟩
 tups:=fun b xs q=>by rw [Ji7 (Ji8 q hn)];exact q
 frzs:=fun b u xs q=>by rw [Ji7 (Ji8 q hn)];exact q
 tbls:=fun b ps q=>⟨#[],by rw [Ji7 (Ji8 q hn),q];simp⟩
theorem Un.write (mu:Mut (H x)) (he:e=x∨H e=some (.own x)) (k:∀b u,b≠e→h.get? b=some u→h'.get? b=some u) (heo:∃u,h'.get? e=some u):Un fs ex H (upd H x o) h h':=by
 have hx:∀b,H b=none→b≠x:=fun b n z=>by subst z;rw [n] at mu;exact mu
 have hb:∀b,H b=none→b≠e:=fun b n z=>by
  subst z
  rcases he with r|r
  ·exact hx b n r
  ·rw [n] at r;cases r
 have hm:∀b u,H b=some u→¬Mut (some u)→b≠x:=fun b u q nm z=>by subst z;rw [q] at mu;exact nm mu
 refine ⟨fun b u q n _ _=>k b u (hb b n) q,fun b u q n _ _=>⟨u.slots,k b u (hb b n) q⟩,fun b u q n _=>by rw [Ji7 (hx b n)];exact n,fun b u q _=>?_,
  fun b xs q=>by rw [Ji7 (hm b _ q fun z=>z)];exact q,fun b u xs q=>by rw [Ji7 (hm b _ q fun z=>z)];exact q,fun b ps q=>⟨#[],by rw [Ji7 (hm b _ q fun z=>z),q];simp⟩⟩
 by_cases hbe:b=e
 ·subst hbe;exact heo
 ·exact ⟨u,k b u hbe q⟩
end
def trk (h:Heap) (H:Hp):List Addr:=(List.range h.objs.size).filter fun a=>(H a).isSome
def Jsu (h:Heap) (H:Hp):Heap:=PySem.W.hideAll h (trk h H)
theorem Jxa (h:Heap) (H:Hp):(Jsu h H).objs.size=h.objs.size:=PySem.W.hideAll_size _ _
theorem Jq7 {h:Heap} {H:Hp} {b:Addr} {o:Obj} (e:h.get? b=some o) (n:H b=none):(Jsu h H).get? b=some o:=
 PySem.W.hideAll_get _ e fun hm=>by
  have q:(H b).isSome=true:=(List.mem_filter.mp hm).2
  rw [n] at q;simp at q
theorem Yab {h:Heap} {H:Hp} {b:Addr} {o:Obj} (e:(Jsu h H).get? b=some o):h.get? b=some o∧H b=none:=by
 have e':h.get? b=some o:=PySem.W.of_hideAll (trk h H) e
 refine ⟨e',?_⟩
 cases q:H b with
 |none=>rfl
 |some x=>
  have hm:b∈trk h H:=List.mem_filter.mpr ⟨List.mem_range.mpr (Heap.lt_size e'),by simp [q]⟩
  have z:(Jsu h H).get? b=none:=PySem.W.hideAll_none (trk h H) hm
  rw [z] at e;cases e
end L2
namespace L2
open PySem PySem.Spec PyProof.Rows
structure Mod (K:PySem.W.Frag) (mg:Str→Option Value) (base:Heap):Prop where
 kin:K.In base
 glob:base.Ns mainGlobals mg
 blt:∃mb,base.Ns builtinsNs mb∧∀x:Str,x≠"__name__" →mb x=bootBuiltins x
 nolimit:base.NoLimit
structure Cx where
 prog:Program
 w:World
 K:PySem.W.Frag
 mg:Str→Option Value
 base:Heap
 A:Around
 N:List Str
 s₀:Shared
 H₀:Hp
 env:Env
 outer:List Env
 stack:List Env
 ex:List Addr
 fn:Str→Bool
 calm:Bool
 pn:List (Addr×Obj)
 xe:Value→Shared→Prop
def frs (l:List Env):List Addr:=l.filterMap (·.frame)
abbrev Cx.fs (X:Cx):List Addr:=frs X.outer
def Vis (sc:Scope) (x:Str):Prop:=sc.names.lookup x=some .local∨sc.names.lookup x=some .cell∨sc.names.lookup x=some .free
def Loc (sc:Scope) (x:Str):Prop:=sc.names.lookup x=some .local∨sc.names.lookup x=some .cell
def Look (env:Env) (h:Heap) (m:Str→Option Value) (x:Str) (u:Value):Prop:=
 (env.kindOf x=some .local∧m x=some u)∨((env.kindOf x=some .cell∨env.kindOf x=some .free)∧∃c,env.cells.lookup x=some c∧h.IsCell c (some u))
structure Cx.Ok (X:Cx):Prop where
 mod:Mod X.K X.mg X.base
 kind:X.env.scope.kind= .function
 glob:X.env.globals=mainGlobals
 blt:X.env.builtins=builtinsNs
 above:X.s₀.heap.objs.size≤X.env.locals
 inj:∀x y c,X.env.cells.lookup x=some c→X.env.cells.lookup y=some c→x=y
 has:∀x,(X.env.kindOf x=some .cell∨X.env.kindOf x=some .free)→∃c,X.env.cells.lookup x=some c
 cab:∀x c,X.fn x=true→X.env.cells.lookup x=some c→X.s₀.heap.objs.size≤c
 hd:X.calm=true→X.A.handled=none
 frames:X.A.frames=some X.stack
 stk:X.stack=X.outer∨(X.stack=X.env::X.outer∧X.env.frame=some X.env.locals)
 exf:∀b∈X.ex,b≠X.env.locals∧∀x c,X.env.cells.lookup x=some c→c≠b
 bs:∀b o,X.base.get? b=some o→X.s₀.heap.get? b=some o∧X.H₀ b=none
 bsz:X.base.objs.size≤X.s₀.heap.objs.size
 noex:∀b o,X.base.get? b=some o→b∉X.ex
 exfs:∀b∈X.ex,b∉X.fs
 funs:X.s₀.heap.FunFrames X.base X.outer
 frf:∀b∈X.fs,X.H₀ b=none
structure Inv (X:Cx) (pins:List (Addr×Obj)) (σ:List (Option V)) (H:Hp) (s:Shared):Prop where
 ok:X.Ok
 os:s.os=X.s₀.os
 bare:AllBare s.gens
 base:Un X.fs X.ex X.H₀ H X.s₀.heap s.heap
 loc:∃m,s.heap.Ns X.env.locals m∧∀(i:Nat) (x:Str) (v:V),X.N[i]?=some x→σ[i]?=some (some v)→Vis X.env.scope x→∃u,RelV v u∧Look X.env s.heap m x u
 cell:∀x c,X.env.cells.lookup x=some c→∃v,s.heap.IsCell c v
 free:H X.env.locals=none
 freeC:∀x c,X.env.cells.lookup x=some c→H c=none∨(X.fn x=false∧∃o,H c=some (celF o))
 pin:∀p∈X.pn++pins,s.heap.get? p.1=some p.2∧H p.1=none∧p.1≠X.env.locals∧p.1∉X.fs∧∀v,p.2.data≠ .cell v
 hok:HOk X.prog X.w H s.heap
 len:σ.length=X.N.length
section
variable {X:Cx} {pins:List (Addr×Obj)} {σ:List (Option V)} {H H':Hp} {s:Shared} {h':Heap}
theorem Cx.Ok.nofr (ok:X.Ok) {b:Addr} {o:Obj} (e:X.base.get? b=some o):b∉X.fs:=fun hb=>by
 have:=(ok.funs.mem hb).1
 rw [e] at this;cases this
theorem Inv.bs (I:Inv X pins σ H s):∀b o,X.base.get? b=some o→s.heap.get? b=some o∧H b=none:=fun b o e=>
 ⟨I.base.keep b o (I.ok.bs b o e).1 (I.ok.bs b o e).2 (I.ok.nofr e) (I.ok.noex b o e),I.base.free b o (I.ok.bs b o e).1 (I.ok.bs b o e).2 (I.ok.noex b o e)⟩
theorem Inv.bk (I:Inv X pins σ H s):∀b o,X.base.get? b=some o→s.heap.get? b=some o:=fun b o e=>(I.bs b o e).1
theorem Inv.mod (I:Inv X pins σ H s):Mod X.K X.mg X.base:=I.ok.mod
theorem Inv.kIn (I:Inv X pins σ H s):X.K.In s.heap:=I.ok.mod.kin.keeps I.bk
theorem Inv.lt (I:Inv X pins σ H s):X.env.locals < s.heap.objs.size:=let ⟨_,hn,_⟩:=I.loc;hn.lt
theorem Inv.sz (I:Inv X pins σ H s):X.s₀.heap.objs.size≤s.heap.objs.size:=Nat.le_trans I.ok.above (Nat.le_of_lt I.lt)
theorem Inv.nofs (I:Inv X pins σ H s) {a:Addr} (h:s.heap.objs.size≤a):a∉X.fs:=fun hb=>by
 obtain ⟨_,o,ho,_⟩:=I.ok.funs.mem hb
 exact absurd (Nat.lt_of_lt_of_le (Heap.lt_size ho) (Nat.le_trans I.sz h)) (Nat.lt_irrefl _)
theorem Inv.cne (I:Inv X pins σ H s):∀x c,X.env.cells.lookup x=some c→c≠X.env.locals:=fun x c e z=>by
 obtain ⟨v,o,ho,hd⟩:=I.cell x c e
 obtain ⟨m,⟨o',es,ep,ho',hd',_⟩,_⟩:=I.loc
 rw [z,ho'] at ho;cases ho;rw [hd'] at hd;cases hd
theorem Inv.funs (I:Inv X pins σ H s):s.heap.FunFrames X.base X.outer:=by
 have all:∀(l:List Env),(∀b∈frs l,b∈X.fs)→X.s₀.heap.FunFrames X.base l→s.heap.FunFrames X.base l:=by
  intro l
  induction l with
  |nil=>intro _ _;trivial
  |cons env r ih=>
   intro hs hl
   obtain ⟨hk,⟨L,o,hf,hn,ho,hd⟩,hr⟩:=hl
   have hL:L∈X.fs:=hs L (by unfold frs;rw [List.filterMap_cons,hf];exact List.mem_cons_self)
   obtain ⟨sl,e⟩:=I.base.slot L o ho (I.ok.frf L hL) hL fun z=>I.ok.exfs L z hL
   exact ⟨hk,⟨L,_,hf,hn,e,hd⟩,ih (fun b hb=>hs b (by unfold frs;rw [List.filterMap_cons,hf];exact List.mem_cons_of_mem _ hb)) hr⟩
 exact all X.outer (fun _ hb=>hb) I.ok.funs
theorem Inv.stack (I:Inv X pins σ H s):s.heap.FunFrames X.base X.stack:=by
 rcases I.ok.stk with e|⟨e,hf⟩
 ·rw [e];exact I.funs
 ·rw [e]
  obtain ⟨m,hn,_⟩:=I.loc
  refine .cons (by rw [I.ok.kind];decide) hf hn ?_ I.funs
  exact Heap.get?_none_of_le (Nat.le_trans I.ok.bsz I.ok.above)
theorem Inv.stkSub (I:Inv X pins σ H s):∀b∈frs X.stack,b∈X.env.locals::X.fs:=fun b hb=>by
 rcases I.ok.stk with e|⟨e,hf⟩
 ·rw [e] at hb;exact List.mem_cons_of_mem _ hb
 ·rw [e] at hb
  unfold frs at hb
  rw [List.filterMap_cons,hf] at hb
  exact hb
theorem Inv.stkFree (I:Inv X pins σ H s):∀b∈frs X.stack,H b=none:=fun b hb=>by
 rcases List.mem_cons.mp (I.stkSub b hb) with e|hb
 ·rw [e];exact I.free
 ·obtain ⟨_,o,ho,_⟩:=I.ok.funs.mem hb
  exact I.base.free b o ho (I.ok.frf b hb) fun z=>I.ok.exfs b z hb
theorem Inv.step {g':Array GenState} {t':Nat} {d':Drawn} {ch:List Addr} (I:Inv X pins σ H s)
  (hch:∀b∈ch,(b∈X.ex∨X.s₀.heap.objs.size≤b)∧b≠X.env.locals∧(∀x c,X.env.cells.lookup x=some c→c≠b)∧∀p∈X.pn++pins,p.1≠b)
  (keep:∀b o,b≠X.env.locals→b∉X.fs→b∉ch→s.heap.get? b=some o→H b=none→h'.get? b=some o)
  (slot:∀b o,b≠X.env.locals→b∈X.fs→b∉ch→s.heap.get? b=some o→H b=none→∃sl,h'.get? b=some {o with slots:=sl}) (free:∀b o,b∉ch→s.heap.get? b=some o→H b=none→H' b=none)
  (there:∀b o,b∉ch→s.heap.get? b=some o→∃o',h'.get? b=some o')
  (tups:∀b xs,H b=some (.tup xs)→H' b=some (.tup xs)) (frzs:∀b o u,H b=some (.frz o u)→H' b=some (.frz o u)) (tbls:∀b ps,H b=some (.tbl ps)→∃more,H' b=some (.tbl (ps++more)))
  (ns:∀m,s.heap.Ns X.env.locals m→h'.Ns X.env.locals m) (hok:HOk X.prog X.w H' h') (hg:AllBare g'):
  Inv X pins σ H' {s with heap:=h',gens:=g',drawn:=d',toks:=t'}:=by
 have neL:∀b o,X.s₀.heap.get? b=some o→b≠X.env.locals:=fun b o e=>Nat.ne_of_lt (Nat.lt_of_lt_of_le (Heap.lt_size e) I.ok.above)
 have neC:∀b o,X.s₀.heap.get? b=some o→b∉X.ex→b∉ch:=fun b o e hx hb=>by
  rcases (hch b hb).1 with z|z
  ·exact hx z
  ·exact absurd (Nat.lt_of_lt_of_le (Heap.lt_size e) z) (Nat.lt_irrefl _)
 have cellK:∀x c,X.env.cells.lookup x=some c→∀v,s.heap.IsCell c v→h'.IsCell c v:=fun x c e v ⟨o,ho,hd⟩=>by
  have nch:c∉ch:=fun z=>(hch c z).2.2.1 x c e rfl
  rcases I.freeC x c e with n|⟨_,ob,q⟩
  ·by_cases hc:c∈X.fs
   ·obtain ⟨sl,q⟩:=slot c o (I.cne x c e) hc nch ho n
    exact ⟨_,q,hd⟩
   ·exact ⟨o,keep c o (I.cne x c e) hc nch ho n,hd⟩
  ·obtain ⟨e1,_⟩:=I.hok c _ q
   obtain ⟨e2,_⟩:=hok c _ (frzs c ob _ q)
   rw [ho] at e1;cases e1
   exact ⟨_,e2,hd⟩
 refine ⟨I.ok,I.os,hg,⟨fun b o e n hb hx=>?_,fun b o e n hb hx=>?_,fun b o e n hx=>?_,fun b o e hx=>?_,fun b xs e=>tups b xs (I.base.tups b xs e),fun b o xs e=>frzs b o xs (I.base.frzs b o xs e),fun b ps e=>?_⟩,?_,fun x c e=>?_,?_,fun x c e=>?_,fun p hp=>?_,hok,I.len⟩
 ·exact keep b o (neL b o e) hb (neC b o e hx) (I.base.keep b o e n hb hx) (I.base.free b o e n hx)
 ·obtain ⟨sl,e1⟩:=I.base.slot b o e n hb hx
  obtain ⟨sl',e2⟩:=slot b _ (neL b o e) hb (neC b o e hx) e1 (I.base.free b o e n hx)
  exact ⟨sl',e2⟩
 ·obtain ⟨o',e1⟩:=I.base.there b o e hx
  exact free b o' (neC b o e hx) e1 (I.base.free b o e n hx)
 ·obtain ⟨o',e1⟩:=I.base.there b o e hx
  exact there b o' (neC b o e hx) e1
 ·obtain ⟨m1,e1⟩:=I.base.tbls b ps e
  obtain ⟨m2,e2⟩:=tbls b _ e1
  exact ⟨m1++m2,by rw [e2,Array.append_assoc]⟩
 ·obtain ⟨m,hn,hl⟩:=I.loc
  refine ⟨m,ns m hn,fun i x v e1 e2 e3=>?_⟩
  obtain ⟨u,r,l⟩:=hl i x v e1 e2 e3
  refine ⟨u,r,?_⟩
  rcases l with l|⟨k,c,e,z⟩
  ·exact .inl l
  ·exact .inr ⟨k,c,e,cellK x c e _ z⟩
 ·obtain ⟨v,z⟩:=I.cell x c e
  exact ⟨v,cellK x c e v z⟩
 ·obtain ⟨m,⟨o,_,_,ho,_⟩,_⟩:=I.loc
  exact free _ o (fun z=>(hch _ z).2.1 rfl) ho I.free
 ·obtain ⟨v,o,ho,hd⟩:=I.cell x c e
  rcases I.freeC x c e with n|⟨hf,ob,q⟩
  ·exact .inl (free c o (fun z=>(hch c z).2.2.1 x c e rfl) ho n)
  ·exact .inr ⟨hf,ob,frzs c ob _ q⟩
 ·obtain ⟨e,n,ne,nf,d⟩:=I.pin p hp
  have nch:p.1∉ch:=fun z=>(hch p.1 z).2.2.2 p hp rfl
  exact ⟨keep p.1 p.2 ne nf nch e n,free p.1 p.2 nch e n,ne,nf,d⟩
theorem Inv.un {t':Nat} (I:Inv X pins σ H s) (u:Un X.fs [] H H' s.heap h') (hok:HOk X.prog X.w H' h'):Inv X pins σ H' {s with heap:=h',toks:=t'}:=by
 obtain ⟨m,⟨o,es,ep,ho,r⟩,_⟩:=id I.loc
 obtain ⟨sl,hL⟩:=u.any ho I.free (by simp)
 exact I.step (g':=s.gens) (d':=s.drawn) (ch:=[]) (fun _ z=>nomatch z) (fun b o _ hb _ e n=>u.keep b o e n hb (by simp)) (fun b o _ hb _ e n=>u.slot b o e n hb (by simp)) (fun b o _ e n=>u.free b o e n (by simp)) (fun b o _ e=>u.there b o e (by simp)) u.tups u.frzs u.tbls (fun m' hm=>by
  obtain ⟨o',es',ep',ho',r'⟩:=hm
  rw [ho] at ho';cases ho'
  exact ⟨_,es',ep',hL,r'⟩) hok I.bare
theorem Inv.call {g':Array GenState} {t':Nat} {d':Drawn} {ch:List Addr} (I:Inv X pins σ H s) (u:Un (frs X.stack) ch H H' s.heap h') (hok:HOk X.prog X.w H' h') (hg:AllBare g')
  (hch:∀b∈ch,(b∈X.ex∨X.s₀.heap.objs.size≤b)∧b≠X.env.locals∧(∀x c,X.env.cells.lookup x=some c→c≠b)∧∀p∈X.pn++pins,p.1≠b):
  Inv X pins σ H' {s with heap:=h',gens:=g',drawn:=d',toks:=t'}:=by
 obtain ⟨m,⟨o,es,ep,ho,r⟩,_⟩:=id I.loc
 obtain ⟨sl,hL⟩:=u.any ho I.free fun z=>(hch _ z).2.1 rfl
 exact I.step (ch:=ch) hch (fun b o hL hb hc e n=>u.keep b o e n (fun z=>(List.mem_cons.mp (I.stkSub b z)).elim hL hb) hc) (fun b o _ _ hc e n=>u.any e n hc) (fun b o hc e n=>u.free b o e n hc) (fun b o hc e=>u.there b o e hc) u.tups u.frzs u.tbls (fun m' hm=>by
  obtain ⟨o',es',ep',ho',r'⟩:=hm
  rw [ho] at ho';cases ho'
  exact ⟨_,es',ep',hL,r'⟩) hok hg
theorem Inv.turned {t':Nat} {it:Addr} (I:Inv X pins σ H s) (k:∀b o,b≠it→s.heap.get? b=some o→h'.get? b=some o) (hn:H it=none) (hL:it≠X.env.locals)
  (h1:it∈X.ex∨X.s₀.heap.objs.size≤it) (h2:∀x c,X.env.cells.lookup x=some c→c≠it) (h3:∀p∈X.pn++pins,p.1≠it):Inv X pins σ H {s with heap:=h',toks:=t'}:=by
 have nit:∀b u,H b=some u→b≠it:=fun b u e z=>by rw [z,hn] at e;cases e
 refine I.step (g':=s.gens) (d':=s.drawn) (ch:=[it]) (fun b hb=>?_) (fun b o _ _ hc e _=>k b o (fun z=>hc (by simp [z])) e) (fun b o _ _ hc e _=>⟨o.slots,k b o (fun z=>hc (by simp [z])) e⟩) (fun _ _ _ _ n=>n)
  (fun b o hc e=>⟨o,k b o (fun z=>hc (by simp [z])) e⟩) (fun _ _ e=>e) (fun _ _ _ e=>e) (fun b ps e=>⟨#[],by rw [e];simp⟩) (fun m hm=>?_) (fun b u e=>?_) I.bare
 ·have e:b=it:=by simpa using hb
  subst e
  exact ⟨h1,hL,h2,h3⟩
 ·obtain ⟨o,es,ep,ho,r⟩:=hm
  exact ⟨o,es,ep,k _ o (Ne.symm hL) ho,r⟩
 ·refine (I.hok b u e).stay (fun c v hc q=>k c v ?_ q) (fun _ q=>q) (fun _ _ q=>q) fun _ _ q=>q
  rcases hc with z|z
  ·rw [z];exact nit b u e
  ·exact nit c _ z
theorem Inv.tok (I:Inv X pins σ H s) (t:Nat):Inv X pins σ H {s with toks:=t}:=I.un (h':=s.heap) (t':=t) Un.refl I.hok
theorem Inv.kept {t':Nat} (I:Inv X pins σ H s) (k:∀b u,s.heap.get? b=some u→h'.get? b=some u):Inv X pins σ H {s with heap:=h',toks:=t'}:=I.un (Un.kept k) (I.hok.kept k)
theorem Inv.laid {a:Addr} {o:HO} {t':Nat} (I:Inv X pins σ H s) (k:∀b u,s.heap.get? b=some u→h'.get? b=some u) (hp:s.heap.objs.size≤a) (new:ObjOk X.prog X.w (upd H a o) h' a o):
  Inv X pins σ (upd H a o) {s with heap:=h',toks:=t'}:=I.un (Un.laid k hp (I.hok.fresh hp)) (I.hok.laid k hp new)
theorem Inv.write {x e:Addr} {o:HO} {t':Nat} (I:Inv X pins σ H s) (mu:Mut (H x)) (he:e=x∨H e=some (.own x)) (k:∀b u,b≠e→s.heap.get? b=some u→h'.get? b=some u) (heo:∃u,h'.get? e=some u)
  (new:ObjOk X.prog X.w (upd H x o) h' x o):Inv X pins σ (upd H x o) {s with heap:=h',toks:=t'}:=I.un (Un.write mu he k heo) (I.hok.write mu he k heo new)
theorem Inv.pins_of {pins':List (Addr×Obj)} (I:Inv X pins σ H s) (h:∀p∈pins',s.heap.get? p.1=some p.2∧H p.1=none∧p.1≠X.env.locals∧p.1∉X.fs∧∀v,p.2.data≠ .cell v):Inv X pins' σ H s:=
 ⟨I.ok,I.os,I.bare,I.base,I.loc,I.cell,I.free,I.freeC,fun p hp=>(List.mem_append.mp hp).elim (fun z=>I.pin p (List.mem_append_left _ z)) (h p),I.hok,I.len⟩
theorem Jqh {N:List Str} (hN:N.Nodup) {i j:Nat} {x:Str} (a:N[i]?=some x) (b:N[j]?=some x):i=j:=by
 obtain ⟨h1,e1⟩:=List.getElem?_eq_some_iff.mp a
 obtain ⟨h2,e2⟩:=List.getElem?_eq_some_iff.mp b
 exact (List.getElem_inj hN).mp (e1.trans e2.symm)
theorem Jsg {M:Model} {A:Around} {E:Value→Shared→Prop} {i:Nat} {x:Str} {v:V} {u:Value} {Q:Unit→Shared→Prop} (I:Inv X pins σ H s) (hN:X.N.Nodup) (hi:X.N[i]?=some x) (hx:Loc X.env.scope x) (r:RelV v u)
  (h:∀s',Inv X pins (σ.set i (some v)) H s'→(∃a,Heap.SameBut a s.heap s'.heap∧(a=X.env.locals∨X.env.cells.lookup x=some a))→Q () s') (hf:X.fn x=true∨X.env.scope.names.lookup x=some .local:=by first|exact .inl rfl|exact .inr rfl|assumption):wpAny M A (storeName X.env x u) Q E s:=by
 obtain ⟨m,hn,hl⟩:=id I.loc
 have hcls:(X.env.scope.kind== .class||(X.env.scope.kind== .module&&X.env.locals !=X.env.globals))=false:=by rw [I.ok.kind];rfl
 have hiσ:i < σ.length:=by rw [I.len];exact (List.getElem?_eq_some_iff.mp hi).1
 have cne:=I.cne
 have tracked:∀{a:Addr} {h':Heap},(∃o,s.heap.get? a=some o∧H a=none)→Heap.SameBut a s.heap h'→HOk X.prog X.w H h':=fun {a h'} ha hs b ob e=>by
  obtain ⟨_,_,hfree⟩:=ha
  refine (I.hok b ob e).stay (fun c w' hc q=>(hs.2 c ?_).trans q) (fun _ q=>q) (fun _ _ q=>q) fun _ _ q=>q
  rintro rfl
  rcases hc with rfl|hc
  ·rw [hfree] at e;cases e
  ·rw [hfree] at hc;cases hc
 rcases hx with hk|hk
 ·refine wpAny_storeName_local hk hn (fun h' hn' hs=>?_) hcls
  obtain ⟨oL,_,_,hoL,_⟩:=id hn
  refine h _ ⟨I.ok,I.os,I.bare,⟨fun b o e n hb hx=>?_,fun b o e n hb hx=>?_,I.base.free,fun b o e hx=>?_,I.base.tups,I.base.frzs,I.base.tbls⟩,⟨_,hn',fun j y v' e1 e2 e3=>?_⟩,fun y c e=>?_,I.free,I.freeC,fun p hp=>?_,tracked ⟨oL,hoL,I.free⟩ hs,by simpa using I.len⟩ ⟨_,hs,.inl rfl⟩
  ·exact (hs.2 b (Nat.ne_of_lt (Nat.lt_of_lt_of_le (Heap.lt_size e) I.ok.above))).trans (I.base.keep b o e n hb hx)
  ·obtain ⟨sl,e1⟩:=I.base.slot b o e n hb hx
   exact ⟨sl,(hs.2 b (Nat.ne_of_lt (Nat.lt_of_lt_of_le (Heap.lt_size e) I.ok.above))).trans e1⟩
  ·obtain ⟨o',e1⟩:=I.base.there b o e hx
   exact ⟨o',(hs.2 b (Nat.ne_of_lt (Nat.lt_of_lt_of_le (Heap.lt_size e) I.ok.above))).trans e1⟩
  ·by_cases hj:j=i
   ·subst hj
    rw [hi] at e1;cases e1
    rw [List.getElem?_set_self hiσ] at e2
    cases e2
    exact ⟨u,r,.inl ⟨hk,by simp⟩⟩
   ·rw [List.getElem?_set_ne (Ne.symm hj)] at e2
    obtain ⟨u',r',q⟩:=hl j y v' e1 e2 e3
    refine ⟨u',r',?_⟩
    rcases q with ⟨k,e⟩|⟨k,c,e,z⟩
    ·refine .inl ⟨k,?_⟩
     have:y≠x:=fun e=>hj (Jqh hN e1 (e▸hi))
     simp [this,e]
    ·exact .inr ⟨k,c,e,z.sameBut hs (cne y c e)⟩
  ·obtain ⟨w',z⟩:=I.cell y c e
   exact ⟨w',z.sameBut hs (cne y c e)⟩
  ·obtain ⟨e,n,ne,nf,d⟩:=I.pin p hp
   exact ⟨(hs.2 p.1 ne).trans e,n,ne,nf,d⟩
 ·have hfn:X.fn x=true:=by
   rcases hf with z|z
   ·exact z
   ·rw [z] at hk;cases hk
  obtain ⟨c,hc⟩:=I.ok.has x (.inl hk)
  obtain ⟨w',z⟩:=I.cell x c hc
  refine wpAny_storeName_cell I.ok.kind hk hc z (fun h' hc' hs=>?_)
  obtain ⟨oc,hoc,hocd⟩:=id z
  refine h {s with heap:=h'} ⟨I.ok,I.os,I.bare,⟨fun b o e n hb hx=>?_,fun b o e n hb hx=>?_,I.base.free,fun b o e hx=>?_,I.base.tups,I.base.frzs,I.base.tbls⟩,⟨m,hn.sameBut hs (Ne.symm (cne x c hc)),fun j y v' e1 e2 e3=>?_⟩,fun y c' e=>?_,I.free,I.freeC,fun p hp=>?_,tracked ⟨oc,hoc,(I.freeC x c hc).elim id fun z=>by rw [hfn] at z;cases z.1⟩ hs,by simpa using I.len⟩ ⟨c,hs,.inr hc⟩
  ·exact (hs.2 b (Nat.ne_of_lt (Nat.lt_of_lt_of_le (Heap.lt_size e) (I.ok.cab x c hfn hc)))).trans (I.base.keep b o e n hb hx)
  ·obtain ⟨sl,e1⟩:=I.base.slot b o e n hb hx
   exact ⟨sl,(hs.2 b (Nat.ne_of_lt (Nat.lt_of_lt_of_le (Heap.lt_size e) (I.ok.cab x c hfn hc)))).trans e1⟩
  ·obtain ⟨o',e1⟩:=I.base.there b o e hx
   exact ⟨o',(hs.2 b (Nat.ne_of_lt (Nat.lt_of_lt_of_le (Heap.lt_size e) (I.ok.cab x c hfn hc)))).trans e1⟩
  ·by_cases hj:j=i
   ·subst hj
    rw [hi] at e1;cases e1
    rw [List.getElem?_set_self hiσ] at e2
    cases e2
    exact ⟨u,r,.inr ⟨.inl hk,c,hc,hc'⟩⟩
   ·rw [List.getElem?_set_ne (Ne.symm hj)] at e2
    obtain ⟨u',r',q⟩:=hl j y v' e1 e2 e3
    refine ⟨u',r',?_⟩
    rcases q with q|⟨k,c',e,z'⟩
    ·exact .inl q
    ·refine .inr ⟨k,c',e,z'.sameBut hs ?_⟩
     rintro rfl
     exact hj (Jqh hN e1 (I.ok.inj _ _ _ e hc▸hi))
  ·by_cases hcc:c'=c
   ·subst hcc;exact ⟨_,hc'⟩
   ·obtain ⟨w2,z2⟩:=I.cell y c' e
    exact ⟨w2,z2.sameBut hs hcc⟩
  ·obtain ⟨e,n,ne,nf,d⟩:=I.pin p hp
   refine ⟨(hs.2 p.1 ?_).trans e,n,ne,nf,d⟩
   intro q
   rw [q,hoc] at e
   have q':oc=p.2:=Option.some.inj e
   exact d w' (by rw [←q'];exact hocd)
theorem Jmt {M:Model} {A:Around} {E:Value→Shared→Prop} {i:Nat} {x:Str} {v:V} {u:Value} {Q:Unit→Shared→Prop} (I:Inv X pins σ H s) (hN:X.N.Nodup) (hi:X.N[i]?=some x) (hx:Loc X.env.scope x) (r:RelV v u)
  (h:∀s',Inv X pins (σ.set i (some v)) H s'→Q () s') (hf:X.fn x=true∨X.env.scope.names.lookup x=some .local:=by first|exact .inl rfl|exact .inr rfl|assumption):wpAny M A (storeName X.env x u) Q E s:=
 Jsg I hN hi hx r (fun s' I' _=>h s' I') hf
theorem Inv.call' {s':Shared} {ch:List Addr} (I:Inv X pins σ H s) (ho:s'.os=s.os) (u:Un (frs X.stack) ch H H' s.heap s'.heap) (hok:HOk X.prog X.w H' s'.heap) (hg:AllBare s'.gens)
  (hch:∀b∈ch,(b∈X.ex∨X.s₀.heap.objs.size≤b)∧b≠X.env.locals∧(∀x c,X.env.cells.lookup x=some c→c≠b)∧∀p∈X.pn++pins,p.1≠b):Inv X pins σ H' s':=by
 obtain ⟨h',g',d',t',o'⟩:=s'
 have e:o'=s.os:=ho
 subst e
 exact I.call (g':=g') (t':=t') (d':=d') u hok hg hch
end
abbrev XK:=Value→Option Addr→Hp→Prop
abbrev St:=List (Option V)
abbrev VK:=V→Hp→Prop
abbrev TE:=St→Hp→VK→Prop
abbrev TT:=St→Hp→(Bool→Hp→Prop)→Prop
abbrev TA:=St→Hp→(List V→Hp→Prop)→Prop
structure Ends where
 nx:St→Hp→Prop
 rt:VK
 bk:St→Hp→Prop:=fun _ _=>False
 ct:St→Hp→Prop:=fun _ _=>False
abbrev TS:=Ends→St→Hp→Prop
def EP (X:Cx) (pins:List (Addr×Obj)) (σ:St) (Q:VK) (u:Value) (s':Shared):Prop:=∃v H',Inv X pins σ H' s'∧RelV v u∧Q v H'
def TP (X:Cx) (pins:List (Addr×Obj)) (σ:St) (Q:Bool→Hp→Prop) (b:Bool) (s':Shared):Prop:=∃H',Inv X pins σ H' s'∧Q b H'
def AP (X:Cx) (pins:List (Addr×Obj)) (σ:St) (Q:List V→Hp→Prop) (us:List Value) (s':Shared):Prop:=∃vs H',Inv X pins σ H' s'∧Vals vs us∧Q vs H'
def SP (X:Cx) (pins:List (Addr×Obj)) (D:Ends) (f:Flow) (s':Shared):Prop:=
 match f with
 | .next=>∃σ' H',Inv X pins σ' H' s'∧D.nx σ' H'
 | .brk=>∃σ' H',Inv X pins σ' H' s'∧D.bk σ' H'
 | .cont=>∃σ' H',Inv X pins σ' H' s'∧D.ct σ' H'
 | .ret u=>∃v σ' H',Inv X pins σ' H' s'∧RelV v u∧D.rt v H'
def PE (X:Cx) (e:Expr) (t:TE):Prop:=
 ∀(pins:List (Addr×Obj)) (s:Shared) (σ:St) (H:Hp) (Q:VK),Inv X pins σ H s→t σ H Q→wpAny (model X.prog X.w) X.A (eval e X.env) (EP X pins σ Q) X.xe s
def PT (X:Cx) (e:Expr) (t:TT):Prop:=
 ∀(pins:List (Addr×Obj)) (s:Shared) (σ:St) (H:Hp) (Q:Bool→Hp→Prop),Inv X pins σ H s→t σ H Q→wpAny (model X.prog X.w) X.A (isTrue e X.env (eval e X.env)) (TP X pins σ Q) X.xe s
def PW (X:Cx) (e:Expr) (t:TT):Prop:=
 ∀(whole:Sem Value) (pins:List (Addr×Obj)) (s:Shared) (σ:St) (H:Hp) (Q:Bool→Hp→Prop),Inv X pins σ H s→t σ H Q→wpAny (model X.prog X.w) X.A (isTrue e X.env whole) (TP X pins σ Q) X.xe s
theorem PW.pt {X:Cx} {e:Expr} {t:TT} (h:PW X e t):PT X e t:=h _
def PA (X:Cx) (es:List Expr) (t:TA):Prop:=
 ∀(pos:Pos) (pins:List (Addr×Obj)) (s:Shared) (σ:St) (H:Hp) (Q:List V→Hp→Prop),Inv X pins σ H s→t σ H Q→wpAny (model X.prog X.w) X.A (spliced (backTo pos (starEach es X.env))) (AP X pins σ Q) X.xe s
def PS (X:Cx) (st:Stmt) (t:TS):Prop:=
 ∀(pins:List (Addr×Obj)) (s:Shared) (σ:St) (H:Hp) (D:Ends),Inv X pins σ H s→t D σ H→wpAny (model X.prog X.w) X.A (exec st X.env) (SP X pins D) X.xe s
def PSs (X:Cx) (st:List Stmt) (t:TS):Prop:=
 ∀(pins:List (Addr×Obj)) (s:Shared) (σ:St) (H:Hp) (D:Ends),Inv X pins σ H s→t D σ H→wpAny (model X.prog X.w) X.A (execs st X.env) (SP X pins D) X.xe s
theorem thn {α:Type} {t:Sem α} {Q Q':α→Shared→Prop} {M:Model} {A:Around} {E:Value→Shared→Prop} {s:Shared} (h:wpAny M A t Q E s) (hQ:∀a s,Q a s→Q' a s):wpAny M A t Q' E s:=wpAny_mono h hQ fun _ _ x=>x
end L2
namespace L2
open PySem PySem.Spec PyProof.Rows
section
variable {X:Cx}
def tVar (i:Nat):TE:=fun σ H Q=>∃v,σ[i]?=some (some v)∧Q v H
def tC (v:V):TE:=fun _ H Q=>Q v H
theorem Jzk {i:Nat} {x:Str} {pos:Pos} (hN:X.N[i]?=some x) (hv:Vis X.env.scope x) (hd:(x==("__debug__" :Str))=false:=by decide) (hcd:(x==("__classdict__" :Str))=false:=by decide):PE X (.Name x pos) (tVar i):=by
 intro pins s σ H Q I h
 obtain ⟨v,e,h⟩:=h
 obtain ⟨m,hn,hl⟩:=I.loc
 obtain ⟨u,r,l⟩:=hl i x v hN e hv
 have fin:EP X pins σ Q u s:=⟨v,H,I,r,h⟩
 rcases l with ⟨hk,hm⟩|⟨hk,c,hc,hcell⟩
 ·exact wpAny_Name (wpAny_loadName_local I.ok.kind hk hn hm fin) hd
 ·rcases hk with hk|hk
  ·exact wpAny_Name (wpAny_loadName_cell I.ok.kind hk hc hcell fin) hd
  ·exact wpAny_Name (wpAny_loadName_free I.ok.kind hk hc hcell fin hcd) hd
theorem Ji6 {i j pos}:PE X (.Constant (.int i) j pos) (tC (.int i)):=fun _ _ _ H _ I h=>wpAny_Constant_int ⟨.int i,H,I.tok _,⟨_,rfl⟩,h⟩
theorem Jjt {b j pos}:PE X (.Constant (.bool b) j pos) (tC (.bl b)):=fun _ _ _ H _ I h=>Constant_bool ⟨.bl b,H,I,rfl,h⟩
theorem Jk1 {j pos}:PE X (.Constant .none j pos) (tC .non):=fun _ _ _ H _ I h=>Constant_none ⟨.non,H,I,rfl,h⟩
theorem Jji {x j pos}:PE X (.Constant (.str x) j pos) (tC (.str x)):=fun _ _ _ H _ I h=>Calls.Constant_str ⟨.str x,H,I.tok _,⟨_,rfl⟩,h⟩
def Gl (X:Cx) (x:Str):Prop:=X.env.kindOf x=some .globalImplicit
theorem Jmx {E:Value→Shared→Prop} {pins:List (Addr×Obj)} {s:Shared} {σ:St} {H:Hp} {x:Str} {u:Value} {pos:Pos} {Q:Value→Shared→Prop} (I:Inv X pins σ H s) (hg:Gl X x) (hm:X.mg x=some u) (h:Q u s)
  (hd:(x==("__debug__" :Str))=false:=by decide):wpAny (model X.prog X.w) X.A (eval (.Name x pos) X.env) Q E s:=
 Calls.Name_function_global I.ok.kind hg (Calls.loadGlobal_global (by rw [I.ok.glob];exact I.mod.glob.keeps I.bk) hm h) hd
theorem Jmc {E:Value→Shared→Prop} {pins:List (Addr×Obj)} {s:Shared} {σ:St} {H:Hp} {x:Str} {u:Value} {pos:Pos} {Q:Value→Shared→Prop} (I:Inv X pins σ H s) (hg:Gl X x) (hm:X.mg x=none) (hv:bootBuiltins x=some u) (h:Q u s)
  (hn:x≠"__name__" :=by decide) (hd:(x==("__debug__" :Str))=false:=by decide):wpAny (model X.prog X.w) X.A (eval (.Name x pos) X.env) Q E s:=by
 obtain ⟨mb,h1,h2⟩:=I.mod.blt
 exact Calls.Name_function_global I.ok.kind hg (Calls.loadGlobal_builtin (by rw [I.ok.glob];exact I.mod.glob.keeps I.bk) hm (by rw [I.ok.blt];exact h1.keeps I.bk) ((h2 x hn).trans hv) h) hd
theorem Jjh {x:Str} {v:V} {u:Value} {pos:Pos} (hg:Gl X x) (hm:X.mg x=some u) (r:RelV v u) (hd:(x==("__debug__" :Str))=false:=by decide):PE X (.Name x pos) (tC v):=
 fun _ _ _ H _ I h=>Jmx I hg hm ⟨v,H,I,r,h⟩ hd
theorem Jjy {x:Str} {v:V} {u:Value} {pos:Pos} (hg:Gl X x) (hm:X.mg x=none) (hv:bootBuiltins x=some u) (r:RelV v u) (hn:x≠"__name__" :=by decide) (hd:(x==("__debug__" :Str))=false:=by decide):PE X (.Name x pos) (tC v):=
 fun _ _ _ H _ I h=>Jmc I hg hm hv ⟨v,H,I,r,h⟩ hn hd
variable {a b:Expr} {ta tb:TE} {pos:Pos}
def tB (t:TE):TT:=fun σ H Q=>t σ H fun x H1=>∃c,x= .bl c∧Q c H1
theorem Jiv {e:Expr} {t:TE} (h:PE X e t) (he:∀whole,isTrue e X.env whole=(do let v←whole;standAt e.pos;holding [v] (truthy v)):=by intro _;rfl):PT X e (tB t):=by
 intro pins s σ H Q I hw
 refine isTrue_plain (thn (h pins s σ H _ I hw) fun v s1 ⟨x,H1,I1,r1,q1⟩=>?_) (he _)
 obtain ⟨d,rfl,q⟩:=q1
 cases r1
 exact wpAny_truthy_bool ⟨H1,I1,q⟩
variable {tA tB':TT} {rest:List Expr}
def tAnd (t u:TT):TT:=fun σ H Q=>t σ H fun c H1=>if c=true then u σ H1 Q else Q false H1
def tOr (t u:TT):TT:=fun σ H Q=>t σ H fun c H1=>if c=true then Q true H1 else u σ H1 Q
def tNot (t:TT):TT:=fun σ H Q=>t σ H fun c H1=>Q (!c) H1
theorem Jo8 (ha:PT X a tA):PW X (.BoolOp .And [a] pos) tA:=by
 intro wh pins s σ H Q I h
 refine isTrue_and (thn (ha pins s σ H Q I h) fun c s1 e=>?_)
 cases c with
 |true=>exact isTrue_and_nil e
 |false=>exact e
theorem Jmk (ha:PT X a tA):PW X (.BoolOp .Or [a] pos) tA:=by
 intro wh pins s σ H Q I h
 refine isTrue_or (thn (ha pins s σ H Q I h) fun c s1 e=>?_)
 cases c with
 |false=>exact isTrue_or_nil e
 |true=>exact e
theorem Jqs (ha:PT X a tA) (hb:PW X (.BoolOp .And (b::rest) pos) tB'):PW X (.BoolOp .And (a::b::rest) pos) (tAnd tA tB'):=by
 intro wh pins s σ H Q I h
 refine isTrue_and (thn (ha pins s σ H _ I h) fun c s1 ⟨H1,I1,q1⟩=>?_)
 cases c with
 |true=>exact hb wh pins s1 σ H1 Q I1 q1
 |false=>exact ⟨H1,I1,q1⟩
theorem Jo9 (ha:PT X a tA) (hb:PW X (.BoolOp .Or (b::rest) pos) tB'):PW X (.BoolOp .Or (a::b::rest) pos) (tOr tA tB'):=by
 intro wh pins s σ H Q I h
 refine isTrue_or (thn (ha pins s σ H _ I h) fun c s1 ⟨H1,I1,q1⟩=>?_)
 cases c with
 |true=>exact ⟨H1,I1,q1⟩
 |false=>exact hb wh pins s1 σ H1 Q I1 q1
theorem Jj4 (ha:PT X a tA):PT X (.UnaryOp .Not a pos) (tNot tA):=by
 intro pins s σ H Q I h
 exact isTrue_not (ha pins s σ H (fun c H1=>Q (!c) H1) I h)
def tAndV (ta tb:TE):TE:=fun σ H Q=>ta σ H fun x H1=>∃c,x= .bl c∧if c=true then tb σ H1 Q else Q (.bl false) H1
def tNotV (ta:TE):TE:=fun σ H Q=>ta σ H fun x H1=>∃c,x= .bl c∧Q (.bl (!c)) H1
theorem Jvr {op} {t:TE} (h:PE X a t):PE X (.BoolOp op [a] pos) t:=fun pins s σ H Q I hw=>BoolOp_one (h pins s σ H Q I hw)
theorem Jvq (ha:PE X a ta) (hb:PE X (.BoolOp .And (b::rest) pos) tb):PE X (.BoolOp .And (a::b::rest) pos) (tAndV ta tb):=by
 intro pins s σ H Q I h
 refine BoolOp_and (thn (ha pins s σ H _ I h) fun v s1 ⟨x,H1,I1,r1,q1⟩=>?_)
 obtain ⟨c,rfl,q1⟩:=q1
 cases r1
 refine wpAny_truthy_bool ?_
 cases c with
 |true=>exact hb pins s1 σ H1 Q I1 q1
 |false=>exact ⟨.bl false,H1,I1,rfl,q1⟩
theorem pe_not (ha:PE X a ta):PE X (.UnaryOp .Not a pos) (tNotV ta):=by
 intro pins s σ H Q I h
 refine UnaryOp_ (thn (ha pins s σ H _ I h) fun v s1 ⟨x,H1,I1,r1,q1⟩=>?_)
 obtain ⟨c,rfl,q1⟩:=q1
 cases r1
 exact not_of (wpAny_truthy_bool ⟨.bl (!c),H1,I1,rfl,q1⟩)
def tIf (t:TT) (ta tb:TE):TE:=fun σ H Q=>t σ H fun c H1=>if c=true then ta σ H1 Q else tb σ H1 Q
theorem Jzj {c:Expr} (hc:PT X c tA) (ha:PE X a ta) (hb:PE X b tb):PE X (.IfExp c a b pos) (tIf tA ta tb):=by
 intro pins s σ H Q I h
 refine wpAny_IfExp (thn (hc pins s σ H _ I h) fun d s1 ⟨H1,I1,q1⟩=>?_)
 cases d with
 |true=>exact ha pins s1 σ H1 Q I1 q1
 |false=>exact hb pins s1 σ H1 Q I1 q1
end
end L2
namespace L2
open PySem PySem.Spec PyProof.Rows
def SqL (K:PySem.W.Frag) (H:Hp) (a:Addr) (xs:List V):Prop:=
 Rd H a (.lst xs)∨
  ∃(o:Obj) (its:Array Value) (n:Nat),K.lookup a=some o∧o.cls= .type "list" ∧o.dict=none∧o.data= .seq its n∧its.size≤sizeLine∧Vals xs its.toList
def SqT (K:PySem.W.Frag) (H:Hp) (a:Addr) (xs:List V):Prop:=
 Rd H a (.tup xs)∨
  ∃(o:Obj) (its:Array Value) (n:Nat),K.lookup a=some o∧o.cls= .type "tuple" ∧o.data= .seq its n∧its.size≤sizeLine∧Vals xs its.toList
def absV:Value→Option V
 | .none=>some .non
 | .bool b=>some (.bl b)
 | .int i _=>some (.int i)
 | .str x _=>some (.str x)
 | .bytes b _=>some (.byt b)
 | .float b _=>some (.flt b)
 | .ref a=>some (.ref a)
 | .type n=>some (.ty n)
 |_=>none
theorem RelV.abs {x:V} {u:Value} (r:RelV x u):absV u=some x:=by
 cases x with
 |non=>cases r;rfl
 |bl _=>cases r;rfl
 |int _=>obtain ⟨t,rfl⟩:=r;rfl
 |str _=>obtain ⟨t,rfl⟩:=r;rfl
 |byt _=>obtain ⟨t,rfl⟩:=r;rfl
 |flt _=>obtain ⟨t,rfl⟩:=r;rfl
 |ref _=>cases r;rfl
 |ty _=>cases r;rfl
theorem RelV.inj {x y:V} {u:Value} (r:RelV x u) (q:RelV y u):x=y:=Option.some.inj (r.abs.symm.trans q.abs)
theorem Vals.inj:∀{xs ys:List V} {us:List Value},Vals xs us→Vals ys us→xs=ys
 |_,_,_,.nil,.nil=>rfl
 |_,_,_,.cons r t,.cons r' t'=>by rw [r.inj r',Vals.inj t t']
section
variable {X:Cx} {pins:List (Addr×Obj)} {σ:St} {H:Hp} {s:Shared} {a:Addr} {xs ys:List V}
theorem SqL.of {K:PySem.W.Frag} (h:H a=some (.lst xs)):SqL K H a xs:=.inl (.inl h)
theorem SqT.of {K:PySem.W.Frag} (h:H a=some (.tup xs)):SqT K H a xs:=.inl (.inl h)
theorem Inv.list (I:Inv X pins σ H s) (h:SqL X.K H a xs):∃its:List Value,Vals xs its∧PlainL s.heap a its.toArray∧xs.length≤sizeLine:=by
 rcases h with h|⟨o,its,n,hk,hc,hd,hs,hz,r⟩
 ·obtain ⟨z,its,n,r,e⟩:=h.ok I.hok
  exact ⟨its,r,⟨_,n,e,rfl,rfl,rfl⟩,z⟩
 ·refine ⟨its.toList,r,⟨o,n,I.kIn a o hk,hc,hd,by simpa using hs⟩,?_⟩
  have e:=r.length
  simp only [Array.length_toList] at e
  omega
theorem Inv.tuple (I:Inv X pins σ H s) (h:SqT X.K H a xs):∃its:List Value,Vals xs its∧IsTup s.heap a its.toArray∧xs.length≤sizeLine:=by
 rcases h with h|⟨o,its,n,hk,hc,hs,hz,r⟩
 ·obtain ⟨z,its,r,p⟩:=h.ok I.hok
  exact ⟨its,r,p,z⟩
 ·refine ⟨its.toList,r,⟨o,I.kIn a o hk,hc,n,by simpa using hs⟩,?_⟩
  have e:=r.length
  simp only [Array.length_toList] at e
  omega
theorem Inv.list_inj (I:Inv X pins σ H s) (h:SqL X.K H a xs) (h':SqL X.K H a ys):xs=ys:=by
 obtain ⟨its,r,⟨o,n,e,_,_,d⟩,_⟩:=I.list h
 obtain ⟨its',r',⟨o',n',e',_,_,d'⟩,_⟩:=I.list h'
 rw [e] at e';cases e'
 rw [d] at d'
 injection d' with d1 _
 have:its=its':=by simpa using congrArg Array.toList d1
 subst this
 exact r.inj r'
theorem Inv.tuple_inj (I:Inv X pins σ H s) (h:SqT X.K H a xs) (h':SqT X.K H a ys):xs=ys:=by
 obtain ⟨its,r,⟨o,e,_,n,d⟩,_⟩:=I.tuple h
 obtain ⟨its',r',⟨o',e',_,n',d'⟩,_⟩:=I.tuple h'
 rw [e] at e';cases e'
 rw [d] at d'
 injection d' with d1 _
 have:its=its':=by simpa using congrArg Array.toList d1
 subst this
 exact r.inj r'
end
abbrev Cx.wish (X:Cx) (E:Value→Shared→Prop):Cx:={X with xe:=E}
abbrev Cx.nox (X:Cx):Cx:=X.wish fun _ _=>False
theorem Cx.Ok.wish {X:Cx} (ok:X.Ok) (E:Value→Shared→Prop):(X.wish E).Ok:=
 ⟨ok.mod,ok.kind,ok.glob,ok.blt,ok.above,ok.inj,ok.has,ok.cab,ok.hd,ok.frames,ok.stk,ok.exf,ok.bs,ok.bsz,ok.noex,ok.exfs,ok.funs,ok.frf⟩
theorem Cx.Ok.unwish {X:Cx} {E:Value→Shared→Prop} (ok:(X.wish E).Ok):X.Ok:=
 ⟨ok.mod,ok.kind,ok.glob,ok.blt,ok.above,ok.inj,ok.has,ok.cab,ok.hd,ok.frames,ok.stk,ok.exf,ok.bs,ok.bsz,ok.noex,ok.exfs,ok.funs,ok.frf⟩
section
variable {X:Cx} {pins:List (Addr×Obj)} {σ:St} {H:Hp} {s:Shared} {E:Value→Shared→Prop}
theorem Inv.wish (I:Inv X pins σ H s) (E:Value→Shared→Prop):Inv (X.wish E) pins σ H s:=⟨I.ok.wish E,I.os,I.bare,I.base,I.loc,I.cell,I.free,I.freeC,I.pin,I.hok,I.len⟩
theorem Inv.unwish (I:Inv (X.wish E) pins σ H s):Inv X pins σ H s:=⟨I.ok.unwish,I.os,I.bare,I.base,I.loc,I.cell,I.free,I.freeC,I.pin,I.hok,I.len⟩
theorem SP.unwish {D:Ends} {f:Flow} {s':Shared} (h:SP (X.wish E) pins D f s'):SP X pins D f s':=by
 cases f with
 |next=>obtain ⟨σ',H',I,q⟩:=h;exact ⟨σ',H',I.unwish,q⟩
 |brk=>obtain ⟨σ',H',I,q⟩:=h;exact ⟨σ',H',I.unwish,q⟩
 |cont=>obtain ⟨σ',H',I,q⟩:=h;exact ⟨σ',H',I.unwish,q⟩
 |ret u=>obtain ⟨v,σ',H',I,r,q⟩:=h;exact ⟨v,σ',H',I.unwish,r,q⟩
theorem PSs.nox {st:List Stmt} {t:TS} (h:PSs X.nox st t):PSs X st t:=fun pins s σ H D I hw=>
 wpAny_mono (h pins s σ H D (I.wish _) hw) (fun _ _ q=>q.unwish) fun _ _ z=>False.elim z
end
section
variable {X:Cx} {st:Stmt} {rest:List Stmt} {t u:TS} {e:Expr} {te:TE} {pos:Pos}
def tNext:TS:=fun D σ H=>D.nx σ H
def tSeq (t u:TS):TS:=fun D σ H=>t {D with nx:=u D} σ H
theorem Jih:PSs X [] tNext:=fun _ _ σ H _ I h=>wpAny_execs_nil ⟨σ,H,I,h⟩
theorem Ji3 (h1:PS X st t) (h2:PSs X rest u):PSs X (st::rest) (tSeq t u):=by
 intro pins s σ H D I h
 refine wpAny_execs_cons (thn (h1 pins s σ H {D with nx:=u D} I h) fun f s1 q=>?_)
 cases f with
 |next=>
  obtain ⟨σ',H',I',q⟩:=q
  exact h2 pins s1 σ' H' D I' q
 |ret v=>exact q
 |brk=>exact q
 |cont=>exact q
theorem Ji4 (h1:PS X st t):PSs X [st] t:=by
 intro pins s σ H D I h
 refine wpAny_execs_cons (thn (h1 pins s σ H D I h) fun f s1 q=>?_)
 cases f with
 |next=>exact wpAny_execs_nil q
 |ret v=>exact q
 |brk=>exact q
 |cont=>exact q
theorem Inv.quiet {pins:List (Addr×Obj)} {σ:St} {H:Hp} {s:Shared} (I:Inv X pins σ H s):interactive X.env=false:=by simp [interactive,I.ok.kind]
def tDrop (te:TE):TS:=fun D σ H=>te σ H fun _ H1=>D.nx σ H1
theorem Jk7 (he:PE X e te) (hs:swapsWith e none pos.line X.env=pure false:=by rfl):PS X (.Expr e pos) (tDrop te):=by
 intro pins s σ H D I h
 exact wpAny_Expr_any (thn (he pins s σ H _ I h) fun v s1 ⟨x,H1,I1,r1,q1⟩=>⟨σ,H1,I1,q1⟩) I.quiet hs
def tRet (te:TE):TS:=fun D σ H=>te σ H D.rt
theorem Jib (he:PE X e te):PS X (.Return (some e) pos) (tRet te):=by
 intro pins s σ H D I h
 exact wpAny_Return_some (thn (he pins s σ H _ I h) fun v s1 ⟨x,H1,I1,r1,q1⟩=>⟨x,σ,H1,I1,r1,q1⟩)
def tIfS (c:TT) (t u:TS):TS:=fun D σ H=>c σ H fun b H1=>if b=true then t D σ H1 else u D σ H1
theorem Jis {c:Expr} {a b:List Stmt} {tc:TT} (hc:PT X c tc) (ha:PSs X a t) (hb:PSs X b u):PS X (.If c a b pos) (tIfS tc t u):=by
 intro pins s σ H D I h
 refine wpAny_If (thn (hc pins s σ H _ I h) fun d s1 ⟨H1,I1,q1⟩=>?_)
 cases d with
 |true=>exact ha pins s1 σ H1 D I1 q1
 |false=>exact hb pins s1 σ H1 D I1 q1
end
abbrev TG:=V→St→Hp→(St→Hp→Prop)→Prop
abbrev TGs:=List V→St→Hp→(St→Hp→Prop)→Prop
def PG (X:Cx) (target:Expr) (t:TG):Prop:=
 ∀(pins:List (Addr×Obj)) (s:Shared) (σ:St) (H:Hp) (v:V) (u:Value) (Q:St→Hp→Prop),Inv X pins σ H s→RelV v u→t v σ H Q→
  wpAny (model X.prog X.w) X.A (assign target X.env u) (fun _ s'=>∃σ' H',Inv X pins σ' H' s'∧Q σ' H') X.xe s
def PGs (X:Cx) (ts:List Expr) (t:TGs):Prop:=
 ∀(pins:List (Addr×Obj)) (s:Shared) (σ:St) (H:Hp) (vs:List V) (us:List Value) (Q:St→Hp→Prop),Inv X pins σ H s→Vals vs us→t vs σ H Q→
  wpAny (model X.prog X.w) X.A (assignInOrder ((assignEach ts X.env).map (·.2)) us) (fun _ s'=>∃σ' H',Inv X pins σ' H' s'∧Q σ' H') X.xe s
abbrev TSet:=V→V→V→Hp→(Hp→Prop)→Prop
def PSet (X:Cx) (t:TSet):Prop:=
 ∀(pins:List (Addr×Obj)) (s:Shared) (σ:St) (H:Hp) (o i v:V) (ov iv u:Value) (Q:Hp→Prop),Inv X pins σ H s→RelV o ov→RelV i iv→RelV v u→t o i v H Q→
  wpAny (model X.prog X.w) X.A (setItem ov iv u) (fun _ s'=>∃H',Inv X pins σ H' s'∧Q H') X.xe s
abbrev TIp:=V→V→Hp→VK→Prop
def PIp (X:Cx) (op:Operator) (t:TIp):Prop:=
 ∀(pins:List (Addr×Obj)) (s:Shared) (σ:St) (H:Hp) (x y:V) (v u:Value) (Q:VK),Inv X pins σ H s→RelV x v→RelV y u→t x y H Q→
  wpAny (model X.prog X.w) X.A (inplaceOp op v u) (EP X pins σ Q) X.xe s
section
variable {X:Cx} {pos:Pos}
def Jmb (i:Nat):TG:=fun v σ H Q=>Q (σ.set i (some v)) H
theorem Jie {i:Nat} {x:Str} (hN:X.N.Nodup) (hi:X.N[i]?=some x) (hx:Loc X.env.scope x) (hf:X.fn x=true∨X.env.scope.names.lookup x=some .local:=by first|exact .inl rfl|exact .inr rfl|assumption):PG X (.Name x pos) (Jmb i):=by
 intro pins s σ H v u Q I r h
 exact wpAny_assign_Name (Jmt I hN hi hx r (fun s' I'=>⟨_,H,I',h⟩) hf)
def gNil:TGs:=fun vs σ H Q=>vs= []∧Q σ H
def Jwn (t:TG) (u:TGs):TGs:=fun vs σ H Q=>∃v r,vs=v::r∧t v σ H fun σ' H'=>u r σ' H' Q
theorem Jmy:PGs X [] gNil:=by
 intro pins s σ H vs us Q I r h
 obtain ⟨e,h⟩:=h
 subst e
 cases r
 exact assignInOrder_nil ⟨σ,H,I,h⟩
theorem Jjj {e:Expr} {es:List Expr} {t:TG} {u:TGs} (h1:PG X e t) (h2:PGs X es u)
  (hs:(assignEach (e::es) X.env).map (·.2)=assign e X.env::(assignEach es X.env).map (·.2):=by rfl):PGs X (e::es) (Jwn t u):=by
 intro pins s σ H vs us Q I r h
 obtain ⟨v,vr,e1,h⟩:=h
 subst e1
 cases r with
 |cons r rr=>
  rw [hs]
  refine assignInOrder_cons (thn (h1 pins s σ H _ _ _ I r h) fun _ s1 ⟨σ1,H1,I1,q1⟩=>?_)
  exact h2 pins s1 σ1 H1 _ _ Q I1 rr q1
def gTup (K:PySem.W.Frag) (n:Nat) (t:TGs):TG:=fun v σ H Q=>∃a xs,v= .ref a∧SqT K H a xs∧xs.length=n∧t xs σ H Q
theorem Jtd {es:List Expr} {k:Nat} {t:TGs} {n:Nat} (hc:X.calm=true) (h:PGs X es t)
  (hn:(assignEach es X.env).length=n:=by rfl) (hst:(assignEach es X.env).findIdx? (·.1)=none:=by rfl):PG X (.Tuple es k pos) (gTup X.K n t):=by
 intro pins s σ H v u Q I r hw
 obtain ⟨a,xs,e1,hq,hl,hw⟩:=hw
 subst e1
 cases r
 obtain ⟨its,rv,ht,hz⟩:=I.tuple hq
 refine assign_Tuple_tuple (I.ok.hd hc) ht (by simp [hn,←hl,rv.length]) hst fun h' hx=>?_
 have I1:Inv X pins σ H {s with heap:=h'}:=I.kept (t':=s.toks) fun b o e=>hx b o (Nat.ne_of_lt (Heap.lt_size e)) e
 exact h pins _ σ H xs _ Q I1 (by simpa using rv) hw
def gSub (to ti:TE) (t:TSet):TG:=fun v σ H Q=>to σ H fun o H1=>ti σ H1 fun i H2=>t o i v H2 fun H3=>Q σ H3
theorem Jvs {o i:Expr} {to ti:TE} {t:TSet} (ho:PE X o to) (hi:PE X i ti) (hs:PSet X t)
  (ha:∀v,assign (.Subscript o i pos) X.env v=(do
   let ov←holding [v] (eval o X.env)
   let iv←holding [v,ov] (eval i X.env)
   standAt pos
   holding [v,ov,iv] (setItem ov iv v)
   release [v,ov,iv] []):=by intro _;rfl):PG X (.Subscript o i pos) (gSub to ti t):=by
 intro pins s σ H v u Q I r h
 rw [ha]
 refine wpAny_bind (wpAny_holding (thn (ho pins s σ H _ I h) fun ov s1 ⟨x,H1,I1,r1,q1⟩=>?_))
 refine wpAny_bind (wpAny_holding (thn (hi pins s1 σ H1 _ I1 q1) fun iv s2 ⟨y,H2,I2,r2,q2⟩=>?_))
 refine wpAny_bind (wpAny_standAt (wpAny_bind (wpAny_holding (thn (hs pins s2 σ H2 x y v ov iv u _ I2 r1 r2 r q2) fun _ s3 ⟨H3,I3,q3⟩=>?_))))
 exact wpAny_release ⟨σ,H3,I3,q3⟩
def tAsg (te:TE) (g:TG):TS:=fun D σ H=>te σ H fun x H1=>g x σ H1 D.nx
theorem Jtf {tg e:Expr} {te:TE} {g:TG} (he:PE X e te) (hg:PG X tg g) (hs:swapsWithSole [tg] e pos.line X.env=pure false:=by rfl) (hw:swappedStores [tg] e X.env=pure none:=by rfl)
  (h1:(assignEach [tg] X.env).map (·.2)= [assign tg X.env]:=by rfl):PS X (.Assign [tg] e pos) (tAsg te g):=by
 intro pins s σ H D I h
 refine wpAny_Assign_stores (thn (he pins s σ H _ I h) fun v s1 ⟨x,H1,I1,r1,q1⟩=>?_) hs hw
 rw [h1]
 exact thn (hg pins s1 σ H1 x v _ I1 r1 q1) fun _ s2 q=>q
theorem Jik {i:Nat} {x:Str} {e:Expr} {te:TE} {pos':Pos} (hN:X.N.Nodup) (hi:X.N[i]?=some x) (hx:Loc X.env.scope x) (he:PE X e te) (hs:swapsWith e (some (.Name x pos')) pos.line X.env=pure false:=by rfl) (hf:X.fn x=true∨X.env.scope.names.lookup x=some .local:=by first|exact .inl rfl|exact .inr rfl|assumption):
  PS X (.Assign [.Name x pos'] e pos) (tAsg te (Jmb i)):=by
 intro pins s σ H D I h
 refine wpAny_Assign_Name (thn (he pins s σ H _ I h) fun v s1 ⟨y,H1,I1,r1,q1⟩=>?_) hs
 exact Jmt I1 hN hi hx r1 (fun s2 I2=>⟨_,H1,I2,q1⟩) hf
def tAug (i:Nat) (te:TE) (ti:TIp):TS:=fun D σ H=>∃x,σ[i]?=some (some x)∧te σ H fun y H1=>ti x y H1 fun z H2=>D.nx (σ.set i (some z)) H2
theorem ps_aug {i:Nat} {x:Str} {e:Expr} {te:TE} {op:Operator} {ti:TIp} {pos':Pos} (hN:X.N.Nodup) (hi:X.N[i]?=some x) (hx:Loc X.env.scope x) (he:PE X e te) (ho:PIp X op ti) (hf:X.fn x=true∨X.env.scope.names.lookup x=some .local:=by first|exact .inl rfl|exact .inr rfl|assumption):
  PS X (.AugAssign (.Name x pos') op e pos) (tAug i te ti):=by
 intro pins s σ H D I h
 obtain ⟨v,e1,h⟩:=h
 obtain ⟨m,hn,hl⟩:=I.loc
 have vis:Vis X.env.scope x:=by rcases hx with k|k;exact .inl k;exact .inr (.inl k)
 obtain ⟨u,r,l⟩:=hl i x v hi e1 vis
 refine wpAny_AugAssign_Name ?_
 have go:wpAny (model X.prog X.w) X.A (eval e X.env) (fun w s₂=>wpAny (model X.prog X.w) X.A (inplaceOp op u w) (fun r s₃=>wpAny (model X.prog X.w) X.A (storeName X.env x r) (fun _=>SP X pins D .next) X.xe s₃) X.xe s₂) X.xe s:=by
  refine thn (he pins s σ H _ I h) fun w s1 ⟨y,H1,I1,r1,q1⟩=>?_
  refine thn (ho pins s1 σ H1 v y u w _ I1 r r1 q1) fun z s2 ⟨zv,H2,I2,r2,q2⟩=>?_
  exact Jmt I2 hN hi hx r2 (fun s3 I3=>⟨_,H2,I3,q2⟩) hf
 rcases l with ⟨hk,hm⟩|⟨hk,c,hc,hcell⟩
 ·exact wpAny_loadName_local I.ok.kind hk hn hm go
 ·rcases hk with hk|hk
  ·exact wpAny_loadName_cell I.ok.kind hk hc hcell go
  ·rcases hx with k|k
   ·have:X.env.scope.names.lookup x=some .free:=hk
    rw [k] at this;cases this
   ·have:X.env.scope.names.lookup x=some .free:=hk
    rw [k] at this;cases this
def ipI (f:Int→Int→Int):TIp:=fun x y H Q=>∃i j,x= .int i∧y= .int j∧Q (.int (f i j)) H
theorem ip_add:PIp X .Add (ipI fun i j=>i+j):=by
 intro pins s σ H x y v u Q I r1 r2 h
 obtain ⟨i,j,e1,e2,q⟩:=h
 subst e1;subst e2
 obtain ⟨t,rfl⟩:=r1
 obtain ⟨t',rfl⟩:=r2
 exact iadd_int ⟨.int _,H,I.tok _,⟨_,rfl⟩,q⟩
end
section
variable {X:Cx} {pos:Pos}
def tWhile (c:TT) (tb:TS):TS:=fun D σ H=>∃W:Nat→St→Hp→Prop,(∃m,W m σ H)∧∀m σ H,W m σ H→
 c σ H fun b H1=>if b=true then ∃N:St→Hp→Prop,(∀σ' H',N σ' H'→∃m',m' < m∧W m' σ' H')∧tb {D with nx:=N,ct:=N,bk:=D.nx} σ H1 else D.nx σ H1
theorem Jug {c:Expr} {body:List Stmt} {tc:TT} {tb:TS} (hp:PassesOwn (model X.prog X.w) X.A X.env X.xe) (hc:PT X c tc) (hb:PSs X body tb):PS X (.While c body [] pos) (tWhile tc tb):=by
 intro pins s σ H D I h
 obtain ⟨W,⟨m0,w0⟩,turn⟩:=h
 refine wpAny_While (codeAny_whileLoop (fun n s'=>∃σ' H',Inv X pins σ' H' s'∧W n σ' H') ?_ m0 ⟨σ,H,I,w0⟩)
 rintro n s1 ⟨σ1,H1,I1,w1⟩
 refine wpAny_passesOwn hp (thn (hc pins s1 σ1 H1 _ I1 (turn n σ1 H1 w1)) fun b s2 ⟨H2,I2,q2⟩=>?_)
 cases b with
 |true=>
  obtain ⟨N,hN,q2⟩:=q2
  rw [if_pos rfl]
  refine wpAny_passesOwn hp (thn (hb pins s2 σ1 H2 _ I2 q2) fun f s3 q3=>?_)
  cases f with
  |next=>
   obtain ⟨σ3,H3,I3,n3⟩:=q3
   obtain ⟨m',hm,w3⟩:=hN σ3 H3 n3
   exact ⟨m',hm,σ3,H3,I3,w3⟩
  |cont=>
   obtain ⟨σ3,H3,I3,n3⟩:=q3
   obtain ⟨m',hm,w3⟩:=hN σ3 H3 n3
   exact ⟨m',hm,σ3,H3,I3,w3⟩
  |brk=>exact q3
  |ret v=>exact q3
 |false=>
  rw [if_neg Bool.false_ne_true]
  exact wpAny_execs_nil ⟨σ1,H2,I2,q2⟩
end
structure It where
 go:Nat→Hp→Prop
 yld:Nat→Hp→V→Hp→Prop
 stop:Nat→Hp→Prop
def Jog (X:Cx) (pins:List (Addr×Obj)) (H:Hp) (b:Addr):Prop:=
 H b=none∧b≠X.env.locals∧b∉X.fs∧(b∈X.ex∨X.s₀.heap.objs.size≤b)∧(∀x c,X.env.cells.lookup x=some c→c≠b)∧∀p∈X.pn++pins,p.1≠b
theorem Inv.fpOk {X:Cx} {pins:List (Addr×Obj)} {σ:St} {H H':Hp} {s:Shared} {b:Addr} (I:Inv X pins σ H s) (hb:s.heap.objs.size≤b) (hn:H' b=none):Jog X pins H' b:=by
 refine ⟨hn,Nat.ne_of_gt (Nat.lt_of_lt_of_le I.lt hb),I.nofs hb,.inr (Nat.le_trans I.sz hb),fun x c e z=>?_,fun p hp z=>?_⟩
 ·obtain ⟨v,q⟩:=I.cell x c e
  exact absurd (Nat.lt_of_lt_of_le q.lt (by rw [z];exact hb)) (Nat.lt_irrefl _)
 ·exact absurd (Nat.lt_of_lt_of_le (Heap.lt_size (I.pin p hp).1) (by rw [z];exact hb)) (Nat.lt_irrefl _)
structure Jpk (P:Program) (w:World) (K:PySem.W.Frag) (tg:Expr) (J:It) (fp:List Addr) (it:Addr) (tn:Nat→Heap→Prop):Prop where
 mem:it∈fp
 obj:∀i h,tn i h→∀b∈fp,∃o,h.get? b=some o∧∀v,o.data≠ .cell v
 keep:∀i h h',tn i h→(∀b∈fp,∀o,h.get? b=some o→h'.get? b=some o)→tn i h'
 item:∀(X:Cx),X.prog=P→X.w=w→X.K=K→X.calm=true→∀(i:Nat) (pins:List (Addr×Obj)) (s:Shared) (σ:St) (H:Hp) (E:Value→Shared→Prop),Inv X pins σ H s→(∀b∈fp,Jog X pins H b)→tn i s.heap→J.go i H→
  wpAny (model P w) X.A (pyNext (.ref it)) (fun r s1=>∃u,r=some u∧
   wpAny (model P w) X.A (letOwnedTupleGo tg (.ref it) u) (fun _ s2=>∃x H',Inv X pins σ H' s2∧RelV x u∧J.yld i H x H'∧tn (i+1) s2.heap∧∀b∈fp,H' b=none) E s1) E s
 done:∀(X:Cx),X.prog=P→X.w=w→X.K=K→X.calm=true→∀(i:Nat) (pins:List (Addr×Obj)) (s:Shared) (σ:St) (H:Hp) (E:Value→Shared→Prop),Inv X pins σ H s→(∀b∈fp,Jog X pins H b)→tn i s.heap→J.stop i H→
  wpAny (model P w) X.A (pyNext (.ref it)) (fun r s1=>r=none∧Inv X pins σ H s1) E s
 self:∀(A:Around) (i:Nat) (s:Shared) (Q:Value→Shared→Prop) (E:Value→Shared→Prop),tn i s.heap→Q (.ref it) s→wpAny (model P w) A (pyIter (.ref it)) Q E s
abbrev TI:=St→Hp→(It→Hp→Prop)→Prop
def PIE (X:Cx) (pins:List (Addr×Obj)) (σ:St) (tg:Expr) (R:It→Hp→Prop) (itv:Value) (s2:Shared):Prop:=
 ∃(it:Addr) (fp:List Addr) (tn:Nat→Heap→Prop) (J:It) (H':Hp),itv= .ref it∧Inv X pins σ H' s2∧Jpk X.prog X.w X.K tg J fp it tn∧tn 0 s2.heap∧(∀b∈fp,Jog X pins H' b)∧R J H'
def PI (X:Cx) (tg iter:Expr) (wi:TI):Prop:=
 ∀(pins:List (Addr×Obj)) (s:Shared) (σ:St) (H:Hp) (R:It→Hp→Prop),Inv X pins σ H s→wi σ H R→
  wpAny (model X.prog X.w) X.A (eval iter X.env) (fun v s1=>wpAny (model X.prog X.w) X.A (pyIter v) (PIE X pins σ tg R) X.xe s1) X.xe s
theorem Jtz {M:Model} {A:Around} {E:Value→Shared→Prop} {s:Shared} {tg:Expr} {it:Addr} {u:Value} {o:Obj} {n:String} {vs:Array Value} {Q:Unit→Shared→Prop} (ho:s.heap.get? it=some o) (hc:o.cls= .type n) (hd:o.data= .fields vs)
  (hn: ["enumerate","zip","dict_itemiterator","dict_reverseitemiterator","odict_iterator","itertools.zip_longest","itertools.pairwise"].contains n=false) (hQ:Q () s):wpAny M A (letOwnedTupleGo tg (.ref it) u) Q E s:=by
 unfold letOwnedTupleGo
 cases tg <;> first
  |exact wpAny_pure hQ
  | (cases u <;> first
    |exact wpAny_pure hQ
    | (refine wpAny_bind (wpAny_load ho ?_)
       rw [hc,hd]
       show wpAny M A (if (["enumerate","zip","dict_itemiterator","dict_reverseitemiterator","odict_iterator","itertools.zip_longest","itertools.pairwise"].contains n&&vs[0]?==some (rawInt _))=true then _ else _) Q E s
       rw [if_neg (by intro h;rw [hn,Bool.false_and] at h;cases h)]
       exact wpAny_pure hQ))
def Itl (K:PySem.W.Frag) (a:Addr):It:=
 ⟨fun i H=>∃xs x,SqL K H a xs∧xs[i]?=some x,fun i H x H'=>H'=H∧∀xs,SqL K H a xs→xs[i]?=some x,fun i H=>∃xs,SqL K H a xs∧xs.length≤i⟩
def Itt (K:PySem.W.Frag) (a:Addr):It:=
 ⟨fun i H=>∃xs x,SqT K H a xs∧xs[i]?=some x,fun i H x H'=>H'=H∧∀xs,SqT K H a xs→xs[i]?=some x,fun i H=>∃xs,SqT K H a xs∧xs.length≤i⟩
def Itr (lo:Int) (n:Nat):It:=⟨fun i _=>i < n,fun i H x H'=>H'=H∧x= .int (lo+i),fun i _=>n≤i⟩
theorem Jsh {P:Program} {w:World} {K:PySem.W.Frag} {tg:Expr} (a it:Addr):Jpk P w K tg (Itl K a) [it] it (fun i h=>h.IsListIter it a i) where
 mem:=by simp
 obj:=fun i h st b hb=>by
  have e:b=it:=by simpa using hb
  subst e
  obtain ⟨o,e,c,d⟩:=st
  exact ⟨o,e,fun v z=>by rw [d] at z;cases z⟩
 keep:=fun i h h' st k=>st.at fun o e=>k it (by simp) o e
 item:=by
  intro X hP hw hK hc i pins s σ H E I hf st hg
  subst hP hw hK
  obtain ⟨xs,x,hq,hx⟩:=hg
  obtain ⟨its,rv,p,hz⟩:=I.list hq
  obtain ⟨u,hu,ru⟩:=rv.get hx
  obtain ⟨f0,f1,f2,f3,f4,f5⟩:=hf it (by simp)
  refine wpAny_pyNext_list_item st p.isList (x:=u) (by simpa using hu) fun h' st' sb=>?_
  have I1:Inv X pins σ H {s with heap:=h'}:=I.turned (t':=s.toks) (fun b o hb e=>(sb.2 b hb).trans e) f0 f1 f3 f4 f5
  obtain ⟨o,e,c,d⟩:=id st'
  exact ⟨u,rfl,Jtz (s:={s with heap:=h'}) e c d (by decide) ⟨x,H,I1,ru,⟨rfl,fun ys hy=>by rw [I.list_inj hy hq];exact hx⟩,st',fun b hb=>(hf b hb).1⟩⟩
 done:=by
  intro X hP hw hK hc i pins s σ H E I hf st hg
  subst hP hw hK
  obtain ⟨xs,hq,hx⟩:=hg
  obtain ⟨its,rv,p,hz⟩:=I.list hq
  obtain ⟨f0,f1,f2,f3,f4,f5⟩:=hf it (by simp)
  have hl:=rv.length
  exact wpAny_pyNext_list_end (I.ok.hd hc) st p.isList (by simp;omega) fun h' eb=>⟨rfl,I.turned (t':=s.toks) (fun b o hb e=>eb b o hb e) f0 f1 f3 f4 f5⟩
 self:=fun _ _ _ _ _ st h=>wpAny_pyIter_listiter st h
theorem Jr0 {P:Program} {w:World} {K:PySem.W.Frag} {tg:Expr} (a it:Addr):Jpk P w K tg (Itt K a) [it] it (fun i h=>h.IsTupleIter it a i) where
 mem:=by simp
 obj:=fun i h st b hb=>by
  have e:b=it:=by simpa using hb
  subst e
  obtain ⟨o,e,c,d⟩:=st
  exact ⟨o,e,fun v z=>by rw [d] at z;cases z⟩
 keep:=fun i h h' st k=>st.at fun o e=>k it (by simp) o e
 item:=by
  intro X hP hw hK hc i pins s σ H E I hf st hg
  subst hP hw hK
  obtain ⟨xs,x,hq,hx⟩:=hg
  obtain ⟨its,rv,p,hz⟩:=I.tuple hq
  obtain ⟨u,hu,ru⟩:=rv.get hx
  obtain ⟨f0,f1,f2,f3,f4,f5⟩:=hf it (by simp)
  refine wpAny_pyNext_tuple_item st (show s.heap.IsTuple a its.toArray from p) (x:=u) (by simpa using hu) fun h' st' sb=>?_
  have I1:Inv X pins σ H {s with heap:=h'}:=I.turned (t':=s.toks) (fun b o hb e=>(sb.2 b hb).trans e) f0 f1 f3 f4 f5
  obtain ⟨o,e,c,d⟩:=id st'
  exact ⟨u,rfl,Jtz (s:={s with heap:=h'}) e c d (by decide) ⟨x,H,I1,ru,⟨rfl,fun ys hy=>by rw [I.tuple_inj hy hq];exact hx⟩,st',fun b hb=>(hf b hb).1⟩⟩
 done:=by
  intro X hP hw hK hc i pins s σ H E I hf st hg
  subst hP hw hK
  obtain ⟨xs,hq,hx⟩:=hg
  obtain ⟨its,rv,p,hz⟩:=I.tuple hq
  obtain ⟨f0,f1,f2,f3,f4,f5⟩:=hf it (by simp)
  have hl:=rv.length
  exact wpAny_pyNext_tuple_end (I.ok.hd hc) st (show s.heap.IsTuple a its.toArray from p) (by simp;omega) fun h' eb=>⟨rfl,I.turned (t':=s.toks) (fun b o hb e=>eb b o hb e) f0 f1 f3 f4 f5⟩
 self:=fun _ _ _ _ _ st h=>wpAny_pyIter_tupleiter st h
theorem Jw7 {P:Program} {w:World} {K:PySem.W.Frag} {tg:Expr} (it:Addr) (lo:Int) (n:Nat):Jpk P w K tg (Itr lo n) [it] it (fun i h=>IsRangeIter h it (lo+(i:Nat)*1) ((n:Int) - (i:Nat)) 1) where
 mem:=by simp
 obj:=fun i h st b hb=>by
  have e:b=it:=by simpa using hb
  subst e
  exact ⟨_,st,fun v z=>by
   have z':Data.fields _=Data.cell v:=z
   cases z'⟩
 keep:=fun i h h' st k=>k it (by simp) _ st
 item:=by
  intro X hP hw hK hc i pins s σ H E I hf st hg
  subst hP hw hK
  obtain ⟨f0,f1,f2,f3,f4,f5⟩:=hf it (by simp)
  have W:=Walks.range (prog:=X.prog) (w:=X.w) (I.ok.hd hc) it lo 1 n
  refine W.item i s _ _ hg st fun v h' tk hv st' kk=>?_
  obtain ⟨t,rfl⟩:=hv
  have I1:Inv X pins σ H {s with heap:=h',toks:=tk}:=I.turned (fun b o hb e=>kk b o (by simpa using hb) e) f0 f1 f3 f4 f5
  refine ⟨_,rfl,Jtz (s:={s with heap:=h',toks:=tk}) (n:="range_iterator") st' rfl rfl (by decide) ⟨.int (lo+i),H,I1,⟨t,?_⟩,⟨rfl,rfl⟩,st',fun b hb=>(hf b hb).1⟩⟩
  rw [Int.mul_one]
 done:=by
  intro X hP hw hK hc i pins s σ H E I hf st hg
  subst hP hw hK
  obtain ⟨f0,f1,f2,f3,f4,f5⟩:=hf it (by simp)
  exact wpAny_pyNext_range_end (I.ok.hd hc) st (by have:n≤i:=hg;omega) fun h' eb=>⟨rfl,I.turned (t':=s.toks) (fun b o hb e=>eb b o hb e) f0 f1 f3 f4 f5⟩
 self:=fun _ _ _ _ _ st h=>wpAny_pyIter_rangeiter st h
end L2
namespace L2
open PySem PySem.Spec PyProof.Rows
section
variable {X:Cx} {tg:Expr}
def iList (K:PySem.W.Frag) (tl:TE):TI:=fun σ H R=>tl σ H fun x H1=>∃a,x= .ref a∧(∃xs,SqL K H1 a xs)∧R (Itl K a) H1
def iTup (K:PySem.W.Frag) (tl:TE):TI:=fun σ H R=>tl σ H fun x H1=>∃a,x= .ref a∧(∃xs,SqT K H1 a xs)∧R (Itt K a) H1
theorem Jj7 {l:Expr} {tl:TE} (hl:PE X l tl):PI X tg l (iList X.K tl):=by
 intro pins s σ H R I h
 refine thn (hl pins s σ H _ I h) fun v s1 ⟨x,H1,I1,r1,q1⟩=>?_
 obtain ⟨a,e,⟨xs,hq⟩,q⟩:=q1
 subst e
 cases r1
 obtain ⟨its,rv,p,hz⟩:=I1.list hq
 refine wpAny_pyIter_list p.isList ?_
 refine ⟨s1.heap.objs.size,[s1.heap.objs.size],_,_,H1,rfl,I1.kept (t':=s1.toks) fun b o e=>Heap.get?_push_of_some _ e,Jsh a _,⟨_,Heap.get?_push_size _ rfl,rfl,rfl⟩,fun b hb=>?_,q⟩
 have e:b=s1.heap.objs.size:=by simpa using hb
 subst e
 exact I1.fpOk (Nat.le_refl _) (I1.hok.fresh (Nat.le_refl _))
theorem pi_tup {l:Expr} {tl:TE} (hl:PE X l tl):PI X tg l (iTup X.K tl):=by
 intro pins s σ H R I h
 refine thn (hl pins s σ H _ I h) fun v s1 ⟨x,H1,I1,r1,q1⟩=>?_
 obtain ⟨a,e,⟨xs,hq⟩,q⟩:=q1
 subst e
 cases r1
 obtain ⟨its,rv,p,hz⟩:=I1.tuple hq
 refine wpAny_pyIter_tuple (show s1.heap.IsTuple a its.toArray from p) ?_
 refine ⟨s1.heap.objs.size,[s1.heap.objs.size],_,_,H1,rfl,I1.kept (t':=s1.toks) fun b o e=>Heap.get?_push_of_some _ e,Jr0 a _,⟨_,Heap.get?_push_size _ rfl,rfl,rfl⟩,fun b hb=>?_,q⟩
 have e:b=s1.heap.objs.size:=by simpa using hb
 subst e
 exact I1.fpOk (Nat.le_refl _) (I1.hok.fresh (Nat.le_refl _))
theorem Juh {pins:List (Addr×Obj)} {σ:St} {H:Hp} {s:Shared} {R:It→Hp→Prop} {E:Value→Shared→Prop} {lo hi:Int} {t u v:Tok} {tk:Nat} (I:Inv X pins σ H s) (h1: -(2^62)≤lo) (h2:lo < 2^62) (h3: -(2^62)≤hi) (h4:hi < 2^62)
  (q:R (Itr lo (hi - lo).toNat) H):wpAny (model X.prog X.w) X.A (pyIter (.ref s.heap.objs.size)) (PIE X pins σ tg R) E {s with heap:=s.heap.push {cls:=.type "range",data:=.fields #[.int lo t,.int hi u,.int 1 v]},toks:=tk}:=by
 refine wpAny_pyIter_range (IsRange.new ..) (small_one h1 h2 h3 h4) ?_
 have I1:Inv X pins σ H {s with heap:=s.heap.push {cls:=.type "range",data:=.fields #[.int lo t,.int hi u,.int 1 v]},toks:=tk}:=I.kept fun b o e=>Heap.get?_push_of_some _ e
 refine ⟨(s.heap.push {cls:=.type "range",data:=.fields #[.int lo t,.int hi u,.int 1 v]}).objs.size,[(s.heap.push {cls:=.type "range",data:=.fields #[.int lo t,.int hi u,.int 1 v]}).objs.size],_,_,H,rfl,
  I1.kept (t':=tk) fun b o e=>Heap.get?_push_of_some _ e,Jw7 _ lo (hi - lo).toNat,?_,fun b hb=>?_,q⟩
 ·have e1:lo+((0:Nat):Int)*1=lo:=by simp
  have e2:(((hi - lo).toNat:Nat):Int) - ((0:Nat):Int)=Builtin.Range.rangeSize lo hi 1:=by rw [rangeSize_one];split <;> omega
  show IsRangeIter _ _ (lo+((0:Nat):Int)*1) ((((hi - lo).toNat:Nat):Int) - ((0:Nat):Int)) 1
  rw [e1,e2]
  exact Heap.get?_push_size _ rfl
 ·have e:b=(s.heap.push {cls:=.type "range",data:=.fields #[.int lo t,.int hi u,.int 1 v]}).objs.size:=by simpa using hb
  subst e
  exact I1.fpOk (Nat.le_refl _) (I1.hok.fresh (Nat.le_refl _))
def iRng1 (ta:TA):TI:=fun σ H R=>ta σ H fun vs H1=>∃j:Int,vs= [.int j]∧ -(2^62)≤j∧j < 2^62∧R (Itr 0 j.toNat) H1
def iRng2 (ta:TA):TI:=fun σ H R=>ta σ H fun vs H1=>∃i j:Int,vs= [.int i,.int j]∧(-(2^62)≤i∧i < 2^62∧ -(2^62)≤j∧j < 2^62)∧R (Itr i (j - i).toNat) H1
theorem Jix {a:Expr} {ta:TA} {p pos:Pos} (hg:Gl X "range") (hm:X.mg "range" =none) (ha:PA X [a] ta) (hs:starEach [a] X.env= [(false,eval a X.env)]:=by rfl):PI X tg (.Call (.Name "range" p) [a] [] pos) (iRng1 ta):=by
 intro pins s σ H R I h
 refine Call_ (Jmc I hg hm boot_range (PyProof.Rows.callWith_type1 (thn (ha pos pins s σ H _ I h) fun us s1 ⟨vs,H1,I1,r1,q1⟩=>?_) hs rfl))
 obtain ⟨j,e,q1,q2,q⟩:=q1
 subst e
 cases r1 with
 |cons r rr=>
  cases rr
  obtain ⟨t,rfl⟩:=r
  exact call_range_1 (Juh I1 (by omega) (by omega) q1 q2 (by simpa using q))
theorem Jxs {a b:Expr} {ta:TA} {p pos:Pos} (hg:Gl X "range") (hm:X.mg "range" =none) (ha:PA X [a,b] ta) (hs:starEach [a,b] X.env= [(false,eval a X.env),(false,eval b X.env)]:=by rfl) (hs2:starEach [b] X.env= [(false,eval b X.env)]:=by rfl):
  PI X tg (.Call (.Name "range" p) [a,b] [] pos) (iRng2 ta):=by
 intro pins s σ H R I h
 refine Call_ (Jmc I hg hm boot_range (PyProof.Rows.callWith_type1 (thn (ha pos pins s σ H _ I h) fun us s1 ⟨vs,H1,I1,r1,q1⟩=>?_) (by rw [hs,hs2]) (by rw [hs2];rfl)))
 obtain ⟨i,j,e,⟨q1,q2,q3,q4⟩,q⟩:=q1
 subst e
 cases r1 with
 |cons r rr=>
  cases rr with
  |cons r' rr=>
   cases rr
   obtain ⟨t,rfl⟩:=r
   obtain ⟨t',rfl⟩:=r'
   exact call_range_2 (Juh I1 q1 q2 q3 q4 q)
def tFor (wi:TI) (g:TG) (tb:TS):TS:=fun D σ H=>wi σ H fun J H1=>∃W:Nat→Nat→St→Hp→Prop,(∃m,W 0 m σ H1)∧∀i m σ H,W i m σ H→
 (J.stop i H∧D.nx σ H)∨(J.go i H∧∃N:St→Hp→Prop,(∀σ' H',N σ' H'→∃m',m' < m∧W (i+1) m' σ' H')∧∀x H',J.yld i H x H'→g x σ H' fun σ2 H2=>tb {D with nx:=N,ct:=N,bk:=D.nx} σ2 H2)
def Jqp (fp:List Addr) (h:Heap):List (Addr×Obj):=fp.filterMap fun b=>(h.get? b).map fun o=>(b,o)
theorem Jm2 {fp:List Addr} {h:Heap} {b:Addr} {o:Obj} (hb:b∈fp) (e:h.get? b=some o):(b,o)∈Jqp fp h:=List.mem_filterMap.mpr ⟨b,hb,by rw [e];rfl⟩
theorem Jxo {fp:List Addr} {h:Heap} {p:Addr×Obj} (hp:p∈Jqp fp h):p.1∈fp∧h.get? p.1=some p.2:=by
 obtain ⟨b,hb,e⟩:=List.mem_filterMap.mp hp
 cases q:h.get? b with
 |none=>rw [q] at e;cases e
 |some o=>
  rw [q] at e
  have e':(b,o)=p:=Option.some.inj e
  subst e'
  exact ⟨hb,q⟩
theorem Inv.pinned {pins:List (Addr×Obj)} {σ:St} {H:Hp} {s:Shared} {fp:List Addr} (I:Inv X pins σ H s) (hf:∀b∈fp,Jog X pins H b) (ho:∀b∈fp,∃o,s.heap.get? b=some o∧∀v,o.data≠ .cell v):Inv X (pins++Jqp fp s.heap) σ H s:=
 I.pins_of fun p hp=>(List.mem_append.mp hp).elim (fun z=>I.pin p (List.mem_append_right _ z)) fun z=>by
  obtain ⟨hb,e⟩:=Jxo z
  obtain ⟨f0,f1,f2,_⟩:=hf p.1 hb
  obtain ⟨o,e',d⟩:=ho p.1 hb
  rw [e] at e';cases e'
  exact ⟨e,f0,f1,f2,d⟩
theorem Inv.unpinned {pins pl:List (Addr×Obj)} {σ:St} {H:Hp} {s:Shared} (I:Inv X (pins++pl) σ H s):Inv X pins σ H s:=I.pins_of fun p hp=>I.pin p (List.mem_append_right _ (List.mem_append_left _ hp))
theorem Jk2 {iter:Expr} {body:List Stmt} {wi:TI} {g:TG} {tb:TS} {pos:Pos} (hp:PassesOwn (model X.prog X.w) X.A X.env X.xe) (hc:X.calm=true) (hi:PI X tg iter wi) (hg:PG X tg g) (hb:PSs X body tb)
  (hs:∀x,foldedSetIterable iter X.env x=pure x:=by intro _;rfl):PS X (.For tg iter body [] pos) (tFor wi g tb):=by
 intro pins s σ H D I h
 refine wpAny_For (thn (hi pins s σ H _ I h) fun v s1 h1=>thn h1 fun itv s2 h2=>?_) hs
 obtain ⟨it,fp,tn,J,H2,e,I2,T,st2,f2,W,⟨m0,w0⟩,turn⟩:=h2
 subst e
 have stat:∀{H':Hp},(∀b∈fp,H' b=none)→∀b∈fp,Jog X pins H' b:=fun hn b hb=>⟨hn b hb,(f2 b hb).2⟩
 refine codeAny_forLoop_any (fun n s'=>∃i σ' H',Inv X pins σ' H' s'∧tn i s'.heap∧(∀b∈fp,H' b=none)∧W i n σ' H') ?_ m0 ⟨0,σ,H2,I2,st2,fun b hb=>(f2 b hb).1,w0⟩
 rintro n s3 ⟨i,σ3,H3,I3,st3,fr3,w3⟩
 rcases turn i n σ3 H3 w3 with ⟨stop,qn⟩|⟨go,N,hN,step⟩
 ·refine wpAny_passesOwn hp (thn (T.done X rfl rfl rfl hc i pins s3 σ3 H3 X.xe I3 (stat fr3) st3 stop) fun r s4 ⟨hr,I4⟩=>?_)
  subst hr
  exact wpAny_execs_nil ⟨σ3,H3,I4,qn⟩
 ·refine wpAny_passesOwn hp (thn (T.item X rfl rfl rfl hc i pins s3 σ3 H3 X.xe I3 (stat fr3) st3 go) fun r s4 ⟨u,hr,h4⟩=>?_)
  subst hr
  refine wpAny_passesOwn hp (thn h4 fun _ s5 ⟨x,H5,I5,r5,y5,st5,fr5⟩=>?_)
  have I5':=I5.pinned (stat fr5) (T.obj _ _ st5)
  refine wpAny_passesOwn hp (thn (hg _ s5 σ3 H5 x u _ I5' r5 (step x H5 y5)) fun _ s6 ⟨σ6,H6,I6,q6⟩=>?_)
  refine wpAny_passesOwn hp (thn (hb _ s6 σ6 H6 _ I6 q6) fun f s7 q7=>?_)
  have again:∀{σ7:St} {H7:Hp},Inv X (pins++Jqp fp s5.heap) σ7 H7 s7→N σ7 H7→∃m,m < n∧∃i σ' H',Inv X pins σ' H' s7∧tn i s7.heap∧(∀b∈fp,H' b=none)∧W i m σ' H':=fun {σ7 H7} I7 n7=>by
   obtain ⟨m',hm,w7⟩:=hN σ7 H7 n7
   refine ⟨m',hm,i+1,σ7,H7,I7.unpinned,T.keep _ _ _ st5 fun b hb o e=>(I7.pin (b,o) (List.mem_append_right _ (List.mem_append_right _ (Jm2 hb e)))).1,fun b hb=>?_,w7⟩
   obtain ⟨o,e,d⟩:=T.obj _ _ st5 b hb
   exact (I7.pin (b,o) (List.mem_append_right _ (List.mem_append_right _ (Jm2 hb e)))).2.1
  cases f with
  |next=>obtain ⟨σ7,H7,I7,n7⟩:=q7;exact again I7 n7
  |cont=>obtain ⟨σ7,H7,I7,n7⟩:=q7;exact again I7 n7
  |brk=>obtain ⟨σ7,H7,I7,q7⟩:=q7;exact ⟨σ7,H7,I7.unpinned,q7⟩
  |ret v=>obtain ⟨x7,σ7,H7,I7,r7,q7⟩:=q7;exact ⟨x7,σ7,H7,I7.unpinned,r7,q7⟩
end
theorem Jma {K:PySem.W.Frag} {a:Addr} {xs:List V} {g:TG} {tb:TS} {D:Ends} {σ:St} {H:Hp} (Pv:Nat→St→Hp→Prop) (h0:Pv 0 σ H) (hl:∀i σ H,i≤xs.length→Pv i σ H→SqL K H a xs)
  (hs:∀i x σ H,xs[i]?=some x→Pv i σ H→g x σ H fun σ2 H2=>tb {D with nx:=Pv (i+1),ct:=Pv (i+1),bk:=D.nx} σ2 H2) (hd:∀σ H,Pv xs.length σ H→D.nx σ H):
  ∃W:Nat→Nat→St→Hp→Prop,(∃m,W 0 m σ H)∧∀i m σ H,W i m σ H→
   ((Itl K a).stop i H∧D.nx σ H)∨((Itl K a).go i H∧∃N:St→Hp→Prop,(∀σ' H',N σ' H'→∃m',m' < m∧W (i+1) m' σ' H')∧∀x H',(Itl K a).yld i H x H'→g x σ H' fun σ2 H2=>tb {D with nx:=N,ct:=N,bk:=D.nx} σ2 H2):=by
 refine ⟨fun i m σ H=>m=xs.length - i∧i≤xs.length∧Pv i σ H,⟨xs.length,by simp,Nat.zero_le _,h0⟩,?_⟩
 rintro i m σ H ⟨rfl,hi,p⟩
 have q:=hl i σ H hi p
 by_cases hlt:i < xs.length
 ·refine .inr ⟨⟨xs,xs[i],q,by simp [hlt]⟩,Pv (i+1),fun σ' H' p'=>⟨xs.length - (i+1),by omega,rfl,hlt,p'⟩,fun x H' y=>?_⟩
  obtain ⟨e,y⟩:=y
  subst e
  exact hs i x σ _ (y xs q) p
 ·have e:i=xs.length:=by omega
  subst e
  exact .inl ⟨⟨xs,q,Nat.le_refl _⟩,hd σ H p⟩
theorem Yz {K:PySem.W.Frag} {a:Addr} {xs:List V} {g:TG} {tb:TS} {D:Ends} {σ:St} {H:Hp} (Pv:Nat→St→Hp→Prop) (h0:Pv 0 σ H) (hl:∀i σ H,i≤xs.length→Pv i σ H→SqT K H a xs)
  (hs:∀i x σ H,xs[i]?=some x→Pv i σ H→g x σ H fun σ2 H2=>tb {D with nx:=Pv (i+1),ct:=Pv (i+1),bk:=D.nx} σ2 H2) (hd:∀σ H,Pv xs.length σ H→D.nx σ H):
  ∃W:Nat→Nat→St→Hp→Prop,(∃m,W 0 m σ H)∧∀i m σ H,W i m σ H→
   ((Itt K a).stop i H∧D.nx σ H)∨((Itt K a).go i H∧∃N:St→Hp→Prop,(∀σ' H',N σ' H'→∃m',m' < m∧W (i+1) m' σ' H')∧∀x H',(Itt K a).yld i H x H'→g x σ H' fun σ2 H2=>tb {D with nx:=N,ct:=N,bk:=D.nx} σ2 H2):=by
 refine ⟨fun i m σ H=>m=xs.length - i∧i≤xs.length∧Pv i σ H,⟨xs.length,by simp,Nat.zero_le _,h0⟩,?_⟩
 rintro i m σ H ⟨rfl,hi,p⟩
 have q:=hl i σ H hi p
 by_cases hlt:i < xs.length
 ·refine .inr ⟨⟨xs,xs[i],q,by simp [hlt]⟩,Pv (i+1),fun σ' H' p'=>⟨xs.length - (i+1),by omega,rfl,hlt,p'⟩,fun x H' y=>?_⟩
  obtain ⟨e,y⟩:=y
  subst e
  exact hs i x σ _ (y xs q) p
 ·have e:i=xs.length:=by omega
  subst e
  exact .inl ⟨⟨xs,q,Nat.le_refl _⟩,hd σ H p⟩
theorem Jjw {lo:Int} {n:Nat} {g:TG} {tb:TS} {D:Ends} {σ:St} {H:Hp} (Pv:Nat→St→Hp→Prop) (h0:Pv 0 σ H)
  (hs:∀i σ H,i < n→Pv i σ H→g (.int (lo+i)) σ H fun σ2 H2=>tb {D with nx:=Pv (i+1),ct:=Pv (i+1),bk:=D.nx} σ2 H2) (hd:∀σ H,Pv n σ H→D.nx σ H):
  ∃W:Nat→Nat→St→Hp→Prop,(∃m,W 0 m σ H)∧∀i m σ H,W i m σ H→
   ((Itr lo n).stop i H∧D.nx σ H)∨((Itr lo n).go i H∧∃N:St→Hp→Prop,(∀σ' H',N σ' H'→∃m',m' < m∧W (i+1) m' σ' H')∧∀x H',(Itr lo n).yld i H x H'→g x σ H' fun σ2 H2=>tb {D with nx:=N,ct:=N,bk:=D.nx} σ2 H2):=by
 refine ⟨fun i m σ H=>m=n - i∧i≤n∧Pv i σ H,⟨n,by simp,Nat.zero_le _,h0⟩,?_⟩
 rintro i m σ H ⟨rfl,hi,p⟩
 by_cases hlt:i < n
 ·refine .inr ⟨hlt,Pv (i+1),fun σ' H' p'=>⟨n - (i+1),by omega,rfl,hlt,p'⟩,fun x H' y=>?_⟩
  obtain ⟨e,y⟩:=y
  subst e y
  exact hs i σ _ hlt p
 ·have e:i=n:=by omega
  subst e
  exact .inl ⟨Nat.le_refl _,hd σ H p⟩
end L2
namespace L2
open PySem PySem.Spec PyProof.Rows
abbrev R2:=V→V→Hp→VK→Prop
def OpR (X:Cx) (f:Value→Value→Sem Value) (r:R2):Prop:=
 ∀(pins:List (Addr×Obj)) (s:Shared) (σ:St) (H:Hp) (x y:V) (v u:Value) (Q:VK),Inv X pins σ H s→RelV x v→RelV y u→r x y H Q→
  wpAny (model X.prog X.w) X.A (f v u) (EP X pins σ Q) X.xe s
def UnR (X:Cx) (f:Value→Sem Value) (r:V→Hp→VK→Prop):Prop:=
 ∀(pins:List (Addr×Obj)) (s:Shared) (σ:St) (H:Hp) (x:V) (v:Value) (Q:VK),Inv X pins σ H s→RelV x v→r x H Q→
  wpAny (model X.prog X.w) X.A (f v) (EP X pins σ Q) X.xe s
def Jk3 (X:Cx) (f:Value) (r:List V→Hp→VK→Prop):Prop:=
 ∀(pins:List (Addr×Obj)) (s:Shared) (σ:St) (H:Hp) (xs:List V) (us:List Value) (Q:VK),Inv X pins σ H s→Vals xs us→r xs H Q→
  wpAny (model X.prog X.w) X.A (call f us) (EP X pins σ Q) X.xe s
def TruR (X:Cx) (r:V→Hp→(Bool→Hp→Prop)→Prop):Prop:=
 ∀(pins:List (Addr×Obj)) (s:Shared) (σ:St) (H:Hp) (x:V) (v:Value) (Q:Bool→Hp→Prop),Inv X pins σ H s→RelV x v→r x H Q→
  wpAny (model X.prog X.w) X.A (truthy v) (TP X pins σ Q) X.xe s
def tOp (r:R2) (ta tb:TE):TE:=fun σ H Q=>ta σ H fun x H1=>tb σ H1 fun y H2=>r x y H2 Q
def tUn (r:V→Hp→VK→Prop) (ta:TE):TE:=fun σ H Q=>ta σ H fun x H1=>r x H1 Q
def rI (C:Int→Int→Prop) (g:Int→Int→V):R2:=fun x y H Q=>∃i j,x= .int i∧y= .int j∧C i j∧Q (g i j) H
def rI0 (g:Int→Int→V):R2:=fun x y H Q=>∃i j,x= .int i∧y= .int j∧Q (g i j) H
def rU (g:Int→V):V→Hp→VK→Prop:=fun x H Q=>∃i,x= .int i∧Q (g i) H
section
variable {X:Cx} {a b c:Expr} {ta tb tc:TE} {pos:Pos}
theorem binT (ha:PE X a ta) (hb:PE X b tb) {pins:List (Addr×Obj)} {s:Shared} {σ:St} {H:Hp} {R:V→V→Hp→Prop} (I:Inv X pins σ H s)
  (h:ta σ H fun x H1=>tb σ H1 fun y H2=>R x y H2) {Q:Value→Shared→Prop} {f:Value→Value→Sem Value}
  (hf:∀v u s2 x y H2,Inv X pins σ H2 s2→RelV x v→RelV y u→R x y H2→wpAny (model X.prog X.w) X.A (f v u) Q X.xe s2):
  wpAny (model X.prog X.w) X.A (eval a X.env) (fun v s₁=>wpAny (model X.prog X.w) X.A (eval b X.env) (fun u s₂=>wpAny (model X.prog X.w) X.A (f v u) Q X.xe s₂) X.xe s₁) X.xe s:=by
 refine thn (ha pins s σ H _ I h) fun v s1 ⟨x,H1,I1,r1,q1⟩=>?_
 refine thn (hb pins s1 σ H1 _ I1 q1) fun u s2 ⟨y,H2,I2,r2,q2⟩=>?_
 exact hf v u s2 x y H2 I2 r1 r2 q2
theorem Jig {op:Operator} {r:R2} (ho:OpR X (binaryOp op) r) (ha:PE X a ta) (hb:PE X b tb):PE X (.BinOp a op b pos) (tOp r ta tb):=by
 intro pins s σ H Q I h
 exact wpAny_BinOp (binT ha hb I h fun v u s2 x y H2 I2 rx ry q=>ho pins s2 σ H2 x y v u Q I2 rx ry q)
theorem Jsb {op:UnaryOp} {r:V→Hp→VK→Prop} (ho:UnR X (unaryOp op) r) (ha:PE X a ta):PE X (.UnaryOp op a pos) (tUn r ta):=by
 intro pins s σ H Q I h
 exact UnaryOp_ (thn (ha pins s σ H _ I h) fun v s1 ⟨x,H1,I1,r1,q1⟩=>ho pins s1 σ H1 x v Q I1 r1 q1)
theorem opI {f:Value→Value→Sem Value} {C:Int→Int→Prop} {g:Int→Int→Int}
  (rule:∀(i j:Int) (t u:Tok) (s:Shared) (Q:Value→Shared→Prop) (E:Value→Shared→Prop),C i j→Q (.int (g i j) s.toks) {s with toks:=s.toks+1}→wpAny (model X.prog X.w) X.A (f (.int i t) (.int j u)) Q E s):
  OpR X f (rI C fun i j=>.int (g i j)):=by
 intro pins s σ H x y v u Q I rx ry h
 obtain ⟨i,j,rfl,rfl,hc,q⟩:=h
 obtain ⟨t,rfl⟩:=rx
 obtain ⟨t',rfl⟩:=ry
 exact rule i j t t' s _ _ hc ⟨.int (g i j),H,I.tok _,⟨_,rfl⟩,q⟩
theorem opI0 {f:Value→Value→Sem Value} {g:Int→Int→Int}
  (rule:∀(i j:Int) (t u:Tok) (s:Shared) (Q:Value→Shared→Prop) (E:Value→Shared→Prop),Q (.int (g i j) s.toks) {s with toks:=s.toks+1}→wpAny (model X.prog X.w) X.A (f (.int i t) (.int j u)) Q E s):
  OpR X f (rI0 fun i j=>.int (g i j)):=by
 intro pins s σ H x y v u Q I rx ry h
 obtain ⟨i,j,rfl,rfl,q⟩:=h
 obtain ⟨t,rfl⟩:=rx
 obtain ⟨t',rfl⟩:=ry
 exact rule i j t t' s _ _ ⟨.int (g i j),H,I.tok _,⟨_,rfl⟩,q⟩
theorem opB0 {f:Value→Value→Sem Value} {g:Int→Int→Bool}
  (rule:∀(i j:Int) (t u:Tok) (s:Shared) (Q:Value→Shared→Prop) (E:Value→Shared→Prop),Q (.bool (g i j)) s→wpAny (model X.prog X.w) X.A (f (.int i t) (.int j u)) Q E s):
  OpR X f (rI0 fun i j=>.bl (g i j)):=by
 intro pins s σ H x y v u Q I rx ry h
 obtain ⟨i,j,rfl,rfl,q⟩:=h
 obtain ⟨t,rfl⟩:=rx
 obtain ⟨t',rfl⟩:=ry
 exact rule i j t t' s _ _ ⟨.bl (g i j),H,I,rfl,q⟩
def CPow (i j:Int):Prop:=0≤j∧j≤1000000∧i.natAbs < 2^64
def CMul (i j:Int):Prop:=(-(2^64) < i∧i < 2^64)∨(-(2^64) < j∧j < 2^64)
theorem CMul.ok {i j:Int} (h:CMul i j):IntMulOk i j:=by
 rcases h with ⟨h1,h2⟩|⟨h1,h2⟩
 ·exact .of_left (intBits_le_64 h1 h2)
 ·exact .of_right (intBits_le_64 h1 h2)
theorem Jit:OpR X (binaryOp .Add) (rI0 fun i j=>.int (i+j)):=opI0 fun _ _ _ _ _ _ _ q=>add_int q
theorem Jkd:OpR X (binaryOp .Sub) (rI0 fun i j=>.int (i - j)):=opI0 fun _ _ _ _ _ _ _ q=>sub_int q
theorem Jp0:OpR X (binaryOp .Mult) (rI CMul fun i j=>.int (i*j)):=opI fun _ _ _ _ _ _ _ hc q=>mul_int q hc.ok
theorem Jno:OpR X (binaryOp .Mod) (rI (fun _ j=>0 < j) fun i j=>.int (i%j)):=opI fun i j _ _ _ _ _ hc q=>by
 have h1:(0:Int) < j:=hc
 exact mod_int' (by omega) (by rw [Int.fmod_eq_emod_of_nonneg i (by omega)];exact q)
theorem op_pow:OpR X (binaryOp .Pow) (rI CPow fun i j=>.int (i^j.toNat)):=opI fun _ _ _ _ _ _ _ hc q=>pow_int_small hc.1 hc.2.1 hc.2.2 q
theorem unI {f:Value→Sem Value} {g:Int→Int}
  (rule:∀(i:Int) (t:Tok) (s:Shared) (Q:Value→Shared→Prop) (E:Value→Shared→Prop),Q (.int (g i) s.toks) {s with toks:=s.toks+1}→wpAny (model X.prog X.w) X.A (f (.int i t)) Q E s):
  UnR X f (rU fun i=>.int (g i)):=by
 intro pins s σ H x v Q I rx h
 obtain ⟨i,rfl,q⟩:=h
 obtain ⟨t,rfl⟩:=rx
 exact rule i t s _ _ ⟨.int (g i),H,I.tok _,⟨_,rfl⟩,q⟩
theorem Jp5:UnR X (unaryOp .USub) (rU fun i=>.int (-i)):=unI fun _ _ _ _ _ q=>neg_int q
end
def scal:V→V→Bool
 | .non,.non=>true| .non,.int _=>true| .int _,.non=>true| .non,.bl _=>true| .bl _,.non=>true| .non,.str _=>true| .str _,.non=>true
 | .int _,.int _=>true| .bl _,.bl _=>true| .str _,.str _=>true| .byt _,.byt _=>true
 | .int _,.str _=>true| .str _,.int _=>true| .bl _,.str _=>true| .str _,.bl _=>true
 |_,_=>false
def rEq:R2:=fun x y H Q=>scal x y=true∧Q (.bl (decide (x=y))) H
def rNe:R2:=fun x y H Q=>scal x y=true∧Q (.bl (!decide (x=y))) H
theorem Jwi {i j:Int}:decide (V.int i=V.int j)=(i==j):=by
 rw [Bool.eq_iff_iff]
 simp
theorem Jyo {i j:Bool}:decide (V.bl i=V.bl j)=(i==j):=by
 rw [Bool.eq_iff_iff]
 simp
theorem Jwj {i j:Str}:decide (V.str i=V.str j)=(i==j):=by
 rw [Bool.eq_iff_iff]
 simp
theorem Jwh {i j:Array UInt8}:decide (V.byt i=V.byt j)=(i.toList==j.toList):=by
 rw [Bool.eq_iff_iff]
 cases i
 cases j
 simp
section
variable {X:Cx} {a b c:Expr} {ta tb tc:TE} {pos:Pos}
theorem Jir {pins:List (Addr×Obj)} {σ:St} {H:Hp} {s:Shared} {Q:VK} {k k':Bool} (I:Inv X pins σ H s) (q:Q (.bl k) H) (e:k=k'):EP X pins σ Q (.bool k') s:=by
 subst e
 exact ⟨.bl k,H,I,rfl,q⟩
theorem Jn9:OpR X (compareOp .Eq) rEq:=by
 intro pins s σ H x y v u Q I rx ry h
 obtain ⟨hs,q⟩:=h
 cases x with
 |non=>
  cases rx
  cases y with
  |non=>cases ry;exact PySem.EqNone.eq_none_none (Jir I q (by simp))
  |bl j=>cases ry;exact PySem.EqNone.eq_none_bool (Jir I q (by simp))
  |int j=>obtain ⟨t',rfl⟩:=ry;exact PySem.EqNone.eq_none_int (Jir I q (by simp))
  |str j=>obtain ⟨t',rfl⟩:=ry;exact PySem.EqNone.eq_none_str (Jir I q (by simp))
  |_=>exact absurd (show false=true from hs) Bool.false_ne_true
 |bl i=>
  cases rx
  cases y with
  |non=>cases ry;exact PySem.EqNone.eq_bool_none (Jir I q (by simp))
  |bl j=>cases ry;exact eq_bool (Jir I q Jyo)
  |str j=>obtain ⟨t',rfl⟩:=ry;exact PySem.EqMixed.eq_bool_str (Jir I q (by simp))
  |_=>exact absurd (show false=true from hs) Bool.false_ne_true
 |int i=>
  obtain ⟨t,rfl⟩:=rx
  cases y with
  |non=>cases ry;exact PySem.EqNone.eq_int_none (Jir I q (by simp))
  |int j=>obtain ⟨t',rfl⟩:=ry;exact eq_int (Jir I q Jwi)
  |str j=>obtain ⟨t',rfl⟩:=ry;exact PySem.EqMixed.eq_int_str (Jir I q (by simp))
  |_=>exact absurd (show false=true from hs) Bool.false_ne_true
 |str i=>
  obtain ⟨t,rfl⟩:=rx
  cases y with
  |non=>cases ry;exact PySem.EqNone.eq_str_none (Jir I q (by simp))
  |bl j=>cases ry;exact PySem.EqMixed.eq_str_bool (Jir I q (by simp))
  |int j=>obtain ⟨t',rfl⟩:=ry;exact PySem.EqMixed.eq_str_int (Jir I q (by simp))
  |str j=>obtain ⟨t',rfl⟩:=ry;exact eq_str (Jir I q Jwj)
  |_=>exact absurd (show false=true from hs) Bool.false_ne_true
 |byt i=>
  obtain ⟨t,rfl⟩:=rx
  cases y with
  |byt j=>obtain ⟨t',rfl⟩:=ry;exact PySem.W.eq_bytes (Jir I q Jwh)
  |_=>exact absurd (show false=true from hs) Bool.false_ne_true
 |_=>cases y <;> exact absurd (show false=true from hs) Bool.false_ne_true
theorem op_ne:OpR X (compareOp .NotEq) rNe:=by
 intro pins s σ H x y v u Q I rx ry h
 obtain ⟨hs,q⟩:=h
 cases x with
 |non=>
  cases rx
  cases y with
  |non=>cases ry;exact PySem.EqNone.ne_none_none (Jir I q (by simp))
  |bl j=>cases ry;exact PySem.EqNone.ne_none_bool (Jir I q (by simp))
  |int j=>obtain ⟨t',rfl⟩:=ry;exact PySem.EqNone.ne_none_int (Jir I q (by simp))
  |str j=>obtain ⟨t',rfl⟩:=ry;exact PySem.EqNone.ne_none_str (Jir I q (by simp))
  |_=>exact absurd (show false=true from hs) Bool.false_ne_true
 |bl i=>
  cases rx
  cases y with
  |non=>cases ry;exact PySem.EqNone.ne_bool_none (Jir I q (by simp))
  |bl j=>cases ry;exact ne_bool (Jir I q (congrArg not Jyo))
  |str j=>obtain ⟨t',rfl⟩:=ry;exact PySem.EqMixed.ne_bool_str (Jir I q (by simp))
  |_=>exact absurd (show false=true from hs) Bool.false_ne_true
 |int i=>
  obtain ⟨t,rfl⟩:=rx
  cases y with
  |non=>cases ry;exact PySem.EqNone.ne_int_none (Jir I q (by simp))
  |int j=>obtain ⟨t',rfl⟩:=ry;exact ne_int (Jir I q (congrArg not Jwi))
  |str j=>obtain ⟨t',rfl⟩:=ry;exact PySem.EqMixed.ne_int_str (Jir I q (by simp))
  |_=>exact absurd (show false=true from hs) Bool.false_ne_true
 |str i=>
  obtain ⟨t,rfl⟩:=rx
  cases y with
  |non=>cases ry;exact PySem.EqNone.ne_str_none (Jir I q (by simp))
  |bl j=>cases ry;exact PySem.EqMixed.ne_str_bool (Jir I q (by simp))
  |int j=>obtain ⟨t',rfl⟩:=ry;exact PySem.EqMixed.ne_str_int (Jir I q (by simp))
  |str j=>obtain ⟨t',rfl⟩:=ry;exact ne_str (Jir I q (congrArg not Jwj))
  |_=>exact absurd (show false=true from hs) Bool.false_ne_true
 |byt i=>
  obtain ⟨t,rfl⟩:=rx
  cases y with
  |byt j=>obtain ⟨t',rfl⟩:=ry;exact PySem.W.ne_bytes (Jir I q (congrArg not Jwh))
  |_=>exact absurd (show false=true from hs) Bool.false_ne_true
 |_=>cases y <;> exact absurd (show false=true from hs) Bool.false_ne_true
theorem Jze:OpR X (compareOp .Lt) (rI0 fun i j=>.bl (decide (i < j))):=opB0 fun _ _ _ _ _ _ _ q=>lt_int q
theorem Jlk:OpR X (compareOp .LtE) (rI0 fun i j=>.bl (decide (i≤j))):=opB0 fun _ _ _ _ _ _ _ q=>le_int q
theorem Js9:OpR X (compareOp .Gt) (rI0 fun i j=>.bl (decide (j < i))):=opB0 fun _ _ _ _ _ _ _ q=>gt_int q
theorem Jxq:OpR X (compareOp .In) (fun x y H Q=>∃i j,x= .str i∧y= .str j∧Q (.bl (!(Builtin.Str.occurrences j i 0 j.length 1).isEmpty)) H):=by
 intro pins s σ H x y v u Q I rx ry h
 obtain ⟨i,j,rfl,rfl,q⟩:=h
 obtain ⟨t,rfl⟩:=rx
 obtain ⟨t',rfl⟩:=ry
 exact in_str (Jir I q rfl)
theorem Joz:OpR X (compareOp .Is) (fun x y H Q=>y= .non∧Q (.bl (decide (x= .non))) H):=by
 intro pins s σ H x y v u Q I rx ry h
 obtain ⟨rfl,q⟩:=h
 cases ry
 refine is_none_gen (Jir I q ?_)
 cases x <;> first
  | (cases rx; rfl)
  | (obtain ⟨t,rfl⟩:=rx; rfl)
theorem Jtc:OpR X (compareOp .IsNot) (fun x y H Q=>y= .non∧Q (.bl (!decide (x= .non))) H):=by
 intro pins s σ H x y v u Q I rx ry h
 obtain ⟨rfl,q⟩:=h
 cases ry
 refine isnot_none_gen (Jir I q ?_)
 cases x <;> first
  | (cases rx; rfl)
  | (obtain ⟨t,rfl⟩:=rx; rfl)
theorem Jio (b:Expr) {op:CmpOp} (h:op≠ .In:=by decide) (h2:op≠ .NotIn:=by decide):behindInMarks op b=false:=by
 have e1:(op==CmpOp.In)=false:=by cases op <;> first|rfl|exact absurd rfl h
 have e2:(op==CmpOp.NotIn)=false:=by cases op <;> first|rfl|exact absurd rfl h2
 cases b <;> simp [behindInMarks,e1,e2]
theorem Jk6 {op:CmpOp} {r:R2} (ho:OpR X (compareOp op) r) (ha:PE X a ta) (hb:PE X b tb) (hm:behindInMarks op b=false):PE X (.Compare a [op] [b] pos) (tOp r ta tb):=by
 intro pins s σ H Q I h
 exact wpAny_Compare1 (binT ha hb I h fun v u s2 x y H2 I2 rx ry q=>ho pins s2 σ H2 x y v u Q I2 rx ry q) hm
def tTest (t:TE):TT:=fun σ H Q=>t σ H fun x H'=>∃k,x= .bl k∧Q k H'
theorem Jim {op:CmpOp} {r:R2} (ho:OpR X (compareOp op) r) (ha:PE X a ta) (hb:PE X b tb) (hm:behindInMarks op b=false):PT X (.Compare a [op] [b] pos) (tTest (tOp r ta tb)):=by
 intro pins s σ H Q I h
 refine wpAny_isTrue_Compare1 (thn (ha pins s σ H _ I h) fun v s1 ⟨x,H1,I1,r1,q1⟩=>thn (hb pins s1 σ H1 _ I1 q1) fun u s2 ⟨y,H2,I2,r2,q2⟩=>
  thn (ho pins s2 σ H2 x y v u _ I2 r1 r2 q2) fun c s3 ⟨z,H3,I3,r3,k,e,q3⟩=>?_) hm
 subst e
 cases r3
 exact wpAny_truthy_bool ⟨H3,I3,q3⟩
def Yg (r r':R2) (ta tb tc:TE):TE:=fun σ H Q=>ta σ H fun x H1=>tb σ H1 fun y H2=>r x y H2 fun z H3=>∃k,z= .bl k∧
 (if k=true then tc σ H3 fun w' H4=>r' y w' H4 Q else Q (.bl false) H3)
theorem Jue {op op':CmpOp} {r r':R2} (ho:OpR X (compareOp op) r) (ho':OpR X (compareOp op') r') (ha:PE X a ta) (hb:PE X b tb) (hc:PE X c tc)
  (hm:lastMarks [op,op'] [b,c]=false:=by with_unfolding_all rfl):PE X (.Compare a [op,op'] [b,c] pos) (Yg r r' ta tb tc):=by
 intro pins s σ H Q I h
 refine Compare_chain (thn (ha pins s σ H _ I h) fun v s1 ⟨x,H1,I1,r1,q1⟩=>chain_link (thn (hb pins s1 σ H1 _ I1 q1) fun u s2 ⟨y,H2,I2,r2,q2⟩=>
  thn (ho pins s2 σ H2 x y v u _ I2 r1 r2 q2) fun d s3 ⟨z,H3,I3,r3,k,e,q3⟩=>?_)) hm
 subst e
 cases r3
 refine wpAny_truthy_bool ?_
 cases k with
 |false=>exact ite_ff ⟨.bl false,H3,I3,rfl,q3⟩
 |true=>exact ite_tt (chain_last (thn (hc pins s3 σ H3 _ I3 q3) fun w' s4 ⟨z',H4,I4,r4,q4⟩=>ho' pins s4 σ H4 y z' u w' Q I4 r2 r4 q4))
theorem Jo7 {op op':CmpOp} {r r':R2} (ho:OpR X (compareOp op) r) (ho':OpR X (compareOp op') r') (ha:PE X a ta) (hb:PE X b tb) (hc:PE X c tc)
  (hm:lastMarks [op,op'] [b,c]=false:=by with_unfolding_all rfl):PT X (.Compare a [op,op'] [b,c] pos) (tTest (Yg r r' ta tb tc)):=by
 intro pins s σ H Q I h
 refine isTrue_chain (thn (ha pins s σ H _ I h) fun v s1 ⟨x,H1,I1,r1,q1⟩=>test_link (thn (hb pins s1 σ H1 _ I1 q1) fun u s2 ⟨y,H2,I2,r2,q2⟩=>
  thn (ho pins s2 σ H2 x y v u _ I2 r1 r2 q2) fun d s3 ⟨z,H3,I3,r3,k,e,q3⟩=>?_)) hm
 subst e
 cases r3
 refine wpAny_truthy_bool ?_
 cases k with
 |false=>
  obtain ⟨k',e',q'⟩:=q3
  cases e'
  exact ite_ff ⟨H3,I3,q'⟩
 |true=>
  refine ite_tt (test_last (thn (hc pins s3 σ H3 _ I3 q3) fun w' s4 ⟨z',H4,I4,r4,q4⟩=>thn (ho' pins s4 σ H4 y z' u w' _ I4 r2 r4 q4) fun d' s5 ⟨z2,H5,I5,r5,k2,e2,q5⟩=>?_))
  subst e2
  cases r5
  exact wpAny_truthy_bool ⟨H5,I5,q5⟩
def TruV (K:PySem.W.Frag) (x:V) (H:Hp) (k:Bool):Prop:=
 match x with
 | .non=>k=false
 | .bl b=>k=b
 | .int i=>k=(i !=0)
 | .str y=>y.length≤sizeLine∧k=((y.length:Int) !=0)
 | .byt y=>y.size≤sizeLine∧k=((y.size:Int) !=0)
 | .ref p=>(∃xs,SqL K H p xs∧k=!xs.isEmpty)∨(∃xs,SqT K H p xs∧k=!xs.isEmpty)∨∃kvs,H p=some (.dK kvs)∧k=!kvs.isEmpty
 |_=>False
theorem Jv8 {κ:Type} {kvs:List (κ×V)} {vs:List (κ×Value)} (r:KV kvs vs):(!vs.isEmpty)=!kvs.isEmpty:=by
 cases r <;> rfl
theorem Jq9 {xs:List V} {its:List Value} (r:Vals xs its):(!its.toArray.isEmpty)=!xs.isEmpty:=by
 cases r <;> simp
theorem Jnf:(sizeLine:Nat) < 2^63:=by rw [sizeLine_eq];decide
theorem tru_ok:TruR X (fun x H Q=>∃k,TruV X.K x H k∧Q k H):=by
 intro pins s σ H x v Q I rx h
 obtain ⟨k,e,q⟩:=h
 have hl:=Jnf
 have hs:sizeLine=16777216:=sizeLine_eq
 cases x with
 |non=>
  cases rx
  have e':k=false:=e
  subst e'
  exact truthy_none ⟨H,I,q⟩
 |bl b=>
  cases rx
  have e':k=b:=e
  subst e'
  exact wpAny_truthy_bool ⟨H,I,q⟩
 |int i=>
  obtain ⟨t,rfl⟩:=rx
  have e':k=(i !=0):=e
  subst e'
  exact PySem.P.truthy_int ⟨H,I,q⟩
 |str y=>
  obtain ⟨t,rfl⟩:=rx
  obtain ⟨hy,e'⟩:y.length≤sizeLine∧k=((y.length:Int) !=0):=e
  subst e'
  exact PySem.P.truthy_str (by omega) ⟨H,I.tok _,q⟩
 |byt y=>
  obtain ⟨t,rfl⟩:=rx
  obtain ⟨hy,e'⟩:y.size≤sizeLine∧k=((y.size:Int) !=0):=e
  subst e'
  exact PySem.W.truthy_bytes (by omega) ⟨H,I.tok _,q⟩
 |ref p=>
  cases rx
  have e':(∃xs,SqL X.K H p xs∧k=!xs.isEmpty)∨(∃xs,SqT X.K H p xs∧k=!xs.isEmpty)∨∃kvs,H p=some (.dK kvs)∧k=!kvs.isEmpty:=e
  rcases e' with ⟨xs,hx,e'⟩|⟨xs,hx,e'⟩|⟨kvs,hx,e'⟩
  ·subst e'
   obtain ⟨its,r,pl,hz⟩:=I.list hx
   have hlen:=r.length
   exact wpAny_truthy_list pl.isList (by simp only [List.size_toArray];omega) ⟨H,I.tok _,by rw [Jq9 r];exact q⟩
  ·subst e'
   obtain ⟨its,r,pl,hz⟩:=I.tuple hx
   have hlen:=r.length
   exact truthy_tuple pl (by simp only [List.size_toArray];omega) ⟨H,I.tok _,by rw [Jq9 r];exact q⟩
  ·subst e'
   obtain ⟨hz,hS,vs,r,m⟩:kvs.length≤sizeLine∧(p==sysModules)=false∧∃vs,KV kvs vs∧s.heap.DictOf (Jif X.prog X.w) p vs:=I.hok p _ hx
   have hlen:kvs.length=vs.length:=Paired.length r
   exact wpAny_truthy_dict hS m (by omega) ⟨H,I.tok _,by rw [Jv8 r];exact q⟩
 |_=>exact (show False from e).elim
theorem Jqr (ha:PE X a ta) (he:∀whole,isTrue a X.env whole=(do let v←whole;standAt a.pos;holding [v] (truthy v))):
  PT X a (fun σ H Q=>ta σ H fun x H'=>∃k,TruV X.K x H' k∧Q k H'):=by
 intro pins s σ H Q I h
 exact isTrue_plain (thn (ha pins s σ H _ I h) fun v s1 ⟨x,H1,I1,r1,q1⟩=>tru_ok pins s1 σ H1 x v Q I1 r1 q1) (he _)
theorem Jvn:OpR X (binaryOp .Add) (fun x y H Q=>∃i j,x= .str i∧y= .str j∧i.length+j.length≤sizeLine∧Q (.str (i++j)) H):=by
 intro pins s σ H x y v u Q I rx ry h
 obtain ⟨i,j,rfl,rfl,hz,q⟩:=h
 obtain ⟨t,rfl⟩:=rx
 obtain ⟨t',rfl⟩:=ry
 exact add_str (fun t' tk=>⟨.str (i++j),H,I.tok _,⟨_,rfl⟩,q⟩) hz
theorem Jl2 {x:V} {us:List Value} (r:Vals [x] us):∃u,us= [u]∧RelV x u:=by
 cases r with
 |cons r1 r2=>cases r2;exact ⟨_,rfl,r1⟩
theorem Jwx {x y:V} {us:List Value} (r:Vals [x,y] us):∃u w',us= [u,w']∧RelV x u∧RelV y w':=by
 cases r with
 |cons r1 r2=>
  cases r2 with
  |cons r3 r4=>cases r4;exact ⟨_,_,rfl,r1,r3⟩
theorem Jl6 (hc:X.calm=true):Jk3 X (.builtin "max") (fun xs H Q=>∃i j,xs= [.int i,.int j]∧Q (.int (if j > i then j else i)) H):=by
 intro pins s σ H xs us Q I r h
 obtain ⟨i,j,rfl,q⟩:=h
 obtain ⟨u,w',rfl,⟨t,rfl⟩,⟨t',rfl⟩⟩:=Jwx r
 refine max_two_ints (I.ok.hd hc) fun h' tk k=>⟨_,H,I.kept k,?_,q⟩
 by_cases hj:j > i
 ·rw [if_pos hj,if_pos hj];exact ⟨_,rfl⟩
 ·rw [if_neg hj,if_neg hj];exact ⟨_,rfl⟩
theorem Jmw (hc:X.calm=true):Jk3 X (.builtin "min") (fun xs H Q=>∃i j,xs= [.int i,.int j]∧Q (.int (if j < i then j else i)) H):=by
 intro pins s σ H xs us Q I r h
 obtain ⟨i,j,rfl,q⟩:=h
 obtain ⟨u,w',rfl,⟨t,rfl⟩,⟨t',rfl⟩⟩:=Jwx r
 refine min_two_ints (I.ok.hd hc) fun h' tk k=>⟨_,H,I.kept k,?_,q⟩
 by_cases hj:j < i
 ·rw [if_pos hj,if_pos hj];exact ⟨_,rfl⟩
 ·rw [if_neg hj,if_neg hj];exact ⟨_,rfl⟩
theorem Jon:Jk3 X (.type "int") (fun xs H Q=>(∃i,xs= [.int i]∧Q (.int i) H)∨∃k,xs= [.bl k]∧Q (.int (if k then 1 else 0)) H):=by
 intro pins s σ H xs us Q I r h
 rcases h with ⟨i,rfl,q⟩|⟨k,rfl,q⟩
 ·obtain ⟨u,rfl,t,rfl⟩:=Jl2 r
  exact call_int_int ⟨.int i,H,I,⟨_,rfl⟩,q⟩
 ·obtain ⟨u,rfl,r1⟩:=Jl2 r
  cases r1
  exact call_int_bool ⟨.int (if k then 1 else 0),H,I.tok _,⟨_,rfl⟩,q⟩
end
end L2
namespace L2
open PySem PySem.Spec PyProof.Rows
structure ObjM (h:Heap) (x dx C:Addr) (mA:Str→Option Value):Prop where
 obj:h.get? x=some (PySem.W.instObj C dx)
 ns:h.Ns1 dx mA
 ne:dx≠x
theorem Js2 {h:Heap} {dx:Addr} {mA:Str→Option Value} (n:h.Ns1 dx mA):∃od,h.get? dx=some od∧∀name,PySem.W.lookIn name od=some (mA name):=by
 obtain ⟨o,es,ep,ho,hd,hk,_,hm⟩:=n
 refine ⟨o,ho,fun name=>?_⟩
 have e:=hm name
 unfold nsFind findBy at e
 rw [←Array.find?_toList] at e
 unfold PySem.W.lookIn
 rw [hd]
 dsimp only
 split
 ·rename_i y q
  rw [q] at e
  exact congrArg some e
 ·rename_i q
  rw [q] at e
  have a:es.toList.any (·.refKey)=false:=by
   rw [List.any_eq_false]
   intro y hy
   obtain ⟨z,t,hkey⟩:=hk y (Array.mem_toList_iff.mp hy)
   simp [DictEntry.refKey,hkey]
  have a':¬es.toList.any (·.refKey)=true:=by rw [a];exact Bool.false_ne_true
  rw [if_neg a']
  exact congrArg some e
theorem ObjM.look {h:Heap} {x dx C:Addr} {mA:Str→Option Value} (I:ObjM h x dx C mA):∃od,PySem.W.InstAt h x (PySem.W.instObj C dx) C (some od)∧∀name,PySem.W.lookIn name od=some (mA name):=
 let ⟨od,ho,hl⟩:=Js2 I.ns
 ⟨od,⟨I.obj,rfl,rfl,ho⟩,hl⟩
section
variable {prog:Program} {w:World} {A:Around} {E:Value→Shared→Prop} {s:Shared} {K:PySem.W.Frag} {x dx C f:Addr} {mA:Str→Option Value} {name:Str} {v:Value}
theorem Ya1 {expr:Bool} {Q:Value→Shared→Prop} (X:K.In s.heap) (I:ObjM s.heap x dx C mA) (hg:PySem.W.plainGet K C name=true) (hh:PySem.W.hasDictIn K C=true)
  (ha:PySem.W.findIn K (.ref C) name=some none) (hv:mA name=some v) (hv':PySem.W.handedIn v=true) (h:Q v {s with toks:=s.toks+1}):
  wpAny (model prog w) A (getAttr (.ref x) name expr) Q E s:=by
 obtain ⟨od,J,hl⟩:=I.look
 exact PySem.W.get_value X J (PySem.W.plainGet_of hg).1 (PySem.W.findObj_own hh ha rfl (by rw [hl,hv])) hv' h
theorem Jz2 {pl:Sem Bool} {Q:Value×List Value→Shared→Prop} (X:K.In s.heap) (I:ObjM s.heap x dx C mA) (hg:PySem.W.plainGet K C name=true)
  (hf:PySem.W.findIn K (.ref C) name=some (some (.ref f))) (ht:PySem.W.isFn K (.ref f)=true) (hv:mA name=none) (h:Q (.ref f,[.ref x]) s):
  wpAny (model prog w) A (getMethod (.ref x) name pl) Q E s:=by
 obtain ⟨od,J,hl⟩:=I.look
 exact PySem.W.method_fn X J (PySem.W.plainGet_of hg).1 (PySem.W.plainGet_of hg).2 hf (beq_iff_eq.mp ht) (by show (PySem.W.lookIn name od).map (·.isSome)=some false;rw [hl,hv];rfl) h
theorem Yan {ns:List Str} {Q:Unit→Shared→Prop} (X:K.In s.heap) (I:ObjM s.heap x dx C mA)
  (hs:PySem.W.findIn K (.ref C) "__setattr__" =some (some (.builtin "object.__setattr__"))) (hp:PySem.W.plainOver K C=true) (ht:PySem.W.takerIn K C name=some none) (hh:PySem.W.hasDictIn K C=true)
  (hw:PySem.Within mA ns) (hsz:ns.length≤sizeLine)
  (h:∀h',ObjM h' x dx C (fun y=>if y=name then some v else mA y)→Heap.SameBut dx s.heap h'→Q () {s with heap:=h',toks:=s.toks+2}):
  wpAny (model prog w) A (setAttr (.ref x) name v) Q E s:=by
 obtain ⟨od,J,hl⟩:=I.look
 refine PySem.W.set_plain X J hs (PySem.W.osa_open (s:={s with toks:=s.toks+1}) (r:=none) X J hp ht fun b=>?_)
 obtain ⟨cd,hc,hd'⟩:=PySem.W.any_some hh
 have hx:s.heap.get? x=some ⟨.ref C,some dx,.plain,#[]⟩:=I.obj
 refine wpAny_bind (wpAny_pure (wpAny_bind (wpAny_bind (wpAny_loadPart hx (wpAny_bind (PySem.W.Looks.here (s:={s with toks:=s.toks+1}) (PySem.W.looks_clsIn X hc) ?_))))))
 rw [hd']
 refine wpAny_pure (a:=some dx) (wpAny_bind (wpAny_pure (wpAny_bind ?_)))
 refine wpAny_nsSet1 (s:={s with toks:=s.toks+1}) I.ns fun h' hn2 hs2=>?_
 obtain ⟨oD,esD,epD,hoD,hdD,hcD⟩:=hn2.count (PySem.Within.cons name v hw)
 refine wpAny_bind (wpAny_lookBehind hoD (by rw [hdD];exact pastItsLine_dict (Nat.le_trans hcD (by rw [List.length_cons];omega))) ?_)
 exact wpAny_pure (h _ ⟨(hs2.2 _ (Ne.symm I.ne)).trans I.obj,hn2,I.ne⟩ hs2)
theorem Jza {R:Result→Shared→Prop} {vs:List Value} {kw:List (Str×Value)} (X:K.In s.heap) (hm:PySem.W.makesIn K C=true)
  (hi:PySem.W.findIn K (.ref C) "__init__" =some (some (.ref f))) (hf:PySem.W.typeIn K (.ref f)=some (.type "function"))
  (h:codeAny (model prog w) (A.under (.builtin "type.__call__" ⟨.ref C::vs,kw⟩)) (.call (.ref f) ⟨.ref (s.heap.objs.size+1)::vs,kw⟩) (PySem.W.InitBack (s.heap.objs.size+1) R)
   {s with heap:=(s.heap.push PySem.W.emptyDict).push (PySem.W.instObj C s.heap.objs.size)}):
  codeAny (model prog w) A (.call (.ref C) ⟨vs,kw⟩) R s:=by
 obtain ⟨hh,g,d,t,os⟩:=s
 exact PySem.W.make_core (PySem.W.makes_of X hm) (PySem.W.looks_findIn X hi) (fun self=>PySem.W.bind_fn X self hf) (.inl rfl) h
end
def Jki (f:Str) (v:V):List (Str×V)→List (Str×V)
 | []=>[(f,v)]
 | (g,x) :: r=>if g = f then (g,v) :: r else (g,x) :: Jki f v r
theorem Jpa (f g:Str) (v:V):∀fs:List (Str×V),(Jki f v fs).lookup g=if g=f then some v else fs.lookup g
 | []=>by
  show List.lookup g [(f,v)]=_
  by_cases h:g=f
  ·have hb:(g==f)=true:=beq_iff_eq.mpr h
   simp only [List.lookup,hb,if_pos h]
  ·have hb:(g==f)=false:=beq_eq_false_iff_ne.mpr h
   simp only [List.lookup,hb,if_neg h]
 | (k,x) :: r=>by
  have ih:=Jpa f g v r
  rw [show Jki f v ((k,x)::r)=(if k=f then (k,v)::r else (k,x)::Jki f v r) from rfl]
  by_cases hk:k=f
  ·rw [if_pos hk]
   by_cases h:g=k
   ·have hb:(g==k)=true:=beq_iff_eq.mpr h
    simp only [List.lookup,hb,if_pos (h.trans hk)]
   ·have hb:(g==k)=false:=beq_eq_false_iff_ne.mpr h
    simp only [List.lookup,hb,if_neg (fun e:g=f=>h (e.trans hk.symm))]
  ·rw [if_neg hk]
   by_cases h:g=k
   ·have hb:(g==k)=true:=beq_iff_eq.mpr h
    simp only [List.lookup,hb,if_neg (fun e:g=f=>hk (h.symm.trans e))]
   ·have hb:(g==k)=false:=beq_eq_false_iff_ne.mpr h
    simp only [List.lookup,hb]
    exact ih
theorem Jos (f:Str) (v:V):∀fs:List (Str×V),f∈(Jki f v fs).map (·.1)∧∀g,g∈fs.map (·.1)→g∈(Jki f v fs).map (·.1)
 | []=>⟨by simp [Jki],fun g h=>by simp at h⟩
 | (k,x) :: r=>by
  obtain ⟨i1,i2⟩:=Jos f v r
  rw [show Jki f v ((k,x)::r)=(if k=f then (k,v)::r else (k,x)::Jki f v r) from rfl]
  by_cases hk:k=f
  ·rw [if_pos hk]
   subst hk
   exact ⟨by simp,fun g h=>by simpa using h⟩
  ·rw [if_neg hk]
   refine ⟨?_,fun g h=>?_⟩
   ·rw [List.map_cons]
    exact List.mem_cons_of_mem _ i1
   ·rw [List.map_cons] at h⊢
    rcases List.mem_cons.mp h with e|e
    ·exact List.mem_cons.mpr (.inl e)
    ·exact List.mem_cons_of_mem _ (i2 g e)
theorem Jp8 (f:Str) (v:V):∀fs:List (Str×V),(Jki f v fs).length≤fs.length+1
 | []=>by simp [Jki]
 | (k,x) :: r=>by
  have ih:=Jp8 f v r
  rw [show Jki f v ((k,x)::r)=(if k=f then (k,v)::r else (k,x)::Jki f v r) from rfl]
  by_cases hk:k=f
  ·rw [if_pos hk,List.length_cons,List.length_cons];omega
  ·rw [if_neg hk,List.length_cons,List.length_cons];omega
theorem RelO.some_of {v:V} {o:Option Value} (r:RelO (some v) o):∃u,o=some u∧RelV v u:=by
 cases o with
 |none=>exact (show False from r).elim
 |some u=>exact ⟨u,rfl,r⟩
theorem RelO.none_of {o:Option Value} (r:RelO none o):o=none:=by
 cases o with
 |none=>rfl
 |some u=>exact (show False from r).elim
theorem Jrz {v:V} {u:Value} (r:RelV v u):PySem.W.handedIn u=true:=by
 cases v with
 |non=>cases (show u=Value.none from r);rfl
 |bl b=>cases (show u=Value.bool b from r);rfl
 |int i=>obtain ⟨t,e⟩:=(show ∃t,u=Value.int i t from r);cases e;rfl
 |str x=>obtain ⟨t,e⟩:=(show ∃t,u=Value.str x t from r);cases e;rfl
 |byt b=>obtain ⟨t,e⟩:=(show ∃t,u=Value.bytes b t from r);cases e;rfl
 |flt b=>obtain ⟨t,e⟩:=(show ∃t,u=Value.float b t from r);cases e;rfl
 |ref a=>cases (show u=Value.ref a from r);rfl
 |ty n=>cases (show u=Value.type n from r);rfl
section
variable {P:Program} {w:World} {H H':Hp} {h h':Heap} {a C dx:Addr} {fs fs':List (Str×V)}
theorem Jps (hok:HOk P w H h) (e:H a=some (.ins C dx fs)):∃mA,ObjM h a dx C mA∧(∀f,RelO (fs.lookup f) (mA f))∧PySem.Within mA (fs.map (·.1))∧fs.length≤1000∧H dx=some (.own a):=by
 obtain ⟨d,z,ne,ob,mA,n,r,q⟩:=(show ObjOk P w H h a (.ins C dx fs) from hok a _ e)
 exact ⟨mA,⟨ob,n,ne⟩,r,q,z,d⟩
end
structure Cls (K:PySem.W.Frag) (C:Addr):Prop where
 pg:PySem.W.plainGet K C Str.empty=true
 hd:PySem.W.hasDictIn K C=true
 po:PySem.W.plainOver K C=true
 sa:PySem.W.findIn K (.ref C) "__setattr__" =some (some (.builtin "object.__setattr__"))
theorem Cls.get {K:PySem.W.Frag} {C:Addr} (c:Cls K C) (f:Str):PySem.W.plainGet K C f=true:=c.pg
def NoAttr (K:PySem.W.Frag) (C:Addr) (f:Str):Prop:=PySem.W.findIn K (.ref C) f=some none
theorem NoAttr.taker {K:PySem.W.Frag} {C:Addr} {f:Str} (n:NoAttr K C f):PySem.W.takerIn K C f=some none:=by
 unfold PySem.W.takerIn
 rw [show PySem.W.findIn K (.ref C) f=some none from n]
 rfl
structure Con (K:PySem.W.Frag) (C:Addr) (f:Str) (v:V) (u:Value):Prop where
 at_:PySem.W.findIn K (.ref C) f=some (some u)
 rel:RelV v u
 get:PySem.W.specialIn K u "__get__" =some none
 cp:PySem.W.copiedNames.contains f=false
structure Jku (K:PySem.W.Frag) (C:Addr) (m:Str) (f:Addr):Prop where
 at_:PySem.W.findIn K (.ref C) m=some (some (.ref f))
 fn:PySem.W.isFn K (.ref f)=true
 kp:PySem.W.keepIn K (.ref f)=true
section
variable {X:Cx} {pins:List (Addr×Obj)} {σ:St} {H:Hp} {s:Shared} {a C dx:Addr} {fs:List (Str×V)} {f:Str} {v:V} {A:Around} {E:Value→Shared→Prop}
theorem Jv6 {b:Bool} {Q:Value→Shared→Prop} (I:Inv X pins σ H s) (e:H a=some (.ins C dx fs)) (c:Cls X.K C) (n:NoAttr X.K C f) (l:fs.lookup f=some v)
  (h:∀u s',Inv X pins σ H s'→RelV v u→Q u s'):wpAny (model X.prog X.w) A (getAttr (.ref a) f b) Q E s:=by
 obtain ⟨mA,O,r,_,_,_⟩:=Jps I.hok e
 obtain ⟨u,hu,ru⟩:=RelO.some_of (v:=v) (o:=mA f) (by rw [←l];exact r f)
 exact Ya1 I.kIn O (c.get f) c.hd n hu (Jrz ru) (h u _ (I.tok _) ru)
theorem Jq5 {m:Str} {g:Addr} {pl:Sem Bool} {Q:Value×List Value→Shared→Prop} (I:Inv X pins σ H s) (e:H a=some (.ins C dx fs)) (c:Cls X.K C) (k:Jku X.K C m g) (l:fs.lookup m=none)
  (h:Q (.ref g,[.ref a]) s):wpAny (model X.prog X.w) A (getMethod (.ref a) m pl) Q E s:=by
 obtain ⟨mA,O,r,_,_,_⟩:=Jps I.hok e
 have hn:mA m=none:=RelO.none_of (by rw [←l];exact r m)
 exact Jz2 I.kIn O (c.get m) k.at_ k.fn hn h
theorem Jvy {y:V} {u:Value} {Q:Unit→Shared→Prop} (I:Inv X pins σ H s) (e:H a=some (.ins C dx fs)) (c:Cls X.K C) (n:NoAttr X.K C f) (hl:fs.length < 1000) (ry:RelV y u)
  (h:∀s',Inv X pins σ (upd H a (.ins C dx (Jki f y fs))) s'→Q () s'):wpAny (model X.prog X.w) A (setAttr (.ref a) f u) Q E s:=by
 obtain ⟨mA,O,r,wi,_,ho⟩:=Jps I.hok e
 have hz:(fs.map (·.1)).length≤sizeLine:=by rw [List.length_map,sizeLine_eq];omega
 refine Yan I.kIn O c.sa c.po n.taker c.hd wi hz fun h' O' sb=>h _ ?_
 have hd:∃o,h'.get? dx=some o:=let ⟨o,_,_,e',_⟩:=O'.ns;⟨o,e'⟩
 refine I.write (x:=a) (e:=dx) (by rw [e];exact True.intro) (.inr ho) (fun b q hb z=>(sb.2 b hb).trans z) hd ?_
 refine ⟨by rw [Ji7 O.ne];exact ho,?_,O.ne,O'.obj,_,O'.ns,fun g=>?_,fun g hg=>?_⟩
 ·have:=Jp8 f y fs;omega
 ·show RelO ((Jki f y fs).lookup g) (if g=f then some u else mA g)
  rw [Jpa]
  by_cases q:g=f
  ·rw [if_pos q,if_pos q];exact ry
  ·rw [if_neg q,if_neg q];exact r g
 ·by_cases q:g=f
  ·rw [q];exact (Jos f y fs).1
  ·refine (Jos f y fs).2 g (wi g fun z=>hg ?_)
   show (if g=f then some u else mA g)=none
   rw [if_neg q];exact z
theorem Inv.made (I:Inv X pins σ H s):Inv X pins σ (upd (upd H s.heap.objs.size (.own (s.heap.objs.size+1))) (s.heap.objs.size+1) (.ins C s.heap.objs.size []))
  {s with heap:=(s.heap.push PySem.W.emptyDict).push (PySem.W.instObj C s.heap.objs.size)}:=by
 have e1:(s.heap.push PySem.W.emptyDict).get? s.heap.objs.size=some PySem.W.emptyDict:=Heap.get?_push_size s.heap rfl
 have e2:((s.heap.push PySem.W.emptyDict).push (PySem.W.instObj C s.heap.objs.size)).get? (s.heap.objs.size+1)=some (PySem.W.instObj C s.heap.objs.size):=by
  have:=Heap.get?_push_size (s.heap.push PySem.W.emptyDict) (o:=PySem.W.instObj C s.heap.objs.size) rfl
  rwa [Heap.size_push] at this
 have e3:(s.heap.push PySem.W.emptyDict).Ns s.heap.objs.size (fun _=>none):=⟨PySem.W.emptyDict,#[],_,e1,rfl,(fun e he=>absurd he (by simp)),fun _=>rfl⟩
 have I1:=I.laid (a:=s.heap.objs.size) (o:=.own (s.heap.objs.size+1)) (h':=s.heap.push PySem.W.emptyDict) (t':=s.toks) (fun b u q=>Heap.get?_push_of_some _ q) (Nat.le_refl _) ⟨_,e1⟩
 refine I1.laid (a:=s.heap.objs.size+1) (o:=.ins C s.heap.objs.size []) (t':=s.toks) (fun b u q=>Heap.get?_push_of_some _ q) (Nat.le_of_eq (Heap.size_push _ _)) ?_
 have ne:s.heap.objs.size≠s.heap.objs.size+1:=Nat.ne_of_lt (Nat.lt_succ_self _)
 refine ⟨by rw [Ji7 ne,Ji1],Nat.zero_le _,ne,e2,fun _=>none,(Heap.Ns1.of_empty e3).at fun o q=>Heap.get?_push_of_some _ q,fun _=>True.intro,fun y hy=>absurd rfl hy⟩
theorem Jwd {prog:Program} {w:World} {env:Env} {e:Expr} {f:Str} {pos:Pos} {s:Shared} {Q:Value→Shared→Prop} (hb:attributeBase e f env (eval e env)=eval e env)
  (h:wpAny (model prog w) A (eval e env) (fun o s₁=>wpAny (model prog w) A (getAttr o f true) Q E s₁) E s):wpAny (model prog w) A (eval (.Attribute e f pos) env) Q E s:=
 Attribute_any_ h (by rw [arm_eval_Attribute,hb])
end
def tFld (K:PySem.W.Frag) (ta:TE) (f:Str):TE:=fun σ H Q=>ta σ H fun x H1=>∃a C dx fs v,x= .ref a∧H1 a=some (.ins C dx fs)∧Cls K C∧NoAttr K C f∧fs.lookup f=some v∧Q v H1
def sFld (K:PySem.W.Frag) (ta tv:TE) (f:Str):TS:=fun D σ H=>tv σ H fun y H1=>ta σ H1 fun x H2=>∃a C dx fs,x= .ref a∧H2 a=some (.ins C dx fs)∧Cls K C∧NoAttr K C f∧fs.length < 1000∧
 D.nx σ (upd H2 a (.ins C dx (Jki f y fs)))
section
variable {X:Cx} {o e value:Expr} {f:Str} {pos pos' tpos:Pos} {ta tv:TE}
theorem Jjq (he:PE X e ta) (hb:attributeBase e f X.env (eval e X.env)=eval e X.env):PE X (.Attribute e f pos) (tFld X.K ta f):=by
 intro pins s σ H Q I h
 refine Jwd hb (thn (he pins s σ H _ I h) fun u s1 ⟨x,H1,I1,rx,a,C,dx,fs,v,ex,ea,c,n,l,q⟩=>?_)
 subst ex
 obtain rfl:u=Value.ref a:=rx
 exact Jv6 I1 ea c n l fun u' s2 I2 ru=>⟨v,H1,I2,ru,q⟩
theorem Jkm (ha:PE X o ta) (hv:PE X value tv) (hs:swapsWith value (some (.Attribute o f pos')) pos.line X.env=pure false):PS X (.Assign [.Attribute o f pos'] value pos) (sFld X.K ta tv f):=by
 intro pins s σ H D I h
 refine plainObj_wpAny_Assign_Attribute (thn (hv pins s σ H _ I h) fun u s1 ⟨y,H1,I1,ry,q⟩=>thn (ha pins s1 σ H1 _ I1 q) fun ov s2 ⟨x,H2,I2,rx,a,C,dx,fs,ex,ea,c,n,l,q2⟩=>?_) hs
 subst ex
 obtain rfl:ov=Value.ref a:=rx
 exact Jvy I2 ea c n l ry fun s3 I3=>⟨σ,_,I3,q2⟩
end
section
variable {X:Cx} {pins:List (Addr×Obj)} {σ:St} {H:Hp} {s:Shared} {A:Around} {E:Value→Shared→Prop} {Q:Value→Shared→Prop} {c:Value} {b:Bool}
inductive Joh (K:PySem.W.Frag) (H:Hp):V→Value→Prop where
 |non:Joh K H .non (.type "NoneType")
 |bl (x:Bool):Joh K H (.bl x) (.type "bool")
 |int (i:Int):Joh K H (.int i) (.type "int")
 |str (x:Str):Joh K H (.str x) (.type "str")
 |flt (x:UInt64):Joh K H (.flt x) (.type "float")
 |lst {a:Addr} {xs:List V} (e:H a=some (.lst xs)):Joh K H (.ref a) (.type "list")
 |frz {a:Addr} {o:Obj} {xs:List V} (e:H a=some (.frz o (.lst xs))):Joh K H (.ref a) (.type "list")
 |tup {a:Addr} {xs:List V} (e:H a=some (.tup xs)):Joh K H (.ref a) (.type "tuple")
 |dK {a:Addr} {kvs:List (Key×V)} (e:H a=some (.dK kvs)):Joh K H (.ref a) (.type "dict")
 |dT {a:Addr} {kvs:List (List Key×V)} (e:H a=some (.dT kvs)):Joh K H (.ref a) (.type "dict")
 |ins {a C dx:Addr} {fs:List (Str×V)} (e:H a=some (.ins C dx fs)) (cl:Cls K C) (ha:PySem.W.findIn K (.ref C) "__class__" =some (some (.builtin "object.__class__")))
   (hn:PySem.W.specialIn K (.builtin "object.__class__") "__get__" =some (some (.builtin "getset_descriptor.__get__"))) (htk:PySem.W.takesIn K (.builtin "object.__class__")=some true)
   (hm:PySem.W.mroIn K C (.type "object")=some true):Joh K H (.ref a) (.ref C)
end
end L2
namespace L2
open PySem PySem.Spec PyProof.Rows
structure Room (k:Nat) (A:Around):Prop where
 hd:A.handled=none
 dp:A.depth+3*k+5 < recursionLimit
 un:A.units+16*k+200 < cLine
theorem Room.mono {j k:Nat} {A:Around} (r:Room k A) (h:j≤k):Room j A:=⟨r.hd,by have:=r.dp;omega,by have:=r.un;omega⟩
theorem Room.deeper {k:Nat} {A:Around} (r:Room (k+1) A) (env:Env):Room k (A.deeper env):=
 ⟨r.hd,by have:=r.dp;show A.depth+1+3*k+5 < _;omega,by have:=r.un;show A.units+3+16*k+200 < _;omega⟩
theorem Jvb {A:Around} {C:Addr} {us:List Value} {kw:List (Str×Value)}:(A.under (.builtin "type.__call__" ⟨.ref C::us,kw⟩)).depth=A.depth+1:=by
 first|rfl|simp [Around.under,Code.weight,Code.isCreation,Code.isGuard,Code.isCaller,Code.frames,Code.isFrame,guardIds]
theorem Jvc {A:Around} {C:Addr} {us:List Value} {kw:List (Str×Value)}:(A.under (.builtin "type.__call__" ⟨.ref C::us,kw⟩)).units=A.units+1:=by
 first|rfl|simp [Around.under,Code.cUnits,Code.frames,Code.isFrame]
theorem Room.make {k:Nat} {A:Around} (r:Room (k+1) A) (C:Addr) (us:List Value) (kw:List (Str×Value)):Room k (A.under (.builtin "type.__call__" ⟨.ref C::us,kw⟩)):=
 ⟨r.hd,by have:=r.dp;rw [Jvb];omega,by have:=r.un;rw [Jvc];omega⟩
theorem Room.depth {k:Nat} {A:Around} (r:Room k A):A.depth < recursionLimit:=by have:=r.dp;omega
theorem Room.units {k:Nat} {A:Around} (r:Room k A):A.units+64 < cLine:=by have:=r.un;omega
def Jw4:TA:=fun _ H Q=>Q [] H
def Jka (ta:TE) (tr:TA):TA:=fun σ H Q=>ta σ H fun x H1=>tr σ H1 fun xs H2=>Q (x::xs) H2
section
variable {X:Cx} {e:Expr} {es:List Expr} {te:TE} {t:TA} {pos:Pos}
theorem Ji2:PA X [] Jw4:=fun _ _ _ _ H Q I h=>Calls.spliced_nil ⟨[],H,I,.nil,h⟩
theorem Ji0 (ha:PE X e te) (hr:PA X es t) (hs:starEach (e::es) X.env=(false,eval e X.env)::starEach es X.env:=by rfl):PA X (e::es) (Jka te t):=by
 intro pos pins s σ H Q I h
 rw [hs]
 show wpAny _ _ (spliced ((false,eval e X.env)::backTo pos (starEach es X.env))) _ _ s
 refine Calls.spliced_cons (thn (ha pins s σ H _ I h) fun u s1 ⟨x,H1,I1,r1,q1⟩=>?_)
 exact thn (hr pos pins s1 σ H1 _ I1 q1) fun us s2 ⟨xs,H2,I2,r2,q2⟩=>⟨x::xs,H2,I2,.cons r1 r2,q2⟩
def tTup (t:TA):TE:=fun σ H Q=>t σ H fun xs H1=>xs.length≤sizeLine∧∀p,H1 p=none→Q (.ref p) (upd H1 p (.tup xs))
def tLst (t:TA):TE:=fun σ H Q=>t σ H fun xs H1=>xs.length≤sizeLine∧∀p,H1 p=none→Q (.ref p) (upd H1 p (.lst xs))
theorem Jke {x1} (h:PA X es t):PE X (.Tuple es x1 pos) (tTup t):=by
 intro pins s σ H Q I hq
 refine wpAny_Tuple_spliced (thn (h pos pins s σ H _ I hq) fun us s1 ⟨xs,H1,I1,r,z,q⟩=>⟨by rw [←r.length];exact z,?_⟩)
 have hf:H1 s1.heap.objs.size=none:=I1.hok.fresh (Nat.le_refl _)
 refine ⟨.ref s1.heap.objs.size,upd H1 s1.heap.objs.size (.tup xs),I1.laid (t':=s1.toks) (fun b u e=>Heap.get?_push_of_some _ e) (Nat.le_refl _) ?_,rfl,q _ hf⟩
 exact ⟨z,us,r,⟨_,Heap.get?_push_size _ rfl,rfl,_,rfl⟩⟩
theorem Jiu (h:PA X es t):PE X (.List es pos) (tLst t):=by
 intro pins s σ H Q I hq
 refine wpAny_List_spliced (thn (h pos pins s σ H _ I hq) fun us s1 ⟨xs,H1,I1,r,z,q⟩=>⟨by rw [←r.length];exact z,?_⟩)
 have hf:H1 s1.heap.objs.size=none:=I1.hok.fresh (Nat.le_refl _)
 refine ⟨.ref s1.heap.objs.size,upd H1 s1.heap.objs.size (.lst xs),I1.laid (t':=s1.toks) (fun b u e=>Heap.get?_push_of_some _ e) (Nat.le_refl _) ?_,rfl,q _ hf⟩
 exact ⟨z,us,0,r,Heap.get?_push_size _ rfl⟩
end
abbrev Sp:=List V→Hp→VK→XK→Prop
abbrev CXT:=List Env→Hp→Shared→XK→Value→Shared→Prop
structure Env0 (P:Program) (w:World) (K:PySem.W.Frag) (mg:Str→Option Value) (base:Heap) (A:Around) (outer:List Env) (s:Shared) (H:Hp):Prop where
 frames:A.frames=some outer
 mod:Mod K mg base
 bs:∀b o,base.get? b=some o→s.heap.get? b=some o∧H b=none
 bsz:base.objs.size≤s.heap.objs.size
 funs:s.heap.FunFrames base outer
 frf:∀b∈frs outer,H b=none
 hok:HOk P w H s.heap
 bare:AllBare s.gens
def CE (outer:List Env) (P:Program) (w:World) (H:Hp) (s:Shared) (Q:VK) (u:Value) (s':Shared):Prop:=
 ∃v H',s'.os=s.os∧AllBare s'.gens∧Un (frs outer) [] H H' s.heap s'.heap∧HOk P w H' s'.heap∧RelV v u∧Q v H'
def CR (CX:CXT) (outer:List Env) (P:Program) (w:World) (H:Hp) (s:Shared) (Q:VK) (E:XK) (r:Result) (s':Shared):Prop:=
 match r with
 | .ok (.ret u)=>CE outer P w H s Q u s'
 | .ok _=>False
 | .error e=>CX outer H s E e s'
structure FnOk (P:Program) (w:World) (K:PySem.W.Frag) (mg:Str→Option Value) (base:Heap) (CX:CXT) (k:Nat) (f:Addr) (fd:FuncData) (ps:List Str) (sp:Sp):Prop where
 len:∀vs H Q E,sp vs H Q E→vs.length=ps.length
 run:∀(A:Around) (outer:List Env) (s:Shared) (H:Hp) (args:Args) (us:List Value) (vs:List V) (Q:VK) (E:XK),Room k A→Env0 P w K mg base A outer s H→BindsTo s fd args (ps.zip us)→Vals vs us→sp vs H Q E→
  codeAny (model P w) A (.call (.ref f) args) (CR CX outer P w H s Q E) s
theorem Env0.make {P:Program} {w:World} {K:PySem.W.Frag} {mg:Str→Option Value} {base:Heap} {A:Around} {outer:List Env} {s:Shared} {H:Hp} (e:Env0 P w K mg base A outer s H) (C:Addr) (us:List Value) (kw:List (Str×Value)):
  Env0 P w K mg base (A.under (.builtin "type.__call__" ⟨.ref C::us,kw⟩)) outer s H:=⟨by first|exact e.frames|(simpa [Around.under,Code.envs,Code.isFrame,pushEnvs] using e.frames),e.mod,e.bs,e.bsz,e.funs,e.frf,e.hok,e.bare⟩
section
variable {X:Cx} {pins:List (Addr×Obj)} {σ:St} {H:Hp} {s s':Shared}
theorem Inv.env0 (I:Inv X pins σ H s):Env0 X.prog X.w X.K X.mg X.base X.A X.stack s H:=
 ⟨I.ok.frames,I.ok.mod,I.bs,Nat.le_trans I.ok.bsz I.sz,I.stack,I.stkFree,I.hok,I.bare⟩
theorem Inv.after {Q:VK} {u:Value} (I:Inv X pins σ H s) (h:CE X.stack X.prog X.w H s Q u s'):EP X pins σ Q u s':=by
 obtain ⟨v,H',os,bare,un,hok,r,q⟩:=h
 obtain ⟨hh,g,d,t,os'⟩:=s'
 obtain rfl:os'=s.os:=os
 exact ⟨v,H',I.call (h':=hh) (g':=g) (d':=d) (t':=t) (ch:=[]) un hok bare (fun b z=>absurd z (by simp)),r,q⟩
end
def tCall (sp:Sp) (dvs:List V) (E:XK) (t:TA):TE:=fun σ H Q=>t σ H fun vs H1=>sp (vs++dvs) H1 Q E
def tMake (C:Addr) (sp:Sp) (dvs:List V) (E:XK) (t:TA):TE:=fun σ H Q=>t σ H fun vs H1=>∀x dx,H1 x=none→H1 dx=none→dx≠x→
 sp (.ref x::(vs++dvs)) (upd (upd H1 dx (.own x)) x (.ins C dx [])) (fun v H2=>v= .non∧Q (.ref x) H2) E
def Binds (K:PySem.W.Frag) (fd:FuncData) (ps:List Str) (ds:List Value):Prop:=
 ∀(s:Shared) (us:List Value),K.In s.heap→(us++ds).length=ps.length→BindsTo s fd ⟨us,[]⟩ (ps.zip (us++ds))
theorem Binds.all {K:PySem.W.Frag} {fd:FuncData} {ps:List Str} (h:∀us:List Value,us.length=ps.length→bindArgs fd ⟨us,[]⟩=pure (ps.zip us)):Binds K fd ps []:=fun s us _ hl=>by
 rw [List.append_nil] at hl⊢
 exact .of_eq (h us hl)
def Jpu (CX:CXT) (X:Cx) (E:XK):Prop:=∀(pins:List (Addr×Obj)) (σ:St) (H:Hp) (s:Shared) (e:Value) (s':Shared),Inv X pins σ H s→CX X.stack H s E e s'→X.xe e s'
section
variable {X:Cx} {CX:CXT} {k:Nat} {f C:Addr} {fd:FuncData} {ps:List Str} {sp:Sp} {dvs:List V} {ds:List Value} {E:XK} {x m:Str} {p pos apos:Pos} {e o:Expr} {es:List Expr} {ta:TE} {t:TA}
theorem Jvu {pins:List (Addr×Obj)} {σ:St} {H:Hp} {s:Shared} {Q:VK} {us:List Value} {vs:List V} (F:FnOk X.prog X.w X.K X.mg X.base CX k f fd ps sp) (hr:Room k X.A) (hb:Binds X.K fd ps ds) (hd:Vals dvs ds) (hx:Jpu CX X E)
  (I:Inv X pins σ H s) (r:Vals vs us) (h:sp (vs++dvs) H Q E):wpAny (model X.prog X.w) X.A (call (.ref f) us) (EP X pins σ Q) X.xe s:=by
 have r2:Vals (vs++dvs) (us++ds):=r.append hd
 have hl:(us++ds).length=ps.length:=by rw [←r2.length];exact F.len _ _ _ _ h
 refine wpAny_call (codeAny_mono (F.run X.A X.stack s H ⟨us,[]⟩ (us++ds) (vs++dvs) Q E hr I.env0 (hb s us I.kIn hl) r2 h) fun r s' hq=>?_)
 cases r with
 |error e=>exact hx pins σ H s e s' I hq
 |ok fl=>
  cases fl with
  |ret u=>exact I.after hq
  |next=>exact False.elim hq
  |brk=>exact False.elim hq
  |cont=>exact False.elim hq
theorem Yac (F:FnOk X.prog X.w X.K X.mg X.base CX k f fd ps sp) (hr:Room k X.A) (hg:Gl X x) (hm:X.mg x=some (.ref f)) (hk:PySem.W.keepIn X.K (.ref f)=true) (hb:Binds X.K fd ps ds) (hd:Vals dvs ds) (hx:Jpu CX X E)
  (ha:PA X (e::es) t) (hdb:(x==("__debug__" :Str))=false:=by decide) (he:starEach (e::es) X.env=(false,eval e X.env)::starEach es X.env:=by rfl) (hpl:(backTo pos (starEach es X.env)).any (·.1)=false:=by rfl):
  PE X (.Call (.Name x p) (e::es) [] pos) (tCall sp dvs E t):=by
 intro pins s σ H Q I h
 refine wpAny_Call_Name_kw (Jmx I hg hm ?_ hdb)
 refine PySem.W.callWith_K (h₀:=X.base) I.ok.mod.kin hk (thn (ha pos pins s σ H _ I h) fun us s1 ⟨vs,H1,I1,r,q⟩=>⟨I1.kIn,?_⟩) he hpl
 exact Jvu F hr hb hd hx I1 r q
structure Mk (K:PySem.W.Frag) (C f:Addr):Prop where
 makes:PySem.W.makesIn K C=true
 init:PySem.W.findIn K (.ref C) "__init__" =some (some (.ref f))
 fn:PySem.W.isFn K (.ref f)=true
 kp:PySem.W.keepIn K (.ref C)=true
theorem Jzq {pins:List (Addr×Obj)} {σ:St} {H:Hp} {s:Shared} {Q:VK} {us:List Value} {vs:List V} (M:Mk X.K C f) (F:FnOk X.prog X.w X.K X.mg X.base CX k f fd ps sp) (hr:Room (k+1) X.A) (hb:Binds X.K fd ps ds) (hd:Vals dvs ds)
  (hx:Jpu CX X E) (I:Inv X pins σ H s) (r:Vals vs us)
  (h:∀x dx,H x=none→H dx=none→dx≠x→sp (.ref x::(vs++dvs)) (upd (upd H dx (.own x)) x (.ins C dx [])) (fun v H2=>v= .non∧Q (.ref x) H2) E):
  wpAny (model X.prog X.w) X.A (call (.ref C) us) (EP X pins σ Q) X.xe s:=by
 have hq:=h (s.heap.objs.size+1) s.heap.objs.size (I.hok.fresh (Nat.le_succ _)) (I.hok.fresh (Nat.le_refl _)) (Nat.ne_of_lt (Nat.lt_succ_self _))
 have I2:=Inv.made (C:=C) I
 have r2:Vals (V.ref (s.heap.objs.size+1)::(vs++dvs)) (Value.ref (s.heap.objs.size+1)::(us++ds)):=.cons rfl (r.append hd)
 have hl:(Value.ref (s.heap.objs.size+1)::us++ds).length=ps.length:=by
  have e:=r2.length
  rw [F.len _ _ _ _ hq] at e
  exact e.symm
 refine wpAny_call (Jza (f:=f) I.kIn M.makes M.init (beq_iff_eq.mp M.fn) (codeAny_mono (F.run _ X.stack _ _ ⟨Value.ref (s.heap.objs.size+1)::us,[]⟩ (Value.ref (s.heap.objs.size+1)::(us++ds)) _ _ E (hr.make C us [])
  (I2.env0.make C us []) (hb _ (Value.ref (s.heap.objs.size+1)::us) I2.kIn hl) r2 hq) fun r s' hq'=>?_))
 cases r with
 |error e=>exact hx pins σ _ _ e s' I2 hq'
 |ok fl=>
  cases fl with
  |ret u=>
   obtain ⟨v,H',I3,rv,ev,q3⟩:=I2.after hq'
   subst ev
   exact ⟨rv,⟨V.ref (s.heap.objs.size+1),H',I3,rfl,q3⟩⟩
  |next=>exact False.elim hq'
  |brk=>exact False.elim hq'
  |cont=>exact False.elim hq'
theorem Jo4 (M:Mk X.K C f) (F:FnOk X.prog X.w X.K X.mg X.base CX k f fd ps sp) (hr:Room (k+1) X.A) (hg:Gl X x) (hm:X.mg x=some (.ref C)) (hb:Binds X.K fd ps ds) (hd:Vals dvs ds) (hx:Jpu CX X E)
  (ha:PA X (e::es) t) (hdb:(x==("__debug__" :Str))=false:=by decide) (he:starEach (e::es) X.env=(false,eval e X.env)::starEach es X.env:=by rfl) (hpl:(backTo pos (starEach es X.env)).any (·.1)=false:=by rfl):
  PE X (.Call (.Name x p) (e::es) [] pos) (tMake C sp dvs E t):=by
 intro pins s σ H Q I h
 refine wpAny_Call_Name_kw (Jmx I hg hm ?_ hdb)
 refine PySem.W.callWith_K (h₀:=X.base) I.ok.mod.kin M.kp (thn (ha pos pins s σ H _ I h) fun us s1 ⟨vs,H1,I1,r,q⟩=>⟨I1.kIn,?_⟩) he hpl
 exact Jzq M F hr hb hd hx I1 r q
end
section
variable {X:Cx} {CX:CXT} {k:Nat} {f C:Addr} {fd:FuncData} {ps ks:List Str} {sp:Sp} {E:XK} {x m:Str} {p pos apos kpos:Pos} {e o:Expr} {es:List Expr} {kws:List Keyword} {te ta:TE} {t tk:TA} {nm:Option Str}
structure KBinds (K:PySem.W.Frag) (fd:FuncData) (ps ks:List Str) (g:List Value→List Value→List Value) (gV:List V→List V→List V):Prop where
 to:∀(s:Shared) (us ws:List Value),K.In s.heap→(g us ws).length=ps.length→BindsTo s fd ⟨us,ks.zip ws⟩ (ps.zip (g us ws))
 rel:∀{vs:List V} {us:List Value} {zs:List V} {ws:List Value},Vals vs us→Vals zs ws→Vals (gV vs zs) (g us ws)
variable {g:List Value→List Value→List Value} {gV:List V→List V→List V}
end
structure Jia (N P:List Str) (sc:Scope):Prop where
 kind:sc.kind= .function
 co:sc.isCoroutine=false
 gen:sc.isGenerator=false
 nd:N.Nodup
 pre:N.take P.length=P
 par:∀x∈P,sc.names.lookup x=some .local∨sc.names.lookup x=some .cell
 nofree:∀y∈sc.names,y.2≠ .free
theorem Jru {kindOf:Str→Option NameKind} {x:Str}:∀{binds:List (Str×Value)} {m:Str→Option Value},(∀v,(x,v)∉binds)→bindL kindOf binds m x=m x
 | [],_,_=>rfl
 | (n,v) :: r,m,h=>by
  unfold bindL
  rw [Jru fun w hw=>h w (List.mem_cons_of_mem _ hw)]
  split
  ·have:x≠n:=by rintro rfl;exact h v List.mem_cons_self
   simp [this]
  ·rfl
theorem Jrt {kindOf:Str→Option NameKind} {x:Str}:∀{binds:List (Str×Value)} {m:Str→Option Value},(∀v,(x,v)∉binds)→bindC kindOf binds m x=m x
 | [],_,_=>rfl
 | (n,v) :: r,m,h=>by
  unfold bindC
  rw [Jrt fun w hw=>h w (List.mem_cons_of_mem _ hw)]
  split
  ·rfl
  ·have:x≠n:=by rintro rfl;exact h v List.mem_cons_self
   simp [this]
theorem Jok {kindOf:Str→Option NameKind} {x:Str} {v:Value}:∀{P:List Str} {vs:List Value} {i:Nat} {m:Str→Option Value},P.Nodup→P[i]?=some x→vs[i]?=some v→kindOf x=some .local→
  bindL kindOf (P.zip vs) m x=some v
 | [],_,_,_,_,h,_,_=>by simp at h
 |_::_,[],_,_,_,_,h,_=>by simp at h
 |p::P,w::vs,0,m,nd,h1,h2,hk=>by
  simp at h1 h2;subst h1;subst h2
  show bindL kindOf ((p,w)::P.zip vs) m p=_
  unfold bindL
  rw [Jru fun v hv=>(List.nodup_cons.mp nd).1 (List.of_mem_zip hv).1,if_pos hk]
  simp
 |p::P,w::vs,i+1,m,nd,h1,h2,hk=>by
  show bindL kindOf ((p,w)::P.zip vs) m x=_
  unfold bindL
  exact Jok (i:=i) (List.nodup_cons.mp nd).2 (by simpa using h1) (by simpa using h2) hk
theorem Joj {kindOf:Str→Option NameKind} {x:Str} {v:Value}:∀{P:List Str} {vs:List Value} {i:Nat} {m:Str→Option Value},P.Nodup→P[i]?=some x→vs[i]?=some v→kindOf x≠some .local→
  bindC kindOf (P.zip vs) m x=some v
 | [],_,_,_,_,h,_,_=>by simp at h
 |_::_,[],_,_,_,_,h,_=>by simp at h
 |p::P,w::vs,0,m,nd,h1,h2,hk=>by
  simp at h1 h2;subst h1;subst h2
  show bindC kindOf ((p,w)::P.zip vs) m p=_
  unfold bindC
  rw [Jrt fun v hv=>(List.nodup_cons.mp nd).1 (List.of_mem_zip hv).1,if_neg hk]
  simp
 |p::P,w::vs,i+1,m,nd,h1,h2,hk=>by
  show bindC kindOf ((p,w)::P.zip vs) m x=_
  unfold bindC
  exact Joj (i:=i) (List.nodup_cons.mp nd).2 (by simpa using h1) (by simpa using h2) hk
def start (N:List Str) (vs:List V):St:=vs.map some++List.replicate (N.length - vs.length) none
def Jss (CX:CXT) (P:Program) (w:World) (K:PySem.W.Frag) (mg:Str→Option Value) (base:Heap) (N:List Str) (qual:Str) (scope:Scope) (f:Addr) (cd:Value) (A:Around) (outer:List Env) (s:Shared) (H:Hp) (E:XK):Cx where
 prog:=P
 w:=w
 K:=K
 mg:=mg
 base:=base
 A:=A.deeper (envOfC qual scope s.heap.objs.size f cd)
 N:=N
 s₀:=s
 H₀:=H
 env:=envOfC qual scope s.heap.objs.size f cd
 outer:=outer
 stack:=envOfC qual scope s.heap.objs.size f cd::outer
 ex:=[]
 calm:=true
 fn:=fun _=>true
 pn:=[]
 xe:=fun e s'=>wpAny (model P w) (A.deeper (envOfC qual scope s.heap.objs.size f cd)) (leaving (envOfC qual scope s.heap.objs.size f cd) e) (fun _ s''=>CX outer H s E e s'') (fun e' s''=>CX outer H s E e' s'') s'
theorem Jls {sc:Scope} {n:Nat} {x:Str} (h:sc.names.lookup x=some .cell):∃c,(cellsFrom n sc.names []).lookup x=some c:=by
 have q:=PySem.W.cellsFrom_some sc.names n [] (.inl h)
 exact Option.isSome_iff_exists.mp q
theorem Js0 {CX:CXT} {P:Program} {w:World} {K:PySem.W.Frag} {mg:Str→Option Value} {base:Heap} {N ps:List Str} {qual:Str} {scope:Scope} {f:Addr} {cd:Value} {A:Around} {outer:List Env} {s s1:Shared} {H:Hp} {E:XK} {us:List Value} {vs:List V}
  (S:Jia N ps scope) (hd:A.handled=none) (e0:Env0 P w K mg base A outer s H) (hl:vs.length=ps.length) (r:Vals vs us)
  (x:InCallC s s.heap.objs.size (bindL (envOfC qual scope s.heap.objs.size f cd).kindOf (ps.zip us) fun _=>none) (cellsFrom (s.heap.objs.size+1) scope.names []) (bindC (envOfC qual scope s.heap.objs.size f cd).kindOf (ps.zip us) fun _=>none) s1):
  Inv (Jss CX P w K mg base N qual scope f cd A outer s H E) [] (start N vs) H s1:=by
 have hpl:ps.length≤N.length:=by have:=congrArg List.length S.pre;rw [List.length_take] at this;omega
 obtain ⟨h1,tk,rfl,hk⟩:=x.done
 have noA:∀b:Addr,b∉(Jss CX P w K mg base N qual scope f cd A outer s H E).ex:=fun b z=>absurd (show b∈([]:List Addr) from z) (by simp)
 refine ⟨⟨e0.mod,S.kind,rfl,rfl,Nat.le_refl _,fun y z c h1 h2=>?_,fun y hy=>?_,fun y c _ h=>?_,fun _=>hd,Around.frames_deeper e0.frames,.inr ⟨rfl,rfl⟩,fun b z=>absurd z (noA b),e0.bs,e0.bsz,fun b _ _=>noA b,fun b z=>absurd z (noA b),e0.funs,e0.frf⟩,
  rfl,e0.bare,Un.kept hk,⟨_,x.toInCall.ns,fun i y v h1 h2 h3=>?_⟩,fun y c h=>⟨_,x.cell y c h⟩,e0.hok.fresh (Nat.le_refl _),fun y c h=>?_,fun p hp=>absurd (show p∈([]:List (Addr×Obj)) from hp) (by simp),e0.hok.kept hk,?_⟩
 ·exact name_of_addr x.apart (PySem.mem_of_lookup h1) (PySem.mem_of_lookup h2)
 ·have hy:scope.names.lookup y=some .cell∨scope.names.lookup y=some .free:=hy
  rcases hy with hy|hy
  ·exact Jls hy
  ·exact absurd rfl (S.nofree _ (PySem.mem_of_lookup hy))
 ·exact Nat.le_of_lt (x.above y c (PySem.mem_of_lookup h))
 ·have hi:i < vs.length:=by
   unfold start at h2
   by_cases hi:i < vs.length
   ·exact hi
   ·rw [List.getElem?_append_right (by simpa using hi)] at h2
    rw [List.getElem?_replicate] at h2
    split at h2 <;> cases h2
  have ha:vs[i]?=some v:=by
   unfold start at h2
   rw [List.getElem?_append_left (by simpa using hi),List.getElem?_map] at h2
   cases e:vs[i]? with
   |none=>rw [e] at h2;cases h2
   |some a=>rw [e] at h2;cases h2;rfl
  obtain ⟨u,hu,rv⟩:=r.get ha
  have hp:ps[i]?=some y:=by
   rw [←S.pre,List.getElem?_take_of_lt (by omega)];exact h1
  have ndP:ps.Nodup:=by rw [←S.pre];exact S.nd.sublist (List.take_sublist _ _)
  refine ⟨u,rv,?_⟩
  rcases S.par y (List.mem_of_getElem? hp) with k|k
  ·exact .inl ⟨k,Jok ndP hp hu k⟩
  ·obtain ⟨c,e⟩:=Jls (n:=s.heap.objs.size+1) k
   refine .inr ⟨.inl k,c,e,?_⟩
   have q:=x.cell y c e
   rw [Joj ndP hp hu (by show scope.names.lookup y≠_;rw [k];decide)] at q
   exact q
 ·exact .inl (e0.hok.fresh (Nat.le_of_lt (x.above y c (PySem.mem_of_lookup h))))
 ·unfold start
  show _=N.length
  rw [List.length_append,List.length_map,List.length_replicate]
  omega
theorem fn_of {CX:CXT} {P:Program} {w:World} {K:PySem.W.Frag} {mg:Str→Option Value} {base:Heap} {k:Nat} {f:Addr} {name qual:Str} {params:Arguments} {body:List Stmt} {scope:Scope} {dV kV doc pm cdv ct oc:Value} {an od:Option Addr}
  {osl:Array (Option Value)} {N ps:List Str} {sp:Sp} (lk:K.lookup f=some ⟨oc,od,.func (PySem.W.fnOf name qual params body scope dV kV doc pm an cdv ct),osl⟩) (hcd:PySem.W.codeIn K cdv qual=true) (S:Jia N ps scope)
  (len:∀vs H Q E,sp vs H Q E→vs.length=ps.length)
  (hbody:∀(A:Around) (outer:List Env) (s:Shared) (H:Hp) (vs:List V) (Q:VK) (E:XK),Room k (A.deeper (envOfC qual scope s.heap.objs.size f cdv))→sp vs H Q E→
   ∃t,PSs (Jss CX P w K mg base N qual scope f cdv A outer s H E) body t∧t {nx:=fun _ H'=>Q .non H',rt:=Q} (start N vs) H):
  FnOk P w K mg base CX (k+1) f (PySem.W.fnOf name qual params body scope dV kV doc pm an cdv ct) ps sp:=by
 refine ⟨len,fun A outer s H args us vs Q E hr e0 hb r hsp=>?_⟩
 have hl:=len _ _ _ _ hsp
 have KX:K.In s.heap:=e0.mod.kin.keeps fun b o e=>(e0.bs b o e).1
 have lim:s.heap.NoLimit:=e0.mod.nolimit.keeps fun b o e=>(e0.bs b o e).1
 have hkind:∀y∈ps.zip us,scope.names.lookup y.1=some .local∨(scope.names.lookup y.1=some .cell∧((cellsFrom (s.heap.objs.size+1) scope.names []).lookup y.1).isSome=true):=fun ⟨n,v⟩ hy=>by
  rcases S.par n (List.of_mem_zip hy).1 with q|q
  ·exact .inl q
  ·exact .inr ⟨q,PySem.W.cellsFrom_some _ _ _ (.inl q)⟩
 refine codeAny_call_function hr.depth (KX _ _ lk) rfl S.co S.gen rfl (PySem.W.codeRec_of KX hcd) (hb _ _ _ _ ?_)
 refine wpAny_newFunctionEnv_cells S.kind hkind fun env he s1 x=>?_
 subst he
 refine ⟨lim.keeps x.toInCall.keep,codeAny_func ?_⟩
 obtain ⟨t,ht,hq⟩:=hbody A outer s H vs Q E (hr.deeper _) hsp
 have I:Inv (Jss CX P w K mg base N qual scope f cdv A outer s H E) [] (start N vs) H s1:=Js0 S hr.hd e0 hl r x
 refine wpAny_mono (ht [] s1 (start N vs) H _ I hq) (fun fl s' hs=>?_) fun e s' hs=>hs
 have fin:∀{σ':St} {H':Hp} {v:V} {u:Value},Inv (Jss CX P w K mg base N qual scope f cdv A outer s H E) [] σ' H' s'→RelV v u→Q v H'→CE outer P w H s Q u s':=
  fun {σ' H' v u} J rv q=>⟨v,H',J.os,J.bare,J.base,J.hok,rv,q⟩
 cases fl with
 |ret u=>
  obtain ⟨v,σ',H',J,rv,q⟩:=hs
  exact fin J rv q
 |next=>
  obtain ⟨σ',H',J,q⟩:=hs
  exact fin (v:=V.non) (u:=Value.none) J rfl q
 |brk=>
  obtain ⟨_,_,_,q⟩:=hs
  exact False.elim q
 |cont=>
  obtain ⟨_,_,_,q⟩:=hs
  exact False.elim q
end L2
namespace L2
open PySem PySem.Spec PyProof.Rows
section
variable {X:Cx} {x:Str} {p pos:Pos} {e:Expr} {es:List Expr} {t:TA} {id T:String} {r:List V→Hp→VK→Prop}
def tCB (r:List V→Hp→VK→Prop) (t:TA):TE:=fun σ H Q=>t σ H fun vs H1=>r vs H1 Q
theorem Jic (hc:Jk3 X (.builtin id) r) (hg:Gl X x) (hm:X.mg x=none) (hv:bootBuiltins x=some (.builtin id)) (ha:PA X (e::es) t) (hn:x≠"__name__" :=by decide) (hdb:(x==("__debug__" :Str))=false:=by decide)
  (he:starEach (e::es) X.env=(false,eval e X.env)::starEach es X.env:=by rfl) (hpl:(backTo pos (starEach es X.env)).any (·.1)=false:=by rfl):PE X (.Call (.Name x p) (e::es) [] pos) (tCB r t):=by
 intro pins s σ H Q I h
 refine wpAny_Call_Name_kw (Jmc I hg hm hv ?_ hn hdb)
 exact PyProof.Rows.callWith_builtin1 (thn (ha pos pins s σ H _ I h) fun us s1 ⟨vs,H1,I1,r1,q1⟩=>hc pins s1 σ H1 vs us Q I1 r1 q1) he hpl
theorem Jj6 (hc:Jk3 X (.type T) r) (hg:Gl X x) (hm:X.mg x=none) (hv:bootBuiltins x=some (.type T)) (ha:PA X (e::es) t) (hn:x≠"__name__" :=by decide) (hdb:(x==("__debug__" :Str))=false:=by decide)
  (he:starEach (e::es) X.env=(false,eval e X.env)::starEach es X.env:=by rfl) (hpl:(backTo pos (starEach es X.env)).any (·.1)=false:=by rfl):PE X (.Call (.Name x p) (e::es) [] pos) (tCB r t):=by
 intro pins s σ H Q I h
 refine wpAny_Call_Name_kw (Jmc I hg hm hv ?_ hn hdb)
 exact PyProof.Rows.callWith_type1 (thn (ha pos pins s σ H _ I h) fun us s1 ⟨vs,H1,I1,r1,q1⟩=>hc pins s1 σ H1 vs us Q I1 r1 q1) he hpl
end
end L2
namespace HT
open PySem PyProof.Rows
section
open PySem.SeqAt
open PySem.AutoSeq1 (wpAny_loadPart')
open PySem.MeetsSeq PySem.MeetsSeq2 PySem.MeetsSeq3
end
section
variable {prog:Program} {w:World} {A:Around} {E:Value→Shared→Prop} {s:Shared}
def sIx (n d:Nat):Option Int→Nat
 |none=>d
 |some v=>if v < 0 then (v+(n:Int)).toNat else min v.toNat n
theorem sIx_none (n d:Nat):sIx n d none=d:=rfl
theorem sIx_nat (n d k:Nat):sIx n d (some (k:Int))=min k n:=by
 show (if (k:Int) < 0 then ((k:Int)+(n:Int)).toNat else min (k:Int).toNat n)=min k n
 rw [if_neg (by omega),Int.toNat_natCast]
end
end HT
namespace L2
open PySem PySem.Spec PyProof.Rows
abbrev TO:=St→Hp→(Option Int→Hp→Prop)→Prop
def PO (X:Cx) (e:Option Expr) (t:TO):Prop:=
 ∀(pins:List (Addr×Obj)) (s:Shared) (σ:St) (H:Hp) (Q:Option Int→Hp→Prop),Inv X pins σ H s→t σ H Q→
  wpAny (model X.prog X.w) X.A (evalPart e X.env) (fun u s'=>∃o H',Inv X pins σ H' s'∧IsPart u o∧Q o H') X.xe s
def Yb5:TO:=fun _ H Q=>Q none H
def tPart (t:TE):TO:=fun σ H Q=>t σ H fun x H1=>∃i,x= .int i∧Q (some i) H1
section
variable {X:Cx} {e:Expr} {te:TE} {lo hi:Option Expr} {tl th:TO} {pos p2:Pos}
theorem Jo5:PO X none Yb5:=by
 intro pins s σ H Q I h
 rw [evalPart_none]
 exact wpAny_pure ⟨none,H,I,.none,h⟩
theorem Jo6 (h:PE X e te):PO X (some e) (tPart te):=by
 intro pins s σ H Q I hw
 rw [evalPart_some]
 refine thn (h pins s σ H _ I hw) fun u s1 ⟨x,H1,I1,r1,q1⟩=>?_
 obtain ⟨i,rfl,q⟩:=q1
 obtain ⟨t,rfl⟩:=r1
 exact ⟨some i,H1,I1,.int i t,q⟩
def SlR (X:Cx) (r:V→Option Int→Option Int→Hp→VK→Prop):Prop:=
 ∀(pins:List (Addr×Obj)) (s:Shared) (σ:St) (H:Hp) (x:V) (v vl vu:Value) (lo hi:Option Int) (sl:Addr) (Q:VK),Inv X pins σ H s→RelV x v→s.heap.IsSliceOf sl vl vu .none→IsPart vl lo→IsPart vu hi→r x lo hi H Q→
  ∃T id,typeLookup (.type T) "__getitem__" =pure (some (.builtin id))∧s.TypeIs v T∧wpAny (model X.prog X.w) X.A (getItem v (.ref sl)) (EP X pins σ Q) X.xe s
def tSl (r:V→Option Int→Option Int→Hp→VK→Prop) (te:TE) (tl th:TO):TE:=fun σ H Q=>te σ H fun x H1=>tl σ H1 fun l H2=>th σ H2 fun u H3=>r x l u H3 Q
theorem Jmj {r:V→Option Int→Option Int→Hp→VK→Prop} (hr:SlR X r) (he:PE X e te) (hl:PO X lo tl) (hu:PO X hi th):PE X (.Subscript e (.Slice lo hi none p2) pos) (tSl r te tl th):=by
 intro pins s σ H Q I h
 refine Subscript_ (thn (he pins s σ H _ I h) fun v s1 ⟨x,H1,I1,r1,q1⟩=>?_)
 refine wpAny_Slice (thn (hl pins s1 σ H1 _ I1 q1) fun vl s2 ⟨l,H2,I2,pl,q2⟩=>thn (hu pins s2 σ H2 _ I2 q2) fun vu s3 ⟨u,H3,I3,pu,q3⟩=>?_)
 rw [evalPart_none]
 refine wpAny_pure ?_
 have I4:Inv X pins σ H3 {s3 with heap:=s3.heap.push {cls:=.type "slice",data:=.fields #[vl,vu,.none]}}:=I3.kept (t':=s3.toks) fun b ob q=>Heap.get?_push_of_some _ q
 obtain ⟨T,id,hT,ht,hg⟩:=hr pins {s3 with heap:=s3.heap.push {cls:=.type "slice",data:=.fields #[vl,vu,.none]}} σ H3 x v vl vu l u s3.heap.objs.size Q I4 r1 (Heap.IsSliceOf.new ..) pl pu q3
 show wpAny (model X.prog X.w) X.A (subscriptTail e (.Slice lo hi none p2) v (.ref s3.heap.objs.size)) (EP X pins σ Q) X.xe {s3 with heap:=s3.heap.push {cls:=.type "slice",data:=.fields #[vl,vu,.none]}}
 exact tail_any (ops:=[.ref s3.heap.objs.size,v]) ht hT hg (by with_unfolding_all rfl)
def Jjn (xs:List V) (lo hi:Option Int):List V:=(xs.drop (HT.sIx xs.length 0 lo)).take (HT.sIx xs.length xs.length hi - HT.sIx xs.length 0 lo)
theorem Jp6 (xs:List V) (lo hi:Option Int):(Jjn xs lo hi).length≤xs.length:=by
 unfold Jjn
 rw [List.length_take,List.length_drop]
 omega
end
end L2
namespace L2
open PySem PySem.Spec PyProof.Rows
def ixN (n:Nat) (i:Int):Option Nat:=if 0≤i then (if i < n then some i.toNat else none) else if -(n:Int)≤i then some (i+n).toNat else none
def atI {α:Type} (xs:List α) (i:Int):Option α:=(ixN xs.length i).bind fun j=>xs[j]?
theorem Jwp {n:Nat} {i:Int} {j:Nat} (h:ixN n i=some j):seqIndex? i n=some j∧j < n∧ -(n:Int)≤i∧i < n:=by
 unfold ixN at h
 by_cases h0:0≤i
 ·rw [if_pos h0] at h
  by_cases h1:i < n
  ·rw [if_pos h1] at h
   have e:i.toNat=j:=Option.some.inj h
   exact ⟨by rw [seqIndex_of h0 h1,e],by omega,by omega,h1⟩
  ·rw [if_neg h1] at h;cases h
 ·rw [if_neg h0] at h
  by_cases h1: -(n:Int)≤i
  ·rw [if_pos h1] at h
   have e:(i+n).toNat=j:=Option.some.inj h
   exact ⟨by rw [seqIndex_neg (by omega) h1,e],by omega,h1,by omega⟩
  ·rw [if_neg h1] at h;cases h
theorem Jsm {α:Type} {xs:List α} {i:Int} {v:α} (h:atI xs i=some v):∃j,seqIndex? i xs.length=some j∧xs[j]?=some v∧j < xs.length∧ -(xs.length:Int)≤i∧i < xs.length:=by
 unfold atI at h
 cases e:ixN xs.length i with
 |none=>rw [e] at h;cases h
 |some j=>
  rw [e] at h
  obtain ⟨h1,h2,h3,h4⟩:=Jwp e
  exact ⟨j,h1,h,h2,h3,h4⟩
theorem Jjv {α:Type} {xs:List α} {j:Nat} {v:α} (h:xs[j]?=some v):atI xs (j:Int)=some v:=by
 have hj:j < xs.length:=(List.getElem?_eq_some_iff.mp h).1
 have e:ixN xs.length (j:Int)=some j:=by
  unfold ixN
  rw [if_pos (by omega),if_pos (by omega)];simp
 unfold atI;rw [e];exact h
def Ys (b:Expr):Prop:=∀o i,subscripted b false o i=operate [o,i] (getItem o i)
def IxR (X:Cx) (r:R2):Prop:=
 ∀(value slice:Expr) (pins:List (Addr×Obj)) (s:Shared) (σ:St) (H:Hp) (x y:V) (v u:Value) (Q:VK),Inv X pins σ H s→RelV x v→RelV y u→r x y H Q→
  subscripted slice false v u=operate [v,u] (getItem v u)→wpAny (model X.prog X.w) X.A (subscriptTail value slice v u) (EP X pins σ Q) X.xe s
def MtR (X:Cx) (id:String) (r:V→List V→Hp→VK→Prop):Prop:=
 ∀(pins:List (Addr×Obj)) (s:Shared) (σ:St) (H:Hp) (x:V) (xs:List V) (v:Value) (us:List Value) (Q:VK),Inv X pins σ H s→RelV x v→Vals xs us→r x xs H Q→
  wpAny (model X.prog X.w) X.A (call (.builtin id) (v::us)) (EP X pins σ Q) X.xe s
section
variable {X:Cx} {a b:Expr} {ta tb:TE} {pos:Pos}
theorem Jin {r:R2} (hr:IxR X r) (ha:PE X a ta) (hb:PE X b tb) (hs:Ys b):PE X (.Subscript a b pos) (tOp r ta tb):=by
 intro pins s σ H Q I h
 exact Subscript_ (binT ha hb I h fun v u s2 x y H2 I2 rx ry q=>hr a b pins s2 σ H2 x y v u Q I2 rx ry q (hs _ _))
def rIxL (K:PySem.W.Frag):R2:=fun x y H Q=>∃p xs i v,x= .ref p∧y= .int i∧SqL K H p xs∧atI xs i=some v∧Q v H
def rIxT (K:PySem.W.Frag):R2:=fun x y H Q=>∃p xs i v,x= .ref p∧y= .int i∧SqT K H p xs∧atI xs i=some v∧Q v H
def rIxS:R2:=fun x y H Q=>∃z i c,x= .str z∧y= .int i∧z.length≤sizeLine∧atI z.cps.toList i=some c∧Q (.str ⟨#[c]⟩) H
theorem Jiq:IxR X (rIxL X.K):=by
 intro value slice pins s σ H x y v u Q I rx ry h hs
 obtain ⟨p,xs,i,z,rfl,rfl,hq,he,q⟩:=h
 cases rx
 obtain ⟨t,rfl⟩:=ry
 obtain ⟨its,r,pl,hz⟩:=I.list hq
 obtain ⟨j,h1,h2,h3,h4,h5⟩:=Jsm he
 obtain ⟨w,ew,rw'⟩:=r.get h2
 have hl:=r.length
 have hn:=Jnf
 have fin:EP X pins σ Q w s:=⟨z,H,I,rw',q⟩
 by_cases h0:0≤i
 ·have hj:i.toNat=j:=by
   rw [seqIndex_of h0 h5] at h1
   exact Option.some.inj h1
  exact item_listR pl.isList h0 (by omega) (by rw [hj];simpa using ew) fin hs
 ·have hj:(i+(its.toArray.size:Int)).toNat=j:=by
   rw [seqIndex_neg (by omega) h4] at h1
   rw [List.size_toArray,←hl]
   exact Option.some.inj h1
  exact subscriptTail_builtinR (x:=w) pl.isList.typeIs slot_list_getitem.lookup
   (wpAny_getItem_list_neg (Q:=fun r s'=>r=w∧EP X pins σ Q r s') pl.isList (by omega) (by rw [List.size_toArray] <;> omega) (by omega) (by rw [hj];simpa using ew) ⟨rfl,fin⟩) hs
theorem Jj9:IxR X (rIxT X.K):=by
 intro value slice pins s σ H x y v u Q I rx ry h hs
 obtain ⟨p,xs,i,z,rfl,rfl,hq,he,q⟩:=h
 cases rx
 obtain ⟨t,rfl⟩:=ry
 obtain ⟨its,r,pl,hz⟩:=I.tuple hq
 obtain ⟨j,h1,h2,h3,h4,h5⟩:=Jsm he
 obtain ⟨w,ew,rw'⟩:=r.get h2
 have hl:=r.length
 have hn:=Jnf
 have fin:EP X pins σ Q w s:=⟨z,H,I,rw',q⟩
 exact subscriptTail_builtinR (x:=w) pl.typeIs slot_tuple_getitem.lookup
  (getItem_tuple (j:=j) (Q:=fun r s'=>r=w∧EP X pins σ Q r s') pl (by omega) (by omega) (by rw [List.size_toArray,←hl];exact h1) (by simpa using ew) ⟨rfl,fin⟩) hs
theorem ix_str:IxR X rIxS:=by
 intro value slice pins s σ H x y v u Q I rx ry h hs
 obtain ⟨z,i,c,rfl,rfl,hz,he,q⟩:=h
 obtain ⟨t,rfl⟩:=rx
 obtain ⟨t',rfl⟩:=ry
 obtain ⟨j,h1,h2,h3,h4,h5⟩:=Jsm he
 have hl:z.cps.toList.length=z.length:=by simp [Str.length]
 rw [hl] at h1 h4 h5
 have hn:=Jnf
 exact tail_any (typeIs_str s z t) slot_str_getitem.lookup (getItem_str (c:=c) (by
  have e1:decide (i < -(2^63:Int))=false:=decide_eq_false (by omega)
  have e2:decide (i≥2^63)=false:=decide_eq_false (by omega)
  rw [e1,e2,Bool.or_false]) (by rw [h1];simpa using h2) ⟨.str ⟨#[c]⟩,H,I.tok _,⟨_,rfl⟩,q⟩) hs
theorem Jvd (its:List Value) (n j:Nat) (u:Value):Obj.mapSeq (·.setIfInBounds j u) {cls:=.type "list",data:=.seq its.toArray n}={cls:=.type "list",data:=.seq (its.set j u).toArray n}:=by
 simp [Obj.mapSeq]
theorem Inv.lst {pins:List (Addr×Obj)} {σ:St} {H:Hp} {s:Shared} {p:Addr} {xs:List V} (I:Inv X pins σ H s) (h:H p=some (.lst xs)):
  ∃(its:List Value) (n:Nat),Vals xs its∧s.heap.get? p=some {cls:=.type "list",data:=.seq its.toArray n}∧xs.length≤sizeLine:=by
 obtain ⟨z,its,n,r,e⟩:=I.hok p _ h
 exact ⟨its,n,r,e,z⟩
theorem Inv.lstUpd {pins:List (Addr×Obj)} {σ:St} {H:Hp} {s:Shared} {p:Addr} {xs ys:List V} {its its':List Value} {n n':Nat} {f:Obj→Obj} (I:Inv X pins σ H s) (h:H p=some (.lst xs))
  (ho:s.heap.get? p=some {cls:=.type "list",data:=.seq its.toArray n}) (hf:f {cls:=.type "list",data:=.seq its.toArray n}={cls:=.type "list",data:=.seq its'.toArray n'}) (r:Vals ys its') (hz:ys.length≤sizeLine) (t:Nat):
  Inv X pins σ (upd H p (.lst ys)) {s with heap:=s.heap.update p f,toks:=t}:=by
 have e:(s.heap.update p f).get? p=some {cls:=.type "list",data:=.seq its'.toArray n'}:=by
  rw [Heap.get?_update_self f ho (by rw [hf] <;> rfl),hf]
 refine I.write (x:=p) (e:=p) (by rw [h];trivial) (.inl rfl) (fun b u hb q=>(Heap.get?_update_other _ _ (Ne.symm hb)).trans q) ⟨_,e⟩ ?_
 exact ⟨hz,its',n',r,e⟩
def rSetL:V→V→V→Hp→(Hp→Prop)→Prop:=fun o i v H Q=>∃p xs k j,o= .ref p∧i= .int k∧H p=some (.lst xs)∧ixN xs.length k=some j∧Q (upd H p (.lst (xs.set j v)))
theorem Jqw:PSet X rSetL:=by
 intro pins s σ H o i v ov iv u Q I ro ri rv h
 obtain ⟨p,xs,k,j,rfl,rfl,hp,hj,q⟩:=h
 cases ro
 obtain ⟨t,rfl⟩:=ri
 obtain ⟨its,n,r,ho,hz⟩:=I.lst hp
 obtain ⟨h1,h2,h3,h4⟩:=Jwp hj
 have hl:=r.length
 have hn:=Jnf
 have I':Inv X pins σ (upd H p (.lst (xs.set j v))) {s with heap:=s.heap.update p (Obj.mapSeq (·.setIfInBounds j u))}:=
  I.lstUpd hp ho (Jvd its n j u) (r.set rv j) (by rw [List.length_set];exact hz) s.toks
 by_cases h0:0≤k
 ·have hk:k.toNat=j:=by
   rw [seqIndex_of h0 h4] at h1
   exact Option.some.inj h1
  exact PySem.W.ki_setAt ho h0 (by omega) (by rw [List.size_toArray,←hl];exact h4) (by rw [hk];exact ⟨_,I',q⟩)
 ·have hk:(k+(its.toArray.size:Int)).toNat=j:=by
   rw [seqIndex_neg (by omega) h3] at h1
   rw [List.size_toArray,←hl]
   exact Option.some.inj h1
  exact PySem.W.ki_setBack ho (by omega) (by rw [List.size_toArray,←hl];exact h3) (by omega) (by rw [hk];exact ⟨_,I',q⟩)
theorem Jti (lo hi:Option Int) (n:Nat):(sliceBounds lo hi none n).1=((HT.sIx n 0 lo:Nat):Int)∧(sliceBounds lo hi none n).2.1=((HT.sIx n n hi:Nat):Int)∧(sliceBounds lo hi none n).2.2=1:=by
 refine ⟨?_,?_,rfl⟩
 ·cases lo with
  |none=>simp [sliceBounds,HT.sIx]
  |some i=>
   simp only [sliceBounds,HT.sIx,Option.getD_none,show (1:Int) > 0 by decide,if_true]
   by_cases h:i < 0
   ·simp only [h,if_true] <;> omega
   ·simp only [h,if_false] <;> omega
 ·cases hi with
  |none=>simp [sliceBounds,HT.sIx]
  |some i=>
   simp only [sliceBounds,HT.sIx,Option.getD_none,show (1:Int) > 0 by decide,if_true]
   by_cases h:i < 0
   ·simp only [h,if_true] <;> omega
   ·simp only [h,if_false] <;> omega
theorem Jrq (its:List Value) (lo hi:Option Int):slicePick its.toArray lo hi none=((its.drop (HT.sIx its.length 0 lo)).take (HT.sIx its.length its.length hi - HT.sIx its.length 0 lo)).toArray:=by
 obtain ⟨h1,h2,h3⟩:=Jti lo hi its.toArray.size
 unfold slicePick
 rw [h1,h2,h3]
 simp only [sliceRange_one,pick_run,List.size_toArray] <;> rfl
def rSlL (K:PySem.W.Frag):V→Option Int→Option Int→Hp→VK→Prop:=fun x lo hi H Q=>∃a xs,x= .ref a∧SqL K H a xs∧∀p,H p=none→Q (.ref p) (upd H p (.lst (Jjn xs lo hi)))
theorem Jod:SlR X (rSlL X.K):=by
 intro pins s σ H x v vl vu lo hi sl Q I rx hs pl pu h
 obtain ⟨a,xs,rfl,hx,q⟩:=h
 cases rx
 obtain ⟨its,r,ht,hz⟩:=I.list hx
 have hlen:=r.length
 refine ⟨"list",_,slot_list_getitem.lookup,ht.isList.typeIs,?_⟩
 refine wpAny_getItem_list_slice ht.isList hs pl pu .none (by simp) ?_ (by rw [List.size_toArray] <;> omega)
 rw [Jrq,←hlen]
 refine ⟨.ref s.heap.objs.size,_,I.laid (t':=s.toks) (o:=.lst (Jjn xs lo hi)) (fun b ob q=>Heap.get?_push_of_some _ q) (Nat.le_refl _) ?_,rfl,q _ (I.hok.fresh (Nat.le_refl _))⟩
 exact ⟨Nat.le_trans (Jp6 xs lo hi) hz,_,0,(r.drop (HT.sIx xs.length 0 lo)).take (HT.sIx xs.length xs.length hi - HT.sIx xs.length 0 lo),Heap.get?_push_size _ rfl⟩
def Jn7:V→Bool
 | .non=>true
 | .bl _=>true
 | .int _=>true
 | .str _=>true
 |_=>false
def eqV:V→V→Bool
 | .non,.non=>true
 | .bl a,.bl b=>a==b
 | .bl a,.int b=>(if a then 1 else 0)==b
 | .int a,.bl b=>a==(if b then 1 else 0)
 | .int a,.int b=>a==b
 | .str a,.str b=>a==b
 |_,_=>false
theorem eqAt_V {A:Around} {s:Shared} {y x:V} {u v:Value} (ry:RelV y u) (rx:RelV x v) (fy:Jn7 y=true) (fx:Jn7 x=true):SeqAt.EqAt A s u v (eqV y x):=by
 cases y with
 |non=>
  cases ry
  cases x with
  |non=>cases rx;exact SeqAt.EqAt.same _
  |bl b=>cases rx;exact SeqAt.EqAt.none_bool b
  |int b=>obtain ⟨t,rfl⟩:=rx;exact SeqAt.EqAt.none_int b t
  |str b=>obtain ⟨t,rfl⟩:=rx;exact SeqAt.EqAt.none_str b t
  |_=>exact absurd (show false=true from fx) Bool.false_ne_true
 |bl a=>
  cases ry
  cases x with
  |non=>cases rx;exact SeqAt.EqAt.bool_none a
  |bl b=>cases rx;exact SeqAt.EqAt.bool_bool a b
  |int b=>obtain ⟨t,rfl⟩:=rx;exact SeqAt.EqAt.bool_int a b t
  |str b=>obtain ⟨t,rfl⟩:=rx;exact SeqAt.EqAt.bool_str a b t
  |_=>exact absurd (show false=true from fx) Bool.false_ne_true
 |int a=>
  obtain ⟨t',rfl⟩:=ry
  cases x with
  |non=>cases rx;exact SeqAt.EqAt.int_none a t'
  |bl b=>cases rx;exact SeqAt.EqAt.int_bool a t' b
  |int b=>obtain ⟨t,rfl⟩:=rx;exact SeqAt.EqAt.int_int a t' b t
  |str b=>obtain ⟨t,rfl⟩:=rx;exact SeqAt.EqAt.int_str a t' b t
  |_=>exact absurd (show false=true from fx) Bool.false_ne_true
 |str a=>
  obtain ⟨t',rfl⟩:=ry
  cases x with
  |non=>cases rx;exact SeqAt.EqAt.str_none a t'
  |bl b=>cases rx;exact SeqAt.EqAt.str_bool a t' b
  |int b=>obtain ⟨t,rfl⟩:=rx;exact SeqAt.EqAt.str_int a t' b t
  |str b=>obtain ⟨t,rfl⟩:=rx;exact SeqAt.EqAt.str_str a t' b t
  |_=>exact absurd (show false=true from fx) Bool.false_ne_true
 |_=>exact absurd (show false=true from fy) Bool.false_ne_true
def eqU (x:V) (u:Value):Bool:=match u with
 | .none=>eqV .non x
 | .bool b=>eqV (.bl b) x
 | .int i _=>eqV (.int i) x
 | .str z _=>eqV (.str z) x
 |_=>false
theorem Jyu {x y:V} {u:Value} (r:RelV y u) (f:Jn7 y=true):eqU x u=eqV y x:=by
 cases y with
 |non=>cases r;rfl
 |bl b=>cases r;rfl
 |int i=>obtain ⟨t,rfl⟩:=r;rfl
 |str z=>obtain ⟨t,rfl⟩:=r;rfl
 |_=>exact absurd (show false=true from f) Bool.false_ne_true
theorem Jsl {x:V}:∀{xs:List V} {us:List Value},Vals xs us→xs.all Jn7=true→us.any (eqU x)=xs.any fun y=>eqV y x
 |_,_,.nil,_=>rfl
 |y::xs,u::us,.cons r t,f=>by
  rw [List.all_cons,Bool.and_eq_true] at f
  rw [List.any_cons,List.any_cons,Jyu r f.1,Jsl t f.2]
theorem Jqd {A:Around} {s:Shared} {x:V} {v:Value} (rx:RelV x v) (fx:Jn7 x=true):∀{xs:List V} {us:List Value},Vals xs us→xs.all Jn7=true→∀u∈us,SeqAt.EqAt A s u v (eqU x u)
 |_,_,.nil,_=>fun u hu=>by cases hu
 |y::xs,u::us,.cons r t,f=>fun u' hu=>by
  rw [List.all_cons,Bool.and_eq_true] at f
  rcases List.mem_cons.mp hu with rfl|hu
  ·rw [Jyu r f.1];exact eqAt_V r rx f.1 fx
  ·exact Jqd rx fx t f.2 u' hu
def inV (x:V) (xs:List V):Bool:=xs.any fun y=>eqV y x
def rIn (K:PySem.W.Frag) (neg:Bool):R2:=fun x y H Q=>∃p xs,y= .ref p∧(SqL K H p xs∨SqT K H p xs)∧Jn7 x=true∧xs.all Jn7=true∧Q (.bl (if neg then !inV x xs else inV x xs)) H
theorem Jxp:OpR X (compareOp .In) (rIn X.K false):=by
 intro pins s σ H x y v u Q I rx ry h
 obtain ⟨p,xs,rfl,hq,fx,fs,q⟩:=h
 cases ry
 rcases hq with hq|hq
 ·obtain ⟨its,r,pl,hz⟩:=I.list hq
  refine SeqAt.in_listAt (eqU x) pl.isList (fun w hw=>Jqd rx fx r fs w (by simpa using hw)) ⟨.bl _,H,I,rfl,?_⟩
  rw [show its.toArray.any (eqU x)=its.any (eqU x) by simp,Jsl r fs]
  exact q
 ·obtain ⟨its,r,pl,hz⟩:=I.tuple hq
  refine SeqAt.in_tupleAt (eqU x) pl (fun w hw=>Jqd rx fx r fs w (by simpa using hw)) ⟨.bl _,H,I,rfl,?_⟩
  rw [show its.toArray.any (eqU x)=its.any (eqU x) by simp,Jsl r fs]
  exact q
theorem Jil:Jk3 X (.builtin "len") (fun xs H Q=>∃p ys,xs= [.ref p]∧(SqL X.K H p ys∨SqT X.K H p ys)∧Q (.int ys.length) H):=by
 intro pins s σ H xs us Q I r h
 obtain ⟨p,ys,rfl,hq,q⟩:=h
 obtain ⟨u,rfl,rx⟩:=Jl2 r
 cases rx
 have hn:=Jnf
 rcases hq with hq|hq
 ·obtain ⟨its,r',pl,hz⟩:=I.list hq
  have hlen:=r'.length
  exact Calls.call_len_list pl.isList (by simp only [List.size_toArray] <;> omega) ⟨.int ys.length,H,I.tok _,⟨s.toks+1,by rw [List.size_toArray,hlen]⟩,q⟩
 ·obtain ⟨its,r',pl,hz⟩:=I.tuple hq
  have hlen:=r'.length
  exact len_tuple pl (by simp only [List.size_toArray] <;> omega) ⟨.int ys.length,H,I.tok _,⟨s.toks+1,by rw [List.size_toArray,hlen]⟩,q⟩
theorem Jsp:Jk3 X (.builtin "len") (fun xs H Q=>∃z,xs= [.str z]∧z.length≤sizeLine∧Q (.int z.length) H):=by
 intro pins s σ H xs us Q I r h
 obtain ⟨z,rfl,hz,q⟩:=h
 obtain ⟨u,rfl,t,rfl⟩:=Jl2 r
 have hn:=Jnf
 exact len_str (by omega) ⟨.int z.length,H,I.tok _,⟨_,rfl⟩,q⟩
theorem Jsq:Jk3 X (.type "list") (fun xs H Q=>∃p ys,xs= [.ref p]∧(SqL X.K H p ys∨SqT X.K H p ys)∧∀l,H l=none→Q (.ref l) (upd H l (.lst ys))):=by
 intro pins s σ H xs us Q I r h
 obtain ⟨p,ys,rfl,hq,q⟩:=h
 obtain ⟨u,rfl,rx⟩:=Jl2 r
 cases rx
 have fin:∀(its:List Value),Vals ys its→ys.length≤sizeLine→∀(h':Heap) (c':Nat),(∀b o',s.heap.get? b=some o'→h'.get? b=some o')→
   h'.get? s.heap.objs.size=some {cls:=.type "list",dict:=none,data:=.seq its.toArray c',slots:=#[]}→EP X pins σ Q (.ref s.heap.objs.size) {s with heap:=h'}:=fun its r' hz h' c' kp e=>
  ⟨.ref s.heap.objs.size,_,I.laid (t':=s.toks) kp (Nat.le_refl _) (show ObjOk X.prog X.w _ h' _ (.lst ys) from ⟨hz,its,c',r',e⟩),rfl,q _ (I.hok.fresh (Nat.le_refl _))⟩
 rcases hq with hq|hq
 ·obtain ⟨its,r',pl,hz⟩:=I.list hq
  have hlen:=r'.length
  obtain ⟨o,ho,hc,n,hd⟩:=pl.isList
  exact call_list_seq p (.inl rfl) ho hc hd (fun h' c' kp e=>fin its r' hz h' c' kp e) (by simp only [List.size_toArray] <;> omega)
 ·obtain ⟨its,r',pl,hz⟩:=I.tuple hq
  have hlen:=r'.length
  obtain ⟨o,ho,hc,n,hd⟩:=pl
  exact call_list_seq p (.inr rfl) ho hc hd (fun h' c' kp e=>fin its r' hz h' c' kp e) (by simp only [List.size_toArray] <;> omega)
theorem Jkn:Jk3 X (.type "tuple") (fun xs H Q=>∃p ys,xs= [.ref p]∧((SqL X.K H p ys∧∀l,H l=none→Q (.ref l) (upd H l (.tup ys)))∨(SqT X.K H p ys∧Q (.ref p) H))):=by
 intro pins s σ H xs us Q I r h
 obtain ⟨p,ys,rfl,h⟩:=h
 obtain ⟨u,rfl,rx⟩:=Jl2 r
 cases rx
 rcases h with ⟨hq,q⟩|⟨hq,q⟩
 ·obtain ⟨its,r',pl,hz⟩:=I.list hq
  have hlen:=r'.length
  refine call_tuple_list pl.isList (fun h' kp=>?_) (by simp only [List.size_toArray] <;> omega)
  have I1:Inv X pins σ H {s with heap:=h'}:=I.kept (t':=s.toks) kp
  have I2:Inv X pins σ (upd H h'.objs.size (.tup ys)) {s with heap:=h'.push {cls:=.type "tuple",data:=.seq its.toArray}}:=
   I1.laid (t':=s.toks) (fun b o e=>Heap.get?_push_of_some _ e) (Nat.le_refl _) (show ObjOk X.prog X.w _ _ _ (.tup ys) from ⟨hz,its,r',IsTup.new _ _⟩)
  exact ⟨.ref h'.objs.size,_,I2,rfl,q _ (I1.hok.fresh (Nat.le_refl _))⟩
 ·obtain ⟨its,r',pl,hz⟩:=I.tuple hq
  exact call_tuple_same pl ⟨.ref p,H,I,rfl,q⟩
def tyV (K:PySem.W.Frag) (T:String) (x:V) (H:Hp):Prop:=match x with
 | .str _=>T="str"
 | .int _=>T="int"
 | .ref p=>(T="list" ∧∃xs,SqL K H p xs)∨(T="tuple" ∧∃o,K.lookup p=some o∧o.cls= .type "tuple" ∧o.dict=none)∨
   (T="dict" ∧((∃kvs,H p=some (.dK kvs))∨∃kvs,H p=some (.dT kvs)))∨(T="set" ∧∃S n,H p=some (.set S n))
 |_=>False
theorem tyV_is {pins:List (Addr×Obj)} {σ:St} {H:Hp} {s:Shared} {T:String} {x:V} {v:Value} (I:Inv X pins σ H s) (r:RelV x v) (ty:tyV X.K T x H):
  s.TypeIs v T∧∀a,v= .ref a→∃ob,s.heap.get? a=some ob∧ob.dict=none:=by
 cases x with
 |str z=>
  obtain ⟨t,rfl⟩:=r
  cases (show T="str" from ty)
  exact ⟨typeIs_str s z t,fun _ e=>nomatch e⟩
 |int i=>
  obtain ⟨t,rfl⟩:=r
  cases (show T="int" from ty)
  exact ⟨typeIs_int s i t,fun _ e=>nomatch e⟩
 |ref p=>
  cases r
  rcases ty with ⟨rfl,xs,hq⟩|⟨rfl,o,hk,hc,hd⟩|⟨rfl,hk⟩|⟨rfl,S,n,hk⟩
  ·obtain ⟨its,_,pl,_⟩:=I.list hq
   refine ⟨pl.isList.typeIs,fun a e=>?_⟩
   cases e
   obtain ⟨o,n,e,c,hd,_⟩:=pl
   exact ⟨o,e,hd⟩
  ·refine ⟨⟨o,I.kIn p o hk,hc⟩,fun a e=>?_⟩
   cases e
   exact ⟨o,I.kIn _ o hk,hd⟩
  ·have z:∃o,s.heap.get? p=some o∧o.ExactDict:=by
    rcases hk with ⟨kvs,hk⟩|⟨kvs,hk⟩
    ·obtain ⟨_,_,_,_,o,_,_,e,ex,_⟩:=I.hok p _ hk
     exact ⟨o,e,ex⟩
    ·obtain ⟨_,_,_,_,o,_,_,e,ex,_⟩:=I.hok p _ hk
     exact ⟨o,e,ex⟩
   obtain ⟨o,e,ex⟩:=z
   refine ⟨⟨o,e,ex.1⟩,fun a e2=>?_⟩
   cases e2
   exact ⟨o,e,ex.2.1⟩
  ·obtain ⟨o,_,_,_,e,ex,_⟩:=I.hok p _ hk
   refine ⟨⟨o,e,ex.1⟩,fun a e2=>?_⟩
   cases e2
   exact ⟨o,e,ex.2.1⟩
 |_=>exact False.elim ty
def tBM (K:PySem.W.Frag) (T:String) (r:V→List V→Hp→VK→Prop) (to:TE) (t:TA):TE:=fun σ H Q=>to σ H fun x H1=>tyV K T x H1∧t σ H1 fun xs H2=>r x xs H2 Q
variable {o e:Expr} {es:List Expr} {to:TE} {t:TA} {name:Str} {apos cpos:Pos} {T id:String} {r:V→List V→Hp→VK→Prop}
theorem Jph (pa:PlainAttrs T) (slot:Slot T name id) (hty:typeOf (.builtin id)=pure (.type "method_descriptor")) (hm:MtR X id r) (ho:PE X o to) (ha:PA X (e::es) t)
  (hbase:attributeBase o name X.env (eval o X.env)=eval o X.env:=by rfl)
  (hfew:((backTo cpos (starEach (e::es) X.env)).all (fun x=>!x.1)&&(backToKw cpos (keywordEach [] X.env)).all (fun x=>x.1.isSome)
   &&decide ((e::es).length+([]:List Keyword).length+(if ([]:List Keyword).isEmpty then 0 else 1) < 30))=true:=by rfl)
  (hline:(apos.endLine==cpos.line)=true:=by rfl) (hs:starEach (e::es) X.env=(false,eval e X.env)::starEach es X.env:=by rfl) (hplain:(backTo cpos (starEach es X.env)).any (·.1)=false:=by rfl):
  PE X (.Call (.Attribute o name apos) (e::es) [] cpos) (tBM X.K T r to t):=by
 intro pins s σ H Q I h
 refine wpAny_Call_method_late hbase hfew hline rfl (thn (ho pins s σ H _ I h) fun v s1 ⟨x,H1,I1,r1,ty,q1⟩=>?_)
 obtain ⟨h1,h2⟩:=tyV_is I1 r1 ty
 refine ⟨T,id,pa,slot,hty,h1,h2,?_⟩
 have hA:=ha cpos pins s1 σ H1 _ I1 q1
 rw [hs] at hA⊢
 refine Calls.callWith_builtin (by show (false||(backTo cpos (starEach es X.env)).any (·.1))=false;rw [hplain] <;> rfl) (Calls.evalArgs_plain ?_)
 exact thn hA fun us s2 ⟨vs,H2,I2,r2,q2⟩=>hm pins s2 σ H2 x vs v us Q I2 r1 r2 q2
end
end L2
namespace L2
open PySem PySem.Spec PyProof.Rows
def MtM (X:Cx) (id:String) (r:V→List V→Hp→VK→Prop):Prop:=
 ∀(pins:List (Addr×Obj)) (s:Shared) (σ:St) (H:Hp) (x:V) (xs:List V) (v:Value) (us:List Value) (Q:VK),Inv X pins σ H s→RelV x v→Vals xs us→r x xs H Q→
  wpAny (model X.prog X.w) X.A (call (.builtin id) (v::us)) (EP X pins σ Q) X.xe s
theorem Vals.one:∀{x:V} {us:List Value},Vals [x] us→∃u,us= [u]∧RelV x u
 |_,_,.cons r .nil=>⟨_,rfl,r⟩
theorem Vals.rep {xs:List V} {us:List Value} (h:Vals xs us):∀k:Nat,Vals (List.replicate k xs).flatten (List.replicate k us).flatten
 |0=>.nil
 |k+1=>by
  rw [List.replicate_succ,List.replicate_succ,List.flatten_cons,List.flatten_cons]
  exact Vals.append h (Vals.rep h k)
theorem Jry (its:List Value):∀(k:Nat) (acc:List Value),
  List.foldl (fun x1 x2=>x1++x2) acc.toArray (List.replicate k its.toArray)=(acc++(List.replicate k its).flatten).toArray
 |0,acc=>by simp
 |k+1,acc=>by
  have e:acc.toArray++its.toArray=(acc++its).toArray:=by simp
  have e2:(acc++its)++(List.replicate k its).flatten=acc++(List.replicate (k+1) its).flatten:=by
   rw [List.replicate_succ,List.flatten_cons,List.append_assoc]
  rw [←e2,←Jry its k (acc++its),←e,List.replicate_succ,List.foldl_cons]
section
variable {X:Cx} {pins:List (Addr×Obj)} {σ:St} {H:Hp} {s:Shared} {l b:Addr} {xs ys zs:List V}
theorem Inv.lset {its its':List Value} {n:Nat} {f:Array Value→Array Value} {t':Nat} (I:Inv X pins σ H s) (hH:H l=some (.lst xs))
  (e:s.heap.get? l=some {cls:=.type "list",data:=.seq its.toArray n}) (hf:f its.toArray=its'.toArray) (hv:Vals ys its') (hz:ys.length≤sizeLine):
  Inv X pins σ (upd H l (.lst ys)) {s with heap:=s.heap.update l (Obj.mapSeq f),toks:=t'}:=by
 have q:=PySem.IsL.update e f
 rw [hf] at q
 refine I.write (x:=l) (e:=l) (by rw [hH];exact trivial) (.inl rfl) (fun b' u hb hu=>(Heap.get?_update_other s.heap (Obj.mapSeq f) (Ne.symm hb)).trans hu) ⟨_,q⟩ ?_
 exact ⟨hz,its',_,hv,q⟩
theorem Inv.lnew {its:List Value} {t':Nat} (I:Inv X pins σ H s) (hv:Vals ys its) (hz:ys.length≤sizeLine):
  Inv X pins σ (upd H s.heap.objs.size (.lst ys)) {s with heap:=s.heap.push {cls:=.type "list",data:=.seq its.toArray},toks:=t'}:=
 I.laid (fun _ _ q=>Heap.get?_push_of_some _ q) (Nat.le_refl _) ⟨hz,its,0,hv,Heap.get?_push_size _ rfl⟩
theorem Inv.fresh (I:Inv X pins σ H s):H s.heap.objs.size=none:=I.hok.fresh (Nat.le_refl _)
theorem Inv.lstM (I:Inv X pins σ H s) (hH:H l=some (.lst xs)):xs.length≤sizeLine∧∃(its:List Value) (n:Nat),Vals xs its∧xs.length=its.length∧s.heap.get? l=some {cls:=.type "list",data:=.seq its.toArray n}:=by
 obtain ⟨z,its,n,r,e⟩:=I.hok l _ hH
 exact ⟨z,its,n,r,r.length,e⟩
theorem Jzb {n:Nat} (h:n≤sizeLine):Builtin.List.listTooLong n=false:=by
 unfold Builtin.List.listTooLong
 exact decide_eq_false (by omega)
end
section
variable {X:Cx}
def Yak:V→List V→Hp→VK→Prop:=fun x vs H Q=>∃l xs y,x= .ref l∧vs= [y]∧H l=some (.lst xs)∧xs.length < sizeLine∧Q .non (upd H l (.lst (xs++ [y])))
theorem Jjx:MtM X "list.append" Yak:=by
 intro pins s σ H x vs v us Q I rx rv h
 obtain ⟨l,xs,y,rfl,rfl,hH,hz,q⟩:=h
 cases rx
 obtain ⟨u,rfl,ru⟩:=rv.one
 obtain ⟨z,its,n,r,hl,e⟩:=I.lstM hH
 refine call_meets F.slot_list_append ⟨_,e,rfl⟩ F.entry_list_append (F.args_list_append_2 _ _) (PySem.list_append l its.toArray n u (by rw [List.size_toArray];omega)) ⟨e,?_⟩
 refine ⟨.non,_,I.lset (its':=its++ [u]) hH e (by simp) (r.append (.cons ru .nil)) ?_,rfl,q⟩
 rw [List.length_append,List.length_singleton]
 omega
def rCat:R2:=fun x y H Q=>∃l b xs zs,x= .ref l∧y= .ref b∧H l=some (.lst xs)∧H b=some (.lst zs)∧xs.length+zs.length≤sizeLine∧∀p,H p=none→Q (.ref p) (upd H p (.lst (xs++zs)))
theorem Jnn:OpR X (binaryOp .Add) rCat:=by
 intro pins s σ H x y v u Q I rx ry h
 obtain ⟨l,b,xs,zs,rfl,rfl,hH,hB,hz,q⟩:=h
 cases rx
 cases ry
 obtain ⟨z,its,n,r,hl,e⟩:=I.lstM hH
 obtain ⟨z2,its2,n2,r2,hl2,e2⟩:=I.lstM hB
 refine PySem.P.add_list e e2 ?_ (by rw [List.size_toArray,List.size_toArray];omega)
 have ea:its.toArray++its2.toArray=(its++its2).toArray:=by simp
 rw [ea]
 exact ⟨.ref _,_,I.lnew (t':=s.toks) (r.append r2) (by rw [List.length_append];omega),rfl,q _ I.fresh⟩
def rRep:R2:=fun x y H Q=>∃l k xs,x= .ref l∧y= .int k∧H l=some (.lst xs)∧ -(2^63)≤k∧k < 2^63∧xs.length*k.toNat≤sizeLine∧
 ∀p,H p=none→Q (.ref p) (upd H p (.lst (List.replicate k.toNat xs).flatten))
theorem Ya6 {α:Type} (xs:List α) (k:Nat):(List.replicate k xs).flatten.length=k*xs.length:=by
 induction k with
 |zero=>simp
 |succ k ih=>rw [List.replicate_succ,List.flatten_cons,List.length_append,ih,Nat.succ_mul,Nat.add_comm]
theorem Jzf:OpR X (binaryOp .Mult) rRep:=by
 intro pins s σ H x y v u Q I rx ry h
 obtain ⟨l,k,xs,rfl,rfl,hH,h1,h2,hz,q⟩:=h
 cases rx
 obtain ⟨t,rfl⟩:=ry
 obtain ⟨z,its,n,r,hl,e⟩:=I.lstM hH
 have hlen:its.toArray.size*k.toNat≤sizeLine:=by rw [List.size_toArray,←hl];exact hz
 have hcap:¬its.toArray.size*k.toNat > (2^63 - 1)/8:=by
  have:(sizeLine:Nat)≤(2^63 - 1)/8:=by decide
  omega
 have hfit:¬(!Builtin.List.listFitsIndex k)=true:=by
  rw [fitsIndex_both h1 h2]
  exact Bool.false_ne_true
 have hlong:¬Builtin.List.listTooLong (its.toArray.size*k.toNat)=true:=by
  rw [Jzb hlen]
  exact Bool.false_ne_true
 have hnew:List.foldl (fun x1 x2=>x1++x2) #[] (List.replicate (if its.toArray.isEmpty=true then 0 else k.toNat) its.toArray)=(List.replicate k.toNat its).flatten.toArray:=by
  have f0:∀m:Nat,List.foldl (fun x1 x2=>x1++x2) #[] (List.replicate m its.toArray)=(List.replicate m its).flatten.toArray:=fun m=>by
   have:=Jry its m []
   rw [List.nil_append] at this
   exact this
  rw [f0]
  cases its with
  |nil=>simp
  |cons a r'=>rw [if_neg (by simp)]
 refine wpAny_binaryOp_repeat_ref (T:="list") (U:="int") (by decide) ⟨_,e,rfl⟩ (fun s'=>typeIs_int s' k t) noFill_list_mul F.fills_int_mul F.slot_int_rmul repeat_list F.slot_int_index.lookup
  (call_meets F.slot_int_rmul (typeIs_int s k t) F.entry_int_rmul (F.args_int_rmul_2 _ _) (int___rmul___int_list k t l its.toArray n)
   ⟨e,rfl,⟨_,e,rfl⟩,call_meets F.slot_list_mul ⟨_,e,rfl⟩ F.entry_list_mul (F.args_list_mul_2 _ _) (AutoListH.list___mul___list_int_3 l its.toArray n k t hfit hcap hlong) ⟨e,?_⟩⟩)
 rw [hnew]
 exact ⟨.ref _,_,I.lnew (t':=s.toks) (r.rep k.toNat) (by rw [Ya6,Nat.mul_comm];exact hz),rfl,q _ I.fresh⟩
end
section
variable {prog:Program} {w:World} {A:Around} {E:Value→Shared→Prop} {s:Shared}
end
section
variable {X:Cx}
end
end L2
namespace L2
open PySem PySem.Spec PyProof.Rows
section
variable {κ:Type} [DecidableEq κ]
def Jl0 (kvs:List (κ×V)) (k:κ):Option V:=(kvs.find? fun kv=>decide (kv.1=k)).map (·.2)
def Jnq (kvs:List (κ×V)) (k:κ) (v:V):List (κ×V):=
 if (kvs.any fun kv=>decide (kv.1=k))=true then kvs.map (fun kv=>if kv.1=k then (kv.1,v) else kv) else kvs++ [(k,v)]
theorem Yk {k:κ}:Jl0 ([]:List (κ×V)) k=none:=rfl
theorem Jjp {p:κ×V} {r:List (κ×V)} {k:κ} (e:p.1=k):Jl0 (p::r) k=some p.2:=by simp [Jl0,List.find?_cons,e]
theorem Jjo {p:κ×V} {r:List (κ×V)} {k:κ} (e:¬p.1=k):Jl0 (p::r) k=Jl0 r k:=by simp [Jl0,List.find?_cons,e]
theorem Jof (k:κ):∀kvs:List (κ×V),(kvs.any fun kv=>decide (kv.1=k))=(Jl0 kvs k).isSome
 | []=>rfl
 |p::r=>by
  rw [List.any_cons]
  by_cases e:p.1=k
  ·simp only [Jjp e,decide_eq_true e,Bool.true_or,Option.isSome_some]
  ·rw [Jjo e,decide_eq_false e,Bool.false_or];exact Jof k r
theorem Juz (k j:κ) (y:V):∀kvs:List (κ×V),Jl0 (kvs.map fun kv=>if kv.1=k then (kv.1,y) else kv) j=(Jl0 kvs j).map fun x=>if j=k then y else x
 | []=>rfl
 |p::r=>by
  have ih:=Juz k j y r
  rw [List.map_cons]
  by_cases h:p.1=k
  ·rw [if_pos h]
   by_cases e:p.1=j
   ·rw [Jjp (p:=(p.1,y)) e,Jjp e,Option.map_some,if_pos (e.symm.trans h)]
   ·rw [Jjo (p:=(p.1,y)) e,Jjo e,ih]
  ·rw [if_neg h]
   by_cases e:p.1=j
   ·rw [Jjp (p:=p) e,Jjp e,Option.map_some,if_neg (fun z=>h (e.trans z))]
   ·rw [Jjo (p:=p) e,Jjo e,ih]
theorem Jsi (k j:κ) (y:V):∀kvs:List (κ×V),Jl0 kvs k=none→Jl0 (kvs++ [(k,y)]) j=if j=k then some y else Jl0 kvs j
 | [],_=>by
  by_cases e:k=j
  ·rw [if_pos e.symm];exact Jjp (p:=(k,y)) e
  ·rw [if_neg (fun z=>e z.symm)];exact Jjo (p:=(k,y)) e
 |p::r,hn=>by
  rw [List.cons_append]
  have hk:¬p.1=k:=fun z=>by rw [Jjp z] at hn;cases hn
  rw [Jjo hk] at hn
  have ih:=Jsi k j y r hn
  by_cases e:p.1=j
  ·rw [Jjp e,Jjp e,if_neg (fun z=>hk (e.trans z))]
  ·rw [Jjo e,Jjo e,ih]
theorem Yl (kvs:List (κ×V)) (k j:κ) (y:V):Jl0 (Jnq kvs k y) j=if j=k then some y else Jl0 kvs j:=by
 unfold Jnq
 by_cases a:(kvs.any fun kv=>decide (kv.1=k))=true
 ·rw [if_pos a,Juz]
  rw [Jof] at a
  by_cases e:j=k
  ·obtain ⟨x,hx⟩:=Option.isSome_iff_exists.mp a
   rw [if_pos e,e,hx,Option.map_some,if_pos rfl]
  ·rw [if_neg e]
   cases Jl0 kvs j with
   |none=>rfl
   |some x=>rw [Option.map_some,if_neg e]
 ·rw [if_neg a]
  refine Jsi k j y kvs ?_
  rw [Jof] at a
  cases q:Jl0 kvs k with
  |none=>rfl
  |some x=>rw [q] at a;exact (a rfl).elim
theorem Jp9 (kvs:List (κ×V)) (k:κ) (v:V):(Jnq kvs k v).length≤kvs.length+1:=by
 unfold Jnq
 split
 ·rw [List.length_map];omega
 ·rw [List.length_append,List.length_cons,List.length_nil];omega
theorem RelO.isSome_eq {o:Option V} {u:Option Value} (r:RelO o u):o.isSome=u.isSome:=by
 cases o with
 |none=>cases u with
  |none=>rfl
  |some _=>exact (show False from r).elim
 |some _=>cases u with
  |none=>exact (show False from r).elim
  |some _=>rfl
theorem KV.val {kvs:List (κ×V)} {vs:List (κ×Value)} (r:KV kvs vs) (k:κ):RelO (Jl0 kvs k) (valueAt vs k):=by
 unfold KV at r
 induction r with
 |nil=>exact True.intro
 | @cons p q ps qs h t ih=>
  obtain ⟨h1,h2⟩:=h
  by_cases e:p.1=k
  ·have e':q.1=k:=h1.symm.trans e
   have b:valueAt (q::qs) k=some q.2:=by simp [valueAt,List.find?_cons,e']
   rw [Jjp e,b];exact h2
  ·have e':¬q.1=k:=fun z=>e (h1.trans z)
   have b:valueAt (q::qs) k=valueAt qs k:=by simp [valueAt,List.find?_cons,e']
   rw [Jjo e,b];exact ih
theorem KV.any {kvs:List (κ×V)} {vs:List (κ×Value)} (r:KV kvs vs) (k:κ):(kvs.any fun kv=>decide (kv.1=k))=vs.any fun kv=>decide (kv.1=k):=by
 unfold KV at r
 induction r with
 |nil=>rfl
 |cons h t ih=>rw [List.any_cons,List.any_cons,ih,h.1]
theorem KV.repl {kvs:List (κ×V)} {vs:List (κ×Value)} (r:KV kvs vs) (k:κ) {y:V} {u:Value} (ry:RelV y u):
  KV (kvs.map fun kv=>if kv.1=k then (kv.1,y) else kv) (vs.map fun kv=>if kv.1=k then (kv.1,u) else kv):=by
 unfold KV at r⊢
 induction r with
 |nil=>exact .nil
 | @cons p q ps qs h t ih=>
  rw [List.map_cons,List.map_cons]
  refine .cons ?_ ih
  obtain ⟨h1,h2⟩:=h
  by_cases e:p.1=k
  ·rw [if_pos e,if_pos (h1.symm.trans e)];exact ⟨h1,ry⟩
  ·rw [if_neg e,if_neg (fun z=>e (h1.trans z))];exact ⟨h1,h2⟩
theorem KV.put {kvs:List (κ×V)} {vs:List (κ×Value)} (r:KV kvs vs) (k:κ) {y:V} {u:Value} (ry:RelV y u):KV (Jnq kvs k y) (stored vs k u):=by
 unfold Jnq stored
 rw [r.any k]
 by_cases e:(vs.any fun kv=>decide (kv.1=k))=true
 ·rw [if_pos e,if_pos e];exact r.repl k ry
 ·rw [if_neg e,if_neg e];exact Paired.snoc r ⟨rfl,ry⟩
theorem KV.length {kvs:List (κ×V)} {vs:List (κ×Value)} (r:KV kvs vs):kvs.length=vs.length:=Paired.length r
end
theorem Ju0 {P:Program} {w:World} {k:Key} {u:Value} (r:RelV (kV k) u):(Jif P w).is k u=true:=by
 cases k with
 |inl i=>obtain ⟨t,e⟩:=(show ∃t,u=Value.int i t from r);subst e;exact Jmd P w i t
 |inr x=>obtain ⟨t,e⟩:=(show ∃t,u=Value.str x t from r);subst e;exact Jme P w x t
theorem Js1 {P:Program} {w:World}:∀{ks:List Key} {us:List Value},Vals (ks.map kV) us→ItemsAre (Jif P w) ks us
 | [],_,r=>by rw [List.map_nil] at r;cases r;exact .nil
 |k::ks,_,r=>by
  rw [List.map_cons] at r
  cases r with
  |cons h t=>exact .cons (Ju0 h) (Js1 t)
abbrev KT (H:Hp):List (List Key×V)→List (List Key×Addr×Value)→Prop:=Paired fun p q=>p.1=q.1∧H q.2.1=some (.tup (p.1.map kV))∧RelV p.2 q.2.2
theorem KT.val {H:Hp} {kvs:List (List Key×V)} {xs:List (List Key×Addr×Value)} (r:KT H kvs xs) (k:List Key):RelO (Jl0 kvs k) ((atKey xs k).map (·.2)):=by
 induction r with
 |nil=>exact True.intro
 | @cons p q ps qs h t ih=>
  obtain ⟨h1,_,h2⟩:=h
  by_cases e:p.1=k
  ·have e':q.1=k:=h1.symm.trans e
   have b:atKey (q::qs) k=some q.2:=by simp [atKey,List.find?_cons,e']
   rw [Jjp e,b];exact h2
  ·have e':¬q.1=k:=fun z=>e (h1.trans z)
   have b:atKey (q::qs) k=atKey qs k:=by simp [atKey,List.find?_cons,e']
   rw [Jjo e,b];exact ih
theorem KT.repl {H:Hp} {kvs:List (List Key×V)} {xs:List (List Key×Addr×Value)} (r:KT H kvs xs) (k:List Key) {y:V} {u:Value} (ry:RelV y u):
  KT H (kvs.map fun kv=>if kv.1=k then (kv.1,y) else kv) (xs.map (putAt k u)):=by
 induction r with
 |nil=>exact .nil
 | @cons p q ps qs h t ih=>
  rw [List.map_cons,List.map_cons]
  refine .cons ?_ ih
  obtain ⟨h1,h2,h3⟩:=h
  unfold putAt
  by_cases e:p.1=k
  ·rw [if_pos e,if_pos (h1.symm.trans e)];exact ⟨h1,h2,ry⟩
  ·rw [if_neg e,if_neg (fun z=>e (h1.trans z))];exact ⟨h1,h2,h3⟩
theorem KT.put {H:Hp} {kvs:List (List Key×V)} {xs:List (List Key×Addr×Value)} (r:KT H kvs xs) (k:List Key) {b:Addr} {y:V} {u:Value} (hb:H b=some (.tup (k.map kV))) (ry:RelV y u):
  KT H (Jnq kvs k y) (storedH xs k b u):=by
 have e:(kvs.any fun kv=>decide (kv.1=k))=(atKey xs k).isSome:=by
  rw [Jof,(r.val k).isSome_eq,Option.isSome_map]
 unfold Jnq storedH
 rw [e]
 by_cases q:(atKey xs k).isSome=true
 ·rw [if_pos q,if_pos q];exact r.repl k ry
 ·rw [if_neg q,if_neg q];exact Paired.snoc r ⟨rfl,hb,ry⟩
theorem KT.keeps {H H':Hp} {kvs:List (List Key×V)} {xs:List (List Key×Addr×Value)} (r:KT H kvs xs) (ht:∀b ys,H b=some (.tup ys)→H' b=some (.tup ys)):KT H' kvs xs:=
 Paired.mapP r fun _ _ z=>⟨z.1,ht _ _ z.2.1,z.2.2⟩
section
variable {P:Program} {w:World} {H:Hp} {h:Heap} {a:Addr}
theorem rd_of {u:HO} (ok:HOk P w H h) (e:Rd H a u):ObjOk P w H h a u:=e.ok ok
theorem Jwk {kvs:List (Key×V)} (ok:HOk P w H h) (e:Rd H a (.dK kvs)):kvs.length≤sizeLine∧(a==sysModules)=false∧∃vs,KV kvs vs∧h.DictOf (Jif P w) a vs:=
 show ObjOk P w H h a (.dK kvs) from rd_of ok e
theorem dk_of {kvs:List (Key×V)} (ok:HOk P w H h) (e:H a=some (.dK kvs)):kvs.length≤sizeLine∧(a==sysModules)=false∧∃vs,KV kvs vs∧h.DictOf (Jif P w) a vs:=Jwk ok (.inl e)
theorem Jsv {ks:List Key} (ok:HOk P w H h) (e:H a=some (.tup (ks.map kV))):(tupleKind (Jif P w)).is h ks a:=by
 obtain ⟨_,its,r,o,h1,h2,n,h3⟩:=(show ObjOk P w H h a (.tup (ks.map kV)) from ok a _ e)
 exact ⟨o,its.toArray,n,h1,h2,h3,by simpa using Js1 r⟩
theorem Jwl {kvs:List (List Key×V)} (ok:HOk P w H h) (e:Rd H a (.dT kvs)):kvs.length≤sizeLine∧(a==sysModules)=false∧
  ∃xs,KT H kvs xs∧h.DictOfH (tupleKind (Jif P w)) a xs:=by
 obtain ⟨z,y,xs,r,o,es,ep,h1,h2,h3,h4,h5⟩:=(show ObjOk P w H h a (.dT kvs) from rd_of ok e)
 refine ⟨z,y,xs,r,o,es,ep,h1,h2,h3,h4,fun x hx=>?_,h5⟩
 have all:∀{l:List (List Key×V)} {m:List (List Key×Addr×Value)},KT H l m→∀x∈m,(tupleKind (Jif P w)).is h x.1 x.2.1:=by
  intro l m q
  induction q with
  |nil=>intro x hx;exact nomatch hx
  | @cons p q ps qs hq t ih=>
   intro x hx
   rcases List.mem_cons.mp hx with e|hx
   ·subst e
    exact Jsv ok (by rw [←hq.1];exact hq.2.1)
   ·exact ih x hx
 exact all r x hx
theorem dt_of {kvs:List (List Key×V)} (ok:HOk P w H h) (e:H a=some (.dT kvs)):kvs.length≤sizeLine∧(a==sysModules)=false∧
  ∃xs,KT H kvs xs∧h.DictOfH (tupleKind (Jif P w)) a xs:=Jwl ok (.inl e)
end
def DGet (H:Hp) (a:Addr) (y:V) (r:Option V):Prop:=
 (∃kvs k,Rd H a (.dK kvs)∧y=kV k∧r=Jl0 kvs k)∨∃kvs k b,Rd H a (.dT kvs)∧y= .ref b∧H b=some (.tup (k.map kV))∧r=Jl0 kvs k
def DPut (H:Hp) (a:Addr) (y v:V) (H':Hp):Prop:=
 (∃kvs k,H a=some (.dK kvs)∧y=kV k∧kvs.length < sizeLine∧H'=upd H a (.dK (Jnq kvs k v)))∨
 ∃kvs k b,H a=some (.dT kvs)∧y= .ref b∧H b=some (.tup (k.map kV))∧kvs.length < sizeLine∧H'=upd H a (.dT (Jnq kvs k v))
theorem DPut.k {H:Hp} {a:Addr} {kvs:List (Key×V)} {k:Key} {v:V} (e:H a=some (.dK kvs)) (hl:kvs.length < sizeLine):DPut H a (kV k) v (upd H a (.dK (Jnq kvs k v))):=.inl ⟨kvs,k,e,rfl,hl,rfl⟩
section
variable {X:Cx} {pins:List (Addr×Obj)} {σ:St} {H:Hp} {s:Shared} {a:Addr} {y v:V} {u r:Value} {o:Option V} {A:Around} {E:Value→Shared→Prop}
theorem Inv.big (I:Inv X pins σ H s):sysModules < s.heap.objs.size:=by
 have h:mainGlobals < s.heap.objs.size:=(I.mod.glob.keeps I.bk).lt
 exact Nat.lt_trans (by decide) h
theorem d_in {Q:Value→Shared→Prop} (hu:A.units+1 < cLine) (I:Inv X pins σ H s) (g:DGet H a y o) (ry:RelV y u) (h:∀s',Inv X pins σ H s'→Q (.bool o.isSome) s'):
  wpAny (model X.prog X.w) A (compareOp .In u (.ref a)) Q E s:=by
 rcases g with ⟨kvs,k,e,ey,l⟩|⟨kvs,k,b,e,ey,eb,l⟩
 ·subst ey
  obtain ⟨z,hd,vs,rel,dd⟩:=Jwk I.hok e
  refine wpAny_in_of (Ju0 ry) hd dd.mapOf ?_
  rw [←(rel.val k).isSome_eq,←l]
  exact h _ (I.tok _)
 ·subst ey
  cases (show u=Value.ref b from ry)
  obtain ⟨z,hd,xs,rel,dd⟩:=Jwl I.hok e
  refine wpAny_in_heap (tupleKind_room_in1 hu) (Jsv I.hok eb) hd dd ?_
  have q:=(rel.val k).isSome_eq
  rw [Option.isSome_map] at q
  rw [←q,←l]
  exact h _ (I.tok _)
theorem Yv {Q:Value→Shared→Prop} (hu:A.units+1 < cLine) (I:Inv X pins σ H s) (g:DGet H a y o) (ry:RelV y u) (h:∀s',Inv X pins σ H s'→Q (.bool (!o.isSome)) s'):
  wpAny (model X.prog X.w) A (compareOp .NotIn u (.ref a)) Q E s:=by
 rcases g with ⟨kvs,k,e,ey,l⟩|⟨kvs,k,b,e,ey,eb,l⟩
 ·subst ey
  obtain ⟨z,hd,vs,rel,dd⟩:=Jwk I.hok e
  refine wpAny_notIn_of (Ju0 ry) hd dd.mapOf ?_
  rw [←(rel.val k).isSome_eq,←l]
  exact h _ (I.tok _)
 ·subst ey
  cases (show u=Value.ref b from ry)
  obtain ⟨z,hd,xs,rel,dd⟩:=Jwl I.hok e
  refine wpAny_notIn_heap (tupleKind_room_in1 hu) (Jsv I.hok eb) hd dd ?_
  have q:=(rel.val k).isSome_eq
  rw [Option.isSome_map] at q
  rw [←q,←l]
  exact h _ (I.tok _)
theorem Jwg {h':Heap} {t':Nat} {ob:HO} (I:Inv X pins σ H s) (mu:Mut (H a)) (hs:Heap.SameBut a s.heap h') (he:∃q,h'.get? a=some q) (new:ObjOk X.prog X.w (upd H a ob) h' a ob):
  Inv X pins σ (upd H a ob) {s with heap:=h',toks:=t'}:=
 I.write (x:=a) (e:=a) mu (.inl rfl) (fun b q hb z=>(hs.2 b hb).trans z) he new
theorem Jyr {P:Program} {w:World} {H':Hp} {h':Heap} {kvs:List (Key×V)} {vs:List (Key×Value)} (z:kvs.length≤sizeLine) (hd:(a==sysModules)=false) (rel:KV kvs vs) (dd:h'.DictOf (Jif P w) a vs):
  ObjOk P w H' h' a (.dK kvs):=⟨z,hd,vs,rel,dd⟩
theorem Jx8 {H':Hp} {Q:Unit→Shared→Prop} (hu:A.units+1 < cLine) (I:Inv X pins σ H s) (g:DPut H a y v H') (ry:RelV y u) (rv:RelV v r) (h:∀s',Inv X pins σ H' s'→Q () s'):
  wpAny (model X.prog X.w) A (setItem (.ref a) u r) Q E s:=by
 rcases g with ⟨kvs,k,e,ey,l,eH⟩|⟨kvs,k,b,e,ey,eb,l,eH⟩
 ·subst ey eH
  obtain ⟨z,hd,vs,rel,dd⟩:=dk_of I.hok e
  have hz:vs.length≤sizeLine:=by rw [←rel.length];exact z
  have hl:(Jnq kvs k v).length≤sizeLine:=by have:=Jp9 kvs k v;omega
  refine wpAny_setItem_pairs (hsz:=hz) (Ju0 ry) dd fun h' dd' hs=>h _ ?_
  have he:∃q,h'.get? a=some q:=let ⟨q,_,_,hq,_⟩:=dd';⟨q,hq⟩
  exact Jwg I (by rw [e];exact True.intro) hs he (Jyr hl hd (rel.put k rv) dd')
 ·subst ey eH
  cases (show u=Value.ref b from ry)
  obtain ⟨z,hd,xs,rel,dd⟩:=dt_of I.hok e
  have hz:xs.length≤sizeLine:=by rw [←Paired.length rel];exact z
  have hl:(Jnq kvs k v).length≤sizeLine:=by have:=Jp9 kvs k v;omega
  refine wpAny_setItem_heap (hsz:=hz) (tupleKind_room_in1 hu) (Jsv I.hok eb) dd fun h' dd' hs=>h _ ?_
  obtain ⟨q,es,ep,hq,h2,h3,h4,_,h5⟩:=dd'
  refine Jwg I (by rw [e];exact True.intro) hs ⟨q,hq⟩ ⟨hl,hd,_,(rel.put k eb rv).keeps fun c ys ec=>?_,q,es,ep,hq,h2,h3,h4,h5⟩
  rw [Ji7 (ne_of ec e (fun z=>nomatch z))]
  exact ec
end
section
variable {X:Cx} {pins:List (Addr×Obj)} {σ:St} {H:Hp} {s:Shared} {a:Addr} {kvs:List (Key×V)} {k:Key} {u:Value} {A:Around} {E:Value→Shared→Prop}
end
def sDPut (td ty tv:TE):TS:=fun D σ H=>tv σ H fun v H1=>td σ H1 fun x H2=>ty σ H2 fun y H3=>∃a H4,x= .ref a∧DPut H3 a y v H4∧D.nx σ H4
section
variable {X:Cx} {o i e value:Expr} {pos pos' tpos:Pos} {td ty tv:TE}
theorem Yai (hu:X.A.units+1 < cLine) (ho:PE X o td) (hi:PE X i ty) (hv:PE X value tv) (hs:swapsWith value (some (.Subscript o i pos')) pos.line X.env=pure false):
  PS X (.Assign [.Subscript o i pos'] value pos) (sDPut td ty tv):=by
 intro pins s σ H D I h
 refine wpAny_Assign_Subscript (thn (hv pins s σ H _ I h) fun r s1 ⟨v,H1,I1,rv,q1⟩=>thn (ho pins s1 σ H1 _ I1 q1) fun u s2 ⟨x,H2,I2,rx,q2⟩=>thn (hi pins s2 σ H2 _ I2 q2) fun iv s3 ⟨y,H3,I3,ry,a,H4,ex,g,q3⟩=>?_) hs
 subst ex
 obtain rfl:u=Value.ref a:=rx
 exact Jx8 hu I3 g ry rv fun s4 I4=>⟨σ,H4,I4,q3⟩
end
theorem Jyq {P:Program} {w:World} {H:Hp} (h:Heap) (hb:sysModules < h.objs.size):ObjOk P w H (h.push {cls:=.type "dict",data:=.dict #[]}) h.objs.size (.dK []):=
 ⟨Nat.zero_le _,beq_eq_false_iff_ne.mpr (Ne.symm (Nat.ne_of_lt hb)),[],.nil,Heap.DictOf.new h⟩
def tDNewK:TE:=fun _ H Q=>∀p,H p=none→Q (.ref p) (upd H p (.dK []))
section
variable {X:Cx} {pos:Pos}
theorem Jzi:PE X (.Dict [] [] pos) tDNewK:=fun pins s σ H Q I h=>
 wpAny_Dict_empty ⟨.ref s.heap.objs.size,_,I.laid (a:=s.heap.objs.size) (o:=.dK []) (t':=s.toks) (fun _ _ q=>Heap.get?_push_of_some _ q) (Nat.le_refl _) (Jyq s.heap I.big),rfl,h _ (I.hok.fresh (Nat.le_refl _))⟩
end
structure M1 (X:Cx) (o:Expr) (m:Str) (apos:Pos) (e:Expr) (cpos:Pos):Prop where
 base:attributeBase o m X.env (eval o X.env)=eval o X.env
 few:((backTo cpos (starEach [e] X.env)).all (fun x=>!x.1)&&(backToKw cpos (keywordEach [] X.env)).all (fun x=>x.1.isSome)
  &&decide (([e]:List Expr).length+([]:List Keyword).length+(if ([]:List Keyword).isEmpty then 0 else 1) < 30))=true
 line:(apos.endLine==cpos.line)=true
 trees:backTo cpos (starEach [e] X.env)= [(false,eval e X.env)]
structure M2 (X:Cx) (o:Expr) (m:Str) (apos:Pos) (e f:Expr) (cpos:Pos):Prop where
 base:attributeBase o m X.env (eval o X.env)=eval o X.env
 few:((backTo cpos (starEach [e,f] X.env)).all (fun x=>!x.1)&&(backToKw cpos (keywordEach [] X.env)).all (fun x=>x.1.isSome)
  &&decide (([e,f]:List Expr).length+([]:List Keyword).length+(if ([]:List Keyword).isEmpty then 0 else 1) < 30))=true
 line:(apos.endLine==cpos.line)=true
 trees:backTo cpos (starEach [e,f] X.env)= [(false,eval e X.env),(false,eval f X.env)]
def IsD (H:Hp) (a:Addr):Prop:=(∃kvs,Rd H a (.dK kvs))∨∃kvs,Rd H a (.dT kvs)
theorem Jz6 {X:Cx} {pins:List (Addr×Obj)} {σ:St} {H:Hp} {s:Shared} {a:Addr} (I:Inv X pins σ H s) (d:IsD H a):
  s.TypeIs (.ref a) "dict" ∧(∀b,Value.ref a= .ref b→∃ob,s.heap.get? b=some ob∧ob.dict=none)∧(a==sysModules)=false:=by
 rcases d with ⟨kvs,e⟩|⟨kvs,e⟩
 ·obtain ⟨_,hd,vs,_,dd⟩:=Jwk I.hok e
  refine ⟨dd.typeIs,fun b q=>?_,hd⟩
  cases q
  obtain ⟨ob,_,_,h1,h2,_⟩:=dd
  exact ⟨ob,h1,h2.2.1⟩
 ·obtain ⟨_,hd,xs,_,dd⟩:=Jwl I.hok e
  refine ⟨dd.typeIs,fun b q=>?_,hd⟩
  cases q
  obtain ⟨ob,_,_,h1,h2,_⟩:=dd
  exact ⟨ob,h1,h2.2.1⟩
section
variable {X:Cx} {pins:List (Addr×Obj)} {σ:St} {H:Hp} {s:Shared} {a:Addr} {y d:V} {u r:Value} {o:Option V} {A:Around} {E:Value→Shared→Prop}
end
section
variable {X:Cx} {o e f:Expr} {apos cpos:Pos} {td ty tx:TE}
end
section
variable {X:Cx} {pins:List (Addr×Obj)} {σ:St} {H:Hp} {s:Shared} {a:Addr} {kvs:List (Key×V)} {A:Around} {E:Value→Shared→Prop}
end
section
variable {X:Cx} {pins:List (Addr×Obj)} {σ:St} {H:Hp} {s:Shared} {a:Addr} {y:V} {u:Value} {A:Around} {E:Value→Shared→Prop}
end
end L2
namespace Att
open PySem PySem.W PySem.Calls PyProof.Rows
theorem Jpl {P:Params} {h:Heap}:∀(ns:List Int) (vs:List Value),WellAll P h vs (ns.map WData.int)→IntsAre vs ns:=by
 intro ns
 induction ns with
 |nil=>
  intro vs w
  rw [List.map_nil] at w
  cases w
  exact .nil
 |cons n ns ih=>
  intro vs w
  rw [List.map_cons] at w
  cases w with
  |cons a b=>
   cases a
   exact .cons _ _ (ih _ b)
theorem Jxx {l:OpenLaw} {n:Nat} (hn:l.most=some n) {P:Params} {h:Heap} {args:List WData} {vals:List Value}
  (hpre:l.row.toRowW.claim.pre args=true) (hwl:WellAll P h vals args):
  ∃a vs ns,vals= [Value.ref a]∧args= [WData.list (ns.map WData.int)]∧h.get? a=some {cls:=.type "list",data:=.seq vs.toArray}∧IntsAre vs ns∧ns.length≤n:=by
 have hsh:WShape.hasAll [] args [.list .int]=true:=(pre_splitW hpre).1
 have hc:l.pre.holds [] {args:=args}=true:=(pre_splitW hpre).2
 obtain ⟨d,r,rfl,h1,h2⟩:=hasAllW_cons hsh
 obtain rfl:=hasAllW_nil h2
 obtain ⟨xs,rfl,h3⟩:=hasW_list h1
 obtain ⟨ns,rfl⟩:=items_int h3
 have hlen:ns.length≤n:=by
  unfold OpenLaw.pre at hc
  have h4:(WTm.not (.lt (.lit (.int (n:Int))) (.len (.arg 0)))).holds [] {args:=[.list (ns.map .int)]}=true:=by
   have h4:=(holds_andW hc).1
   rw [hn] at h4
   exact h4
  have h5:=condW_of h4 (w_not (w_lt w_lit (w_len_list (w_arg rfl))))
  rw [List.length_map] at h5
  refine Nat.le_of_not_lt fun q=>?_
  have q':(n:Int) < ((ns.length:Nat):Int):=by omega
  first
   | (rw [decide_eq_true q'] at h5; exact absurd h5 (by decide))
   | (simp at h5; omega)
 cases hwl with
 |cons w1 w2=>
  cases w2
  cases w1 with
  |list ho hall=>exact ⟨_,_,ns,rfl,rfl,ho,Jpl ns _ hall,hlen⟩
theorem Jxt (l:OpenLaw) (args:List WData):l.row.toRowW.claim.post args (.bool true) args=true:=
 postW_of (r:=l.row.toRowW) (X:=(true==true))
  (show WShape.has [] (.bool true) .bool=true by first|rfl|decide|simp [WShape.has,WShape.arms,WShape.armsAll])
  (show (WTm.eq .res (.lit (.bool true))).value [] {args:=args,res:=some (.bool true),after:=args}=some (.bool (true==true)) from w_eq_bool (w_res rfl) w_lit) rfl
theorem attach_call {l:OpenLaw} {n:Nat} {q:Program} {loose:List Str} {XP:(Str→Option Value)→Heap→Prop} {YP:World→Heap→Prop} {d:DefRec}
  (hn:l.most=some n) (hdf:d.params.defaults= [])
  (call:∀(w:World) (s₀ s₁:Shared) (mg mb:Str→Option Value) (fa:Addr) (o:Obj) (pm cd doc:Value) (a:Addr) (vs:List Value) (ns:List Int),
   Ground q loose [] XP w s₀ mg mb s₁.heap→YP w s₁.heap→
   s₁.heap.get? fa=some o→o.data= .func (docDef d.name d.params d.body d.scope pm cd doc)→s₁.heap.CodeRec cd d.name→mg d.name=some (.ref fa)→
   s₁.heap.get? a=some {cls:=.type "list",data:=.seq vs.toArray}→IntsAre vs ns→ns.length≤n→s₁.gens= #[]→
   codeAny (model l.prog w) callerA (.call (.ref fa) ⟨[.ref a],[]⟩) (fun r s'=>r= .ok (.ret (.bool true))∧OldK s₁.heap s'.heap∧s'.os=s₁.os∧AllBare s'.gens) s₁):
  WalkO q loose XP YP l.row.toRowW d [] (fun f vs=>PySem.call f vs):=by
 intro w s₀ s₁ mg mb G Y fa o pm cd doc dV kV ho hd hcd hD hmg hg args vals as hpre hlay hrd hwl hlo
 obtain rfl:dV= .none:=Dflts.none hD hdf
 obtain rfl:kV= .none:=Dflts.noKw hD
 obtain ⟨a,vs,ns,rfl,rfl,hobj,hints,hlen⟩:=Jxx hn hpre hwl
 refine enter_call (codeAny_mono (call w s₀ s₁ mg mb fa o pm cd doc a vs ns G Y ho (fd_plain hd) hcd hmg hobj hints hlen hg) fun r s' hq=>?_)
 obtain ⟨rfl,h2,h3,h4⟩:=hq
 exact ⟨.inl ⟨.bool true,.bool true,[],rfl,fun _=>rfl,.bool true,Jxt l _,fun _=>⟨List.Pairwise.nil,fun _ hm=>(nomatch hm)⟩⟩,h2,h3,h4⟩
section
variable {prog:Program} {w:World} {A:Around} {E:Value→Shared→Prop} {s:Shared} {K:Frag}
end
end Att
namespace L2
open PySem PySem.Spec PyProof.Rows
theorem Jsj:∀{vs:List Value} {ns:List Int},IntsAre vs ns→Vals (ns.map V.int) vs
 |_,_,.nil=>.nil
 |_,_,.cons n t h=>.cons ⟨t,rfl⟩ (Jsj h)
end L2
namespace L2
open PySem PySem.Spec PyProof.Rows
abbrev KOf {K:PySem.W.Frag} {h:Heap} (_:K.In h):PySem.W.Frag:=K
end L2
namespace L2
open PySem PySem.Spec PyProof.Rows
def Jid (s:Stmt) (j:Nat):Stmt:=match s with
 | .ClassDef _ _ _ body _ _ _ _ _ _ _=>body.getD j (.Pass ⟨0,0,0,0⟩)
 |_=>.Pass ⟨0,0,0,0⟩
def Jj1 (s:Stmt):Arguments:=match s with
 | .FunctionDef _ a _ _ _ _ _ _ _ _=>a
 |_=>{posonlyargs:=[],args:=[],vararg:=none,kwonlyargs:=[],kw_defaults:=[],kwarg:=none,defaults:=[]}
def Jiy (s:Stmt):List Stmt:=match s with
 | .FunctionDef _ _ b _ _ _ _ _ _ _=>b
 |_=>[]
def Ji5 (s:Stmt):Scope:=match s with
 | .FunctionDef _ _ _ _ _ _ sc _ _ _=>sc
 |_=>{kind:=.function,names:=[],isGenerator:=false,isCoroutine:=false}
abbrev CX0:CXT:=fun _ _ _ _ _ _=>False
abbrev E0:XK:=fun _ _ _=>False
theorem Jpg {X:Cx}:Jpu CX0 X E0:=fun _ _ _ _ _ _ _ h=>h.elim
structure Fun (K:PySem.W.Frag) (x qual:Str) (st:Stmt) (f:Addr) (fd:FuncData):Prop where
 ex:∃(oc:Value) (od:Option Addr) (kV doc pm:Value) (an:Option Addr) (cdv ct:Value) (osl:Array (Option Value)),
  fd=PySem.W.fnOf x qual (Jj1 st) (Jiy st) (Ji5 st) .none kV doc pm an cdv ct∧K.lookup f=some ⟨oc,od,.func fd,osl⟩∧PySem.W.codeIn K cdv qual=true
 kp:PySem.W.keepIn K (.ref f)=true
section
variable {P:Program} {w:World} {K:PySem.W.Frag} {mg:Str→Option Value} {base:Heap}
theorem Fun.ok {x qual:Str} {st:Stmt} {f:Addr} {fd:FuncData} {N ps:List Str} {k:Nat} {sp:Sp} (F:Fun K x qual st f fd) (S:Jia N ps (Ji5 st)) (len:∀vs H Q E,sp vs H Q E→vs.length=ps.length)
  (hbody:∀(cdv:Value) (A:Around) (outer:List Env) (s:Shared) (H:Hp) (vs:List V) (Q:VK) (E:XK),Room k (A.deeper (envOfC qual (Ji5 st) s.heap.objs.size f cdv))→sp vs H Q E→
   ∃t,PSs (Jss CX0 P w K mg base N qual (Ji5 st) f cdv A outer s H E).nox (Jiy st) t∧t {nx:=fun _ H'=>Q .non H',rt:=Q} (start N vs) H):FnOk P w K mg base CX0 (k+1) f fd ps sp:=by
 obtain ⟨oc,od,kV,doc,pm,an,cdv,ct,osl,rfl,lk,hcd⟩:=F.ex
 refine fn_of lk hcd S len fun A outer s H vs Q E hr hsp=>?_
 obtain ⟨t,h,q⟩:=hbody cdv A outer s H vs Q E hr hsp
 exact ⟨t,h.nox,q⟩
theorem Fun.binds {x qual:Str} {st:Stmt} {f:Addr} {fd:FuncData} {ps:List Str} (F:Fun K x qual st f fd)
  (h:∀(kV doc pm:Value) (an:Option Addr) (cdv ct:Value) (us:List Value),us.length=ps.length→bindArgs (PySem.W.fnOf x qual (Jj1 st) (Jiy st) (Ji5 st) .none kV doc pm an cdv ct) ⟨us,[]⟩=pure (ps.zip us)):Binds K fd ps []:=by
 obtain ⟨oc,od,kV,doc,pm,an,cdv,ct,osl,rfl,lk,hcd⟩:=F.ex
 exact .all (h kV doc pm an cdv ct)
theorem Jst {x qual:Str} {st:Stmt} {f:Addr} {oc:Value} {od an:Option Addr} {osl:Array (Option Value)} {kV doc pm cdv ct:Value} (l:K.lookup f=some ⟨oc,od,.func (PySem.W.fnOf x qual (Jj1 st) (Jiy st) (Ji5 st) .none kV doc pm an cdv ct),osl⟩)
  (c:PySem.W.codeIn K cdv qual=true) (k:PySem.W.keepIn K (.ref f)=true):Fun K x qual st f (PySem.W.fnOf x qual (Jj1 st) (Jiy st) (Ji5 st) .none kV doc pm an cdv ct):=⟨⟨oc,od,kV,doc,pm,an,cdv,ct,osl,rfl,l,c⟩,k⟩
end
section
variable {X:Cx}
theorem pv (i:Nat) {x:Str} {pos:Pos} (hN:X.N[i]?=some x:=by rfl) (hv:Vis X.env.scope x:=by first|exact Or.inl rfl|exact Or.inr (Or.inl rfl)|exact Or.inr (Or.inr rfl)) (hd:(x==("__debug__" :Str))=false:=by decide)
  (hcd:(x==("__classdict__" :Str))=false:=by decide):PE X (.Name x pos) (tVar i):=Jzk hN hv hd hcd
end
theorem Jj0 {A B:Prop} (h:B):if false=true then A else B:=by
 rw [if_neg Bool.false_ne_true]
 exact h
theorem Jk0 {A B:Prop} (h:A):if true=true then A else B:=by
 rw [if_pos rfl]
 exact h
theorem Jl9 {c A B:Prop} [Decidable c] (h1:c→A) (h2:¬c→B):if c then A else B:=by
 by_cases h:c
 ·rw [if_pos h]
  exact h1 h
 ·rw [if_neg h]
  exact h2 h
def Same (H H':Hp):Prop:=∀b o,H b=some o→H' b=some o
theorem Same.refl (H:Hp):Same H H:=fun _ _ h=>h
theorem Same.trans {H H1 H2:Hp} (a:Same H H1) (b:Same H1 H2):Same H H2:=fun c o h=>b c o (a c o h)
theorem Same.seq {K:PySem.W.Frag} {H H':Hp} {a:Addr} {xs:List V} (e:Same H H') (h:SqL K H a xs):SqL K H' a xs:=by
 rcases h with (h|⟨o,h⟩)|h
 ·exact .inl (.inl (e _ _ h))
 ·exact .inl (.inr ⟨o,e _ _ h⟩)
 ·exact .inr h
section
variable {κ:Type} [DecidableEq κ]
end
end L2
set_option Elab.async false
set_option linter.all false
set_option maxRecDepth 100000
set_option maxHeartbeats 4000000
namespace L2
open PySem PySem.Spec PyProof.Rows
def Jk8 (cells:List (Str×Addr)):List (Str×NameKind)→List (Str×Addr)→List (Str×Addr)
 | [],acc=>acc
 | (n,k) :: r,acc=>if (k == NameKind.free) = true then (match cells.lookup n with | some c=>Jk8 cells r ((n,c) :: acc) | none=>Jk8 cells r acc) else Jk8 cells r acc
theorem Jl8 {cells:List (Str×Addr)}:∀(ns:List (Str×NameKind)) (acc:List (Str×Addr)),(∀x c,acc.lookup x=some c→cells.lookup x=some c)→∀x c,(Jk8 cells ns acc).lookup x=some c→cells.lookup x=some c
 | [],_,h,x,c,e=>h x c e
 | (n,k) :: r,acc,h,x,c,e=>by
  unfold Jk8 at e
  by_cases hk:(k==NameKind.free)=true
  ·rw [if_pos hk] at e
   cases hc:cells.lookup n with
   |none=>rw [hc] at e;exact Jl8 r acc h x c e
   |some d=>
    rw [hc] at e
    refine Jl8 r ((n,d)::acc) (fun y b q=>?_) x c e
    rw [List.lookup_cons] at q
    by_cases hy:(y==n)=true
    ·rw [hy] at q
     have hy':y=n:=beq_iff_eq.mp hy
     rw [hy',hc]
     exact q
    ·have hy':(y==n)=false:=by simpa using hy
     rw [hy'] at q
     exact h y b q
  ·rw [if_neg hk] at e
   exact Jl8 r acc h x c e
theorem Jly {cells:List (Str×Addr)}:∀(ns:List (Str×NameKind)) (acc:List (Str×Addr)) (x:Str),(acc.lookup x).isSome=true→((Jk8 cells ns acc).lookup x).isSome=true
 | [],_,_,h=>h
 | (n,k) :: r,acc,x,h=>by
  unfold Jk8
  by_cases hk:(k==NameKind.free)=true
  ·rw [if_pos hk]
   cases hc:cells.lookup n with
   |none=>exact Jly r acc x h
   |some d=>
    refine Jly r ((n,d)::acc) x ?_
    rw [List.lookup_cons]
    cases hy:x==n with
    |true=>rfl
    |false=>exact h
  ·rw [if_neg hk]
   exact Jly r acc x h
theorem Jkj {cells:List (Str×Addr)} {x:Str}:∀(ns:List (Str×NameKind)) (acc:List (Str×Addr)),(x,NameKind.free)∈ns→(∃c,cells.lookup x=some c)→((Jk8 cells ns acc).lookup x).isSome=true
 | [],_,h,_=>by simp at h
 | (n,k) :: r,acc,h,hc=>by
  unfold Jk8
  rcases List.mem_cons.mp h with e|e
  ·cases e
   obtain ⟨c,hc⟩:=hc
   rw [if_pos (by decide),hc]
   exact Jly r _ x (by rw [List.lookup_cons,beq_self_eq_true];rfl)
  ·by_cases hk:(k==NameKind.free)=true
   ·rw [if_pos hk]
    cases hd:cells.lookup n with
    |none=>exact Jkj r acc e hc
    |some d=>exact Jkj r _ e hc
   ·rw [if_neg hk]
    exact Jkj r acc e hc
theorem Jn6 {sc:Scope} {env:Env} (h:∀y∈sc.names,y.2= .free→∃c,env.cells.lookup y.1=some c):closureFor sc env=pure (Jk8 env.cells sc.names []):=by
 have key:∀(ns:List (Str×NameKind)) (acc:List (Str×Addr)),(∀y∈ns,y.2= .free→∃c,env.cells.lookup y.1=some c)→
   (forIn ns acc fun (x:Str×NameKind) (r:List (Str×Addr))=>if (x.2==NameKind.free)=true then (cellOf env x.1 >>=fun c=>pure (ForInStep.yield ((x.1,c)::r)):Sem _) else pure (ForInStep.yield r))=(pure (Jk8 env.cells ns acc):Sem _):=by
  intro ns
  induction ns with
  |nil=>intro acc _;rfl
  |cons y r ih=>
   intro acc hy
   obtain ⟨n,k⟩:=y
   rw [List.forIn_cons]
   unfold Jk8
   by_cases hk:(k==NameKind.free)=true
   ·have hk':k= .free:=by simpa using hk
    obtain ⟨c,hc⟩:=hy (n,k) List.mem_cons_self hk'
    have hc':env.cells.lookup n=some c:=hc
    simp only [hk,if_true]
    have e1:cellOf env n=pure c:=by unfold cellOf;rw [hc']
    rw [e1,hc']
    exact ih _ fun z hz=>hy z (List.mem_cons_of_mem _ hz)
   ·simp only [hk,if_false]
    exact ih _ fun z hz=>hy z (List.mem_cons_of_mem _ hz)
 have k0:=key sc.names [] h
 unfold closureFor
 first
  |exact k0
  | (refine Eq.trans ?_ (congrArg (fun m : Sem (List (Str × Addr))=>m >>= fun r=>pure r) k0); rfl)
def blk (X:Cx) (sc:Scope) (N:List Str) (C:Addr) (s:Shared) (H:Hp) (fp:List Addr) (pn:List (Addr×Obj)):Cx:=
 {X with N:=N,s₀:=s,H₀:=H,env:=compEnvC sc (Jk8 X.env.cells sc.names []) C X.env,outer:=X.stack,ex:=fp,fn:=fun _=>false,pn:=pn,xe:=fun _ _=>False}
def Jx4 (ini:List (Option Nat)) (σ:St):St:=ini.map fun o=>match o with|none=>none|some j=>(σ[j]?).join
def scB (sc:Scope):Bool:=decide (sc.kind= .function)&&sc.names.all (fun y=>decide (y.2≠ .cell))&&sc.names.all (fun y=>!decide (y.2= .local)||decide (sc.names.lookup y.1=some .local))
def frB (outer:List (Str×NameKind)) (sc:Scope):Bool:=sc.names.all fun y=>!decide (y.2= .free)||(decide (outer.lookup y.1=some .cell)||decide (outer.lookup y.1=some .free))
def iniB (No N:List Str) (ini:List (Option Nat)) (outer:List (Str×NameKind)) (sc:Scope):Bool:=
 (N.zip ini).all fun y=>match y.2 with|none=>true|some j=>decide (No[j]?=some y.1)&&decide (sc.names.lookup y.1=some .free)&&(decide (outer.lookup y.1=some .cell)||decide (outer.lookup y.1=some .free))
def PIf (X:Cx) (ifs:List Expr) (t:TT):Prop:=
 ∀(pins:List (Addr×Obj)) (s:Shared) (σ:St) (H:Hp) (Q:Bool→Hp→Prop),Inv X pins σ H s→t σ H Q→
  wpAny (model X.prog X.w) X.A (forIn ifs true fun c r=>if r=true then do let ok←isTrue c X.env (eval c X.env);pure (ForInStep.yield ok) else pure (ForInStep.yield r)) (TP X pins σ Q) X.xe s
def tYes:TT:=fun _ H Q=>Q true H
theorem Jj3 {X:Cx}:PIf X [] tYes:=fun _ _ _ H _ I h=>wpAny_tests_nil ⟨H,I,h⟩
theorem Jkr {X:Cx} {c:Expr} {t:TT} (h:PT X c t):PIf X [c] t:=fun pins s σ H Q I q=>wpAny_tests_one (h pins s σ H Q I q)
def Yh (wi:TI) (ini:List (Option Nat)) (g:TG) (tt:TT) (te:TE):TE:=fun σ H Q=>wi σ H fun J H1=>∀D,H1 D=none→∃W:Nat→Nat→St→Hp→Prop,(∃m,W 0 m (Jx4 ini σ) (upd H1 D (.lst [])))∧
 ∀i m σ' H',W i m σ' H'→(J.stop i H'∧Q (.ref D) H')∨(J.go i H'∧∃N:St→Hp→Prop,(∀σ2 H2,N σ2 H2→∃m',m' < m∧W (i+1) m' σ2 H2)∧
  ∀x H2,J.yld i H' x H2→g x σ' H2 fun σ3 H3=>tt σ3 H3 fun b H4=>if b=true then te σ3 H4 (fun v H5=>∃ys,H5 D=some (.lst ys)∧ys.length < sizeLine∧N σ3 (upd H5 D (.lst (ys++ [v])))) else N σ3 H4)
section
variable {prog:Program} {w:World} {A:Around} {R:Result→Shared→Prop} {s:Shared}
theorem Jsr {elt target iter:Expr} {ifs:List Expr} {scope:Scope} {pos:Pos} {it acc:Value} {env:Env} (I:Nat→Shared→Prop)
  (turn:∀n s,I n s→wpAny (model prog w) A (pyNext it) (fun r s1=>match r with
   |none=>R (.ok .next) s1
   |some v=>wpAny (model prog w) A (letOwnedTupleGo target it v) (fun _ s1'=>wpAny (model prog w) A (assign target env v) (fun _ s2=>
     wpAny (model prog w) A (forIn ifs true fun c r=>if r=true then do let ok←isTrue c env (eval c env);pure (ForInStep.yield ok) else pure (ForInStep.yield r)) (fun ok s3=>
      if ok=true then wpAny (model prog w) A (eval elt env) (fun x s4=>
       wpAny (model prog w) A (call (.builtin "list.append") [acc,x]) (fun _ s5=>∃m,m < n∧I m s5) (fun _ _=>False) s4) (fun _ _=>False) s3
      else ∃m,m < n∧I m s3) (fun _ _=>False) s2) (fun _ _=>False) s1') (fun _ _=>False) s1) (fun _ _=>False) s)
  (n:Nat) (h:I n s):codeAny (model prog w) A (.compLoop (.ListComp elt [⟨target,iter,ifs,0⟩] scope pos) 0 it acc env) R s:=by
 refine codeAny_loop rfl I (fun n s hI=>?_) n h
 show wpAny _ A ((compTurn (.ListComp elt [⟨target,iter,ifs,0⟩] scope pos) 0 it acc env).onRaise (fun x=>do noteFrame x env;theTreesLotGoes x)) _ _ s
 refine wpAny_noted (wpAny_noRaise ?_)
 rw [compTurn_list]
 refine wpAny_bind (wpAny_standAt (wpAny_bind (wpAny_mono (turn n s hI) (fun r s1 h1=>?_) fun _ _ h'=>h')))
 cases r with
 |none=>exact wpAny_pure h1
 |some v=>
  refine wpAny_bind (wpAny_mono h1 (fun _ s1' h1'=>?_) fun _ _ h'=>h')
  refine wpAny_bind (wpAny_mono h1' (fun _ s2 h2=>wpAny_bind (wpAny_mono h2 (fun ok s3 h3=>?_) fun _ _ h'=>h')) fun _ _ h'=>h')
  cases ok with
  |false=>exact wpAny_pure ⟨rfl,h3⟩
  |true=>
   exact wpAny_bind (wpAny_bind (wpAny_mono h3 (fun x s4 h4=>wpAny_bind (wpAny_mono h4 (fun _ s5 h5=>wpAny_pure (wpAny_pure ⟨rfl,h5⟩)) fun _ _ h'=>h')) fun _ _ h'=>h'))
end
section
variable {X:Cx} {pins:List (Addr×Obj)} {σ:St} {H:Hp} {s:Shared}
theorem blk_ok {sc:Scope} {N:List Str} {C:Addr} {fp:List Addr} {pn:List (Addr×Obj)} (I:Inv X pins σ H s) (hk:sc.kind= .function) (hcell:∀y∈sc.names,y.2≠ .cell)
  (hfr:∀y∈sc.names,y.2= .free→X.env.kindOf y.1=some .cell∨X.env.kindOf y.1=some .free) (hC:C=s.heap.objs.size) (hf:∀b∈fp,Jog X pins H b∧b < s.heap.objs.size):(blk X sc N C s H fp pn).Ok:=by
 have hin:∀x c,(Jk8 X.env.cells sc.names []).lookup x=some c→X.env.cells.lookup x=some c:=Jl8 sc.names [] (fun x c e=>by simp at e)
 refine ⟨I.ok.mod,hk,I.ok.glob,I.ok.blt,Nat.le_of_eq hC.symm,fun x y c h1 h2=>I.ok.inj x y c (hin _ _ h1) (hin _ _ h2),fun x hx=>?_,fun x c h _=>(by cases h),I.ok.hd,I.ok.frames,.inl rfl,fun b hb=>?_,I.bs,Nat.le_trans I.ok.bsz I.sz,fun b o e hb=>?_,fun b hb z=>?_,I.stack,I.stkFree⟩
 ·have hx':(relabel sc X.env).names.lookup x=some .cell∨(relabel sc X.env).names.lookup x=some .free:=hx
  have hm:(x,NameKind.free)∈sc.names:=by
   have:∀k,(relabel sc X.env).names.lookup x=some k→(k= .cell∨k= .free)→(x,NameKind.free)∈sc.names:=fun k e hkk=>by
    have m:=PySem.mem_of_lookup e
    obtain ⟨⟨n',k'⟩,m1,m2⟩:=List.mem_map.mp m
    dsimp only at m2
    by_cases hc:(k'==NameKind.free&&X.env.scope.kind== .function&&X.env.kindOf n'==some .cell)=true
    ·rw [if_pos hc] at m2
     have e1:n'=x:=congrArg Prod.fst m2
     have e2:k'=NameKind.free:=by simp at hc;exact hc.1.1
     rw [←e1,←e2]
     exact m1
    ·rw [if_neg hc] at m2
     have e1:n'=x:=congrArg Prod.fst m2
     have e2:k'=k:=congrArg Prod.snd m2
     rcases hkk with z|z
     ·exact absurd (e2.trans z) (hcell _ m1)
     ·rw [←e1,←z,←e2];exact m1
   rcases hx' with e|e
   ·exact this _ e (.inl rfl)
   ·exact this _ e (.inr rfl)
  have hh:=Jkj (cells:=X.env.cells) sc.names [] hm (I.ok.has x (hfr _ hm rfl))
  exact Option.isSome_iff_exists.mp hh
 ·obtain ⟨⟨f0,f1,f2,f3,f4,f5⟩,lt⟩:=hf b hb
  exact ⟨fun z=>Nat.ne_of_lt lt (z.trans hC),fun x c e=>f4 x c (hin _ _ e)⟩
 ·obtain ⟨⟨f0,f1,f2,f3,f4,f5⟩,lt⟩:=hf b hb
  rcases f3 with z|z
  ·exact I.ok.noex b o e z
  ·exact absurd (Nat.lt_of_lt_of_le (Heap.lt_size (I.ok.bs b o e).1) z) (Nat.lt_irrefl _)
 ·obtain ⟨⟨f0,f1,f2,f3,f4,f5⟩,lt⟩:=hf b hb
  rcases List.mem_cons.mp (I.stkSub b z) with e|e
  ·exact f1 e
  ·exact f2 e
theorem Yt {sc:Scope} {N:List Str} {ini:List (Option Nat)} {fp:List Addr} {h1:Heap} {t':Nat} (I:Inv X pins σ H s) (hk:sc.kind= .function) (hcell:∀y∈sc.names,y.2≠ .cell)
  (hfr:∀y∈sc.names,y.2= .free→X.env.kindOf y.1=some .cell∨X.env.kindOf y.1=some .free) (hf:∀b∈fp,Jog X pins H b∧b < s.heap.objs.size) (hlen:N.length=ini.length)
  (hini:∀(i:Nat) (x:Str) (j:Nat),N[i]?=some x→ini[i]?=some (some j)→X.N[j]?=some x∧sc.names.lookup x=some .free∧(X.env.kindOf x=some .cell∨X.env.kindOf x=some .free))
  (hn:h1.Ns s.heap.objs.size (fun _=>none)) (kp:∀b o,s.heap.get? b=some o→h1.get? b=some o):
  Inv (blk X sc N s.heap.objs.size s H fp (X.pn++pins)) [] (Jx4 ini σ) H {s with heap:=h1,toks:=t'}:=by
 have hin:∀x c,(Jk8 X.env.cells sc.names []).lookup x=some c→X.env.cells.lookup x=some c:=Jl8 sc.names [] (fun x c e=>by simp at e)
 refine ⟨blk_ok I hk hcell hfr rfl hf,rfl,I.bare,Un.kept kp,⟨_,hn,fun i x v e1 e2 e3=>?_⟩,fun x c e=>?_,I.hok.fresh (Nat.le_refl _),fun x c e=>(I.freeC x c (hin _ _ e)).imp id fun z=>⟨rfl,z.2⟩,fun p hp=>?_,I.hok.kept kp,?_⟩
 ·have e1':N[i]?=some x:=e1
  have e2':(Jx4 ini σ)[i]?=some (some v):=e2
  unfold Jx4 at e2'
  rw [List.getElem?_map] at e2'
  cases hi:ini[i]? with
  |none=>rw [hi] at e2';cases e2'
  |some o=>
   rw [hi] at e2'
   cases o with
   |none=>cases e2'
   |some j=>
    have e4:(σ[j]?).join=some v:=Option.some.inj e2'
    have e5:σ[j]?=some (some v):=by
     cases q:σ[j]? with
     |none=>rw [q] at e4;cases e4
     |some z=>rw [q] at e4;exact congrArg some e4
    obtain ⟨a1,a2,a3⟩:=hini i x j e1' hi
    obtain ⟨m,hm,hl⟩:=I.loc
    have hvis:Vis X.env.scope x:=by
     rcases a3 with z|z
     ·exact .inr (.inl z)
     ·exact .inr (.inr z)
    obtain ⟨u,r,l⟩:=hl j x v a1 e5 hvis
    refine ⟨u,r,.inr ⟨?_,?_⟩⟩
    ·have hm2:=PySem.mem_of_lookup a2
     have e3':Vis (relabel sc X.env) x:=e3
     rcases e3' with z|z|z
     ·exfalso
      have m1:=PySem.mem_of_lookup z
      obtain ⟨⟨n',k'⟩,m2,m3⟩:=List.mem_map.mp m1
      dsimp only at m3
      have key:∀{ns:List (Str×NameKind)},ns.lookup x=some .free→(ns.map fun (n,k)=>if (k==NameKind.free&&X.env.scope.kind== .function&&X.env.kindOf n==some .cell) then (n,NameKind.cell) else (n,k)).lookup x≠some .local:=by
       intro ns
       induction ns with
       |nil=>intro q;simp at q
       |cons y r ih=>
        obtain ⟨n,k⟩:=y
        intro q
        rw [List.lookup_cons] at q
        rw [List.map_cons]
        dsimp only
        cases hx:x==n with
        |true=>
         rw [hx] at q
         have q':k= .free:=Option.some.inj q
         subst q'
         split
         ·rw [List.lookup_cons,hx];intro z;cases z
         ·rw [List.lookup_cons,hx];intro z;cases z
        |false=>
         rw [hx] at q
         split
         ·rw [List.lookup_cons,hx];exact ih q
         ·rw [List.lookup_cons,hx];exact ih q
      exact key a2 z
     ·exact .inl z
     ·exact .inr z
    ·rcases l with ⟨k1,_⟩|⟨_,c,hc,hcl⟩
     ·exfalso
      rcases a3 with z|z
      ·rw [z] at k1;cases k1
      ·rw [z] at k1;cases k1
     ·have hh:=Jkj (cells:=X.env.cells) sc.names [] (PySem.mem_of_lookup a2) ⟨c,hc⟩
      obtain ⟨c',hc'⟩:=Option.isSome_iff_exists.mp hh
      have:c'=c:=by
       have q:=hin _ _ hc'
       rw [hc] at q
       exact (Option.some.inj q).symm
      subst this
      obtain ⟨oc,hoc,hod⟩:=hcl
      exact ⟨c',hc',oc,kp _ _ hoc,hod⟩
 ·obtain ⟨v,oc,hoc,hod⟩:=I.cell x c (hin _ _ e)
  exact ⟨v,oc,kp _ _ hoc,hod⟩
 ·have hp':p∈X.pn++pins:=by simpa [blk] using hp
  obtain ⟨e,n,ne,nf,d⟩:=I.pin p hp'
  refine ⟨kp _ _ e,n,Nat.ne_of_lt (Heap.lt_size e),fun z=>?_,d⟩
  rcases List.mem_cons.mp (I.stkSub p.1 z) with q|q
  ·exact ne q
  ·exact nf q
 ·unfold Jx4
  show (ini.map _).length=N.length
  rw [List.length_map]
  exact hlen.symm
end
end L2
namespace L2
open PySem PySem.Spec PyProof.Rows
section
variable {X:Cx} {elt iter tg:Expr} {ifs:List Expr} {sc:Scope} {pos:Pos} {N:List Str} {ini:List (Option Nat)} {wi:TI} {g:TG} {tt:TT} {te:TE}
theorem Jrv {pins:List (Addr×Obj)} {σ:St} {H:Hp} {s:Shared} {Q:VK} {use:Option (Value→Sem Unit)} {Q':Value→Shared→Prop} {p:Pos} (hc:X.calm=true) (hi:PI X tg iter wi)
  (hsc:scB sc=true) (hfr:frB X.env.scope.names sc=true) (hlen:N.length=ini.length) (hini:iniB X.N N ini X.env.scope.names sc=true)
  (hg:∀C s H fp pn,PG (blk X sc N C s H fp pn) tg g) (ht:∀C s H fp pn,PIf (blk X sc N C s H fp pn) ifs tt) (he:∀C s H fp pn,PE (blk X sc N C s H fp pn) elt te)
  (hs:∀x,foldedSetIterable iter X.env x=pure x) (I:Inv X pins σ H s) (h:Yh wi ini g tt te σ H Q)
  (hfin:∀(D:Addr) (H':Hp) (s':Shared) (C:Addr) (m:Str→Option Value),Inv X pins σ H' s'→Jog X pins H' C→s'.heap.Ns C m→Q (.ref D) H'→compPost (model X.prog X.w) X.A X.xe use Q' (.ref D) C (.ok .next) s'):
  wpAny (model X.prog X.w) X.A (comprehension (.ListComp elt [⟨tg,iter,ifs,0⟩] sc pos) sc X.env p (newList []) false (eval iter X.env) use) Q' X.xe s:=by
 have hsc':=hsc
 unfold scB at hsc'
 rw [Bool.and_eq_true,Bool.and_eq_true] at hsc'
 obtain ⟨⟨hk0,hcell0⟩,hnames0⟩:=hsc'
 have hk:sc.kind= .function:=of_decide_eq_true hk0
 have hcell:∀y∈sc.names,y.2≠ .cell:=fun y hy=>of_decide_eq_true (List.all_eq_true.mp hcell0 y hy)
 have hnames:∀y∈sc.names,y.2= .local→sc.names.lookup y.1=some .local:=fun y hy hl=>by
  have q:=List.all_eq_true.mp hnames0 y hy
  rw [decide_eq_true hl] at q
  exact of_decide_eq_true (by simpa using q)
 have hfrP:∀y∈sc.names,y.2= .free→X.env.kindOf y.1=some .cell∨X.env.kindOf y.1=some .free:=fun y hy hl=>by
  have q:=List.all_eq_true.mp hfr y hy
  rw [decide_eq_true hl] at q
  have q2:decide (X.env.scope.names.lookup y.1=some .cell)=true∨decide (X.env.scope.names.lookup y.1=some .free)=true:=by simpa using q
  rcases q2 with z|z
  ·exact .inl (of_decide_eq_true z)
  ·exact .inr (of_decide_eq_true z)
 have hiniP:∀(i:Nat) (x:Str) (j:Nat),N[i]?=some x→ini[i]?=some (some j)→X.N[j]?=some x∧sc.names.lookup x=some .free∧(X.env.kindOf x=some .cell∨X.env.kindOf x=some .free):=fun i x j e1 e2=>by
  have hm:(x,some j)∈N.zip ini:=by
   refine List.mem_of_getElem? (i:=i) ?_
   rw [List.getElem?_zip_eq_some]
   exact ⟨e1,e2⟩
  have q:=List.all_eq_true.mp hini _ hm
  dsimp only at q
  rw [Bool.and_eq_true,Bool.and_eq_true,Bool.or_eq_true] at q
  obtain ⟨⟨q1,q2⟩,q3⟩:=q
  refine ⟨of_decide_eq_true q1,of_decide_eq_true q2,?_⟩
  rcases q3 with z|z
  ·exact .inl (of_decide_eq_true z)
  ·exact .inr (of_decide_eq_true z)
 refine wpAny_comprehension_free (use:=use) rfl hs (Jn6 fun y hy hl=>I.ok.has y.1 (hfrP y hy hl)) hk hnames ?_
 refine thn (hi pins s σ H _ I h) fun v s1 h1=>thn h1 fun itv s2 h2=>?_
 obtain ⟨it,fp,tn,J,H2,e,I2,T,st2,f2,step⟩:=h2
 subst e
 refine wpAny_newObj_type (wpAny_newFunctionEnv hcell (by intro y hy;simp at hy) (fun h1 hns1 hsb1=>?_) hk)
 dsimp only at hns1 hsb1⊢
 have hD:H2 s2.heap.objs.size=none:=I2.hok.fresh (Nat.le_refl _)
 have kp3:∀b o,s2.heap.get? b=some o→(s2.heap.push {cls:=.type "list",dict:=none,data:=.seq ([]:List Value).toArray}).get? b=some o:=fun b o e=>Heap.get?_push_of_some _ e
 have I3:Inv X pins σ (upd H2 s2.heap.objs.size (.lst [])) {s2 with heap:=s2.heap.push {cls:=.type "list",dict:=none,data:=.seq ([]:List Value).toArray}}:=
  I2.laid (t':=s2.toks) kp3 (Nat.le_refl _) ⟨Nat.zero_le _,[],0,.nil,Heap.get?_push_size _ rfl⟩
 obtain ⟨W,⟨m0,w0⟩,turn⟩:=step s2.heap.objs.size hD
 generalize hs3:({s2 with heap:=s2.heap.push {cls:=.type "list",dict:=none,data:=.seq ([]:List Value).toArray}}:Shared)=s3 at I3
 have e3h:s3.heap=s2.heap.push {cls:=.type "list",dict:=none,data:=.seq ([]:List Value).toArray}:=by rw [←hs3]
 rw [←e3h] at hns1 hsb1 kp3⊢
 have sz3:s2.heap.objs.size < s3.heap.objs.size:=by rw [e3h,Heap.size_push];exact Nat.lt_succ_self _
 have hf3:∀b∈fp,Jog X pins (upd H2 s2.heap.objs.size (.lst [])) b∧b < s3.heap.objs.size:=fun b hb=>by
  obtain ⟨o,eo,_⟩:=T.obj 0 _ st2 b hb
  have lt:=Heap.lt_size eo
  obtain ⟨f0,fr⟩:=f2 b hb
  exact ⟨⟨by rw [Ji7 (Nat.ne_of_lt lt)];exact f0,fr⟩,Nat.lt_trans lt sz3⟩
 have kp4:∀b o,s3.heap.get? b=some o→h1.get? b=some o:=fun b o e=>(hsb1.2 b (Nat.ne_of_lt (Heap.lt_size e))).trans (Heap.get?_push_of_some _ e)
 have I4:Inv (blk X sc N s3.heap.objs.size s3 (upd H2 s2.heap.objs.size (.lst [])) fp (X.pn++pins)) [] (Jx4 ini σ) (upd H2 s2.heap.objs.size (.lst [])) {s3 with heap:=h1,toks:=s3.toks+([]:List (Str×Value)).length}:=
  Yt I3 hk hcell hfrP hf3 hlen hiniP hns1 kp4
 have st4:tn 0 h1:=T.keep 0 _ _ st2 fun b hb o e=>kp4 b o (kp3 b o e)
 have e4s:({s2 with heap:=h1,toks:=s2.toks+([]:List (Str×Value)).length}:Shared)={s3 with heap:=h1,toks:=s3.toks+([]:List (Str×Value)).length}:=by rw [←hs3]
 have stat:∀{H':Hp},(∀b∈fp,H' b=none)→∀b∈fp,Jog (blk X sc N s3.heap.objs.size s3 (upd H2 s2.heap.objs.size (.lst [])) fp (X.pn++pins)) [] H' b:=fun {H'} hn b hb=>by
  obtain ⟨⟨f0,f1,f2',f3,f4,f5⟩,lt⟩:=hf3 b hb
  refine ⟨hn b hb,Nat.ne_of_lt lt,fun z=>?_,.inl hb,fun x c e=>f4 x c (Jl8 sc.names [] (fun x c e=>by simp at e) x c e),fun p hp=>f5 p (by simpa [blk] using hp)⟩
  rcases List.mem_cons.mp (I3.stkSub b z) with q|q
  ·exact f1 q
  ·exact f2' q
 have loop:∀s4:Shared,s4={s3 with heap:=h1,toks:=s3.toks+([]:List (Str×Value)).length}→codeAny (model X.prog X.w) X.A (.compLoop (.ListComp elt [⟨tg,iter,ifs,0⟩] sc pos) 0 (.ref it) (.ref s2.heap.objs.size) (compEnvC sc (Jk8 X.env.cells sc.names []) s3.heap.objs.size X.env))
   (compPost (model X.prog X.w) X.A X.xe use Q' (.ref s2.heap.objs.size) s3.heap.objs.size) s4:=by
  rintro s4 rfl
  refine Jsr (fun n s'=>∃i σ' H',Inv (blk X sc N s3.heap.objs.size s3 (upd H2 s2.heap.objs.size (.lst [])) fp (X.pn++pins)) [] σ' H' s'∧tn i s'.heap∧(∀b∈fp,H' b=none)∧W i n σ' H') ?_ m0
   ⟨0,_,_,I4,st4,fun b hb=>(hf3 b hb).1.1,w0⟩
  rintro n s5 ⟨i,σ5,H5,I5,st5,fr5,w5⟩
  rcases turn i n σ5 H5 w5 with ⟨stop,q⟩|⟨go,N',hN',step'⟩
  ·refine thn (T.done (blk X sc N s3.heap.objs.size s3 (upd H2 s2.heap.objs.size (.lst [])) fp (X.pn++pins)) rfl rfl rfl hc i [] s5 σ5 H5 _ I5 (stat fr5) st5 stop) fun r s6 ⟨hr,I6⟩=>?_
   subst hr
   have un:Un (frs X.stack) fp H2 H5 s2.heap s6.heap:=(Un.laid (fs:=frs X.stack) (ex:=fp) kp3 (Nat.le_refl _) hD).trans I6.base
   have os6:s6.os=s2.os:=I6.os.trans (show s3.os=s2.os by rw [←hs3])
   have IX:Inv X pins σ H5 s6:=I2.call' (ch:=fp) os6 un I6.hok I6.bare fun b hb=>by
    obtain ⟨⟨f0,f1,f2',f3,f4,f5⟩,lt⟩:=hf3 b hb
    exact ⟨f3,f1,f4,f5⟩
   obtain ⟨m,hm,_⟩:=I6.loc
   exact hfin _ H5 s6 s3.heap.objs.size m IX (I2.fpOk (Nat.le_of_lt sz3) I6.free) hm q
  ·refine thn (T.item (blk X sc N s3.heap.objs.size s3 (upd H2 s2.heap.objs.size (.lst [])) fp (X.pn++pins)) rfl rfl rfl hc i [] s5 σ5 H5 _ I5 (stat fr5) st5 go) fun r s6 ⟨u,hr,h6⟩=>?_
   subst hr
   refine thn h6 fun _ s7 ⟨x,H7,I7,r7,y7,st7,fr7⟩=>?_
   have I7':=I7.pinned (stat fr7) (T.obj _ _ st7)
   refine thn (hg _ _ _ _ _ _ s7 σ5 H7 x u _ I7' r7 (step' x H7 y7)) fun _ s8 ⟨σ8,H8,I8,q8⟩=>?_
   refine thn (ht _ _ _ _ _ _ s8 σ8 H8 _ I8 q8) fun ok s9 ⟨H9,I9,q9⟩=>?_
   have again:∀{σ':St} {H':Hp} {s':Shared},Inv (blk X sc N s3.heap.objs.size s3 (upd H2 s2.heap.objs.size (.lst [])) fp (X.pn++pins)) ([]++Jqp fp s7.heap) σ' H' s'→N' σ' H'→
     ∃m,m < n∧∃i σ' H',Inv (blk X sc N s3.heap.objs.size s3 (upd H2 s2.heap.objs.size (.lst [])) fp (X.pn++pins)) [] σ' H' s'∧tn i s'.heap∧(∀b∈fp,H' b=none)∧W i m σ' H':=fun {σ' H' s'} J n'=>by
    obtain ⟨m',hm,w'⟩:=hN' σ' H' n'
    refine ⟨m',hm,i+1,σ',H',J.unpinned,T.keep _ _ _ st7 fun b hb o e=>(J.pin (b,o) (List.mem_append_right _ (List.mem_append_right _ (Jm2 hb e)))).1,fun b hb=>?_,w'⟩
    obtain ⟨o,e,d⟩:=T.obj _ _ st7 b hb
    exact (J.pin (b,o) (List.mem_append_right _ (List.mem_append_right _ (Jm2 hb e)))).2.1
   cases ok with
   |false=>
    rw [if_neg Bool.false_ne_true] at q9⊢
    exact again I9 q9
   |true=>
    rw [if_pos rfl] at q9⊢
    refine thn (he _ _ _ _ _ _ s9 σ8 H9 _ I9 q9) fun v10 s10 ⟨x10,H10,I10,r10,ys,hys,hyl,q10⟩=>?_
    refine thn (Jjx _ s10 σ8 H10 (.ref s2.heap.objs.size) [x10] _ [v10] (fun _ H'=>N' σ8 H') I10 rfl (.cons r10 .nil) ⟨_,ys,x10,rfl,rfl,hys,hyl,q10⟩) fun _ s11 ⟨_,H11,I11,_,q11⟩=>?_
    exact again I11 q11
 have fin:=codeAny_compStart_list (R:=compPost (model X.prog X.w) X.A X.xe use Q' (.ref s2.heap.objs.size) s3.heap.objs.size) (loop _ rfl) (T.self X.A 0 {s3 with heap:=h1,toks:=s3.toks+([]:List (Str×Value)).length} _ _ st4 (loop _ rfl))
 rw [←e4s] at fin
 exact fin
theorem Jj2 (hc:X.calm=true) (hi:PI X tg iter wi) (hg:∀C s H fp pn,PG (blk X sc N C s H fp pn) tg g) (ht:∀C s H fp pn,PIf (blk X sc N C s H fp pn) ifs tt) (he:∀C s H fp pn,PE (blk X sc N C s H fp pn) elt te)
  (hsc:scB sc=true:=by rfl) (hfr:frB X.env.scope.names sc=true:=by rfl) (hlen:N.length=ini.length:=by rfl) (hini:iniB X.N N ini X.env.scope.names sc=true:=by rfl)
  (hs:∀x,foldedSetIterable iter X.env x=pure x:=by intro _;rfl):PE X (.ListComp elt [⟨tg,iter,ifs,0⟩] sc pos) (Yh wi ini g tt te):=by
 intro pins s σ H Q I h
 rw [eval_ListComp]
 refine Jrv (use:=none) hc hi hsc hfr hlen hini hg ht he hs I h fun D H' s' C m I' f hn q=>?_
 obtain ⟨f0,f1,f2,f3,f4,f5⟩:=f
 exact ⟨m,hn,fun h' sb=>⟨.ref D,H',I'.turned (it:=C) (t':=s'.toks) (fun b o hb e=>(sb.2 b hb).trans e) f0 f1 f3 f4 f5,rfl,q⟩⟩
def tSetC (i:Nat) (te:TE):TS:=fun D σ H=>te σ H fun v H1=>D.nx (σ.set i (some v)) H1
theorem Jks {i:Nat} {y:Str} {py spos:Pos} (hN:X.N.Nodup) (hiy:X.N[i]?=some y) (hx:Loc X.env.scope y) (hc:X.calm=true) (hi:PI X tg iter wi) (hg:∀C s H fp pn,PG (blk X sc N C s H fp pn) tg g) (ht:∀C s H fp pn,PIf (blk X sc N C s H fp pn) ifs tt) (he:∀C s H fp pn,PE (blk X sc N C s H fp pn) elt te)
  (hf:X.fn y=true∨X.env.scope.names.lookup y=some .local:=by first|exact .inl rfl|exact .inr rfl|assumption)
  (hsw:swapsWith (.ListComp elt [⟨tg,iter,ifs,0⟩] sc pos) (some (.Name y py)) spos.line X.env=pure true:=by rfl)
  (hsc:scB sc=true:=by rfl) (hfr:frB X.env.scope.names sc=true:=by rfl) (hlen:N.length=ini.length:=by rfl) (hini:iniB X.N N ini X.env.scope.names sc=true:=by rfl)
  (hs:∀x,foldedSetIterable iter X.env x=pure x:=by intro _;rfl):PS X (.Assign [.Name y py] (.ListComp elt [⟨tg,iter,ifs,0⟩] sc pos) spos) (tSetC i (Yh wi ini g tt te)):=by
 intro pins s σ H D I h
 rw [exec_Assign_Name_used _ _ _ _ hsw]
 refine wpAny_bind (wpAny_standAt (wpAny_bind ?_))
 show wpAny _ X.A (do let _←comprehension (.ListComp elt [⟨tg,iter,ifs,0⟩] sc pos) sc X.env _ (newList []) false (eval iter X.env) (some (assign (.Name y py) X.env))) _ _ s
 refine wpAny_bind (wpAny_mono (Jrv (use:=some (assign (.Name y py) X.env)) (Q':=fun _ s'=>SP X pins D .next s') hc hi hsc hfr hlen hini hg ht he hs I h fun D' H' s' C m I' f hn q=>?_) (fun _ s' hq=>wpAny_pure (wpAny_pure hq)) fun _ _ e=>e)
 obtain ⟨f0,f1,f2,f3,f4,f5⟩:=f
 show wpAny _ X.A (assign (.Name y py) X.env (.ref D')) _ _ _
 refine wpAny_assign_Name (Jsg I' hN hiy hx (v:=.ref D') rfl (fun s'' I'' sb=>?_) hf)
 obtain ⟨a,sb,ha⟩:=sb
 have hCa:C≠a:=by
  rcases ha with z|z
  ·rw [z];exact f1
  ·exact fun e=>f4 y a z e.symm
 refine ⟨m,hn.sameBut sb hCa,fun h' sb'=>⟨_,H',I''.turned (it:=C) (t':=s''.toks) (fun b o hb e=>(sb'.2 b hb).trans e) f0 f1 f3 f4 f5,q⟩⟩
end
section
variable {g:TG} {tt:TT} {te:TE} {H:Hp} {D:Addr} {σ:St} {R:Hp→Prop}
theorem Jjk {lo:Int} {n:Nat} (Pv:Nat→St→Hp→Prop) (h0:Pv 0 σ H)
  (hs:∀i σ H,i < n→Pv i σ H→g (.int (lo+i)) σ H fun σ3 H3=>tt σ3 H3 fun b H4=>if b=true then te σ3 H4 (fun v H5=>∃ys,H5 D=some (.lst ys)∧ys.length < sizeLine∧Pv (i+1) σ3 (upd H5 D (.lst (ys++ [v])))) else Pv (i+1) σ3 H4)
  (hd:∀σ H,Pv n σ H→R H):
  ∃W:Nat→Nat→St→Hp→Prop,(∃m,W 0 m σ H)∧∀i m σ' H',W i m σ' H'→((Itr lo n).stop i H'∧R H')∨((Itr lo n).go i H'∧∃N:St→Hp→Prop,(∀σ2 H2,N σ2 H2→∃m',m' < m∧W (i+1) m' σ2 H2)∧
   ∀x H2,(Itr lo n).yld i H' x H2→g x σ' H2 fun σ3 H3=>tt σ3 H3 fun b H4=>if b=true then te σ3 H4 (fun v H5=>∃ys,H5 D=some (.lst ys)∧ys.length < sizeLine∧N σ3 (upd H5 D (.lst (ys++ [v])))) else N σ3 H4):=by
 refine ⟨fun i m σ H=>m=n - i∧i≤n∧Pv i σ H,⟨n,by simp,Nat.zero_le _,h0⟩,?_⟩
 rintro i m σ H ⟨rfl,hi,p⟩
 by_cases hlt:i < n
 ·refine .inr ⟨hlt,Pv (i+1),fun σ' H' p'=>⟨n - (i+1),by omega,rfl,hlt,p'⟩,fun x H' y=>?_⟩
  obtain ⟨e,y⟩:=y
  subst e y
  exact hs i σ _ hlt p
 ·have e:i=n:=by omega
  subst e
  exact .inl ⟨Nat.le_refl _,hd σ H p⟩
theorem Jjb {K:PySem.W.Frag} {a:Addr} {xs:List V} (Pv:Nat→St→Hp→Prop) (h0:Pv 0 σ H) (hl:∀i σ H,i≤xs.length→Pv i σ H→SqL K H a xs)
  (hs:∀i x σ H,xs[i]?=some x→Pv i σ H→g x σ H fun σ3 H3=>tt σ3 H3 fun b H4=>if b=true then te σ3 H4 (fun v H5=>∃ys,H5 D=some (.lst ys)∧ys.length < sizeLine∧Pv (i+1) σ3 (upd H5 D (.lst (ys++ [v])))) else Pv (i+1) σ3 H4)
  (hd:∀σ H,Pv xs.length σ H→R H):
  ∃W:Nat→Nat→St→Hp→Prop,(∃m,W 0 m σ H)∧∀i m σ' H',W i m σ' H'→((Itl K a).stop i H'∧R H')∨((Itl K a).go i H'∧∃N:St→Hp→Prop,(∀σ2 H2,N σ2 H2→∃m',m' < m∧W (i+1) m' σ2 H2)∧
   ∀x H2,(Itl K a).yld i H' x H2→g x σ' H2 fun σ3 H3=>tt σ3 H3 fun b H4=>if b=true then te σ3 H4 (fun v H5=>∃ys,H5 D=some (.lst ys)∧ys.length < sizeLine∧N σ3 (upd H5 D (.lst (ys++ [v])))) else N σ3 H4):=by
 refine ⟨fun i m σ H=>m=xs.length - i∧i≤xs.length∧Pv i σ H,⟨xs.length,by simp,Nat.zero_le _,h0⟩,?_⟩
 rintro i m σ H ⟨rfl,hi,p⟩
 have q:=hl i σ H hi p
 by_cases hlt:i < xs.length
 ·refine .inr ⟨⟨xs,xs[i],q,by simp [hlt]⟩,Pv (i+1),fun σ' H' p'=>⟨xs.length - (i+1),by omega,rfl,hlt,p'⟩,fun x H' y=>?_⟩
  obtain ⟨e,y⟩:=y
  subst e
  exact hs i x σ _ (y xs q) p
 ·have e:i=xs.length:=by omega
  subst e
  exact .inl ⟨⟨xs,q,Nat.le_refl _⟩,hd σ H p⟩
end
theorem Jj5 {i:Nat} {v:V} {σ:St} {H:Hp} {A B:St→Hp→Prop} (h:A (σ.set i (some v)) H):Jmb i v σ H fun σ3 H3=>tYes σ3 H3 fun b H4=>if b=true then A σ3 H4 else B σ3 H4:=by
 show if true=true then A (σ.set i (some v)) H else B (σ.set i (some v)) H
 rw [if_pos rfl]
 exact h
def sgn (c:Nat):V:=.str ⟨#[c]⟩
def Its (z:Str):It:=⟨fun i _=>i < z.cps.size,fun i H x H'=>H'=H∧∃c,z.cps[i]?=some c∧x=sgn c,fun i _=>z.cps.size=i⟩
def iStr (tl:TE):TI:=fun σ H R=>tl σ H fun x H1=>∃z,x= .str z∧R (Its z) H1
theorem Juw {P:Program} {w:World} {K:PySem.W.Frag} {tg:Expr} {z:Str} {it:Addr} {n:String} {fl:Nat→Array Value} {St:Nat→Heap→Prop}
  (Wk:∀A':Around,A'.handled=none→Walks P w A' it [it] [it] z.cps.size (SignAt z) St) (hst:∀i h,St i h→∃o,h.get? it=some o∧o.cls= .type n∧∃a,o.data= .fields a)
  (hn: ["enumerate","zip","dict_itemiterator","dict_reverseitemiterator","odict_iterator","itertools.zip_longest","itertools.pairwise"].contains n=false)
  (hself:∀(A:Around) (i:Nat) (s:Shared) (Q:Value→Shared→Prop) (E:Value→Shared→Prop),St i s.heap→Q (.ref it) s→wpAny (model P w) A (pyIter (.ref it)) Q E s):Jpk P w K tg (Its z) [it] it St where
 mem:=by simp
 obj:=fun i h st b hb=>by
  have e:b=it:=by simpa using hb
  subst e
  obtain ⟨o,e,_,a,d⟩:=hst i h st
  exact ⟨o,e,fun v z=>by rw [d] at z;cases z⟩
 keep:=fun i h h' st k=>by
  have W0:=Wk callerA rfl
  exact W0.frame i h h' st fun b hb o e=>k b hb o e
 item:=by
  intro X hP hw hK hc i pins s σ H E I hf st hg
  subst hP hw hK
  obtain ⟨f0,f1,f2,f3,f4,f5⟩:=hf it (by simp)
  have W:=Wk X.A (I.ok.hd hc)
  refine W.item i s _ _ hg st fun v h' tk hv st' kk=>?_
  obtain ⟨c,u,hcp,rfl⟩:=hv
  have I1:Inv X pins σ H {s with heap:=h',toks:=tk}:=I.turned (fun b o hb e=>kk b o (by simpa using hb) e) f0 f1 f3 f4 f5
  obtain ⟨o,e,cl,a,d⟩:=hst _ _ st'
  exact ⟨_,rfl,Jtz (s:={s with heap:=h',toks:=tk}) e cl d hn ⟨sgn c,H,I1,⟨u,rfl⟩,⟨rfl,c,hcp,rfl⟩,st',fun b hb=>(hf b hb).1⟩⟩
 done:=by
  intro X hP hw hK hc i pins s σ H E I hf st hg
  subst hP hw hK
  obtain ⟨f0,f1,f2,f3,f4,f5⟩:=hf it (by simp)
  have W:=Wk X.A (I.ok.hd hc)
  have hg':z.cps.size=i:=hg
  subst hg'
  exact W.done s _ _ st fun h' tk kk=>⟨rfl,I.turned (fun b o hb e=>kk b o (by simpa using hb) e) f0 f1 f3 f4 f5⟩
 self:=hself
theorem pi_str {X:Cx} {tg l:Expr} {tl:TE} (hl:PE X l tl):PI X tg l (iStr tl):=by
 intro pins s σ H R I h
 refine thn (hl pins s σ H _ I h) fun v s1 ⟨x,H1,I1,r1,z,e,q⟩=>?_
 subst e
 obtain ⟨t,rfl⟩:=r1
 have fin:∀(o:Obj) (St:Nat→Heap→Prop) (n:String),Jpk X.prog X.w X.K tg (Its z) [s1.heap.objs.size] s1.heap.objs.size St→St 0 (s1.heap.push o)→PIE X pins σ tg R (.ref s1.heap.objs.size) {s1 with heap:=s1.heap.push o}:=fun o St n T st0=>by
  refine ⟨s1.heap.objs.size,[s1.heap.objs.size],St,Its z,H1,rfl,I1.kept (t':=s1.toks) fun b o e=>Heap.get?_push_of_some _ e,T,st0,fun b hb=>?_,q⟩
  have e:b=s1.heap.objs.size:=by simpa using hb
  subst e
  exact I1.fpOk (Nat.le_refl _) (I1.hok.fresh (Nat.le_refl _))
 cases ha:z.cps.all (· < 128)
 ·refine wpAny_pyIter_wide ha (fin _ (fun i h=>h.IsStrIter s1.heap.objs.size "str_iterator" z t i) "str_iterator" (Juw (n:="str_iterator") (fl:=fun _=>#[]) (fun A' hA=>Walks.strWide hA _ z t) (fun i h st=>?_) (by decide) (fun A i s Q E st q=>wpAny_pyIter_striter_wide st q)) ⟨_,Heap.get?_push_size _ rfl,rfl,rfl⟩)
  obtain ⟨o,e,c,d⟩:=st
  exact ⟨o,e,c,_,d⟩
 ·refine wpAny_pyIter_ascii ha (fin _ (fun i h=>h.IsStrIter s1.heap.objs.size "str_ascii_iterator" z t i) "str_ascii_iterator" (Juw (n:="str_ascii_iterator") (fl:=fun _=>#[]) (fun A' hA=>Walks.strAscii hA _ z t) (fun i h st=>?_) (by decide) (fun A i s Q E st q=>wpAny_pyIter_striter_ascii st q)) ⟨_,Heap.get?_push_size _ rfl,rfl,rfl⟩)
  obtain ⟨o,e,c,d⟩:=st
  exact ⟨o,e,c,_,d⟩
theorem Jyk {z:Str} {g:TG} {tt:TT} {te:TE} {H:Hp} {D:Addr} {σ:St} {R:Hp→Prop} (Pv:Nat→St→Hp→Prop) (h0:Pv 0 σ H)
  (hs:∀i c σ H,z.cps[i]?=some c→Pv i σ H→g (sgn c) σ H fun σ3 H3=>tt σ3 H3 fun b H4=>if b=true then te σ3 H4 (fun v H5=>∃ys,H5 D=some (.lst ys)∧ys.length < sizeLine∧Pv (i+1) σ3 (upd H5 D (.lst (ys++ [v])))) else Pv (i+1) σ3 H4)
  (hd:∀σ H,Pv z.cps.size σ H→R H):
  ∃W:Nat→Nat→St→Hp→Prop,(∃m,W 0 m σ H)∧∀i m σ' H',W i m σ' H'→((Its z).stop i H'∧R H')∨((Its z).go i H'∧∃N:St→Hp→Prop,(∀σ2 H2,N σ2 H2→∃m',m' < m∧W (i+1) m' σ2 H2)∧
   ∀x H2,(Its z).yld i H' x H2→g x σ' H2 fun σ3 H3=>tt σ3 H3 fun b H4=>if b=true then te σ3 H4 (fun v H5=>∃ys,H5 D=some (.lst ys)∧ys.length < sizeLine∧N σ3 (upd H5 D (.lst (ys++ [v])))) else N σ3 H4):=by
 refine ⟨fun i m σ H=>m=z.cps.size - i∧i≤z.cps.size∧Pv i σ H,⟨z.cps.size,by simp,Nat.zero_le _,h0⟩,?_⟩
 rintro i m σ H ⟨rfl,hi,p⟩
 by_cases hlt:i < z.cps.size
 ·refine .inr ⟨hlt,Pv (i+1),fun σ' H' p'=>⟨z.cps.size - (i+1),by omega,rfl,hlt,p'⟩,fun x H' y=>?_⟩
  obtain ⟨e,c,hcp,y⟩:=y
  subst e y
  exact hs i c σ _ hcp p
 ·have e:i=z.cps.size:=by omega
  subst e
  exact .inl ⟨rfl,hd σ H p⟩
end L2
namespace L2
open PySem PySem.Spec PyProof.Rows
section
variable {X:Cx}
theorem Jlv:OpR X (binaryOp .FloorDiv) (rI (fun _ j=>0 < j∧j.natAbs.log2 < 9000) fun i j=>.int (i/j)):=opI fun i j _ _ _ _ _ hc q=>by
 have h1:(0:Int) < j:=hc.1
 exact floordiv_int (by omega) (by rw [Int.fdiv_eq_ediv_of_nonneg i (by omega)];exact q) (.inl (PyProof.noPylong_of_log2 hc.2))
def clsV:V→Option Value
 | .ty n=>some (.type n)
 | .ref a=>some (.ref a)
 |_=>none
def rAll (K:PySem.W.Frag):List V→Hp→VK→Prop:=fun xs H Q=>∃(a:Addr) (bs:List Bool),xs= [.ref a]∧SqL K H a (bs.map V.bl)∧Q (.bl (bs.all id)) H
theorem Jlr (hc:X.calm=true):Jk3 X (.builtin "all") (rAll X.K):=by
 intro pins s σ H xs us Q I r h
 obtain ⟨a,bs,rfl,hq,q⟩:=h
 obtain ⟨u,rfl,ru⟩:=Jl2 r
 cases ru
 obtain ⟨its,rv,pl,hz⟩:=I.list hq
 have hlen:=rv.length
 refine call_all_walk (wpAny_pyIter_list pl.isList ⟨s.heap.objs.size,[s.heap.objs.size,a],[s.heap.objs.size],its.toArray.size,_,_,fun i=>bs.getD i true,rfl,Walks.list (prog:=X.prog) (w:=X.w) (A:=X.A.in1) (show X.A.in1.handled=none from I.ok.hd hc) s.heap.objs.size a ?_ its.toArray,⟨⟨_,Heap.get?_push_size _ rfl,rfl,rfl⟩,pl.isList.at fun o e=>Heap.get?_push_of_some _ e⟩,?_,fun h' tk k=>?_⟩)
 ·obtain ⟨o,_,e,_⟩:=pl
  exact Nat.ne_of_lt (Heap.lt_size e)
 ·intro i v s' Q' E' hv hq'
  have hv':its[i]?=some v:=by simpa using hv
  have hi:i < its.length:=(List.getElem?_eq_some_iff.mp hv').1
  have hb:i < bs.length:=by rw [List.length_map] at hlen;omega
  obtain ⟨u',hu',ru'⟩:=rv.get (i:=i) (x:=V.bl bs[i]) (by rw [List.getElem?_map,List.getElem?_eq_getElem hb];rfl)
  rw [hv'] at hu'
  cases hu'
  cases ru'
  refine wpAny_truthy_bool ?_
  have:bs.getD i true=bs[i]:=by rw [List.getD_eq_getElem?_getD,List.getElem?_eq_getElem hb];rfl
  rw [←this]
  exact hq'
 ·have e:((List.range its.toArray.size).all fun i=>bs.getD i true)=bs.all id:=by
   have hl2:its.toArray.size=bs.length:=by rw [List.length_map] at hlen;rw [List.size_toArray];exact hlen.symm
   rw [hl2,Bool.eq_iff_iff,List.all_eq_true,List.all_eq_true]
   constructor
   ·intro hh b hb
    obtain ⟨i,hi,rfl⟩:=List.getElem_of_mem hb
    have:=hh i (List.mem_range.mpr hi)
    rw [List.getD_eq_getElem?_getD,List.getElem?_eq_getElem hi] at this
    exact this
   ·intro hh i hi
    have hi':=List.mem_range.mp hi
    rw [List.getD_eq_getElem?_getD,List.getElem?_eq_getElem hi']
    exact hh _ (List.getElem_mem hi')
  rw [e]
  exact ⟨.bl _,H,I.kept fun b o e=>k b o (fun z=>by
   have z':b=s.heap.objs.size:=by simpa using z
   exact absurd (Heap.lt_size e) (by rw [z'];exact Nat.lt_irrefl _)) (Heap.get?_push_of_some _ e),rfl,q⟩
end
mutual
inductive DatV (K:PySem.W.Frag) (H:Hp):V→PyData→Prop
 |non:DatV K H .non .none
 |bl (b:Bool):DatV K H (.bl b) (.bool b)
 |int (i:Int):DatV K H (.int i) (.int i)
 |str (z:Str):DatV K H (.str z) (.str z)
 |lst {a:Addr} {xs:List V} {ds:List PyData}:SqL K H a xs→DatVs K H xs ds→DatV K H (.ref a) (.list ds)
 |tup {a:Addr} {xs:List V} {ds:List PyData}:SqT K H a xs→DatVs K H xs ds→DatV K H (.ref a) (.tuple ds)
inductive DatVs (K:PySem.W.Frag) (H:Hp):List V→List PyData→Prop
 |nil:DatVs K H [] []
 |cons {x:V} {d:PyData} {xs:List V} {ds:List PyData}:DatV K H x d→DatVs K H xs ds→DatVs K H (x::xs) (d::ds)
end
section
variable {X:Cx} {pins:List (Addr×Obj)} {σ:St} {H:Hp} {s:Shared}
mutual
theorem DatV.reads (I:Inv X pins σ H s):∀{x:V} {d:PyData},DatV X.K H x d→∀{v:Value},RelV x v→∃as,Reads s.heap v d as
 |_,_,.non,_,r=>by cases r;exact ⟨_,.none⟩
 |_,_,.bl b,_,r=>by cases r;exact ⟨_,.bool b⟩
 |_,_,.int i,_,r=>by obtain ⟨t,rfl⟩:=r;exact ⟨_,.int i t⟩
 |_,_,.str z,_,r=>by obtain ⟨t,rfl⟩:=r;exact ⟨_,.str z t⟩
 |_,_,.lst (a:=a) hq hd,_,r=>by
  cases r
  obtain ⟨its,rv,⟨o,n,e,c,dd,dt⟩,_⟩:=I.list hq
  obtain ⟨as,ra⟩:=DatVs.reads I hd rv
  exact ⟨_,.list e c dt (by simpa using ra)⟩
 |_,_,.tup (a:=a) hq hd,_,r=>by
  cases r
  obtain ⟨its,rv,⟨o,e,c,n,dt⟩,_⟩:=I.tuple hq
  obtain ⟨as,ra⟩:=DatVs.reads I hd rv
  exact ⟨_,.tuple e c dt (by simpa using ra)⟩
theorem DatVs.reads (I:Inv X pins σ H s):∀{xs:List V} {ds:List PyData},DatVs X.K H xs ds→∀{us:List Value},Vals xs us→∃as,ReadsAll s.heap us ds as
 |_,_,.nil,_,r=>by cases r;exact ⟨_,.nil⟩
 |_,_,.cons h t,_,r=>by
  cases r with
  |cons r1 r2=>
   obtain ⟨as,ra⟩:=DatV.reads I h r1
   obtain ⟨bs,rb⟩:=DatVs.reads I t r2
   exact ⟨_,.cons ra rb⟩
end
def rEqD (K:PySem.W.Frag) (neg:Bool):R2:=fun x y H Q=>∃d e,DatV K H x d∧DatV K H y e∧SeqAt.shaped d=true∧SeqAt.shaped e=true∧Q (.bl (if neg then !PyData.eqv d e else PyData.eqv d e)) H
theorem Jzd (hu:X.A.units+64 < cLine):OpR X (compareOp .Eq) (rEqD X.K false):=by
 intro pins s σ H x y v u Q I rx ry h
 obtain ⟨d,e,hd,he,sd,se,q⟩:=h
 obtain ⟨as,ra⟩:=hd.reads I rx
 obtain ⟨bs,rb⟩:=he.reads I ry
 exact eq_dataH ra rb sd se hu (Jir I q rfl)
theorem Jnp (hu:X.A.units+64 < cLine):OpR X (compareOp .NotEq) (rEqD X.K true):=by
 intro pins s σ H x y v u Q I rx ry h
 obtain ⟨d,e,hd,he,sd,se,q⟩:=h
 obtain ⟨as,ra⟩:=hd.reads I rx
 obtain ⟨bs,rb⟩:=he.reads I ry
 exact ne_dataH ra rb sd se hu (Jir I q rfl)
end
end L2
namespace L2
open PySem PySem.Spec PyProof.Rows
theorem Jip:bootBuiltins "isinstance" =some (.builtin "isinstance"):=by decide +kernel
theorem Jjg:bootBuiltins "len" =some (.builtin "len"):=by decide +kernel
theorem Jom:bootBuiltins "max" =some (.builtin "max"):=by decide +kernel
theorem Jso:bootBuiltins "min" =some (.builtin "min"):=by decide +kernel
theorem Jol:bootBuiltins "all" =some (.builtin "all"):=by decide +kernel
theorem Jsn:bootBuiltins "int" =some (.type "int"):=by decide +kernel
theorem bt_str:bootBuiltins "str" =some (.type "str"):=by decide +kernel
theorem Jpr:bootBuiltins "bool" =some (.type "bool"):=by decide +kernel
theorem Jmu:bootBuiltins "list" =some (.type "list"):=by decide +kernel
theorem Jl7:bootBuiltins "tuple" =some (.type "tuple"):=by decide +kernel
structure FT (K:PySem.W.Frag) (mg:Str→Option Value) (x:Str) (st:Stmt) (ps:List Str) (f:Addr) (fd:FuncData):Prop where
 mgx:mg x=some (.ref f)
 fn:Fun K x x st f fd
 bd:Binds K fd ps []
section
variable {X:Cx} {x:Str} {st:Stmt} {ps:List Str} {f:Addr} {fd:FuncData} {sp:Sp} {k j:Nat} {p pos:Pos} {e:Expr} {es:List Expr} {t:TA}
theorem Ji9 (F:FT X.K X.mg x st ps f fd) (G:FnOk X.prog X.w X.K X.mg X.base CX0 k f fd ps sp) (hr:Room j X.A) (hk:k≤j) (ha:PA X (e::es) t) (hg:Gl X x:=by rfl) (hdb:(x==("__debug__" :Str))=false:=by decide)
  (he:starEach (e::es) X.env=(false,eval e X.env)::starEach es X.env:=by rfl) (hpl:(backTo pos (starEach es X.env)).any (·.1)=false:=by rfl):PE X (.Call (.Name x p) (e::es) [] pos) (tCall sp [] E0 t):=
 Yac G (hr.mono hk) hg F.mgx F.fn.kp F.bd .nil Jpg ha hdb he hpl
end
theorem Same.upd {H:Hp} {D:Addr} {o:HO} (h:H D=none):Same H (upd H D o):=fun b u e=>by rw [Ji7 (Ji8 e h)];exact e
def Strm (H:Hp) (p:Addr):Prop:=∃a b c:Int,H p=some (.lst [.int a,.int b,.int c])
def But (p:Addr) (H H':Hp):Prop:=(∀b o,b≠p→H b=some o→H' b=some o)∧Strm H' p
theorem But.trans {p:Addr} {H H1 H2:Hp} (a:But p H H1) (b:But p H1 H2):But p H H2:=⟨fun c o n e=>b.1 c o n (a.1 c o n e),b.2⟩
theorem But.refl {p:Addr} {H:Hp} (s:Strm H p):But p H H:=⟨fun _ _ _ e=>e,s⟩
theorem But.same {p:Addr} {H H1 H2:Hp} (a:But p H H1) (b:Same H1 H2):But p H H2:=⟨fun c o n e=>b c o (a.1 c o n e),let ⟨x,y,z,e⟩:=a.2;⟨x,y,z,b p _ e⟩⟩
theorem Strm.same {p:Addr} {H H1:Hp} (a:Strm H p) (b:Same H H1):Strm H1 p:=let ⟨x,y,z,e⟩:=a;⟨x,y,z,b p _ e⟩
theorem But.free {p:Addr} {H H':Hp} (s:Strm H p) (b:But p H H') {D:Addr} (h:H' D=none):H D=none:=by
 by_cases e:D=p
 ·obtain ⟨x,y,z,q⟩:=b.2
  rw [e,q] at h
  cases h
 ·cases q:H D with
  |none=>rfl
  |some o=>
   rw [b.1 D o e q] at h
   cases h
theorem But.updD {p D:Addr} {H H':Hp} {o:HO} (b:But p H H') (hD:H D=none) (ne:D≠p):But p H (upd H' D o):=by
 refine ⟨fun c u n e=>?_,?_⟩
 ·rw [Ji7 (Ji8 e hD)]
  exact b.1 c u n e
 ·obtain ⟨x,y,z,q⟩:=b.2
  exact ⟨x,y,z,by rw [Ji7 (Ne.symm ne)];exact q⟩
theorem Strm.ne {p D:Addr} {H:Hp} (s:Strm H p) (hD:H D=none):D≠p:=by
 obtain ⟨x,y,z,q⟩:=s
 exact (Ji8 q hD).symm
theorem Jws {p:Addr} {H:Hp} {a:Addr} {o:HO} (s:Strm H p) (h:H a=some o) (hn:∀x y z:Int,o≠ .lst [.int x,.int y,.int z]):a≠p:=by
 intro e
 obtain ⟨x,y,z,q⟩:=s
 rw [e,q] at h
 exact hn x y z (Option.some.inj h).symm
def spTake:Sp:=fun vs H Q _=>∃(p:Addr) (m:Int),vs= [.ref p,.int m]∧Strm H p∧0 < m∧m.natAbs.log2 < 9000∧∀(r:Int) (H':Hp),0≤r→r < m→But p H H'→Q (.int r) H'
def Yd:Sp:=fun vs H Q _=>∃c:Int,vs= [.int c]∧∀(p:Addr) (H':Hp),H p=none→Same H H'→Strm H' p→Q (.ref p) H'
def spCell (K:PySem.W.Frag):Sp:=fun vs H Q _=>∃(a:Addr) (ns:List Int) (k:Nat),vs= [.ref a,.int k]∧SqL K H a (ns.map V.int)∧∀n:Int,Q (.int n) H
theorem Jwo {ns:List Int} {k:Nat} (h:k < ns.length):atI (ns.map V.int) (k:Int)=some (.int ns[k]):=Jjv (by rw [List.getElem?_map,List.getElem?_eq_getElem h];rfl)
theorem Jm0 {A:Around} {k:Nat} (hr:Room k A):A.units+64 < cLine:=hr.units
end L2
namespace L2
open PySem PySem.Spec PyProof.Rows Builtin Builtin.ObjectAttr
abbrev VEm:List Value:=[.type "ValueError",.type "Exception",.type "BaseException",.type "object"]
def xcB (K:PySem.W.Frag) (C fI:Addr):Bool:=
 PySem.W.findIn K (.ref C) "__getattribute__" ==some (some (.builtin "BaseException.__getattribute__"))&&PySem.W.findIn K (.ref C) "__getattr__" ==some none&&PySem.W.findIn K (.ref C) "__setattr__" ==some (some (.builtin "object.__setattr__"))&&
 PySem.W.findIn K (.ref C) "__init__" ==some (some (.ref fI))&&PySem.W.typeIn K (.ref fI)==some (.type "function")&&PySem.W.keepIn K (.ref C)&&PySem.W.hasDictIn K C&&PySem.W.mroIn K C (.type "BaseException")==some true&&PySem.W.mroIn K C (.type "object")==some true&&
 PySem.W.findIn K (.ref C) "__class__" ==some (some (.builtin "object.__class__"))&&PySem.W.specialIn K (.builtin "object.__class__") "__get__" ==some (some (.builtin "getset_descriptor.__get__"))&&PySem.W.takesIn K (.builtin "object.__class__")==some true
structure XCls (K:PySem.W.Frag) (C W fI:Addr):Prop where
 obj:∃(nm q:Str) (N:Addr) (bs:List Value) (sn:List Str) (sub:List Value) (ab:Bool) (col:Option Bool) (dd:Option Addr) (k0 k1 k2 k3 k5:Option Value),
  K.lookup C=some (excClassObj nm q C N bs (.ref W::VEm) true sn sub ab col dd k0 k1 k2 k3 k5 "ValueError.__new__")
 tl:PySem.W.tailIn K VEm (.ref W::VEm)=true
 all:xcB K C fI=true
theorem Jjd {K:PySem.W.Frag} {C fI:Addr} (h:xcB K C fI=true):
  (PySem.W.findIn K (.ref C) "__getattribute__" =some (some (.builtin "BaseException.__getattribute__"))∧PySem.W.findIn K (.ref C) "__getattr__" =some none∧PySem.W.findIn K (.ref C) "__setattr__" =some (some (.builtin "object.__setattr__")))∧
  (PySem.W.findIn K (.ref C) "__init__" =some (some (.ref fI))∧PySem.W.typeIn K (.ref fI)=some (.type "function")∧PySem.W.keepIn K (.ref C)=true∧PySem.W.hasDictIn K C=true)∧PySem.W.mroIn K C (.type "BaseException")=some true∧PySem.W.mroIn K C (.type "object")=some true∧
  PySem.W.findIn K (.ref C) "__class__" =some (some (.builtin "object.__class__"))∧PySem.W.specialIn K (.builtin "object.__class__") "__get__" =some (some (.builtin "getset_descriptor.__get__"))∧PySem.W.takesIn K (.builtin "object.__class__")=some true:=by
 unfold xcB at h
 simp only [Bool.and_eq_true,beq_iff_eq] at h
 obtain ⟨⟨⟨⟨⟨⟨⟨⟨⟨⟨⟨a,b⟩,c⟩,d⟩,e⟩,f⟩,g⟩,i⟩,j⟩,k⟩,l⟩,m⟩:=h
 exact ⟨⟨a,b,c⟩,⟨d,e,f,g⟩,i,j,k,l,m⟩
section
variable {K:PySem.W.Frag} {C W fI:Addr} (c:XCls K C W fI)
include c
theorem XCls.ga:PySem.W.findIn K (.ref C) "__getattribute__" =some (some (.builtin "BaseException.__getattribute__")):=(Jjd c.all).1.1
theorem XCls.gh:PySem.W.findIn K (.ref C) "__getattr__" =some none:=(Jjd c.all).1.2.1
theorem XCls.sa:PySem.W.findIn K (.ref C) "__setattr__" =some (some (.builtin "object.__setattr__")):=(Jjd c.all).1.2.2
theorem XCls.ini:PySem.W.findIn K (.ref C) "__init__" =some (some (.ref fI)):=(Jjd c.all).2.1.1
theorem XCls.fn:PySem.W.typeIn K (.ref fI)=some (.type "function"):=(Jjd c.all).2.1.2.1
theorem XCls.kp:PySem.W.keepIn K (.ref C)=true:=(Jjd c.all).2.1.2.2.1
theorem XCls.hd:PySem.W.hasDictIn K C=true:=(Jjd c.all).2.1.2.2.2
theorem XCls.mb:PySem.W.mroIn K C (.type "BaseException")=some true:=(Jjd c.all).2.2.1
theorem XCls.mo:PySem.W.mroIn K C (.type "object")=some true:=(Jjd c.all).2.2.2.1
theorem XCls.cl:PySem.W.findIn K (.ref C) "__class__" =some (some (.builtin "object.__class__")):=(Jjd c.all).2.2.2.2.1
theorem XCls.cg:PySem.W.specialIn K (.builtin "object.__class__") "__get__" =some (some (.builtin "getset_descriptor.__get__")):=(Jjd c.all).2.2.2.2.2.1
theorem XCls.ct:PySem.W.takesIn K (.builtin "object.__class__")=some true:=(Jjd c.all).2.2.2.2.2.2
end
theorem Jy9 (self:Value) (C W:Addr):refuseLoop self "__setattr__" (.ref C:: .ref W::VEm)=pure ():=by
 rw [refuseLoop_ref,refuseLoop_ref]
 exact PySem.F.store_ValueError.passes self
theorem XCls.mro {K:PySem.W.Frag} {C W fI:Addr} (c:XCls K C W fI):∃cd,PySem.W.clsIn K C=some cd∧cd.mro= .ref C:: .ref W::VEm∧cd.hasDict=true:=by
 obtain ⟨nm,q,N,bs,sn,sub,ab,col,dd,k0,k1,k2,k3,k5,l⟩:=c.obj
 unfold PySem.W.clsIn
 rw [l]
 exact ⟨_,rfl,rfl,rfl⟩
section
variable {prog:Program} {w:World} {A:Around} {E:Value→Shared→Prop} {s:Shared} {K:PySem.W.Frag} {x C W fI:Addr} {ox:Obj} {od:Option Obj} {name:Str}
theorem Yb8:builtinKind "BaseException.__getattribute__" =some .slot:=by decide +kernel
theorem Yn:splitId "BaseException.__getattribute__" =some ("BaseException","__getattribute__"):=by decide +kernel
theorem Jwy {r:Found} {tk:Tok} {R:Result→Shared→Prop} (c:XCls K C W fI) (X:K.In s.heap) (I:PySem.W.InstAt s.heap x ox C od) (hf:PySem.W.findObj K C od name=some r)
  (h:wpAny (model prog w) A.in1 (match r with| .value v=>ret v| .bind g b=>bindTo g b (.ref x) (.ref C)| .missing=>unsupported "none")
   (fun fin s'=>match fin with| .done f=>R (.ok f) s'| .again c'=>c'.quiet=true∧codeAny (model prog w) A c' R s') (fun e s'=>R (.error e) s') s) (hr:r≠ .missing):
  codeAny (model prog w) A (.call (.builtin "BaseException.__getattribute__") ⟨[.ref x,.str name tk],[]⟩) R s:=by
 have T0:=I.type (M:=model prog w)
 have T3:=PySem.W.looks_find (M:=model prog w) X I hf
 have T4:PySem.W.Looks (model prog w) s.heap (isInstance (.ref x) (.type "BaseException")) true:=T0.andThen (PySem.W.looks_mroIn X c.mb)
 have ck:∀{Q':Unit→Shared→Prop} {E':Value→Shared→Prop} {A':Around},Q' () s→wpAny (model prog w) A' (checkBuiltinCall "BaseException.__getattribute__" ⟨[.ref x,.str name tk],[]⟩) Q' E' s:=fun {Q' E' A'} q=>
  @PySem.W.check_slot (model prog w) A' E' s "BaseException.__getattribute__" "BaseException" "__getattribute__" (.ref x) [.str name tk] [] Q' Yb8 Yn T4 (F.args_bexc_ga (.ref x) (.str name tk)) q
 refine codeAny_call_builtin F.excAttr_ValueError.ga.plain F.entry_bexc_ga (ck ?_)
 unfold Builtin.«object.__getattribute__»
 refine wpAny_bind (wpAny_pure (wpAny_bind (wpAny_pure (wpAny_bind (T0.here (wpAny_bind (T3.here ?_)))))))
 cases r with
 |missing=>exact absurd rfl hr
 |value v=>exact h
 |bind gg b=>exact h
theorem xc_get {v:Value} {expr:Bool} {Q:Value→Shared→Prop} (c:XCls K C W fI) (X:K.In s.heap) (I:PySem.W.InstAt s.heap x ox C od) (hf:PySem.W.findObj K C od name=some (.value v)) (hh:PySem.W.handedIn v=true)
  (q:Q v {s with toks:=s.toks+1}):wpAny (model prog w) A (getAttr (.ref x) name expr) Q E s:=by
 obtain ⟨hp,g,d,t,os⟩:=s
 have T0:=I.type (M:=model prog w)
 have T1:=PySem.W.looks_findIn (M:=model prog w) X c.ga
 have T2:=PySem.W.looks_findIn (M:=model prog w) X c.gh
 unfold getAttr getAttrBy
 refine wpAny_bind (wpAny_mkText (wpAny_holding (wpAny_bind (T0.at (wpAny_bind (T1.at ?_))))))
 show wpAny _ _ (getAttrByItsOwn (.ref x) _ (.ref C) _ _ _) _ _ _
 unfold getAttrByItsOwn
 refine wpAny_bind (show wpAny _ _ (typeLookup (.ref C) "__getattr__") _ _ _ from T2.at ?_)
 have e0:callGetattribute (.ref x) (.str name t) (.builtin "BaseException.__getattribute__") expr=boundAndCalled (.builtin "BaseException.__getattribute__") (.ref x) (.str name t):=by cases expr <;> rfl
 rw [e0]
 unfold boundAndCalled
 rw [F.excAttr_ValueError.ga.bind]
 refine wpAny_bind (wpAny_attempt (wpAny_holding (wpAny_bind (wpAny_pure (wpAny_call (Jwy (s:=⟨hp,g,d,t+1,os⟩) (r:=.value v) c X I hf ?_ (fun z=>nomatch z)))))))
 refine wpAny_pure ?_
 show wpAny _ _ (handedOut v) _ _ _
 rw [PySem.W.handedOut_of hh]
 exact wpAny_pure q
end
end L2
namespace L2
open PySem PySem.Spec PyProof.Rows Builtin Builtin.ObjectAttr
section
variable {prog:Program} {w:World} {A:Around} {E:Value→Shared→Prop} {s:Shared} {K:PySem.W.Frag} {x C W fI:Addr} {ox:Obj} {od:Option Obj} {name:Str} {v:Value}
theorem xc_osa {tk:Tok} {R:Result→Shared→Prop} (c:XCls K C W fI) (X:K.In s.heap) (I:PySem.W.InstAt s.heap x ox C od) (hn:PySem.W.findIn K (.ref C) name=some none)
  (h:wpAny (model prog w) A.in1 (storeInOwnDict (.ref x) (.ref C) (.str name tk) name v false)
   (fun fin s'=>match fin with| .done f=>R (.ok f) s'| .again c'=>c'.quiet=true∧codeAny (model prog w) A c' R s') (fun e s'=>R (.error e) s') s):
  codeAny (model prog w) A (.call (.builtin "object.__setattr__") ⟨[.ref x,.str name tk,v],[]⟩) R s:=by
 have SF:=PySem.F.store_object
 obtain ⟨cd,hc,hm,_⟩:=c.mro
 have T0:=I.type (M:=model prog w)
 have sub:PySem.W.Looks (model prog w) s.heap (isInstance (.ref x) (.type "object")) true:=T0.andThen (PySem.W.looks_mroIn X c.mo)
 have hmr:PySem.W.Looks (model prog w) s.heap (mroOf (.ref C)) cd.mro:=(PySem.W.looks_clsIn X hc).andThen .now
 have T2:=PySem.W.looks_findIn (M:=model prog w) X hn
 refine codeAny_call_builtin SF.slot.plain SF.entry (@PySem.W.check_slot (model prog w) _ _ s "object.__setattr__" "object" "__setattr__" (.ref x) [.str name tk,v] [] _ SF.kind SF.split sub (SF.args (.ref x) (.str name tk) v) ?_)
 rw [PySem.W.osa_eq,refuse_eq]
 refine wpAny_bind (wpAny_bind (T0.here (wpAny_bind (hmr.here ?_))))
 rw [hm,Jy9]
 exact wpAny_pure (wpAny_bind (T0.here (wpAny_bind (T2.here (wpAny_bind (wpAny_pure h))))))
theorem Jwb {vs:Array Value} {Q:Unit→Shared→Prop} (c:XCls K C W fI) (X:K.In s.heap) (hx:s.heap.get? x=some ox) (hcl:ox.cls= .ref C) (hdi:ox.dict=none) (hd:ox.data= .fields vs) (hn:PySem.W.findIn K (.ref C) name=some none)
  (h:∀h',(∀b u,b≠x→s.heap.get? b=some u→h'.get? b=some u)→h'.get? x=some {ox with dict:=some s.heap.objs.size}→h'.Ns1 s.heap.objs.size (fun y=>if y=name then some v else none)→Q () {s with heap:=h',toks:=s.toks+2}):
  wpAny (model prog w) A (setAttr (.ref x) name v) Q E s:=by
 have I:PySem.W.InstAt s.heap x ox C none:=⟨hx,hcl,by unfold PySem.W.notCls;rw [hd],by rw [hdi];trivial⟩
 obtain ⟨cd,hc,_,hdct⟩:=c.mro
 refine PySem.W.set_plain X I c.sa (xc_osa (s:={s with toks:=s.toks+1}) c X I hn ?_)
 obtain ⟨oc,odi,oda,osl⟩:=ox
 dsimp only at hcl hdi hd
 subst hcl hdi hd
 refine wpAny_bind (wpAny_pure (wpAny_bind (wpAny_bind (wpAny_loadPart hx (wpAny_bind (PySem.W.Looks.here (s:={s with toks:=s.toks+1}) (PySem.W.looks_clsIn X hc) ?_))))))
 rw [hdct]
 dsimp only
 simp only [Bool.not_true,Bool.false_eq_true,if_false,typeHasDict,Bool.or_false]
 have e1:(s.heap.push {cls:=.type "dict",data:=.dict #[]}).get? x=some ⟨.ref C,none,.fields vs,osl⟩:=Heap.get?_push_of_some _ hx
 have nx:s.heap.objs.size≠x:=Nat.ne_of_gt (Heap.lt_size hx)
 have n0:(s.heap.push {cls:=.type "dict",data:=.dict #[]}).Ns s.heap.objs.size (fun _=>none):=⟨_,#[],_,Heap.get?_push_size s.heap rfl,rfl,(fun e he=>absurd he (by simp)),fun _=>rfl⟩
 refine wpAny_bind (wpAny_alloc (wpAny_bind (wpAny_update e1 ?_)))
 have e2:=Heap.get?_update_self (fun o=>{o with dict:=some s.heap.objs.size}) e1 rfl
 have n1:((s.heap.push {cls:=.type "dict",data:=.dict #[]}).update x fun o=>{o with dict:=some s.heap.objs.size}).Ns1 s.heap.objs.size (fun _=>none):=
  (Heap.Ns1.of_empty n0).at fun o q=>by rw [Heap.get?_update_other _ _ (Ne.symm nx)];exact q
 refine wpAny_pure (wpAny_bind (wpAny_pure (wpAny_bind ?_)))
 refine wpAny_nsSet1 n1 fun h' n2 sb=>?_
 obtain ⟨oD,esD,epD,hoD,hdD,hcD⟩:=n2.count (PySem.Within.cons name v PySem.Within.nil)
 refine wpAny_bind (wpAny_lookBehind hoD (by rw [hdD];exact pastItsLine_dict (Nat.le_trans hcD (Nat.le_add_left 1 sizeLine))) ?_)
 refine wpAny_pure (h h' (fun b u hb q=>?_) ((sb.2 _ (Ne.symm nx)).trans e2) n2)
 have nb:b≠s.heap.objs.size:=Nat.ne_of_lt (Heap.lt_size q)
 rw [sb.2 b nb,Heap.get?_update_other _ _ (Ne.symm hb)]
 exact Heap.get?_push_of_some _ q
end
abbrev Jyb (us:List Value):Obj:={cls:=.type "tuple",data:=.seq us.toArray}
abbrev xObj (C:Addr) (t:Addr):Obj:={cls:=.ref C,data:=.fields #[.ref t,.none,.none,.none,.bool false,.none]}
section
variable {prog:Program} {w:World} {A:Around} {E:Value→Shared→Prop} {K:PySem.W.Frag} {C W fI:Addr} {us:List Value} {hp:Heap} {g:Array GenState} {d:Drawn} {t:Nat} {os:OsState}
theorem Yo {Q:PySem.Fin→Shared→Prop} (c:XCls K C W fI) (X:K.In hp) (hz:us.length≤sizeLine)
  (h:wpAny (model prog w) A (call (.ref fI) (.ref (hp.objs.size+1)::us)) (fun r s'=>r= .none∧Q (.done (.ret (.ref (hp.objs.size+1)))) s') E ⟨(hp.push (Jyb us)).push (xObj C hp.objs.size),g,d,t,os⟩):
  wpAny (model prog w) A (Builtin.«type.__call__» ⟨.ref C::us,[]⟩) Q E ⟨hp,g,d,t,os⟩:=by
 obtain ⟨nm,q,N,bs,sn,sub,ab,col,dd,k0,k1,k2,k3,k5,l⟩:=c.obj
 have FV:=F.excBase_ValueError
 have kC:=X _ _ l
 have TL:OwnTail hp VEm (.ref W::VEm):=PySem.W.tail_of_in X c.tl
 have up:∀b o,hp.get? b=some o→((hp.push (Jyb us)).push (xObj C hp.objs.size)).get? b=some o:=fun b o e=>Heap.get?_push_of_some _ (Heap.get?_push_of_some _ e)
 have gE:((hp.push (Jyb us)).push (xObj C hp.objs.size)).get? (hp.objs.size+1)=some ({cls:=.ref C,data:=.fields #[.ref hp.objs.size,.none,.none,.none,.bool false,.none]}:Obj):=Heap.get?_push_at (by simp only [Heap.size_push]) rfl
 have X2:=X.keeps up
 have kC2:=X2 _ _ l
 have hcC:(Value.ref C:: .ref W::VEm).contains (.ref C)=true:=by simp
 repeat (first|with_reducible refine wpAny_loadPart_at kC ?_|with_reducible refine wpAny_madeBy_exc kC ?_|wp_step)
 refine codeAny_call_builtin_code (Code.quiet_builtin _ FV.quiet) (wpAny_check_new_subT FV TL kC (codeAny_exc_new_subT FV TL kC ?_ hz))
 show wpAny _ _ _ _ _ _
 unfold isInstance
 repeat (first|with_reducible refine wpAny_loadPart_at gE ?_|(with_reducible refine wpAny_isSubtype_exc kC2 ?_;rw [hcC])|wp_step)
 show wpAny _ _ (typeLookup (.ref C) _) _ _ _
 refine (PySem.W.looks_findIn X2 c.ini).at (wpAny_holding (wpAny_bind ((PySem.W.bind_fn X2 _ c.fn).at ?_)))
 refine wpAny_bind (wpAny_mono h (fun r s' hr=>?_) fun _ _ z=>z)
 obtain ⟨rfl,hQ⟩:=hr
 wp_walk
 exact hQ
theorem Yb9 {s:Shared} {Q:Value→Shared→Prop} (c:XCls K C W fI) (X:K.In s.heap) (hz:us.length≤sizeLine)
  (h:wpAny (model prog w) (A.under (.builtin "type.__call__" ⟨.ref C::us,[]⟩)) (call (.ref fI) (.ref (s.heap.objs.size+1)::us)) (fun r s'=>r= .none∧Q (.ref (s.heap.objs.size+1)) s') E {s with heap:=(s.heap.push (Jyb us)).push (xObj C s.heap.objs.size)}):
  wpAny (model prog w) A (call (.ref C) us) Q E s:=by
 obtain ⟨hp,g,d,t,os⟩:=s
 obtain ⟨nm,q,N,bs,sn,sub,ab,col,dd,k0,k1,k2,k3,k5,l⟩:=c.obj
 have kC:=X _ _ l
 have v1:=tc_lookup
 have v2:=tc_bind (.ref C)
 have hT:(⟨hp,g,d,t,os⟩:Shared).TypeIs (.ref C) "type" :=⟨_,kC,rfl⟩
 refine wpAny_call (codeAny_of_tree ?_)
 show wpAny _ _ (callAny (.ref C) _) _ _ _
 repeat (any_goals (first|assumption|with_reducible refine wpAny_loadPart_at kC ?_|wp_step))
 exact ⟨rfl,codeAny_call_builtin_at (Code.quiet_builtin _ (by decide +kernel)) entry_typeCall (wpAny_check_type_call_sub kC (Yo c X hz h))⟩
end
end L2
namespace L2
open PySem PySem.Spec PyProof.Rows
def XO (e C:Addr) (dx:Option Addr) (fr:Bool):HO:=.ext fun h=>∃o vs,h.get? e=some o∧o.cls= .ref C∧o.dict=dx∧o.data= .fields vs∧(∃t,vs[0]?=some (.ref t))∧∃y,vs[1]?=some y∧(fr=true→y= .none)
def XD (dx:Addr) (fs:List (Str×V)):HO:=.ext fun h=>∃mA,h.Ns1 dx mA∧(∀f,RelO (fs.lookup f) (mA f))∧PySem.Within mA (fs.map (·.1))∧fs.length≤1000
section
variable {P:Program} {w:World} {H:Hp} {h:Heap} {e C dx:Addr} {od:Option Addr} {fr:Bool} {fs:List (Str×V)}
theorem Yp {o:Obj} {vs:Array Value} (he:h.get? e=some o) (h1:o.cls= .ref C) (h2:o.dict=od) (h3:o.data= .fields vs) (h4:∃t,vs[0]?=some (.ref t)) (h5:∃y,vs[1]?=some y∧(fr=true→y= .none)):ObjOk P w H h e (XO e C od fr):=
 ⟨⟨o,vs,he,h1,h2,h3,h4,h5⟩,⟨o,he⟩,fun _ _ ⟨o,vs,a,r⟩ k=>⟨o,vs,k o a,r⟩⟩
theorem Jr4 (hok:HOk P w H h) (q:H e=some (XO e C od fr)):∃o vs,h.get? e=some o∧o.cls= .ref C∧o.dict=od∧o.data= .fields vs∧(∃t,vs[0]?=some (.ref t))∧∃y,vs[1]?=some y∧(fr=true→y= .none):=(hok e _ q).1
theorem xd_ok {mA:Str→Option Value} (n:h.Ns1 dx mA) (r:∀f,RelO (fs.lookup f) (mA f)) (w':PySem.Within mA (fs.map (·.1))) (z:fs.length≤1000):ObjOk P w H h dx (XD dx fs):=
 ⟨⟨mA,n,r,w',z⟩,(let ⟨o,_,_,q,_⟩:=n;⟨o,q⟩),fun _ _ ⟨m,a,r⟩ k=>⟨m,a.at k,r⟩⟩
theorem xd_get (hok:HOk P w H h) (q:H dx=some (XD dx fs)):∃mA,h.Ns1 dx mA∧(∀f,RelO (fs.lookup f) (mA f))∧PySem.Within mA (fs.map (·.1))∧fs.length≤1000:=(hok dx _ q).1
theorem Jwz (hok:HOk P w H h) (q:H e=some (XO e C (some dx) fr)) (qd:H dx=some (XD dx fs)):∃(ox oD:Obj) (mA:Str→Option Value),PySem.W.InstAt h e ox C (some oD)∧(∀n,PySem.W.lookIn n oD=some (mA n))∧∀f,RelO (fs.lookup f) (mA f):=by
 obtain ⟨o,vs,he,hc,hd,hf,_⟩:=Jr4 hok q
 obtain ⟨mA,n1,r,_⟩:=xd_get hok qd
 obtain ⟨oD,hD,hl⟩:=Js2 n1
 exact ⟨o,oD,mA,⟨he,hc,by unfold PySem.W.notCls;rw [hf],by rw [hd];exact hD⟩,hl,r⟩
end
section
variable {X:Cx} {pins:List (Addr×Obj)} {σ:St} {H:Hp} {s:Shared} {e C W fI dx:Addr} {fs:List (Str×V)} {fr:Bool} {f:Str} {v:V} {A:Around} {E:Value→Shared→Prop}
theorem Jv0 {b:Bool} {Q:Value→Shared→Prop} (I:Inv X pins σ H s) (q:H e=some (XO e C (some dx) fr)) (qd:H dx=some (XD dx fs)) (c:XCls X.K C W fI) (n:NoAttr X.K C f) (l:fs.lookup f=some v)
  (h:∀u s',Inv X pins σ H s'→RelV v u→Q u s'):wpAny (model X.prog X.w) A (getAttr (.ref e) f b) Q E s:=by
 obtain ⟨ox,oD,mA,J,hl,r⟩:=Jwz I.hok q qd
 obtain ⟨u,hu,ru⟩:=RelO.some_of (v:=v) (o:=mA f) (by rw [←l];exact r f)
 exact xc_get c I.kIn J (PySem.W.findObj_own c.hd n rfl (by rw [hl,hu])) (Jrz ru) (h u _ (I.tok _) ru)
theorem Yq {y:V} {u:Value} {Q:Unit→Shared→Prop} (I:Inv X pins σ H s) (q:H e=some (XO e C none fr)) (c:XCls X.K C W fI) (n:NoAttr X.K C f) (ry:RelV y u)
  (h:∀dx s',H dx=none→dx≠e→Inv X pins σ (upd (upd H dx (XD dx [(f,y)])) e (XO e C (some dx) fr)) s'→Q () s'):wpAny (model X.prog X.w) A (setAttr (.ref e) f u) Q E s:=by
 obtain ⟨o,vs,he,hc,hd,hf,h0,h1⟩:=Jr4 I.hok q
 have ne:s.heap.objs.size≠e:=Nat.ne_of_gt (Heap.lt_size he)
 have hn:H s.heap.objs.size=none:=I.hok.fresh (Nat.le_refl _)
 refine Jwb c I.kIn he hc hd hf n fun h' kp ke n1=>h s.heap.objs.size _ hn ne ?_
 have hD:h'.get? s.heap.objs.size≠none:=by obtain ⟨oD,_,_,q1,_⟩:=n1;rw [q1];exact fun z=>nomatch z
 have qd:∀m:Hp,ObjOk X.prog X.w m h' s.heap.objs.size (XD s.heap.objs.size [(f,y)]):=fun m=>xd_ok n1 (fun g=>by
  by_cases z:g=f
  ·have zb:(g==f)=true:=beq_iff_eq.mpr z
   simp only [List.lookup,zb,if_pos z];exact ry
  ·have zb:(g==f)=false:=beq_eq_false_iff_ne.mpr z
   simp only [List.lookup,zb,if_neg z];exact True.intro) (fun g hg=>by
  by_cases z:g=f
  ·rw [z];simp
  ·exact absurd (if_neg z) hg) (by simp)
 have un1:Un X.fs [] H (upd (upd H s.heap.objs.size (XD s.heap.objs.size [(f,y)])) e (XO e C (some s.heap.objs.size) fr)) s.heap h':=by
  have nb:∀b ob,s.heap.get? b=some ob→b≠s.heap.objs.size:=fun b ob z=>Nat.ne_of_lt (Heap.lt_size z)
  have sm:∀b u',H b=some u'→u'≠XO e C none fr→upd (upd H s.heap.objs.size (XD s.heap.objs.size [(f,y)])) e (XO e C (some s.heap.objs.size) fr) b=some u':=fun b u' z d=>by
   rw [Ji7 (fun w':b=e=>d (by rw [w',q] at z;exact (Option.some.inj z).symm)),Ji7 (Ji8 z hn)];exact z
  refine ⟨fun b ob z n _ _=>kp b ob (fun w'=>by rw [w',q] at n;cases n) z,fun b ob z n _ _=>⟨ob.slots,kp b ob (fun w'=>by rw [w',q] at n;cases n) z⟩,fun b ob z n _=>?_,fun b ob z _=>?_,fun b xs z=>sm b _ z (fun w'=>by cases w'),fun b ob u' z=>sm b _ z (fun w'=>by cases w'),fun b ps z=>⟨#[],by rw [sm b _ z (fun w'=>by cases w')];simp⟩⟩
  ·rw [Ji7 (fun w'=>by rw [w',q] at n;cases n),Ji7 (nb b ob z)];exact n
  ·by_cases w':b=e
   ·exact ⟨_,by rw [w'];exact ke⟩
   ·exact ⟨ob,kp b ob w' z⟩
 refine I.un (t':=s.toks+2) un1 fun b ob z=>?_
 by_cases w1:b=e
 ·subst w1
  rw [Ji1] at z;cases z
  exact Yp ke hc rfl hf h0 h1
 ·rw [Ji7 w1] at z
  by_cases w2:b=s.heap.objs.size
  ·subst w2
   rw [Ji1] at z;cases z
   exact qd _
  ·rw [Ji7 w2] at z
   have keep:∀c' u',H c'=some u'→u'≠XO e C none fr→upd (upd H s.heap.objs.size (XD s.heap.objs.size [(f,y)])) e (XO e C (some s.heap.objs.size) fr) c'=some u':=fun c' u' zz d=>by
    rw [Ji7 (fun w':c'=e=>d (by rw [w',q] at zz;exact (Option.some.inj zz).symm)),Ji7 (Ji8 zz hn)];exact zz
   refine (I.hok b ob z).stay (fun c' v' hc' zz=>kp c' v' ?_ zz) (fun c' zz=>keep c' _ zz (fun w'=>by cases w')) (fun c' xs zz=>keep c' _ zz (fun w'=>by cases w')) fun c' xs zz=>keep c' _ zz (fun w'=>by cases w')
   rcases hc' with rfl|hc'
   ·exact w1
   ·rintro rfl;rw [q] at hc';cases hc'
theorem Inv.xmade {us:List Value} (I:Inv X pins σ H s):Inv X pins σ (upd H (s.heap.objs.size+1) (XO (s.heap.objs.size+1) C none true)) {s with heap:=(s.heap.push (Jyb us)).push (xObj C s.heap.objs.size)}:=by
 have I1:=I.kept (h':=s.heap.push (Jyb us)) (t':=s.toks) fun b u q=>Heap.get?_push_of_some _ q
 refine I1.laid (a:=s.heap.objs.size+1) (t':=s.toks) (fun b u q=>Heap.get?_push_of_some _ q) (Nat.le_of_eq (Heap.size_push _ _)) ?_
 exact Yp (Heap.get?_push_at (by simp only [Heap.size_push]) rfl) rfl rfl rfl ⟨_,rfl⟩ ⟨_,rfl,fun _=>rfl⟩
end
def tFldX (K:PySem.W.Frag) (ta:TE) (f:Str):TE:=fun σ H Q=>ta σ H fun x H1=>∃e C W fI dx fs v fr,x= .ref e∧H1 e=some (XO e C (some dx) fr)∧H1 dx=some (XD dx fs)∧XCls K C W fI∧NoAttr K C f∧fs.lookup f=some v∧Q v H1
def sFldN (K:PySem.W.Frag) (ta tv:TE) (f:Str):TS:=fun D σ H=>tv σ H fun y H1=>ta σ H1 fun x H2=>∃e C W fI fr,x= .ref e∧H2 e=some (XO e C none fr)∧XCls K C W fI∧NoAttr K C f∧∀dx,H2 dx=none→dx≠e→
 D.nx σ (upd (upd H2 dx (XD dx [(f,y)])) e (XO e C (some dx) fr))
def tExc (C:Addr) (sp:Sp) (t:TA):TE:=fun σ H Q=>t σ H fun vs H1=>vs.length≤1000∧∀e,H1 e=none→sp (.ref e::vs) (upd H1 e (XO e C none true)) (fun v H2=>v= .non∧Q (.ref e) H2) E0
section
variable {X:Cx} {o e value:Expr} {f:Str} {pos pos' tpos p:Pos} {ta tv:TE} {C W fI:Addr} {fd:FuncData} {ps:List Str} {sp:Sp} {k j:Nat} {x:Str} {es:List Expr} {t:TA}
theorem Yad (he:PE X e ta) (hb:attributeBase e f X.env (eval e X.env)=eval e X.env):PE X (.Attribute e f pos) (tFldX X.K ta f):=by
 intro pins s σ H Q I h
 refine Jwd hb (thn (he pins s σ H _ I h) fun u s1 ⟨x,H1,I1,rx,a,C,W,fI,dx,fs,v,fr,ex,q,qd,c,n,l,k⟩=>?_)
 subst ex
 obtain rfl:u=Value.ref a:=rx
 exact Jv0 I1 q qd c n l fun u' s2 I2 ru=>⟨v,H1,I2,ru,k⟩
theorem Jm4 (ha:PE X o ta) (hv:PE X value tv) (hs:swapsWith value (some (.Attribute o f pos')) pos.line X.env=pure false):PS X (.Assign [.Attribute o f pos'] value pos) (sFldN X.K ta tv f):=by
 intro pins s σ H D I h
 refine plainObj_wpAny_Assign_Attribute (thn (hv pins s σ H _ I h) fun u s1 ⟨y,H1,I1,ry,q⟩=>thn (ha pins s1 σ H1 _ I1 q) fun ov s2 ⟨x,H2,I2,rx,a,C,W,fI,fr,ex,ea,c,n,q2⟩=>?_) hs
 subst ex
 obtain rfl:ov=Value.ref a:=rx
 exact Yq I2 ea c n ry fun dx s3 h1 h2 I3=>⟨σ,_,I3,q2 dx h1 h2⟩
theorem Yal {pins:List (Addr×Obj)} {σ:St} {H:Hp} {s:Shared} {Q:VK} {us:List Value} {vs:List V} (c:XCls X.K C W fI) (G:FnOk X.prog X.w X.K X.mg X.base CX0 k fI fd ps sp) (hr:Room (k+1) X.A) (hb:Binds X.K fd ps []) (I:Inv X pins σ H s) (r:Vals vs us) (hz:vs.length≤1000)
  (h:∀e,H e=none→sp (.ref e::vs) (upd H e (XO e C none true)) (fun v H2=>v= .non∧Q (.ref e) H2) E0):wpAny (model X.prog X.w) X.A (call (.ref C) us) (EP X pins σ Q) X.xe s:=by
 have hq:=h (s.heap.objs.size+1) (I.hok.fresh (Nat.le_succ _))
 have I2:=Inv.xmade (C:=C) (us:=us) I
 have r2:Vals (V.ref (s.heap.objs.size+1)::vs) (Value.ref (s.heap.objs.size+1)::us):=.cons rfl r
 have hl:(Value.ref (s.heap.objs.size+1)::us++ []).length=ps.length:=by
  rw [List.append_nil,←r2.length,G.len _ _ _ _ hq]
 refine Yb9 c I.kIn (by rw [←r.length];exact Nat.le_trans hz (by decide)) (wpAny_call (codeAny_mono (G.run _ X.stack _ _ ⟨Value.ref (s.heap.objs.size+1)::us,[]⟩ (Value.ref (s.heap.objs.size+1)::us) _ _ E0 (hr.make C us [])
  (I2.env0.make C us []) (by have:=hb _ (Value.ref (s.heap.objs.size+1)::us) I2.kIn hl;rw [List.append_nil] at this;exact this) r2 hq) fun r s' hq'=>?_))
 cases r with
 |error e=>exact False.elim hq'
 |ok fl=>
  cases fl with
  |ret u=>
   obtain ⟨v,H',I3,rv,ev,q3⟩:=I2.after hq'
   subst ev
   exact ⟨rv,⟨V.ref (s.heap.objs.size+1),H',I3,rfl,q3⟩⟩
  |next=>exact False.elim hq'
  |brk=>exact False.elim hq'
  |cont=>exact False.elim hq'
theorem Jlc (c:XCls X.K C W fI) (G:FnOk X.prog X.w X.K X.mg X.base CX0 k fI fd ps sp) (hr:Room j X.A) (hk:k+1≤j) (hb:Binds X.K fd ps []) (hm:X.mg x=some (.ref C)) (ha:PA X (e::es) t) (hg:Gl X x:=by rfl)
  (hdb:(x==("__debug__" :Str))=false:=by decide) (he:starEach (e::es) X.env=(false,eval e X.env)::starEach es X.env:=by rfl) (hpl:(backTo pos (starEach es X.env)).any (·.1)=false:=by rfl):
  PE X (.Call (.Name x p) (e::es) [] pos) (tExc C sp t):=by
 intro pins s σ H Q I h
 refine wpAny_Call_Name_kw (Jmx I hg hm ?_ hdb)
 refine PySem.W.callWith_K (h₀:=X.base) I.ok.mod.kin c.kp (thn (ha pos pins s σ H _ I h) fun us s1 ⟨vs,H1,I1,r,z,q⟩=>⟨I1.kIn,?_⟩) he hpl
 exact Yal c G (hr.mono hk) hb I1 r z q
end
section
variable {K:PySem.W.Frag} {C W fI:Addr} {x:Addr}
theorem xkit (c:XCls K C W fI):PySem.W.KitX K (.ref x) (.ref C) (fun h=>∃ox od,PySem.W.InstAt h x ox C (some od)) where
 ty:=fun _ _ _ ⟨_,_,I⟩=>I.type
 it:=fun _ _ X _=>by
  obtain ⟨nm,q,N,bs,sn,sub,ab,col,dd,k0,k1,k2,k3,k5,l⟩:=c.obj
  intro A' Q' E' s' k q
  unfold isType loadHead
  exact wpAny_bind (wpAny_loadPart (k _ _ (X _ _ l)) (wpAny_pure q))
 ne:=fun h tp dd its n sl X htp=>by
  obtain ⟨nm,q,N,bs,sn,sub,ab,col,dd,k0,k1,k2,k3,k5,l⟩:=c.obj
  refine Bool.eq_false_iff.mpr fun z=>?_
  have e:C=tp:=Value.ref.inj (beq_iff_eq.mp z)
  subst e
  have z:=congrArg (Option.map (·.cls)) ((X _ _ l).symm.trans htp)
  simp at z
 ca:=fun {prog w A E Q s} X ⟨ox,od,I⟩ kq=>by
  have hf:PySem.W.findObj K C (some od) "__class__" =some (.bind (.builtin "getset_descriptor.__get__") (.builtin "object.__class__")):=PySem.W.findObj_data (by obtain ⟨cd,hc,_⟩:=c.mro;rw [hc];rfl) c.cl c.cg c.ct
  obtain ⟨hp,g,d,t,os⟩:=s
  have T0:=I.type (M:=model prog w)
  have T1:=PySem.W.looks_findIn (M:=model prog w) X c.ga
  have T2:=PySem.W.looks_findIn (M:=model prog w) X c.gh
  unfold getAttr? getAttrBy? getAttrBy
  refine wpAny_bind (wpAny_mkText (wpAny_bind (wpAny_attempt (wpAny_holding (wpAny_bind (T0.at (wpAny_bind (T1.at ?_))))))))
  show wpAny _ _ (getAttrByItsOwn (.ref x) _ (.ref C) _ _ _) _ _ _
  unfold getAttrByItsOwn
  refine wpAny_bind (show wpAny _ _ (typeLookup (.ref C) "__getattr__") _ _ _ from T2.at ?_)
  show wpAny _ _ ((holding _ (boundAndCalled (.builtin "BaseException.__getattribute__") (.ref x) (.str "__class__" t))).attempt >>=_) _ _ _
  unfold boundAndCalled
  rw [F.excAttr_ValueError.ga.bind]
  refine wpAny_bind (wpAny_attempt (wpAny_holding (wpAny_bind (wpAny_pure (wpAny_call (Jwy (s:=⟨hp,g,d,t+1,os⟩) c X I hf ?_ (fun z=>nomatch z)))))))
  show wpAny _ _ (holding [_] (call _ [_,.ref x,.ref C]) >>=ret) _ _ _
  refine wpAny_bind (wpAny_holding (wpAny_call (PySem.W.class_get (s:=⟨hp,g,d,t+1,os⟩) X I c.mo (wpAny_pure ?_))))
  show wpAny _ _ (handedOut (.ref C)) _ _ _
  rw [PySem.W.handedOut_of rfl]
  exact wpAny_pure (wpAny_pure kq)
end
end L2
namespace L2
open PySem PySem.Spec PyProof.Rows
section
variable {M:Model} {A:Around} {E:Value→Shared→Prop} {s:Shared} {env:Env} {outer:List Env} {base:Heap} {L e T:Addr} {oe oT:Obj} {vs ts:Array Value} {Q:Unit→Shared→Prop}
theorem Js8 {head:Value} {hadNext:Bool} (hfr:A.frames=some (env::outer)) (hl:s.heap.FunFrames base (env::outer)) (hf:env.frame=some L) (he:s.heap.get? e=some oe) (hd:oe.data= .fields vs) (hz:1 < vs.size)
  (hQ:∀h' T,(∀b o,s.heap.get? b=some o→b∉frs (env::outer)→b≠e→h'.get? b=some o)→(∀b o,s.heap.get? b=some o→b≠e→∃sl,h'.get? b=some {o with slots:=sl})→s.heap.objs.size≤T→
   h'.get? e=some (oe.mapFields (·.setIfInBounds 1 (.ref T)))→(∃oT ts,h'.get? T=some oT∧oT.data= .fields ts∧ts[3]?=some (rawInt L))→Q () {s with heap:=h'}):
  wpAny M A (do let a←frameOf env;let pl←entryPlaceOf L hadNext;let b←EntryCells.newEntry head a .none (rawInt L) .none pl;setField (.ref e) 1 b) Q E s:=by
 have hen:e∉frs (env::outer):=fun z=>by
  obtain ⟨_,o,ho,nf⟩:=hl.mem z
  rw [he] at ho
  cases ho
  exact nf vs hd
 refine wpAny_bind (wpAny_frameOf_fun hfr hl hf fun h1 sl1=>wpAny_bind (wpAny_entryPlaceOf fun pl hpl=>?_))
 unfold EntryCells.newEntry newFields
 have he1:h1.get? e=some oe:=(sl1.2.1 e hen).trans he
 have nT:h1.objs.size≠e:=Nat.ne_of_gt (Heap.lt_size he1)
 refine wpAny_bind (wpAny_newObj_type (wpAny_setField (Heap.get?_push_of_some _ he1) hd hz (hQ _ h1.objs.size (fun b o hb hn ne=>?_) (fun b o hb ne=>?_) (Nat.le_of_eq sl1.1.symm) (Heap.get?_update_self _ (Heap.get?_push_of_some _ he1) (Obj.isFreed_of_fields (Obj.data_mapFields hd _))) ?_)) (hpl.sizeOk5 _ _ _ _ _))
 ·rw [Heap.get?_update_other _ _ (Ne.symm ne)]
  exact Heap.get?_push_of_some _ ((sl1.2.1 b hn).trans hb)
 ·obtain ⟨sl,q⟩:=sl1.2.2 b o hb
  exact ⟨sl,by rw [Heap.get?_update_other _ _ (Ne.symm ne)];exact Heap.get?_push_of_some _ q⟩
 ·refine ⟨_,_,(Heap.get?_update_other _ _ (Ne.symm nT)).trans (Heap.get?_push_size h1 rfl),rfl,?_⟩
  first|(simp;done)|(rcases hpl with rfl|⟨_,_,_,_,_,_,_,rfl⟩ <;> simp)
theorem Jvi (hfr:A.frames=some (env::outer)) (hl:s.heap.FunFrames base (env::outer)) (hf:env.frame=some L) (he:s.heap.get? e=some oe) (hd:oe.data= .fields vs) (h1:vs[1]?=some .none)
  (hQ:∀h' T,(∀b o,s.heap.get? b=some o→b∉frs (env::outer)→b≠e→h'.get? b=some o)→(∀b o,s.heap.get? b=some o→b≠e→∃sl,h'.get? b=some {o with slots:=sl})→s.heap.objs.size≤T→
   h'.get? e=some (oe.mapFields (·.setIfInBounds 1 (.ref T)))→(∃oT ts,h'.get? T=some oT∧oT.data= .fields ts∧ts[3]?=some (rawInt L))→Q () {s with heap:=h'}):
  wpAny M A (noteFrame (.ref e) env) Q E s:=by
 unfold noteFrame
 simp only [hf]
 refine wpAny_bind (wpAny_field he hd h1 ?_)
 rw [if_neg (by decide:¬(Value.none !=Value.none)=true)]
 exact Js8 hfr hl hf he hd (Array.getElem?_eq_some_iff.mp h1).1 hQ
theorem Jxn (hfr:A.frames=some (env::outer)) (hl:s.heap.FunFrames base (env::outer)) (hf:env.frame=some L) (he:s.heap.get? e=some oe) (hd:oe.data= .fields vs) (h1:vs[1]?=some (.ref T))
  (hT:s.heap.get? T=some oT) (hdT:oT.data= .fields ts) (h3:ts[3]?=some .none) (ne:T≠e)
  (hQ:∀h' T',(∀b o,s.heap.get? b=some o→b∉frs (env::outer)→b≠e→b≠T→h'.get? b=some o)→(∀b o,s.heap.get? b=some o→b≠e→b≠T→∃sl,h'.get? b=some {o with slots:=sl})→s.heap.objs.size≤T'→
   h'.get? e=some (oe.mapFields (·.setIfInBounds 1 (.ref T')))→(∃oT ts,h'.get? T'=some oT∧oT.data= .fields ts∧ts[3]?=some (rawInt L))→Q () {s with heap:=h'}):
  wpAny M A (noteFrame (.ref e) env) Q E s:=by
 unfold noteFrame
 simp only [hf]
 refine wpAny_bind (wpAny_field he hd h1 ?_)
 rw [if_pos (by simp:(Value.ref T !=Value.none)=true)]
 refine wpAny_bind (wpAny_field hT hdT h3 ?_)
 rw [if_neg (by simp [rawInt]:¬(Value.none==rawInt L)=true)]
 have ot:∀b,b≠T→(s.heap.update T (Obj.mapFields (·.setIfInBounds 3 Value.none))).get? b=s.heap.get? b:=fun b hb=>Heap.get?_update_other _ _ (Ne.symm hb)
 have nr:∀b o,s.heap.get? b=some o→(∀ws,o.data≠ .fields ws)→b≠T:=fun b o hb nf z=>by
  rw [z,hT] at hb
  cases hb
  exact nf ts hdT
 refine wpAny_bind (wpAny_setField hT hdT (Array.getElem?_eq_some_iff.mp h3).1 ?_)
 refine Js8 (s:={s with heap:=s.heap.update T (Obj.mapFields (·.setIfInBounds 3 Value.none))}) hfr (hl.of_keeps fun b o hb nf=>⟨o,(ot b (nr b o hb nf)).trans hb,rfl⟩) hf ((ot e (Ne.symm ne)).trans he) hd (Array.getElem?_eq_some_iff.mp h1).1 fun h' T' k1 k2 k3 k4 k5=>?_
 refine hQ h' T' (fun b o hb hn h1 h2=>k1 b o ((ot b h2).trans hb) hn h1) (fun b o hb h1 h2=>k2 b o ((ot b h2).trans hb) h1) ?_ k4 k5
 have z:(s.heap.update T (Obj.mapFields (·.setIfInBounds 3 Value.none))).objs.size=s.heap.objs.size:=Heap.size_after_update ..
 rw [←z];exact k3
end
def Flt (X:Cx) (pins:List (Addr×Obj)) (H:Hp) (h:Heap) (e:Addr) (fl:Value):Prop:=
 ∃oe vs T oT ts,h.get? e=some oe∧oe.data= .fields vs∧vs[1]?=some (.ref T)∧H T=none∧h.get? T=some oT∧oT.data= .fields ts∧ts[3]?=some fl∧X.s₀.heap.objs.size≤T∧∀p∈X.pn++pins,p.1≠T
def Jwc (X:Cx):Prop:=X.stack=X.env::X.outer∧X.env.frame=some X.env.locals
section
variable {X:Cx} {pins:List (Addr×Obj)} {σ:St} {H:Hp} {s:Shared} {e C:Addr} {od:Option Addr} {fr fr':Bool} {A:Around} {M:Model} {E:Value→Shared→Prop} {Q:Unit→Shared→Prop} {fl:Value} {h':Heap}
theorem Inv.freeOf (I:Inv X pins σ H s) {b:Addr} {o:Obj} {ts:Array Value} (hb:s.heap.get? b=some o) (hd:o.data= .fields ts):b≠X.env.locals∧∀x c,X.env.cells.lookup x=some c→c≠b:=by
 refine ⟨fun z=>?_,fun x c e z=>?_⟩
 ·obtain ⟨m,⟨o',es,ep,ho',hd',_⟩,_⟩:=I.loc
  rw [z,ho'] at hb;cases hb;rw [hd'] at hd;cases hd
 ·obtain ⟨v,o',ho',hd'⟩:=I.cell x c e
  rw [z,hb] at ho';cases ho';rw [hd] at hd';cases hd'
theorem Inv.fly {ch:List Addr} (I:Inv X pins σ H s) (q:H e=some (XO e C od fr)) (hch:∀b∈ch,X.s₀.heap.objs.size≤b∧H b=none∧(∃o ts,s.heap.get? b=some o∧o.data= .fields ts)∧∀p∈X.pn++pins,p.1≠b)
  (k:∀b o,s.heap.get? b=some o→b∉frs X.stack→b≠e→b∉ch→h'.get? b=some o) (ks:∀b o,s.heap.get? b=some o→b≠e→b∉ch→∃sl,h'.get? b=some {o with slots:=sl})
  (new:ObjOk X.prog X.w (upd H e (XO e C od fr')) h' e (XO e C od fr')):Inv X pins σ (upd H e (XO e C od fr')) {s with heap:=h'}:=by
 have ne:∀b u,H b=some u→u≠XO e C od fr→b≠e:=fun b u z d w'=>d (by rw [w',q] at z;exact (Option.some.inj z).symm)
 have nn:∀b,H b=none→b≠e:=fun b z w'=>by rw [w',q] at z;cases z
 have u:Un (frs X.stack) ch H (upd H e (XO e C od fr')) s.heap h':=by
  refine ⟨fun b o hb n hs hc=>k b o hb hs (nn b n) hc,fun b o hb n _ hc=>ks b o hb (nn b n) hc,fun b o _ n _=>by rw [Ji7 (nn b n)];exact n,fun b o hb hc=>?_,fun b xs z=>?_,fun b o u z=>?_,fun b ps z=>⟨#[],?_⟩⟩
  ·by_cases w':b=e
   ·rw [w'];exact new.2.1
   ·obtain ⟨sl,z⟩:=ks b o hb w' hc
    exact ⟨_,z⟩
  ·rw [Ji7 (ne b _ z (fun w'=>by cases w'))];exact z
  ·rw [Ji7 (ne b _ z (fun w'=>by cases w'))];exact z
  ·rw [Ji7 (ne b _ z (fun w'=>by cases w')),z];simp
 refine I.call (g':=s.gens) (d':=s.drawn) (t':=s.toks) (ch:=ch) u (fun b o z=>?_) I.bare fun b hb=>?_
 ·by_cases w':b=e
  ·subst w'
   rw [Ji1] at z;cases z
   exact new
  ·rw [Ji7 w'] at z
   refine (I.hok b o z).stay (fun c v hc zz=>k c v zz ?_ ?_ ?_) (fun c zz=>by rw [Ji7 (ne c _ zz (fun w'=>by cases w'))];exact zz) (fun c xs zz=>by rw [Ji7 (ne c _ zz (fun w'=>by cases w'))];exact zz) fun c xs zz=>by rw [Ji7 (ne c _ zz (fun w'=>by cases w'))];exact zz
   ·intro hs
    have:=I.stkFree c hs
    rcases hc with rfl|hc
    ·rw [this] at z;cases z
    ·rw [this] at hc;cases hc
   ·rcases hc with rfl|hc
    ·exact w'
    ·exact ne c _ hc (fun w'=>by cases w')
   ·intro hb
    have:=(hch c hb).2.1
    rcases hc with rfl|hc
    ·rw [this] at z;cases z
    ·rw [this] at hc;cases hc
 ·obtain ⟨h1,_,⟨o,ts,ho,hd⟩,h4⟩:=hch b hb
  exact ⟨.inr h1,(I.freeOf ho hd).1,(I.freeOf ho hd).2,h4⟩
theorem Jwt (I:Inv X pins σ H s) (hs:Jwc X) (hA:A.frames=some X.stack) (q:H e=some (XO e C od fr)) (hfl:fr=true∨Flt X pins H s.heap e .none)
  (h:∀s',Inv X pins σ (upd H e (XO e C od false)) s'→Flt X pins (upd H e (XO e C od false)) s'.heap e (rawInt X.env.locals)→Q () s'):wpAny M A (noteFrame (.ref e) X.env) Q E s:=by
 obtain ⟨o,vs,he,hc,hd,hf,⟨t0,h0⟩,y,h1,hy⟩:=Jr4 I.hok q
 have hA':A.frames=some (X.env::X.outer):=by rw [hA,hs.1]
 have FF:s.heap.FunFrames X.base (X.env::X.outer):=by rw [←hs.1];exact I.stack
 have sub:∀b,b∉frs X.stack→b∉frs (X.env::X.outer):=fun b z w'=>z (by rw [hs.1];exact w')
 have new:∀{h':Heap} {T:Addr},h'.get? e=some (o.mapFields (·.setIfInBounds 1 (.ref T)))→ObjOk X.prog X.w (upd H e (XO e C od false)) h' e (XO e C od false):=fun {h' T} z=>by
  have hz:1 < vs.size:=(Array.getElem?_eq_some_iff.mp h1).1
  refine Yp z ((Obj.cls_mapFields _ _).trans hc) ?_ (Obj.data_mapFields hf _) ⟨t0,by rw [Array.getElem?_setIfInBounds_ne (by decide)];exact h0⟩ ⟨.ref T,by simp [hz],fun z=>nomatch z⟩
  obtain ⟨_,_,dt,_⟩:=o
  cases dt <;> first|exact hd|cases hf
 have fin:∀{h':Heap} {T:Addr},Inv X pins σ (upd H e (XO e C od false)) {s with heap:=h'}→s.heap.objs.size≤T→h'.get? e=some (o.mapFields (·.setIfInBounds 1 (.ref T)))→(∃oT ts,h'.get? T=some oT∧oT.data= .fields ts∧ts[3]?=some (rawInt X.env.locals))→Q () {s with heap:=h'}:=fun {h' T} J k3 k4 ⟨oT,ts,k5,k6,k7⟩=>by
  have hz:1 < vs.size:=(Array.getElem?_eq_some_iff.mp h1).1
  refine h _ J ⟨_,_,T,oT,ts,k4,Obj.data_mapFields hf _,by simp [hz],?_,k5,k6,k7,Nat.le_trans I.sz k3,fun p hp z=>?_⟩
  ·rw [Ji7 (fun z=>absurd (Heap.lt_size he) (by rw [←z];exact Nat.not_lt.mpr k3))]
   exact I.hok.fresh k3
  ·obtain ⟨z1,_⟩:=I.pin p hp
   exact absurd (Heap.lt_size z1) (by rw [z];exact Nat.not_lt.mpr k3)
 by_cases hfr:y= .none
 ·subst hfr
  refine Jvi hA' FF hs.2 he hf h1 fun h' T k1 k2 k3 k4 k5=>fin (I.fly (ch:=[]) q (fun b z=>absurd z (by simp)) (fun b o hb hn ne _=>k1 b o hb (sub b hn) ne) (fun b o hb ne _=>k2 b o hb ne) (new k4)) k3 k4 k5
 ·rcases hfl with z|⟨oe,ws,T,oT,ts,z1,z2,z3,z4,z5,z6,z7,z8,z9⟩
  ·exact absurd (hy z) hfr
  ·rw [he] at z1;cases z1
   rw [hf] at z2;cases z2
   have ne:T≠e:=fun w'=>by rw [w',q] at z4;cases z4
   refine Jxn hA' FF hs.2 he hf z3 z5 z6 z7 ne fun h' T' k1 k2 k3 k4 k5=>fin (I.fly (ch:=[T]) q (fun b hb=>?_) (fun b o hb hn ne hc=>k1 b o hb (sub b hn) ne (by simpa using hc)) (fun b o hb ne hc=>k2 b o hb ne (by simpa using hc)) (new k4)) k3 k4 k5
   obtain rfl:b=T:=by simpa using hb
   exact ⟨z8,z4,⟨oT,ts,z5,z6⟩,z9⟩
theorem Joq (I:Inv X pins σ H s) (q:H e=some (XO e C od fr)) (hfl:Flt X pins H s.heap e fl) (h:∀s',Inv X pins σ H s'→Flt X pins H s'.heap e .none→Q () s'):wpAny M A (setFlight (.ref e) none) Q E s:=by
 obtain ⟨oe,vs,T,oT,ts,z1,z2,z3,z4,z5,z6,z7,z8,z9⟩:=hfl
 have hz:3 < ts.size:=(Array.getElem?_eq_some_iff.mp z7).1
 have ne:T≠e:=fun w'=>by rw [w',q] at z4;cases z4
 have ot:∀b,b≠T→(s.heap.update T (Obj.mapFields (·.setIfInBounds 3 Value.none))).get? b=s.heap.get? b:=fun b hb=>Heap.get?_update_other _ _ (Ne.symm hb)
 refine wpAny_setFlight_none z1 z2 z3 z5 z6 hz (h _ (I.turned (it:=T) (t':=s.toks) (fun b o hb z=>(ot b hb).trans z) z4 (I.freeOf z5 z6).1 (.inr z8) (I.freeOf z5 z6).2 z9) ?_)
 exact ⟨oe,vs,T,_,_,(ot e (Ne.symm ne)).trans z1,z2,z3,z4,Heap.get?_update_self _ z5 (Obj.isFreed_of_fields (Obj.data_mapFields z6 _)),Obj.data_mapFields z6 _,by simp [hz],z8,z9⟩
end
def CXX (P:Program) (w:World):CXT:=fun outer H s E ev s'=>∃e C dx H',ev= .ref e∧s'.os=s.os∧AllBare s'.gens∧Un (frs outer) [] H H' s.heap s'.heap∧HOk P w H' s'.heap∧H' e=some (XO e C (some dx) false)∧
 (∃oe vs T oT ts,s'.heap.get? e=some oe∧oe.data= .fields vs∧vs[1]?=some (.ref T)∧H' T=none∧s'.heap.get? T=some oT∧oT.data= .fields ts∧ts[3]?=some .none∧s.heap.objs.size≤T)∧E (.ref C) (some e) H'
def Jpw (X:Cx) (R:St→XK):Prop:=∀pins σ H s e C dx fr,Inv X pins σ H s→H e=some (XO e C (some dx) fr)→(fr=true∨Flt X pins H s.heap e .none)→R σ (.ref C) (some e) (upd H e (XO e C (some dx) false))→X.xe (.ref e) s
theorem Jjr {P:Program} {w:World} {K:PySem.W.Frag} {mg:Str→Option Value} {base:Heap} {N:List Str} {qual:Str} {scope:Scope} {f:Addr} {cd:Value} {A:Around} {outer:List Env} {s:Shared} {H:Hp} {E:XK}:
  Jpw (Jss (CXX P w) P w K mg base N qual scope f cd A outer s H E) (fun _=>E):=by
 intro pins σ H1 s1 e C dx fr I q hfl hE
 show wpAny _ _ (leaving _ _) _ _ _
 unfold leaving
 refine wpAny_bind (Jwt I ⟨rfl,rfl⟩ I.ok.frames q hfl fun s2 I2 f2=>Joq I2 Ji1 f2 fun s3 I3 f3=>?_)
 obtain ⟨oe,vs,T,oT,ts,z1,z2,z3,z4,z5,z6,z7,z8,_⟩:=f3
 exact ⟨e,C,dx,_,rfl,I3.os,I3.bare,I3.base,I3.hok,Ji1,⟨oe,vs,T,oT,ts,z1,z2,z3,z4,z5,z6,z7,z8⟩,hE⟩
theorem upd_id {H:Hp} {a:Addr} {o:HO} (h:H a=some o):upd H a o=H:=by
 funext b
 unfold upd
 split
 ·rename_i z;rw [z,h]
 ·rfl
section
variable {X:Cx} {pins:List (Addr×Obj)} {σ:St} {H:Hp} {s s':Shared} {R:St→XK} {ev:Value}
theorem Yba (hw:Jpw X R) (I:Inv X pins σ H s) (h:CXX X.prog X.w X.stack H s (R σ) ev s'):X.xe ev s':=by
 obtain ⟨e,C,dx,H',rfl,ho,hg,un,hok,q,⟨oe,vs,T,oT,ts,z1,z2,z3,z4,z5,z6,z7,z8⟩,hR⟩:=h
 have I':Inv X pins σ H' s':=I.call' (ch:=[]) ho un hok hg fun b z=>absurd z (by simp)
 refine hw pins σ H' s' e C dx false I' q (.inr ⟨oe,vs,T,oT,ts,z1,z2,z3,z4,z5,z6,z7,Nat.le_trans I.sz z8,fun p hp z=>?_⟩) (by rw [upd_id q];exact hR)
 obtain ⟨y1,_⟩:=I.pin p hp
 exact absurd (Heap.lt_size y1) (by rw [z];exact Nat.not_lt.mpr z8)
end
theorem FnOk.calm {P:Program} {w:World} {K:PySem.W.Frag} {mg:Str→Option Value} {base:Heap} {k:Nat} {f:Addr} {fd:FuncData} {ps:List Str} {sp:Sp} (G:FnOk P w K mg base (CXX P w) k f fd ps sp):FnOk P w K mg base CX0 k f fd ps (fun vs H Q _=>sp vs H Q E0):=
 ⟨fun vs H Q _ h=>G.len vs H Q E0 h,fun A outer s H args us vs Q E hr he hb hv hs=>codeAny_mono (G.run A outer s H args us vs Q E0 hr he hb hv hs) fun r s' hq=>by
  cases r with
  |error e=>obtain ⟨_,_,_,_,_,_,_,_,_,_,_,z⟩:=hq;exact z.elim
  |ok fl=>cases fl <;> exact hq⟩
theorem Fun.okX {P:Program} {w:World} {K:PySem.W.Frag} {mg:Str→Option Value} {base:Heap} {x qual:Str} {st:Stmt} {f:Addr} {fd:FuncData} {N ps:List Str} {k:Nat} {sp:Sp} (F:Fun K x qual st f fd) (S:Jia N ps (Ji5 st)) (len:∀vs H Q E,sp vs H Q E→vs.length=ps.length)
  (hbody:∀(cdv:Value) (A:Around) (outer:List Env) (s:Shared) (H:Hp) (vs:List V) (Q:VK) (E:XK),Room k (A.deeper (envOfC qual (Ji5 st) s.heap.objs.size f cdv))→sp vs H Q E→
   ∃t,PSs (Jss (CXX P w) P w K mg base N qual (Ji5 st) f cdv A outer s H E) (Jiy st) t∧t {nx:=fun _ H'=>Q .non H',rt:=Q} (start N vs) H):FnOk P w K mg base (CXX P w) (k+1) f fd ps sp:=by
 obtain ⟨oc,od,kV,doc,pm,an,cdv,ct,osl,rfl,lk,hcd⟩:=F.ex
 exact fn_of lk hcd S len fun A outer s H vs Q E hr hsp=>hbody cdv A outer s H vs Q E hr hsp
def tCallX (sp:Sp) (R:St→XK) (t:TA):TE:=fun σ H Q=>t σ H fun vs H1=>sp vs H1 Q (R σ)
section
variable {X:Cx} {k j:Nat} {f C:Addr} {fd:FuncData} {ps:List Str} {sp:Sp} {R:St→XK} {x m:Str} {p pos apos:Pos} {e o:Expr} {es:List Expr} {ta:TE} {t:TA}
theorem Yam {pins:List (Addr×Obj)} {σ:St} {H:Hp} {s:Shared} {Q:VK} {us:List Value} {vs:List V} (G:FnOk X.prog X.w X.K X.mg X.base (CXX X.prog X.w) k f fd ps sp) (hw:Jpw X R) (hr:Room k X.A) (hb:Binds X.K fd ps [])
  (I:Inv X pins σ H s) (r:Vals vs us) (h:sp vs H Q (R σ)):wpAny (model X.prog X.w) X.A (call (.ref f) us) (EP X pins σ Q) X.xe s:=by
 have hl:(us++ []).length=ps.length:=by rw [List.append_nil,←r.length,G.len _ _ _ _ h]
 have hb':=hb s us I.kIn hl
 rw [List.append_nil] at hb'
 refine wpAny_call (codeAny_mono (G.run X.A X.stack s H ⟨us,[]⟩ us vs Q (R σ) hr I.env0 hb' r h) fun r s' hq=>?_)
 cases r with
 |error e=>exact Yba hw I hq
 |ok fl=>
  cases fl with
  |ret u=>exact I.after hq
  |next=>exact False.elim hq
  |brk=>exact False.elim hq
  |cont=>exact False.elim hq
theorem Jkz {st:Stmt} (F:FT X.K X.mg x st ps f fd) (G:FnOk X.prog X.w X.K X.mg X.base (CXX X.prog X.w) k f fd ps sp) (hw:Jpw X R) (hr:Room j X.A) (hk:k≤j) (ha:PA X (e::es) t) (hg:Gl X x:=by rfl)
  (hdb:(x==("__debug__" :Str))=false:=by decide) (he:starEach (e::es) X.env=(false,eval e X.env)::starEach es X.env:=by rfl) (hpl:(backTo pos (starEach es X.env)).any (·.1)=false:=by rfl):
  PE X (.Call (.Name x p) (e::es) [] pos) (tCallX sp R t):=by
 intro pins s σ H Q I h
 refine wpAny_Call_Name_kw (Jmx I hg F.mgx ?_ hdb)
 refine PySem.W.callWith_K (h₀:=X.base) I.ok.mod.kin F.fn.kp (thn (ha pos pins s σ H _ I h) fun us s1 ⟨vs,H1,I1,r,q⟩=>⟨I1.kIn,?_⟩) he hpl
 exact Yam G hw (hr.mono hk) F.bd I1 r q
end
end L2
namespace L2
open PySem PySem.Spec PyProof.Rows
def Jzr (K:PySem.W.Frag) (R:St→XK) (te:TE):TS:=fun _ σ H=>te σ H fun v H1=>∃e C W fI dx,v= .ref e∧H1 e=some (XO e C (some dx) true)∧XCls K C W fI∧R σ (.ref C) (some e) (upd H1 e (XO e C (some dx) false))
section
variable {X:Cx} {R:St→XK} {x:Expr} {pos:Pos} {te:TE}
theorem Jju (hw:Jpw X R) (hc:X.calm=true) (hx:PE X x te):PS X (.Raise (some x) none pos) (Jzr X.K R te):=by
 intro pins s σ H D I h
 rw [arm_exec_Raise]
 refine wpAny_bind (wpAny_standAt ?_)
 show wpAny _ _ (raiseStmt X.env (some (do let v←eval x X.env;standAt pos;pure v)) none) _ _ _
 unfold raiseStmt
 refine wpAny_bind (wpAny_bind (thn (hx pins s σ H _ I h) fun u s1 ⟨y,H1,I1,ry,e,C,W,fI,dx,ey,q,c,k⟩=>wpAny_bind (wpAny_standAt (wpAny_pure ?_))))
 subst ey
 obtain rfl:u=Value.ref e:=ry
 obtain ⟨o,vs,he,hcl,hd,hf,h0,y,h1,hy⟩:=Jr4 I1.hok q
 have hy':=hy rfl
 subst hy'
 have fin:X.xe (.ref e) s1:=hw pins σ H1 s1 e C dx true I1 q (.inl rfl) k
 have hh:X.A.handled=none:=I.ok.hd hc
 obtain ⟨nm,qn,N,bs,sn,sub,ab,col,dd,k0,k1,k2,k3,k5,l⟩:=c.obj
 have kC:=I1.kIn _ _ l
 have hcB:(Value.ref C:: .ref W::VEm).contains (.type "BaseException")=true:=by simp
 obtain ⟨oc,odi,oda,osl⟩:=o
 dsimp only at hcl hd hf
 subst hcl hd hf
 obtain ⟨hp,g,d,tk,os⟩:=s1
 repeat (first|with_reducible refine wpAny_loadPart_at he ?_|with_reducible refine wpAny_loadPart_at kC ?_|(with_reducible refine wpAny_isSubtype_exc kC ?_;rw [hcB])|with_reducible refine wpAny_field he rfl h1 ?_|wp_step)
 exact wpAny_raiseNew_none hh fin
end
structure ECls (K:PySem.W.Frag) (C:Addr):Prop where
 obj:∃(dd:Option Addr) (cd:ClassData) (sl:Array (Option Value)),K.lookup C=some ⟨.type "type",dd,.cls cd,sl⟩
 mb:PySem.W.mroIn K C (.type "BaseException")=some true
theorem XCls.e {K:PySem.W.Frag} {C W fI:Addr} (c:XCls K C W fI):ECls K C:=by
 obtain ⟨nm,qn,N,bs,sn,sub,ab,col,dd,k0,k1,k2,k3,k5,l⟩:=c.obj
 exact ⟨⟨_,_,_,l⟩,c.mb⟩
section
variable {prog:Program} {w:World} {A:Around} {E:Value→Shared→Prop} {s:Shared} {K:PySem.W.Frag} {e C C0:Addr} {oe:Obj} {b:Bool}
theorem Jvf {Q:Bool→Shared→Prop} (X:K.In s.heap) (c0:ECls K C0) (he:s.heap.get? e=some oe) (hc:oe.cls= .ref C) (hm:PySem.W.mroIn K C (.ref C0)=some b) (q:Q b s):wpAny (model prog w) A (excMatches (.ref e) (.ref C0)) Q E s:=by
 obtain ⟨dd,cd,sl,l⟩:=c0.obj
 have k0:=X _ _ l
 have f0:=tc_notTuple
 have m1:=PySem.W.looks_mroIn (M:=model prog w) X c0.mb
 have m2:=PySem.W.looks_mroIn (M:=model prog w) X hm
 obtain ⟨oc,odi,oda,osl⟩:=oe
 dsimp only at hc
 subst hc
 obtain ⟨hp,g,d,tk,os⟩:=s
 unfold excMatches
 repeat (first|with_reducible refine wpAny_loadPart_at he ?_|with_reducible refine wpAny_loadPart_at k0 ?_|with_reducible refine m1.at ?_|with_reducible refine m2.at ?_|wp_step)
 cases b <;> (repeat wp_step) <;> exact q
end
def Cx.caught (X:Cx) (e:Addr):Cx:={X with A:=X.A.mark (some (.ref e)),calm:=false,xe:=fun _ _=>False}
def Cx.tried (X:Cx) (pins:List (Addr×Obj)) (R:St→XK):Cx:=
 {X with pn:=X.pn++pins,xe:=fun ev s'=>∃σ H e C dx fr,ev= .ref e∧Inv X pins σ H s'∧H e=some (XO e C (some dx) fr)∧(fr=true∨Flt X pins H s'.heap e .none)∧R σ (.ref C) (some e) (upd H e (XO e C (some dx) false))}
section
variable {X:Cx} {pins pins':List (Addr×Obj)} {σ:St} {H:Hp} {s:Shared} {R:St→XK} {e:Addr}
theorem Inv.caught (I:Inv X pins σ H s) (e:Addr):Inv (X.caught e) pins σ H s:=
 ⟨⟨I.ok.mod,I.ok.kind,I.ok.glob,I.ok.blt,I.ok.above,I.ok.inj,I.ok.has,I.ok.cab,(fun z=>nomatch z),I.ok.frames,I.ok.stk,I.ok.exf,I.ok.bs,I.ok.bsz,I.ok.noex,I.ok.exfs,I.ok.funs,I.ok.frf⟩,I.os,I.bare,I.base,I.loc,I.cell,I.free,I.freeC,I.pin,I.hok,I.len⟩
theorem Inv.uncaught (ok:X.Ok) (I:Inv (X.caught e) pins σ H s):Inv X pins σ H s:=⟨ok,I.os,I.bare,I.base,I.loc,I.cell,I.free,I.freeC,I.pin,I.hok,I.len⟩
theorem Inv.tried (I:Inv X pins σ H s) (R:St→XK):Inv (X.tried pins R) [] σ H s:=
 ⟨⟨I.ok.mod,I.ok.kind,I.ok.glob,I.ok.blt,I.ok.above,I.ok.inj,I.ok.has,I.ok.cab,I.ok.hd,I.ok.frames,I.ok.stk,I.ok.exf,I.ok.bs,I.ok.bsz,I.ok.noex,I.ok.exfs,I.ok.funs,I.ok.frf⟩,I.os,I.bare,I.base,I.loc,I.cell,I.free,I.freeC,(fun p hp=>I.pin p (by rw [List.append_nil] at hp;exact hp)),I.hok,I.len⟩
theorem Inv.untried (I:Inv (X.tried pins R) pins' σ H s):Inv X pins σ H s:=
 ⟨⟨I.ok.mod,I.ok.kind,I.ok.glob,I.ok.blt,I.ok.above,I.ok.inj,I.ok.has,I.ok.cab,I.ok.hd,I.ok.frames,I.ok.stk,I.ok.exf,I.ok.bs,I.ok.bsz,I.ok.noex,I.ok.exfs,I.ok.funs,I.ok.frf⟩,I.os,I.bare,I.base,I.loc,I.cell,I.free,I.freeC,(fun p hp=>I.pin p (List.mem_append_left _ hp)),I.hok,I.len⟩
theorem xw_try:Jpw (X.tried pins R) R:=fun pins' σ H s e C dx fr I q hfl hR=>⟨σ,H,e,C,dx,fr,rfl,I.untried,q,hfl.imp id fun ⟨oe,vs,T,oT,ts,z1,z2,z3,z4,z5,z6,z7,z8,z9⟩=>⟨oe,vs,T,oT,ts,z1,z2,z3,z4,z5,z6,z7,z8,fun p hp=>z9 p (List.mem_append_left _ hp)⟩,hR⟩
theorem SP.map {X Y:Cx} {pl pm:List (Addr×Obj)} {D:Ends} {f:Flow} {s':Shared} (hI:∀σ H,Inv X pl σ H s'→Inv Y pm σ H s') (h:SP X pl D f s'):SP Y pm D f s':=by
 cases f with
 |next=>obtain ⟨σ',H',I,q⟩:=h;exact ⟨σ',H',hI _ _ I,q⟩
 |brk=>obtain ⟨σ',H',I,q⟩:=h;exact ⟨σ',H',hI _ _ I,q⟩
 |cont=>obtain ⟨σ',H',I,q⟩:=h;exact ⟨σ',H',hI _ _ I,q⟩
 |ret u=>obtain ⟨v,σ',H',I,r,q⟩:=h;exact ⟨v,σ',H',hI _ _ I,r,q⟩
theorem Jy7 {M:Model} {A:Around} {E:Value→Shared→Prop} {i:Nat} {n:Str} {pos:Pos} {Q:Unit→Shared→Prop} (I:Inv X pins σ H s) (hN:X.N.Nodup) (hi:X.N[i]?=some n) (hk:X.env.scope.names.lookup n=some .local)
  (h:∀s',Inv X pins (σ.set i none) H s'→Q () s'):wpAny M A (do bindName X.env n .none;unbindBehindTheSuite X.env n pos) Q E s:=by
 obtain ⟨m,hn,hl⟩:=id I.loc
 have hcls:(X.env.scope.kind== .class||(X.env.scope.kind== .module&&X.env.locals !=X.env.globals))=false:=by rw [I.ok.kind];rfl
 have cne:=I.cne
 refine wpAny_nameGoes_keeps hk hn hcls fun h' v hn' sb=>h _ ?_
 obtain ⟨oL,_,_,hoL,_⟩:=id hn
 have lo:∀b o,X.s₀.heap.get? b=some o→b≠X.env.locals:=fun b o z=>Nat.ne_of_lt (Nat.lt_of_lt_of_le (Heap.lt_size z) I.ok.above)
 refine ⟨I.ok,I.os,I.bare,⟨fun b o z n hb hx=>(sb.2 b (lo b o z)).trans (I.base.keep b o z n hb hx),fun b o z n hb hx=>?_,I.base.free,fun b o z hx=>?_,I.base.tups,I.base.frzs,I.base.tbls⟩,⟨_,hn',fun j y v' e1 e2 e3=>?_⟩,fun y c z=>?_,I.free,I.freeC,fun p hp=>?_,fun b ob z=>?_,by simpa using I.len⟩
 ·obtain ⟨sl,z1⟩:=I.base.slot b o z n hb hx
  exact ⟨sl,(sb.2 b (lo b o z)).trans z1⟩
 ·obtain ⟨o',z1⟩:=I.base.there b o z hx
  exact ⟨o',(sb.2 b (lo b o z)).trans z1⟩
 ·have hj:j≠i:=fun z=>by
   subst z
   have:j < σ.length:=by rw [I.len];exact (List.getElem?_eq_some_iff.mp hi).1
   rw [List.getElem?_set_self this] at e2
   cases e2
  rw [List.getElem?_set_ne (Ne.symm hj)] at e2
  obtain ⟨u',r',q⟩:=hl j y v' e1 e2 e3
  refine ⟨u',r',?_⟩
  rcases q with ⟨k,z⟩|⟨k,c,z,zz⟩
  ·refine .inl ⟨k,?_⟩
   have:y≠n:=fun z=>hj (Jqh hN e1 (z▸hi))
   show (if y=n then v else m y)=some u'
   rw [if_neg this];exact z
  ·exact .inr ⟨k,c,z,zz.sameBut sb (cne y c z)⟩
 ·obtain ⟨w',zz⟩:=I.cell y c z
  exact ⟨w',zz.sameBut sb (cne y c z)⟩
 ·obtain ⟨z,n,ne,nf,d⟩:=I.pin p hp
  exact ⟨(sb.2 p.1 ne).trans z,n,ne,nf,d⟩
 ·refine (I.hok b ob z).stay (fun c w' hc q=>(sb.2 c ?_).trans q) (fun _ q=>q) (fun _ _ q=>q) fun _ _ q=>q
  rintro rfl
  rcases hc with rfl|hc
  ·rw [I.free] at z;cases z
  ·rw [I.free] at hc;cases hc
end
abbrev TH:=Ends→St→Value→Option Addr→Hp→Prop
def PH (X:Cx) (hs:List ExceptHandler) (th:TH):Prop:=
 ∀(pins:List (Addr×Obj)) (s:Shared) (σ:St) (H:Hp) (D:Ends) (e C dx:Addr),Inv X pins σ H s→H e=some (XO e C (some dx) false)→Flt X pins H s.heap e .none→th D σ (.ref C) (some e) H→
  wpAny (model X.prog X.w) X.A (handleBy (.ref e) X.env hs) (SP X pins D) X.xe s
def hNil:TH:=fun _ _ _ _ _=>False
theorem ph_nil {X:Cx}:PH X [] hNil:=fun _ _ _ _ _ _ _ _ _ _ _ h=>h.elim
def Ends.less (D:Ends) (i:Nat):Ends:=⟨fun σ H=>D.nx (σ.set i none) H,D.rt,fun σ H=>D.bk (σ.set i none) H,fun σ H=>D.ct (σ.set i none) H⟩
def hAs (K:PySem.W.Frag) (C0:Addr) (i:Nat) (ts:Addr→TS) (th:TH):TH:=fun D σ c eo H=>∃e C b,c= .ref C∧eo=some e∧PySem.W.mroIn K C (.ref C0)=some b∧if b=true then ts e (D.less i) (σ.set i (some (.ref e))) H else th D σ c eo H
section
variable {X:Cx} {x n:Str} {np pos:Pos} {C0:Addr} {i:Nat} {b₀:Stmt} {suite:List Stmt} {rest:List ExceptHandler} {ts:Addr→TS} {th:TH}
theorem ph_as (c0:ECls X.K C0) (hm:X.mg x=some (.ref C0)) (hN:X.N.Nodup) (hi:X.N[i]?=some n) (hl:X.env.scope.names.lookup n=some .local) (hsu:∀e,PSs (X.caught e) (b₀::suite) (ts e)) (hr:PH X rest th) (hg:Gl X x:=by rfl)
  (hdb:(x==("__debug__" :Str))=false:=by decide):PH X (.ExceptHandler (some (.Name x np)) (some n) (b₀::suite) pos::rest) (hAs X.K C0 i ts th):=by
 rintro pins s σ H D e C dx I q hfl ⟨e',C',b,hC,he,hmr,h⟩
 cases hC
 cases he
 obtain ⟨o,vs,go,gc,_⟩:=Jr4 I.hok q
 refine wpAny_handleBy_cons (codeAny_handlers_test (Jmx (X:=X.caught e) (I.caught e) hg hm (Jvf I.kIn c0 go gc hmr ?_) hdb)) (fun z=>by cases z)
 cases b with
 |false=>exact hr pins s σ H D e C dx I q hfl h
 |true=>
  refine codeAny_handlers_suite_as (Joq I q hfl fun s1 I1 f1=>Jmt (v:=.ref e) I1 hN hi (.inl hl) rfl (fun s2 I2=>?_) (.inr hl))
  refine wpAny_mono (hsu e pins s2 _ H (D.less i) (I2.caught e) h) (fun f s3 hf=>?_) fun _ _ z=>False.elim z
  have go:∀{f:Flow} {σ':St} {H':Hp},Inv (X.caught e) pins σ' H' s3→(∀s',Inv X pins (σ'.set i none) H' s'→SP X pins D f s')→wpAny (model X.prog X.w) X.A (do bindName X.env n .none;unbindBehindTheSuite X.env n pos) (fun _ s'=>SP X pins D f s') X.xe s3:=
   fun {f σ' H'} I3 k=>Jy7 (Inv.uncaught I.ok I3) hN hi hl k
  cases f with
  |next=>obtain ⟨σ',H',I3,k⟩:=hf;exact go I3 fun s' I'=>⟨_,H',I',k⟩
  |brk=>obtain ⟨σ',H',I3,k⟩:=hf;exact go I3 fun s' I'=>⟨_,H',I',k⟩
  |cont=>obtain ⟨σ',H',I3,k⟩:=hf;exact go I3 fun s' I'=>⟨_,H',I',k⟩
  |ret u=>obtain ⟨v,σ',H',I3,r,k⟩:=hf;exact go I3 fun s' I'=>⟨v,_,H',I',r,k⟩
end
def tTry (tb:List (Addr×Obj)→(St→XK)→TS) (th:TH):TS:=fun D σ H=>∀pins,tb pins (fun σ' c e H'=>th D σ' c e H') D σ H
theorem ps_try {X:Cx} {body:List Stmt} {h₀:ExceptHandler} {hs:List ExceptHandler} {pos:Pos} {tb:List (Addr×Obj)→(St→XK)→TS} {th:TH} (hst:Jwc X) (hb:∀pins R,Jpw (X.tried pins R) R→PSs (X.tried pins R) body (tb pins R)) (hh:PH X (h₀::hs) th):
  PS X (.Try body (h₀::hs) [] [] pos) (tTry tb th):=by
 intro pins s σ H D I h
 refine wpAny_Try_except (wpAny_mono (hb pins (fun σ' c e H'=>th D σ' c e H') xw_try [] s σ H D (I.tried _) (h pins)) (fun f s1 hf=>?_) fun ev s1 hx=>?_)
 ·have hf':SP X pins D f s1:=hf.map fun _ _ J=>J.untried
  cases f with
  |next=>exact wpAny_execs_nil hf'
  |brk=>exact hf'
  |cont=>exact hf'
  |ret u=>exact hf'
 ·obtain ⟨σ',H',e,C,dx,fr,rfl,I',q,hfl,hR⟩:=hx
  exact Jwt I' hst I'.ok.frames q hfl fun s2 I2 f2=>Joq I2 Ji1 f2 fun s3 I3 f3=>hh pins s3 σ' _ D e C dx I3 Ji1 f3 hR
end L2
namespace L2
open PySem PySem.Spec PyProof.Rows
structure FM (K:PySem.W.Frag) (x qual:Str) (st:Stmt) (ps:List Str) (f:Addr) (fd:FuncData):Prop where
 fn:Fun K x qual st f fd
 bd:Binds K fd ps []
structure YCls (K:PySem.W.Frag) (C:Addr):Prop where
 ya:PySem.W.findIn K (.ref C) "__class__" =some (some (.builtin "object.__class__"))
 yb:PySem.W.specialIn K (.builtin "object.__class__") "__get__" =some (some (.builtin "getset_descriptor.__get__"))
 yc:PySem.W.takesIn K (.builtin "object.__class__")=some true
 yd:PySem.W.mroIn K C (.type "object")=some true
theorem YCls.ty {K:PySem.W.Frag} {C a dx:Addr} {H:Hp} {fs:List (Str×V)} (y:YCls K C) (c:Cls K C) (e:H a=some (.ins C dx fs)):Joh K H (.ref a) (.ref C):=.ins e c y.ya y.yb y.yc y.yd
def Jm5 (K:PySem.W.Frag) (f:Str):Sp:=fun vs H Q _=>∃e C W fI y,vs= [.ref e,y]∧H e=some (XO e C none true)∧XCls K C W fI∧NoAttr K C f∧∀dx,H dx=none→dx≠e→Q .non (upd (upd H dx (XD dx [(f,y)])) e (XO e C (some dx) true))
theorem Jxb {K:PySem.W.Frag} {C W fI:Addr} {f:Str} {y:V} {H:Hp} {Q:VK} (c:XCls K C W fI) (n:NoAttr K C f) (k:∀e dx,H e=none→H dx=none→dx≠e→Q (.ref e) (upd (upd H dx (XD dx [(f,y)])) e (XO e C (some dx) true))):
  [y].length≤1000∧∀e,H e=none→Jm5 K f (.ref e:: [y]) (upd H e (XO e C none true)) (fun v H2=>v= .non∧Q (.ref e) H2) E0:=by
 refine ⟨by simp,fun e he=>⟨e,C,W,fI,y,rfl,Ji1,c,n,fun dx h1 h2=>⟨rfl,?_⟩⟩⟩
 have z:=k e dx he (by rw [Ji7 h2] at h1;exact h1) h2
 have e2:upd (upd (upd H e (XO e C none true)) dx (XD dx [(f,y)])) e (XO e C (some dx) true)=upd (upd H dx (XD dx [(f,y)])) e (XO e C (some dx) true):=by
  funext b
  unfold upd
  split
  ·rfl
  ·split <;> rfl
 rw [e2]
 exact z
end L2
namespace L2
open PySem PySem.Spec PyProof.Rows
section
variable {X:Cx} {pins:List (Addr×Obj)} {σ:St} {H:Hp} {s:Shared}
theorem Inv.turnTup {ch:List Addr} {T:Addr} {xs:List V} {h':Heap} {t':Nat} (I:Inv X pins σ H s) (hch:∀b∈ch,Jog X pins H b) (k:∀b o,b∉ch→s.heap.get? b=some o→h'.get? b=some o) (hT:s.heap.objs.size≤T)
  (new:ObjOk X.prog X.w (upd H T (.tup xs)) h' T (.tup xs)):Inv X pins σ (upd H T (.tup xs)) {s with heap:=h',toks:=t'}:=by
 have hn:H T=none:=I.hok.fresh hT
 have nb:∀b o,s.heap.get? b=some o→b≠T:=fun b o z w'=>absurd (Heap.lt_size z) (by rw [w'];exact Nat.not_lt.mpr hT)
 have nt:∀b u,H b=some u→b≠T:=fun b u z=>Ji8 z hn
 have nc:∀b u,H b=some u→b∉ch:=fun b u z w'=>by rw [(hch b w').1] at z;cases z
 have u:Un (frs X.stack) ch H (upd H T (.tup xs)) s.heap h':=by
  refine ⟨fun b o hb n hs hc=>k b o hc hb,fun b o hb n _ hc=>⟨o.slots,k b o hc hb⟩,fun b o hb n _=>by rw [Ji7 (nb b o hb)];exact n,fun b o hb hc=>⟨o,k b o hc hb⟩,fun b ys z=>by rw [Ji7 (nt b _ z)];exact z,fun b o v z=>by rw [Ji7 (nt b _ z)];exact z,fun b ps z=>⟨#[],by rw [Ji7 (nt b _ z),z];simp⟩⟩
 refine I.call (g':=s.gens) (d':=s.drawn) (ch:=ch) u (fun b o z=>?_) I.bare fun b hb=>?_
 ·by_cases w':b=T
  ·subst w'
   rw [Ji1] at z;cases z
   exact new
  ·rw [Ji7 w'] at z
   refine (I.hok b o z).stay (fun c v hc zz=>k c v ?_ zz) (fun c zz=>by rw [Ji7 (nt c _ zz)];exact zz) (fun c ys zz=>by rw [Ji7 (nt c _ zz)];exact zz) fun c ys zz=>by rw [Ji7 (nt c _ zz)];exact zz
   rcases hc with rfl|hc
   ·exact nc c o z
   ·exact nc c _ hc
 ·obtain ⟨_,h1,_,h3,h4,h5⟩:=hch b hb
  exact ⟨h3,h1,h4,h5⟩
theorem Inv.turnMany {ch:List Addr} {h':Heap} {t':Nat} (I:Inv X pins σ H s) (hch:∀b∈ch,Jog X pins H b) (k:∀b o,b∉ch→s.heap.get? b=some o→h'.get? b=some o):Inv X pins σ H {s with heap:=h',toks:=t'}:=by
 have nc:∀b u,H b=some u→b∉ch:=fun b u z w'=>by rw [(hch b w').1] at z;cases z
 have u:Un (frs X.stack) ch H H s.heap h':=
  ⟨fun b o hb n hs hc=>k b o hc hb,fun b o hb n _ hc=>⟨o.slots,k b o hc hb⟩,fun b o hb n _=>n,fun b o hb hc=>⟨o,k b o hc hb⟩,fun b ys z=>z,fun b o v z=>z,fun b ps z=>⟨#[],by rw [z];simp⟩⟩
 refine I.call (g':=s.gens) (d':=s.drawn) (ch:=ch) u (fun b o z=>(I.hok b o z).stay (fun c v hc zz=>k c v ?_ zz) (fun _ zz=>zz) (fun _ _ zz=>zz) fun _ _ zz=>zz) I.bare fun b hb=>?_
 ·rcases hc with rfl|hc
  ·exact nc c o z
  ·exact nc c _ hc
 ·obtain ⟨_,h1,_,h3,h4,h5⟩:=hch b hb
  exact ⟨h3,h1,h4,h5⟩
end
theorem bt_zip:bootBuiltins "zip" =some (.type "zip"):=by decide +kernel
end L2
namespace L2
open PySem PySem.Spec PyProof.Rows
section
variable {X:Cx} {pins:List (Addr×Obj)} {σ:St} {H:Hp} {s:Shared}
inductive TyX (K:PySem.W.Frag) (H:Hp):V→Value→Prop where
 |of {x:V} {t:Value}:Joh K H x t→TyX K H x t
 |exc {e C W fI dx:Addr} {fs:List (Str×V)} {fr:Bool}:H e=some (XO e C (some dx) fr)→H dx=some (XD dx fs)→XCls K C W fI→TyX K H (.ref e) (.ref C)
theorem TyX.kit {x:V} {u t:Value} (I:Inv X pins σ H s) (rx:RelV x u) (ty:TyX X.K H x t):u≠ .builtin "__main__.__loader__#opaque" ∧∃Hh,PySem.W.KitX X.K u t Hh∧Hh s.heap:=by
 cases ty with
 |exc q qd c=>
  obtain rfl:u=Value.ref _:=rx
  obtain ⟨ox,oD,mA,J,_,_⟩:=Jwz I.hok q qd
  exact ⟨(fun z=>nomatch z),_,xkit c,ox,oD,J⟩
 |of ty=>
  cases ty with
  |non=>cases (show u=Value.none from rx);exact ⟨(fun z=>nomatch z),_,PySem.W.kitx_none,trivial⟩
  |bl y=>cases (show u=Value.bool y from rx);exact ⟨(fun z=>nomatch z),_,PySem.W.kitx_bool,trivial⟩
  |int i=>obtain ⟨t,q⟩:=(show ∃t,u=Value.int i t from rx);cases q;exact ⟨(fun z=>nomatch z),_,PySem.W.kitx_int,trivial⟩
  |str y=>obtain ⟨t,q⟩:=(show ∃t,u=Value.str y t from rx);cases q;exact ⟨(fun z=>nomatch z),_,PySem.W.kitx_str,trivial⟩
  |flt y=>obtain ⟨t,q⟩:=(show ∃t,u=Value.float y t from rx);cases q;exact ⟨(fun z=>nomatch z),_,PySem.W.kitx_float,trivial⟩
  | @lst a xs ea=>
   cases (show u=Value.ref a from rx)
   obtain ⟨_,_,n,_,h1⟩:=(show ObjOk X.prog X.w H s.heap a (.lst xs) from I.hok a _ ea)
   exact ⟨(fun z=>nomatch z),_,PySem.W.kitx_list,_,h1,rfl⟩
  | @frz a ob xs ea=>
   cases (show u=Value.ref a from rx)
   obtain ⟨_,_,_,n,_,h1⟩:=(show ObjOk X.prog X.w H s.heap a (.frz ob (.lst xs)) from I.hok a _ ea)
   exact ⟨(fun z=>nomatch z),_,PySem.W.kitx_list,_,h1,rfl⟩
  | @tup a xs ea=>
   cases (show u=Value.ref a from rx)
   obtain ⟨_,_,_,o,h1,h2,_⟩:=(show ObjOk X.prog X.w H s.heap a (.tup xs) from I.hok a _ ea)
   exact ⟨(fun z=>nomatch z),_,PySem.W.kitx_tuple,o,h1,h2⟩
  | @dK a kvs ea=>
   cases (show u=Value.ref a from rx)
   obtain ⟨_,_,vs,_,o,es,ep,h1,h2,_⟩:=(show ObjOk X.prog X.w H s.heap a (.dK kvs) from I.hok a _ ea)
   exact ⟨(fun z=>nomatch z),_,PySem.W.kitx_dict,o,h1,h2.1⟩
  | @dT a kvs ea=>
   cases (show u=Value.ref a from rx)
   obtain ⟨_,_,xs,_,o,es,ep,h1,h2,_⟩:=(show ObjOk X.prog X.w H s.heap a (.dT kvs) from I.hok a _ ea)
   exact ⟨(fun z=>nomatch z),_,PySem.W.kitx_dict,o,h1,h2.1⟩
  | @ins a C dx fs ea cl ha hn htk hm=>
   cases (show u=Value.ref a from rx)
   obtain ⟨mA,O,_⟩:=Jps I.hok ea
   obtain ⟨od,J,_⟩:=O.look
   exact ⟨(fun z=>nomatch z),_,PySem.W.kitx_own (cl.get _) cl.hd ha hn htk hm,J⟩
def rIsA (K:PySem.W.Frag):List V→Hp→VK→Prop:=fun xs H Q=>∃x c u t b,xs= [x,c]∧clsV c=some u∧TyX K H x t∧PySem.W.kitOne K t u=some b∧Q (.bl b) H
theorem Jkv:Jk3 X (.builtin "isinstance") (rIsA X.K):=by
 rintro pins s σ H vs us Q I r ⟨x,c,u,t,b,rfl,hc,ty,ek,k⟩
 obtain ⟨v,w',rfl,r1,r2⟩:=Jwx r
 have e2:w'=u:=by
  cases c with
  |ty n=>cases hc;cases r2;rfl
  |ref a=>cases hc;cases r2;rfl
  |_=>cases hc
 subst e2
 obtain ⟨hx,Hh,Z,p⟩:=ty.kit I r1
 exact PySem.W.kia_one Z I.kIn p ek hx fun tk=>⟨.bl b,H,I.tok _,rfl,k⟩
theorem Jtu:∀{cs:List V} {us ws:List Value},cs.mapM clsV=some us→Vals cs ws→ws=us
 | [],us,_,e,.nil=>by cases e;rfl
 |c::cs,us,_,e,.cons r t=>by
  rw [List.mapM_cons] at e
  simp only [Option.bind_eq_bind,Option.bind_eq_some_iff,Option.pure_def,Option.some.injEq] at e
  obtain ⟨u,hu,us',hus,rfl⟩:=e
  rw [Jtu hus t]
  cases c with
  |ty n=>cases hu;cases r;rfl
  |ref a=>cases hu;cases r;rfl
  |_=>cases hu
def rIsT (K:PySem.W.Frag):List V→Hp→VK→Prop:=fun xs H Q=>∃x p cs us t b,xs= [x,.ref p]∧H p=some (.tup cs)∧cs.mapM clsV=some us∧TyX K H x t∧PySem.W.kitAny K t us=some b∧Q (.bl b) H
theorem Jpz:Jk3 X (.builtin "isinstance") (rIsT X.K):=by
 rintro pins s σ H vs us Q I r ⟨x,p,cs,us',t,b,rfl,hp,hc,ty,ek,k⟩
 obtain ⟨v,w',rfl,r1,r2⟩:=Jwx r
 obtain rfl:w'=Value.ref p:=r2
 obtain ⟨hx,Hh,Z,q⟩:=ty.kit I r1
 obtain ⟨_,its,rv,o,h1,h2,n,h3⟩:=(show ObjOk X.prog X.w H s.heap p (.tup cs) from I.hok p _ hp)
 have e:=Jtu hc rv
 subst e
 obtain ⟨oc,odi,oda,osl⟩:=o
 dsimp only at h2 h3
 subst h2 h3
 exact PySem.W.kia_tup Z I.kIn q h1 ek hx fun tk=>⟨.bl b,H,I.tok _,rfl,k⟩
def iSeq (K:PySem.W.Frag) (tl:TE):TI:=fun σ H R=>tl σ H fun x H1=>∃a,x= .ref a∧(((∃xs,SqL K H1 a xs)∧R (Itl K a) H1)∨((∃xs,SqT K H1 a xs)∧R (Itt K a) H1))
theorem pi_seq {tg l:Expr} {tl:TE} (hl:PE X l tl):PI X tg l (iSeq X.K tl):=by
 intro pins s σ H R I h
 refine thn (hl pins s σ H _ I h) fun v s1 ⟨x,H1,I1,r1,a,e,q1⟩=>?_
 subst e
 cases r1
 have fin:∀{J:It} {tn:Nat→Heap→Prop} {o:Obj},Jpk X.prog X.w X.K tg J [s1.heap.objs.size] s1.heap.objs.size tn→tn 0 (s1.heap.push o)→R J H1→PIE X pins σ tg R (.ref s1.heap.objs.size) {s1 with heap:=s1.heap.push o}:=fun {J tn o} T st q=>by
  refine ⟨s1.heap.objs.size,[s1.heap.objs.size],tn,J,H1,rfl,I1.kept (t':=s1.toks) fun b o e=>Heap.get?_push_of_some _ e,T,st,fun b hb=>?_,q⟩
  have e:b=s1.heap.objs.size:=by simpa using hb
  subst e
  exact I1.fpOk (Nat.le_refl _) (I1.hok.fresh (Nat.le_refl _))
 rcases q1 with ⟨⟨xs,hq⟩,q⟩|⟨⟨xs,hq⟩,q⟩
 ·obtain ⟨its,rv,p,hz⟩:=I1.list hq
  exact wpAny_pyIter_list p.isList (fin (Jsh a _) ⟨_,Heap.get?_push_size _ rfl,rfl,rfl⟩ q)
 ·obtain ⟨its,rv,p,hz⟩:=I1.tuple hq
  exact wpAny_pyIter_tuple (show s1.heap.IsTuple a its.toArray from p) (fin (Jr0 a _) ⟨_,Heap.get?_push_size _ rfl,rfl,rfl⟩ q)
end
def Jw3 (P:Program) (w:World) (K:PySem.W.Frag) (mg:Str→Option Value) (base:Heap) (j:Nat) (m:Str) (ta:TE) (t:TA):TE:=fun σ H Q=>ta σ H fun x H1=>∃a C dx fs f fd ps sp k,x= .ref a∧H1 a=some (.ins C dx fs)∧fs.lookup m=none∧Cls K C∧Jku K C m f∧FnOk P w K mg base CX0 k f fd ps sp∧k≤j∧Binds K fd ps []∧
 t σ H1 fun vs H2=>sp (x::vs) H2 Q E0
section
variable {X:Cx} {j:Nat} {m:Str} {apos pos:Pos} {e o:Expr} {es:List Expr} {ta:TE} {t:TA} {R:St→XK}
theorem Jqo {pl:Sem Bool} (he:PE X o ta) (hr:Room j X.A) (ha:PA X (e::es) t)
  (hst:starEach (e::es) X.env=(false,eval e X.env)::starEach es X.env:=by rfl) (hpl:(backTo pos (starEach es X.env)).any (·.1)=false:=by rfl)
  (ht:eval (.Call (.Attribute o m apos) (e::es) [] pos) X.env=(do
   let ov←eval o X.env
   standAt apos.atName
   let (f,first)←holding [ov] (getMethod ov m pl)
   callWith pos f first (backTo pos (starEach (e::es) X.env)) (backToKw pos (keywordEach [] X.env))):=by rfl):
  PE X (.Call (.Attribute o m apos) (e::es) [] pos) (Jw3 X.prog X.w X.K X.mg X.base j m ta t):=by
 intro pins s σ H Q I h
 refine PySem.W.methodCall_KW (pl:=pl) (thn (he pins s σ H _ I h) fun u s1 ⟨x,H1,I1,rx,a,C,dx,fs,f,fd,ps,sp,k,ex,ea,l,c,hm,G,hk,hb,q⟩=>?_) ht
 subst ex
 obtain rfl:u=Value.ref a:=rx
 refine Jq5 I1 ea c hm l ?_
 refine PySem.W.callWith_K (first:=[.ref a]) (h₀:=X.base) I.ok.mod.kin hm.kp (thn (ha pos pins s1 σ H1 _ I1 q) fun us s2 ⟨vs,H2,I2,r,q2⟩=>⟨I2.kIn,?_⟩) hst hpl
 exact Jvu (us:=.ref a::us) (vs:=.ref a::vs) (dvs:=[]) (ds:=[]) G (hr.mono hk) hb .nil Jpg I2 (.cons rfl r) (by rw [List.append_nil];exact q2)
theorem Jp1 {pl:Sem Bool} (he:PE X o ta) (hr:Room j X.A)
  (ht:eval (.Call (.Attribute o m apos) [] [] pos) X.env=(do
   let ov←eval o X.env
   standAt apos.atName
   let (f,first)←holding [ov] (getMethod ov m pl)
   callWith pos f first (backTo pos (starEach [] X.env)) (backToKw pos (keywordEach [] X.env))):=by rfl):
  PE X (.Call (.Attribute o m apos) [] [] pos) (Jw3 X.prog X.w X.K X.mg X.base j m ta Jw4):=by
 intro pins s σ H Q I h
 refine PySem.W.methodCall_KW (pl:=pl) (thn (he pins s σ H _ I h) fun u s1 ⟨x,H1,I1,rx,a,C,dx,fs,f,fd,ps,sp,k,ex,ea,l,c,hm,G,hk,hb,q⟩=>?_) ht
 subst ex
 obtain rfl:u=Value.ref a:=rx
 refine Jq5 I1 ea c hm l ?_
 exact PySem.W.callWith_K0 (first:=[.ref a]) I1.kIn hm.kp (Jvu (us:=[.ref a]) (vs:=[.ref a]) (dvs:=[]) (ds:=[]) G (hr.mono hk) hb .nil Jpg I1 (.cons rfl .nil) q)
end
end L2
namespace L2
open PySem PySem.Spec PyProof.Rows
theorem Jii {n:Nat} (h:n≤2000):n < sizeLine:=Nat.lt_of_le_of_lt h (by decide)
theorem Jp3 (n:Nat) (h:n≤2000):n≤sizeLine:=Nat.le_of_lt (Jii h)
def tpB (t:Value):Bool:=[Value.type "bool",.type "str",.type "NoneType",.type "list",.type "tuple",.type "dict"].contains t
def Tm (K:PySem.W.Frag) (H:Hp) (x:V):Prop:=(∃i:Int,x= .int i)∨∃t,TyX K H x t∧tpB t=true
def Jiw:V→Int→Int→Bool
 | .int i,lo,hi=>decide (lo≤i)&&decide (i≤hi)
 |_,_,_=>false
theorem tp_int {K:PySem.W.Frag} {t:Value} (h:tpB t=true):PySem.W.kitOne K t (.type "int")=some (t== .type "bool")∧PySem.W.kitOne K t (.type "bool")=some (t== .type "bool"):=by
 unfold tpB at h
 simp only [List.contains_cons,List.contains_nil,Bool.or_false,Bool.or_eq_true,beq_iff_eq] at h
 rcases h with rfl|rfl|rfl|rfl|rfl|rfl <;> exact ⟨rfl,rfl⟩
theorem Ya9 {K:PySem.W.Frag} {H:Hp} {x:V} {t:Value} (ty:TyX K H x t) (h:tpB t=true):∀lo hi,Jiw x lo hi=false:=by
 intro lo hi
 cases ty with
 |exc=>rfl
 |of ty=>
  cases ty <;> first|rfl|(exfalso;revert h;decide)
def Yb3 (K:PySem.W.Frag):Sp:=fun vs H Q _=>∃(x:V) (lo hi:Int),vs= [x,.int lo,.int hi]∧Tm K H x∧Q (.bl (Jiw x lo hi)) H
theorem TyX.same {K:PySem.W.Frag} {H H':Hp} {x:V} {t:Value} (s:∀b o,x= .ref b→H b=some o→H' b=some o) (sx:∀b fs,H b=some (XD b fs)→H' b=some (XD b fs)) (ty:TyX K H x t):TyX K H' x t:=by
 cases ty with
 |exc q qd c=>exact .exc (s _ _ rfl q) (sx _ _ qd) c
 |of ty=>
  refine .of ?_
  cases ty with
  |non=>exact .non
  |bl b=>exact .bl b
  |int i=>exact .int i
  |str z=>exact .str z
  |flt z=>exact .flt z
  |lst e=>exact .lst (s _ _ rfl e)
  |frz e=>exact .frz (s _ _ rfl e)
  |tup e=>exact .tup (s _ _ rfl e)
  |dK e=>exact .dK (s _ _ rfl e)
  |dT e=>exact .dT (s _ _ rfl e)
  |ins e a b c d f=>exact .ins (s _ _ rfl e) a b c d f
theorem Tm.same {K:PySem.W.Frag} {H H':Hp} {x:V} (s:Same H H') (h:Tm K H x):Tm K H' x:=by
 rcases h with h|⟨t,ty,e⟩
 ·exact .inl h
 ·exact .inr ⟨t,ty.same (fun b o _ q=>s b o q) (fun b fs q=>s b _ q),e⟩
theorem Yy {K:PySem.W.Frag} {q:Addr} {xs:List V} {g:TG} {tb:TS} {D:Ends} {σ:St} {H:Hp} (Pv:Nat→St→Hp→Prop) (h0:Pv 0 σ H) (hl:(∀i σ H,i≤xs.length→Pv i σ H→SqL K H q xs)∨(∀i σ H,i≤xs.length→Pv i σ H→SqT K H q xs))
  (hs:∀i x σ H,xs[i]?=some x→Pv i σ H→g x σ H fun σ2 H2=>tb {D with nx:=Pv (i+1),ct:=Pv (i+1),bk:=D.nx} σ2 H2) (hd:∀σ H,Pv xs.length σ H→D.nx σ H):
  ((∃xs,SqL K H q xs)∧∃W:Nat→Nat→St→Hp→Prop,(∃m,W 0 m σ H)∧∀i m σ H,W i m σ H→
   ((Itl K q).stop i H∧D.nx σ H)∨((Itl K q).go i H∧∃N:St→Hp→Prop,(∀σ' H',N σ' H'→∃m',m' < m∧W (i+1) m' σ' H')∧∀x H',(Itl K q).yld i H x H'→g x σ H' fun σ2 H2=>tb {D with nx:=N,ct:=N,bk:=D.nx} σ2 H2))∨
  ((∃xs,SqT K H q xs)∧∃W:Nat→Nat→St→Hp→Prop,(∃m,W 0 m σ H)∧∀i m σ H,W i m σ H→
   ((Itt K q).stop i H∧D.nx σ H)∨((Itt K q).go i H∧∃N:St→Hp→Prop,(∀σ' H',N σ' H'→∃m',m' < m∧W (i+1) m' σ' H')∧∀x H',(Itt K q).yld i H x H'→g x σ H' fun σ2 H2=>tb {D with nx:=N,ct:=N,bk:=D.nx} σ2 H2)):=by
 rcases hl with hl|hl
 ·exact .inl ⟨⟨xs,hl 0 σ H (Nat.zero_le _) h0⟩,Jma Pv h0 hl hs hd⟩
 ·exact .inr ⟨⟨xs,hl 0 σ H (Nat.zero_le _) h0⟩,Yz Pv h0 hl hs hd⟩
theorem Jml {K:PySem.W.Frag} {R:L2.St→XK} {C W fI:Addr} {f:Str} {i:Nat} {y:V} {σ:L2.St} {H:Hp} {D:Ends} (c:XCls K C W fI) (n:NoAttr K C f) (hi:σ[i]?=some (some y))
  (k:∀e dx,H e=none→H dx=none→dx≠e→R σ (.ref C) (some e) (upd (upd (upd H dx (XD dx [(f,y)])) e (XO e C (some dx) true)) e (XO e C (some dx) false))):Jzr K R (tExc C (Jm5 K f) (Jka (tVar i) Jw4)) D σ H:=by
 refine ⟨y,hi,?_⟩
 exact Jxb (Q:=fun v H1=>∃e C W fI dx,v= .ref e∧H1 e=some (XO e C (some dx) true)∧XCls K C W fI∧R σ (.ref C) (some e) (upd H1 e (XO e C (some dx) false))) c n fun e dx h1 h2 h3=>⟨e,C,W,fI,dx,rfl,Ji1,c,k e dx h1 h2 h3⟩
theorem iteD {c A B:Prop} [Decidable c] (hc:c) (h:A):if decide c=true then A else B:=by
 rw [decide_eq_true hc]
 exact Jk0 h
theorem Jxf {c A B:Prop} [Decidable c] (hc:¬c) (h:B):if decide c=true then A else B:=by
 rw [decide_eq_false hc]
 exact Jj0 h
def Jjl:Expr→Bool
 | .Starred _ _=>true
 |_=>false
theorem Jy1 (e:Expr) (es:List Expr) (env:Env) (h:Jjl e=false):starEach (e::es) env=(false,eval e env)::starEach es env:=by
 cases e <;> first|rfl|cases h
theorem Jmi {X:Cx} {e:Expr} {es:List Expr} {te:TE} {t:TA} (ha:PE X e te) (hr:PA X es t) (hs:Jjl e=false:=by rfl):PA X (e::es) (Jka te t):=Ji0 ha hr (Jy1 e es X.env hs)
theorem pa4 {X:Cx} {e0:Expr} {t0:TE} {e1:Expr} {t1:TE} {e2:Expr} {t2:TE} {e3:Expr} {t3:TE} (h0:PE X e0 t0) (h1:PE X e1 t1) (h2:PE X e2 t2) (h3:PE X e3 t3) (s0:Jjl e0=false:=by rfl) (s1:Jjl e1=false:=by rfl) (s2:Jjl e2=false:=by rfl) (s3:Jjl e3=false:=by rfl):PA X [e0,e1,e2,e3] (Jka t0 (Jka t1 (Jka t2 (Jka t3 (Jw4))))):=Jmi h0 (Jmi h1 (Jmi h2 (Jmi h3 (Ji2) s3) s2) s1) s0
theorem pa6 {X:Cx} {e0:Expr} {t0:TE} {e1:Expr} {t1:TE} {e2:Expr} {t2:TE} {e3:Expr} {t3:TE} {e4:Expr} {t4:TE} {e5:Expr} {t5:TE} (h0:PE X e0 t0) (h1:PE X e1 t1) (h2:PE X e2 t2) (h3:PE X e3 t3) (h4:PE X e4 t4) (h5:PE X e5 t5) (s0:Jjl e0=false:=by rfl) (s1:Jjl e1=false:=by rfl) (s2:Jjl e2=false:=by rfl) (s3:Jjl e3=false:=by rfl) (s4:Jjl e4=false:=by rfl) (s5:Jjl e5=false:=by rfl):PA X [e0,e1,e2,e3,e4,e5] (Jka t0 (Jka t1 (Jka t2 (Jka t3 (Jka t4 (Jka t5 (Jw4))))))):=Jmi h0 (Jmi h1 (Jmi h2 (Jmi h3 (Jmi h4 (Jmi h5 (Ji2) s5) s4) s3) s2) s1) s0
theorem pa7 {X:Cx} {e0:Expr} {t0:TE} {e1:Expr} {t1:TE} {e2:Expr} {t2:TE} {e3:Expr} {t3:TE} {e4:Expr} {t4:TE} {e5:Expr} {t5:TE} {e6:Expr} {t6:TE} (h0:PE X e0 t0) (h1:PE X e1 t1) (h2:PE X e2 t2) (h3:PE X e3 t3) (h4:PE X e4 t4) (h5:PE X e5 t5) (h6:PE X e6 t6) (s0:Jjl e0=false:=by rfl) (s1:Jjl e1=false:=by rfl) (s2:Jjl e2=false:=by rfl) (s3:Jjl e3=false:=by rfl) (s4:Jjl e4=false:=by rfl) (s5:Jjl e5=false:=by rfl) (s6:Jjl e6=false:=by rfl):PA X [e0,e1,e2,e3,e4,e5,e6] (Jka t0 (Jka t1 (Jka t2 (Jka t3 (Jka t4 (Jka t5 (Jka t6 (Jw4)))))))):=Jmi h0 (Jmi h1 (Jmi h2 (Jmi h3 (Jmi h4 (Jmi h5 (Jmi h6 (Ji2) s6) s5) s4) s3) s2) s1) s0
end L2
namespace L2
open PySem PySem.Spec PyProof.Rows PySem.W
section
variable {X:Cx}
theorem Jlt {K:PySem.W.Frag} (h:X.K=K):IxR X (rIxL K):=by subst h;exact Jiq
theorem Joo {K:PySem.W.Frag} (h:X.K=K):Jk3 X (.builtin "isinstance") (rIsA K):=by subst h;exact Jkv
end
end L2
namespace L2
open PySem PySem.Spec PyProof.Rows PySem.W
section
variable {prog:Program} {w:World} {A:Around} {E:Value→Shared→Prop} {s:Shared}
end
section
variable {X:Cx} {pos:Pos}
end
end L2
namespace L2
open PySem PySem.Spec PyProof.Rows PySem.W
structure FnOkC (P:Program) (w:World) (K:PySem.W.Frag) (mg:Str→Option Value) (base:Heap) (k:Nat) (f:Addr) (fd:FuncData) (ps:List Str) (sp:Sp):Prop where
 len:∀vs H Q E,sp vs H Q E→vs.length=ps.length
 run:∀(e:Addr) (A:Around) (outer:List Env) (s:Shared) (H:Hp) (args:Args) (us:List Value) (vs:List V) (Q:VK) (E:XK),Room k A→Env0 P w K mg base A outer s H→BindsTo s fd args (ps.zip us)→Vals vs us→sp vs H Q E→
  codeAny (model P w) (A.mark (some (.ref e))) (.call (.ref f) args) (CR CX0 outer P w H s Q E) s
section
variable {P:Program} {w:World} {K:PySem.W.Frag} {mg:Str→Option Value} {base:Heap}
end
section
variable {X:Cx} {x:Str} {st:Stmt} {ps:List Str} {f:Addr} {fd:FuncData} {sp:Sp} {k j:Nat} {p pos:Pos} {e:Expr} {es:List Expr} {t:TA} {er:Addr}
end
end L2
namespace L2
open PySem PySem.Spec PyProof.Rows PySem.W
def stU (acc:List Str) (z:Str):List Str:=if acc.contains z=true then acc else acc++ [z]
def uq (zs:List Str):List Str:=zs.foldl stU []
def inU (zs:List Str):Key→Bool
 | .inl _=>false
 | .inr z=>(uq zs).contains z
theorem Jww (zs:List Str) (z:Str):uq (zs++ [z])=stU (uq zs) z:=by unfold uq;rw [List.foldl_append];rfl
theorem uq_len (zs:List Str):(uq zs).length≤zs.length:=by
 have h:∀(l acc:List Str),(l.foldl stU acc).length≤acc.length+l.length:=by
  intro l
  induction l with
  |nil=>intro acc;simp
  |cons z r ih=>
   intro acc
   rw [List.foldl_cons]
   have h1:=ih (stU acc z)
   have h2:(stU acc z).length≤acc.length+1:=by unfold stU;split <;> simp
   rw [List.length_cons]
   omega
 simpa [uq] using h zs []
theorem Juy {zs:List Str} (h:zs.Nodup):uq zs=zs:=by
 have g:∀(l acc:List Str),(acc++l).Nodup→l.foldl stU acc=acc++l:=by
  intro l
  induction l with
  |nil=>intro acc _;simp
  |cons z r ih=>
   intro acc hn
   rw [List.foldl_cons]
   have hz:acc.contains z=false:=by
    cases e:acc.contains z with
    |false=>rfl
    |true=>
     have hm:z∈acc:=List.contains_iff_mem.mp e
     exact absurd rfl ((List.nodup_append.mp hn).2.2 z hm z List.mem_cons_self)
   have e:stU acc z=acc++ [z]:=by unfold stU;rw [hz];rfl
   rw [e,ih (acc++ [z]) (by simpa using hn)]
   simp
 simpa [uq] using g zs [] (by simpa using h)
theorem Jz4 (zs:List Str) (z:Str) (k:Key):inU (zs++ [z]) k=(inU zs k||decide (k= .inr z)):=by
 cases k with
 |inl i=>simp [inU]
 |inr y=>
  show (uq (zs++ [z])).contains y=((uq zs).contains y||decide ((.inr y:Key)= .inr z))
  have e:decide ((.inr y:Key)= .inr z)=decide (y=z):=by
   by_cases h:y=z
   ·subst h;simp
   ·rw [decide_eq_false h,decide_eq_false (fun q=>h (Sum.inr.inj q))]
  rw [Jww,e]
  unfold stU
  split
  ·rename_i hc
   by_cases h:y=z
   ·subst h;rw [hc];simp
   ·simp [h]
  ·rw [Bool.eq_iff_iff]
   simp [List.contains_iff_mem]
theorem Yb6 (zs:List Str) (z:Str):(uq (zs++ [z])).length=if inU zs (.inr z)=true then (uq zs).length else (uq zs).length+1:=by
 rw [Jww]
 show (stU (uq zs) z).length=if (uq zs).contains z=true then _ else _
 unfold stU
 split <;> simp
section
variable {prog:Program} {w:World} {A:Around} {R:Result→Shared→Prop} {I:Addr} {fp wr:List Addr} {n:Nat} {P:Nat→Value→Prop} {St:Nat→Heap→Prop}
theorem Joc {h h':Heap} {a:Addr} {S T:Key→Bool} {m m':Nat} (hS:h.SetOf (Jif prog w) a S m) (k:∀o,h.get? a=some o→h'.get? a=some o) (e:∀x,S x=T x) (en:m=m'):h'.SetOf (Jif prog w) a T m':=by
 obtain rfl:S=T:=funext e
 subst en
 obtain ⟨o,es,ep,t,ho,rest⟩:=hS
 exact ⟨o,es,ep,t,k o ho,rest⟩
theorem Jw5 (W:Walks prog w A.in1 I fp wr n P St) (S:Addr) (hSf:S∉fp) (zs:List Str) (hn:zs.length=n) (hP:∀i v,P i v→∃z t,zs[i]?=some z∧v= .str z t) (hb:n+1 < scanBound):
  ∀(k i:Nat) (s:Shared),n - i=k→i≤n→St i s.heap→s.heap.SetOf (Jif prog w) S (inU (zs.take i)) (uq (zs.take i)).length→
   (∀h' tk,(∀b o,b≠S→b∉wr→s.heap.get? b=some o→h'.get? b=some o)→h'.SetOf (Jif prog w) S (inU zs) (uq zs).length→R (.ok (.ret .none)) {s with heap:=h',toks:=tk})→
   codeAny (model prog w) A (.builtin "set.update.loop" ⟨[.ref S,.ref I],[]⟩) R s:=by
 have hSw:S∉wr:=fun h=>hSf (W.sub _ h)
 intro k
 induction k with
 |zero=>
  intro i s hk hi hst hS hR
  obtain rfl:i=n:=by omega
  refine codeAny_builtin PyProof.Rows.F.entry_set_update_loop ?_
  rw [Around.under_plainId PyProof.Rows.F.plain_set_update_loop _]
  refine wpAny_bind (W.done s _ _ hst fun h' tk km=>?_)
  refine wpAny_pure (hR h' tk (fun b o _ nb e=>km b o nb e) (Joc hS (fun o e=>km S o hSw e) (fun x=>?_) ?_))
  ·rw [List.take_of_length_le (by omega)]
  ·rw [List.take_of_length_le (by omega)]
 |succ k ih=>
  intro i s hk hi hst hS hR
  have hlt:i < n:=by omega
  refine codeAny_builtin PyProof.Rows.F.entry_set_update_loop ?_
  rw [Around.under_plainId PyProof.Rows.F.plain_set_update_loop _]
  refine wpAny_bind (W.item i s _ _ hlt hst fun v h1 tk hv hst1 km=>?_)
  obtain ⟨z,t,hz,rfl⟩:=hP i v hv
  have et:zs.take (i+1)=zs.take i++ [z]:=by rw [List.take_add_one,hz];rfl
  have hS1:h1.SetOf (Jif prog w) S (inU (zs.take i)) (uq (zs.take i)).length:=Joc hS (fun o e=>km S o hSw e) (fun _=>rfl) rfl
  have room:(uq (zs.take i)).length+1 < scanBound:=by
   have h1:=uq_len (zs.take i)
   rw [List.length_take] at h1
   omega
  refine wpAny_bind (wpAny_holding ?_)
  unfold setAdd
  refine wpAny_holding (wpAny_bind ((Jif prog w).pyHash (k:=.inr z) (Jme _ _ _ _) ?_))
  refine wpAny_setAddHashed_of (knd:=Jif prog w) (k:=.inr z) (Jme _ _ _ _) rfl hS1 room fun h2 sb hS2=>?_
  refine wpAny_pure ⟨plainId_quiet PyProof.Rows.F.plain_set_update_loop _,ih (i+1) _ (by omega) hlt (W.frame _ _ _ hst1 fun b hbf o e=>?_) (Joc hS2 (fun o e=>e) (fun x=>?_) ?_) fun h3 tk3 k3 hS3=>?_⟩
  ·show h2.get? b=some o
   rw [sb.2 b (fun q=>hSf (by rw [←q];exact hbf))]
   exact e
  ·rw [et,Jz4]
  ·rw [et,Yb6]
  ·exact hR h3 tk3 (fun b o nS nw e=>k3 b o nS nw (by show h2.get? b=some o;rw [sb.2 b nS];exact km b o nw e)) hS3
end
section
variable {prog:Program} {w:World} {A:Around} {E:Value→Shared→Prop} {s:Shared}
set_option maxRecDepth 100000 in
set_option maxHeartbeats 3200000 in
theorem Jxy {l:Addr} {items:Array Value} {zs:List Str} {Q:Value→Shared→Prop} (hh:A.handled=none) (hl:s.heap.IsList l items) (hz:zs.length=items.size) (hi:∀(i:Nat) (v:Value),items[i]?=some v→∃z t,zs[i]?=some z∧v= .str z t) (hb:items.size+1 < scanBound)
  (h:∀(h':Heap) (tk:Nat),h'.SetOf (Jif prog w) s.heap.objs.size (inU zs) (uq zs).length→(∀b o,s.heap.get? b=some o→h'.get? b=some o)→Q (.ref s.heap.objs.size) {s with heap:=h',toks:=tk}):wpAny (model prog w) A (call (.type "set") [.ref l]) Q E s:=by
 obtain ⟨cc,tl,hmro⟩:=F.called_set.mro
 have hmade:=F.called_set.made
 have hsub:=F.called_set.sub
 refine wpAny_call (codeAny_of_tree ?_)
 show wpAny _ _ (callAny (.type "set") _) _ _ _
 refine wpAny_pure ⟨Code.quiet_builtin _ (by decide +kernel),codeAny_builtin F.entry_type_call ?_⟩
 rw [Around.under_plain (weight_type_call_type "set" [.ref l] []) rfl]
 have g1:=F.called_set.notType
 have g2:=F.called_set.canCreate
 have g3:=F.typeCall_set_1 (.ref l)
 repeat (any_goals (first|assumption|wp_step))
 refine codeAny_mono (code_set_new_1 (.ref l) (E:=E) (Q₁:=fun obj s1=>∃led:Bool,obj= .ref s.heap.objs.size∧s1={s with heap:=s.heap.push {cls:=.type "set",dict:=none,data:=.set #[] 0 (.fresh 0 0 led)}}) fun led=>⟨led,rfl,rfl⟩) fun r s1 hr=>?_
 cases r with
 |error e=>exact hr
 |ok fl=>
  cases fl with
  |ret obj=>
   obtain ⟨led,rfl,rfl⟩:=hr
   have hS:(s.heap.push {cls:=.type "set",dict:=none,data:=.set #[] 0 (.fresh 0 0 led)}).get? s.heap.objs.size=some {cls:=.type "set",dict:=none,data:=.set #[] 0 (.fresh 0 0 led)}:=Heap.get?_push_size _ rfl
   have hT:Shared.TypeIs {s with heap:=s.heap.push {cls:=.type "set",dict:=none,data:=.set #[] 0 (.fresh 0 0 led)}} (.ref s.heap.objs.size) "set" :=⟨_,hS,rfl⟩
   have g4:=F.called_set.init.lookup
   have g5:=F.called_set.init.bind (.ref s.heap.objs.size)
   repeat (any_goals (first|assumption|wp_step))
   refine codeAny_mono (codeAny_call_builtin (R:=wants (fun r s2=>r= .none∧∃h' tk,s2={s with heap:=h',toks:=tk}∧h'.SetOf (Jif prog w) s.heap.objs.size (inU zs) (uq zs).length∧(∀b o,s.heap.get? b=some o→h'.get? b=some o)) E) F.called_set.init.plain F.entry_set_init (check_set_init_1 hT ?_)) fun r2 s2 hr2=>?_
   ·obtain ⟨⟨oc,od,oda,osl⟩,hol,hcl,nl,hdl⟩:=hl
    simp only at hcl hdl
    subst hcl hdl
    have hol':(s.heap.push {cls:=.type "set",dict:=none,data:=.set #[] 0 (.fresh 0 0 led)}).get? l=some {cls:=.type "list",dict:=od,data:=.seq items nl,slots:=osl}:=Heap.get?_push_of_some _ hol
    have g6:=F.sub_list_set
    have g7:=F.sub_list_frozenset
    have g8:(Value.type "list" ==Value.type "dict")=false:=by decide
    have hl1:(s.heap.push {cls:=.type "set",dict:=none,data:=.set #[] 0 (.fresh 0 0 led)}).IsList l items:=⟨_,hol',rfl,nl,rfl⟩
    unfold Builtin.«set.__init__» noKeywords Builtin.Frozenset.updateFrom
    generalize hPI:pyIter=PI
    wp_walk
    subst hPI
    refine wpAny_pyIter_list hl1 (wpAny_bind (wpAny_runValue ?_))
    have lS:l < s.heap.objs.size:=Heap.lt_size hol
    have h3:A.in1.in1.in1.handled=none:=by simp [hh]
    have nI:l≠(s.heap.push {cls:=.type "set",dict:=none,data:=.set #[] 0 (.fresh 0 0 led)}).objs.size:=by rw [Heap.size_push];exact Nat.ne_of_lt (Nat.lt_succ_of_lt lS)
    have nS:s.heap.objs.size∉ [(s.heap.push {cls:=.type "set",dict:=none,data:=.set #[] 0 (.fresh 0 0 led)}).objs.size,l]:=by
     rw [Heap.size_push]
     simp only [List.mem_cons,List.not_mem_nil,or_false,not_or]
     exact ⟨Nat.ne_of_lt (Nat.lt_succ_self _),Nat.ne_of_gt lS⟩
    refine Jw5 (Walks.list h3 _ l nI items) s.heap.objs.size nS zs hz hi hb (items.size - 0) 0 _ (by omega) (Nat.zero_le _) ⟨⟨_,Heap.get?_push_size _ rfl,rfl,rfl⟩,hl1.push _⟩ ?S0 ?R0
    case S0=>
     have q:((s.heap.push {cls:=.type "set",dict:=none,data:=.set #[] 0 (.fresh 0 0 led)}).push {cls:=.type "list_iterator",data:=.fields #[.ref l,.int 0 0]}).get? s.heap.objs.size=some {cls:=.type "set",dict:=none,data:=.set #[] 0 (.fresh 0 0 led)}:=Heap.get?_push_of_some _ hS
     refine ⟨_,#[],0,_,q,⟨rfl,rfl,rfl⟩,rfl,fun e he=>by simp at he,fun x=>?_,by decide,by rfl,rfl⟩
     cases x <;> simp [inU,uq]
    case R0=>
     intro h' tk km hS'
     show wpAny _ _ _ _ _ _
     refine wpAny_pure ?_
     show wpAny _ _ (ret Value.none) _ _ _
     refine wpAny_pure ⟨rfl,h',tk,rfl,hS',fun b o e=>?_⟩
     have lb:b < s.heap.objs.size:=Heap.lt_size e
     refine km b o (Nat.ne_of_lt lb) ?_ (Heap.get?_push_of_some _ (Heap.get?_push_of_some _ e))
     rw [Heap.size_push]
     simp only [List.mem_cons,List.not_mem_nil,or_false]
     exact Nat.ne_of_lt (Nat.lt_succ_of_lt lb)
   ·cases r2 with
    |error e=>exact hr2
    |ok fl2=>
     cases fl2 with
     |ret r=>
      obtain ⟨rfl,h',tk,rfl,hS',hk'⟩:=hr2
      repeat (any_goals (first|assumption|wp_step))
      exact h _ _ hS' hk'
     |_=>exact hr2.elim
  |_=>exact hr.elim
end
def TxS (P:Program) (w:World) (a:Addr) (zs:List Str):HO:=.ext fun h=>h.SetOf (Jif P w) a (inU zs) (uq zs).length
theorem txs_ok {P:Program} {w:World} {H:Hp} {h:Heap} {a:Addr} {zs:List Str} (hS:h.SetOf (Jif P w) a (inU zs) (uq zs).length):ObjOk P w H h a (TxS P w a zs):=
 ⟨hS,(let ⟨o,_,_,_,ho,_⟩:=hS;⟨o,ho⟩),fun _ _ p k=>Joc p k (fun _=>rfl) rfl⟩
section
variable {X:Cx}
theorem Jq1 (hc:X.calm=true):Jk3 X (.type "set") (fun xs H Q=>∃(l:Addr) (zs:List Str),xs= [.ref l]∧SqL X.K H l (zs.map V.str)∧zs.length≤2000∧∀a,H a=none→Q (.ref a) (upd H a (TxS X.prog X.w a zs))):=by
 intro pins s σ H xs us Q I r h
 obtain ⟨l,zs,rfl,hq,hz,q⟩:=h
 obtain ⟨u,rfl,ru⟩:=Jl2 r
 obtain rfl:u=Value.ref l:=ru
 obtain ⟨its,rv,pl,_⟩:=I.list hq
 have hlen:=rv.length
 rw [List.length_map] at hlen
 refine Jxy (zs:=zs) (I.ok.hd hc) pl.isList (by simpa using hlen) (fun i v hv=>?_) (by simp only [List.size_toArray];unfold scanBound;omega) fun h' tk hS kk=>⟨.ref s.heap.objs.size,_,I.laid (a:=s.heap.objs.size) (o:=TxS X.prog X.w s.heap.objs.size zs) (t':=tk) kk (Nat.le_refl _) (txs_ok hS),rfl,q _ (I.hok.fresh (Nat.le_refl _))⟩
 ·have hv':its[i]?=some v:=by simpa using hv
  have hlt:i < zs.length:=by have:=(List.getElem?_eq_some_iff.mp hv').1;omega
  obtain ⟨u,hu,ru⟩:=rv.get (i:=i) (x:=V.str zs[i]) (by rw [List.getElem?_map,List.getElem?_eq_getElem hlt];rfl)
  rw [hv'] at hu
  cases hu
  obtain ⟨t,rfl⟩:=ru
  exact ⟨zs[i],t,List.getElem?_eq_getElem hlt,rfl⟩
theorem Jq0:Jk3 X (.builtin "len") (fun xs H Q=>∃(a:Addr) (zs:List Str),xs= [.ref a]∧H a=some (TxS X.prog X.w a zs)∧Q (.int (uq zs).length) H):=by
 intro pins s σ H xs us Q I r h
 obtain ⟨a,zs,rfl,ha,q⟩:=h
 obtain ⟨u,rfl,ru⟩:=Jl2 r
 obtain rfl:u=Value.ref a:=ru
 obtain ⟨o,es,ep,t,ho,hex,hd,_,_,hb,hf,hn⟩:=(I.hok a _ ha).1
 refine call_len_set ho hex hd hf (by unfold scanBound at hb;omega) ?_
 rw [hn]
 exact ⟨.int _,H,I.tok _,⟨_,rfl⟩,q⟩
end
end L2
namespace L2
open PySem PySem.Spec PyProof.Rows PySem.W
theorem Jyg:bootBuiltins "set" =some (.type "set"):=by decide +kernel
theorem Jo1:bootBuiltins "enumerate" =some (.type "enumerate"):=by decide +kernel
section
variable {X:Cx}
end
end L2
namespace L2
open PySem PySem.Spec PyProof.Rows PySem.W
def ItE (K:PySem.W.Frag) (a:Addr):It:=⟨fun i H=>∃xs x,SqL K H a xs∧xs[i]?=some x,
 fun i H x H'=>∃T u,H T=none∧x= .ref T∧(∀xs,SqL K H a xs→xs[i]?=some u)∧H'=upd H T (.tup [.int i,u]),
 fun i H=>∃xs,SqL K H a xs∧i=xs.length⟩
def EnuSt (e it l:Addr) (i:Nat) (h:Heap):Prop:=(∃old,IsEnum h e it i old)∧h.IsListIter it l i
theorem EnuSt.obj {e it l:Addr} {i:Nat} {h:Heap} (st:EnuSt e it l i h):∀b∈ [e,it],∃o,h.get? b=some o∧∀v,o.data≠ .cell v:=fun b hb=>by
 obtain ⟨⟨old,h1⟩,⟨o4,h4,_,d4⟩⟩:=st
 simp only [List.mem_cons,List.not_mem_nil,or_false] at hb
 rcases hb with rfl|rfl
 ·exact ⟨_,h1,fun v z=>by cases z⟩
 ·exact ⟨o4,h4,fun v z=>by rw [d4] at z;cases z⟩
theorem Yj {P:Program} {w:World} {K:PySem.W.Frag} {elts:List Expr} {kt:Nat} {pt:Pos} (e it l:Addr) (n1:e≠it) (n2:l≠e) (n3:l≠it):
  Jpk P w K (.Tuple elts kt pt) (ItE K l) [e,it] e (EnuSt e it l) where
 mem:=by simp
 obj:=fun i h st=>st.obj
 keep:=fun i h h' st k=>by
  obtain ⟨⟨old,h1⟩,h2⟩:=st
  exact ⟨⟨old,k e (by simp) _ h1⟩,h2.at fun o q=>k it (by simp) o q⟩
 item:=by
  intro X hP hw hK hc i pins s σ H E I hf st hg
  subst hP hw hK
  obtain ⟨xs,x,q1,hx⟩:=hg
  obtain ⟨its,rv,p1,_⟩:=I.list q1
  obtain ⟨u,hu,ru⟩:=rv.get hx
  have W:=WalksT.enumerate (prog:=X.prog) (w:=X.w) (I.ok.hd hc) e it l n1 n2 n3 its.toArray
  obtain ⟨s1,s2⟩:=st
  have li:i < its.length:=(List.getElem?_eq_some_iff.mp hu).1
  refine W.item i s _ _ (by simp only [List.size_toArray];omega) ⟨s1,s2,p1.isList⟩ fun T vals h' tk hP fT tT mid kk=>?_
  refine ⟨_,rfl,W.go elts kt pt i T _ _ _ mid fun h'' st'' kk2=>?_⟩
  obtain ⟨t,a,ha,rfl⟩:=hP
  have ea:a=u:=by simpa [hu] using ha.symm
  subst ea
  obtain ⟨t1,t2,_⟩:=st''
  have kT:h''.IsTuple T #[.int i t,a]:=by
   obtain ⟨o,q,r⟩:=tT
   exact ⟨o,kk2 T o (W.apart i T h' mid) q,r⟩
  refine ⟨.ref T,upd H T (.tup [.int i,x]),I.turnTup (ch:=[e,it]) (t':=tk) hf (fun c o hc q=>kk2 c o hc (kk c o hc q)) fT ⟨(show 2≤sizeLine by decide),[.int i t,a],.cons ⟨t,rfl⟩ (.cons ru .nil),kT⟩,rfl,⟨T,x,I.hok.fresh fT,rfl,fun xs' hq=>by rw [I.list_inj hq q1];exact hx,rfl⟩,⟨t1,t2⟩,fun c hc=>?_⟩
  have hcn:=(hf c hc).1
  rw [Ji7 (fun w'=>?_)]
  ·exact hcn
  ·subst w'
   obtain ⟨o,q,_⟩:=EnuSt.obj (show EnuSt e it l i s.heap from ⟨s1,s2⟩) c hc
   exact absurd (Heap.lt_size q) (Nat.not_lt.mpr fT)
 done:=by
  intro X hP hw hK hc i pins s σ H E I hf st hg
  subst hP hw hK
  obtain ⟨xs,q1,hi⟩:=hg
  obtain ⟨its,rv,p1,_⟩:=I.list q1
  have W:=WalksT.enumerate (prog:=X.prog) (w:=X.w) (I.ok.hd hc) e it l n1 n2 n3 its.toArray
  obtain ⟨s1,s2⟩:=st
  have e1:=rv.length
  have ei:i=its.toArray.size:=by simp only [List.size_toArray];omega
  subst ei
  refine W.done s _ _ ⟨s1,s2,p1.isList⟩ fun h' tk kk=>⟨rfl,?_⟩
  exact I.turnMany (ch:=[e,it]) hf fun c o hc q=>kk c o hc q
 self:=fun _ _ _ _ _ st h=>let ⟨_,q⟩:=st.1;wpAny_pyIter_enum q h
def iEnu (K:PySem.W.Frag) (ta:TA):TI:=fun σ H R=>ta σ H fun vs H1=>∃a,vs= [.ref a]∧(∃xs,SqL K H1 a xs)∧R (ItE K a) H1
theorem Yae {X:Cx} {elts:List Expr} {kt:Nat} {pt:Pos} {a:Expr} {ta:TA} {p pos:Pos} (hg:Gl X "enumerate") (hm:X.mg "enumerate" =none) (ha:PA X [a] ta) (hs:starEach [a] X.env= [(false,eval a X.env)]:=by rfl):
  PI X (.Tuple elts kt pt) (.Call (.Name "enumerate" p) [a] [] pos) (iEnu X.K ta):=by
 intro pins s σ H R I h
 refine Call_ (Jmc I hg hm Jo1 (PyProof.Rows.callWith_type1 (thn (ha pos pins s σ H _ I h) fun us s1 ⟨vs,H1,I1,r1,q1⟩=>?_) (by rw [hs];rfl) rfl))
 obtain ⟨l,rfl,⟨xs,q1⟩,q⟩:=q1
 obtain ⟨u,rfl,r2⟩:=Jl2 r1
 obtain rfl:u=Value.ref l:=r2
 obtain ⟨its,rv,p1,_⟩:=I1.list q1
 have a1:l < s1.heap.objs.size:=by obtain ⟨o,n,e,_⟩:=p1;exact Heap.lt_size e
 refine call_enumerate_list p1.isList fun h' z1 z2 z3 kk=>?_
 have I2:Inv X pins σ H1 {s1 with heap:=h'}:=I1.kept (t':=s1.toks) kk
 refine wpAny_pyIter_enum z1 ⟨_,_,_,_,H1,rfl,I2,Yj (s1.heap.objs.size+1) s1.heap.objs.size l (Nat.succ_ne_self _) (Nat.ne_of_lt (Nat.lt_succ_of_lt a1)) (Nat.ne_of_lt a1),⟨⟨_,z1⟩,z2⟩,fun c hc=>?_,q⟩
 have hc':s1.heap.objs.size≤c:=by
  simp only [List.mem_cons,List.not_mem_nil,or_false] at hc
  rcases hc with rfl|rfl
  ·exact Nat.le_succ _
  ·exact Nat.le_refl _
 exact I1.fpOk hc' (I1.hok.fresh hc')
end L2
namespace L2
open PySem PySem.Spec PyProof.Rows PySem.W
section
variable {prog:Program} {w:World} {A:Around} {E:Value→Shared→Prop} {s:Shared}
theorem Jtm {it t:Addr} {i:Nat} {items:Array Value} {x:Value} {Q:Value→Shared→Prop} (hit:s.heap.IsTupleIter it t i) (ht:s.heap.IsTuple t items) (hx:items[i]?=some x)
  (hQ:∀h',h'.IsTupleIter it t (i+1)→Heap.SameBut it s.heap h'→Q x {s with heap:=h'}):wpAny (model prog w) A (Builtin.SmallTypes.nextOf (.ref it)) Q E s:=by
 obtain ⟨o,ho,hc,hd⟩:=id hit
 obtain ⟨ol,hol,_,nl,hdl⟩:=ht
 have hT:s.TypeIs (.ref it) "tuple_iterator" :=⟨o,ho,hc⟩
 unfold Builtin.SmallTypes.nextOf
 refine wpAny_bind (wpAny_callSpecial?_slot (name:=Str.ofString "__next__") hT slot_tupleiter_next (wpAny_call_entry slot_tupleiter_next hT entry_tupleiter_next ?_ (args_tupleiter_next _)))
 refine wpAny_bind (m:=field (.ref it) 0) (wpAny_field ho hd (x:=.ref t) rfl ?_)
 show wpAny _ _ (if (Value.ref t==Value.none)=true then _ else _) _ _ s
 rw [if_neg (show ¬((Value.ref t==Value.none)=true) from Bool.false_ne_true)]
 refine wpAny_bind (m:=field (.ref it) 1) (wpAny_field ho hd (x:=.int i 0) rfl ?_)
 refine wpAny_bind (m:=seqItems? (.ref t)) (wpAny_seqItems hol hdl ?_)
 simp only [Int.toNat_natCast,hx]
 refine wpAny_bind (wpAny_setField ho hd (by simp) (wpAny_pure ⟨x,rfl,wpAny_pure (hQ _ ⟨_,Heap.get?_update_self _ ho (Obj.isFreed_of_fields (Obj.data_mapFields hd _)),(Obj.cls_mapFields ..).trans hc,?_⟩ (Heap.SameBut.update ..))⟩))
 rw [Obj.data_mapFields hd]
 simp [rawInt]
theorem Juv {it t:Addr} {i:Nat} {items:Array Value} {Q:Value→Shared→Prop} (hh:A.handled=none) (hit:s.heap.IsTupleIter it t i) (ht:s.heap.IsTuple t items) (hx:items[i]?=none)
  (hE:∀h' e,Heap.ExtBut it s.heap h'→(∃o,h'.get? e=some o∧o.cls= .type "StopIteration")→E (.ref e) {s with heap:=h'}):wpAny (model prog w) A (Builtin.SmallTypes.nextOf (.ref it)) Q E s:=by
 obtain ⟨o,ho,hc,hd⟩:=id hit
 obtain ⟨ol,hol,_,nl,hdl⟩:=ht
 have hT:s.TypeIs (.ref it) "tuple_iterator" :=⟨o,ho,hc⟩
 unfold Builtin.SmallTypes.nextOf
 refine wpAny_bind (wpAny_callSpecial?_slot (name:=Str.ofString "__next__") hT slot_tupleiter_next (wpAny_call_entry slot_tupleiter_next hT entry_tupleiter_next ?_ (args_tupleiter_next _)))
 refine wpAny_bind (m:=field (.ref it) 0) (wpAny_field ho hd (x:=.ref t) rfl ?_)
 show wpAny _ _ (if (Value.ref t==Value.none)=true then _ else _) _ _ s
 rw [if_neg (show ¬((Value.ref t==Value.none)=true) from Bool.false_ne_true)]
 refine wpAny_bind (m:=field (.ref it) 1) (wpAny_field ho hd (x:=.int i 0) rfl ?_)
 refine wpAny_bind (m:=seqItems? (.ref t)) (wpAny_seqItems hol hdl ?_)
 simp only [Int.toNat_natCast,hx]
 refine wpAny_bind (wpAny_rule (wpAny_bind (wpAny_setField ho hd (by simp) ?_)))
 refine wpAny_bind (m:=newExc (.type "StopIteration") []) ?_
 simp only [newExc,newTuple]
 refine wpAny_bind (wpAny_newObj_type (wpAny_bind (m:=firstArgMember _ _) (wpAny_of_eq (a:=Value.none) (by first|rfl|(simp only [firstArgMember];rfl)) (wpAny_newObj_type ?_ (by size_fits)))) (by size_fits))
 simp only [raiseNew]
 refine wpAny_bind (wpAny_handled ?_)
 first|rw [show A.in1.handled=none from hh]|rw [hh]
 exact wpAny_bind (wpAny_pure (wpAny_throw (hE _ _ (((Heap.SameBut.update ..).extBut.push _).push _) ⟨_,Heap.get?_push_size _ rfl,rfl⟩)))
end
theorem Jop {prog:Program} {w:World} {A:Around} (hh:A.handled=none) (it l:Addr) (hne:l≠it) (items:Array Value):
  Draws prog w A it [it,l] items.size (fun i v=>items[i]?=some v) (fun i h=>h.IsTupleIter it l i∧h.IsTuple l items) where
 live:=fun _ _ st=>let ⟨o,ho,_⟩:=st.1;⟨o,ho⟩
 frame:=fun _ _ _ st hk=>⟨st.1.at fun o e=>hk it (by simp) o e,st.2.at fun o e=>hk l (by simp) o e⟩
 item:=fun i s Q E hi st hQ=>Jtm st.1 st.2 (x:=items[i]) (by simp [hi]) fun h' hit' hs'=>hQ _ h' s.toks (by simp [hi]) ⟨hit',st.2.extBut hs'.extBut hne⟩ hs'
 done:=fun s Q E st hE=>Juv hh st.1 st.2 (by simp) hE
end L2
namespace L2
open PySem PySem.Spec PyProof.Rows PySem.W
set_option maxRecDepth 100000 in
set_option maxHeartbeats 2000000 in
theorem Jyt (l:Addr) (items:Array Value) (n:Nat) (dct:Option Addr) (sl:Array (Option Value)):
  Meets (Builtin.«enumerate.__new__» ⟨[.type "enumerate",.ref l],[]⟩) (fun _ R s=>s.heap.get? l=some {cls:=.type "tuple",dict:=dct,data:=.seq items n,slots:=sl}∧
   R (.ok (.ret (.ref (s.heap.push {cls:=.type "tuple_iterator",data:=.fields #[.ref l,.int 0 0]}).objs.size)))
    {s with heap:=(s.heap.push {cls:=.type "tuple_iterator",data:=.fields #[.ref l,.int 0 0]}).push {cls:=.type "enumerate",data:=.fields #[.none,.bool false,.ref s.heap.objs.size,rawInt 0,.none,.none]}}):=
 .of_wp fun prog w A R s h=>by
  obtain ⟨hp,g,d,tk,os⟩:=s
  obtain ⟨hl,h⟩:=h
  have e1:=sub_enumerate
  have e2:Heap.IsTuple (Shared.heap ⟨hp,g,d,tk,os⟩) l items:=⟨_,hl,rfl,n,rfl⟩
  wp_walk using AutoSeq1.wpAny_loadPart' hl
  refine wpAny_stack_any fun st=>wpAny_pure ?_
  split
  ·rename_i c _ _ _ _ _
   cases (c==Value.type "enumerate")
   ·wp_walk using AutoSeq1.wpAny_loadPart' hl,wpAny_pyIter_tuple e2
    exact ⟨_,rfl,h⟩
   ·wp_walk using AutoSeq1.wpAny_loadPart' hl,wpAny_pyIter_tuple e2
    exact ⟨_,rfl,h⟩
  ·wp_walk using AutoSeq1.wpAny_loadPart' hl,wpAny_pyIter_tuple e2
   exact ⟨_,rfl,h⟩
section
variable {prog:Program} {w:World} {A:Around} {E:Value→Shared→Prop} {s:Shared}
theorem Jx1 {l:Addr} {items:Array Value} {Q:Value→Shared→Prop} (hL:s.heap.IsTuple l items)
  (h:∀h',IsEnum h' (s.heap.objs.size+1) s.heap.objs.size 0 .none→h'.IsTupleIter s.heap.objs.size l 0→(∀b o,s.heap.get? b=some o→h'.get? b=some o)→Q (.ref (s.heap.objs.size+1)) {s with heap:=h'}):
  wpAny (model prog w) A (call (.type "enumerate") [.ref l]) Q E s:=by
 obtain ⟨⟨c,dct,dt,sl⟩,hl,hc,n,hd⟩:=hL
 replace hc:c= .type "tuple" :=hc
 replace hd:dt= .seq items n:=hd
 subst hc hd
 refine callType_new F.called_enumerate (by decide) (F.typeCall_enumerate_1 _) (F.newCall_enumerate_1 _) (fun obj=>F.args_object_init_2 obj _) F.entry_enumerate_new (Jyt l items n dct sl) ⟨hl,?_⟩
 have hz:(s.heap.push {cls:=.type "tuple_iterator",data:=.fields #[.ref l,.int 0 0]}).objs.size=s.heap.objs.size+1:=Heap.size_push ..
 show _∧_
 rw [hz]
 have he:IsEnum ((s.heap.push {cls:=.type "tuple_iterator",data:=.fields #[.ref l,.int 0 0]}).push {cls:=.type "enumerate",data:=.fields #[.none,.bool false,.ref s.heap.objs.size,rawInt 0,.none,.none]}) (s.heap.objs.size+1) s.heap.objs.size 0 .none:=by
  have q:=Heap.get?_push_size (s.heap.push {cls:=.type "tuple_iterator",data:=.fields #[.ref l,.int 0 0]}) (o:={cls:=.type "enumerate",data:=.fields #[.none,.bool false,.ref s.heap.objs.size,rawInt 0,.none,.none]}) rfl
  rw [hz] at q
  exact q
 exact ⟨⟨_,he,rfl⟩,h _ he ⟨_,Heap.get?_push_of_some _ (Heap.get?_push_size _ rfl),rfl,rfl⟩ fun b o x=>Heap.get?_push_of_some _ (Heap.get?_push_of_some _ x)⟩
end
def ItU (K:PySem.W.Frag) (a:Addr):It:=⟨fun i H=>∃xs x,SqT K H a xs∧xs[i]?=some x,
 fun i H x H'=>∃T u,H T=none∧x= .ref T∧(∀xs,SqT K H a xs→xs[i]?=some u)∧H'=upd H T (.tup [.int i,u]),
 fun i H=>∃xs,SqT K H a xs∧i=xs.length⟩
def EnuTt (e it l:Addr) (i:Nat) (h:Heap):Prop:=(∃old,IsEnum h e it i old)∧h.IsTupleIter it l i
theorem EnuTt.obj {e it l:Addr} {i:Nat} {h:Heap} (st:EnuTt e it l i h):∀b∈ [e,it],∃o,h.get? b=some o∧∀v,o.data≠ .cell v:=fun b hb=>by
 obtain ⟨⟨old,h1⟩,⟨o4,h4,_,d4⟩⟩:=st
 simp only [List.mem_cons,List.not_mem_nil,or_false] at hb
 rcases hb with rfl|rfl
 ·exact ⟨_,h1,fun v z=>by cases z⟩
 ·exact ⟨o4,h4,fun v z=>by rw [d4] at z;cases z⟩
theorem Jy4 {P:Program} {w:World} {K:PySem.W.Frag} {elts:List Expr} {kt:Nat} {pt:Pos} (e it l:Addr) (n1:e≠it) (n2:l≠e) (n3:l≠it):
  Jpk P w K (.Tuple elts kt pt) (ItU K l) [e,it] e (EnuTt e it l) where
 mem:=by simp
 obj:=fun i h st=>st.obj
 keep:=fun i h h' st k=>by
  obtain ⟨⟨old,h1⟩,h2⟩:=st
  exact ⟨⟨old,k e (by simp) _ h1⟩,h2.at fun o q=>k it (by simp) o q⟩
 item:=by
  intro X hP hw hK hc i pins s σ H E I hf st hg
  subst hP hw hK
  obtain ⟨xs,x,q1,hx⟩:=hg
  obtain ⟨its,rv,p1,_⟩:=I.tuple q1
  obtain ⟨u,hu,ru⟩:=rv.get hx
  have hh:X.A.in1.handled=none:=I.ok.hd hc
  have W:=WalksT.enumerateD (prog:=X.prog) (w:=X.w) (A:=X.A) (Jop hh it l n3 its.toArray) e n1 (by simp [n1,Ne.symm n2]) (by simp)
  obtain ⟨s1,s2⟩:=st
  have li:i < its.length:=(List.getElem?_eq_some_iff.mp hu).1
  refine W.item i s _ _ (by simp only [List.size_toArray];omega) ⟨s1,s2,p1⟩ fun T vals h' tk hP fT tT mid kk=>?_
  refine ⟨_,rfl,W.go elts kt pt i T _ _ _ mid fun h'' st'' kk2=>?_⟩
  obtain ⟨t,a,ha,rfl⟩:=hP
  have ea:a=u:=by simpa [hu] using ha.symm
  subst ea
  obtain ⟨t1,t2,_⟩:=st''
  have kT:h''.IsTuple T #[.int i t,a]:=by
   obtain ⟨o,q,r⟩:=tT
   exact ⟨o,kk2 T o (W.apart i T h' mid) q,r⟩
  refine ⟨.ref T,upd H T (.tup [.int i,x]),I.turnTup (ch:=[e,it]) (t':=tk) hf (fun c o hc q=>kk2 c o hc (kk c o hc q)) fT ⟨(show 2≤sizeLine by decide),[.int i t,a],.cons ⟨t,rfl⟩ (.cons ru .nil),kT⟩,rfl,⟨T,x,I.hok.fresh fT,rfl,fun xs' hq=>by rw [I.tuple_inj hq q1];exact hx,rfl⟩,⟨t1,t2⟩,fun c hc=>?_⟩
  have hcn:=(hf c hc).1
  rw [Ji7 (fun w'=>?_)]
  ·exact hcn
  ·subst w'
   obtain ⟨o,q,_⟩:=EnuTt.obj (show EnuTt e it l i s.heap from ⟨s1,s2⟩) c hc
   exact absurd (Heap.lt_size q) (Nat.not_lt.mpr fT)
 done:=by
  intro X hP hw hK hc i pins s σ H E I hf st hg
  subst hP hw hK
  obtain ⟨xs,q1,hi⟩:=hg
  obtain ⟨its,rv,p1,_⟩:=I.tuple q1
  have hh:X.A.in1.handled=none:=I.ok.hd hc
  have W:=WalksT.enumerateD (prog:=X.prog) (w:=X.w) (A:=X.A) (Jop hh it l n3 its.toArray) e n1 (by simp [n1,Ne.symm n2]) (by simp)
  obtain ⟨s1,s2⟩:=st
  have e1:=rv.length
  have ei:i=its.toArray.size:=by simp only [List.size_toArray];omega
  subst ei
  refine W.done s _ _ ⟨s1,s2,p1⟩ fun h' tk kk=>⟨rfl,?_⟩
  exact I.turnMany (ch:=[e,it]) hf fun c o hc q=>kk c o hc q
 self:=fun _ _ _ _ _ st h=>let ⟨_,q⟩:=st.1;wpAny_pyIter_enum q h
def iEnuT (K:PySem.W.Frag) (ta:TA):TI:=fun σ H R=>ta σ H fun vs H1=>∃a,vs= [.ref a]∧(∃xs,SqT K H1 a xs)∧R (ItU K a) H1
theorem Juf {X:Cx} {elts:List Expr} {kt:Nat} {pt:Pos} {a:Expr} {ta:TA} {p pos:Pos} (hg:Gl X "enumerate") (hm:X.mg "enumerate" =none) (ha:PA X [a] ta) (hs:starEach [a] X.env= [(false,eval a X.env)]:=by rfl):
  PI X (.Tuple elts kt pt) (.Call (.Name "enumerate" p) [a] [] pos) (iEnuT X.K ta):=by
 intro pins s σ H R I h
 refine Call_ (Jmc I hg hm Jo1 (PyProof.Rows.callWith_type1 (thn (ha pos pins s σ H _ I h) fun us s1 ⟨vs,H1,I1,r1,q1⟩=>?_) (by rw [hs];rfl) rfl))
 obtain ⟨l,rfl,⟨xs,q1⟩,q⟩:=q1
 obtain ⟨u,rfl,r2⟩:=Jl2 r1
 obtain rfl:u=Value.ref l:=r2
 obtain ⟨its,rv,p1,_⟩:=I1.tuple q1
 have a1:l < s1.heap.objs.size:=by obtain ⟨o,e,_⟩:=p1;exact Heap.lt_size e
 refine Jx1 (show s1.heap.IsTuple l its.toArray from p1) fun h' z1 z2 kk=>?_
 have I2:Inv X pins σ H1 {s1 with heap:=h'}:=I1.kept (t':=s1.toks) kk
 refine wpAny_pyIter_enum z1 ⟨_,_,_,_,H1,rfl,I2,Jy4 (s1.heap.objs.size+1) s1.heap.objs.size l (Nat.succ_ne_self _) (Nat.ne_of_lt (Nat.lt_succ_of_lt a1)) (Nat.ne_of_lt a1),⟨⟨_,z1⟩,z2⟩,fun c hc=>?_,q⟩
 have hc':s1.heap.objs.size≤c:=by
  simp only [List.mem_cons,List.not_mem_nil,or_false] at hc
  rcases hc with rfl|rfl
  ·exact Nat.le_succ _
  ·exact Nat.le_refl _
 exact I1.fpOk hc' (I1.hok.fresh hc')
end L2
namespace L2
open PySem PySem.Spec PyProof.Rows PySem.W
abbrev Jk4 (h:Heap) (T:Addr) (a b c:Value):Prop:=h.get? T=some {cls:=.type "tuple",data:=.seq #[a,b,c]}
abbrev DrA (prog:Program) (w:World) (i l:Addr) (n:Nat) (P:Nat→Value→Prop) (St:Nat→Heap→Prop):Prop:=∀A:Around,A.handled=none→Draws prog w A i [i,l] n P St
structure Z3 (z TI TO i1 i2 i3 l1 l2 l3:Addr):Prop where
 nd: [z,TI,TO,i1,i2,i3].Nodup
 m1:l1∉ [z,TI,TO,i1,i2,i3]
 m2:l2∉ [z,TI,TO,i1,i2,i3]
 m3:l3∉ [z,TI,TO,i1,i2,i3]
section
variable {prog:Program} {w:World} {A:Around} {E:Value→Shared→Prop} {s:Shared}
theorem Jw8 {T:Addr} {a b c x:Value} {k:Nat} {Q:Unit→Shared→Prop} (hT:Jk4 s.heap T a b c)
  (h:∀h',h'.get? T=some {cls:=.type "tuple",data:=.seq ((#[a,b,c]:Array Value).setIfInBounds k x)}→Heap.SameBut T s.heap h'→Q () {s with heap:=h'}):wpAny (model prog w) A (updateSeq T (·.setIfInBounds k x)) Q E s:=by
 refine wpAny_updateSeq hT rfl (h _ ?_ (Heap.SameBut.update ..))
 rw [Heap.get?_update_self _ hT rfl]
 simp [Obj.mapSeq]
variable {z TI TO i1 i2 i3 l1 l2 l3:Addr} {n k:Nat} {P1 P2 P3:Nat→Value→Prop} {S1 S2 S3:Nat→Heap→Prop} {a b c:Value}
theorem Ybb {Q:Value→Shared→Prop} (Z:Z3 z TI TO i1 i2 i3 l1 l2 l3) (hz:IsZip s.heap z TI TO .none) (hTI:Jk4 s.heap TI (.ref i1) (.ref i2) (.ref i3)) (hTO:Jk4 s.heap TO a b c)
  (hh:A.handled=none) (D1:DrA prog w i1 l1 n P1 S1) (D2:DrA prog w i2 l2 n P2 S2) (D3:DrA prog w i3 l3 n P3 S3) (hk:k < n) (t1:S1 k s.heap) (t2:S2 k s.heap) (t3:S3 k s.heap)
  (hQ:∀x y u h' tk,P1 k x→P2 k y→P3 k u→IsZip h' z TI TO (rawInt s.heap.objs.size)→Jk4 h' TO x y u→S1 (k+1) h'→S2 (k+1) h'→S3 (k+1) h'→Jk4 h' s.heap.objs.size x y u→
   (∀d o,d≠z→d≠TO→d≠i1→d≠i2→d≠i3→s.heap.get? d=some o→h'.get? d=some o)→Q (.ref s.heap.objs.size) {s with heap:=h',toks:=tk}):
  wpAny (model prog w) A (Builtin.«zip.__next__» ⟨[.ref z],[]⟩) (fun fin s'=>∃v,fin= .done (.ret v)∧Q v s') E s:=by
 obtain ⟨nd,m1,m2,m3⟩:=Z
 simp only [List.nodup_cons,List.mem_cons,List.not_mem_nil,or_false,not_or,List.nodup_nil,and_true,not_false_eq_true] at nd m1 m2 m3
 obtain ⟨⟨zTI,zTO,z1,z2,z3⟩,⟨TITO,TI1,TI2,TI3⟩,⟨TO1,TO2,TO3⟩,⟨n12,n13⟩,n23⟩:=nd
 obtain ⟨l1z,l1TI,l1TO,l11,l12,l13⟩:=m1
 obtain ⟨l2z,l2TI,l2TO,l21,l22,l23⟩:=m2
 obtain ⟨l3z,l3TI,l3TO,l31,l32,l33⟩:=m3
 have fr:∀{S:Nat→Heap→Prop} {P:Nat→Value→Prop} {i l b:Addr} {m:Nat} {h h':Heap},DrA prog w i l n P S→i≠b→l≠b→Heap.SameBut b h h'→S m h→S m h':=fun D e1 e2 sb st=>
  (D A hh).frame _ _ _ st fun d hd o e=>by
   simp only [List.mem_cons,List.not_mem_nil,or_false] at hd
   rcases hd with rfl|rfl
   ·exact sb.extBut _ _ e1 e
   ·exact sb.extBut _ _ e2 e
 show wpAny _ _ (field (.ref z) 2 >>=_) _ _ _
 refine wpAny_bind (wpAny_field hz rfl (x:=.bool false) rfl ?_)
 refine wpAny_bind (m:=field (.ref z) 3) (wpAny_field hz rfl (x:=.ref TI) rfl ?_)
 refine wpAny_bind (wpAny_seqItems hTI rfl ?_)
 refine wpAny_bind (m:=Builtin.SmallTypes.ownedTupleIsFree (.ref z)) ?_
 unfold Builtin.SmallTypes.ownedTupleIsFree
 refine wpAny_bind (wpAny_field hz rfl (x:=.none) rfl (wpAny_pure ?_))
 simp only [if_true]
 refine wpAny_bind (wpAny_rule (wpAny_bind (wpAny_field hz rfl (x:=.ref TO) rfl (wpAny_bind (wpAny_setField_rec hz (by simp) fun h1 hz1 s1=>?_)))))
 replace hz1:IsZip h1 z TI TO .ellipsis:=hz1
 refine wpAny_bind ?_
 simp only [List.zipIdx_cons,List.zipIdx_nil,List.forIn_cons,List.forIn_nil]
 refine wpAny_bind (wpAny_bind (wpAny_onRaise ?_))
 refine wpAny_bind (m:=Builtin.SmallTypes.nextOf (.ref i1)) ((D1 A hh).item k _ _ _ hk (fr D1 (Ne.symm z1) l1z s1 t1) fun x h2 k2 px u1 s2=>wpAny_pure ?_)
 have o2:Jk4 h2 TO a b c:=s2.extBut _ _ TO1 (s1.extBut _ _ (Ne.symm zTO) hTO)
 refine wpAny_bind (wpAny_seqItems o2 rfl (wpAny_bind (Jw8 o2 fun h3 o3 s3=>wpAny_bind (wpAny_letGo (wpAny_pure ?_)))))
 replace o3:Jk4 h3 TO x b c:=o3
 refine wpAny_bind (wpAny_bind (wpAny_onRaise ?_))
 refine wpAny_bind (m:=Builtin.SmallTypes.nextOf (.ref i2)) ((D2 A hh).item k _ _ _ hk (fr D2 (Ne.symm TO2) l2TO s3 (fr D2 (Ne.symm n12) l21 s2 (fr D2 (Ne.symm z2) l2z s1 t2))) fun y h4 k4 py u2 s4=>wpAny_pure ?_)
 have o4:Jk4 h4 TO x b c:=s4.extBut _ _ TO2 o3
 refine wpAny_bind (wpAny_seqItems o4 rfl (wpAny_bind (Jw8 o4 fun h5 o5 s5=>wpAny_bind (wpAny_letGo (wpAny_pure ?_)))))
 replace o5:Jk4 h5 TO x y c:=o5
 refine wpAny_bind (wpAny_bind (wpAny_onRaise ?_))
 refine wpAny_bind (m:=Builtin.SmallTypes.nextOf (.ref i3)) ((D3 A hh).item k _ _ _ hk (fr D3 (Ne.symm TO3) l3TO s5 (fr D3 (Ne.symm n23) l32 s4 (fr D3 (Ne.symm TO3) l3TO s3 (fr D3 (Ne.symm n13) l31 s2 (fr D3 (Ne.symm z3) l3z s1 t3))))) fun u h6 k6 pu u3 s6=>wpAny_pure ?_)
 have o6:Jk4 h6 TO x y c:=s6.extBut _ _ TO3 o5
 refine wpAny_bind (wpAny_seqItems o6 rfl (wpAny_bind (Jw8 o6 fun h7 o7 s7=>wpAny_bind (wpAny_letGo (wpAny_pure (wpAny_pure ?_))))))
 replace o7:Jk4 h7 TO x y u:=o7
 refine wpAny_bind (wpAny_seqItems o7 rfl (wpAny_bind (wpAny_newTuple ?_)))
 have sz:h7.objs.size=s.heap.objs.size:=by rw [s7.1,s6.1,s5.1,s4.1,s3.1,s2.1,s1.1]
 have zz:IsZip h7 z TI TO .ellipsis:=s7.extBut _ _ zTO (s6.extBut _ _ z3 (s5.extBut _ _ zTO (s4.extBut _ _ z2 (s3.extBut _ _ zTO (s2.extBut _ _ z1 hz1)))))
 have kk:∀d o,d≠z→d≠TO→d≠i1→d≠i2→d≠i3→s.heap.get? d=some o→h7.get? d=some o:=fun d o c1 c2 c3 c4 c5 e=>
  s7.extBut _ _ c2 (s6.extBut _ _ c5 (s5.extBut _ _ c2 (s4.extBut _ _ c4 (s3.extBut _ _ c2 (s2.extBut _ _ c3 (s1.extBut _ _ c1 e))))))
 have w1:S1 (k+1) h7:=fr D1 (Ne.symm TO1) l1TO s7 (fr D1 n13 l13 s6 (fr D1 (Ne.symm TO1) l1TO s5 (fr D1 n12 l12 s4 (fr D1 (Ne.symm TO1) l1TO s3 u1))))
 have w2:S2 (k+1) h7:=fr D2 (Ne.symm TO2) l2TO s7 (fr D2 n23 l23 s6 (fr D2 (Ne.symm TO2) l2TO s5 u2))
 have w3:S3 (k+1) h7:=fr D3 (Ne.symm TO3) l3TO s7 u3
 have zlt:z < h7.objs.size:=Heap.lt_size zz
 refine wpAny_bind (m:=Builtin.SmallTypes.ownedTupleHandOut (.ref z) (.ref h7.objs.size)) ?_
 unfold Builtin.SmallTypes.ownedTupleHandOut
 have zp:IsZip (h7.push {cls:=.type "tuple",data:=.seq #[x,y,u]}) z TI TO .ellipsis:=Heap.get?_push_of_some _ zz
 refine wpAny_bind (wpAny_setField_rec zp (by simp) fun h8 hz8 s8=>?_)
 replace hz8:IsZip h8 z TI TO (rawInt h7.objs.size):=hz8
 refine wpAny_setField_rec hz8 (by simp) fun h9 hz9 s9=>?_
 replace hz9:IsZip h9 z TI TO (rawInt h7.objs.size):=hz9
 have up:∀d o,d≠z→h7.get? d=some o→h9.get? d=some o:=fun d o c1 e=>s9.extBut _ _ c1 (s8.extBut _ _ c1 (Heap.get?_push_of_some _ e))
 have nw:Jk4 h9 h7.objs.size x y u:=s9.extBut _ _ (Nat.ne_of_gt zlt) (s8.extBut _ _ (Nat.ne_of_gt zlt) (Heap.get?_push_size _ rfl))
 have fz:∀{S:Nat→Heap→Prop} {P:Nat→Value→Prop} {i l:Addr} {m:Nat},DrA prog w i l n P S→i≠z→l≠z→S m h7→S m h9:=fun D e1 e2 st=>(D A hh).frame _ _ _ st fun d hd o e=>by
  simp only [List.mem_cons,List.not_mem_nil,or_false] at hd
  rcases hd with rfl|rfl
  ·exact up _ _ e1 e
  ·exact up _ _ e2 e
 rw [sz] at hz9 nw
 refine wpAny_pure ⟨_,rfl,?_⟩
 show Q (.ref h7.objs.size) _
 rw [sz]
 exact hQ x y u h9 _ px py pu hz9 (up _ _ (Ne.symm zTO) o7) (fz D1 (Ne.symm z1) l1z w1) (fz D2 (Ne.symm z2) l2z w2) (fz D3 (Ne.symm z3) l3z w3) nw fun d o c1 c2 c3 c4 c5 e=>up d o c1 (kk d o c1 c2 c3 c4 c5 e)
theorem z3_end {Q:Fin→Shared→Prop} (Z:Z3 z TI TO i1 i2 i3 l1 l2 l3) (hz:IsZip s.heap z TI TO .none) (hTI:Jk4 s.heap TI (.ref i1) (.ref i2) (.ref i3))
  (hh:A.handled=none) (D1:DrA prog w i1 l1 n P1 S1) (t1:S1 n s.heap)
  (hE:∀h' e,(∀d o,d≠z→d≠i1→s.heap.get? d=some o→h'.get? d=some o)→(∃o,h'.get? e=some o∧o.cls= .type "StopIteration")→E (.ref e) {s with heap:=h'}):
  wpAny (model prog w) A (Builtin.«zip.__next__» ⟨[.ref z],[]⟩) Q E s:=by
 obtain ⟨nd,m1,_,_⟩:=Z
 simp only [List.nodup_cons,List.mem_cons,List.not_mem_nil,or_false,not_or,List.nodup_nil,and_true,not_false_eq_true] at nd m1
 obtain ⟨⟨zTI,zTO,z1,z2,z3⟩,_⟩:=nd
 obtain ⟨l1z,l1TI,l1TO,l11,l12,l13⟩:=m1
 show wpAny _ _ (field (.ref z) 2 >>=_) _ _ _
 refine wpAny_bind (wpAny_field hz rfl (x:=.bool false) rfl ?_)
 refine wpAny_bind (m:=field (.ref z) 3) (wpAny_field hz rfl (x:=.ref TI) rfl ?_)
 refine wpAny_bind (wpAny_seqItems hTI rfl ?_)
 refine wpAny_bind (m:=Builtin.SmallTypes.ownedTupleIsFree (.ref z)) ?_
 unfold Builtin.SmallTypes.ownedTupleIsFree
 refine wpAny_bind (wpAny_field hz rfl (x:=.none) rfl (wpAny_pure ?_))
 simp only [if_true]
 refine wpAny_bind (wpAny_rule (wpAny_bind (wpAny_field hz rfl (x:=.ref TO) rfl (wpAny_bind (wpAny_setField_rec hz (by simp) fun h1 hz1 s1=>?_)))))
 replace hz1:IsZip h1 z TI TO .ellipsis:=hz1
 refine wpAny_bind ?_
 simp only [List.zipIdx_cons,List.zipIdx_nil,List.forIn_cons,List.forIn_nil]
 refine wpAny_bind (wpAny_bind (wpAny_onRaise ?_))
 refine wpAny_bind (m:=Builtin.SmallTypes.nextOf (.ref i1)) ((D1 A hh).done _ _ _ ((D1 A hh).frame _ _ _ t1 fun d hd o e=>?_) fun h2 e s2 he=>?_)
 ·simp only [List.mem_cons,List.not_mem_nil,or_false] at hd
  rcases hd with rfl|rfl
  ·exact s1.extBut _ _ (Ne.symm z1) e
  ·exact s1.extBut _ _ l1z e
 ·obtain ⟨oe,hoe,hce⟩:=he
  have hz2:IsZip h2 z TI TO .ellipsis:=s2 _ _ z1 hz1
  have ez:e≠z:=fun q=>by subst q;rw [hz2] at hoe;cases hoe;simp at hce
  exact wpAny_setField_rec hz2 (by simp) fun h3 _ s3=>hE h3 e (fun d o c1 c2 q=>s3.extBut _ _ c1 (s2 _ _ c2 (s1.extBut _ _ c1 q))) ⟨oe,s3.extBut _ _ ez hoe,hce⟩
end
end L2
namespace L2
open PySem PySem.Spec PyProof.Rows PySem.W
def Z3St (z TI TO i1 i2 i3:Addr) (S1 S2 S3:Nat→Heap→Prop) (i:Nat) (h:Heap):Prop:=IsZip h z TI TO .none∧Jk4 h TI (.ref i1) (.ref i2) (.ref i3)∧(∃a b c,Jk4 h TO a b c)∧S1 i h∧S2 i h∧S3 i h
section
variable {prog:Program} {w:World} {z TI TO i1 i2 i3 l1 l2 l3:Addr} {n:Nat} {P1 P2 P3:Nat→Value→Prop} {S1 S2 S3:Nat→Heap→Prop}
theorem Ym {A:Around} (hh:A.handled=none) (Z:Z3 z TI TO i1 i2 i3 l1 l2 l3) (D1:DrA prog w i1 l1 n P1 S1) (D2:DrA prog w i2 l2 n P2 S2) (D3:DrA prog w i3 l3 n P3 S3):
  WalksT prog w A z [z,TI,TO,i1,i2,i3,l1,l2,l3] [z,TO,i1,i2,i3] n (fun i vals=>∃x y u,P1 i x∧P2 i y∧P3 i u∧vals= #[x,y,u]) (Z3St z TI TO i1 i2 i3 S1 S2 S3)
   (fun i T h=>IsZip h z TI TO (rawInt T)∧Jk4 h TI (.ref i1) (.ref i2) (.ref i3)∧(∃a b c,Jk4 h TO a b c)∧S1 (i+1) h∧S2 (i+1) h∧S3 (i+1) h∧T∉ [z,TO,i1,i2,i3]) where
 sub:=fun c hc=>by simp at hc⊢;rcases hc with rfl|rfl|rfl|rfl|rfl <;> simp
 frame:=fun i h h' hst hk=>by
  obtain ⟨hz,hTI,⟨a,b,c,hTO⟩,h1,h2,h3⟩:=hst
  exact ⟨hk z (by simp) _ hz,hk TI (by simp) _ hTI,⟨a,b,c,hk TO (by simp) _ hTO⟩,(D1 A hh).frame _ _ _ h1 fun d hd o e=>hk d (by simp at hd;rcases hd with rfl|rfl <;> simp) o e,
   (D2 A hh).frame _ _ _ h2 fun d hd o e=>hk d (by simp at hd;rcases hd with rfl|rfl <;> simp) o e,(D3 A hh).frame _ _ _ h3 fun d hd o e=>hk d (by simp at hd;rcases hd with rfl|rfl <;> simp) o e⟩
 item:=fun i s Q E hi hst hQ=>by
  obtain ⟨hz,hTI,⟨a,b,c,hTO⟩,h1,h2,h3⟩:=hst
  have hT:s.TypeIs (.ref z) "zip" :=⟨_,hz,rfl⟩
  have nd:=Z.nd
  simp only [List.nodup_cons,List.mem_cons,List.not_mem_nil,or_false,not_or,List.nodup_nil,and_true,not_false_eq_true] at nd
  obtain ⟨⟨zTI,_⟩,⟨TITO,TI1,TI2,TI3⟩,_⟩:=nd
  obtain ⟨e1,g1⟩:=(D1 A hh).live _ _ h1
  obtain ⟨e2,g2⟩:=(D2 A hh).live _ _ h2
  obtain ⟨e3,g3⟩:=(D3 A hh).live _ _ h3
  unfold pyNext
  refine wpAny_bind (wpAny_attempt (wpAny_callSpecial?_slot (name:=Str.ofString "__next__") hT F.slot_zip_next (wpAny_call_entry F.slot_zip_next hT F.entry_zip_next
   (Ybb (A:=A.in1) Z hz hTI hTO hh D1 D2 D3 hi h1 h2 h3 fun x y u h' tk px py pu a1 a2 a3 a4 a5 a6 hk=>wpAny_pure ?_) (F.args_zip_next_1 _))))
  refine hQ s.heap.objs.size #[x,y,u] h' tk ⟨x,y,u,px,py,pu,rfl⟩ (Nat.le_refl _) ⟨_,a6,rfl,_,rfl⟩ ⟨a1,hk _ _ (Ne.symm zTI) TITO TI1 TI2 TI3 hTI,⟨_,_,_,a2⟩,a3,a4,a5,?_⟩ fun d o hd e=>hk d o (fun q=>hd (by simp [q])) (fun q=>hd (by simp [q])) (fun q=>hd (by simp [q])) (fun q=>hd (by simp [q])) (fun q=>hd (by simp [q])) e
  have lt:∀{d o},s.heap.get? d=some o→s.heap.objs.size≠d:=fun e=>Nat.ne_of_gt (Heap.lt_size e)
  simp only [List.mem_cons,List.not_mem_nil,or_false,not_or]
  exact ⟨lt hz,lt hTO,lt g1,lt g2,lt g3⟩
 go:=fun elts k pos i T s Q E hm hQ=>by
  obtain ⟨hz,hTI,⟨a,b,c,hTO⟩,h1,h2,h3,_⟩:=hm
  have nd:=Z.nd
  have m1:=Z.m1
  have m2:=Z.m2
  have m3:=Z.m3
  simp only [List.nodup_cons,List.mem_cons,List.not_mem_nil,or_false,not_or,List.nodup_nil,and_true,not_false_eq_true] at nd m1 m2 m3
  obtain ⟨⟨zTI,zTO,z1,z2,z3⟩,_⟩:=nd
  have fz:∀{S:Nat→Heap→Prop} {P:Nat→Value→Prop} {j l:Addr} {m:Nat} {h':Heap},DrA prog w j l n P S→j≠z→l≠z→Heap.SameBut z s.heap h'→S m s.heap→S m h':=fun D e1 e2 sb st=>(D A hh).frame _ _ _ st fun d hd o e=>by
   simp only [List.mem_cons,List.not_mem_nil,or_false] at hd
   rcases hd with rfl|rfl
   ·exact sb.extBut _ _ e1 e
   ·exact sb.extBut _ _ e2 e
  exact wpAny_letOwnedTupleGo_zip hz fun h' hz' sb=>hQ h' ⟨hz',sb.extBut _ _ (Ne.symm zTI) hTI,⟨a,b,c,sb.extBut _ _ (Ne.symm zTO) hTO⟩,fz D1 (Ne.symm z1) m1.1 sb h1,fz D2 (Ne.symm z2) m2.1 sb h2,fz D3 (Ne.symm z3) m3.1 sb h3⟩ fun d o hd e=>sb.extBut _ _ (fun q=>hd (by simp [q])) e
 apart:=fun i T h hm hT=>hm.2.2.2.2.2.2 hT
 done:=fun s Q E hst hQ=>by
  obtain ⟨hz,hTI,_,h1,h2,h3⟩:=hst
  have hT:s.TypeIs (.ref z) "zip" :=⟨_,hz,rfl⟩
  unfold pyNext
  refine wpAny_bind (wpAny_attempt (wpAny_callSpecial?_slot (name:=Str.ofString "__next__") hT F.slot_zip_next (wpAny_call_entry F.slot_zip_next hT F.entry_zip_next
   (z3_end (A:=A.in1) Z hz hTI hh D1 h1 fun h' e hk he=>?_) (F.args_zip_next_1 _))))
  obtain ⟨o,ho,hc⟩:=he
  refine wpAny_bind (wpAny_isInstance (T:="StopIteration") (b:=true) ⟨o,ho,hc⟩ isSubtype_stop (wpAny_pure ?_))
  exact hQ h' s.toks fun d o' hd e'=>hk d o' (fun q=>hd (by simp [q])) (fun q=>hd (by simp [q])) e'
 self:=fun i s Q E hst hQ=>wpAny_pyIter_zip hst.1 hQ
end
end L2
namespace L2
open PySem PySem.Spec PyProof.Rows PySem.W
def SqB (K:PySem.W.Frag) (H:Hp) (l:Addr):Bool→List V→Prop
 |false,xs=>SqL K H l xs
 |true,xs=>SqT K H l xs
def IsB (h:Heap) (l:Addr):Bool→Array Value→Prop
 |false,items=>h.IsList l items
 |true,items=>h.IsTuple l items
def IS (it l:Addr):Bool→Nat→Heap→Prop
 |false,i,h=>h.IsListIter it l i
 |true,i,h=>h.IsTupleIter it l i
def itO (l:Addr):Bool→Obj
 |false=>{cls:=.type "list_iterator",data:=.fields #[.ref l,.int 0 0]}
 |true=>{cls:=.type "tuple_iterator",data:=.fields #[.ref l,.int 0 0]}
theorem IS.at {it l:Addr} {b:Bool} {i:Nat} {h h':Heap} (x:IS it l b i h) (k:∀o,h.get? it=some o→h'.get? it=some o):IS it l b i h':=by
 cases b
 ·exact Heap.IsListIter.at x k
 ·exact Heap.IsTupleIter.at x k
theorem IS.obj {it l:Addr} {b:Bool} {i:Nat} {h:Heap} (x:IS it l b i h):∃o,h.get? it=some o∧∀v,o.data≠ .cell v:=by
 cases b
 ·obtain ⟨o,e,_,d⟩:=x
  exact ⟨o,e,fun v z=>by rw [d] at z;cases z⟩
 ·obtain ⟨o,e,_,d⟩:=x
  exact ⟨o,e,fun v z=>by rw [d] at z;cases z⟩
theorem drA {prog:Program} {w:World} {it l:Addr} (b:Bool) (ne:l≠it) (items:Array Value):DrA prog w it l items.size (fun i v=>items[i]?=some v) (fun i h=>IS it l b i h∧IsB h l b items):=fun A hh=>by
 cases b
 ·exact Draws.list hh it l ne items
 ·exact Jop hh it l ne items
section
variable {prog:Program} {w:World} {A:Around} {E:Value→Shared→Prop} {s:Shared}
theorem IsB.push {h:Heap} {l:Addr} {b:Bool} {items:Array Value} (x:IsB h l b items) (o:Obj):IsB (h.push o) l b items:=by
 cases b
 ·exact Heap.IsList.push x o
 ·exact Heap.IsTuple.push x o
theorem IsB.lt {h:Heap} {l:Addr} {b:Bool} {items:Array Value} (x:IsB h l b items):l < h.objs.size:=by
 cases b
 ·obtain ⟨o,e,_⟩:=x;exact Heap.lt_size e
 ·obtain ⟨o,e,_⟩:=x;exact Heap.lt_size e
theorem Jz7 {l:Addr} {b:Bool} {items:Array Value} {Q:Value→Shared→Prop} (x:IsB s.heap l b items) (hQ:Q (.ref s.heap.objs.size) {s with heap:=s.heap.push (itO l b)}):wpAny (model prog w) A (pyIter (.ref l)) Q E s:=by
 cases b
 ·exact wpAny_pyIter_list x hQ
 ·exact wpAny_pyIter_tuple x hQ
end
abbrev zA (h:Heap) (l1:Addr) (b1:Bool):Heap:=h.push (itO l1 b1)
abbrev zB (h:Heap) (l1 l2:Addr) (b1 b2:Bool):Heap:=(zA h l1 b1).push (itO l2 b2)
abbrev zC (h:Heap) (l1 l2 l3:Addr) (b1 b2 b3:Bool):Heap:=(zB h l1 l2 b1 b2).push (itO l3 b3)
abbrev zD (h:Heap) (l1 l2 l3:Addr) (b1 b2 b3:Bool):Heap:=(zC h l1 l2 l3 b1 b2 b3).push {cls:=.type "tuple",data:=.seq #[.ref h.objs.size,.ref (zA h l1 b1).objs.size,.ref (zB h l1 l2 b1 b2).objs.size]}
abbrev zE (h:Heap) (l1 l2 l3:Addr) (b1 b2 b3:Bool):Heap:=(zD h l1 l2 l3 b1 b2 b3).push {cls:=.type "tuple",data:=.seq #[.none,.none,.none]}
abbrev zF (h:Heap) (l1 l2 l3:Addr) (b1 b2 b3:Bool):Heap:=(zE h l1 l2 l3 b1 b2 b3).push {cls:=.type "zip",data:=.fields #[.none,.bool false,.bool false,.ref (zC h l1 l2 l3 b1 b2 b3).objs.size,.ref (zD h l1 l2 l3 b1 b2 b3).objs.size]}
set_option maxRecDepth 100000 in
set_option maxHeartbeats 2000000 in
theorem Yr (l1 l2 l3:Addr) (b1 b2 b3:Bool) (xs ys us:Array Value):
  Meets (Builtin.«zip.__new__» ⟨[.type "zip",.ref l1,.ref l2,.ref l3],[]⟩) (fun _ R s=>IsB s.heap l1 b1 xs∧IsB s.heap l2 b2 ys∧IsB s.heap l3 b3 us∧
   R (.ok (.ret (.ref (zE s.heap l1 l2 l3 b1 b2 b3).objs.size))) {s with heap:=zF s.heap l1 l2 l3 b1 b2 b3}):=
 .of_wp fun prog w A R s h=>by
  obtain ⟨hp,g,d,tk,os⟩:=s
  obtain ⟨hl1,hl2,hl3,h⟩:=h
  have e0:=sub_zip
  have e1:IsB (Shared.heap ⟨hp,g,d,tk,os⟩) l1 b1 xs:=hl1
  have e2:IsB (Shared.heap ⟨hp.push (itO l1 b1),g,d,tk,os⟩) l2 b2 ys:=IsB.push hl2 _
  have e3:IsB (Shared.heap ⟨(hp.push (itO l1 b1)).push (itO l2 b2),g,d,tk,os⟩) l3 b3 us:=IsB.push (IsB.push hl3 _) _
  wp_walk using Jz7 e1,Jz7 e2,Jz7 e3
  exact ⟨_,rfl,h⟩
theorem Jr1 (a b c:Value):checkTypeCall "zip" ⟨[a,b,c],[]⟩=pure ():=by kernel_rfl
theorem Jr8 (a b c:Value):checkBuiltinCall "zip.__new__" ⟨[.type "zip",a,b,c],[]⟩=pure ():=by kernel_rfl
end L2
namespace L2
open PySem PySem.Spec PyProof.Rows PySem.W
theorem Jts (a b c d:Value):argsOk "object.__init__" ⟨[a,b,c,d],[]⟩:=by
 unfold argsOk;rw [signature?_of (id:="object.__init__") (n:=['_','_','t','i','n','i','_','_']) (o:=['t','c','e','j','b','o']) (by kernel_rfl) F.owner_object];kernel_rfl
section
variable {prog:Program} {w:World} {A:Around} {E:Value→Shared→Prop} {s:Shared}
theorem Jx3 {l1 l2 l3:Addr} {b1 b2 b3:Bool} {xs ys us:Array Value} {Q:Value→Shared→Prop} (h1:IsB s.heap l1 b1 xs) (h2:IsB s.heap l2 b2 ys) (h3:IsB s.heap l3 b3 us)
  (h:∀h',IsZip h' (s.heap.objs.size+5) (s.heap.objs.size+3) (s.heap.objs.size+4) .none→Jk4 h' (s.heap.objs.size+3) (.ref s.heap.objs.size) (.ref (s.heap.objs.size+1)) (.ref (s.heap.objs.size+2))→
   Jk4 h' (s.heap.objs.size+4) .none .none .none→IS s.heap.objs.size l1 b1 0 h'→IS (s.heap.objs.size+1) l2 b2 0 h'→IS (s.heap.objs.size+2) l3 b3 0 h'→
   (∀c o,s.heap.get? c=some o→h'.get? c=some o)→Q (.ref (s.heap.objs.size+5)) {s with heap:=h'}):
  wpAny (model prog w) A (call (.type "zip") [.ref l1,.ref l2,.ref l3]) Q E s:=by
 refine callType_new F.called_zip (by decide) (Jr1 _ _ _) (Jr8 _ _ _) (fun obj=>Jts obj _ _ _) F.entry_zip_new (Yr l1 l2 l3 b1 b2 b3 xs ys us) ⟨h1,h2,h3,?_⟩
 have z1:(zA s.heap l1 b1).objs.size=s.heap.objs.size+1:=Heap.size_push ..
 have z2:(zB s.heap l1 l2 b1 b2).objs.size=s.heap.objs.size+2:=by rw [Heap.size_push,z1]
 have z3:(zC s.heap l1 l2 l3 b1 b2 b3).objs.size=s.heap.objs.size+3:=by rw [Heap.size_push,z2]
 have z4:(zD s.heap l1 l2 l3 b1 b2 b3).objs.size=s.heap.objs.size+4:=by rw [Heap.size_push,z3]
 have z5:(zE s.heap l1 l2 l3 b1 b2 b3).objs.size=s.heap.objs.size+5:=by rw [Heap.size_push,z4]
 have p:∀{h:Heap} {c:Addr} {o q:Obj},h.get? c=some o→(h.push q).get? c=some o:=fun e=>Heap.get?_push_of_some _ e
 have g6:(zF s.heap l1 l2 l3 b1 b2 b3).get? (zE s.heap l1 l2 l3 b1 b2 b3).objs.size=some _:=Heap.get?_push_size _ rfl
 have g5:(zF s.heap l1 l2 l3 b1 b2 b3).get? (zD s.heap l1 l2 l3 b1 b2 b3).objs.size=some _:=p (Heap.get?_push_size _ rfl)
 have g4:(zF s.heap l1 l2 l3 b1 b2 b3).get? (zC s.heap l1 l2 l3 b1 b2 b3).objs.size=some _:=p (p (Heap.get?_push_size _ rfl))
 have fr:∀(l:Addr) (b:Bool),(itO l b).isFreed=false:=fun l b=>by cases b <;> rfl
 have g3:(zF s.heap l1 l2 l3 b1 b2 b3).get? (zB s.heap l1 l2 b1 b2).objs.size=some (itO l3 b3):=p (p (p (Heap.get?_push_size _ (fr _ _))))
 have g2:(zF s.heap l1 l2 l3 b1 b2 b3).get? (zA s.heap l1 b1).objs.size=some (itO l2 b2):=p (p (p (p (Heap.get?_push_size _ (fr _ _)))))
 have g1:(zF s.heap l1 l2 l3 b1 b2 b3).get? s.heap.objs.size=some (itO l1 b1):=p (p (p (p (p (Heap.get?_push_size _ (fr _ _))))))
 have is:∀{it l:Addr} {b:Bool} {h:Heap},h.get? it=some (itO l b)→IS it l b 0 h:=fun {it l b h} e=>by
  cases b
  ·exact ⟨_,e,rfl,rfl⟩
  ·exact ⟨_,e,rfl,rfl⟩
 show _∧_
 rw [z3,z4,z5] at g6
 rw [z1,z2,z3] at g4
 rw [z4] at g5
 rw [z2] at g3
 rw [z1] at g2
 rw [z5]
 exact ⟨⟨_,g6,rfl⟩,h _ g6 g4 g5 (is g1) (is g2) (is g3) fun c o x=>p (p (p (p (p (p x)))))⟩
end
end L2
namespace L2
open PySem PySem.Spec PyProof.Rows PySem.W
section
variable {X:Cx} {pins:List (Addr×Obj)} {σ:St} {H:Hp} {s:Shared}
theorem Inv.seqB {l:Addr} {b:Bool} {xs:List V} (I:Inv X pins σ H s) (h:SqB X.K H l b xs):∃its,Vals xs its∧IsB s.heap l b its.toArray:=by
 cases b
 ·obtain ⟨its,rv,p,_⟩:=I.list h
  exact ⟨its,rv,p.isList⟩
 ·obtain ⟨its,rv,p,_⟩:=I.tuple h
  exact ⟨its,rv,p⟩
theorem Inv.seqB_inj {l:Addr} {b:Bool} {xs ys:List V} (I:Inv X pins σ H s) (h:SqB X.K H l b xs) (h':SqB X.K H l b ys):xs=ys:=by
 cases b
 ·exact I.list_inj h h'
 ·exact I.tuple_inj h h'
end
def ItZ3 (K:PySem.W.Frag) (l1 l2 l3:Addr) (b1 b2 b3:Bool):It:=
 ⟨fun i H=>∃xs ys us,SqB K H l1 b1 xs∧SqB K H l2 b2 ys∧SqB K H l3 b3 us∧xs.length=ys.length∧xs.length=us.length∧i < xs.length,
  fun i H x H'=>∃T p q r,H T=none∧x= .ref T∧(∀xs,SqB K H l1 b1 xs→xs[i]?=some p)∧(∀ys,SqB K H l2 b2 ys→ys[i]?=some q)∧(∀us,SqB K H l3 b3 us→us[i]?=some r)∧H'=upd H T (.tup [p,q,r]),
  fun i H=>∃xs ys us,SqB K H l1 b1 xs∧SqB K H l2 b2 ys∧SqB K H l3 b3 us∧xs.length=ys.length∧xs.length=us.length∧i=xs.length⟩
def Z3T (z TI TO i1 i2 i3 l1 l2 l3:Addr) (b1 b2 b3:Bool) (i:Nat) (h:Heap):Prop:=IsZip h z TI TO .none∧Jk4 h TI (.ref i1) (.ref i2) (.ref i3)∧(∃a b c,Jk4 h TO a b c)∧IS i1 l1 b1 i h∧IS i2 l2 b2 i h∧IS i3 l3 b3 i h
theorem Z3T.obj {z TI TO i1 i2 i3 l1 l2 l3:Addr} {b1 b2 b3:Bool} {i:Nat} {h:Heap} (st:Z3T z TI TO i1 i2 i3 l1 l2 l3 b1 b2 b3 i h):∀b∈ [z,TI,TO,i1,i2,i3],∃o,h.get? b=some o∧∀v,o.data≠ .cell v:=fun b hb=>by
 obtain ⟨h1,h2,⟨x,y,u,h3⟩,h4,h5,h6⟩:=st
 simp only [List.mem_cons,List.not_mem_nil,or_false] at hb
 rcases hb with rfl|rfl|rfl|rfl|rfl|rfl
 ·exact ⟨_,h1,fun v z=>by cases z⟩
 ·exact ⟨_,h2,fun v z=>by cases z⟩
 ·exact ⟨_,h3,fun v z=>by cases z⟩
 ·exact h4.obj
 ·exact h5.obj
 ·exact h6.obj
theorem Z3.ne {z TI TO i1 i2 i3 l1 l2 l3:Addr} (Z:Z3 z TI TO i1 i2 i3 l1 l2 l3):l1≠i1∧l2≠i2∧l3≠i3:=by
 obtain ⟨_,m1,m2,m3⟩:=Z
 simp only [List.mem_cons,List.not_mem_nil,or_false,not_or] at m1 m2 m3
 exact ⟨m1.2.2.2.1,m2.2.2.2.2.1,m3.2.2.2.2.2⟩
theorem Jy6 {P:Program} {w:World} {K:PySem.W.Frag} {elts:List Expr} {kt:Nat} {pt:Pos} (z TI TO i1 i2 i3 l1 l2 l3:Addr) (b1 b2 b3:Bool) (Z:Z3 z TI TO i1 i2 i3 l1 l2 l3):
  Jpk P w K (.Tuple elts kt pt) (ItZ3 K l1 l2 l3 b1 b2 b3) [z,TI,TO,i1,i2,i3] z (Z3T z TI TO i1 i2 i3 l1 l2 l3 b1 b2 b3) where
 mem:=by simp
 obj:=fun i h st=>st.obj
 keep:=fun i h h' st k=>by
  obtain ⟨h1,h2,⟨a,c,d,h3⟩,h4,h5,h6⟩:=st
  exact ⟨k z (by simp) _ h1,k TI (by simp) _ h2,⟨a,c,d,k TO (by simp) _ h3⟩,h4.at fun o e=>k i1 (by simp) o e,h5.at fun o e=>k i2 (by simp) o e,h6.at fun o e=>k i3 (by simp) o e⟩
 item:=by
  intro X hP hw hK hc i pins s σ H E I hf st hg
  subst hP hw hK
  obtain ⟨xs,ys,us,q1,q2,q3,e12,e13,hi⟩:=hg
  obtain ⟨its,rv,p1⟩:=I.seqB q1
  obtain ⟨jts,rv2,p2⟩:=I.seqB q2
  obtain ⟨kts,rv3,p3⟩:=I.seqB q3
  have a1:=rv.length
  have a2:=rv2.length
  have a3:=rv3.length
  obtain ⟨n1,n2,n3⟩:=Z.ne
  have D1:=drA (prog:=X.prog) (w:=X.w) b1 n1 its.toArray
  have D2:=drA (prog:=X.prog) (w:=X.w) b2 n2 jts.toArray
  have D3:=drA (prog:=X.prog) (w:=X.w) b3 n3 kts.toArray
  rw [show jts.toArray.size=its.toArray.size by simp only [List.size_toArray];omega] at D2
  rw [show kts.toArray.size=its.toArray.size by simp only [List.size_toArray];omega] at D3
  have W:=Ym (I.ok.hd hc) Z D1 D2 D3
  have st0:=st
  obtain ⟨s1,s2,s3,s4,s5,s6⟩:=st
  refine W.item i s _ _ (by simp only [List.size_toArray];omega) ⟨s1,s2,s3,⟨s4,p1⟩,⟨s5,p2⟩,⟨s6,p3⟩⟩ fun T vals h' tk hP fT tT mid kk=>?_
  refine ⟨_,rfl,W.go elts kt pt i T _ _ _ mid fun h'' st'' kk2=>?_⟩
  obtain ⟨x,y,u,hx,hy,hu,rfl⟩:=hP
  obtain ⟨u1,hu1,r1⟩:=rv.get (i:=i) (x:=xs[i]) (List.getElem?_eq_getElem hi)
  obtain ⟨u2,hu2,r2⟩:=rv2.get (i:=i) (x:=ys[i]'(by omega)) (List.getElem?_eq_getElem (by omega))
  obtain ⟨u3,hu3,r3⟩:=rv3.get (i:=i) (x:=us[i]'(by omega)) (List.getElem?_eq_getElem (by omega))
  obtain rfl:x=u1:=by simpa [hu1] using hx.symm
  obtain rfl:y=u2:=by simpa [hu2] using hy.symm
  obtain rfl:u=u3:=by simpa [hu3] using hu.symm
  obtain ⟨t1,t2,t3,t4,t5,t6⟩:=st''
  have kT:h''.IsTuple T #[x,y,u]:=by
   obtain ⟨o,q,r⟩:=tT
   exact ⟨o,kk2 T o (W.apart i T h' mid) q,r⟩
  have cht:∀c,c∈ [z,TO,i1,i2,i3]→c∈ [z,TI,TO,i1,i2,i3]:=fun c hc=>by simp at hc⊢;rcases hc with rfl|rfl|rfl|rfl|rfl <;> simp
  refine ⟨.ref T,upd H T (.tup [xs[i],ys[i]'(by omega),us[i]'(by omega)]),I.turnTup (ch:=[z,TO,i1,i2,i3]) (t':=tk) (fun c hc=>hf c (cht c hc)) (fun c o hc e=>kk2 c o hc (kk c o hc e)) fT ⟨(show 3≤sizeLine by decide),[x,y,u],.cons r1 (.cons r2 (.cons r3 .nil)),kT⟩,rfl,
   ⟨T,_,_,_,I.hok.fresh fT,rfl,fun xs' hq=>by rw [I.seqB_inj hq q1];exact List.getElem?_eq_getElem hi,fun ys' hq=>by rw [I.seqB_inj hq q2];exact List.getElem?_eq_getElem (by omega),fun us' hq=>by rw [I.seqB_inj hq q3];exact List.getElem?_eq_getElem (by omega),rfl⟩,⟨t1,t2,t3,t4.1,t5.1,t6.1⟩,fun c hc=>?_⟩
  have hcn:=(hf c hc).1
  rw [Ji7 (fun w'=>?_)]
  ·exact hcn
  ·subst w'
   obtain ⟨o,e,_⟩:=Z3T.obj st0 c hc
   exact absurd (Heap.lt_size e) (Nat.not_lt.mpr fT)
 done:=by
  intro X hP hw hK hc i pins s σ H E I hf st hg
  subst hP hw hK
  obtain ⟨xs,ys,us,q1,q2,q3,e12,e13,hi⟩:=hg
  obtain ⟨its,rv,p1⟩:=I.seqB q1
  obtain ⟨jts,rv2,p2⟩:=I.seqB q2
  obtain ⟨kts,rv3,p3⟩:=I.seqB q3
  have a1:=rv.length
  have a2:=rv2.length
  have a3:=rv3.length
  obtain ⟨n1,n2,n3⟩:=Z.ne
  have D1:=drA (prog:=X.prog) (w:=X.w) b1 n1 its.toArray
  have D2:=drA (prog:=X.prog) (w:=X.w) b2 n2 jts.toArray
  have D3:=drA (prog:=X.prog) (w:=X.w) b3 n3 kts.toArray
  rw [show jts.toArray.size=its.toArray.size by simp only [List.size_toArray];omega] at D2
  rw [show kts.toArray.size=its.toArray.size by simp only [List.size_toArray];omega] at D3
  have W:=Ym (I.ok.hd hc) Z D1 D2 D3
  obtain ⟨s1,s2,s3,s4,s5,s6⟩:=st
  have ei:i=its.toArray.size:=by simp only [List.size_toArray];omega
  subst ei
  refine W.done s _ _ ⟨s1,s2,s3,⟨s4,p1⟩,⟨s5,p2⟩,⟨s6,p3⟩⟩ fun h' tk kk=>⟨rfl,?_⟩
  exact I.turnMany (ch:=[z,TO,i1,i2,i3]) (fun c hc=>hf c (by simp at hc⊢;rcases hc with rfl|rfl|rfl|rfl|rfl <;> simp)) fun c o hc e=>kk c o hc e
 self:=fun _ _ _ _ _ st h=>wpAny_pyIter_zip st.1 h
def iZip3 (K:PySem.W.Frag) (b1 b2 b3:Bool) (ta:TA):TI:=fun σ H R=>ta σ H fun vs H1=>∃a b c,vs= [.ref a,.ref b,.ref c]∧(∃xs,SqB K H1 a b1 xs)∧(∃ys,SqB K H1 b b2 ys)∧(∃us,SqB K H1 c b3 us)∧R (ItZ3 K a b c b1 b2 b3) H1
theorem Yag {X:Cx} {elts:List Expr} {kt:Nat} {pt:Pos} {a b c:Expr} {ta:TA} {p pos:Pos} (b1 b2 b3:Bool) (hg:Gl X "zip") (hm:X.mg "zip" =none) (ha:PA X [a,b,c] ta) (hs:starEach [a,b,c] X.env= [(false,eval a X.env),(false,eval b X.env),(false,eval c X.env)]:=by rfl) (hs2:starEach [b,c] X.env= [(false,eval b X.env),(false,eval c X.env)]:=by rfl):
  PI X (.Tuple elts kt pt) (.Call (.Name "zip" p) [a,b,c] [] pos) (iZip3 X.K b1 b2 b3 ta):=by
 intro pins s σ H R I h
 refine Call_ (Jmc I hg hm bt_zip (PyProof.Rows.callWith_type1 (thn (ha pos pins s σ H _ I h) fun us s1 ⟨vs,H1,I1,r1,q1⟩=>?_) (by rw [hs,hs2]) (by rw [hs2];rfl)))
 obtain ⟨l1,l2,l3,rfl,⟨xs,q1⟩,⟨ys,q2⟩,⟨zs,q3⟩,q⟩:=q1
 obtain ⟨u,v,y,rfl,r1,r2,r3⟩:∃u v y,us= [u,v,y]∧RelV (.ref l1) u∧RelV (.ref l2) v∧RelV (.ref l3) y:=by
  cases r1 with
  |cons a1 t1=>
   cases t1 with
   |cons a2 t2=>
    cases t2 with
    |cons a3 t3=>
     cases t3
     exact ⟨_,_,_,rfl,a1,a2,a3⟩
 obtain rfl:u=Value.ref l1:=r1
 obtain rfl:v=Value.ref l2:=r2
 obtain rfl:y=Value.ref l3:=r3
 obtain ⟨its,rv,p1⟩:=I1.seqB q1
 obtain ⟨jts,rv2,p2⟩:=I1.seqB q2
 obtain ⟨kts,rv3,p3⟩:=I1.seqB q3
 have a1:=p1.lt
 have a2:=p2.lt
 have a3:=p3.lt
 refine Jx3 p1 p2 p3 fun h' z1 z2 z3 z4 z5 z6 kk=>?_
 have I2:Inv X pins σ H1 {s1 with heap:=h'}:=I1.kept (t':=s1.toks) kk
 have ap:Z3 (s1.heap.objs.size+5) (s1.heap.objs.size+3) (s1.heap.objs.size+4) s1.heap.objs.size (s1.heap.objs.size+1) (s1.heap.objs.size+2) l1 l2 l3:=by
  generalize hN:s1.heap.objs.size=N at*
  have big:∀l:Addr,l < N→l∉ [N+5,N+3,N+4,N,N+1,N+2]:=fun l hl hm=>by
   simp only [List.mem_cons,List.not_mem_nil,or_false] at hm
   have le:N≤l:=by rcases hm with rfl|rfl|rfl|rfl|rfl|rfl <;> first|exact Nat.le_refl _|exact Nat.le_add_right _ _
   exact Nat.not_lt.mpr le hl
  exact ⟨by simp,big _ a1,big _ a2,big _ a3⟩
 refine wpAny_pyIter_zip z1 ⟨_,_,_,_,H1,rfl,I2,Jy6 _ _ _ _ _ _ l1 l2 l3 b1 b2 b3 ap,⟨z1,z2,⟨_,_,_,z3⟩,z4,z5,z6⟩,fun d hd=>?_,q⟩
 have hd':s1.heap.objs.size≤d:=by
  simp only [List.mem_cons,List.not_mem_nil,or_false] at hd
  rcases hd with rfl|rfl|rfl|rfl|rfl|rfl <;> omega
 exact I1.fpOk hd' (I1.hok.fresh hd')
section
variable {K:PySem.W.Frag} {g:TG} {σ:St} {H:Hp}
theorem Jx7 {l1 l2 l3 D:Addr} {b1 b2 b3:Bool} {xs ys us:List V} {tt:TT} {te:TE} {R:Hp→Prop} (Pv:Nat→St→Hp→Prop) (h0:Pv 0 σ H) (hl:∀i σ H,i≤xs.length→Pv i σ H→SqB K H l1 b1 xs∧SqB K H l2 b2 ys∧SqB K H l3 b3 us) (e1:xs.length=ys.length) (e2:xs.length=us.length)
  (hs:∀i x y u σ H T,xs[i]?=some x→ys[i]?=some y→us[i]?=some u→Pv i σ H→H T=none→g (.ref T) σ (upd H T (.tup [x,y,u])) fun σ3 H3=>tt σ3 H3 fun b H4=>if b=true then te σ3 H4 (fun v H5=>∃vs,H5 D=some (.lst vs)∧vs.length < sizeLine∧Pv (i+1) σ3 (upd H5 D (.lst (vs++ [v])))) else Pv (i+1) σ3 H4)
  (hd:∀σ H,Pv xs.length σ H→R H):
  ∃W:Nat→Nat→St→Hp→Prop,(∃m,W 0 m σ H)∧∀i m σ' H',W i m σ' H'→((ItZ3 K l1 l2 l3 b1 b2 b3).stop i H'∧R H')∨((ItZ3 K l1 l2 l3 b1 b2 b3).go i H'∧∃N:St→Hp→Prop,(∀σ2 H2,N σ2 H2→∃m',m' < m∧W (i+1) m' σ2 H2)∧
   ∀x H2,(ItZ3 K l1 l2 l3 b1 b2 b3).yld i H' x H2→g x σ' H2 fun σ3 H3=>tt σ3 H3 fun b H4=>if b=true then te σ3 H4 (fun v H5=>∃vs,H5 D=some (.lst vs)∧vs.length < sizeLine∧N σ3 (upd H5 D (.lst (vs++ [v])))) else N σ3 H4):=by
 refine ⟨fun i m σ H=>m=xs.length - i∧i≤xs.length∧Pv i σ H,⟨xs.length,by simp,Nat.zero_le _,h0⟩,?_⟩
 rintro i m σ H ⟨rfl,hi,p⟩
 obtain ⟨q1,q2,q3⟩:=hl i σ H hi p
 by_cases hlt:i < xs.length
 ·refine .inr ⟨⟨xs,ys,us,q1,q2,q3,e1,e2,hlt⟩,Pv (i+1),fun σ' H' p'=>⟨xs.length - (i+1),by omega,rfl,hlt,p'⟩,fun x H' y=>?_⟩
  obtain ⟨T,u,v,w',hT,rfl,hu,hv,hw,rfl⟩:=y
  exact hs i u v w' σ _ T (hu xs q1) (hv ys q2) (hw us q3) p hT
 ·have e:i=xs.length:=by omega
  subst e
  exact .inl ⟨⟨xs,ys,us,q1,q2,q3,e1,e2,rfl⟩,hd σ H p⟩
theorem Jty {a:Addr} {xs:List V} {tb:TS} {D:Ends} (Pv:Nat→St→Hp→Prop) (h0:Pv 0 σ H) (hl:∀i σ H,i≤xs.length→Pv i σ H→SqT K H a xs)
  (hs:∀i x σ H T,xs[i]?=some x→Pv i σ H→H T=none→g (.ref T) σ (upd H T (.tup [.int i,x])) fun σ2 H2=>tb {D with nx:=Pv (i+1),ct:=Pv (i+1),bk:=D.nx} σ2 H2) (hd:∀σ H,Pv xs.length σ H→D.nx σ H):
  ∃W:Nat→Nat→St→Hp→Prop,(∃m,W 0 m σ H)∧∀i m σ H,W i m σ H→
   ((ItU K a).stop i H∧D.nx σ H)∨((ItU K a).go i H∧∃N:St→Hp→Prop,(∀σ' H',N σ' H'→∃m',m' < m∧W (i+1) m' σ' H')∧∀x H',(ItU K a).yld i H x H'→g x σ H' fun σ2 H2=>tb {D with nx:=N,ct:=N,bk:=D.nx} σ2 H2):=by
 refine ⟨fun i m σ H=>m=xs.length - i∧i≤xs.length∧Pv i σ H,⟨xs.length,by simp,Nat.zero_le _,h0⟩,?_⟩
 rintro i m σ H ⟨rfl,hi,p⟩
 have q:=hl i σ H hi p
 by_cases hlt:i < xs.length
 ·refine .inr ⟨⟨xs,xs[i],q,by simp [hlt]⟩,Pv (i+1),fun σ' H' p'=>⟨xs.length - (i+1),by omega,rfl,hlt,p'⟩,fun x H' y=>?_⟩
  obtain ⟨T,u,hT,rfl,hu,rfl⟩:=y
  exact hs i u σ _ T (hu xs q) p hT
 ·have e:i=xs.length:=by omega
  subst e
  exact .inl ⟨⟨xs,q,rfl⟩,hd σ H p⟩
end
end L2
namespace L2
open PySem PySem.Spec PyProof.Rows PySem.W
section
variable {X:Cx}
theorem Jvo {K:PySem.W.Frag} (h:X.K=K):OpR X (compareOp .In) (rIn K false):=by subst h;exact Jxp
theorem Jkq {K:PySem.W.Frag} {e:Expr} {f:Str} {ta:TE} {pos:Pos} (h:X.K=K) (he:PE X e ta) (hb:attributeBase e f X.env (eval e X.env)=eval e X.env):PE X (.Attribute e f pos) (tFld K ta f):=by subst h;exact Jjq he hb
end
end L2
namespace L2
open PySem PySem.Spec PyProof.Rows PySem.W
section
variable {X:Cx} {pos:Pos}
theorem Jte {K:PySem.W.Frag} {es:List Expr} {k:Nat} {t:TGs} {n:Nat} (h1:X.K=K) (hc:X.calm=true) (h:PGs X es t)
  (hn:(assignEach es X.env).length=n:=by rfl) (hst:(assignEach es X.env).findIdx? (·.1)=none:=by rfl):PG X (.Tuple es k pos) (gTup K n t):=by
 subst h1
 exact Jtd hc h hn hst
end
section
variable {g:TG} {tt:TT} {te:TE} {H:Hp} {D:Addr} {σ:St} {R:Hp→Prop}
theorem Jyl {K:PySem.W.Frag} {a:Addr} {xs:List V} (Pv:Nat→St→Hp→Prop) (h0:Pv 0 σ H) (hl:∀i σ H,i≤xs.length→Pv i σ H→SqT K H a xs)
  (hs:∀i x σ H,xs[i]?=some x→Pv i σ H→g x σ H fun σ3 H3=>tt σ3 H3 fun b H4=>if b=true then te σ3 H4 (fun v H5=>∃ys,H5 D=some (.lst ys)∧ys.length < sizeLine∧Pv (i+1) σ3 (upd H5 D (.lst (ys++ [v])))) else Pv (i+1) σ3 H4)
  (hd:∀σ H,Pv xs.length σ H→R H):
  ∃W:Nat→Nat→St→Hp→Prop,(∃m,W 0 m σ H)∧∀i m σ' H',W i m σ' H'→((Itt K a).stop i H'∧R H')∨((Itt K a).go i H'∧∃N:St→Hp→Prop,(∀σ2 H2,N σ2 H2→∃m',m' < m∧W (i+1) m' σ2 H2)∧
   ∀x H2,(Itt K a).yld i H' x H2→g x σ' H2 fun σ3 H3=>tt σ3 H3 fun b H4=>if b=true then te σ3 H4 (fun v H5=>∃ys,H5 D=some (.lst ys)∧ys.length < sizeLine∧N σ3 (upd H5 D (.lst (ys++ [v])))) else N σ3 H4):=by
 refine ⟨fun i m σ H=>m=xs.length - i∧i≤xs.length∧Pv i σ H,⟨xs.length,by simp,Nat.zero_le _,h0⟩,?_⟩
 rintro i m σ H ⟨rfl,hi,p⟩
 have q:=hl i σ H hi p
 by_cases hlt:i < xs.length
 ·refine .inr ⟨⟨xs,xs[i],q,by simp [hlt]⟩,Pv (i+1),fun σ' H' p'=>⟨xs.length - (i+1),by omega,rfl,hlt,p'⟩,fun x H' y=>?_⟩
  obtain ⟨e,y⟩:=y
  subst e
  exact hs i x σ _ (y xs q) p
 ·have e:i=xs.length:=by omega
  subst e
  exact .inl ⟨⟨xs,q,Nat.le_refl _⟩,hd σ H p⟩
end
theorem Jlz {K:PySem.W.Frag} {a D:Addr} {xs:List V} {te:TE} {R:Hp→Prop} {H:Hp} {o:Option V} {rest:List (Option V)} (ys:List V) (hD:H D=none) (el:ys.length=xs.length) (sz:xs.length≤2000) (hq:H a=some (.lst xs))
  (he:∀(i:Nat) (x y:V) (H':Hp) (Q:VK),xs[i]?=some x→ys[i]?=some y→Same H H'→(∀H5,Same H' H5→Q y H5)→te (some x::rest) H' Q) (hd:∀H',Same H H'→H' D=some (.lst ys)→R H'):
  ∃W:Nat→Nat→St→Hp→Prop,(∃m,W 0 m (o::rest) (upd H D (.lst [])))∧∀i m σ' H',W i m σ' H'→((Itl K a).stop i H'∧R H')∨((Itl K a).go i H'∧∃N:St→Hp→Prop,(∀σ2 H2,N σ2 H2→∃m',m' < m∧W (i+1) m' σ2 H2)∧
   ∀x H2,(Itl K a).yld i H' x H2→Jmb 0 x σ' H2 fun σ3 H3=>tYes σ3 H3 fun b H4=>if b=true then te σ3 H4 (fun v H5=>∃ys,H5 D=some (.lst ys)∧ys.length < sizeLine∧N σ3 (upd H5 D (.lst (ys++ [v])))) else N σ3 H4):=by
 refine Jjb (fun i σ H'=>(∃o,σ=o::rest)∧H' D=some (.lst (ys.take i))∧Same H H') ⟨⟨_,rfl⟩,Ji1,Same.upd hD⟩ (fun i σ H' _ ⟨_,_,sm⟩=>SqL.of (sm _ _ hq)) ?_ ?_
 ·rintro i x σ H' hx ⟨⟨o,rfl⟩,hDs,sm⟩
  have hi:i < ys.length:=by rw [el];exact (List.getElem?_eq_some_iff.mp hx).1
  refine Jj5 (he i x ys[i] H' _ hx (List.getElem?_eq_getElem hi) sm fun H5 s5=>⟨_,s5 _ _ hDs,?_,⟨_,rfl⟩,?_,fun c u z=>?_⟩)
  ·rw [List.length_take]
   exact Jii (by omega)
  ·rw [Ji1,List.take_add_one,List.getElem?_eq_getElem hi]
   rfl
  ·rw [Ji7 (Ji8 z hD)]
   exact s5 _ _ (sm _ _ z)
 ·rintro σ H' ⟨_,hDs,sm⟩
  rw [List.take_of_length_le (by omega)] at hDs
  exact hd H' sm hDs
theorem Jx5 {K:PySem.W.Frag} {a D:Addr} {xs:List V} {te:TE} {R:Hp→Prop} {H:Hp} {o:Option V} {rest:List (Option V)} (ys:List V) (hD:H D=none) (el:ys.length=xs.length) (sz:xs.length≤2000) (hq:H a=some (.tup xs))
  (he:∀(i:Nat) (x y:V) (H':Hp) (Q:VK),xs[i]?=some x→ys[i]?=some y→Same H H'→(∀H5,Same H' H5→Q y H5)→te (some x::rest) H' Q) (hd:∀H',Same H H'→H' D=some (.lst ys)→R H'):
  ∃W:Nat→Nat→St→Hp→Prop,(∃m,W 0 m (o::rest) (upd H D (.lst [])))∧∀i m σ' H',W i m σ' H'→((Itt K a).stop i H'∧R H')∨((Itt K a).go i H'∧∃N:St→Hp→Prop,(∀σ2 H2,N σ2 H2→∃m',m' < m∧W (i+1) m' σ2 H2)∧
   ∀x H2,(Itt K a).yld i H' x H2→Jmb 0 x σ' H2 fun σ3 H3=>tYes σ3 H3 fun b H4=>if b=true then te σ3 H4 (fun v H5=>∃ys,H5 D=some (.lst ys)∧ys.length < sizeLine∧N σ3 (upd H5 D (.lst (ys++ [v])))) else N σ3 H4):=by
 refine Jyl (fun i σ H'=>(∃o,σ=o::rest)∧H' D=some (.lst (ys.take i))∧Same H H') ⟨⟨_,rfl⟩,Ji1,Same.upd hD⟩ (fun i σ H' _ ⟨_,_,sm⟩=>SqT.of (sm _ _ hq)) ?_ ?_
 ·rintro i x σ H' hx ⟨⟨o,rfl⟩,hDs,sm⟩
  have hi:i < ys.length:=by rw [el];exact (List.getElem?_eq_some_iff.mp hx).1
  refine Jj5 (he i x ys[i] H' _ hx (List.getElem?_eq_getElem hi) sm fun H5 s5=>⟨_,s5 _ _ hDs,?_,⟨_,rfl⟩,?_,fun c u z=>?_⟩)
  ·rw [List.length_take]
   exact Jii (by omega)
  ·rw [Ji1,List.take_add_one,List.getElem?_eq_getElem hi]
   rfl
  ·rw [Ji7 (Ji8 z hD)]
   exact s5 _ _ (sm _ _ z)
 ·rintro σ H' ⟨_,hDs,sm⟩
  rw [List.take_of_length_le (by omega)] at hDs
  exact hd H' sm hDs
end L2
namespace L2
open PySem PySem.Spec PyProof.Rows PySem.W
section
variable {X:Cx}
theorem Jzy {K:PySem.W.Frag} (h:X.K=K):SlR X (rSlL K):=by subst h;exact Jod
end
end L2
namespace L2
open PySem PySem.Spec PyProof.Rows PySem.W
section
variable {X:Cx}
end
end L2
namespace L2
open PySem PySem.Spec PyProof.Rows PySem.W
end L2
namespace L2
open PySem PySem.Spec PyProof.Rows PySem.W
end L2
namespace L2
open PySem PySem.Spec PyProof.Rows PySem.W
structure Z4 (z TI TO i1 i2 i3 i4 l1 l2 l3 l4:Addr):Prop where
 nd: [z,TI,TO,i1,i2,i3,i4].Nodup
 m1:l1∉ [z,TI,TO,i1,i2,i3,i4]
 m2:l2∉ [z,TI,TO,i1,i2,i3,i4]
 m3:l3∉ [z,TI,TO,i1,i2,i3,i4]
 m4:l4∉ [z,TI,TO,i1,i2,i3,i4]
section
variable {prog:Program} {w:World} {A:Around} {E:Value→Shared→Prop} {s:Shared}
variable {z TI TO i1 i2 i3 i4 l1 l2 l3 l4:Addr} {n k:Nat} {P1 P2 P3 P4:Nat→Value→Prop} {S1 S2 S3 S4:Nat→Heap→Prop} {a b c d0:Value}
end
section
variable {prog:Program} {w:World} {z TI TO i1 i2 i3 i4 l1 l2 l3 l4:Addr} {n:Nat} {P1 P2 P3 P4:Nat→Value→Prop} {S1 S2 S3 S4:Nat→Heap→Prop}
end
end L2
namespace L2
open PySem PySem.Spec PyProof.Rows PySem.W
section
variable {prog:Program} {w:World} {A:Around} {E:Value→Shared→Prop} {s:Shared}
end
section
variable {K:PySem.W.Frag} {g:TG} {σ:St} {H:Hp}
end
end L2
namespace L2
open PySem PySem.Spec PyProof.Rows PySem.W
theorem Jxr {X:Cx} {P:Program} {w:World} {K:PySem.W.Frag} {mg:Str→Option Value} {base:Heap} {o e:Expr} {es:List Expr} {m:Str} {ta:TE} {t:TA} {apos pos:Pos} {j:Nat} {pl:Sem Bool} (h1:X.prog=P) (h2:X.w=w) (h3:X.K=K) (h4:X.mg=mg) (h5:X.base=base) (he:PE X o ta) (hr:Room j X.A) (ha:PA X (e::es) t)
  (hst:starEach (e::es) X.env=(false,eval e X.env)::starEach es X.env:=by rfl) (hpl:(backTo pos (starEach es X.env)).any (·.1)=false:=by rfl)
  (ht:eval (.Call (.Attribute o m apos) (e::es) [] pos) X.env=(do
   let ov←eval o X.env
   standAt apos.atName
   let (f,first)←holding [ov] (getMethod ov m pl)
   callWith pos f first (backTo pos (starEach (e::es) X.env)) (backToKw pos (keywordEach [] X.env))):=by rfl):
  PE X (.Call (.Attribute o m apos) (e::es) [] pos) (Jw3 P w K mg base j m ta t):=by
 subst h1 h2 h3 h4 h5
 exact Jqo (pl:=pl) he hr ha hst hpl ht
end L2
namespace L2
open PySem PySem.Spec PyProof.Rows PySem.W
end L2
namespace L2
open PySem PySem.Spec PyProof.Rows PySem.W
section
variable {X:Cx}
end
end L2
namespace L2
open PySem PySem.Spec PyProof.Rows PySem.W
section
variable {X:Cx}
end
end L2
namespace L2
open PySem PySem.Spec PyProof.Rows PySem.W
theorem ft_mk {K:PySem.W.Frag} {h:Heap} {mg:Str→Option Value} (X:K.In h) (G:h.Ns mainGlobals mg) {q:Str} {st:Stmt} {ps:List Str} {f:Addr} {od an:Option Addr} {sl:Array (Option Value)} {oc kV dc pm cd ct:Value} (a:PySem.W.nsIn K mainGlobals q=some (some (.ref f)))
  (l:K.lookup f=some ⟨oc,od,.func (PySem.W.fnOf q q (Jj1 st) (Jiy st) (Ji5 st) .none kV dc pm an cd ct),sl⟩) (c:PySem.W.codeIn K cd q=true) (k:PySem.W.keepIn K (.ref f)=true)
  (hb:∀(kV doc pm:Value) (an:Option Addr) (cdv ct:Value) (us:List Value),us.length=ps.length→bindArgs (PySem.W.fnOf q q (Jj1 st) (Jiy st) (Ji5 st) .none kV doc pm an cdv ct) ⟨us,[]⟩=pure (ps.zip us)):FT K mg q st ps f (PySem.W.fnOf q q (Jj1 st) (Jiy st) (Ji5 st) .none kV dc pm an cd ct):=
 ⟨PySem.W.mg_of X G a,Jst (st:=st) l c k,(Jst (st:=st) l c k).binds hb⟩
theorem fm_mk {K:PySem.W.Frag} {n q:Str} {st:Stmt} {ps:List Str} {f:Addr} {od an:Option Addr} {sl:Array (Option Value)} {oc kV dc pm cd ct:Value}
  (l:K.lookup f=some ⟨oc,od,.func (PySem.W.fnOf n q (Jj1 st) (Jiy st) (Ji5 st) .none kV dc pm an cd ct),sl⟩) (c:PySem.W.codeIn K cd q=true) (k:PySem.W.keepIn K (.ref f)=true)
  (hb:∀(kV doc pm:Value) (an:Option Addr) (cdv ct:Value) (us:List Value),us.length=ps.length→bindArgs (PySem.W.fnOf n q (Jj1 st) (Jiy st) (Ji5 st) .none kV doc pm an cdv ct) ⟨us,[]⟩=pure (ps.zip us)):FM K n q st ps f (PySem.W.fnOf n q (Jj1 st) (Jiy st) (Ji5 st) .none kV dc pm an cd ct):=
 ⟨Jst (st:=st) l c k,(Jst (st:=st) l c k).binds hb⟩
theorem xc_mk {K:PySem.W.Frag} {C W fI:Addr} {nm q:Str} {N:Addr} {bs:List Value} {sn:List Str} {sub:List Value} {ab:Bool} {col:Option Bool} {dd:Option Addr} {u v w x y:Option Value}
  (l:K.lookup C=some (excClassObj nm q C N bs (.ref W::VEm) true sn sub ab col dd u v w x y "ValueError.__new__")) (t:PySem.W.tailIn K VEm (.ref W::VEm)=true) (a:xcB K C fI=true):XCls K C W fI:=⟨⟨_,_,_,_,_,_,_,_,_,_,_,_,_,_,l⟩,t,a⟩
theorem ec_mk {K:PySem.W.Frag} {C:Addr} {dd:Option Addr} {cl:ClassData} {s:Array (Option Value)} (l:K.lookup C=some ⟨.type "type",dd,.cls cl,s⟩) (m:PySem.W.mroIn K C (.type "BaseException")=some true):ECls K C:=⟨⟨_,_,_,l⟩,m⟩
end L2
namespace L2
open PySem PySem.Spec PyProof.Rows PySem.W
section
variable {K:PySem.W.Frag} {g:TG} {σ:St} {H:Hp}
theorem Jyj {a D:Addr} {xs:List V} {tt:TT} {te:TE} {R:Hp→Prop} (Pv:Nat→St→Hp→Prop) (h0:Pv 0 σ H) (hl:∀i σ H,i≤xs.length→Pv i σ H→SqL K H a xs)
  (hs:∀i x σ H T,xs[i]?=some x→Pv i σ H→H T=none→g (.ref T) σ (upd H T (.tup [.int i,x])) fun σ3 H3=>tt σ3 H3 fun b H4=>if b=true then te σ3 H4 (fun v H5=>∃vs,H5 D=some (.lst vs)∧vs.length < sizeLine∧Pv (i+1) σ3 (upd H5 D (.lst (vs++ [v])))) else Pv (i+1) σ3 H4)
  (hd:∀σ H,Pv xs.length σ H→R H):
  ∃W:Nat→Nat→St→Hp→Prop,(∃m,W 0 m σ H)∧∀i m σ' H',W i m σ' H'→((ItE K a).stop i H'∧R H')∨((ItE K a).go i H'∧∃N:St→Hp→Prop,(∀σ2 H2,N σ2 H2→∃m',m' < m∧W (i+1) m' σ2 H2)∧
   ∀x H2,(ItE K a).yld i H' x H2→g x σ' H2 fun σ3 H3=>tt σ3 H3 fun b H4=>if b=true then te σ3 H4 (fun v H5=>∃vs,H5 D=some (.lst vs)∧vs.length < sizeLine∧N σ3 (upd H5 D (.lst (vs++ [v])))) else N σ3 H4):=by
 refine ⟨fun i m σ H=>m=xs.length - i∧i≤xs.length∧Pv i σ H,⟨xs.length,by simp,Nat.zero_le _,h0⟩,?_⟩
 rintro i m σ H ⟨rfl,hi,p⟩
 have q:=hl i σ H hi p
 by_cases hlt:i < xs.length
 ·refine .inr ⟨⟨xs,xs[i],q,by simp [hlt]⟩,Pv (i+1),fun σ' H' p'=>⟨xs.length - (i+1),by omega,rfl,hlt,p'⟩,fun x H' y=>?_⟩
  obtain ⟨T,u,hT,rfl,hu,rfl⟩:=y
  exact hs i u σ _ T (hu xs q) p hT
 ·have e:i=xs.length:=by omega
  subst e
  exact .inl ⟨⟨xs,q,rfl⟩,hd σ H p⟩
end
end L2
namespace L2
open PySem PySem.Spec PyProof.Rows PySem.W
structure Z2 (z TI TO i1 i2 l1 l2:Addr):Prop where
 nd: [z,TI,TO,i1,i2].Nodup
 m1:l1∉ [z,TI,TO,i1,i2]
 m2:l2∉ [z,TI,TO,i1,i2]
section
variable {prog:Program} {w:World} {A:Around} {E:Value→Shared→Prop} {s:Shared}
variable {z TI TO i1 i2 l1 l2:Addr} {n k:Nat} {P1 P2:Nat→Value→Prop} {S1 S2:Nat→Heap→Prop} {a b:Value}
end
section
variable {prog:Program} {w:World} {z TI TO i1 i2 l1 l2:Addr} {n:Nat} {P1 P2:Nat→Value→Prop} {S1 S2:Nat→Heap→Prop}
end
section
variable {prog:Program} {w:World} {A:Around} {E:Value→Shared→Prop} {s:Shared}
end
section
variable {K:PySem.W.Frag} {g:TG} {σ:St} {H:Hp}
end
end L2
namespace L2
open PySem PySem.Spec PyProof.Rows PySem.W
section
variable {X:Cx}
structure ECmp (K:PySem.W.Frag) (C:Addr):Prop where
 e:PySem.W.findIn K (.ref C) "__eq__" =some (some (.builtin "object.__eq__"))
 s:PySem.W.mroIn K C (.type "str")=some false
 o:PySem.W.mroIn K C (.type "object")=some true
end
end L2
namespace L2
open PySem PySem.Spec PyProof.Rows PySem.W
inductive Oth (K:PySem.W.Frag) (H:Hp):V→Prop where
 |flat {y:V}:Jn7 y=true→Oth K H y
 |lst {p:Addr} {xs:List V}:H p=some (.lst xs)→Oth K H (.ref p)
 |tup {p:Addr} {xs:List V}:H p=some (.tup xs)→Oth K H (.ref p)
 |dct {p:Addr} {kvs:List (Key×V)}:H p=some (.dK kvs)→Oth K H (.ref p)
 |ins {p C dx:Addr} {fs:List (Str×V)}:H p=some (.ins C dx fs)→ECmp K C→Oth K H (.ref p)
section
variable {X:Cx}
end
end L2
namespace L2
open PySem PySem.Spec PyProof.Rows PySem.W
section
variable {X:Cx}
end
end L2
namespace L2
open PySem PySem.Spec PyProof.Rows
section
variable {H:Hp} {lb:Array (Nat×Nat×Str)}
theorem TrOk.triples {l:List Value} (x:TrOk H lb l):TriplesOk l:=by
 fun_induction TrOk H lb l with
 |case1=>exact True.intro
 |case2 l _ c _ v r ih=>exact ih x.2
 |case3=>exact x.elim
theorem TrOk.hit {pos:Pos} {v:Value} {l:List Value} (x:TrOk H lb l) (h:codeAmong pos l=some v):∃(q:Str) (a:Addr),(pos.line,pos.col,q)∈lb∧v= .ref a∧H a=some (.cod q):=by
 fun_induction TrOk H lb l with
 |case1=>cases h
 |case2 l _ c _ v' r ih=>
  obtain ⟨⟨n,m,q,a,h1,h2,h3,h4,h5⟩,h6⟩:=x
  unfold codeAmong at h
  split at h
  ·rename_i hc
   cases h
   simp only [Bool.and_eq_true,beq_iff_eq] at hc
   have e1:n=pos.line:=by omega
   have e2:m=pos.col:=by omega
   rw [e1,e2] at h1
   exact ⟨q,a,h1,h4,h5⟩
  ·exact ih h6 h
 |case3=>exact x.elim
theorem TrOk.snoc {pos:Pos} {q:Str} {a:Addr} (hm:(pos.line,pos.col,q)∈lb) (ha:H a=some (.cod q)) {l:List Value} (x:TrOk H lb l):TrOk H lb (l++ [rawInt pos.line,rawInt pos.col,.ref a]):=by
 fun_induction TrOk H lb l with
 |case1=>exact ⟨⟨_,_,q,a,hm,rfl,rfl,rfl,ha⟩,True.intro⟩
 |case2 l _ c _ v r ih=>exact ⟨x.1,ih x.2⟩
 |case3=>exact x.elim
end
def cdfB (vs:Array Value) (c P:Addr):Bool:=
 (match (vs[11]?:Option Value) with|some (.ref p)=>p==P|_=>false)&&(match vs.getD 11 .none with| .ref p=>p==P|_=>false)&&(match vs.getD 18 .none with| .str _ _=>true|_=>false)&&(match vs.getD 7 .none with| .int _ _=>true|_=>false)&&
 (match vs.getD 9 .none with| .bool _=>true|_=>false)&&(match vs.getD 10 .none with| .int _ _=>true|_=>false)&&!(c==P)
structure Nst (K:PySem.W.Frag) (f c P:Addr):Prop where
 fn:∃(oc:Value) (od:Option Addr) (fd:FuncData) (sl:Array (Option Value)),K.lookup f=some ⟨oc,od,.func fd,sl⟩∧fd.code= .ref c
 hd:∃(od:Option Addr) (vs:Array Value) (sl:Array (Option Value)),K.lookup c=some ⟨.type "code",od,.fields vs,sl⟩∧cdfB vs c P=true
theorem Nst.code {K:PySem.W.Frag} {f c P:Addr} {h:Heap} (n:Nst K f c P) (X:K.In h):PySem.W.CodeHd h c P:=by
 obtain ⟨od,vs,sl,lk,b⟩:=n.hd
 unfold cdfB at b
 simp only [Bool.and_eq_true] at b
 obtain ⟨⟨⟨⟨⟨⟨b1,b2⟩,b3⟩,b4⟩,b5⟩,b6⟩,b7⟩:=b
 have e1:vs[11]?=some (.ref P):=by
  split at b1
  ·rename_i p e;rw [e,beq_iff_eq.mp b1]
  ·cases b1
 have e2:vs.getD 11 .none= .ref P:=by
  split at b2
  ·rename_i p e;rw [e,beq_iff_eq.mp b2]
  ·cases b2
 have e3:∃x t,vs.getD 18 .none= .str x t:=by
  split at b3
  ·rename_i x t e;exact ⟨x,t,e⟩
  ·cases b3
 have e4:∃x t,vs.getD 7 .none= .int x t:=by
  split at b4
  ·rename_i x t e;exact ⟨x,t,e⟩
  ·cases b4
 have e5:∃x,vs.getD 9 .none= .bool x:=by
  split at b5
  ·rename_i x e;exact ⟨x,e⟩
  ·cases b5
 have e6:∃x t,vs.getD 10 .none= .int x t:=by
  split at b6
  ·rename_i x t e;exact ⟨x,t,e⟩
  ·cases b6
 obtain ⟨f1,t1,e3⟩:=e3
 obtain ⟨f2,t2,e4⟩:=e4
 obtain ⟨f3,e5⟩:=e5
 obtain ⟨f4,t4,e6⟩:=e6
 exact ⟨_,vs,f1,t1,f2,t2,f3,f4,t4,X _ _ lk,rfl,rfl,e1,e2,e3,e4,e5,e6,by simpa using b7⟩
def Bmn (mg:Str→Option Value) (base:Heap):Prop:=∃bm ob,mg "__builtins__" =some (.ref bm)∧bm≠builtinsNs∧base.get? bm=some ob∧ob.cls= .type "module" ∧ob.dict=some builtinsNs∧ob.data= .plain
def Clo (f:Addr) (name qual:Str) (st:Stmt) (clos:List (Str×Addr)) (c:Addr):HO:=
 .ext fun h=>∃doc pm ct:Value,h.get? f=some {cls:=.type "function",data:=.func (PySem.W.fnX name qual (Jj1 st) (Jiy st) (Ji5 st) clos .none .none doc pm none (.ref c) ct)}
theorem Jtt {P:Program} {w:World} {H:Hp} {h:Heap} {f:Addr} {name qual:Str} {st:Stmt} {clos:List (Str×Addr)} {c:Addr} {doc pm ct:Value}
  (e:h.get? f=some {cls:=.type "function",data:=.func (PySem.W.fnX name qual (Jj1 st) (Jiy st) (Ji5 st) clos .none .none doc pm none (.ref c) ct)}):ObjOk P w H h f (Clo f name qual st clos c):=
 ⟨⟨doc,pm,ct,e⟩,⟨_,e⟩,fun _ _ ⟨d,p,t,z⟩ k=>⟨d,p,t,k _ z⟩⟩
section
variable {X:Cx} {pins:List (Addr×Obj)} {σ:St} {H:Hp} {s:Shared} {M:Model} {A:Around} {E:Value→Shared→Prop} {name qual:Str} {st:Stmt} {pos:Pos} {firstLine:Nat} {c P:Addr} {lb:Array (Nat×Nat×Str)} {clos:List (Str×Addr)} {Q:Value→Shared→Prop}
theorem Jyp (I:Inv X pins σ H s) (hcd:X.env.code= .ref c) (C:PySem.W.CodeHd X.base c P) (B:Bmn X.mg X.base) (ht:H P=some (.tbl lb)) (hm:(pos.line,pos.col,qual)∈lb) (hu:∀q,(pos.line,pos.col,q)∈lb→q=qual)
  (hcl:closureFor (Ji5 st) X.env=pure clos)
  (h:∀s' f c' H',Inv X pins σ H' s'→Same H H'→H f=none→H' f=some (Clo f name qual st clos c')→H' c'=some (.cod qual)→Q (.ref f) s'):
  wpAny M A (makeFunction name qual (Jj1 st) (.stmts (Jiy st)) (Ji5 st) X.env [] [] [] pos firstLine) Q E s:=by
 obtain ⟨ts,eP,tr⟩:=I.hok P _ ht
 have hg:s.heap.Ns mainGlobals X.mg:=I.mod.glob.keeps I.bk
 have CH:=C.keeps I.bk
 have hgP:mainGlobals≠P:=fun z=>by
  obtain ⟨o,es,ep,e1,e2,_⟩:=hg
  rw [z,eP] at e1;cases e1;cases e2
 have BA:s.heap.BuiltinsAt X.mg P:=by
  obtain ⟨bm,ob,b1,b2,b3,b4,b5,b6⟩:=B
  have b3':=I.bk _ _ b3
  refine ⟨bm,ob,b1,b2,fun z=>?_,fun z=>?_,b3',b4,b5,b6⟩
  ·obtain ⟨o,es,ep,e1,e2,_⟩:=hg
   rw [←z,b3'] at e1;cases e1;rw [b6] at e2;cases e2
  ·rw [z,eP] at b3';cases b3';cases b4
 cases hq:codeAmong pos ts.toList with
 |some v=>
  obtain ⟨q,a,m1,rfl,m2⟩:=tr.hit hq
  obtain rfl:=hu q m1
  refine PySem.W.makeFunction_hit (P:=P) (ps:=ts) hcl I.ok.glob hg hcd CH eP tr.triples hq BA fun ctv doc h' tk hk hsz=>?_
  have hf:H h'.objs.size=none:=I.hok.fresh hsz
  have J:=I.laid (a:=h'.objs.size) (o:=Clo h'.objs.size name q st clos a) (t':=tk) (h':=h'.push {cls:=.type "function",data:=.func (PySem.W.fnX name q (Jj1 st) (Jiy st) (Ji5 st) clos .none .none doc ((X.mg "__name__").getD .none) none (.ref a) ctv)})
   (fun b u z=>Heap.get?_push_of_some _ (hk b u z)) hsz (Jtt (Heap.get?_push_size _ rfl))
  exact h _ _ a _ J (Same.upd hf) hf Ji1 (by rw [Ji7 (Ji8 m2 hf)];exact m2)
 |none=>
  refine PySem.W.makeFunction_K (P:=P) (ps:=ts) hcl I.ok.glob hg hcd CH eP tr.triples hq hgP BA fun c' ctv doc h' tk hx hge hlt hrec htb=>?_
  have hc':H c'=none:=I.hok.fresh hge
  have hf:H h'.objs.size=none:=I.hok.fresh (Nat.le_trans hge (Nat.le_of_lt hlt))
  have nfc:h'.objs.size≠c':=Nat.ne_of_gt hlt
  have nP:∀b,H b=none→b≠P:=fun b z w'=>by rw [w',ht] at z;cases z
  let H':Hp:=upd (upd H c' (.cod qual)) h'.objs.size (Clo h'.objs.size name qual st clos c')
  let o':Obj:={cls:=.type "function",data:=.func (PySem.W.fnX name qual (Jj1 st) (Jiy st) (Ji5 st) clos .none .none doc ((X.mg "__name__").getD .none) none (.ref c') ctv)}
  have hS:Same H H':=(Same.upd hc').trans (Same.upd (by rw [Ji7 nfc];exact hf))
  have hkp:∀b o,b≠P→s.heap.get? b=some o→(h'.push o').get? b=some o:=fun b o n z=>Heap.get?_push_of_some _ (hx b o n z)
  have hc1:H' c'=some (.cod qual):=by show upd (upd H c' _) _ _ c'=_;rw [Ji7 (Ne.symm nfc),Ji1]
  have bl:∀b o,s.heap.get? b=some o→b≠c'∧b≠h'.objs.size:=fun b o z=>by
   have q:=Nat.lt_of_lt_of_le (Heap.lt_size z) hge
   exact ⟨Nat.ne_of_lt q,Nat.ne_of_lt (Nat.lt_trans q hlt)⟩
  have J:Inv X pins σ H' {s with heap:=h'.push o',toks:=tk}:=by
   refine I.un (t':=tk) ⟨fun b o z n _ _=>hkp b o (nP b n) z,fun b o z n _ _=>⟨o.slots,hkp b o (nP b n) z⟩,fun b o z n _=>?_,fun b o z _=>?_,fun b xs z=>hS _ _ z,fun b o u z=>hS _ _ z,fun b ps z=>⟨#[],by rw [hS _ _ z];simp⟩⟩ fun b u z=>?_
   ·show upd (upd H c' _) _ _ b=none
    rw [Ji7 (bl b o z).2,Ji7 (bl b o z).1];exact n
   ·by_cases w':b=P
    ·exact ⟨_,by rw [w'];exact Heap.get?_push_of_some _ htb⟩
    ·exact ⟨o,hkp b o w' z⟩
   ·by_cases w1:b=h'.objs.size
    ·have z':H' b=some (Clo h'.objs.size name qual st clos c'):=by rw [w1];exact Ji1
     rw [z'] at z;cases z
     rw [w1]
     exact Jtt (Heap.get?_push_size _ rfl)
    ·by_cases w2:b=c'
     ·rw [w2,hc1] at z;cases z
      rw [w2]
      exact hrec.keeps fun _ _ z=>Heap.get?_push_of_some _ z
     ·have z':H b=some u:=by
       have:H' b=H b:=by show upd (upd H c' _) _ _ b=_;rw [Ji7 w1,Ji7 w2]
       rw [←this];exact z
      by_cases w3:b=P
      ·rw [w3,ht] at z';cases z'
       refine ⟨_,by rw [w3];exact Heap.get?_push_of_some _ htb,?_⟩
       rw [Array.toList_append]
       exact TrOk.snoc hm hc1 (tr.mono fun b q z=>hS _ _ z)
      ·refine (I.hok b u z').stay (fun c v hc zz=>hkp c v ?_ zz) (fun c zz=>hS _ _ zz) (fun c xs zz=>hS _ _ zz) fun c q zz=>hS _ _ zz
       rcases hc with rfl|hc
       ·exact w3
       ·intro w';rw [w',ht] at hc;cases hc
  exact h _ _ c' H' J hS hf Ji1 hc1
end
end L2
namespace L2
open PySem PySem.Spec PyProof.Rows
def CelAt (H:Hp) (c:Addr) (v:V):Prop:=∃o u,H c=some (celF o)∧o.data= .cell (some u)∧RelV v u
theorem CelAt.same {H H':Hp} {c:Addr} {v:V} (s:Same H H') (h:CelAt H c v):CelAt H' c v:=let ⟨o,u,a,b,d⟩:=h;⟨o,u,s _ _ a,b,d⟩
def CloAt (H:Hp) (f:Addr) (name qual:Str) (st:Stmt) (caps:List (Str×V)):Prop:=
 ∃(clos:List (Str×Addr)) (c:Addr),H f=some (Clo f name qual st clos c)∧H c=some (.cod qual)∧(∀x y b,clos.lookup x=some b→clos.lookup y=some b→x=y)∧(∀y∈(Ji5 st).names,y.2= .free→∃b,clos.lookup y.1=some b)∧
  (∀x b,clos.lookup x=some b→∃v,CelAt H b v)∧∀x v,(x,v)∈caps→∃b,clos.lookup x=some b∧CelAt H b v
theorem CloAt.same {H H':Hp} {f:Addr} {name qual:Str} {st:Stmt} {caps:List (Str×V)} (s:Same H H') (h:CloAt H f name qual st caps):CloAt H' f name qual st caps:=
 let ⟨clos,c,a,b,d,e,g,k⟩:=h
 ⟨clos,c,s _ _ a,s _ _ b,d,e,fun x b z=>let ⟨v,q⟩:=g x b z;⟨v,q.same s⟩,fun x v z=>let ⟨b,q1,q2⟩:=k x v z;⟨b,q1,q2.same s⟩⟩
def IsF (H:Hp) (f:Addr):Prop:=∃name qual st clos c,H f=some (Clo f name qual st clos c)
theorem CloAt.isf {H:Hp} {f:Addr} {name qual:Str} {st:Stmt} {caps:List (Str×V)} (h:CloAt H f name qual st caps):IsF H f:=let ⟨clos,c,a,_⟩:=h;⟨name,qual,st,clos,c,a⟩
def Cx.fix (X:Cx) (cn:Str→Bool):Cx:={X with fn:=fun x=>X.fn x&&!cn x}
open Classical in
noncomputable def Jp4 (X:Cx) (cn:Str→Bool) (h:Heap) (H:Hp):Hp:=fun b=>if ∃x,cn x=true∧X.fn x=true∧X.env.cells.lookup x=some b then (h.get? b).map celF else H b
section
variable {X:Cx} {pins:List (Addr×Obj)} {σ:St} {H:Hp} {s:Shared} {cn:Str→Bool}
theorem Jtl {h:Heap} {b:Addr} {o:Obj} {x:Str} (h1:cn x=true) (h2:X.fn x=true) (h3:X.env.cells.lookup x=some b) (e:h.get? b=some o):Jp4 X cn h H b=some (celF o):=by
 unfold Jp4
 rw [if_pos ⟨x,h1,h2,h3⟩,e]
 rfl
theorem Joe {h:Heap} {b:Addr} (n:¬∃x,cn x=true∧X.fn x=true∧X.env.cells.lookup x=some b):Jp4 X cn h H b=H b:=by
 unfold Jp4
 rw [if_neg n]
theorem Yi (I:Inv X pins σ H s) {b:Addr} {o:HO} (e:H b=some o):Jp4 X cn s.heap H b=some o:=by
 rw [Joe]
 ·exact e
 ·rintro ⟨x,_,h2,h3⟩
  rcases I.freeC x b h3 with n|⟨f,_⟩
  ·rw [n] at e;cases e
  ·rw [h2] at f;cases f
theorem Inv.fix (I:Inv X pins σ H s) (cn:Str→Bool):Inv (X.fix cn) pins σ (Jp4 X cn s.heap H) s∧Same H (Jp4 X cn s.heap H):=by
 have hS:Same H (Jp4 X cn s.heap H):=fun b o e=>Yi I e
 have hn:∀b,H b=none→(∀x,cn x=true→X.fn x=true→X.env.cells.lookup x≠some b)→Jp4 X cn s.heap H b=none:=fun b e n=>by
  rw [Joe]
  ·exact e
  ·rintro ⟨x,h1,h2,h3⟩;exact n x h1 h2 h3
 refine ⟨⟨⟨I.ok.mod,I.ok.kind,I.ok.glob,I.ok.blt,I.ok.above,I.ok.inj,I.ok.has,fun x c hx hc=>I.ok.cab x c ?_ hc,I.ok.hd,I.ok.frames,I.ok.stk,I.ok.exf,I.ok.bs,I.ok.bsz,I.ok.noex,I.ok.exfs,I.ok.funs,I.ok.frf⟩,I.os,I.bare,
  ⟨I.base.keep,I.base.slot,fun b o e n hx=>?_,I.base.there,fun b xs e=>hS _ _ (I.base.tups b xs e),fun b o u e=>hS _ _ (I.base.frzs b o u e),fun b ps e=>?_⟩,I.loc,I.cell,?_,fun x c e=>?_,fun p hp=>?_,fun b u e=>?_,I.len⟩,hS⟩
 ·have hx':(X.fn x&&!cn x)=true:=hx
  rw [Bool.and_eq_true] at hx'
  exact hx'.1
 ·exact hn b (I.base.free b o e n hx) fun x _ h2 h3=>absurd (Nat.lt_of_lt_of_le (Heap.lt_size e) (I.ok.cab x b h2 h3)) (Nat.lt_irrefl _)
 ·obtain ⟨m,q⟩:=I.base.tbls b ps e
  exact ⟨m,hS _ _ q⟩
 ·exact hn _ I.free fun x _ _ h3=>I.cne x _ h3 rfl
 ·have e':X.env.cells.lookup x=some c:=e
  by_cases hc:cn x=true∧X.fn x=true
  ·obtain ⟨v,o,ho,hd⟩:=I.cell x c e'
   refine .inr ⟨?_,o,Jtl hc.1 hc.2 e' ho⟩
   show (X.fn x&&!cn x)=false
   rw [hc.1];simp
  ·have out:Jp4 X cn s.heap H c=H c:=Joe fun ⟨y,h1,h2,h3⟩=>hc (by rw [I.ok.inj x y c e' h3];exact ⟨h1,h2⟩)
   rcases I.freeC x c e' with n|⟨f,o,q⟩
   ·exact .inl (out.trans n)
   ·refine .inr ⟨?_,o,out.trans q⟩
    show (X.fn x&&!cn x)=false
    rw [f];rfl
 ·obtain ⟨e,n,ne,nf,d⟩:=I.pin p hp
  refine ⟨e,hn _ n fun x _ _ h3=>?_,ne,nf,d⟩
  obtain ⟨v,o,ho,hd⟩:=I.cell x _ h3
  rw [e] at ho;cases ho
  exact d v hd
 ·by_cases hb:∃x,cn x=true∧X.fn x=true∧X.env.cells.lookup x=some b
  ·obtain ⟨x,h1,h2,h3⟩:=hb
   obtain ⟨v,o,ho,hd⟩:=I.cell x b h3
   rw [Jtl h1 h2 h3 ho] at e
   cases e
   exact ⟨ho,True.intro,⟨o,ho⟩,fun _ _ _ _=>True.intro⟩
  ·rw [Joe hb] at e
   exact (I.hok b u e).stay (fun _ _ _ q=>q) (fun _ q=>hS _ _ q) (fun _ _ q=>hS _ _ q) fun _ _ q=>hS _ _ q
theorem Inv.celAt (I:Inv X pins σ H s) (J:Inv (X.fix cn) pins σ (Jp4 X cn s.heap H) s) {j:Nat} {x:Str} {v:V} (h1:X.N[j]?=some x) (h2:σ[j]?=some (some v)) (hv:X.env.kindOf x=some .cell∨X.env.kindOf x=some .free) (hc:cn x=true) (hf:X.fn x=true):
  ∃b,X.env.cells.lookup x=some b∧CelAt (Jp4 X cn s.heap H) b v:=by
 obtain ⟨m,_,hl⟩:=I.loc
 have hvis:Vis X.env.scope x:=hv.elim (fun z=>.inr (.inl z)) fun z=>.inr (.inr z)
 obtain ⟨u,r,l⟩:=hl j x v h1 h2 hvis
 rcases l with ⟨k,_⟩|⟨k,b,e,o,ho,hd⟩
 ·rcases hv with z|z
  ·rw [k] at z;cases z
  ·rw [k] at z;cases z
 ·exact ⟨b,e,o,u,Jtl hc hf e ho,hd,r⟩
end
def Fin (X:Cx) (H:Hp) (s:Shared):Prop:=s.os=X.s₀.os∧AllBare s.gens∧Un X.fs X.ex X.H₀ H X.s₀.heap s.heap∧HOk X.prog X.w H s.heap
theorem Inv.fin {X:Cx} {pins:List (Addr×Obj)} {σ:St} {H:Hp} {s:Shared} (I:Inv X pins σ H s):Fin X H s:=⟨I.os,I.bare,I.base,I.hok⟩
def SB (X:Cx) (D:Ends) (f:Flow) (s':Shared):Prop:=
 match f with
 | .next=>∃σ' H',Fin X H' s'∧D.nx σ' H'
 | .brk=>∃σ' H',Fin X H' s'∧D.bk σ' H'
 | .cont=>∃σ' H',Fin X H' s'∧D.ct σ' H'
 | .ret u=>∃v H',Fin X H' s'∧RelV v u∧D.rt v H'
theorem SP.sb {X:Cx} {pins:List (Addr×Obj)} {D:Ends} {f:Flow} {s':Shared} (h:SP X pins D f s'):SB X D f s':=by
 cases f with
 |next=>obtain ⟨σ',H',I,q⟩:=h;exact ⟨σ',H',I.fin,q⟩
 |brk=>obtain ⟨σ',H',I,q⟩:=h;exact ⟨σ',H',I.fin,q⟩
 |cont=>obtain ⟨σ',H',I,q⟩:=h;exact ⟨σ',H',I.fin,q⟩
 |ret u=>obtain ⟨v,σ',H',I,r,q⟩:=h;exact ⟨v,H',I.fin,r,q⟩
def PB (X:Cx) (st:List Stmt) (t:TS):Prop:=
 ∀(pins:List (Addr×Obj)) (s:Shared) (σ:St) (H:Hp) (D:Ends),Inv X pins σ H s→t D σ H→wpAny (model X.prog X.w) X.A (execs st X.env) (SB X D) X.xe s
section
variable {X:Cx} {st:Stmt} {rest:List Stmt} {t u:TS}
theorem PSs.pb {l:List Stmt} (h:PSs X l t):PB X l t:=fun pins s σ H D I q=>thn (h pins s σ H D I q) fun _ _ z=>z.sb
end
theorem Jlf {cells:List (Str×Addr)} {x:Str} {b:Addr}:∀(ns:List (Str×NameKind)) (acc:List (Str×Addr)),(Jk8 cells ns acc).lookup x=some b→acc.lookup x=none→(x,NameKind.free)∈ns
 | [],_,e,n=>by unfold Jk8 at e;rw [n] at e;cases e
 | (y,k) :: r,acc,e,n=>by
  unfold Jk8 at e
  by_cases hk:(k==NameKind.free)=true
  ·rw [if_pos hk] at e
   have hk':k= .free:=by simpa using hk
   subst hk'
   by_cases hx:x=y
   ·subst hx;exact List.mem_cons_self
   ·cases hc:cells.lookup y with
    |none=>rw [hc] at e;exact List.mem_cons_of_mem _ (Jlf r acc e n)
    |some d=>
     rw [hc] at e
     refine List.mem_cons_of_mem _ (Jlf r _ e ?_)
     rw [List.lookup_cons,beq_eq_false_iff_ne.mpr hx]
     exact n
  ·rw [if_neg hk] at e
   exact List.mem_cons_of_mem _ (Jlf r acc e n)
def Jqq (s:Stmt):Pos:=match s with
 | .FunctionDef _ _ _ _ _ _ _ _ _ p=>p
 |_=>⟨0,0,0,0⟩
def tDef (P:Addr) (lb:Array (Nat×Nat×Str)) (i:Nat) (name qual:Str) (st:Stmt) (caps:List (Str×Nat)) (t:TS):TS:=fun D σ H=>H P=some (.tbl lb)∧∃vs:List V,(∀y∈caps.zip vs,σ[y.1.2]?=some (some y.2))∧caps.length=vs.length∧
 ∀f H',Same H H'→H f=none→CloAt H' f name qual st ((caps.map (·.1)).zip vs)→t D (σ.set i (some (.ref f))) H'
section
variable {X:Cx} {rest:List Stmt} {t:TS} {st:Stmt} {name qual:Str} {i:Nat} {c P:Addr} {lb:Array (Nat×Nat×Str)} {caps:List (Str×Nat)}
theorem pb_def {f₀:Addr} (n:Nst X.K f₀ c P) (B:Bmn X.mg X.base) (hcd:X.env.code= .ref c) (hst:st= .FunctionDef name (Jj1 st) (Jiy st) [] none [] (Ji5 st) none name (Jqq st))
  (hd:(Jj1 st).defaults= []) (hk:(Jj1 st).kw_defaults= []) (ha:annTrees (Jj1 st) none X.env= []) (hq:qualnameIn X.env name name=qual) (hm:((Jqq st).line,(Jqq st).col,qual)∈lb) (hu:∀q,((Jqq st).line,(Jqq st).col,q)∈lb→q=qual)
  (hN:X.N.Nodup) (hi:X.N[i]?=some name) (hx:X.env.scope.names.lookup name=some .local)
  (hcap:∀y∈caps,X.N[y.2]?=some y.1∧y.2≠i∧(Ji5 st).names.lookup y.1=some .free∧X.fn y.1=true∧X.env.scope.names.lookup y.1=some .cell)
  (hall:∀y∈(Ji5 st).names,y.2= .free→y.1∈caps.map (·.1))
  (hr:PB (X.fix fun x=>(caps.map (·.1)).contains x) rest t):PB X (st::rest) (tDef P lb i name qual st caps t):=by
 intro pins s σ H D I h
 obtain ⟨ht,vs,hvs,hlen,h⟩:=h
 have hcel:∀y∈caps,X.env.scope.names.lookup y.1=some .cell:=fun y hy=>(hcap y hy).2.2.2.2
 have hfr:∀y∈(Ji5 st).names,y.2= .free→∃b,X.env.cells.lookup y.1=some b:=fun y hy hyf=>by
  obtain ⟨z,hz,ez⟩:=List.mem_map.mp (hall y hy hyf)
  rw [←ez]
  exact I.ok.has z.1 (.inl (hcel z hz))
 have hcl:=Jn6 (env:=X.env) hfr
 refine wpAny_execs_cons ?_
 rw [hst]
 refine PySem.W.nestDef_K hd hk ha ?_
 rw [hq]
 refine Jyp I hcd (n.code I.mod.kin) B ht hm hu hcl fun s1 f c' H1 I1 s01 hf hclo hcod=>?_
 refine Jmt I1 hN hi (.inl hx) (v:=.ref f) rfl (fun s2 I2=>?_) (.inr hx)
 obtain ⟨J,sJ⟩:=I2.fix (fun x=>(caps.map (·.1)).contains x)
 have hS:=s01.trans sJ
 have hin:∀x b,(Jk8 X.env.cells (Ji5 st).names []).lookup x=some b→X.env.cells.lookup x=some b:=fun x b e=>Jl8 (cells:=X.env.cells) _ [] (fun x c e=>by simp at e) x b e
 have cel:∀(k:Nat) (y:Str×Nat) (v:V),caps[k]?=some y→vs[k]?=some v→∃b,X.env.cells.lookup y.1=some b∧CelAt (Jp4 X (fun x=>(caps.map (·.1)).contains x) s2.heap H1) b v:=fun k y v e1 e2=>by
  have hy:=List.mem_of_getElem? e1
  obtain ⟨c1,c2,c3,c4,_⟩:=hcap y hy
  have hσ:σ[y.2]?=some (some v):=hvs (y,v) (List.mem_of_getElem? (i:=k) (by rw [List.getElem?_zip_eq_some];exact ⟨e1,e2⟩))
  refine I2.celAt J c1 (by rw [List.getElem?_set_ne (Ne.symm c2)];exact hσ) (.inl (hcel y hy)) ?_ c4
  exact List.contains_iff_mem.mpr (List.mem_map_of_mem hy)
 refine hr pins s2 _ _ D J (h f _ hS hf ⟨_,c',sJ _ _ hclo,sJ _ _ hcod,fun x y b h1 h2=>I.ok.inj x y b ?_ ?_,fun y hy hyf=>?_,fun x b e=>?_,fun x v e=>?_⟩)
 ·exact hin x b h1
 ·exact hin y b h2
 ·have hh:=Jkj (cells:=X.env.cells) (x:=y.1) (Ji5 st).names [] (by rw [←hyf];exact hy) (hfr y hy hyf)
  exact Option.isSome_iff_exists.mp hh
 ·obtain ⟨y,hy,rfl⟩:=List.mem_map.mp (hall (x,.free) (Jlf (Ji5 st).names [] e (by simp)) rfl)
  obtain ⟨k,hk⟩:=List.getElem?_of_mem hy
  have hk':k < vs.length:=by rw [←hlen];exact (List.getElem?_eq_some_iff.mp hk).1
  obtain ⟨b',e1,e2⟩:=cel k y vs[k] hk (List.getElem?_eq_getElem hk')
  have e3:=hin _ _ e
  rw [e1] at e3;cases e3
  exact ⟨_,e2⟩
 ·obtain ⟨k,hk⟩:=List.getElem?_of_mem e
  rw [List.getElem?_zip_eq_some,List.getElem?_map] at hk
  obtain ⟨k1,k2⟩:=hk
  cases hy:caps[k]? with
  |none=>rw [hy] at k1;cases k1
  |some y=>
   rw [hy] at k1
   cases k1
   obtain ⟨b,e1,e2⟩:=cel k y v hy k2
   have hm:=List.mem_of_getElem? hy
   have hh:=Jkj (cells:=X.env.cells) (x:=y.1) (Ji5 st).names [] (PySem.mem_of_lookup (hcap y hm).2.2.1) ⟨b,e1⟩
   obtain ⟨b',e3⟩:=Option.isSome_iff_exists.mp hh
   have e4:=hin _ _ e3
   rw [e1] at e4;cases e4
   exact ⟨_,e3,e2⟩
end
end L2
namespace L2
open PySem PySem.Spec PyProof.Rows
theorem Fun.okN {CX:CXT} {P:Program} {w:World} {K:PySem.W.Frag} {mg:Str→Option Value} {base:Heap} {x qual:Str} {st:Stmt} {f c T:Addr} {fd:FuncData} {N ps:List Str} {k:Nat} {sp:Sp} (F:Fun K x qual st f fd) (n:Nst K f c T) (S:Jia N ps (Ji5 st)) (len:∀vs H Q E,sp vs H Q E→vs.length=ps.length)
  (hbody:∀(A:Around) (outer:List Env) (s:Shared) (H:Hp) (vs:List V) (Q:VK) (E:XK),Room k (A.deeper (envOfC qual (Ji5 st) s.heap.objs.size f (.ref c)))→sp vs H Q E→
   ∃t,PB (Jss CX P w K mg base N qual (Ji5 st) f (.ref c) A outer s H E) (Jiy st) t∧t {nx:=fun _ H'=>Q .non H',rt:=Q} (start N vs) H):FnOk P w K mg base CX (k+1) f fd ps sp:=by
 obtain ⟨oc,od,kV,doc,pm,an,cdv,ct,osl,rfl,lk,hcd⟩:=F.ex
 have ec:cdv= .ref c:=by
  obtain ⟨oc',od',fd',sl',l',e'⟩:=n.fn
  rw [lk] at l';cases l'
  exact e'
 subst ec
 refine ⟨len,fun A outer s H args us vs Q E hr e0 hb r hsp=>?_⟩
 have hl:=len _ _ _ _ hsp
 have KX:K.In s.heap:=e0.mod.kin.keeps fun b o e=>(e0.bs b o e).1
 have lim:s.heap.NoLimit:=e0.mod.nolimit.keeps fun b o e=>(e0.bs b o e).1
 refine codeAny_call_function hr.depth (KX _ _ lk) rfl S.co S.gen rfl (PySem.W.codeRec_of KX hcd) (hb _ _ _ _ ?_)
 refine wpAny_newFunctionEnv_cells S.kind (fun ⟨y,v⟩ hy=>?_) fun env he s1 z=>?_
 ·exact (S.par y (List.of_mem_zip hy).1).imp id fun q=>⟨q,PySem.W.cellsFrom_some _ _ _ (.inl q)⟩
 subst he
 refine ⟨lim.keeps z.toInCall.keep,codeAny_func ?_⟩
 obtain ⟨t,ht,hq⟩:=hbody A outer s H vs Q E (hr.deeper _) hsp
 refine wpAny_mono (ht [] s1 (start N vs) H _ (Js0 S hr.hd e0 hl r z) hq) (fun fl s' hs=>?_) fun e s' hs=>hs
 cases fl with
 |ret u=>
  obtain ⟨v,H',⟨a1,a2,a3,a4⟩,rv,q⟩:=hs
  exact ⟨v,H',a1,a2,a3,a4,rv,q⟩
 |next=>
  obtain ⟨σ',H',⟨a1,a2,a3,a4⟩,q⟩:=hs
  exact ⟨.non,H',a1,a2,a3,a4,rfl,q⟩
 |brk=>
  obtain ⟨_,_,_,q⟩:=hs
  exact False.elim q
 |cont=>
  obtain ⟨_,_,_,q⟩:=hs
  exact False.elim q
theorem Jko:∀(ns:List (Str×NameKind)) (n:Nat) (acc:List (Str×Addr)),cellsFrom n ns acc=cellsFrom n ns []++acc
 | [],_,_=>rfl
 | (x,k) :: r,n,acc=>by
  unfold cellsFrom
  split
  ·rw [Jko r (n+1) ((x,n)::acc),Jko r (n+1) [(x,n)],List.append_assoc]
   rfl
  ·exact Jko r n acc
theorem Jlx {x:Str} {b:Addr}:∀(ns:List (Str×NameKind)) (n:Nat) (acc:List (Str×Addr)),(cellsFrom n ns acc).lookup x=some b→acc.lookup x=none→(x,NameKind.cell)∈ns
 | [],_,_,e,m=>by unfold cellsFrom at e;rw [m] at e;cases e
 | (y,k) :: r,n,acc,e,m=>by
  unfold cellsFrom at e
  split at e
  ·rename_i hk
   have hk':k= .cell:=by simpa using hk
   subst hk'
   by_cases hx:x=y
   ·subst hx;exact List.mem_cons_self
   ·refine List.mem_cons_of_mem _ (Jlx r _ _ e ?_)
    rw [List.lookup_cons,beq_eq_false_iff_ne.mpr hx]
    exact m
  ·exact List.mem_cons_of_mem _ (Jlx r _ _ e m)
theorem Jkl {α β:Type} [BEq α] {x:α}:∀(l m:List (α×β)),(l++m).lookup x=(l.lookup x).or (m.lookup x)
 | [],_=>rfl
 | (y,v) :: r,m=>by
  rw [List.cons_append,List.lookup_cons,List.lookup_cons]
  split
  ·rfl
  ·exact Jkl r m
section
variable {M:Model} {A:Around} {E:Value→Shared→Prop} {s₀ s:Shared} {m cm:Str→Option Value} {env:Env} {cs:List (Str×Addr)}
theorem Jv3 (f:Str×Value→PUnit→Sem (ForInStep PUnit)) (hf:∀n v u,f (n,v) u=(do storeName env n v;pure (.yield ⟨⟩))) (hk:env.scope.kind= .function) (sub:∀n c,cs.lookup n=some c→env.cells.lookup n=some c):
  ∀(bs:List (Str×Value)) (m cm:Str→Option Value) (s:Shared) (Q:PUnit→Shared→Prop),InCallC s₀ env.locals m cs cm s→(∀x∈bs,env.kindOf x.1=some .local∨(env.kindOf x.1=some .cell∧(cs.lookup x.1).isSome=true))→
   (∀s',InCallC s₀ env.locals (bindL env.kindOf bs m) cs (bindC env.kindOf bs cm) s'→Q ⟨⟩ s')→wpAny M A (forIn bs ⟨⟩ f) Q E s
 | [],m,cm,s,Q,x,_,h=>by rw [List.forIn_nil];exact wpAny_pure (h s x)
 | (n,v) :: r,m,cm,s,Q,x,hb,h=>by
  rw [List.forIn_cons,hf]
  have hr:=fun y hy=>hb y (List.mem_cons_of_mem (n,v) hy)
  obtain ⟨h0,t0,e0⟩:=x.toInCall.same
  rcases hb (n,v) List.mem_cons_self with hl|⟨hl,hc⟩
  ·refine wpAny_bind (wpAny_bind (wpAny_storeName_local hl x.toInCall.ns (fun h' hn hs=>wpAny_pure (Jv3 f hf hk sub r (fun y=>if y=n then some v else m y) cm _ Q ⟨⟨?_,hn,fun b o z=>?_,x.toInCall.fresh⟩,fun k c z=>?_,x.apart,x.above⟩ hr fun s'' x''=>h s'' ?_)) (by rw [hk];rfl)))
   ·rw [e0];exact ⟨h',_,rfl⟩
   ·exact hs.extBut b o (Nat.ne_of_lt (Nat.lt_of_lt_of_le (Heap.lt_size z) x.toInCall.fresh)) (x.toInCall.keep b o z)
   ·exact (x.cell k c z).sameBut hs (Nat.ne_of_gt (x.above k c (mem_of_lookup z)))
   ·unfold bindL bindC;rw [if_pos hl,if_pos hl];exact x''
  ·obtain ⟨c,hc⟩:=Option.isSome_iff_exists.mp hc
   have hnl:¬env.kindOf n=some .local:=by rw [hl];decide
   have hL:=x.above n c (mem_of_lookup hc)
   refine wpAny_bind (wpAny_bind (wpAny_storeName_cell hk hl (sub n c hc) (x.cell n c hc) fun h' hn hs=>wpAny_pure (Jv3 f hf hk sub r m (fun y=>if y=n then some v else cm y) _ Q ⟨⟨?_,x.toInCall.ns.sameBut hs (Nat.ne_of_lt hL),fun b o z=>?_,x.toInCall.fresh⟩,fun k c' z=>?_,x.apart,x.above⟩ hr fun s'' x''=>h s'' ?_)))
   ·rw [e0];exact ⟨h',_,rfl⟩
   ·exact hs.extBut b o (Nat.ne_of_lt (Nat.lt_trans (Nat.lt_of_lt_of_le (Heap.lt_size z) x.toInCall.fresh) hL)) (x.toInCall.keep b o z)
   ·by_cases w':k=n
    ·subst w'
     rw [hc] at z;cases z
     simpa using hn
    ·rw [if_neg w']
     exact (x.cell k c' z).sameBut hs fun e=>w' (name_of_addr x.apart (mem_of_lookup z) (e▸mem_of_lookup hc))
   ·unfold bindL bindC;rw [if_neg hnl,if_neg hnl];exact x''
theorem Ya7 {scope:Scope} {globals:Addr} {clos:List (Str×Addr)} {bs:List (Str×Value)} {qual:Str} {func:Option Addr} {code:Value} {builtins:Addr} {Q:Env→Shared→Prop} (hk:scope.kind= .function)
  (hb:∀x∈bs,scope.names.lookup x.1=some .local∨(scope.names.lookup x.1=some .cell∧((cellsFrom (s.heap.objs.size+1) scope.names []).lookup x.1).isSome=true))
  (hQ:∀env,env=newEnv scope s.heap.objs.size globals (cellsFrom (s.heap.objs.size+1) scope.names []++clos) qual func code none builtins→
   ∀s',InCallC s env.locals (bindL env.kindOf bs fun _=>none) (cellsFrom (s.heap.objs.size+1) scope.names []) (bindC env.kindOf bs fun _=>none) s'→Q env s'):
  wpAny M A (newFunctionEnv scope globals clos bs qual func code none builtins) Q E s:=by
 simp only [newFunctionEnv,Option.isSome_none,Bool.false_eq_true,if_false]
 refine wpAny_bind (wpAny_alloc (wpAny_bind (wpAny_layCells _ (fun n kd cl=>by cases h:kd==NameKind.cell <;> simp [h]) _ _ _ _ ?_)))
 have z:({s with heap:=s.heap.push {cls:=.type "frame",data:=.dict #[]}}:Shared).heap.objs.size=s.heap.objs.size+1:=Heap.size_push ..
 rw [z,Jko]
 have ok:=cellsFrom_ok scope.names (s.heap.push {cls:=.type "frame",data:=.dict #[]}) (s.heap.objs.size+1) [] ⟨fun _ _ hm=>(nomatch hm),.nil⟩ (Nat.le_of_eq z.symm)
 rw [show (s.heap.push {cls:=.type "frame",data:=.dict #[]}).objs.size=s.heap.objs.size+1 from Heap.size_push ..] at ok
 refine wpAny_bind (Jv3 (s₀:=s) (cs:=cellsFrom (s.heap.objs.size+1) scope.names []) (env:=newEnv scope s.heap.objs.size globals (cellsFrom (s.heap.objs.size+1) scope.names []++clos) qual func code none builtins) _ (fun _ _ _=>rfl) hk (fun n c e=>?_) bs (fun _=>none) (fun _=>none) _ _ ?_ hb fun s' x=>wpAny_pure (hQ _ rfl s' x))
 ·show (cellsFrom (s.heap.objs.size+1) scope.names []++clos).lookup n=some c
  rw [Jkl,e];rfl
 ·exact ⟨⟨⟨_,_,rfl⟩,(Heap.Ns.new s.heap (.type "frame")).keeps (pushCells_keeps _ _),fun b o e=>pushCells_keeps _ _ b o (Heap.get?_push_of_some _ e),Nat.le_refl _⟩,fun n c hc=>(ok.empty n c (mem_of_lookup hc)).1,ok.apart,fun n c hm=>(ok.empty n c hm).2⟩
end
end L2
namespace L2
open PySem PySem.Spec PyProof.Rows
structure Jnz (N ps fr:List Str) (sc:Scope):Prop where
 kind:sc.kind= .function
 co:sc.isCoroutine=false
 gen:sc.isGenerator=false
 nd:N.Nodup
 pre:N.take (ps.length+fr.length)=ps++fr
 par:∀x∈ps,sc.names.lookup x=some .local∨sc.names.lookup x=some .cell
 frs:∀x∈fr,sc.names.lookup x=some .free
 nof:∀y∈sc.names,y.2= .cell→sc.names.lookup y.1=some .cell
def Jwf (CX:CXT) (P:Program) (w:World) (K:PySem.W.Frag) (mg:Str→Option Value) (base:Heap) (N:List Str) (qual:Str) (scope:Scope) (clos:List (Str×Addr)) (f:Addr) (cd:Value) (A:Around) (outer:List Env) (s:Shared) (H:Hp) (E:XK):Cx where
 prog:=P
 w:=w
 K:=K
 mg:=mg
 base:=base
 A:=A.deeper (PySem.W.envX qual scope s.heap.objs.size f cd (cellsFrom (s.heap.objs.size+1) scope.names []++clos))
 N:=N
 s₀:=s
 H₀:=H
 env:=PySem.W.envX qual scope s.heap.objs.size f cd (cellsFrom (s.heap.objs.size+1) scope.names []++clos)
 outer:=outer
 stack:=PySem.W.envX qual scope s.heap.objs.size f cd (cellsFrom (s.heap.objs.size+1) scope.names []++clos)::outer
 ex:=[]
 calm:=true
 fn:=fun x=>decide (scope.names.lookup x=some .cell)
 pn:=[]
 xe:=fun e s'=>wpAny (model P w) (A.deeper (PySem.W.envX qual scope s.heap.objs.size f cd (cellsFrom (s.heap.objs.size+1) scope.names []++clos))) (leaving (PySem.W.envX qual scope s.heap.objs.size f cd (cellsFrom (s.heap.objs.size+1) scope.names []++clos)) e) (fun _ s''=>CX outer H s E e s'') (fun e' s''=>CX outer H s E e' s'') s'
theorem Jy2 {N:List Str} {vs:List V} {i:Nat} {v:V} (h:(start N vs)[i]?=some (some v)):vs[i]?=some v:=by
 unfold start at h
 by_cases hi:i < vs.length
 ·rw [List.getElem?_append_left (by simpa using hi),List.getElem?_map] at h
  cases e:vs[i]? with
  |none=>rw [e] at h;cases h
  |some a=>rw [e] at h;cases h;rfl
 ·rw [List.getElem?_append_right (by simpa using hi),List.getElem?_replicate] at h
  split at h <;> cases h
theorem Jv7 {CX:CXT} {P:Program} {w:World} {K:PySem.W.Frag} {mg:Str→Option Value} {base:Heap} {N ps fr:List Str} {qual:Str} {scope:Scope} {clos:List (Str×Addr)} {f:Addr} {cd:Value} {A:Around} {outer:List Env} {s s1:Shared} {H:Hp} {E:XK} {us:List Value} {vs cs:List V}
  (S:Jnz N ps fr scope) (hd:A.handled=none) (e0:Env0 P w K mg base A outer s H) (hl:vs.length=ps.length) (hlc:cs.length=fr.length) (r:Vals vs us)
  (inj:∀x y b,clos.lookup x=some b→clos.lookup y=some b→x=y) (has:∀y∈scope.names,y.2= .free→∃b,clos.lookup y.1=some b) (cel:∀x b,clos.lookup x=some b→∃v,CelAt H b v) (cap:∀x v,(x,v)∈fr.zip cs→∃b,clos.lookup x=some b∧CelAt H b v)
  (x:InCallC s s.heap.objs.size (bindL (PySem.W.envX qual scope s.heap.objs.size f cd (cellsFrom (s.heap.objs.size+1) scope.names []++clos)).kindOf (ps.zip us) fun _=>none) (cellsFrom (s.heap.objs.size+1) scope.names []) (bindC (PySem.W.envX qual scope s.heap.objs.size f cd (cellsFrom (s.heap.objs.size+1) scope.names []++clos)).kindOf (ps.zip us) fun _=>none) s1):
  Inv (Jwf CX P w K mg base N qual scope clos f cd A outer s H E) [] (start N (vs++cs)) H s1:=by
 have hpl:ps.length+fr.length≤N.length:=by have:=congrArg List.length S.pre;rw [List.length_take,List.length_append] at this;omega
 obtain ⟨h1,tk,rfl,hk⟩:=x.done
 have noA:∀b:Addr,b∉(Jwf CX P w K mg base N qual scope clos f cd A outer s H E).ex:=fun b z=>absurd (show b∈([]:List Addr) from z) (by simp)
 have cobj:∀b v,CelAt H b v→∃o u,H b=some (celF o)∧s.heap.get? b=some o∧o.data= .cell (some u)∧RelV v u:=fun b v ⟨o,u,q1,q2,q3⟩=>⟨o,u,q1,(e0.hok b _ q1).1,q2,q3⟩
 have two:∀y b,(cellsFrom (s.heap.objs.size+1) scope.names []++clos).lookup y=some b→(cellsFrom (s.heap.objs.size+1) scope.names []).lookup y=some b∨((cellsFrom (s.heap.objs.size+1) scope.names []).lookup y=none∧clos.lookup y=some b):=fun y b e=>by
  rw [Jkl] at e
  cases q:(cellsFrom (s.heap.objs.size+1) scope.names []).lookup y with
  |none=>rw [q] at e;exact .inr ⟨rfl,e⟩
  |some d=>rw [q] at e;exact .inl e
 have low:∀y b,clos.lookup y=some b→b < s.heap.objs.size:=fun y b e=>by
  obtain ⟨v,q⟩:=cel y b e
  obtain ⟨o,u,_,q2,_⟩:=cobj b v q
  exact Heap.lt_size q2
 have high:∀y b,(cellsFrom (s.heap.objs.size+1) scope.names []).lookup y=some b→s.heap.objs.size < b:=fun y b e=>x.above y b (PySem.mem_of_lookup e)
 refine ⟨⟨e0.mod,S.kind,rfl,rfl,Nat.le_refl _,fun y z c h1 h2=>?_,fun y hy=>?_,fun y c hy h=>?_,fun _=>hd,Around.frames_deeper e0.frames,.inr ⟨rfl,rfl⟩,fun b z=>absurd z (noA b),e0.bs,e0.bsz,fun b _ _=>noA b,fun b z=>absurd z (noA b),e0.funs,e0.frf⟩,
  rfl,e0.bare,Un.kept hk,⟨_,x.toInCall.ns,fun i y v h1 h2 h3=>?_⟩,fun y c h=>?_,e0.hok.fresh (Nat.le_refl _),fun y c h=>?_,fun p hp=>absurd (show p∈([]:List (Addr×Obj)) from hp) (by simp),e0.hok.kept hk,?_⟩
 ·rcases two y c h1 with a|⟨_,a⟩
  ·rcases two z c h2 with b|⟨_,b⟩
   ·exact name_of_addr x.apart (PySem.mem_of_lookup a) (PySem.mem_of_lookup b)
   ·exact absurd (Nat.lt_trans (high y c a) (low z c b)) (Nat.lt_irrefl _)
  ·rcases two z c h2 with b|⟨_,b⟩
   ·exact absurd (Nat.lt_trans (high z c b) (low y c a)) (Nat.lt_irrefl _)
   ·exact inj y z c a b
 ·have hy:scope.names.lookup y=some .cell∨scope.names.lookup y=some .free:=hy
  show ∃c,(cellsFrom (s.heap.objs.size+1) scope.names []++clos).lookup y=some c
  rw [Jkl]
  cases q:(cellsFrom (s.heap.objs.size+1) scope.names []).lookup y with
  |some d=>exact ⟨d,rfl⟩
  |none=>
   rcases hy with hy|hy
   ·obtain ⟨c,e⟩:=Jls (n:=s.heap.objs.size+1) hy
    rw [q] at e;cases e
   ·exact has _ (PySem.mem_of_lookup hy) rfl
 ·rcases two y c h with a|⟨a,_⟩
  ·exact Nat.le_of_lt (high y c a)
  ·have hy':decide (scope.names.lookup y=some .cell)=true:=hy
   obtain ⟨c',e⟩:=Jls (n:=s.heap.objs.size+1) (of_decide_eq_true hy')
   rw [a] at e;cases e
 ·have ha:=Jy2 h2
  have h1:N[i]?=some y:=h1
  have hi:i < vs.length+cs.length:=by have:=(List.getElem?_eq_some_iff.mp ha).1;rw [List.length_append] at this;exact this
  have hp:(ps++fr)[i]?=some y:=by rw [←S.pre,List.getElem?_take_of_lt (by omega)];exact h1
  by_cases hv:i < vs.length
  ·rw [List.getElem?_append_left hv] at ha
   rw [List.getElem?_append_left (by omega)] at hp
   obtain ⟨u,hu,rv⟩:=r.get ha
   have ndP:ps.Nodup:=(List.nodup_append.mp (by rw [←S.pre];exact S.nd.sublist (List.take_sublist _ _))).1
   refine ⟨u,rv,?_⟩
   rcases S.par y (List.mem_of_getElem? hp) with k|k
   ·exact .inl ⟨k,Jok ndP hp hu k⟩
   ·obtain ⟨c,e⟩:=Jls (n:=s.heap.objs.size+1) k
    refine .inr ⟨.inl k,c,?_,?_⟩
    ·show (cellsFrom (s.heap.objs.size+1) scope.names []++clos).lookup y=some c
     rw [Jkl,e];rfl
    ·have q:=x.cell y c e
     rw [Joj ndP hp hu (by show scope.names.lookup y≠_;rw [k];decide)] at q
     exact q
  ·rw [List.getElem?_append_right (by omega)] at ha
   rw [List.getElem?_append_right (by omega)] at hp
   obtain ⟨b,e1,e2⟩:=cap y v (List.mem_of_getElem? (i:=i - vs.length) (by rw [List.getElem?_zip_eq_some];exact ⟨by rw [hl];exact hp,ha⟩))
   have kf:=S.frs y (List.mem_of_getElem? hp)
   obtain ⟨o,u,_,q2,q3,q4⟩:=cobj b v e2
   refine ⟨u,q4,.inr ⟨.inr kf,b,?_,o,hk _ _ q2,q3⟩⟩
   show (cellsFrom (s.heap.objs.size+1) scope.names []++clos).lookup y=some b
   rw [Jkl]
   cases q:(cellsFrom (s.heap.objs.size+1) scope.names []).lookup y with
   |none=>exact e1
   |some d=>
    have:=S.nof _ (Jlx scope.names _ [] q rfl) rfl
    rw [kf] at this;cases this
 ·rcases two y c h with a|⟨_,a⟩
  ·exact ⟨_,x.cell y c a⟩
  ·obtain ⟨v,q⟩:=cel y c a
   obtain ⟨o,u,_,q2,q3,_⟩:=cobj c v q
   exact ⟨_,o,hk _ _ q2,q3⟩
 ·rcases two y c h with a|⟨a1,a⟩
  ·exact .inl (e0.hok.fresh (Nat.le_of_lt (high y c a)))
  ·obtain ⟨v,q⟩:=cel y c a
   obtain ⟨o,u,q1,_⟩:=cobj c v q
   refine .inr ⟨decide_eq_false fun z=>?_,o,q1⟩
   obtain ⟨c',e⟩:=Jls (n:=s.heap.objs.size+1) z
   rw [a1] at e;cases e
 ·unfold start
  show _=N.length
  rw [List.length_append,List.length_map,List.length_replicate,List.length_append]
  omega
structure Jrr (P:Program) (w:World) (K:PySem.W.Frag) (mg:Str→Option Value) (base:Heap) (CX:CXT) (k:Nat) (f:Addr) (sp:Sp):Prop where
 isf:∀vs H Q E,sp vs H Q E→IsF H f
 run:∀(A:Around) (outer:List Env) (s:Shared) (H:Hp) (us:List Value) (vs:List V) (Q:VK) (E:XK),Room k A→Env0 P w K mg base A outer s H→Vals vs us→sp vs H Q E→codeAny (model P w) A (.call (.ref f) ⟨us,[]⟩) (CR CX outer P w H s Q E) s
def Y1 (name qual:Str) (st:Stmt) (fr:List Str) (sp:List V→Sp) (f:Addr):Sp:=fun vs H Q E=>∃cs,CloAt H f name qual st (fr.zip cs)∧sp cs vs H Q E
theorem clo_of {CX:CXT} {P:Program} {w:World} {K:PySem.W.Frag} {mg:Str→Option Value} {base:Heap} {k:Nat} {name qual:Str} {st:Stmt} {N ps fr:List Str} {sp:List V→Sp} (S:Jnz N ps fr (Ji5 st))
  (hb:∀(clos:List (Str×Addr)) (doc pm:Value) (c:Addr) (ct:Value) (us:List Value),us.length=ps.length→bindArgs (PySem.W.fnX name qual (Jj1 st) (Jiy st) (Ji5 st) clos .none .none doc pm none (.ref c) ct) ⟨us,[]⟩=pure (ps.zip us))
  (len:∀cs vs H Q E,sp cs vs H Q E→vs.length=ps.length∧cs.length=fr.length)
  (hbody:∀(f c:Addr) (clos:List (Str×Addr)) (A:Around) (outer:List Env) (s:Shared) (H:Hp) (vs cs:List V) (Q:VK) (E:XK),Room k (A.deeper (PySem.W.envX qual (Ji5 st) s.heap.objs.size f (.ref c) (cellsFrom (s.heap.objs.size+1) (Ji5 st).names []++clos)))→sp cs vs H Q E→
   ∃t,PSs (Jwf CX P w K mg base N qual (Ji5 st) clos f (.ref c) A outer s H E) (Jiy st) t∧t {nx:=fun _ H'=>Q .non H',rt:=Q} (start N (vs++cs)) H) (f:Addr):
  Jrr P w K mg base CX (k+1) f (Y1 name qual st fr sp f):=by
 refine ⟨fun vs H Q E ⟨cs,h,_⟩=>h.isf,fun A outer s H us vs Q E hr e0 r ⟨cs,⟨clos,c,h1,h2,h3,h4,h5,h6⟩,hsp⟩=>?_⟩
 obtain ⟨hl,hlc⟩:=len _ _ _ _ _ hsp
 have hlu:us.length=ps.length:=by rw [←r.length];exact hl
 have lim:s.heap.NoLimit:=e0.mod.nolimit.keeps fun b o e=>(e0.bs b o e).1
 obtain ⟨⟨doc,pm,ct,ho⟩,_⟩:=e0.hok f _ h1
 refine codeAny_call_function hr.depth ho rfl S.co S.gen rfl (show s.heap.CodeRec (.ref c) qual from e0.hok c _ h2) ?_
 rw [hb clos doc pm c ct us hlu]
 refine wpAny_pure (Ya7 S.kind (fun ⟨y,v⟩ hy=>?_) fun env he s1 z=>?_)
 ·exact (S.par y (List.of_mem_zip hy).1).imp id fun q=>⟨q,PySem.W.cellsFrom_some _ _ _ (.inl q)⟩
 subst he
 refine ⟨lim.keeps z.toInCall.keep,codeAny_func ?_⟩
 obtain ⟨t,ht,hq⟩:=hbody f c clos A outer s H vs cs Q E (hr.deeper _) hsp
 refine wpAny_mono (ht [] s1 (start N (vs++cs)) H _ (Jv7 S hr.hd e0 hl hlc r h3 h4 h5 h6 z) hq) (fun fl s' hs=>?_) fun e s' hs=>hs
 cases fl with
 |ret u=>
  obtain ⟨v,σ',H',J,rv,q⟩:=hs
  exact ⟨v,H',J.os,J.bare,J.base,J.hok,rv,q⟩
 |next=>
  obtain ⟨σ',H',J,q⟩:=hs
  exact ⟨.non,H',J.os,J.bare,J.base,J.hok,rfl,q⟩
 |brk=>
  obtain ⟨_,_,_,q⟩:=hs
  exact False.elim q
 |cont=>
  obtain ⟨_,_,_,q⟩:=hs
  exact False.elim q
def Jw2 (i:Nat) (sp:Addr→Sp) (R:St→XK) (t:TA):TE:=fun σ H Q=>∃f,σ[i]?=some (some (.ref f))∧t σ H fun vs H1=>sp f vs H1 Q (R σ)
section
variable {X:Cx} {CX:CXT} {k j i:Nat} {sp:Addr→Sp} {x:Str} {p pos:Pos} {e:Expr} {es:List Expr} {t:TA} {R:St→XK}
theorem Jri (G:∀f,Jrr X.prog X.w X.K X.mg X.base CX k f (sp f)) (hr:Room j X.A) (hk:k≤j) (hx:∀pins σ H s e s',Inv X pins σ H s→CX X.stack H s (R σ) e s'→X.xe e s') (ha:PA X (e::es) t) (hN:X.N[i]?=some x) (hv:Vis X.env.scope x)
  (hd:(x==("__debug__" :Str))=false) (hcd:(x==("__classdict__" :Str))=false) (he:starEach (e::es) X.env=(false,eval e X.env)::starEach es X.env) (hpl:(backTo pos (starEach es X.env)).any (·.1)=false):
  PE X (.Call (.Name x p) (e::es) [] pos) (Jw2 i sp R t):=by
 intro pins s σ H Q I h
 obtain ⟨f,hf,h⟩:=h
 refine wpAny_Call_Name_kw (thn (Jzk hN hv hd hcd pins s σ H (fun v H'=>v= .ref f∧H'=H) I ⟨_,hf,rfl,rfl⟩) fun u s1 ⟨v,H',I1,r,e1,e2⟩=>?_)
 subst e1 e2
 cases r
 have hat:∀{s2:Shared} {H2:Hp},Inv X pins σ H2 s2→IsF H2 f→PySem.W.FnAt f s2.heap:=fun J ⟨name,qual,st,clos,c,z⟩=>by
  obtain ⟨⟨doc,pm,ct,q⟩,_⟩:=J.hok f _ z
  exact ⟨_,_,_,_,q⟩
 rw [he]
 refine PySem.W.callWith_of (P:=PySem.W.FnAt f) (by show ((false||(backTo pos (starEach es X.env)).any (·.1))||false)=false;rw [hpl];rfl) PySem.W.keeps_F (Calls.evalArgs_plain ?_)
 have ha':=ha pos pins s1 σ H' _ I1 h
 rw [he] at ha'
 refine thn ha' fun us s2 ⟨vs,H2,I2,r2,q2⟩=>⟨hat I2 ((G f).isf _ _ _ _ q2),?_⟩
 refine wpAny_call (codeAny_mono ((G f).run X.A X.stack s2 H2 us vs Q (R σ) (hr.mono hk) I2.env0 r2 q2) fun r s' hq=>?_)
 cases r with
 |error e=>exact hx pins σ H2 s2 e s' I2 hq
 |ok fl=>
  cases fl with
  |ret u=>exact I2.after hq
  |next=>exact False.elim hq
  |brk=>exact False.elim hq
  |cont=>exact False.elim hq
theorem Jzh (G:∀f,Jrr X.prog X.w X.K X.mg X.base CX0 k f (sp f)) (hr:Room j X.A) (hk:k≤j) (i:Nat) (ha:PA X (e::es) t) (hN:X.N[i]?=some x:=by rfl) (hv:Vis X.env.scope x:=by first|exact Or.inl rfl|exact Or.inr (Or.inl rfl)|exact Or.inr (Or.inr rfl))
  (hd:(x==("__debug__" :Str))=false:=by decide) (hcd:(x==("__classdict__" :Str))=false:=by decide) (he:starEach (e::es) X.env=(false,eval e X.env)::starEach es X.env:=by rfl) (hpl:(backTo pos (starEach es X.env)).any (·.1)=false:=by rfl):
  PE X (.Call (.Name x p) (e::es) [] pos) (Jw2 i sp (fun _=>E0) t):=Jri G hr hk (fun _ _ _ _ _ _ _ z=>z.elim) ha hN hv hd hcd he hpl
end
end L2
namespace L2
open PySem PySem.Spec PyProof.Rows
theorem nst_mk {K:PySem.W.Frag} {f c P:Addr} {oc:Value} {od od':Option Addr} {fd:FuncData} {sl sl':Array (Option Value)} {vs:Array Value} (l:K.lookup f=some ⟨oc,od,.func fd,sl⟩) (e:fd.code= .ref c)
  (lc:K.lookup c=some ⟨.type "code",od', .fields vs,sl'⟩) (_:vs[11]?=some (.ref P)) (hb:cdfB vs c P=true):Nst K f c P:=⟨⟨oc,od,fd,sl,l,e⟩,⟨od',vs,sl',lc,hb⟩⟩
theorem Js3 {β:Type}:∀{l:List (Addr×β)},(l.map (·.1)).Nodup→∀p∈l,l.lookup p.1=some p.2
 |q::r,h,p,hp=>by
  have h':(q.1::r.map (·.1)).Nodup:=h
  obtain ⟨h1,h2⟩:=List.nodup_cons.mp h'
  rw [List.lookup_cons]
  rcases List.mem_cons.mp hp with rfl|hp
  ·rw [beq_self_eq_true]
  ·have ne:(p.1==q.1)=false:=beq_eq_false_iff_ne.mpr fun z=>h1 (by rw [←z];exact List.mem_map_of_mem hp)
   rw [ne]
   exact Js3 h2 p hp
theorem Jqe {β:Type}:∀{l:List (Addr×β)} {a:Addr} {v:β},l.lookup a=some v→(a,v)∈l
 | (b,x) :: r,a,v,e=>by
  rw [List.lookup_cons] at e
  cases hb:a==b with
  |true=>rw [hb] at e;cases e;rw [eq_of_beq hb];exact .head _
  |false=>rw [hb] at e;exact .tail _ (Jqe e)
theorem Jxj {P:Program} {w:World} {K:PySem.W.Frag} {mg mb:Str→Option Value} {CX:CXT} {k:Nat} {fa a:Addr} {fd:FuncData} {x:Str} {sp:Sp} {s₁:Shared} {vs:List Value} {ns:List Int} {tabs:List (Addr×Array (Nat×Nat×Str))}
  (KX:K.In s₁.heap) (hns:s₁.heap.Ns mainGlobals mg) (hb:s₁.heap.Ns builtinsNs mb) (hbb:∀x:Str,x≠"__name__" →mb x=bootBuiltins x) (hlim:s₁.heap.NoLimit) (hg:s₁.gens= #[])
  (ha:s₁.heap.get? a=some {cls:=.type "list",data:=.seq vs.toArray}) (hi:IntsAre vs ns) (hl:ns.length≤sizeLine) (hr:Room k callerA)
  (hT:∀p∈tabs,isCodeTable s₁.heap p.1∧s₁.heap.get? p.1=some (PySem.W.tabObj #[])) (hnd:(tabs.map (·.1)).Nodup) (hK:PySem.W.noTabs K=true) (hbm:Bmn mg s₁.heap)
  (F:∀base:Heap,K.In base→base.Ns mainGlobals mg→Bmn mg base→FnOk P w K mg base CX k fa fd [x] sp) (hbind:∀(s:Shared) (u:Value),BindsTo s fd ⟨[u],[]⟩ [(x,u)])
  (hsp:∀H:Hp,(∀p∈tabs,H p.1=some (.tbl p.2))→SqL K H a (ns.map V.int)→sp [.ref a] H (fun v _=>v= .bl true) fun _ _ _=>False)
  (hCX:∀H e s',CX [] H s₁ (fun _ _ _=>False) e s'→False):
  codeAny (model P w) callerA (.call (.ref fa) ⟨[.ref a],[]⟩) (fun r s'=>r= .ok (.ret (.bool true))∧OldK s₁.heap s'.heap∧s'.os=s₁.os∧AllBare s'.gens) s₁:=by
 have rv:=Jsj hi
 have lenV:=hi.length
 let so:Obj:={cls:=.type "list",data:=.seq vs.toArray}
 let H:Hp:=fun b=>if b=a∧K.lookup a=none then some (.frz so (.lst (ns.map V.int))) else (tabs.lookup b).map HO.tbl
 have three:∀b,H b=none∨(b=a∧K.lookup a=none∧H b=some (.frz so (.lst (ns.map V.int))))∨∃lb,(b,lb)∈tabs∧H b=some (.tbl lb):=fun b=>by
  by_cases h:b=a∧K.lookup a=none
  ·exact .inr (.inl ⟨h.1,h.2,if_pos h⟩)
  ·have e:H b=(tabs.lookup b).map HO.tbl:=if_neg h
   cases q:tabs.lookup b with
   |none=>exact .inl (by rw [e,q];rfl)
   |some lb=>exact .inr (.inr ⟨lb,Jqe q,by rw [e,q];rfl⟩)
 have hnon:∀b o,s₁.heap.get? b=some o→(∀xs n,o.data≠ .seq xs n)→(∀xs,o.data≠ .fields xs)→H b=none:=fun b o e n1 n2=>by
  rcases three b with z|⟨rfl,_,_⟩|⟨lb,m,_⟩
  ·exact z
  ·rw [ha] at e;cases e;exact absurd rfl (n1 _ _)
  ·rw [(hT _ m).2] at e;cases e;exact absurd rfl (n2 _)
 have htb:∀p∈tabs,H p.1=some (.tbl p.2):=fun p hp=>by
  have n:¬(p.1=a∧K.lookup a=none):=fun z=>by
   have e:=(hT p hp).2
   rw [z.1,ha] at e;cases e
  show (if p.1=a∧K.lookup a=none then _ else _)=_
  rw [if_neg n,Js3 hnd p hp]
  rfl
 have hok:HOk P w H s₁.heap:=fun b u z=>by
  rcases three b with e|⟨rfl,_,e⟩|⟨lb,m,e⟩
  ·rw [e] at z;cases z
  ·rw [e] at z;cases z
   exact ⟨ha,by rw [List.length_map];exact hl,vs,_,rv,ha⟩
  ·rw [e] at z;cases z
   exact ⟨#[],(hT _ m).2,True.intro⟩
 have hS:SqL K H a (ns.map V.int):=by
  cases hk:K.lookup a with
  |some o=>
   have e:=KX a o hk
   rw [ha] at e;cases e
   exact .inr ⟨_,vs.toArray,_,hk,rfl,rfl,rfl,by rw [List.size_toArray,lenV];exact hl,by simpa using rv⟩
  |none=>exact .inl (.inr ⟨so,if_pos ⟨rfl,hk⟩⟩)
 have nsK:∀{b:Addr} {m:Str→Option Value},s₁.heap.Ns b m→(Jsu s₁.heap H).Ns b m:=fun {b m} ⟨o,es,ep,e,d,r⟩=>⟨o,es,ep,Jq7 e (hnon b o e (fun xs n z=>by rw [d] at z;cases z) fun xs z=>by rw [d] at z;cases z),d,r⟩
 have hKb:K.In (Jsu s₁.heap H):=fun b o e=>Jq7 (KX b o e) (by
  rcases three b with z|⟨rfl,z,_⟩|⟨lb,m,_⟩
  ·exact z
  ·rw [z] at e;cases e
  ·exfalso
   have q:=KX b o e
   rw [(hT _ m).2] at q
   cases q
   have h2:=List.all_eq_true.mp hK (b,_) (PySem.W.mem_of_lookupK e)
   exact absurd (show false=true from h2) Bool.false_ne_true)
 have hBb:Bmn mg (Jsu s₁.heap H):=by
  obtain ⟨bm,ob,b1,b2,b3,b4,b5,b6⟩:=hbm
  exact ⟨bm,ob,b1,b2,Jq7 b3 (hnon bm ob b3 (fun xs n z=>by rw [b6] at z;cases z) fun xs z=>by rw [b6] at z;cases z),b4,b5,b6⟩
 have hM:Mod K mg (Jsu s₁.heap H):=⟨hKb,nsK hns,⟨mb,nsK hb,hbb⟩,let ⟨mc,h1,h2⟩:=hlim;⟨mc,nsK h1,h2⟩⟩
 have e0:Env0 P w K mg (Jsu s₁.heap H) callerA [] s₁ H:=⟨rfl,hM,fun b o e=>Yab e,Nat.le_of_eq (Jxa _ _),trivial,fun b hb=>absurd (show b∈([]:List Addr) from hb) (by simp),hok,.of_eq hg⟩
 refine codeAny_mono ((F _ hKb (nsK hns) hBb).run callerA [] s₁ H ⟨[.ref a],[]⟩ [.ref a] [.ref a] _ _ hr e0 (hbind s₁ (.ref a)) (.cons rfl .nil) (hsp H htb hS)) fun r s' h=>?_
 cases r with
 |error e=>exact (hCX H e s' h).elim
 |ok fl=>
  cases fl with
  |next=>exact False.elim h
  |brk=>exact False.elim h
  |cont=>exact False.elim h
  |ret u=>
   obtain ⟨v,H',os,bare,un,hok',r',q⟩:=h
   have q':v= .bl true:=q
   subst q'
   obtain rfl:u=Value.bool true:=r'
   have all:∀b o,s₁.heap.get? b=some o→s'.heap.get? b=some o∨(isCodeTable s₁.heap b∧o=PySem.W.tabObj #[]∧∃ts,s'.heap.get? b=some (PySem.W.tabObj ts)):=fun b o e=>by
    rcases three b with z|⟨rfl,_,z⟩|⟨lb,m,z⟩
    ·exact .inl (un.keep b o e z (by intro y;exact absurd (show b∈([]:List Addr) from y) (by simp)) (by simp))
    ·obtain ⟨e2,_⟩:=hok' _ _ (un.frzs _ _ _ z)
     rw [ha] at e;cases e
     exact .inl e2
    ·obtain ⟨more,z2⟩:=un.tbls b lb z
     obtain ⟨ts,e2,_⟩:=hok' b _ z2
     have e3:=(hT _ m).2
     rw [e] at e3;cases e3
     exact .inr ⟨(hT _ m).1,rfl,ts,e2⟩
   refine ⟨rfl,⟨fun b o e=>?_,fun b o e=>?_⟩,os,bare⟩
   ·rcases all b o e with z|⟨t,rfl,ts,z⟩
    ·exact .inl z
    ·exact .inr (.inl ⟨t,rfl,#[],ts,rfl,by rw [Array.empty_append];exact z⟩)
   ·rcases all b o e with z|⟨t,rfl,ts,z⟩
    ·exact ⟨o,z⟩
    ·exact ⟨_,z⟩
def Jyd (q:Program) (K:PySem.W.Frag) (h:Heap):Prop:=∀(y:Str) (d:DefRec) (c P:Addr),(recsOf q).find? (fun e=>e.name==y)=some d→PySem.W.tabIn K y=some (c,P)→PySem.W.CodeHd h c P∧h.get? P=some (PySem.W.tabObj #[])
theorem walk_ofT {l:PySem.W.OpenLaw} {n k:Nat} {q:Program} {loose:List Str} {XP:(Str→Option Value)→Heap→Prop} {YP:World→Heap→Prop} {d:DefRec} {K:Params→PySem.W.Frag} {CX:CXT} {x:Str}
  (hn:l.most=some n) (hn2:n≤sizeLine) (hdf:d.params.defaults= []) (hr:Room k callerA) (hY:∀(w:World) (h:Heap),YP w h→(K w.params).In h) (hK:∀w:World,PySem.W.noTabs (K w.params)=true)
  (F:∀(w:World) (mg:Str→Option Value) (fa:Addr) (h:Heap),(K w.params).In h→h.Ns mainGlobals mg→Jyd q (K w.params) h→mg d.name=some (.ref fa)→
   ∃(fd:FuncData) (sp:Sp) (tabs:List (Addr×Array (Nat×Nat×Str))),(∀(s:Shared) (u:Value),BindsTo s fd ⟨[u],[]⟩ [(x,u)])∧(∀p∈tabs,isCodeTable h p.1∧h.get? p.1=some (PySem.W.tabObj #[]))∧(tabs.map (·.1)).Nodup∧
    (∀base:Heap,(K w.params).In base→base.Ns mainGlobals mg→Bmn mg base→FnOk l.prog w (K w.params) mg base CX k fa fd [x] sp)∧
    ∀(H:Hp) (a:Addr) (ns:List Int),ns.length≤n→(∀p∈tabs,H p.1=some (.tbl p.2))→SqL (K w.params) H a (ns.map V.int)→sp [.ref a] H (fun v _=>v= .bl true) fun _ _ _=>False)
  (hCX:∀(H:Hp) (s:Shared) (e:Value) (s':Shared),CX [] H s (fun _ _ _=>False) e s'→False):
  PySem.W.WalkO q loose XP YP l.row.toRowW d [] (fun f vs=>PySem.call f vs):=by
 refine Att.attach_call hn hdf fun w s₀ s₁ mg mb fa o pm cd doc a vs ns G Y ho hd hcd hmg hobj hints hlen hg=>?_
 have KX:=hY w _ Y
 obtain ⟨fd,sp,tabs,hb,hT,hnd,hF,hsp⟩:=F w mg fa _ KX G.T.g (fun y d c P e1 e2=>PySem.W.tab_of G.T KX e1 e2) hmg
 exact Jxj KX G.T.g G.T.b G.T.builtins G.T.nolimit hg hobj hints (Nat.le_trans hlen hn2) hr hT hnd (hK w) G.T.bmain hF hb (fun H h1 h2=>hsp H a ns hlen h1 h2) fun H e s'=>hCX H s₁ e s'
theorem tab_kn {q:Program} {K:PySem.W.Frag} {h:Heap} {c P:Addr} {y:Str} {d:DefRec} (T:Jyd q K h) (e1:(recsOf q).find? (fun e=>e.name==y)=some d) (e2:PySem.W.tabIn K y=some (c,P)):isCodeTable h P∧h.get? P=some (PySem.W.tabObj #[]):=
 let ⟨a,b⟩:=T y d c P e1 e2
 ⟨(a.tab b).isCodeTable,b⟩
end L2
namespace L2
open PySem PySem.Spec PyProof.Rows PySem.W
theorem Yu {P:Program} {w:World} {K:PySem.W.Frag} {mg:Str→Option Value} {base:Heap} {k:Nat} {name qual:Str} {st:Stmt} {N ps fr:List Str} {sp:List V→Sp} (S:Jnz N ps fr (Ji5 st))
  (hb:∀(clos:List (Str×Addr)) (doc pm:Value) (c:Addr) (ct:Value) (us:List Value),us.length=ps.length→bindArgs (PySem.W.fnX name qual (Jj1 st) (Jiy st) (Ji5 st) clos .none .none doc pm none (.ref c) ct) ⟨us,[]⟩=pure (ps.zip us))
  (len:∀cs vs H Q E,sp cs vs H Q E→vs.length=ps.length∧cs.length=fr.length)
  (hbody:∀(f c:Addr) (clos:List (Str×Addr)) (A:Around) (outer:List Env) (s:Shared) (H:Hp) (vs cs:List V) (Q:VK) (E:XK),Room k (A.deeper (PySem.W.envX qual (Ji5 st) s.heap.objs.size f (.ref c) (cellsFrom (s.heap.objs.size+1) (Ji5 st).names []++clos)))→sp cs vs H Q E→
   ∃t,PSs (Jwf CX0 P w K mg base N qual (Ji5 st) clos f (.ref c) A outer s H E).nox (Jiy st) t∧t {nx:=fun _ H'=>Q .non H',rt:=Q} (start N (vs++cs)) H) (f:Addr):Jrr P w K mg base CX0 (k+1) f (Y1 name qual st fr sp f):=
 clo_of S hb len (fun f c clos A outer s H vs cs Q E hr h=>let ⟨t,h1,h2⟩:=hbody f c clos A outer s H vs cs Q E hr h;⟨t,h1.nox,h2⟩) f
theorem lb_one {l c:Nat} {q:Str}:(l,c,q)∈ #[(l,c,q)]:=by simp
theorem Ya4 {l c:Nat} {q q':Str} (h:(l,c,q')∈ #[(l,c,q)]):q'=q:=by simpa using h
def nst (s:Stmt) (j:Nat):Stmt:=(Jiy s).getD j (.Pass ⟨0,0,0,0⟩)
end L2
namespace L2
open PySem PySem.Spec PyProof.Rows PySem.W
theorem KV.get {kvs:List (Key×V)} {vs:List (Key×Value)} (r:KV kvs vs):∀{i:Nat} {k:Key} {x:V},kvs[i]?=some (k,x)→∃u,vs[i]?=some (k,u)∧RelV x u:=by
 induction r with
 |nil=>intro i k x h;simp at h
 | @cons a b l1 l2 h t ih=>
  intro i k x e
  cases i with
  |zero=>
   obtain rfl:a=(k,x):=by simpa using e
   obtain ⟨k',u⟩:=b
   obtain ⟨e1,e2⟩:=h
   cases e1
   exact ⟨u,rfl,e2⟩
  |succ j=>exact ih (by simpa using e)
theorem Jzo {P:Program} {w:World} {k:Key} {u:Value} (h:(Jif P w).is k u=true):RelV (kV k) u:=by
 rw [Jvg] at h
 cases k with
 |inl i=>
  cases u <;> simp [Jp7,Value.isInt] at h
  subst h
  exact ⟨_,rfl⟩
 |inr x=>
  obtain ⟨t,e⟩:=Value.isStrOf_shape (x:=x) (v:=u) h
  exact ⟨t,e⟩
section
variable {X:Cx} {pins:List (Addr×Obj)} {σ:St} {H:Hp} {s:Shared}
theorem Inv.frz {a:Addr} {o:Obj} {kvs:List (Key×V)} (I:Inv X pins σ H s) (e:H a=some (.dK kvs)) (ho:s.heap.get? a=some o):Inv X pins σ (upd H a (.frz o (.dK kvs))) s:=by
 have mu:Mut (H a):=by rw [e];trivial
 exact I.un (t':=s.toks) (Un.write mu (.inl rfl) (fun b u _ q=>q) ⟨o,ho⟩) (HOk.write I.hok mu (.inl rfl) (fun b u _ q=>q) ⟨o,ho⟩ ⟨ho,I.hok a _ e⟩)
theorem Jrx {a:Addr} {o:Obj} {kvs:List (Key×V)} (I:Inv X pins σ H s) (ea:H a=some (.frz o (.dK kvs))):
  kvs.length≤sizeLine∧(a==sysModules)=false∧∃vs es ep,KV kvs vs∧o.data= .dict es ep∧s.heap.DictAt (Jif X.prog X.w) a vs ep:=by
 obtain ⟨e1,z,hd,vs,rel,o',es,ep,e2,x,d,r⟩:=(show ObjOk X.prog X.w H s.heap a (.frz o (.dK kvs)) from I.hok a _ ea)
 rw [e1] at e2;cases e2
 exact ⟨z,hd,vs,es,ep,rel,d,o,es,e1,x,d,r⟩
end
def Itv (a:Addr) (o:Obj) (kvs:List (Key×V)):It:=
 ⟨fun i H=>H a=some (.frz o (.dK kvs))∧i < kvs.length,fun i H x H'=>H'=H∧∃k,kvs[i]?=some (k,x),fun i H=>H a=some (.frz o (.dK kvs))∧kvs.length≤i⟩
def VSt (it a:Addr) (o:Obj) (n i:Nat) (h:Heap):Prop:=∃es ep,o.data= .dict es ep∧h.IsValIter it a i n ep
theorem Jy5 {P:Program} {w:World} {K:PySem.W.Frag} {tg:Expr} (a it:Addr) (o:Obj) (kvs:List (Key×V)):Jpk P w K tg (Itv a o kvs) [it] it (VSt it a o kvs.length) where
 mem:=by simp
 obj:=fun i h st b hb=>by
  have e:b=it:=by simpa using hb
  subst e
  obtain ⟨es,ep,_,o',e,c,d⟩:=st
  exact ⟨o',e,fun v z=>by rw [d] at z;cases z⟩
 keep:=fun i h h' st k=>by
  obtain ⟨es,ep,q,o',e,c,d⟩:=st
  exact ⟨es,ep,q,o',k it (by simp) o' e,c,d⟩
 item:=by
  intro X hP hw hK hc i pins s σ H E I hf st hg
  subst hP hw hK
  obtain ⟨ea,hi⟩:=hg
  obtain ⟨es,ep,ed,st⟩:=st
  obtain ⟨_,_,vs,es',ep',rel,ed',da⟩:=Jrx I ea
  rw [ed] at ed';cases ed'
  have hl:=rel.length
  have hx:kvs[i]?=some (kvs[i].1,kvs[i].2):=by simp [hi]
  obtain ⟨u,hu,ru⟩:=rel.get hx
  obtain ⟨f0,f1,f2,f3,f4,f5⟩:=hf it (by simp)
  rw [hl] at st
  refine wpAny_pyNext_values_item st da hu fun h' st' sb=>?_
  have I1:Inv X pins σ H {s with heap:=h'}:=I.turned (t':=s.toks) (fun b o hb e=>(sb.2 b hb).trans e) f0 f1 f3 f4 f5
  obtain ⟨o',e,c,d⟩:=id st'
  exact ⟨u,rfl,Jtz (s:={s with heap:=h'}) e c d (by decide) ⟨_,H,I1,ru,⟨rfl,_,hx⟩,⟨es,ep,ed,by rw [hl];exact st'⟩,fun b hb=>(hf b hb).1⟩⟩
 done:=by
  intro X hP hw hK hc i pins s σ H E I hf st hg
  subst hP hw hK
  obtain ⟨ea,hi⟩:=hg
  obtain ⟨es,ep,ed,st⟩:=st
  obtain ⟨_,_,vs,es',ep',rel,ed',da⟩:=Jrx I ea
  rw [ed] at ed';cases ed'
  have hl:=rel.length
  obtain ⟨f0,f1,f2,f3,f4,f5⟩:=hf it (by simp)
  rw [hl] at st
  exact wpAny_pyNext_values_end (I.ok.hd hc) st da (by simp;omega) fun h' eb=>⟨rfl,I.turned (t':=s.toks) (fun b o hb e=>eb b o hb e) f0 f1 f3 f4 f5⟩
 self:=fun _ _ _ _ _ st h=>let ⟨_,_,_,q⟩:=st;wpAny_pyIter_valiter q h
def iVals (td:TE):TI:=fun σ H R=>td σ H fun x H1=>∃a o kvs,x= .ref a∧H1 a=some (.frz o (.dK kvs))∧R (Itv a o kvs) H1
theorem Yaf {X:Cx} {tg o:Expr} {td:TE} {apos cpos:Pos} (ho:PE X o td) (hbase:attributeBase o "values" X.env (eval o X.env)=eval o X.env:=by rfl) (hline:(apos.endLine==cpos.line)=true:=by rfl):
  PI X tg (.Call (.Attribute o "values" apos) [] [] cpos) (iVals td):=by
 intro pins s σ H R I h
 refine wpAny_Call_method0_late hbase hline (thn (ho pins s σ H _ I h) fun v s1 ⟨x,H1,I1,r1,q1⟩=>?_)
 obtain ⟨a,ob,kvs,rfl,ea,q⟩:=q1
 obtain rfl:v=Value.ref a:=r1
 obtain ⟨t1,t2,_⟩:=Jz6 I1 (.inl ⟨kvs,.inr ⟨ob,ea⟩⟩)
 refine ⟨"dict","dict.values",PySem.F.plainAttrs_dict,PySem.F.slot_dict_values,PySem.F.type_dict_values,t1,t2,Calls.callWith_builtin rfl (PySem.evalArgs_none ?_)⟩
 obtain ⟨z,hd,vs,es,ep,rel,ed,da⟩:=Jrx I1 ea
 refine call_meetsIn PySem.F.slot_dict_values da.dictOf.typeIs PySem.F.entry_dict_values (PySem.F.args_dict_values_1 _) (meets_dict_values (Jif X.prog X.w) a hd) ⟨⟨vs,da.dictOf⟩,?_⟩
 refine wpAny_pyIter_values (knd:=Jif X.prog X.w) (d:=a) (kvs:=vs) (ep:=ep) ⟨_,Heap.get?_push_size _ rfl,rfl,rfl⟩ (da.keep fun b o e=>Heap.get?_push_of_some _ e) ?_
 refine ⟨_,[_],_,_,H1,rfl,I1.kept (t':=s1.toks) fun b o e=>Heap.get?_push_of_some _ (Heap.get?_push_of_some _ e),Jy5 a _ ob kvs,⟨es,ep,ed,_,Heap.get?_push_size _ rfl,rfl,by rw [rel.length];rfl⟩,fun b hb=>?_,q⟩
 have le:s1.heap.objs.size≤b:=by
  rw [List.mem_singleton.mp hb]
  simp [Heap.push]
 exact I1.fpOk le (I1.hok.fresh le)
def Iti (a:Addr) (o:Obj) (kvs:List (Key×V)):It:=
 ⟨fun i H=>H a=some (.frz o (.dK kvs))∧i < kvs.length,fun i H x H'=>∃T k u,H T=none∧x= .ref T∧kvs[i]?=some (k,u)∧H'=upd H T (.tup [kV k,u]),fun i H=>H a=some (.frz o (.dK kvs))∧kvs.length≤i⟩
def ISt (it a:Addr) (o:Obj) (n i:Nat) (h:Heap):Prop:=∃es ep,o.data= .dict es ep∧∃ok ov,IsItemIter h it a i n ep ok ov
theorem Jw6 {P:Program} {w:World} {K:PySem.W.Frag} {elts:List Expr} {kt:Nat} {pt:Pos} (a it:Addr) (o:Obj) (kvs:List (Key×V)):Jpk P w K (.Tuple elts kt pt) (Iti a o kvs) [it] it (ISt it a o kvs.length) where
 mem:=by simp
 obj:=fun i h st b hb=>by
  have e:b=it:=by simpa using hb
  subst e
  obtain ⟨es,ep,_,ok,ov,e⟩:=st
  exact ⟨_,e,fun v z=>by cases z⟩
 keep:=fun i h h' st k=>by
  obtain ⟨es,ep,q,ok,ov,e⟩:=st
  exact ⟨es,ep,q,ok,ov,k it (by simp) _ e⟩
 item:=by
  intro X hP hw hK hc i pins s σ H E I hf st hg
  subst hP hw hK
  obtain ⟨ea,hi⟩:=hg
  obtain ⟨es,ep,ed,ok,ov,st⟩:=st
  obtain ⟨_,_,vs,es',ep',rel,ed',da⟩:=Jrx I ea
  rw [ed] at ed';cases ed'
  have hl:=rel.length
  have hx:kvs[i]?=some (kvs[i].1,kvs[i].2):=by simp [hi]
  obtain ⟨u,hu,ru⟩:=rel.get hx
  rw [hl] at st
  refine wpAny_pyNext_items_item st da hu fun key h' hk st' tT sz kk=>?_
  refine ⟨_,rfl,wpAny_letOwnedTupleGo_items (s:={s with heap:=h'}) st' fun h'' st'' sb=>?_⟩
  have ne:s.heap.objs.size≠it:=fun w'=>absurd (Heap.lt_size st) (by rw [←w'];exact Nat.lt_irrefl _)
  have tT2:h''.get? s.heap.objs.size=some {cls:=.type "tuple",data:=.seq #[key,u]}:=(sb.2 _ ne).trans tT
  refine ⟨.ref s.heap.objs.size,upd H s.heap.objs.size (.tup [kV kvs[i].1,kvs[i].2]),I.turnTup (ch:=[it]) (t':=s.toks) hf (fun c o hc q=>(sb.2 c (by simpa using hc)).trans (kk c o (by simpa using hc) q)) (Nat.le_refl _)
   ⟨(show 2≤sizeLine by decide),[key,u],.cons (Jzo hk) (.cons ru .nil),⟨_,tT2,rfl,_,rfl⟩⟩,rfl,⟨_,_,_,I.hok.fresh (Nat.le_refl _),rfl,hx,rfl⟩,⟨es,ep,ed,_,_,by rw [hl];exact st''⟩,fun c hc=>?_⟩
  have e:c=it:=by simpa using hc
  subst e
  rw [Ji7 (Ne.symm ne)]
  exact (hf c hc).1
 done:=by
  intro X hP hw hK hc i pins s σ H E I hf st hg
  subst hP hw hK
  obtain ⟨ea,hi⟩:=hg
  obtain ⟨es,ep,ed,ok,ov,st⟩:=st
  obtain ⟨_,_,vs,es',ep',rel,ed',da⟩:=Jrx I ea
  rw [ed] at ed';cases ed'
  have hl:=rel.length
  obtain ⟨f0,f1,f2,f3,f4,f5⟩:=hf it (by simp)
  rw [hl] at st
  exact wpAny_pyNext_items_end (I.ok.hd hc) st da (by simp;omega) fun h' eb=>⟨rfl,I.turned (t':=s.toks) (fun b o hb e=>eb b o hb e) f0 f1 f3 f4 f5⟩
 self:=fun _ _ _ _ _ st h=>let ⟨_,_,_,_,_,q⟩:=st;kcp_self q h
def iItems (td:TE):TI:=fun σ H R=>td σ H fun x H1=>∃a o kvs,x= .ref a∧H1 a=some (.frz o (.dK kvs))∧R (Iti a o kvs) H1
theorem Jzl {X:Cx} {elts:List Expr} {kt:Nat} {pt:Pos} {o:Expr} {td:TE} {apos cpos:Pos} (ho:PE X o td) (hbase:attributeBase o "items" X.env (eval o X.env)=eval o X.env:=by rfl) (hline:(apos.endLine==cpos.line)=true:=by rfl):
  PI X (.Tuple elts kt pt) (.Call (.Attribute o "items" apos) [] [] cpos) (iItems td):=by
 intro pins s σ H R I h
 refine wpAny_Call_method0_late hbase hline (thn (ho pins s σ H _ I h) fun v s1 ⟨x,H1,I1,r1,q1⟩=>?_)
 obtain ⟨a,ob,kvs,rfl,ea,q⟩:=q1
 obtain rfl:v=Value.ref a:=r1
 obtain ⟨t1,t2,_⟩:=Jz6 I1 (.inl ⟨kvs,.inr ⟨ob,ea⟩⟩)
 refine ⟨"dict","dict.items",PySem.F.plainAttrs_dict,PySem.F.slot_dict_items,PySem.F.type_dict_items,t1,t2,Calls.callWith_builtin rfl (PySem.evalArgs_none ?_)⟩
 obtain ⟨z,hd,vs,es,ep,rel,ed,da⟩:=Jrx I1 ea
 refine call_meetsIn PySem.F.slot_dict_items da.dictOf.typeIs PySem.F.entry_dict_items (PySem.F.args_dict_items_1 _) (meets_dict_items (Jif X.prog X.w) a hd) ⟨⟨vs,da.dictOf⟩,?_⟩
 refine wpAny_pyIter_items (knd:=Jif X.prog X.w) (d:=a) (kvs:=vs) (ep:=ep) ⟨_,Heap.get?_push_size _ rfl,rfl,rfl⟩ (da.keep fun b o e=>Heap.get?_push_of_some _ e) ?_
 refine ⟨_,[_],_,_,H1,rfl,I1.kept (t':=s1.toks) fun b o e=>Heap.get?_push_of_some _ (Heap.get?_push_of_some _ e),Jw6 a _ ob kvs,⟨es,ep,ed,.none,.none,by rw [rel.length];exact Heap.get?_push_size _ rfl⟩,fun b hb=>?_,q⟩
 have le:s1.heap.objs.size≤b:=by
  rw [List.mem_singleton.mp hb]
  simp [Heap.push]
 exact I1.fpOk le (I1.hok.fresh le)
section
variable {g:TG} {tt:TT} {te:TE} {H:Hp} {D:Addr} {σ:St} {R:Hp→Prop}
theorem Jx6 {a:Addr} {o:Obj} {kvs:List (Key×V)} (Pv:Nat→St→Hp→Prop) (h0:Pv 0 σ H) (hl:∀i σ H,i≤kvs.length→Pv i σ H→H a=some (.frz o (.dK kvs)))
  (hs:∀i k x σ H,kvs[i]?=some (k,x)→Pv i σ H→g x σ H fun σ3 H3=>tt σ3 H3 fun b H4=>if b=true then te σ3 H4 (fun v H5=>∃ys,H5 D=some (.lst ys)∧ys.length < sizeLine∧Pv (i+1) σ3 (upd H5 D (.lst (ys++ [v])))) else Pv (i+1) σ3 H4)
  (hd:∀σ H,Pv kvs.length σ H→R H):
  ∃W:Nat→Nat→St→Hp→Prop,(∃m,W 0 m σ H)∧∀i m σ' H',W i m σ' H'→((Itv a o kvs).stop i H'∧R H')∨((Itv a o kvs).go i H'∧∃N:St→Hp→Prop,(∀σ2 H2,N σ2 H2→∃m',m' < m∧W (i+1) m' σ2 H2)∧
   ∀x H2,(Itv a o kvs).yld i H' x H2→g x σ' H2 fun σ3 H3=>tt σ3 H3 fun b H4=>if b=true then te σ3 H4 (fun v H5=>∃ys,H5 D=some (.lst ys)∧ys.length < sizeLine∧N σ3 (upd H5 D (.lst (ys++ [v])))) else N σ3 H4):=by
 refine ⟨fun i m σ H=>m=kvs.length - i∧i≤kvs.length∧Pv i σ H,⟨kvs.length,by simp,Nat.zero_le _,h0⟩,?_⟩
 rintro i m σ H ⟨rfl,hi,p⟩
 have q:=hl i σ H hi p
 by_cases hlt:i < kvs.length
 ·refine .inr ⟨⟨q,hlt⟩,Pv (i+1),fun σ' H' p'=>⟨kvs.length - (i+1),by omega,rfl,hlt,p'⟩,fun x H' y=>?_⟩
  obtain ⟨e,k,y⟩:=y
  subst e
  exact hs i k x σ _ y p
 ·have e:i=kvs.length:=by omega
  subst e
  exact .inl ⟨⟨q,Nat.le_refl _⟩,hd σ H p⟩
theorem Jv5 {a:Addr} {o:Obj} {kvs:List (Key×V)} (Pv:Nat→St→Hp→Prop) (h0:Pv 0 σ H) (hl:∀i σ H,i≤kvs.length→Pv i σ H→H a=some (.frz o (.dK kvs)))
  (hs:∀i k x σ H T,kvs[i]?=some (k,x)→Pv i σ H→H T=none→g (.ref T) σ (upd H T (.tup [kV k,x])) fun σ3 H3=>tt σ3 H3 fun b H4=>if b=true then te σ3 H4 (fun v H5=>∃ys,H5 D=some (.lst ys)∧ys.length < sizeLine∧Pv (i+1) σ3 (upd H5 D (.lst (ys++ [v])))) else Pv (i+1) σ3 H4)
  (hd:∀σ H,Pv kvs.length σ H→R H):
  ∃W:Nat→Nat→St→Hp→Prop,(∃m,W 0 m σ H)∧∀i m σ' H',W i m σ' H'→((Iti a o kvs).stop i H'∧R H')∨((Iti a o kvs).go i H'∧∃N:St→Hp→Prop,(∀σ2 H2,N σ2 H2→∃m',m' < m∧W (i+1) m' σ2 H2)∧
   ∀x H2,(Iti a o kvs).yld i H' x H2→g x σ' H2 fun σ3 H3=>tt σ3 H3 fun b H4=>if b=true then te σ3 H4 (fun v H5=>∃ys,H5 D=some (.lst ys)∧ys.length < sizeLine∧N σ3 (upd H5 D (.lst (ys++ [v])))) else N σ3 H4):=by
 refine ⟨fun i m σ H=>m=kvs.length - i∧i≤kvs.length∧Pv i σ H,⟨kvs.length,by simp,Nat.zero_le _,h0⟩,?_⟩
 rintro i m σ H ⟨rfl,hi,p⟩
 have q:=hl i σ H hi p
 by_cases hlt:i < kvs.length
 ·refine .inr ⟨⟨q,hlt⟩,Pv (i+1),fun σ' H' p'=>⟨kvs.length - (i+1),by omega,rfl,hlt,p'⟩,fun x H' y=>?_⟩
  obtain ⟨T,k,u,hT,rfl,y,rfl⟩:=y
  exact hs i k u σ _ T y p hT
 ·have e:i=kvs.length:=by omega
  subst e
  exact .inl ⟨⟨q,Nat.le_refl _⟩,hd σ H p⟩
end
end L2
namespace L2
open PySem PySem.Spec PyProof.Rows PySem.W
theorem Jsx:typeLookup (.type "list") "keys" =pure none:=by rw [typeLookup_type,builtinLookup_eq_fast];kernel_rfl
section
variable {prog:Program} {w:World} {A:Around} {E:Value→Shared→Prop} {s:Shared} {a:Addr} {its:Array Value} {n:Nat}
theorem Jqa {Q:Option Value→Shared→Prop} (hx:s.heap.get? a=some {cls:=.type "list",data:=.seq its n}) (hA:A.handled=none)
  (h:∀h' tk,(∀b o,s.heap.get? b=some o→h'.get? b=some o)→Q none {s with heap:=h',toks:=tk}):
  wpAny (model prog w) A (getAttr? (.ref a) "keys") Q E s:=by
 obtain ⟨hp,g,d,tk,os⟩:=s
 have hT:∀tk',(⟨hp,g,d,tk',os⟩:Shared).TypeIs (.ref a) "list" :=fun _=>⟨_,hx,rfl⟩
 have f1:=sub_AttributeError
 have f3:=PySem.F.slot_list_getattribute.lookup
 have f4:=PySem.F.slot_list_getattribute.bind (.ref a)
 have f5:=am_list_getattr_none
 unfold getAttr? getAttrBy? getAttrBy
 repeat (any_goals (first|assumption|exact hT _|((with_reducible show wpAny _ _ (call (Value.builtin "list.__getattribute__") _ _) _ _ _);refine call_meets PySem.F.slot_list_getattribute (hT _) am_entry_list_getattribute (PySem.F.args_list_getattribute_2 _ _) (meets_getattribute_miss_list a its n #[] "keys" _ Jsx (by decide) (by size_fits)) ⟨hx,hA,fun h' tk' e hx'=>?_⟩)|wp_step))
 obtain ⟨t',u',he⟩:=hx'.there
 show wpAny _ _ (getattributeRaised _ _ _ _ _ _ _) _ _ _
 unfold getattributeRaised
 repeat (any_goals (first|assumption|wp_step))
 exact h _ _ hx'.keeps
end
theorem Jrw:entryFor table "dict.update.loop" =some Builtin.«dict.update.loop»:=entryFor_of_tree (by kernel_rfl)
section
variable {prog:Program} {w:World} {K:Type} [DecidableEq K] {knd:KeyKind prog w K} {A:Around}
theorem Jy3 {α:Type} {l:List α} {i:Nat} {x:α} (h:l[i]?=some x):l.take (i+1)=l.take i++ [x]:=by
 rw [List.take_add_one,h];rfl
theorem Jtp {vs:List (K×Value)} {i:Nat} {k:K} {v:Value} (nd:(vs.map (·.1)).Nodup) (h:vs[i]?=some (k,v)):valueAt (vs.take i) k=none:=by
 unfold valueAt
 rw [List.find?_eq_none.mpr]
 ·rfl
 ·intro p hp
  obtain ⟨j,hj,rfl⟩:=List.mem_take_iff_getElem.mp hp
  simp only [decide_eq_true_eq]
  intro e
  have hi:=(List.getElem?_eq_some_iff.mp h).1
  have ev:vs[i]=(k,v):=(List.getElem?_eq_some_iff.mp h).2
  have q:=List.pairwise_iff_getElem.mp nd j i (by simp;omega) (by simp;omega) (by omega)
  exact q (by simp [e,ev])
theorem dul {s₀:Shared} {its:Array Value} {L n it:Addr} {vs:List (K×Value)} {R:Result→Shared→Prop} (hh:A.handled=none) (nd:(vs.map (·.1)).Nodup) (hz:vs.length≤sizeLine) (hi:its.size=vs.length) (hL:s₀.heap.IsList L its)
  (hp:∀(i:Nat) (k:K) (v:Value),vs[i]?=some (k,v)→∃T key o m,its[i]?=some (Value.ref T)∧s₀.heap.get? T=some o∧o.cls= .type "tuple" ∧o.data= .seq #[key,v] m∧knd.is k key=true)
  (hn:s₀.heap.objs.size≤n) (hit:s₀.heap.objs.size≤it) (ne:n≠it)
  (hR:∀h' tk,(∀b o,s₀.heap.get? b=some o→h'.get? b=some o)→h'.DictOf knd n vs→R (.ok (.ret .none)) {s₀ with heap:=h',toks:=tk}):
  ∀(j i:Nat) (h:Heap) (tk:Nat),i+j=vs.length→(∀b o,s₀.heap.get? b=some o→h.get? b=some o)→h.DictOf knd n (vs.take i)→h.IsListIter it L i→
   codeAny (model prog w) A (.builtin "dict.update.loop" ⟨[.ref n,.ref it,rawInt i,.none],[]⟩) R {s₀ with heap:=h,toks:=tk}:=by
 intro j
 induction j with
 |zero=>
  intro i h tk e keep hd st
  have ei:i=vs.length:=by omega
  subst ei
  rw [List.take_length] at hd
  refine codeAny_builtin Jrw ?_
  unfold Builtin.«dict.update.loop»
  refine wpAny_bind (wpAny_pyNext_list_end (s:={s₀ with heap:=h,toks:=tk}) hh st (items:=its) ?_ (by simp;omega) fun h' eb=>?_)
  ·obtain ⟨o,q,r⟩:=hL
   exact ⟨o,keep _ _ q,r⟩
  ·show wpAny _ _ (Builtin.Dict.addKeywords n [] >>=fun _=>ret .none) _ _ _
   refine wpAny_bind (wpAny_pure (wpAny_pure ?_))
   have kk:∀b o,s₀.heap.get? b=some o→h'.get? b=some o:=fun b o q=>eb b o (fun z=>absurd (Heap.lt_size q) (by rw [z];exact Nat.not_lt.mpr hit)) (keep b o q)
   exact hR h' tk kk (hd.extBut eb ne)
 |succ j ih=>
  intro i h tk e keep hd st
  refine codeAny_builtin Jrw ?_
  unfold Builtin.«dict.update.loop»
  have hi':i < vs.length:=by omega
  have hx:vs[i]?=some (vs[i].1,vs[i].2):=by simp [hi']
  obtain ⟨T,key,o,m,hT,ho,hc,hdt,hk⟩:=hp i _ _ hx
  have kT:∀b o,s₀.heap.get? b=some o→b≠it:=fun b o q z=>absurd (Heap.lt_size q) (by rw [z];exact Nat.not_lt.mpr hit)
  refine wpAny_bind (wpAny_pyNext_list_item (s:={s₀ with heap:=h,toks:=tk}) st (items:=its) ?_ hT fun h' st' sb=>?_)
  ·obtain ⟨o,q,r⟩:=hL
   exact ⟨o,keep _ _ q,r⟩
  have keep1:∀b o,s₀.heap.get? b=some o→h'.get? b=some o:=fun b o q=>(sb.2 b (kT b o q)).trans (keep b o q)
  have tyT:Shared.TypeIs {s₀ with heap:=h',toks:=tk} (.ref T) "tuple" :=⟨o,keep1 _ _ ho,hc⟩
  refine wpAny_bind (wpAny_holding (wpAny_bind (wpAny_tryCatch ?_)))
  unfold Builtin.Dict.pairItems
  refine wpAny_bind (wpAny_typeOf tyT ?_)
  rw [if_pos (by decide)]
  refine wpAny_bind (wpAny_seqItems (keep1 _ _ ho) hdt (wpAny_pure ?_))
  show wpAny _ _ (holding [key,vs[i].2] (dictSet n key vs[i].2)) _ _ _
  refine wpAny_holding (wpAny_dictSet_pairs (s:={s₀ with heap:=h',toks:=tk}) hk (hd.sameBut sb ne) (hsz:=by rw [List.length_take];omega) fun h2 hd2 sb2=>?_)
  refine wpAny_pure ⟨Code.quiet_builtin _ (by decide +kernel),?_⟩
  rw [stored_absent (Jtp nd hx),←Jy3 hx] at hd2
  refine ih (i+1) h2 (tk+1) (by omega) (fun b o q=>(sb2.2 b (fun z=>absurd (Heap.lt_size q) (by rw [z];exact Nat.not_lt.mpr hn))).trans (keep1 b o q)) hd2 ?_
  obtain ⟨o',q,r⟩:=st'
  exact ⟨o',(sb2.2 it (Ne.symm ne)).trans q,r⟩
end
def Jsk (H:Hp):List V→List (Key×V)→Prop:=Paired fun x p=>∃T,x= .ref T∧H T=some (.tup [kV p.1,p.2])
theorem Jpy {X:Cx} (hc:X.calm=true):Jk3 X (.type "dict") (fun xs H Q=>∃L ts kvs,xs= [V.ref L]∧H L=some (.lst ts)∧Jsk H ts kvs∧kvs.length≤1000∧(kvs.map (·.1)).Nodup∧
  ∀p o,H p=none→Q (.ref p) (upd H p (.frz o (.dK kvs)))):=by
 intro pins s σ H xs us Q I r h
 obtain ⟨L,ts,kvs,rfl,eL,pr,z,nd,q⟩:=h
 obtain ⟨u,rfl,r2⟩:=Jl2 r
 obtain rfl:u=Value.ref L:=r2
 obtain ⟨zL,its,m,rv,hL⟩:=(show ObjOk X.prog X.w H s.heap L (.lst ts) from I.hok L _ eL)
 have szL:(1000:Nat)≤sizeLine:=by rw [sizeLine_eq];decide
 have ex:∃vs:List (Key×Value),KV kvs vs∧∀(i:Nat) (k:Key) (v:Value),vs[i]?=some (k,v)→∃T key o m,its.toArray[i]?=some (Value.ref T)∧s.heap.get? T=some o∧o.cls= .type "tuple" ∧o.data= .seq #[key,v] m∧(Jif X.prog X.w).is k key=true:=by
  have one:∀(x:V) (p:Key×V),(∃T,x= .ref T∧H T=some (.tup [kV p.1,p.2]))→∀w',RelV x w'→∃v:Value,RelV p.2 v∧∃T key o m,w'=Value.ref T∧s.heap.get? T=some o∧o.cls= .type "tuple" ∧o.data= .seq #[key,v] m∧(Jif X.prog X.w).is p.1 key=true:=by
   rintro x p ⟨T,rfl,eT⟩ w' rw'
   obtain rfl:w'=Value.ref T:=rw'
   obtain ⟨_,jts,rj,o,e1,e2,m,e3⟩:=(show ObjOk X.prog X.w H s.heap T (.tup _) from I.hok T _ eT)
   cases rj with
   | @cons _ key _ _ k1 rj=>
    cases rj with
    | @cons _ v _ _ k2 rj=>
     cases rj
     exact ⟨v,k2,T,key,o,m,rfl,e1,e2,e3,Ju0 k1⟩
  clear hL eL r z nd q zL
  induction pr generalizing its with
  |nil=>cases rv;exact ⟨[],.nil,fun i k v e=>by simp at e⟩
  | @cons x p l1 l2 hx t ih=>
   cases rv with
   | @cons _ w' _ its' k1 k2=>
    obtain ⟨vs,a1,a2⟩:=ih _ k2
    obtain ⟨v,b1,T,key,o,m,b2,b3⟩:=one x p hx w' k1
    refine ⟨(p.1,v)::vs,.cons ⟨rfl,b1⟩ a1,fun i k v' e=>?_⟩
    cases i with
    |zero=>
     simp at e
     obtain ⟨rfl,rfl⟩:=e
     exact ⟨T,key,o,m,by simp [b2],b3⟩
    |succ j=>
     obtain ⟨T,key,o,m,c1,c2⟩:=a2 j k v' (by simpa using e)
     exact ⟨T,key,o,m,by simpa using c1,c2⟩
 obtain ⟨vs,rel,hp⟩:=ex
 have el:its.toArray.size=vs.length:=by
  have e1:=rv.length
  have e2:=Paired.length pr
  have e3:=rel.length
  simp;omega
 have ndv:(vs.map (·.1)).Nodup:=by
  have e:∀{a:List (Key×V)} {b:List (Key×Value)},KV a b→a.map (·.1)=b.map (·.1):=by
   intro a b h
   induction h with
   |nil=>rfl
   |cons h t ih=>rw [List.map_cons,List.map_cons,ih,h.1]
  rw [←e rel];exact nd
 refine callType_codes (Q₁:=fun obj s₁=>obj= .ref s.heap.objs.size∧s₁={s with heap:=s.heap.push {cls:=.type "dict",data:=.dict #[]}}) PySem.F.kt_called_dict (PySem.F.kt_typeCall_dict_1 _) PySem.F.entry_dict_init (kt_code_dict_new _ ⟨rfl,rfl⟩) ?_
 rintro obj s₁ ⟨rfl,rfl⟩
 have hnew:(s.heap.push {cls:=.type "dict",data:=.dict #[]}).DictOf (Jif X.prog X.w) s.heap.objs.size []:=Heap.DictOf.new s.heap
 have hL1:(s.heap.push {cls:=.type "dict",data:=.dict #[]}).get? L=some {cls:=.type "list",data:=.seq its.toArray m}:=Heap.get?_push_of_some _ hL
 refine ⟨hnew.typeIs,PySem.F.args_dict_init_2 _ _,?_⟩
 unfold Builtin.«dict.__init__»
 refine wpAny_bind ?_
 unfold Builtin.Dict.selfAndRest
 refine wpAny_bind (wpAny_notOrdered_dict hnew.typeIs ?_)
 show wpAny _ _ (pure (s.heap.objs.size,[Value.ref L])) _ _ _
 refine wpAny_pure ?_
 show wpAny _ _ (Builtin.Dict.updateFrom "dict.__init__" s.heap.objs.size (.ref L) [] .none) _ _ _
 unfold Builtin.Dict.updateFrom
 refine wpAny_bind (wpAny_typeOf (T:="list") ⟨_,hL1,rfl⟩ ?_)
 rw [if_pos (by decide)]
 refine wpAny_bind (Jqa hL1 (I.ok.hd hc) fun h1 tk1 kp1=>?_)
 show wpAny _ _ (rule _ >>=_) _ _ _
 refine wpAny_bind (wpAny_rule ?_)
 have hL2:h1.IsList L its.toArray:=⟨_,kp1 _ _ hL1,rfl,_,rfl⟩
 refine wpAny_bind (wpAny_pyIter_list hL2 ?_)
 refine wpAny_pure ⟨Code.quiet_builtin _ (by decide +kernel),?_⟩
 have sz1:s.heap.objs.size < h1.objs.size:=Heap.lt_size (kp1 s.heap.objs.size _ (Heap.get?_push_size _ rfl))
 refine dul (A:=X.A.in1) (s₀:=s) (its:=its.toArray) (L:=L) (n:=s.heap.objs.size) (it:=h1.objs.size) (vs:=vs) (knd:=Jif X.prog X.w) (I.ok.hd hc) ndv (by have:=rel.length;omega) el ⟨_,hL,rfl,_,rfl⟩ hp (Nat.le_refl _) (Nat.le_of_lt sz1) (Nat.ne_of_lt sz1) (fun h' tk kp dd=>?_) vs.length 0 (h1.push {cls:=.type "list_iterator",data:=.fields #[.ref L,.int 0 0]}) tk1 (Nat.zero_add _)
  (fun b o e=>Heap.get?_push_of_some _ (kp1 b o (Heap.get?_push_of_some _ e))) ?_ ?_
 ·refine ⟨rfl,?_⟩
  have I2:Inv X pins σ (upd H s.heap.objs.size (.dK kvs)) {s with heap:=h',toks:=tk}:=I.laid (a:=s.heap.objs.size) (o:=.dK kvs) (t':=tk) kp (Nat.le_refl _) (Jyr (by omega) (beq_eq_false_iff_ne.mpr (Ne.symm (Nat.ne_of_lt I.big))) rel dd)
  obtain ⟨o,es,ep,e,_⟩:=id dd
  have I3:=I2.frz (Ji1 ..) e
  refine ⟨.ref s.heap.objs.size,_,I3,rfl,?_⟩
  have eu:upd (upd H s.heap.objs.size (.dK kvs)) s.heap.objs.size (.frz o (.dK kvs))=upd H s.heap.objs.size (.frz o (.dK kvs)):=by
   funext b
   unfold upd
   split <;> rfl
  rw [eu]
  exact q _ o (I.hok.fresh (Nat.le_refl _))
 ·obtain ⟨o,es,ep,e,r⟩:=hnew
  exact ⟨o,es,ep,Heap.get?_push_of_some _ (kp1 _ _ e),r⟩
 ·exact ⟨_,Heap.get?_push_size _ rfl,rfl,rfl⟩
end L2
namespace L2
open PySem PySem.Spec PyProof.Rows PySem.W
def rAny (K:PySem.W.Frag):List V→Hp→VK→Prop:=fun xs H Q=>∃(a:Addr) (bs:List Bool),xs= [.ref a]∧SqL K H a (bs.map V.bl)∧Q (.bl (bs.any id)) H
theorem Jyh {X:Cx} {K:PySem.W.Frag} (hK:X.K=K) (hc:X.calm=true):Jk3 X (.builtin "any") (rAny K):=by
 subst hK
 intro pins s σ H xs us Q I r h
 obtain ⟨a,bs,rfl,hq,q⟩:=h
 obtain ⟨u,rfl,ru⟩:=Jl2 r
 cases ru
 obtain ⟨its,rv,pl,hz⟩:=I.list hq
 have hlen:=rv.length
 refine call_any_walk (wpAny_pyIter_list pl.isList ⟨s.heap.objs.size,[s.heap.objs.size,a],[s.heap.objs.size],its.toArray.size,_,_,fun i=>bs.getD i false,rfl,Walks.list (prog:=X.prog) (w:=X.w) (A:=X.A.in1) (show X.A.in1.handled=none from I.ok.hd hc) s.heap.objs.size a ?_ its.toArray,⟨⟨_,Heap.get?_push_size _ rfl,rfl,rfl⟩,pl.isList.at fun o e=>Heap.get?_push_of_some _ e⟩,?_,fun h' tk k=>?_⟩)
 ·obtain ⟨o,_,e,_⟩:=pl
  exact Nat.ne_of_lt (Heap.lt_size e)
 ·intro i v s' Q' E' hv hq'
  have hv':its[i]?=some v:=by simpa using hv
  have hi:i < its.length:=(List.getElem?_eq_some_iff.mp hv').1
  have hb:i < bs.length:=by rw [List.length_map] at hlen;omega
  obtain ⟨u',hu',ru'⟩:=rv.get (i:=i) (x:=V.bl bs[i]) (by rw [List.getElem?_map,List.getElem?_eq_getElem hb];rfl)
  rw [hv'] at hu'
  cases hu'
  cases ru'
  refine wpAny_truthy_bool ?_
  have:bs.getD i false=bs[i]:=by rw [List.getD_eq_getElem?_getD,List.getElem?_eq_getElem hb];rfl
  rw [←this]
  exact hq'
 ·have e:((List.range its.toArray.size).any fun i=>bs.getD i false)=bs.any id:=by
   have hl2:its.toArray.size=bs.length:=by rw [List.length_map] at hlen;rw [List.size_toArray];exact hlen.symm
   rw [hl2,Bool.eq_iff_iff,List.any_eq_true,List.any_eq_true]
   constructor
   ·rintro ⟨i,hi,hh⟩
    have hi':=List.mem_range.mp hi
    rw [List.getD_eq_getElem?_getD,List.getElem?_eq_getElem hi'] at hh
    exact ⟨_,List.getElem_mem hi',hh⟩
   ·rintro ⟨b,hb,hh⟩
    obtain ⟨i,hi,rfl⟩:=List.getElem_of_mem hb
    refine ⟨i,List.mem_range.mpr hi,?_⟩
    rw [List.getD_eq_getElem?_getD,List.getElem?_eq_getElem hi]
    exact hh
  rw [e]
  exact ⟨.bl _,H,I.kept fun b o e=>k b o (fun z=>by
   have z':b=s.heap.objs.size:=by simpa using z
   exact absurd (Heap.lt_size e) (by rw [z'];exact Nat.lt_irrefl _)) (Heap.get?_push_of_some _ e),rfl,q⟩
theorem Jx2 {X:Cx}:Jk3 X (.type "range") (fun xs H Q=>∃i j,xs= [V.int i,V.int j]∧∀p,H p=none→Q (.ref p) (upd H p (.rng i j))):=by
 intro pins s σ H xs us Q I r h
 obtain ⟨i,j,rfl,q⟩:=h
 cases r with
 |cons r1 r=>
  cases r with
  |cons r2 r=>
   cases r
   obtain ⟨t1,rfl⟩:=r1
   obtain ⟨t2,rfl⟩:=r2
   refine call_range_2 ⟨.ref s.heap.objs.size,_,I.laid (a:=s.heap.objs.size) (o:=.rng i j) (fun b o e=>Heap.get?_push_of_some _ e) (Nat.le_refl _) ⟨_,_,_,Heap.get?_push_size _ rfl⟩,rfl,q _ (I.hok.fresh (Nat.le_refl _))⟩
theorem Yb7 {xs:List V} {acc:Array Value} {n:Nat} {P:Nat→Value→Prop} (e:xs.length=n) (h:ItemsOf P acc n) (hP:∀(i:Nat) (v:Value),i < n→P i v→∃x,xs[i]?=some x∧RelV x v):Vals xs acc.toList:=by
 obtain ⟨h1,h2⟩:=h
 have go:∀(xs:List V) (l:List Value),xs.length=l.length→(∀(i:Nat) (v:Value),l[i]?=some v→∃x,xs[i]?=some x∧RelV x v)→Vals xs l:=by
  intro xs
  induction xs with
  |nil=>
   intro l e _
   cases l with
   |nil=>exact .nil
   |cons _ _=>simp at e
  |cons x xs ih=>
   intro l e hl
   cases l with
   |nil=>simp at e
   |cons v l=>
    obtain ⟨y,e1,r1⟩:=hl 0 v rfl
    simp at e1
    subst e1
    exact .cons r1 (ih l (by simpa using e) fun i v' e'=>by simpa using hl (i+1) v' (by simpa using e'))
 refine go xs acc.toList (by simp only [Array.length_toList];exact e.trans h1.symm) fun i v e'=>?_
 have e2:acc[i]?=some v:=by rw [←Array.getElem?_toList];exact e'
 exact hP i v (by have:=(Array.getElem?_eq_some_iff.mp e2).1;omega) (h2 i v e2)
theorem Jr5 {X:Cx} (hc:X.calm=true):Jk3 X (.type "list") (fun xs H Q=>∃p i j,xs= [V.ref p]∧H p=some (.rng i j)∧ -1000≤i∧i≤1000∧ -1000≤j∧j≤1000∧
  ∀l,H l=none→Q (.ref l) (upd H l (.lst ((List.range (j - i).toNat).map fun k:Nat=>V.int (i+k))))):=by
 intro pins s σ H xs us Q I r h
 obtain ⟨p,i,j,rfl,hp,h1,h2,h3,h4,q⟩:=h
 obtain ⟨u,rfl,r2⟩:=Jl2 r
 obtain rfl:u=Value.ref p:=r2
 obtain ⟨t,u,v,e⟩:=(show ObjOk X.prog X.w H s.heap p (.rng i j) from I.hok p _ hp)
 refine call_list_range (n:=(j - i).toNat) (I.ok.hd hc) e (small_one (by omega) (by omega) (by omega) (by omega)) (by rw [rangeSize_one];split <;> omega) (by omega) fun h' tk acc c kp hl hI=>?_
 have rv:Vals ((List.range (j - i).toNat).map fun k:Nat=>V.int (i+k)) acc.toList:=by
  refine Yb7 (n:=(j - i).toNat) (by simp) hI fun k w' lt hw=>?_
  obtain ⟨t,rfl⟩:=hw
  exact ⟨.int (i+k),by simp [lt],t,by simp⟩
 refine ⟨.ref s.heap.objs.size,_,I.laid (a:=s.heap.objs.size) (o:=.lst _) (t':=tk) kp (Nat.le_refl _) ⟨?_,acc.toList,c,rv,by simpa using hl⟩,rfl,q _ (I.hok.fresh (Nat.le_refl _))⟩
 rw [sizeLine_eq,List.length_map,List.length_range]
 omega
end L2
namespace L2
open PySem PySem.Spec PyProof.Rows PySem.W
def Jnd (xs:Array Nat):Prop:=∀i k,i < k→k < xs.size→xs.getD i 0 < xs.getD k 0
theorem Jwu {xs:Array Nat} (h:Jnd xs) {i k:Nat} (ik:i≤k) (hk:k < xs.size):xs.getD i 0≤xs.getD k 0:=by
 rcases Nat.lt_or_eq_of_le ik with q|q
 ·exact Nat.le_of_lt (h i k q hk)
 ·rw [q];exact Nat.le_refl _
theorem Jz1 {xs:Array Nat} {i:Nat} (h:i < xs.size) (a b:Nat):xs.getD i a=xs.getD i b:=by simp [Array.getD,h]
theorem Jye {xs:Array Nat} {j:Nat} (rs:Jnd xs):∀(fuel lo hi:Nat),hi - lo≤fuel→lo≤hi→hi≤xs.size→(∀i,i < lo→xs.getD i 0 < j)→(∀i,hi≤i→i < xs.size→j≤xs.getD i 0)→
  SetTable.below.go xs j fuel lo hi≤xs.size∧(∀i,i < SetTable.below.go xs j fuel lo hi→xs.getD i 0 < j)∧∀i,SetTable.below.go xs j fuel lo hi≤i→i < xs.size→j≤xs.getD i 0:=by
 intro fuel
 induction fuel with
 |zero=>
  intro lo hi h1 h2 h3 h4 h5
  have e:lo=hi:=by omega
  subst e
  exact ⟨h3,h4,h5⟩
 |succ fuel ih=>
  intro lo hi h1 h2 h3 h4 h5
  unfold SetTable.below.go
  by_cases lt:lo < hi
  ·rw [if_pos lt]
   have hm:(lo+hi)/2 < xs.size:=by omega
   dsimp only
   rw [Jz1 hm j 0]
   by_cases c:xs.getD ((lo+hi)/2) 0 < j
   ·rw [if_pos c]
    refine ih ((lo+hi)/2+1) hi (by omega) (by omega) h3 (fun i hi'=>?_) h5
    exact Nat.lt_of_le_of_lt (Jwu rs (by omega) hm) c
   ·rw [if_neg c]
    refine ih lo ((lo+hi)/2) (by omega) (by omega) (by omega) h4 fun i hi' hs=>?_
    exact Nat.le_trans (Nat.le_of_not_lt c) (Jwu rs hi' hs)
  ·rw [if_neg lt]
   have e:lo=hi:=by omega
   subst e
   exact ⟨h3,h4,h5⟩
theorem Jo0 {xs:Array Nat} (rs:Jnd xs) (j:Nat):SetTable.below xs j≤xs.size∧(∀i,i < SetTable.below xs j→xs.getD i 0 < j)∧∀i,SetTable.below xs j≤i→i < xs.size→j≤xs.getD i 0:=
 Jye rs xs.size 0 xs.size (by omega) (by omega) (Nat.le_refl _) (fun i h=>absurd h (Nat.not_lt_zero _)) fun i h1 h2=>absurd h2 (Nat.not_lt.mpr h1)
theorem Jv1 {xs:Array Nat} (rs:Jnd xs) {i:Nat} (hi:i < xs.size):SetTable.below xs (xs.getD i 0+1)=i+1:=by
 obtain ⟨h1,h2,h3⟩:=Jo0 rs (xs.getD i 0+1)
 generalize SetTable.below xs (xs.getD i 0+1)=k at*
 by_cases lt:k≤i
 ·have:=h3 i lt hi
  omega
 ·by_cases gt:i+1 < k
  ·have q:=h2 (i+1) gt
   have q2:=rs i (i+1) (Nat.lt_succ_self _) (by omega)
   omega
  ·omega
theorem Jv2 {xs:Array Nat} (rs:Jnd xs):SetTable.below xs 0=0:=by
 obtain ⟨h1,h2,h3⟩:=Jo0 rs 0
 generalize SetTable.below xs 0=k at*
 by_cases lt:0 < k
 ·exact absurd (h2 0 lt) (Nat.not_lt_zero _)
 ·omega
theorem Jr7 {α:Type} (xs:Array α) (p:Nat) (x:α) (hp:p≤xs.size):(SetTable.insertAt xs p x).toList=xs.toList.take p++x::xs.toList.drop p:=by
 unfold SetTable.insertAt
 simp [Array.toList_extract,List.take_of_length_le]
theorem risA_iff {xs:Array Nat}:Jnd xs↔xs.toList.Pairwise (· < ·):=by
 rw [List.pairwise_iff_getElem]
 constructor
 ·intro h i k hi hk ik
  have:=h i k ik (by simpa using hk)
  simp at hi hk
  simpa [Array.getD,hi,hk] using this
 ·intro h i k ik hk
  have hi:i < xs.size:=Nat.lt_trans ik hk
  have:=h i k (by simpa using hi) (by simpa using hk) ik
  simpa [Array.getD,hi,hk] using this
theorem Jxw {t:SetTable} {j:Nat} (rs:Jnd t.place) (nj:j∉t.place.toList):Jnd (t.put j).1.place:=by
 show Jnd (SetTable.insertAt t.place (SetTable.below t.place j) j)
 obtain ⟨h1,h2,h3⟩:=Jo0 rs j
 generalize SetTable.below t.place j=k at*
 rw [risA_iff,Jr7 _ _ _ h1]
 have pw:=risA_iff.mp rs
 have get:∀x∈t.place.toList.take k,x < j:=fun x hx=>by
  obtain ⟨i,hi,rfl⟩:=List.mem_take_iff_getElem.mp hx
  have lt:i < t.place.size:=by simp at hi;omega
  have:=h2 i (by omega)
  simpa [Array.getD,lt] using this
 have get2:∀x∈t.place.toList.drop k,j < x:=fun x hx=>by
  obtain ⟨i,hi,rfl⟩:=List.mem_drop_iff_getElem.mp hx
  have lt:k+i < t.place.size:=by simp at hi;omega
  have:=h3 (k+i) (by omega) lt
  have e:t.place.getD (k+i) 0=t.place.toList[k+i]'(by simpa using lt):=by simp [Array.getD,lt]
  rw [e] at this
  refine Nat.lt_of_le_of_ne this fun q=>nj ?_
  rw [q]
  exact List.getElem_mem _
 rw [List.pairwise_append,List.pairwise_cons]
 refine ⟨pw.sublist (List.take_sublist _ _),⟨get2,pw.sublist (List.drop_sublist _ _)⟩,fun a ha b hb=>?_⟩
 rcases List.mem_cons.mp hb with rfl|hb
 ·exact get a ha
 ·exact Nat.lt_trans (get a ha) (get2 b hb)
theorem Jzz {t:SetTable} {j:Nat} (rs:Jnd t.place) (h:∀i,t.slot j≠ .live i):j∉t.place.toList:=fun hm=>by
 obtain ⟨i,hi,e⟩:=List.getElem_of_mem hm
 obtain ⟨h1,h2,h3⟩:=Jo0 rs j
 have lt:i < t.place.size:=by simpa using hi
 have ei:t.place.getD i 0=j:=by simpa [Array.getD,lt] using e
 have ek:SetTable.below t.place j=i:=by
  rcases Nat.lt_trichotomy (SetTable.below t.place j) i with q|q|q
  ·have:=h3 _ (Nat.le_refl _) (Nat.lt_trans q lt)
   have:=rs _ i q lt
   omega
  ·exact q
  ·have:=h2 i q
   omega
 refine h i ?_
 unfold SetTable.slot
 dsimp only
 rw [ek,if_pos]
 have:t.place[i]?=some j:=by
  rw [Array.getElem?_eq_getElem lt]
  simp [Array.getD,lt] at ei
  rw [ei]
 rw [this]
 simp
theorem Jn5 (t:SetTable) (p:SetTable.Probe):(t.advance p).dummy=p.dummy:=by
 unfold SetTable.advance
 split <;> rfl
theorem Jzm {t:SetTable} {f:Nat→Int} {h:Int}:∀(fuel:Nat) (p:SetTable.Probe) (j:Nat) (d:Option Nat),(∀x,p.dummy=some x→t.slot x= .dummy)→SetTable.probe.go t f h fuel p=some (.empty j d)→
  t.slot j= .empty∧∀x,d=some x→t.slot x= .dummy:=by
 intro fuel
 induction fuel with
 |zero=>intro p j d _ e;simp [SetTable.probe.go] at e
 |succ fuel ih=>
  intro p j d hd e
  unfold SetTable.probe.go at e
  split at e
  ·rename_i es
   simp at e
   obtain ⟨rfl,rfl⟩:=e
   exact ⟨es,hd⟩
  ·rename_i es
   refine ih _ j d ?_ e
   intro x hx
   rw [Jn5] at hx
   simp at hx
   rw [←hx]
   exact es
  ·split at e
   ·simp at e
   ·refine ih _ j d ?_ e
    intro x hx
    rw [Jn5] at hx
    exact hd x hx
theorem Jyz {t:SetTable} {h:Int} {j:Nat} {b:Bool} (rs:Jnd t.place) (e:t.freeSlot h=some (j,b)):j∉t.place.toList:=by
 unfold SetTable.freeSlot at e
 split at e
 ·rename_i jj d ep
  unfold SetTable.probe at ep
  obtain ⟨q1,q2⟩:=Jzm _ _ _ _ (fun x hx=>by simp [SetTable.probeStart] at hx) ep
  simp at e
  obtain ⟨e1,_⟩:=e
  refine Jzz rs fun i z=>?_
  cases d with
  |none=>
   simp at e1
   rw [←e1,q1] at z
   cases z
  |some x=>
   simp at e1
   have:=q2 x rfl
   rw [←e1,this] at z
   cases z
 ·simp at e
def Jn3 (b:Bool) (t:SetTable):Prop:=(t.plain=true→Jnd t.place)∧t.led=b
theorem Jl4 {b:Bool} {t:SetTable} (n:Nat) (h:t.led=b):Jn3 b (t.standIn n):=⟨fun z=>by simp [SetTable.standIn] at z,h⟩
theorem Ju2 {b:Bool} {t:SetTable} (es:Array (Int×Value)) (h:Int) (x:Value) (g:Jn3 b t):Jn3 b (layNew t es h x).2.1:=by
 unfold layNew
 split
 ·rename_i j wd e
  dsimp only
  unfold SetTable.orStandIn
  split
  ·exact ⟨fun z=>Jxw (g.1 z) (Jyz (g.1 z) e),g.2⟩
  ·exact Jl4 _ g.2
 ·exact Jl4 _ g.2
theorem Jz8 {α:Type} (f:Nat→Option α):∀l:List Nat,((l.filterMap fun j=>(f j).map (j,·)).map (·.1)).Sublist l:=by
 intro l
 induction l with
 |nil=>exact List.Sublist.refl _
 |cons a l ih=>
  rw [List.filterMap_cons]
  cases f a with
  |none=>exact ih.trans (List.sublist_cons_self _ _)
  |some y=>exact ih.cons₂ a
theorem Jvt {b:Bool} {t:SetTable} (es:Array (Int×Value)) (n:Nat) (g:Jn3 b t):Jn3 b (relayAll t es n).2.1:=by
 unfold relayAll
 split
 ·rename_i t' order e
  dsimp only
  split
  ·unfold SetTable.relaid SetTable.laid at e
   obtain ⟨owner,_,e⟩:=Option.bind_eq_some_iff.mp e
   simp only [Option.pure_def,Option.some.injEq,Prod.mk.injEq] at e
   obtain ⟨e1,_⟩:=e
   subst e1
   exact ⟨fun _=>risA_iff.mpr (List.pairwise_lt_range.sublist (Jz8 (fun j=>owner.getD j none) _)),g.2⟩
  ·exact Jl4 _ g.2
 ·exact Jl4 _ g.2
end L2
namespace L2
open PySem PySem.Spec PyProof.Rows PySem.W
section
variable {prog:Program} {w:World} {K:Type} [DecidableEq K] {knd:KeyKind prog w K} {A:Around} {E:Value→Shared→Prop} {s:Shared} {b:Bool}
variable (knd) in
def Apart (l:List (Int×Value)):Prop:=l.Pairwise fun e e'=>∀k,knd.is k e.2=true→knd.is k e'.2=true→False
theorem Apart.perm {l l':List (Int×Value)} (h:Apart knd l) (p:l'.Perm l):Apart knd l':=(p.pairwise_iff fun {x y} q k a b=>q k b a).mpr h
variable (knd) (b) in
def SetG (h:Heap) (a:Addr) (S:K→Bool) (n:Nat):Prop:=
 ∃o es ep t,h.get? a=some o∧o.ExactSet∧o.data= .set es ep t∧ElemsOf knd es.toList∧(∀k,S k=true↔∃e∈es.toList,knd.is k e.2=true)∧es.size < scanBound∧t.fits es.size=true∧es.size≤n∧Jn3 b t∧Apart knd es.toList
theorem Jur {h:Heap} {a:Addr} {o:Obj} {es:Array (Int×Value)} {ep:Nat} {t:SetTable} (ho:h.get? a=some o) (hd:o.data= .set es ep t) (es':Array (Int×Value)) (t':SetTable):
  (h.update a (Obj.putSet es' t')).get? a=some {o with data:=.set es' (ep+1) t'}:=by
 have:=Heap.get?_update_self (Obj.putSet es' t') ho (by rw [putSet_of es' t' hd];rfl)
 rw [putSet_of es' t' hd] at this
 exact this
theorem Jsd {g:Bool→Sem Unit} (hg:∀(c:Bool) (s₁:Shared) (Q':Unit→Shared→Prop),Q' () s₁→wpAny (model prog w) A (g c) Q' E s₁)
  {a:Addr} {o:Obj} {es:Array (Int×Value)} {ep:Nat} {t:SetTable} (ho:s.heap.get? a=some o) (hex:o.ExactSet) (hd:o.data= .set es ep t)
  {es1:Array (Int×Value)} {t2:SetTable} {S':K→Bool} (hel1:ElemsOf knd es1.toList) (hmem1:∀k',S' k'=true↔∃e∈es1.toList,knd.is k' e.2=true)
  (hb1:es1.size < scanBound) (hf2:t2.fits es1.size=true) (hg2:Jn3 b t2) (hap:Apart knd es1.toList) {wasDummy:Bool} {R:Option Bool→Shared→Prop}
  (h:∀h',Heap.SameBut a s.heap h'→SetG knd b h' a S' es1.size→R (some true) {s with heap:=h'}):
  wpAny (model prog w) A (do
    storeSet a es1 t2
    if (!wasDummy&&t2.tooFull)=true then do
      g (relayAll t2 es1 (SetTable.grown es1.size)).2.2
      storeSet a (relayAll t2 es1 (SetTable.grown es1.size)).1 (relayAll t2 es1 (SetTable.grown es1.size)).2.1
      pure (some true)
     else pure (some true)) R E s:=by
 refine wpAny_bind (wpAny_storeSet_of ho hd ?_ (fits_of_scanBound hb1))
 have ho1:=Jur ho hd es1 t2
 have hsb1:=Heap.SameBut.update s.heap a (Obj.putSet es1 t2)
 split
 ·have hp:=relayAll_perm t2 es1 (SetTable.grown es1.size)
  have hfr:=relayAll_fits t2 es1 (SetTable.grown es1.size)
  have hgr:=Jvt es1 (SetTable.grown es1.size) hg2
  generalize relayAll t2 es1 (SetTable.grown es1.size)=Rl at hp hfr hgr⊢
  obtain ⟨es2,t3,gave2⟩:=Rl
  dsimp only at hp hfr hgr⊢
  have hsz:es2.size=es1.size:=by rw [←Array.length_toList,hp.length_eq,Array.length_toList]
  refine wpAny_bind (hg _ _ _ ?_)
  refine wpAny_bind (wpAny_storeSet_of ho1 rfl ?_ (fits_of_scanBound (by rw [hsz];exact hb1)))
  refine wpAny_pure (h _ (hsb1.trans (Heap.SameBut.update _ a _)) ?_)
  rw [←hsz]
  exact ⟨_,es2,_,t3,Jur ho1 rfl es2 t3,hex,rfl,hel1.perm hp,fun k'=>(hmem1 k').trans ⟨fun ⟨e,he,q⟩=>⟨e,hp.mem_iff.mpr he,q⟩,fun ⟨e,he,q⟩=>⟨e,hp.mem_iff.mp he,q⟩⟩,by rw [hsz];exact hb1,hfr,Nat.le_refl _,hgr,hap.perm hp⟩
 ·exact wpAny_pure (h _ hsb1 ⟨_,es1,_,t2,ho1,hex,rfl,hel1,hmem1,hb1,hf2,Nat.le_refl _,hg2,hap⟩)
theorem Jz3 {t:SetTable} (g:Jn3 b t):Jn3 b {t with plain:=false}:=⟨fun z=>(by cases z),g.2⟩
theorem SetG.le {h:Heap} {a:Addr} {S:K→Bool} {n m:Nat} (x:SetG knd b h a S n) (nm:n≤m):SetG knd b h a S m:=by
 obtain ⟨o,es,ep,t,h1,h2,h3,h4,h5,h6,h7,h8,h9⟩:=x
 exact ⟨o,es,ep,t,h1,h2,h3,h4,h5,h6,h7,Nat.le_trans h8 nm,h9⟩
theorem SetG.at {h h':Heap} {a:Addr} {S S':K→Bool} {n:Nat} (x:SetG knd b h a S n) (k:∀o,h.get? a=some o→h'.get? a=some o) (e:∀k,S k=S' k):SetG knd b h' a S' n:=by
 obtain rfl:S=S':=funext e
 obtain ⟨o,es,ep,t,h1,r⟩:=x
 exact ⟨o,es,ep,t,k o h1,r⟩
theorem Jzs {a:Addr} {S:K→Bool} {n:Nat} {k:K} {x:Value} {Q:Bool→Shared→Prop} (hkey:knd.is k x=true) (hsc:x.scannable=true) (hS:SetG knd b s.heap a S n) (hroom:n+1 < scanBound)
  (h:∀h' c,Heap.SameBut a s.heap h'→SetG knd b h' a (fun k'=>S k'||decide (k'=k)) (n+1)→Q c {s with heap:=h'}):wpAny (model prog w) A (setAddHashed a x (knd.hash k)) Q E s:=by
 obtain ⟨o,es,ep,t,ho,hex,hd,hel,hmem,hb,hf,hn,hG,hap⟩:=hS
 unfold setAddHashed setAddHashedIn
 refine wpAny_holding (wpAny_bind (wpAny_setState_of ho hd hf ?_))
 dsimp only
 rw [byScan_of hsc hb hel,if_pos rfl]
 unfold setAddByScan
 refine wpAny_bind (wpAny_bind (wpAny_rule (wpAny_bind (wpAny_setScan_of hkey ho hd hf hel ?_))))
 cases hr:List.findIdx? (fun e=>knd.is k e.2) es.toList with
 |some j=>
  dsimp only
  obtain ⟨hj,hpj,_⟩:=List.findIdx?_eq_some_iff_getElem.mp hr
  have hSk:S k=true:=(hmem k).mpr ⟨es.toList[j],List.getElem_mem hj,hpj⟩
  refine wpAny_pure (wpAny_pure ?_)
  have e:s={s with heap:=s.heap}:=by cases s;rfl
  rw [e]
  exact h s.heap _ (Heap.SameBut.refl a s.heap) ⟨o,es,ep,t,ho,hex,hd,hel,fun k'=>by
   rw [Bool.or_eq_true,decide_eq_true_eq,←hmem k']
   exact ⟨fun hk=>hk.elim id (fun e=>e▸hSk),.inl⟩,hb,hf,Nat.le_succ_of_le hn,hG,hap⟩
 |none=>
  dsimp only
  have none':∀e∈es.toList,knd.is k e.2=false:=fun e he=>by simpa using List.findIdx?_eq_none_iff.mp hr e he
  have hgw:∀(c:Bool) (s₁:Shared) (Q':Unit→Shared→Prop),Q' () s₁→wpAny (model prog w) A (match c with|true=>rule "set.scan.the-table-gave-way" |false=>pure ()) Q' E s₁:=
   fun c s₁ Q' hq=>by cases c <;> first|exact wpAny_pure hq|exact wpAny_rule hq
  have hperm:=layNew_perm t es (knd.hash k) x
  have hfits:=layNew_fits t es (knd.hash k) x
  have hgood:=Ju2 es (knd.hash k) x hG
  generalize layNew t es (knd.hash k) x=L at hperm hfits hgood⊢
  obtain ⟨es1,t1,wasDummy,gave⟩:=L
  dsimp only at hperm hfits hgood⊢
  rw [Array.toList_push] at hperm
  have hsz1:es1.size=es.size+1:=by rw [←Array.length_toList,hperm.length_eq,List.length_append,Array.length_toList];rfl
  have hel1:ElemsOf knd es1.toList:=(hel.push hkey hsc).perm hperm
  have hmem1:∀k',(S k'||decide (k'=k))=true↔∃e∈es1.toList,knd.is k' e.2=true:=mem_push_iff hkey hmem hperm
  have hap1:Apart knd es1.toList:=by
   refine Apart.perm ?_ hperm
   refine List.pairwise_append.mpr ⟨hap,List.pairwise_singleton _ _,fun e he e' he' k' q1 q2=>?_⟩
   obtain rfl:e'=(knd.hash k,x):=by simpa using he'
   have ek:k'=k:=knd.inj x k' k q2 hkey
   rw [ek,none' e he] at q1
   cases q1
  refine wpAny_bind (hgw _ _ _ ?_)
  have hend:∀h',Heap.SameBut a s.heap h'→SetG knd b h' a (fun k'=>S k'||decide (k'=k)) es1.size→Q true {s with heap:=h'}:=fun h' hsb hS'=>h h' true hsb (hS'.le (by rw [hsz1];exact Nat.succ_le_succ hn))
  have hb1:es1.size < scanBound:=by rw [hsz1];omega
  split
  ·refine wpAny_bind ?_
   rw [hashByValue_scannable 8 hsc]
   refine wpAny_pure ?_
   refine Jsd (b:=b) hgw ho hex hd hel1 hmem1 hb1 ?_ ?_ hap1 ?_
   ·split
    ·exact hfits
    ·exact SetTable.fits_plain_off hfits
   ·split
    ·exact hgood
    ·exact Jz3 hgood
   ·intro h' hsb hS'
    exact wpAny_pure (hend h' hsb hS')
  ·refine wpAny_bind (wpAny_pure ?_)
   rw [if_pos rfl]
   refine Jsd (b:=b) hgw ho hex hd hel1 hmem1 hb1 hfits hgood hap1 ?_
   intro h' hsb hS'
   exact wpAny_pure (hend h' hsb hS')
end
end L2
namespace L2
open PySem PySem.Spec PyProof.Rows PySem.W
def Jln (w:World):Bool:=!w.params.followText "set-order"
def inZ (ns:List Int):Key→Bool
 | .inl i=>ns.contains i
 | .inr _=>false
theorem Jz5 (zs:List Int) (z:Int) (k:Key):(inZ zs k||decide (k= .inl z))=inZ (zs++ [z]) k:=by
 cases k with
 |inr y=>simp [inZ]
 |inl y=>
  show (zs.contains y||decide ((.inl y:Key)= .inl z))=(zs++ [z]).contains y
  rw [Bool.eq_iff_iff]
  simp [List.contains_iff_mem]
section
variable {prog:Program} {w:World} {A:Around} {R:Result→Shared→Prop} {I:Addr} {fp wr:List Addr} {n:Nat} {P:Nat→Value→Prop} {St:Nat→Heap→Prop}
theorem Jxc (W:Walks prog w A.in1 I fp wr n P St) (S:Addr) (hSf:S∉fp) (zs:List Int) (hn:zs.length=n) (hP:∀i v,P i v→∃z t,zs[i]?=some z∧v= .int z t) (hb:n+1 < scanBound):
  ∀(k i:Nat) (s:Shared),n - i=k→i≤n→St i s.heap→SetG (Jif prog w) (Jln w) s.heap S (inZ (zs.take i)) i→
   (∀h' tk,(∀b o,b≠S→b∉wr→s.heap.get? b=some o→h'.get? b=some o)→SetG (Jif prog w) (Jln w) h' S (inZ zs) n→R (.ok (.ret .none)) {s with heap:=h',toks:=tk})→
   codeAny (model prog w) A (.builtin "set.update.loop" ⟨[.ref S,.ref I],[]⟩) R s:=by
 have hSw:S∉wr:=fun h=>hSf (W.sub _ h)
 intro k
 induction k with
 |zero=>
  intro i s hk hi hst hS hR
  obtain rfl:i=n:=by omega
  refine codeAny_builtin PyProof.Rows.F.entry_set_update_loop ?_
  rw [Around.under_plainId PyProof.Rows.F.plain_set_update_loop _]
  refine wpAny_bind (W.done s _ _ hst fun h' tk km=>?_)
  refine wpAny_pure (hR h' tk (fun b o _ nb e=>km b o nb e) (hS.at (fun o e=>km S o hSw e) fun x=>?_))
  rw [List.take_of_length_le (by omega)]
 |succ k ih=>
  intro i s hk hi hst hS hR
  have hlt:i < n:=by omega
  refine codeAny_builtin PyProof.Rows.F.entry_set_update_loop ?_
  rw [Around.under_plainId PyProof.Rows.F.plain_set_update_loop _]
  refine wpAny_bind (W.item i s _ _ hlt hst fun v h1 tk hv hst1 km=>?_)
  obtain ⟨z,t,hz,rfl⟩:=hP i v hv
  have et:zs.take (i+1)=zs.take i++ [z]:=by rw [List.take_add_one,hz];rfl
  have hS1:SetG (Jif prog w) (Jln w) h1 S (inZ (zs.take i)) i:=hS.at (fun o e=>km S o hSw e) fun _=>rfl
  refine wpAny_bind (wpAny_holding ?_)
  unfold setAdd
  refine wpAny_holding (wpAny_bind ((Jif prog w).pyHash (k:=.inl z) (Jmd _ _ _ _) ?_))
  refine Jzs (knd:=Jif prog w) (k:=.inl z) (Jmd _ _ _ _) rfl hS1 (by omega) fun h2 _ sb hS2=>?_
  refine wpAny_pure ⟨plainId_quiet PyProof.Rows.F.plain_set_update_loop _,ih (i+1) _ (by omega) hlt (W.frame _ _ _ hst1 fun b hbf o e=>?_) (hS2.at (fun o e=>e) fun x=>?_) fun h3 tk3 k3 hS3=>?_⟩
  ·show h2.get? b=some o
   rw [sb.2 b (fun q=>hSf (by rw [←q];exact hbf))]
   exact e
  ·rw [et,Jz5]
  ·exact hR h3 tk3 (fun b o nS nw e=>k3 b o nS nw (by show h2.get? b=some o;rw [sb.2 b nS];exact km b o nw e)) hS3
end
section
variable {prog:Program} {w:World} {A:Around} {E:Value→Shared→Prop} {s:Shared}
theorem Jzw (a:Value) {Q₁:Value→Shared→Prop} (h:Q₁ (.ref s.heap.objs.size) {s with heap:=s.heap.push {cls:=.type "set",dict:=none,data:=.set #[] 0 (.fresh 0 0 (Jln w))}}):
  codeAny (model prog w) A (.call (.builtin "set.__new__") ⟨[.type "set",a],[]⟩) (wants Q₁ E) s:=by
 refine codeAny_of_tree ?_
 show wpAny _ A.in1 (do checkBuiltinCall "set.__new__" ⟨[.type "set",a],[]⟩;again (.builtin "set.__new__" ⟨[.type "set",a],[]⟩)) _ _ s
 refine wpAny_bind (wpAny_of_eq (F.newCall_set_1 a) (wpAny_pure ⟨plainId_quiet F.plain_set_new _,codeAny_builtin F.entry_set_new ?_⟩))
 rw [Around.under_plainId F.plain_set_new _]
 unfold Builtin.«set.__new__» Builtin.Frozenset.newClass
 have hsub:=sub_set_self
 obtain ⟨hp,g,d,tk,os⟩:=s
 dsimp only
 wp_walk
 refine wpAny_askSetting (wpAny_pure ?_)
 dsimp only
 simp only [newObj]
 exact wpAny_bind (wpAny_alloc (wpAny_pure (wpAny_pure h)))
end
section
variable {prog:Program} {w:World} {A:Around} {E:Value→Shared→Prop} {s:Shared}
set_option maxRecDepth 100000 in
set_option maxHeartbeats 3200000 in
theorem Jzu {l:Addr} {items:Array Value} {zs:List Int} {Q:Value→Shared→Prop} (hh:A.handled=none) (hl:s.heap.IsList l items) (hz:zs.length=items.size) (hi:∀(i:Nat) (v:Value),items[i]?=some v→∃z t,zs[i]?=some z∧v= .int z t) (hb:items.size+1 < scanBound)
  (h:∀(h':Heap) (tk:Nat),SetG (Jif prog w) (Jln w) h' s.heap.objs.size (inZ zs) zs.length→(∀b o,s.heap.get? b=some o→h'.get? b=some o)→Q (.ref s.heap.objs.size) {s with heap:=h',toks:=tk}):wpAny (model prog w) A (call (.type "set") [.ref l]) Q E s:=by
 obtain ⟨cc,tl,hmro⟩:=F.called_set.mro
 have hmade:=F.called_set.made
 have hsub:=F.called_set.sub
 refine wpAny_call (codeAny_of_tree ?_)
 show wpAny _ _ (callAny (.type "set") _) _ _ _
 refine wpAny_pure ⟨Code.quiet_builtin _ (by decide +kernel),codeAny_builtin F.entry_type_call ?_⟩
 rw [Around.under_plain (weight_type_call_type "set" [.ref l] []) rfl]
 have g1:=F.called_set.notType
 have g2:=F.called_set.canCreate
 have g3:=F.typeCall_set_1 (.ref l)
 repeat (any_goals (first|assumption|wp_step))
 refine codeAny_mono (Jzw (.ref l) (E:=E) (Q₁:=fun obj s1=>obj= .ref s.heap.objs.size∧s1={s with heap:=s.heap.push {cls:=.type "set",dict:=none,data:=.set #[] 0 (.fresh 0 0 (Jln w))}}) ⟨rfl,rfl⟩) fun r s1 hr=>?_
 cases r with
 |error e=>exact hr
 |ok fl=>
  cases fl with
  |ret obj=>
   obtain ⟨rfl,rfl⟩:=hr
   have hS:(s.heap.push {cls:=.type "set",dict:=none,data:=.set #[] 0 (.fresh 0 0 (Jln w))}).get? s.heap.objs.size=some {cls:=.type "set",dict:=none,data:=.set #[] 0 (.fresh 0 0 (Jln w))}:=Heap.get?_push_size _ rfl
   have hT:Shared.TypeIs {s with heap:=s.heap.push {cls:=.type "set",dict:=none,data:=.set #[] 0 (.fresh 0 0 (Jln w))}} (.ref s.heap.objs.size) "set" :=⟨_,hS,rfl⟩
   have g4:=F.called_set.init.lookup
   have g5:=F.called_set.init.bind (.ref s.heap.objs.size)
   repeat (any_goals (first|assumption|wp_step))
   refine codeAny_mono (codeAny_call_builtin (R:=wants (fun r s2=>r= .none∧∃h' tk,s2={s with heap:=h',toks:=tk}∧SetG (Jif prog w) (Jln w) h' s.heap.objs.size (inZ zs) zs.length∧(∀b o,s.heap.get? b=some o→h'.get? b=some o)) E) F.called_set.init.plain F.entry_set_init (check_set_init_1 hT ?_)) fun r2 s2 hr2=>?_
   ·obtain ⟨⟨oc,od,oda,osl⟩,hol,hcl,nl,hdl⟩:=hl
    simp only at hcl hdl
    subst hcl hdl
    have hol':(s.heap.push {cls:=.type "set",dict:=none,data:=.set #[] 0 (.fresh 0 0 (Jln w))}).get? l=some {cls:=.type "list",dict:=od,data:=.seq items nl,slots:=osl}:=Heap.get?_push_of_some _ hol
    have g6:=F.sub_list_set
    have g7:=F.sub_list_frozenset
    have g8:(Value.type "list" ==Value.type "dict")=false:=by decide
    have hl1:(s.heap.push {cls:=.type "set",dict:=none,data:=.set #[] 0 (.fresh 0 0 (Jln w))}).IsList l items:=⟨_,hol',rfl,nl,rfl⟩
    unfold Builtin.«set.__init__» noKeywords Builtin.Frozenset.updateFrom
    generalize hPI:pyIter=PI
    wp_walk
    subst hPI
    refine wpAny_pyIter_list hl1 (wpAny_bind (wpAny_runValue ?_))
    have lS:l < s.heap.objs.size:=Heap.lt_size hol
    have h3:A.in1.in1.in1.handled=none:=by simp [hh]
    have nI:l≠(s.heap.push {cls:=.type "set",dict:=none,data:=.set #[] 0 (.fresh 0 0 (Jln w))}).objs.size:=by rw [Heap.size_push];exact Nat.ne_of_lt (Nat.lt_succ_of_lt lS)
    have nS:s.heap.objs.size∉ [(s.heap.push {cls:=.type "set",dict:=none,data:=.set #[] 0 (.fresh 0 0 (Jln w))}).objs.size,l]:=by
     rw [Heap.size_push]
     simp only [List.mem_cons,List.not_mem_nil,or_false,not_or]
     exact ⟨Nat.ne_of_lt (Nat.lt_succ_self _),Nat.ne_of_gt lS⟩
    refine Jxc (Walks.list h3 _ l nI items) s.heap.objs.size nS zs hz hi hb (items.size - 0) 0 _ (by omega) (Nat.zero_le _) ⟨⟨_,Heap.get?_push_size _ rfl,rfl,rfl⟩,hl1.push _⟩ ?S0 ?R0
    case S0=>
     have q:((s.heap.push {cls:=.type "set",dict:=none,data:=.set #[] 0 (.fresh 0 0 (Jln w))}).push {cls:=.type "list_iterator",data:=.fields #[.ref l,.int 0 0]}).get? s.heap.objs.size=some {cls:=.type "set",dict:=none,data:=.set #[] 0 (.fresh 0 0 (Jln w))}:=Heap.get?_push_of_some _ hS
     refine ⟨_,#[],0,_,q,⟨rfl,rfl,rfl⟩,rfl,fun e he=>by simp at he,fun x=>?_,by decide,by rfl,Nat.le_refl _,⟨fun _ i k _ hk=>by simp [SetTable.fresh] at hk,rfl⟩,List.Pairwise.nil⟩
     cases x <;> simp [inZ]
    case R0=>
     intro h' tk km hS'
     show wpAny _ _ _ _ _ _
     refine wpAny_pure ?_
     show wpAny _ _ (ret Value.none) _ _ _
     refine wpAny_pure ⟨rfl,h',tk,rfl,by rw [hz];exact hS',fun b o e=>?_⟩
     have lb:b < s.heap.objs.size:=Heap.lt_size e
     refine km b o (Nat.ne_of_lt lb) ?_ (Heap.get?_push_of_some _ (Heap.get?_push_of_some _ e))
     rw [Heap.size_push]
     simp only [List.mem_cons,List.not_mem_nil,or_false]
     exact Nat.ne_of_lt (Nat.lt_succ_of_lt lb)
   ·cases r2 with
    |error e=>exact hr2
    |ok fl2=>
     cases fl2 with
     |ret r=>
      obtain ⟨rfl,h',tk,rfl,hS',hk'⟩:=hr2
      repeat (any_goals (first|assumption|wp_step))
      exact h _ _ hS' hk'
     |_=>exact hr2.elim
  |_=>exact hr.elim
end
end L2
namespace L2
open PySem PySem.Spec PyProof.Rows PySem.W
theorem sit_slot_next:Slot "set_iterator" "__next__" "set_iterator.__next__" :=
 .of (owner:="set_iterator") (n:="__next__") (by rw [typeLookup_type,builtinLookup_eq_fast];kernel_rfl) (by decide +kernel) (by decide +kernel) (by decide +kernel)
  (by first|exact .inl (by decide +kernel)|exact .inr (by decide +kernel)) (by rw [isSubtype_type];kernel_rfl)
theorem Jkh:entryFor table "set_iterator.__next__" =some Builtin.«set_iterator.__next__»:=entryFor_of_tree (by kernel_rfl)
theorem Jsf:Manifest.owners.lookup (String.ofList ['r','o','t','a','r','e','t','i','_','t','e','s'].reverse)=some Manifest.sig_set_iterator:=by kernel_rfl
theorem Jkt (a:Value):argsOk "set_iterator.__next__" ⟨[a],[]⟩:=by
 unfold argsOk;rw [signature?_of (id:="set_iterator.__next__") (n:=['_','_','t','x','e','n','_','_']) (o:=['r','o','t','a','r','e','t','i','_','t','e','s']) (by kernel_rfl) Jsf];kernel_rfl
theorem Jqx:entryFor table "set.__iter__" =some Builtin.«frozenset.__iter__»:=
 entryFor_alias (id':="frozenset.__iter__") (by kernel_rfl) (by first|rfl|decide +kernel) (by decide +kernel) (by kernel_rfl)
section
variable {M:Model} {A:Around} {E:Value→Shared→Prop} {s:Shared}
theorem Jne {α:Type}:∀{l:List α} {i:Nat} (h:i < l.length),(l[i]::l.eraseIdx i).Perm l
 | [],_,h=>absurd h (Nat.not_lt_zero _)
 |_::_,0,_=>List.Perm.refl _
 |a::l,i+1,h=>by
  have ih:=Jne (l:=l) (i:=i) (by simpa using h)
  show (l[i]'(by simpa using h)::a::l.eraseIdx i).Perm (a::l)
  exact (List.Perm.swap _ _ _).trans (ih.cons a)
theorem Jv4 {src:Source} {n:Nat} {Q:Nat→Shared→Prop} (hn:n≠0) (h:∀i d,i < n→Q i {s with drawn:=d}):wpAny M A (choose src n) Q E s:=
 fun _ _ _=>⟨hn,h _ _ (Nat.mod_lt _ (Nat.pos_of_ne_zero hn))⟩
theorem Jys {α:Type}:∀(n:Nat) (xs:List α) (s:Shared) (Q:List α→Shared→Prop),xs.length=n→(∀ys d,ys.Perm xs→Q ys {s with drawn:=d})→wpAny M A (drawOrder n xs) Q E s:=by
 intro n
 induction n with
 |zero=>
  intro xs s Q e h
  have:xs= []:=List.length_eq_zero_iff.mp e
  subst this
  unfold drawOrder
  exact wpAny_pure (h [] s.drawn (List.Perm.refl _))
 |succ n ih=>
  intro xs s Q e h
  cases xs with
  |nil=>simp at e
  |cons x xs=>
   unfold drawOrder
   refine wpAny_bind (Jv4 (by simp) fun i d hi=>?_)
   have ei:(x::xs)[i]?=some (x::xs)[i]:=List.getElem?_eq_getElem hi
   rw [ei]
   refine wpAny_bind (ih ((x::xs).eraseIdx i) _ _ (by rw [List.length_eraseIdx_of_lt hi];omega) fun ys d2 p=>wpAny_pure ?_)
   exact h _ d2 ((p.cons _).trans (Jne hi))
end
theorem Yah {α:Type} (next:Nat→Nat):∀(fuel k:Nat) (left:List α) (out:Array α),left.length=fuel→(pickOrder.go next fuel k left out).toList.Perm (out.toList++left):=by
 intro fuel
 induction fuel with
 |zero=>
  intro k left out e
  have:left= []:=List.length_eq_zero_iff.mp e
  subst this
  unfold pickOrder.go
  simp
 |succ fuel ih=>
  intro k left out e
  unfold pickOrder.go
  have lt:next k%left.length < left.length:=Nat.mod_lt _ (by omega)
  rw [List.getElem?_eq_getElem lt]
  dsimp only
  refine (ih _ _ _ (by rw [List.length_eraseIdx_of_lt lt];omega)).trans ?_
  rw [Array.toList_push,List.append_assoc]
  exact List.Perm.append_left _ (Jne lt)
theorem Jp2 {α:Type} (next:Nat→Nat) (xs:Array α):(pickOrder next xs).toList.Perm xs.toList:=by
 have:=Yah next xs.size 0 xs.toList #[] (by simp)
 unfold pickOrder
 simpa using this
section
variable {prog:Program} {w:World} {A:Around} {E:Value→Shared→Prop} {s:Shared} {it a T:Addr} {i ep slot next p m:Nat} {x:Value} {h0:Int} {tk:Tok} {o oT:Obj} {es:Array (Int×Value)} {t:SetTable} {ps:Array Value} {Q:Option Value→Shared→Prop}
abbrev Jn4 (h:Heap) (it a:Addr) (first:Value) (i n ep:Nat):Prop:=h.get? it=some {cls:=.type "set_iterator",dict:=none,data:=.fields #[first,.int i 0,.ref a,.int n 0,.int ep 0],slots:=#[]}
theorem Jse (hit:Jn4 s.heap it a (rawInt slot) i es.size ep) (ho:s.heap.get? a=some o) (hd:o.data= .set es ep t) (hf:t.fits es.size=true)
  (hp:∀(A:Around) (Q:Option (Value×Nat)→Shared→Prop) (E:Value→Shared→Prop),Q (some (x,next)) s→wpAny (model prog w) A (setNext a slot i ep) Q E s)
  (hQ:∀h',Jn4 h' it a (rawInt next) (i+1) es.size ep→(∀b o,b≠it→s.heap.get? b=some o→h'.get? b=some o)→Q (some x) {s with heap:=h'}):
  wpAny (model prog w) A (pyNext (.ref it)) Q E s:=by
 have hT:s.TypeIs (.ref it) "set_iterator" :=⟨_,hit,rfl⟩
 unfold pyNext
 refine wpAny_bind (wpAny_attempt (wpAny_callSpecial?_slot (name:=Str.ofString "__next__") hT sit_slot_next (wpAny_call_entry sit_slot_next hT Jkh ?_ (Jkt _))))
 unfold Builtin.«set_iterator.__next__»
 refine wpAny_bind (wpAny_pure (wpAny_bind (wpAny_fieldsOf hit rfl ?_)))
 show wpAny _ _ (setEntries a >>=_) _ _ _
 refine wpAny_bind (wpAny_setEntries_of ho hd hf ?_)
 rw [if_neg (by simp)]
 show wpAny _ _ (setNext a slot i ep >>=_) _ _ _
 refine wpAny_bind (hp _ _ _ ?_)
 show wpAny _ _ (setField (.ref it) 0 (rawInt next) >>=_) _ _ _
 refine wpAny_bind (wpAny_setField_rec hit (by simp) fun h1 he1 sb1=>?_)
 refine wpAny_bind (wpAny_setField_rec (s:={s with heap:=h1}) he1 (by simp) fun h2 he2 sb2=>?_)
 refine wpAny_pure ⟨_,rfl,wpAny_pure (hQ h2 ?_ fun b o hb e=>(sb2.2 b hb).trans ((sb1.2 b hb).trans e))⟩
 simp [rawInt] at he2
 exact he2
theorem Jut (hh:A.handled=none) (hit:Jn4 s.heap it a (rawInt slot) i es.size ep) (ho:s.heap.get? a=some o) (hd:o.data= .set es ep t) (hf:t.fits es.size=true)
  (hp:∀(A:Around) (Q:Option (Value×Nat)→Shared→Prop) (E:Value→Shared→Prop),Q none s→wpAny (model prog w) A (setNext a slot i ep) Q E s)
  (hQ:∀h',Heap.ExtBut it s.heap h'→Q none {s with heap:=h'}):wpAny (model prog w) A (pyNext (.ref it)) Q E s:=by
 have hT:s.TypeIs (.ref it) "set_iterator" :=⟨_,hit,rfl⟩
 unfold pyNext
 refine wpAny_bind (wpAny_attempt (wpAny_callSpecial?_slot (name:=Str.ofString "__next__") hT sit_slot_next (wpAny_call_entry sit_slot_next hT Jkh ?_ (Jkt _))))
 unfold Builtin.«set_iterator.__next__»
 refine wpAny_bind (wpAny_pure (wpAny_bind (wpAny_fieldsOf hit rfl ?_)))
 show wpAny _ _ (setEntries a >>=_) _ _ _
 refine wpAny_bind (wpAny_setEntries_of ho hd hf ?_)
 rw [if_neg (by simp)]
 show wpAny _ _ (setNext a slot i ep >>=_) _ _ _
 refine wpAny_bind (hp _ _ _ ?_)
 show wpAny _ _ (setField (.ref it) 2 .none >>=_) _ _ _
 refine wpAny_bind (wpAny_setField hit rfl (by simp) ?_)
 show wpAny _ _ (newExc (.type "StopIteration") [] >>=_) _ _ _
 refine wpAny_bind ?_
 simp only [newExc,newTuple]
 refine wpAny_bind (wpAny_newObj_type ?_ (by size_fits))
 refine wpAny_bind (m:=firstArgMember _ _) (wpAny_of_eq (a:=Value.none) (by first|rfl|(simp only [firstArgMember];rfl)) ?_)
 refine wpAny_newObj_type ?_ (by size_fits)
 simp only [raiseNew]
 refine wpAny_bind (wpAny_handled ?_)
 rw [show A.in1.handled=none from hh]
 refine wpAny_bind (wpAny_pure (wpAny_throw ?_))
 refine wpAny_bind (wpAny_isInstance (T:="StopIteration") (b:=true) ⟨_,Heap.get?_push_size _ rfl,rfl⟩ isSubtype_stop ?_)
 exact wpAny_pure (hQ _ (((Heap.SameBut.update ..).extBut.push _).push _))
theorem Jxz (hit:Jn4 s.heap it a (.ref T) i es.size ep) (ho:s.heap.get? a=some o) (hd:o.data= .set es ep t) (hf:t.fits es.size=true) (hT:s.heap.get? T=some oT) (dT:oT.data= .seq ps m)
  (hp:ps[i]?=some (rawInt p)) (hx:es[p]?=some (h0,x)) (hQ:∀h',Jn4 h' it a (.ref T) (i+1) es.size ep→(∀b o,b≠it→s.heap.get? b=some o→h'.get? b=some o)→Q (some x) {s with heap:=h'}):
  wpAny (model prog w) A (pyNext (.ref it)) Q E s:=by
 have hTy:s.TypeIs (.ref it) "set_iterator" :=⟨_,hit,rfl⟩
 unfold pyNext
 refine wpAny_bind (wpAny_attempt (wpAny_callSpecial?_slot (name:=Str.ofString "__next__") hTy sit_slot_next (wpAny_call_entry sit_slot_next hTy Jkh ?_ (Jkt _))))
 unfold Builtin.«set_iterator.__next__»
 refine wpAny_bind (wpAny_pure (wpAny_bind (wpAny_fieldsOf hit rfl ?_)))
 show wpAny _ _ (setEntries a >>=_) _ _ _
 refine wpAny_bind (wpAny_setEntries_of ho hd hf ?_)
 rw [if_neg (by simp)]
 show wpAny _ _ (seqItems? (.ref T) >>=_) _ _ _
 refine wpAny_bind (wpAny_seqItems hT dT ?_)
 dsimp only
 rw [show ((i:Nat):Int).toNat=i from Int.toNat_natCast i,hp]
 show wpAny _ _ (setNextDrawn a p ep >>=_) _ _ _
 unfold setNextDrawn
 refine wpAny_bind (wpAny_bind (wpAny_setState_of ho hd hf ?_))
 dsimp only
 rw [if_neg (by simp),hx]
 refine wpAny_pure ?_
 show wpAny _ _ (setField (.ref it) 1 (rawInt ((i:Int)+1)) >>=_) _ _ _
 refine wpAny_bind (wpAny_setField_rec hit (by simp) fun h1 he1 sb1=>?_)
 refine wpAny_pure ⟨_,rfl,wpAny_pure (hQ h1 ?_ fun b o hb e=>(sb1.2 b hb).trans e)⟩
 simp [rawInt] at he1
 exact he1
theorem Jzx (hh:A.handled=none) (hit:Jn4 s.heap it a (.ref T) i es.size ep) (ho:s.heap.get? a=some o) (hd:o.data= .set es ep t) (hf:t.fits es.size=true) (hT:s.heap.get? T=some oT) (dT:oT.data= .seq ps m)
  (hp:ps[i]?=none) (hQ:∀h',Heap.ExtBut it s.heap h'→Q none {s with heap:=h'}):wpAny (model prog w) A (pyNext (.ref it)) Q E s:=by
 have hTy:s.TypeIs (.ref it) "set_iterator" :=⟨_,hit,rfl⟩
 unfold pyNext
 refine wpAny_bind (wpAny_attempt (wpAny_callSpecial?_slot (name:=Str.ofString "__next__") hTy sit_slot_next (wpAny_call_entry sit_slot_next hTy Jkh ?_ (Jkt _))))
 unfold Builtin.«set_iterator.__next__»
 refine wpAny_bind (wpAny_pure (wpAny_bind (wpAny_fieldsOf hit rfl ?_)))
 show wpAny _ _ (setEntries a >>=_) _ _ _
 refine wpAny_bind (wpAny_setEntries_of ho hd hf ?_)
 rw [if_neg (by simp)]
 show wpAny _ _ (seqItems? (.ref T) >>=_) _ _ _
 refine wpAny_bind (wpAny_seqItems hT dT ?_)
 dsimp only
 rw [show ((i:Nat):Int).toNat=i from Int.toNat_natCast i,hp]
 show wpAny _ _ (setField (.ref it) 0 (rawInt 0) >>=_) _ _ _
 refine wpAny_bind (wpAny_setField_rec hit (by simp) fun h1 he1 sb1=>?_)
 refine wpAny_bind (wpAny_setField (s:={s with heap:=h1}) he1 rfl (by simp) ?_)
 show wpAny _ _ (newExc (.type "StopIteration") [] >>=_) _ _ _
 refine wpAny_bind ?_
 simp only [newExc,newTuple]
 refine wpAny_bind (wpAny_newObj_type ?_ (by size_fits))
 refine wpAny_bind (m:=firstArgMember _ _) (wpAny_of_eq (a:=Value.none) (by first|rfl|(simp only [firstArgMember];rfl)) ?_)
 refine wpAny_newObj_type ?_ (by size_fits)
 simp only [raiseNew]
 refine wpAny_bind (wpAny_handled ?_)
 rw [show A.in1.handled=none from hh]
 refine wpAny_bind (wpAny_pure (wpAny_throw ?_))
 refine wpAny_bind (wpAny_isInstance (T:="StopIteration") (b:=true) ⟨_,Heap.get?_push_size _ rfl,rfl⟩ isSubtype_stop ?_)
 exact wpAny_pure (hQ _ (((sb1.trans (Heap.SameBut.update ..)).extBut.push _).push _))
end
end L2
namespace L2
open PySem PySem.Spec PyProof.Rows PySem.W
section
variable {prog:Program} {w:World} {A:Around} {E:Value→Shared→Prop} {s:Shared} {it a:Addr} {i ep slot:Nat} {o:Obj} {es:Array (Int×Value)} {t:SetTable}
theorem Jmv {Q:Bool→Shared→Prop} (h:Q (w.params.followText "set-order") s):wpAny (model prog w) A setsByText Q E s:=by
 unfold setsByText
 exact wpAny_bind (wpAny_askSetting (wpAny_pure h))
theorem Js7 {Q:Option (Value×Nat)→Shared→Prop} (hb:w.params.followText "set-order" =true) (ho:s.heap.get? a=some o) (hd:o.data= .set es ep t) (hf:t.fits es.size=true)
  (h:Q (((pickOrder (w.params.setOrder a ep) es)[i]?).map fun e=>(e.2,slot)) s):wpAny (model prog w) A (setNext a slot i ep) Q E s:=by
 unfold setNext
 refine wpAny_bind (wpAny_setState_of ho hd hf ?_)
 dsimp only
 refine wpAny_bind (Jmv ?_)
 rw [hb,if_pos rfl,if_neg (by simp)]
 unfold setWalk
 refine wpAny_bind (wpAny_bind (wpAny_setState_of ho hd hf ?_))
 dsimp only
 refine wpAny_bind (Jmv ?_)
 rw [hb,if_pos rfl]
 exact wpAny_bind (wpAny_askSetting (wpAny_pure (wpAny_pure h)))
theorem Jqg {Q:Option (Value×Nat)→Shared→Prop} (hb:w.params.followText "set-order" =false) (ho:s.heap.get? a=some o) (hd:o.data= .set es ep t) (hf:t.fits es.size=true) (hl:t.led=true) (hp:(!t.plain&&decide (es.size > 1))=false)
  (h:Q (match es[SetTable.below t.place slot]?,t.place[SetTable.below t.place slot]? with|some (_,x),some j=>some (x,j+1)|_,_=>none) s):wpAny (model prog w) A (setNext a slot i ep) Q E s:=by
 unfold setNext
 refine wpAny_bind (wpAny_setState_of ho hd hf ?_)
 dsimp only
 refine wpAny_bind (Jmv ?_)
 rw [hb,if_neg (by simp)]
 refine wpAny_ite_split (fun hab=>?_) (fun _=>?_)
 ·have q:(!t.plain&&decide (es.size > 1))=true:=hab
  rw [hp] at q
  cases q
 refine wpAny_bind ?_
 refine wpAny_ite_split (fun hab=>?_) (fun _=>wpAny_pure (wpAny_pure h))
 have q:(!t.led&&!es.isEmpty)=true:=hab
 rw [hl] at q
 cases q
end
theorem Jnc:Slot "set_iterator" "__iter__" "set_iterator.__iter__" :=
 .of (owner:="set_iterator") (n:="__iter__") (by rw [typeLookup_type,builtinLookup_eq_fast];kernel_rfl) (by decide +kernel) (by decide +kernel) (by decide +kernel)
  (by first|exact .inl (by decide +kernel)|exact .inr (by decide +kernel)) (by rw [isSubtype_type];kernel_rfl)
theorem Jqy:entryFor table "set_iterator.__iter__" =some Builtin.«dict_keyiterator.__iter__»:=
 entryFor_alias (id':="dict_keyiterator.__iter__") (by kernel_rfl) (by first|rfl|decide +kernel) (by decide +kernel) (by kernel_rfl)
theorem Jrp (a:Value):argsOk "set_iterator.__iter__" ⟨[a],[]⟩:=by
 unfold argsOk;rw [signature?_of (id:="set_iterator.__iter__") (n:=['_','_','r','e','t','i','_','_']) (o:=['r','o','t','a','r','e','t','i','_','t','e','s']) (by kernel_rfl) Jsf];kernel_rfl
section
variable {prog:Program} {w:World} {A:Around} {E:Value→Shared→Prop} {s:Shared} {it a:Addr}
theorem Jqz {first:Value} {i n ep:Nat} {Q:Value→Shared→Prop} (hit:Jn4 s.heap it a first i n ep) (h:Q (.ref it) s):wpAny (model prog w) A (pyIter (.ref it)) Q E s:=by
 have hT:s.TypeIs (.ref it) "set_iterator" :=⟨_,hit,rfl⟩
 refine wpAny_pyIter_slot hT Jnc (wpAny_call_entry Jnc hT Jqy ?_ (Jrp _))
 show wpAny _ _ (ret (.ref it)) _ _ s
 exact wpAny_pure ⟨_,rfl,"set_iterator",_,hT,sit_slot_next.lookup,h⟩
end
end L2
namespace L2
open PySem PySem.Spec PyProof.Rows PySem.W
section
variable {prog:Program} {w:World} {A:Around} {it a T:Addr} {ep m:Nat} {o oT:Obj} {es:Array (Int×Value)} {t:SetTable} {ps:Array Value}
structure Jpv (w:World) (o:Obj) (es:Array (Int×Value)) (ep:Nat) (t:SetTable):Prop where
 data:o.data= .set es ep t
 fits:t.fits es.size=true
 good:Jn3 (Jln w) t
def atV (l:List (Int×Value)) (i:Nat) (v:Value):Prop:=(l.map (·.2))[i]?=some v
theorem Jya (hh:A.handled=none) (hb:w.params.followText "set-order" =true) (S:Jpv w o es ep t) (ne:a≠it):
  Walks prog w A it [it,a] [it] es.size (atV (pickOrder (w.params.setOrder a ep) es).toList) (fun i h=>h.get? a=some o∧Jn4 h it a (rawInt (0:Nat)) i es.size ep) where
 sub:=fun b hb=>by simp at hb;simp [hb]
 frame:=fun i h h' st k=>⟨k a (by simp) _ st.1,k it (by simp) _ st.2⟩
 item:=fun i s Q E hi st hQ=>by
  have hl:(pickOrder (w.params.setOrder a ep) es).toList.length=es.size:=(Jp2 _ es).length_eq.trans (by simp)
  have hs:i < (pickOrder (w.params.setOrder a ep) es).size:=by simpa [←hl] using hi
  refine Jse (x:=(pickOrder (w.params.setOrder a ep) es)[i].2) (next:=0) st.2 st.1 S.data S.fits (fun A Q E h=>Js7 hb st.1 S.data S.fits (by rw [Array.getElem?_eq_getElem hs];exact h)) fun h' e1 k1=>?_
  exact hQ _ h' s.toks (by show ((pickOrder (w.params.setOrder a ep) es).toList.map (·.2))[i]?=_;simp [hs]) ⟨k1 a _ ne st.1,e1⟩ fun b o' hb' q=>k1 b o' (by simpa using hb') q
 done:=fun s Q E st hQ=>by
  have hl:(pickOrder (w.params.setOrder a ep) es).toList.length=es.size:=(Jp2 _ es).length_eq.trans (by simp)
  refine Jut hh st.2 st.1 S.data S.fits (fun A Q E h=>Js7 hb st.1 S.data S.fits (by rw [Array.getElem?_eq_none (by rw [←hl];simp)];exact h)) fun h' eb=>?_
  exact hQ h' s.toks fun b o' hb' q=>eb b o' (by simpa using hb') q
 self:=fun i s Q E st h=>Jqz st.2 h
def nxt (t:SetTable) (i:Nat):Nat:=if i=0 then 0 else t.place.getD (i - 1) 0+1
theorem Jrs {i:Nat} (rs:Jnd t.place) (hi:i≤t.place.size):SetTable.below t.place (nxt t i)=i:=by
 unfold nxt
 by_cases z:i=0
 ·rw [if_pos z,z]
  exact Jv2 rs
 ·rw [if_neg z,Jv1 rs (by omega)]
  omega
theorem Jwa (hh:A.handled=none) (hb:w.params.followText "set-order" =false) (S:Jpv w o es ep t) (hp:(!t.plain&&decide (es.size > 1))=false) (ne:a≠it):
  Walks prog w A it [it,a] [it] es.size (atV es.toList) (fun i h=>h.get? a=some o∧Jn4 h it a (rawInt (nxt t i)) i es.size ep) where
 sub:=fun b hb=>by simp at hb;simp [hb]
 frame:=fun i h h' st k=>⟨k a (by simp) _ st.1,k it (by simp) _ st.2⟩
 item:=fun i s Q E hi st hQ=>by
  have sz:t.place.size=es.size:=by have:=S.fits;simp [SetTable.fits] at this;exact this.1
  have rs:Jnd t.place:=by
   cases hpl:t.plain with
   |true=>exact S.good.1 hpl
   |false=>
    rw [hpl] at hp
    simp at hp
    exact fun i k ik hk=>by omega
  have led:t.led=true:=by rw [S.good.2];unfold Jln;rw [hb];rfl
  have hi':i < t.place.size:=by rw [sz];exact hi
  refine Jse (x:=es[i].2) (next:=nxt t (i+1)) st.2 st.1 S.data S.fits (fun A Q E h=>Jqg hb st.1 S.data S.fits led hp ?_) fun h' e1 k1=>?_
  ·rw [Jrs rs (Nat.le_of_lt hi'),Array.getElem?_eq_getElem hi,Array.getElem?_eq_getElem hi']
   have e:nxt t (i+1)=t.place[i]+1:=by unfold nxt;rw [if_neg (Nat.succ_ne_zero _)];simp [Array.getD,hi']
   rw [e] at h
   exact h
  ·exact hQ _ h' s.toks (by show (es.toList.map (·.2))[i]?=_;simp [hi]) ⟨k1 a _ ne st.1,e1⟩ fun b o' hb' q=>k1 b o' (by simpa using hb') q
 done:=fun s Q E st hQ=>by
  have sz:t.place.size=es.size:=by have:=S.fits;simp [SetTable.fits] at this;exact this.1
  have rs:Jnd t.place:=by
   cases hpl:t.plain with
   |true=>exact S.good.1 hpl
   |false=>
    rw [hpl] at hp
    simp at hp
    exact fun i k ik hk=>by omega
  have led:t.led=true:=by rw [S.good.2];unfold Jln;rw [hb];rfl
  refine Jut hh st.2 st.1 S.data S.fits (fun A Q E h=>Jqg hb st.1 S.data S.fits led hp ?_) fun h' eb=>?_
  ·rw [Jrs rs (by omega),Array.getElem?_eq_none (Nat.le_refl _)]
   exact h
  ·exact hQ h' s.toks fun b o' hb' q=>eb b o' (by simpa using hb') q
 self:=fun i s Q E st h=>Jqz st.2 h
theorem Jw9 (hh:A.handled=none) (S:Jpv w o es ep t) {ns:List Nat} (pm:ns.Perm (List.range es.size)) (dT:oT.data= .seq (ns.map fun i:Nat=>rawInt i).toArray m) (ne:a≠it) (nT:T≠it):
  Walks prog w A it [it,a,T] [it] es.size (atV (ns.filterMap (es[·]?))) (fun i h=>h.get? a=some o∧h.get? T=some oT∧Jn4 h it a (.ref T) i es.size ep) where
 sub:=fun b hb=>by simp at hb;simp [hb]
 frame:=fun i h h' st k=>⟨k a (by simp) _ st.1,k T (by simp) _ st.2.1,k it (by simp) _ st.2.2⟩
 item:=fun i s Q E hi st hQ=>by
  have hl:ns.length=es.size:=by rw [pm.length_eq,List.length_range]
  have hi':i < ns.length:=by rw [hl];exact hi
  have hm:ns[i] < es.size:=List.mem_range.mp (pm.mem_iff.mp (List.getElem_mem hi'))
  refine Jxz (p:=ns[i]) (x:=es[ns[i]].2) (h0:=es[ns[i]].1) st.2.2 st.1 S.data S.fits st.2.1 dT (by simp [hi']) (by rw [Array.getElem?_eq_getElem hm]) fun h' e1 k1=>?_
  refine hQ _ h' s.toks ?_ ⟨k1 a _ ne st.1,k1 T _ nT st.2.1,e1⟩ fun b o' hb' q=>k1 b o' (by simpa using hb') q
  show ((ns.filterMap (es[·]?)).map (·.2))[i]?=_
  have all:∀(l:List Nat),(∀x∈l,x < es.size)→(l.filterMap (es[·]?)).map (·.2)=l.map fun x=>(es.getD x (0,.none)).2:=by
   intro l
   induction l with
   |nil=>intro _;rfl
   |cons x l ih=>
    intro hx
    have lx:=hx x (List.mem_cons_self ..)
    rw [List.filterMap_cons,Array.getElem?_eq_getElem lx,List.map_cons,List.map_cons,ih fun y hy=>hx y (List.mem_cons_of_mem _ hy)]
    simp [Array.getD,lx]
  rw [all ns fun x hx=>List.mem_range.mp (pm.mem_iff.mp hx)]
  simp [hi',Array.getD,hm]
 done:=fun s Q E st hQ=>by
  have hl:ns.length=es.size:=by rw [pm.length_eq,List.length_range]
  refine Jzx hh st.2.2 st.1 S.data S.fits st.2.1 dT (by simp [hl]) fun h' eb=>?_
  exact hQ h' s.toks fun b o' hb' q=>eb b o' (by simpa using hb') q
 self:=fun i s Q E st h=>Jqz st.2.2 h
end
end L2
namespace L2
open PySem PySem.Spec PyProof.Rows PySem.W
section
variable {prog:Program} {w:World} {A:Around} {E:Value→Shared→Prop} {s:Shared} {a:Addr} {ep:Nat} {o:Obj} {es:Array (Int×Value)} {t:SetTable}
theorem Jzv {A':Around} (hh:A'.handled=none) (ho:s.heap.get? a=some o) (hex:o.ExactSet) (S:Jpv w o es ep t) (hz:es.size≤sizeLine) {Q:Value→Shared→Prop}
  (h:∀(h1:Heap) (d1:Drawn) (it:Addr) (fp:List Addr) (ord:List (Int×Value)) (St:Nat→Heap→Prop),ord.Perm es.toList→(∀b o,s.heap.get? b=some o→h1.get? b=some o)→s.heap.objs.size≤it→(∀b∈fp,b=a∨s.heap.objs.size≤b)→
   Walks prog w A' it fp [it] es.size (atV ord) St→St 0 h1→Q (.ref it) {s with heap:=h1,drawn:=d1}):
  wpAny (model prog w) A (pyIter (.ref a)) Q E s:=by
 have hT:s.TypeIs (.ref a) "set" :=⟨o,ho,hex.1⟩
 refine wpAny_pyIter_slot hT PySem.F.slot_set_iter (wpAny_call_entry PySem.F.slot_set_iter hT Jqx ?_ (PySem.F.args_set_iter_1 _))
 unfold Builtin.«frozenset.__iter__»
 refine wpAny_bind ?_
 unfold Builtin.Frozenset.slot0
 refine wpAny_bind (wpAny_pure (wpAny_pure ?_))
 refine wpAny_bind ?_
 unfold Builtin.Frozenset.sizeOf
 refine wpAny_bind (wpAny_setEntries_of ho S.data S.fits (wpAny_pure ?_))
 refine wpAny_bind ?_
 unfold setDrawn
 refine wpAny_bind (wpAny_setState_of ho S.data S.fits ?_)
 dsimp only
 refine wpAny_bind (Jmv (wpAny_pure ?_))
 have lt:a < s.heap.objs.size:=Heap.lt_size ho
 refine wpAny_ite_split (fun hab=>?_) (fun hab=>?_)
 ·have q:(!w.params.followText "set-order" &&(!t.plain&&decide (es.size > 1)))=true:=hab
  refine wpAny_bind (Jys es.size (List.range es.size) _ _ (by simp) fun ns d pm=>?_)
  have hl:ns.length=es.size:=by rw [pm.length_eq,List.length_range]
  unfold newTuple
  refine wpAny_bind (wpAny_newObj_type ?_ (show (ns.map fun i:Nat=>rawInt i).toArray.size≤sizeLine by simp;omega))
  refine wpAny_bind (wpAny_setEpoch_of (Heap.get?_push_of_some _ ho) S.data S.fits ?_)
  unfold newFields
  refine wpAny_bind (wpAny_newObj_type ?_ (by size_fits))
  refine wpAny_pure ⟨_,rfl,"set_iterator",_,⟨_,Heap.get?_push_size _ rfl,rfl⟩,sit_slot_next.lookup,?_⟩
  refine h _ d _ _ (ns.filterMap (es[·]?)) _ ?_ (fun b o e=>Heap.get?_push_of_some _ (Heap.get?_push_of_some _ e)) ?_ ?_ (Jw9 (T:=s.heap.objs.size) hh S pm rfl ?_ ?_) ⟨Heap.get?_push_of_some _ (Heap.get?_push_of_some _ ho),Heap.get?_push_of_some _ (Heap.get?_push_size _ rfl),Heap.get?_push_size _ rfl⟩
  ·have e:(List.range es.size).filterMap (es[·]?)=es.toList:=by
    refine List.ext_getElem? fun i=>?_
    have all:∀(n:Nat),n≤es.size→(List.range n).filterMap (es[·]?)=es.toList.take n:=by
     intro n
     induction n with
     |zero=>intro _;rfl
     |succ n ih=>
      intro hn
      rw [List.range_succ,List.filterMap_append,ih (by omega),List.take_add_one]
      simp [show n < es.size by omega]
    rw [all es.size (Nat.le_refl _),List.take_of_length_le (by simp)]
   rw [←e]
   exact pm.filterMap _
  ·simp
  ·intro b hb
   simp at hb
   rcases hb with rfl|rfl|rfl
   ·right;simp
   ·left;rfl
   ·right;exact Nat.le_refl _
  ·rw [Heap.size_push]
   exact Nat.ne_of_lt (Nat.lt_succ_of_lt lt)
  ·rw [Heap.size_push]
   exact Nat.ne_of_lt (Nat.lt_succ_self _)
 ·have q:¬((!w.params.followText "set-order" &&(!t.plain&&decide (es.size > 1)))=true):=hab
  refine wpAny_bind (wpAny_pure (wpAny_bind (wpAny_setEpoch_of ho S.data S.fits ?_)))
  unfold newFields
  refine wpAny_bind (wpAny_newObj_type ?_ (by size_fits))
  refine wpAny_pure ⟨_,rfl,"set_iterator",_,⟨_,Heap.get?_push_size _ rfl,rfl⟩,sit_slot_next.lookup,?_⟩
  have fpk:∀b∈ [s.heap.objs.size,a],b=a∨s.heap.objs.size≤b:=fun b hb=>by
   simp at hb
   rcases hb with rfl|rfl
   ·right;exact Nat.le_refl _
   ·left;rfl
  cases hb:w.params.followText "set-order" with
  |true=>exact h _ s.drawn _ _ _ _ (Jp2 _ es) (fun b o e=>Heap.get?_push_of_some _ e) (Nat.le_refl _) fpk (Jya hh hb S (Nat.ne_of_lt lt)) ⟨Heap.get?_push_of_some _ ho,Heap.get?_push_size _ rfl⟩
  |false=>
   rw [hb] at q
   exact h _ s.drawn _ _ _ _ (List.Perm.refl _) (fun b o e=>Heap.get?_push_of_some _ e) (Nat.le_refl _) fpk (Jwa hh hb S (by simpa using q) (Nat.ne_of_lt lt)) ⟨Heap.get?_push_of_some _ ho,Heap.get?_push_size _ rfl⟩
end
end L2
namespace L2
open PySem PySem.Spec PyProof.Rows PySem.W PySem.Calls
section
variable {prog:Program} {w:World} {A:Around} {E:Value→Shared→Prop} {s:Shared} {a:Addr} {ep:Nat} {o:Obj} {es:Array (Int×Value)} {t:SetTable}
theorem Jzt {Q:Bool→Shared→Prop} (hT:s.TypeIs (.ref a) "set") (h:Q false s):wpAny (model prog w) A (Builtin.List.listLengthHint (.ref a)) Q E s:=by
 unfold Builtin.List.listLengthHint
 refine wpAny_bind (wpAny_specialOf hT PySem.F.slot_set_len.lookup ?_)
 generalize hid:("set.__len__" :String)=id0
 wp_delta
 rw [show splitId id0=some ("set","__len__") from by subst hid;decide +kernel]
 subst hid
 refine wpAny_bind (wpAny_isInstance (T:="set") (b:=true) hT (by rw [isSubtype_type];kernel_rfl) ?_)
 refine wpAny_ite_split (fun hab=>absurd hab (by decide)) (fun _=>?_)
 refine wpAny_ite_split (fun _=>?_) (fun hab=>absurd (by decide +kernel) hab)
 refine wpAny_bind (wpAny_typeOf hT ?_)
 exact wpAny_pure h
theorem Jvx {R:Result→Shared→Prop} (hh:A.handled=none) (ho:s.heap.get? a=some o) (hex:o.ExactSet) (S:Jpv w o es ep t) (hz:es.size≤sizeLine) (L:Addr) (hLa:L≠a) (res:Value) (hL:s.heap.get? L=some {cls:=.type "list",data:=.seq #[]})
  (hR:∀h' d tk acc c ord,ord.Perm es.toList→(∀b o,b≠L→s.heap.get? b=some o→h'.get? b=some o)→h'.get? L=some {cls:=.type "list",dict:=none,data:=.seq acc c,slots:=#[]}→ItemsOf (atV ord) acc es.size→R (.ok (.ret res)) {s with heap:=h',toks:=tk,drawn:=d}):
  wpAny (model prog w) A.in1 (Builtin.List.listExtendWith (.ref L) (.ref a) res)
   (fun fin s'=>match fin with| .done f=>R (.ok f) s'| .again c'=>c'.quiet=true∧codeAny (model prog w) A c' R s') (fun e s'=>R (.error e) s') s:=by
 have hT:s.TypeIs (.ref a) "set" :=⟨o,ho,hex.1⟩
 unfold Builtin.List.listExtendWith
 refine wpAny_bind (wpAny_typeOf hT ?_)
 have h1:Builtin.List.listSameRef (.ref L) (.ref a)=false:=by simp [Builtin.List.listSameRef,hLa]
 rw [if_neg (by rw [h1];decide)]
 refine wpAny_bind (Jzv (A':=A.in1) hh ho hex S hz fun h1 d1 it fp ord St pm kp li hfp W st=>?_)
 have lL:L < s.heap.objs.size:=Heap.lt_size hL
 have hLf:L∉fp:=fun q=>(hfp L q).elim hLa fun z=>absurd lL (Nat.not_lt.mpr z)
 have key:∀(h:Heap) (c:Nat),St 0 h→(∀b o,b≠L→s.heap.get? b=some o→h.get? b=some o)→h.get? L=some {cls:=.type "list",data:=.seq #[] c}→
   codeAny (model prog w) A (.builtin "list.extend.loop" ⟨[.ref L,.ref it,res],[]⟩) R {s with heap:=h,drawn:=d1}:=by
  intro h c hst hk hL1
  refine codeAny_extend_loopS W.toS hz L hLf res es.size 0 _ #[] c rfl (Nat.zero_le _) hst hL1 (ItemsOf.nil _) fun s' acc' c' hm hS' hacc=>?_
  rw [Moved.eq_with hm]
  refine hR s'.heap d1 s'.toks acc' c' ord pm (fun b o hb e=>hm.heap b o (fun hmem=>?_) (hk b o hb e)) hS' hacc
  rcases List.mem_cons.mp hmem with e'|hmem
  ·exact hb e'
  ·exact absurd (Heap.lt_size e) (by rw [List.mem_singleton.mp hmem];exact Nat.not_lt.mpr li)
 have hL1:=kp L _ hL
 refine wpAny_bind (wpAny_holding (Jzt ⟨o,kp _ _ ho,hex.1⟩ ?_))
 refine wpAny_ite_split (fun _=>?_) (fun _=>wpAny_pure ⟨plainId_quiet PySem.F.plain_extend_loop _,key _ 0 st (fun b o _ e=>kp b o e) hL1⟩)
 refine wpAny_bind (wpAny_rule ?_)
 refine wpAny_bind ?_
 show wpAny _ _ (updateSeq L (·.push .none) >>=fun _=>updateSeq L (·.pop)) _ _ _
 refine wpAny_bind (wpAny_updateSeq hL1 rfl ?_)
 have hS₂:=Heap.get?_update_self (Obj.mapSeq (·.push Value.none)) hL1 rfl
 refine wpAny_updateSeq (hz:=by seq_fits) hS₂ rfl ?_
 have hS₃:=Heap.get?_update_self (Obj.mapSeq (·.pop)) hS₂ rfl
 refine wpAny_pure ⟨plainId_quiet PySem.F.plain_extend_loop _,key _ _ ?_ (fun b o hb e=>?_) hS₃⟩
 ·refine W.frame 0 _ _ st fun b hb o e=>?_
  have hbS:b≠L:=fun h=>hLf (h▸hb)
  exact (Heap.get?_update_other _ _ (Ne.symm hbS)).trans ((Heap.get?_update_other _ _ (Ne.symm hbS)).trans e)
 ·exact (Heap.get?_update_other _ _ (Ne.symm hb)).trans ((Heap.get?_update_other _ _ (Ne.symm hb)).trans (kp b o e))
theorem Jus {R:List Value→Shared→Prop} (hh:A.handled=none) (ho:s.heap.get? a=some o) (hex:o.ExactSet) (S:Jpv w o es ep t) (hz:es.size≤sizeLine)
  (h:∀h' d tk acc ord,ord.Perm es.toList→(∀b o,s.heap.get? b=some o→h'.get? b=some o)→s.heap.objs.size < h'.objs.size→ItemsOf (atV ord) acc es.size→R acc.toList {s with heap:=h',toks:=tk,drawn:=d}):wpAny (model prog w) A (collect (.ref a)) R E s:=by
 have lt:a < s.heap.objs.size:=Heap.lt_size ho
 unfold collect
 refine wpAny_bind (wpAny_runValue (codeAny_builtin entry_proto_collect' ?_))
 rw [Around.under_plainId PySem.F.plain_proto_collect _]
 show wpAny _ A.in1 (newList [] >>=fun l=>again (.builtin "list.__iadd__" ⟨[l,.ref a],[]⟩)) _ _ s
 refine wpAny_bind (wpAny_newObj_type ?_)
 refine wpAny_pure ⟨plainId_quiet PySem.F.plain_list_iadd _,codeAny_builtin entry_list_iadd' ?_⟩
 rw [Around.under_plainId PySem.F.plain_list_iadd _]
 show wpAny _ A.in1 (Builtin.List.listExtendWith (.ref s.heap.objs.size) (.ref a) (.ref s.heap.objs.size)) _ _ _
 have key:=Jvx (prog:=prog) (A:=A) (s:={s with heap:=s.heap.push {cls:=.type "list",data:=.seq ([]:List Value).toArray}})
  (R:=fun (q:Result) (s':Shared)=>∃(h':Heap) (d:Drawn) (tk:Nat) (acc:Array Value) (c:Nat) (ord:List (Int×Value)),q= .ok (.ret (.ref s.heap.objs.size))∧s'={s with heap:=h',toks:=tk,drawn:=d}∧ord.Perm es.toList∧
   (∀b o,s.heap.get? b=some o→h'.get? b=some o)∧h'.get? s.heap.objs.size=some {cls:=.type "list",dict:=none,data:=.seq acc c,slots:=#[]}∧ItemsOf (atV ord) acc es.size)
  hh (Heap.get?_push_of_some _ ho) hex S hz s.heap.objs.size (Nat.ne_of_gt lt) (.ref s.heap.objs.size) (Heap.get?_push_size _ rfl)
  (fun h' d tk acc c ord pm hk hS' hacc=>⟨h',d,tk,acc,c,ord,rfl,rfl,pm,fun b o e=>hk b o (Nat.ne_of_lt (Heap.lt_size e)) (Heap.get?_push_of_some _ e),hS',hacc⟩)
 refine wpAny_mono key (fun fin s' x=>?_) fun e s' x=>?_
 ·cases fin with
  |done f=>
   obtain ⟨h',d,tk,acc,c,ord,e,rfl,pm,hk,hS',hacc⟩:=x
   cases e
   show wpAny _ A (load s.heap.objs.size >>=_) _ _ _
   refine wpAny_bind (wpAny_load hS' ?_)
   exact wpAny_pure (h h' d tk acc ord pm hk (Heap.lt_size hS') hacc)
  |again c₁=>
   refine ⟨x.1,codeAny_mono x.2 fun q s₂ y=>?_⟩
   obtain ⟨h',d,tk,acc,c,ord,rfl,rfl,pm,hk,hS',hacc⟩:=y
   show wpAny _ A (load s.heap.objs.size >>=_) _ _ _
   refine wpAny_bind (wpAny_load hS' ?_)
   exact wpAny_pure (h h' d tk acc ord pm hk (Heap.lt_size hS') hacc)
 ·obtain ⟨_,_,_,_,_,_,e',_⟩:=x
  cases e'
theorem Jxd {l l':List Value} (p:l.Perm l'):∀{ns:List Int},IntsAre l' ns→∃ns1,IntsAre l ns1∧ns1.Perm ns:=by
 induction p with
 |nil=>intro ns h;cases h;exact ⟨[],.nil,.nil⟩
 |cons x _ ih=>
  intro ns h
  cases h with
  |cons n t h=>
   obtain ⟨ns1,a1,a2⟩:=ih h
   exact ⟨n::ns1,.cons n t a1,a2.cons n⟩
 |swap x y l=>
  intro ns h
  cases h with
  |cons n t h=>
   cases h with
   |cons m u h=>exact ⟨_,.cons m u (.cons n t h),List.Perm.swap ..⟩
 |trans _ _ ih1 ih2=>
  intro ns h
  obtain ⟨n2,a1,a2⟩:=ih2 h
  obtain ⟨n1,b1,b2⟩:=ih1 a1
  exact ⟨n1,b1,b2.trans a2⟩
theorem Jvz {ns:List Int} {Q:Value→Shared→Prop} (hh:A.handled=none) (ho:s.heap.get? a=some o) (hex:o.ExactSet) (S:Jpv w o es ep t) (h64:es.size < 64) (hI:IntsAre (es.toList.map (·.2)) ns)
  (h:∀h' d tk D c (out:Array Value) (ns':List Int),(∀b o,s.heap.get? b=some o→h'.get? b=some o)→s.heap.objs.size≤D→h'.get? D=some {cls:=.type "list",data:=.seq out c}→IntsAre out.toList ns'→ns'.Perm ns→ns'.Pairwise (·≤·)→
   Q (.ref D) {s with heap:=h',toks:=tk,drawn:=d}):wpAny (model prog w) A (call (.builtin "sorted") [.ref a]) Q E s:=by
 have hz:es.size≤sizeLine:=by rw [sizeLine_eq];omega
 refine Calls.call_function_entry kind_sorted plain_sorted entry_sorted (args_sorted1 _) ?_
 unfold Builtin.«sorted»
 refine wpAny_bind (m:=checkCount "sorted" 1 1 _) (wpAny_pure ?_)
 refine wpAny_bind (Jus (A:=A.in1) hh ho hex S hz fun h1 d tk acc ord pm kp lt hI1=>?_)
 have hl:acc.toList.length=es.size:=by rw [Array.length_toList];exact hI1.1
 have ea:acc.toList=ord.map (·.2):=by
  refine List.ext_getElem? fun i=>?_
  by_cases lt:i < acc.toList.length
  ·have e1:acc.toList[i]?=some acc.toList[i]:=List.getElem?_eq_getElem lt
   have e2:acc[i]?=some acc.toList[i]:=by rw [←Array.getElem?_toList];exact e1
   rw [e1]
   exact (hI1.2 i _ e2).symm
  ·rw [List.getElem?_eq_none (Nat.not_lt.mp lt),List.getElem?_eq_none]
   rw [List.length_map,pm.length_eq,Array.length_toList]
   omega
 obtain ⟨ns1,hI2,p2⟩:∃ns1,IntsAre acc.toList ns1∧ns1.Perm ns:=by
  rw [ea]
  exact Jxd (pm.map (·.2)) hI
 refine wpAny_bind (wpAny_newList ?_ (by rw [hl];exact hz))
 have hoL:(h1.push (seqObj "list" acc.toList.toArray 0)).get? h1.objs.size=some (seqObj "list" acc.toList.toArray 0):=Heap.get?_push_size _ rfl
 refine wpAny_bind (wpAny_holding (wpAny_call_entry slot_list_sort ⟨_,hoL,rfl⟩ entry_list_sort (list_sort_tree hoL hI2 (by rw [hl];exact h64) fun out ns' a1 a2 a3=>⟨_,rfl,?_⟩) (args_list_sort _)))
 refine wpAny_pure ⟨_,rfl,?_⟩
 obtain ⟨c,e⟩:=sortedHeap_at (h:=h1.push (seqObj "list" acc.toList.toArray 0)) (vs:=acc.toList) (out:=out) (n:=0) hoL
 exact h _ d tk h1.objs.size c out ns' (fun b o q=>by
  have lb:b < h1.objs.size:=Heap.lt_size (kp b o q)
  rw [sortedHeap_old (Nat.ne_of_lt lb) (by rw [size_push'];exact Nat.lt_succ_of_lt lb),Heap.get?_push_ne _ _ _ (Nat.ne_of_lt lb)]
  exact kp b o q) (Nat.le_of_lt lt) e a1 (a2.trans p2) a3
end
end L2
namespace L2
open PySem PySem.Spec PyProof.Rows PySem.W
def ZS (P:Program) (w:World) (a:Addr) (zs:List Int):HO:=.ext fun h=>SetG (Jif P w) (Jln w) h a (inZ zs) zs.length
theorem zs_ok {P:Program} {w:World} {H:Hp} {h:Heap} {a:Addr} {zs:List Int} (hS:SetG (Jif P w) (Jln w) h a (inZ zs) zs.length):ObjOk P w H h a (ZS P w a zs):=
 ⟨hS,(let ⟨o,_,_,_,ho,_⟩:=hS;⟨o,ho⟩),fun _ _ p k=>p.at k fun _=>rfl⟩
theorem Inv.drew {X:Cx} {pins:List (Addr×Obj)} {σ:St} {H:Hp} {s:Shared} (d:Drawn) (I:Inv X pins σ H s):Inv X pins σ H {s with drawn:=d}:=
 ⟨I.ok,I.os,I.bare,I.base,I.loc,I.cell,I.free,I.freeC,I.pin,I.hok,I.len⟩
section
variable {X:Cx}
theorem Jr6 {K:PySem.W.Frag} (hK:X.K=K) (hc:X.calm=true):Jk3 X (.type "set") (fun xs H Q=>∃(l:Addr) (zs:List Int),xs= [.ref l]∧SqL K H l (zs.map V.int)∧zs.length≤50∧∀a,H a=none→Q (.ref a) (upd H a (ZS X.prog X.w a zs))):=by
 subst hK
 intro pins s σ H xs us Q I r h
 obtain ⟨l,zs,rfl,hq,hz,q⟩:=h
 obtain ⟨u,rfl,ru⟩:=Jl2 r
 obtain rfl:u=Value.ref l:=ru
 obtain ⟨its,rv,pl,_⟩:=I.list hq
 have hlen:=rv.length
 rw [List.length_map] at hlen
 refine Jzu (zs:=zs) (I.ok.hd hc) pl.isList (by simpa using hlen) (fun i v hv=>?_) (by simp only [List.size_toArray];unfold scanBound;omega) fun h' tk hS kk=>
  ⟨.ref s.heap.objs.size,_,I.laid (a:=s.heap.objs.size) (o:=ZS X.prog X.w s.heap.objs.size zs) (t':=tk) kk (Nat.le_refl _) (zs_ok hS),rfl,q _ (I.hok.fresh (Nat.le_refl _))⟩
 have hv':its[i]?=some v:=by simpa using hv
 have hlt:i < zs.length:=by have:=(List.getElem?_eq_some_iff.mp hv').1;omega
 obtain ⟨u,hu,ru⟩:=rv.get (i:=i) (x:=V.int zs[i]) (by rw [List.getElem?_map,List.getElem?_eq_getElem hlt];rfl)
 rw [hv'] at hu
 cases hu
 obtain ⟨t,rfl⟩:=ru
 exact ⟨zs[i],t,List.getElem?_eq_getElem hlt,rfl⟩
theorem Ya2 {P:Program} {w:World} {zs:List Int}:∀{l:List (Int×Value)},ElemsOf (Jif P w) l→(∀e∈l,∀k,(Jif P w).is k e.2=true→inZ zs k=true)→Apart (Jif P w) l→
  ∃ns:List Int,IntsAre (l.map (·.2)) ns∧ns.Nodup∧∀n,n∈ns↔∃e∈l,(Jif P w).is (.inl n) e.2=true:=by
 intro l
 induction l with
 |nil=>intro _ _ _;exact ⟨[],.nil,List.nodup_nil,fun n=>by simp⟩
 |cons e l ih=>
  intro h1 h2 h3
  obtain ⟨ns,a1,a2,a3⟩:=ih h1.tail (fun e' he=>h2 e' (List.mem_cons_of_mem _ he)) (List.pairwise_cons.mp h3).2
  obtain ⟨⟨k,hk,_⟩,_⟩:=h1.head
  have hz:=h2 e (List.mem_cons_self ..) k hk
  cases k with
  |inr y=>cases hz
  |inl n=>
   obtain ⟨t,et⟩:=(show ∃t,e.2=Value.int n t from Jzo hk)
   refine ⟨n::ns,by rw [List.map_cons,et];exact .cons n t a1,List.nodup_cons.mpr ⟨fun hm=>?_,a2⟩,fun m=>?_⟩
   ·obtain ⟨e',he',q⟩:=(a3 n).mp hm
    exact (List.pairwise_cons.mp h3).1 e' he' _ hk q
   ·rw [List.mem_cons,a3 m]
    constructor
    ·rintro (rfl|⟨e',he',q⟩)
     ·exact ⟨e,List.mem_cons_self ..,hk⟩
     ·exact ⟨e',List.mem_cons_of_mem _ he',q⟩
    ·rintro ⟨e',he',q⟩
     rcases List.mem_cons.mp he' with rfl|he'
     ·left
      have:=(Jif P w).inj e'.2 _ _ q hk
      exact Sum.inl.inj this
     ·exact .inr ⟨e',he',q⟩
theorem Jxe {vs:List Value} {ns:List Int} (h:IntsAre vs ns):Vals (ns.map V.int) vs:=by
 induction h with
 |nil=>exact .nil
 |cons n t _ ih=>exact .cons ⟨t,rfl⟩ ih
theorem Jq2 (hc:X.calm=true):Jk3 X (.builtin "sorted") (fun xs H Q=>∃(a:Addr) (zs:List Int),xs= [.ref a]∧H a=some (ZS X.prog X.w a zs)∧zs.length≤50∧
  ∀l (ns:List Int),H l=none→ns.Pairwise (· < ·)→(∀n,n∈ns↔n∈zs)→Q (.ref l) (upd H l (.lst (ns.map V.int)))):=by
 intro pins s σ H xs us Q I r h
 obtain ⟨a,zs,rfl,ha,hz,q⟩:=h
 obtain ⟨u,rfl,ru⟩:=Jl2 r
 obtain rfl:u=Value.ref a:=ru
 obtain ⟨hS,_,_⟩:=(show ObjOk X.prog X.w H s.heap a (ZS X.prog X.w a zs) from I.hok a _ ha)
 obtain ⟨o,es,ep,t,ho,hex,hd,hel,hmem,hb,hf,hn,hG,hap⟩:=hS
 obtain ⟨ns,hI,nd,mem⟩:=Ya2 (zs:=zs) hel (fun e he k hk=>(hmem k).mpr ⟨e,he,hk⟩) hap
 refine Jvz (ns:=ns) (I.ok.hd hc) ho hex ⟨hd,hf,hG⟩ (by omega) hI fun h' d tk D c out ns' kp hD eD hI' pm pw=>?_
 have nd':ns'.Nodup:=pm.nodup_iff.mpr nd
 have lt:ns'.Pairwise (· < ·):=by
  refine (pw.and nd').imp ?_
  intro x y ⟨h1,h2⟩
  exact Int.lt_iff_le_and_ne.mpr ⟨h1,h2⟩
 have mm:∀n,n∈ns'↔n∈zs:=fun n=>by
  rw [pm.mem_iff,mem n,←hmem (.inl n)]
  show zs.contains n=true↔_
  exact List.contains_iff_mem
 have len:ns'.length≤50:=by
  have e1:=pm.length_eq
  have e2:∀{vs:List Value} {ms:List Int},IntsAre vs ms→vs.length=ms.length:=by
   intro vs ms hh
   induction hh with
   |nil=>rfl
   |cons _ _ _ ih=>simp [ih]
  have e3:=e2 hI
  rw [List.length_map,Array.length_toList] at e3
  omega
 refine ⟨.ref D,_,(I.laid (a:=D) (o:=.lst (ns'.map V.int)) (t':=tk) kp hD ⟨by rw [List.length_map,sizeLine_eq];omega,out.toList,c,Jxe hI',by simpa using eD⟩).drew d,rfl,q D ns' (I.hok.fresh hD) lt mm⟩
end
end L2
namespace L2
open PySem PySem.Spec PyProof.Rows PySem.W
theorem bt_any:bootBuiltins "any" =some (.builtin "any"):=by decide +kernel
theorem Jx0:bootBuiltins "sorted" =some (.builtin "sorted"):=by decide +kernel
theorem Jwe:bootBuiltins "dict" =some (.type "dict"):=by decide +kernel
theorem Jyf:bootBuiltins "range" =some (.type "range"):=by decide +kernel
section
variable {X:Cx}
theorem Jqn (hu:X.A.units+64 < cLine):OpR X (compareOp .In) (fun y x H Q=>∃a o,x= .ref a∧DGet H a y o∧Q (.bl o.isSome) H):=by
 intro pins s σ H y x v u Q I ry rx h
 obtain ⟨a,o,rfl,g,q⟩:=h
 obtain rfl:u=Value.ref a:=rx
 exact d_in (by omega) I g ry fun s3 I3=>⟨.bl o.isSome,H,I3,rfl,q⟩
theorem Jlp (hu:X.A.units+64 < cLine):OpR X (compareOp .NotIn) (fun y x H Q=>∃a o,x= .ref a∧DGet H a y o∧Q (.bl (!o.isSome)) H):=by
 intro pins s σ H y x v u Q I ry rx h
 obtain ⟨a,o,rfl,g,q⟩:=h
 obtain rfl:u=Value.ref a:=rx
 exact Yv (by omega) I g ry fun s3 I3=>⟨.bl (!o.isSome),H,I3,rfl,q⟩
end
end L2
namespace L2
open PySem PySem.Spec PyProof.Rows PySem.W
section
variable {X:Cx} {CX:CXT} {k j i:Nat} {sp:Addr→Sp} {x:Str} {p pos:Pos} {e:Expr} {es:List Expr} {t:TA} {R:St→XK}
theorem Jsa {P:Program} {w:World} {K:PySem.W.Frag} {mg:Str→Option Value} {base:Heap} (eP:X.prog=P) (ew:X.w=w) (eK:X.K=K) (em:X.mg=mg) (eb:X.base=base) (G:∀f,Jrr P w K mg base CX0 k f (sp f)) (hr:Room j X.A) (hk:k≤j) (i:Nat) (ha:PA X (e::es) t) (hN:X.N[i]?=some x:=by rfl) (hv:Vis X.env.scope x:=by first|exact Or.inl rfl|exact Or.inr (Or.inl rfl)|exact Or.inr (Or.inr rfl))
  (hd:(x==("__debug__" :Str))=false:=by decide) (hcd:(x==("__classdict__" :Str))=false:=by decide) (he:starEach (e::es) X.env=(false,eval e X.env)::starEach es X.env:=by rfl) (hpl:(backTo pos (starEach es X.env)).any (·.1)=false:=by rfl):
  PE X (.Call (.Name x p) (e::es) [] pos) (Jw2 i sp (fun _=>E0) t):=by
 subst eP ew eK em eb
 exact Jzh G hr hk i ha hN hv hd hcd he hpl
end
end L2
namespace L2
open PySem PySem.Spec PyProof.Rows PySem.W
section
variable {X:Cx} {o i value:Expr} {pos pos':Pos} {td ty tv:TE}
theorem Jxv (hu:X.A.units+64 < cLine) (ho:PE X o td) (hi:PE X i ty) (hv:PE X value tv) (hs:swapsWith value (some (.Subscript o i pos')) pos.line X.env=pure false):
  PS X (.Assign [.Subscript o i pos'] value pos) (sDPut td ty tv):=Yai (by omega) ho hi hv hs
end
end L2
namespace L2
open PySem PySem.Spec PyProof.Rows PySem.W
section
variable {P:Program} {w:World} {H H':Hp} {h:Heap} {a:Addr} {o:Obj} {kvs:List (Key×V)}
end
section
variable {X:Cx} {pins:List (Addr×Obj)} {σ:St} {H:Hp} {s:Shared} {a:Addr} {o:Obj} {kvs:List (Key×V)}
end
end L2
namespace L2
open PySem PySem.Spec PyProof.Rows PySem.W
section
variable {prog:Program} {w:World} {A:Around} {E:Value→Shared→Prop} {s:Shared}
end
section
variable {X:Cx}
end
end L2
namespace L2
open PySem PySem.Spec PyProof.Rows PySem.W
section
variable {X:Cx}
end
end L2
namespace L2
open PySem PySem.Spec PyProof.Rows PySem.W
def Jui (z:Str) (k:Nat):Str:=⟨(List.replicate k z.cps).foldl (·++·) #[]⟩
theorem Jzp (a:Array Nat):∀(k:Nat) (acc:Array Nat),((List.replicate k a).foldl (·++·) acc).size=acc.size+k*a.size:=by
 intro k
 induction k with
 |zero=>intro acc;simp
 |succ k ih=>
  intro acc
  rw [List.replicate_succ,List.foldl_cons,ih,Array.size_append,Nat.succ_mul]
  omega
theorem Juj (z:Str) (k:Nat):(Jui z k).length=k*z.length:=by
 show ((List.replicate k z.cps).foldl (·++·) #[]).size=_
 rw [Jzp]
 simp
 rfl
section
variable {X:Cx}
theorem Jvp:OpR X (binaryOp .Mult) (fun x y H Q=>∃(z:Str) (k:Nat),x= .str z∧y= .int (k:Int)∧k≤100∧1≤z.length∧z.length≤100∧Q (.str (Jui z k)) H):=by
 intro pins s σ H x y v u Q I rx ry h
 obtain ⟨z,k,rfl,rfl,hk,h1,h2,q⟩:=h
 obtain ⟨t,rfl⟩:=rx
 obtain ⟨t',rfl⟩:=ry
 have fin:∀n,EP X pins σ Q (.str (Jui z k) n) {s with toks:=s.toks+1}:=fun n=>⟨.str (Jui z k),H,I.tok _,⟨_,rfl⟩,q⟩
 by_cases c0:k=0
 ·subst c0
  exact P.mul_str_none (by decide) (by decide) (fin _)
 have hz:(z.length==0)=false:=by simp;omega
 refine P.mul_str ?_ (fun _ _=>?_) (fun _ _=>?_) ?_
 ·rw [decide_eq_false (by omega),decide_eq_false (by omega)]
  rfl
 ·have:(100:Int)≤(2^63 - 1)/(k:Int):=by
   refine (Int.le_ediv_iff_mul_le (by omega)).mpr ?_
   have:(k:Int)≤100:=by omega
   omega
  omega
 ·show decide _=false
  have a1:z.length*(k:Int).toNat≤100*100:=Nat.mul_le_mul h2 (by simpa using hk)
  refine decide_eq_false ?_
  rw [sizeLine_eq]
  omega
 ·rw [if_neg (by omega),hz,Bool.or_false]
  by_cases c1:k=1
  ·subst c1
   rw [if_pos (by rfl)]
   refine ⟨.str z,H,I,⟨_,rfl⟩,?_⟩
   have e:Jui z 1=z:=by
    unfold Jui
    cases z
    simp
   rw [←e]
   exact q
  ·rw [if_neg (by simp;omega)]
   refine ⟨?_,?_⟩
   ·have a1:k*z.length≤100*100:=Nat.mul_le_mul hk h2
    have a2:=Juj z k
    show (Jui z k).length≤sizeLine
    rw [a2,sizeLine_eq]
    omega
   ·exact fin _
end
end L2

namespace K74
open PySem L2 PyProof.Rows PySem.NumText
def top (i:Nat):Stmt:=PySem.Challenge.pw_weirwatch_k74_least_promises.main.body.getD i (.Pass ⟨0,0,0,0⟩)
set_option genInjectivity false in
structure Ad where
 Jdr:Addr
 Jds:FuncData
 Jdt:Addr
 Jdu:FuncData
 Jdv:Addr
 Jdw:FuncData
 Jdx:Addr
 Jdy:FuncData
 Jdz:Addr
 Je0:FuncData
 Je1:Addr
 Je2:FuncData
 Je3:Addr
 Je4:FuncData
 Je5:Addr
 Je6:FuncData
 Je7:Addr
 Je8:FuncData
 Je9:Addr
 Jea:FuncData
 Jeb:Addr
 Jec:FuncData
 Jed:Addr
 Jee:FuncData
 Jef:Addr
 Jeg:FuncData
 Jeh:Addr
 Jei:FuncData
 Jej:Addr
 Jek:FuncData
 Jel:Addr
 Jem:FuncData
 Jen:Addr
 Jeo:FuncData
 Jep:Addr
 Jeq:FuncData
 Jer:Addr
 Jes:FuncData
 Jet:Addr
 Jeu:FuncData
 Jev:Addr
 Jew:FuncData
 Jex:Addr
 Jey:FuncData
 Jez:Addr
 Jf0:FuncData
 Jf1:Addr
 Jf2:FuncData
 Jf3:Addr
 Jf4:FuncData
 Jf5:Addr
 Jf6:FuncData
 Jf7:Addr
 Jf8:FuncData
 Jf9:Addr
 Jfa:FuncData
 Jfb:Addr
 Jfc:FuncData
 Jfd:Addr
 Jfe:FuncData
 Jff:Addr
 Jfg:FuncData
 Jfh:Addr
 Jfi:FuncData
 Jfj:Addr
 Jfk:FuncData
 Jfl:Addr
 Jfm:FuncData
 Jfn:Addr
 Jfo:FuncData
 Jfp:Addr
 Jfq:FuncData
 Jfr:Addr
 Jfs:FuncData
 Jft:Addr
 Jfu:FuncData
 Jfv:Addr
 Jfw:FuncData
 Jfx:Addr
 Jfy:FuncData
 Jfz:Addr
 Jg0:FuncData
 Jg1:Addr
 Jg2:FuncData
 Jg3:Addr
 Jg4:FuncData
 Jg5:Addr
 Jg6:FuncData
 Jg7:Addr
 Jg8:FuncData
 Jg9:Addr
 Jga:FuncData
 Jgb:Addr
 Jgc:FuncData
 Jgd:Addr
 Jge:FuncData
 Jgf:Addr
 Jgg:FuncData
 Jgh:Addr
 Jgi:FuncData
 Jgj:Addr
 Jgk:FuncData
 Jgl:Addr
 Jgm:FuncData
 Jgn:Addr
 Jgo:FuncData
 Jgp:Addr
 Jgq:FuncData
 Jgr:Addr
 Jgs:FuncData
 Jgt:Addr
 Jgu:FuncData
 Jgv:Addr
 Jgw:FuncData
 Jgx:Addr
 Jgy:FuncData
 Jgz:Addr
 Jh0:FuncData
 Jh1:Addr
 Jh2:FuncData
 Jh3:Addr
 Jh4:FuncData
 Jh5:Addr
 Jh6:FuncData
 a_law:Addr
 d_law:FuncData
 Jh7:Tok
 Jh8:Tok
 Jh9:Tok
 Jha:Tok
 Jhb:Tok
 Jhc:Tok
 Jhd:Tok
 Jhe:Tok
 Jhf:Tok
 Jhg:Tok
 Jhh:Tok
 Jhi:Addr
 Jhj:Addr
 Jhk:Addr
 Jhl:Addr
 Jhm:Addr
 Jhn:Addr
 Jho:Addr
 Jhp:Addr
 Jhq:Addr
 Jhr:Addr
 Jhs:Addr
 Jht:Addr
 Jhu:Addr
 Jhv:Addr
 Jhw:Addr
 Jhx:Addr
 Jhy:Addr
 Jhz:Addr
structure Tx (K:W.Frag) (mg:Str→Option Value) (a:Ad):Prop where
 J0:FT K mg "is_whole" (top 14) ["thing","low","high"] a.Je5 a.Je6
 J1:FT K mg "is_made_of" (top 15) ["text","signs"] a.Je7 a.Je8
 J2:FT K mg "is_name" (top 16) ["thing"] a.Je9 a.Jea
 J3:FT K mg "found_by_rounds" (top 18) ["many","comes"] a.Jeb a.Jec
 J4:FT K mg "is_safe" (top 19) ["ends","lost"] a.Jed a.Jee
 J5:FT K mg "is_promised" (top 22) ["thing"] a.Jef a.Jeg
 J6:FT K mg "levels_of" (top 23) ["basin"] a.Jeh a.Jei
 J7:FT K mg "ends_alone" (top 24) ["basin","up","level","setting"] a.Jej a.Jek
 J8:FT K mg "ends_by_setting" (top 25) ["basin","up","hi","level"] a.Jel a.Jem
 J9:FT K mg "lost_alone" (top 26) ["ways"] a.Jen a.Jeo
 Ja:FT K mg "settings_alone" (top 27) ["basin","up","hi"] a.Jep a.Jeq
 Jb:FT K mg "first_safe" (top 28) ["by_setting","lost"] a.Jer a.Jes
 Jc:FT K mg "are_numbers" (top 29) ["river","thing"] a.Jet a.Jeu
 Jd:FT K mg "settings_by" (top 30) ["river","numbers"] a.Jev a.Jew
 Je:FT K mg "first_lost" (top 31) ["levels","by_basin"] a.Jex a.Jey
 Jf:FT K mg "are_promises" (top 32) ["river","numbers"] a.Jez a.Jf0
 Jg:FT K mg "least_promise" (top 33) ["basin","up"] a.Jf1 a.Jf2
 Jh:FT K mg "promises" (top 34) ["river"] a.Jf3 a.Jf4
 Ji:FT K mg "are_marks" (top 39) ["thing","lowest"] a.Jf5 a.Jf6
 Jj:FT K mg "kept_marks" (top 40) ["marks","lowest"] a.Jf7 a.Jf8
 Jk:FT K mg "refuse_no_level" (top 53) ["thing","low","high"] a.Jft a.Jfu
 Jl:FT K mg "are_unlike" (top 56) ["names"] a.Jfx a.Jfy
 Jm:FT K mg "are_basins" (top 57) ["thing"] a.Jfz a.Jg0
 Jn:FT K mg "are_towns" (top 58) ["thing","basins"] a.Jg1 a.Jg2
 Jo:FT K mg "_law_cell" (top 61) ["_law_script","_law_k"] a.Jg7 a.Jg8
 Jp:FT K mg "_law_stream" (top 62) ["_law_cell_here"] a.Jg9 a.Jga
 Jq:FT K mg "_law_take" (top 63) ["_law_stream_here","_law_many"] a.Jgb a.Jgc
 Jr:FT K mg "_law_marks" (top 64) ["_law_stream_here","_law_least_here"] a.Jgd a.Jge
 Js:FT K mg "_law_basin" (top 65) ["_law_stream_here","_law_name"] a.Jgf a.Jgg
 Jt:FT K mg "_law_gate" (top 66) ["_law_kind","_law_marks_here"] a.Jgh a.Jgi
 Ju:FT K mg "_law_made" (top 67) ["_law_told_here"] a.Jgj a.Jgk
 Jv:FT K mg "_law_lets" (top 68) ["_law_told_here","_law_setting","_law_level"] a.Jgl a.Jgm
 Jw:FT K mg "_law_bad" (top 69) ["_law_told_here","_law_up","_law_left","_law_lost_here"] a.Jgn a.Jgo
 Jx:FT K mg "_law_lost" (top 70) ["_law_told_here","_law_up","_law_hi"] a.Jgp a.Jgq
 Jy:FT K mg "_law_easy" (top 71) ["_law_stream_here","_law_name"] a.Jgr a.Jgs
 Jz:FT K mg "_law_river" (top 72) ["_law_stream_here"] a.Jgt a.Jgu
 Ja0:FT K mg "_law_held" (top 73) ["_law_told_here","_law_up","_law_hi"] a.Jgv a.Jgw
 Ja1:FT K mg "_law_least" (top 74) ["_law_told_here"] a.Jgx a.Jgy
 Ja2:FT K mg "_law_are" (top 75) ["_law_told_here","_law_numbers"] a.Jgz a.Jh0
 Ja3:FT K mg "_law_told" (top 76) ["_law_river_here"] a.Jh1 a.Jh2
 Ja4:FT K mg "_law_lists" (top 77) ["_law_stream_here","_law_least_here","_law_many"] a.Jh3 a.Jh4
 Ja5:FT K mg "_law_right" (top 78) ["_law_river_here","_law_told_here","_law_stream_here"] a.Jh5 a.Jh6
 f_law:FT K mg "law" (top 79) ["_law_script"] a.a_law a.d_law
 Ja6:mg "LETTERS" =some (.str "abcdefghijklmnopqrstuvwxyz" a.Jh7)
 Ja7:mg "MOST_LETTERS" =some (.int 8 a.Jh8)
 Ja8:mg "MOST_PROMISED" =some (.int 12 a.Jh9)
 Ja9:mg "MOST_SETTINGS" =some (.int 4 a.Jha)
 Jaa:mg "HIGHEST_MARK" =some (.int 12 a.Jhb)
 Jab:mg "HIGHEST_LEVEL" =some (.int 1000 a.Jhc)
 Jac:mg "HIGHEST" =some (.int 12 a.Jhd)
 Jad:mg "MOST_RAIN" =some (.int 6 a.Jhe)
 Jae:mg "MOST_CLOUD" =some (.int 12 a.Jhf)
 Jaf:mg "MOST_BASINS" =some (.int 16 a.Jhg)
 Jag:mg "MOST_TOWNS" =some (.int 3 a.Jhh)
 Jah:mg "all" =none
 Jai:mg "any" =none
 Jaj:mg "bool" =none
 Jak:mg "dict" =none
 Jal:mg "enumerate" =none
 Jam:mg "int" =none
 Jan:mg "isinstance" =none
 Jao:mg "len" =none
 Jap:mg "list" =none
 Jaq:mg "max" =none
 Jar:mg "min" =none
 Jas:mg "range" =none
 Jat:mg "set" =none
 Jau:mg "sorted" =none
 Jav:mg "str" =none
 Jaw:mg "tuple" =none
 Jax:mg "zip" =none
 Jay:mg "NoName" =some (.ref a.Jhj)
 Jaz:mg "NoGate" =some (.ref a.Jhk)
 Jb0:mg "NoBasin" =some (.ref a.Jhl)
 Jb1:mg "NoCloud" =some (.ref a.Jhn)
 Jb2:mg "NoRiver" =some (.ref a.Jho)
 Jb3:mg "NoNumber" =some (.ref a.Jhp)
 Jb4:mg "NoPromise" =some (.ref a.Jhq)
 Jb5:mg "Gate" =some (.ref a.Jhr)
 Jb6:mg "StepGate" =some (.ref a.Jhs)
 Jb7:mg "FlapGate" =some (.ref a.Jht)
 Jb8:mg "PartGate" =some (.ref a.Jhu)
 Jb9:mg "Basin" =some (.ref a.Jhv)
 Jba:mg "Town" =some (.ref a.Jhw)
 Jbb:mg "River" =some (.ref a.Jhx)
 Jbc:FM K "__init__" "NoName.__init__" (Jid (top 3) 0) ["self","thing"] a.Jdr a.Jds
 Jbd:FM K "__init__" "NoGate.__init__" (Jid (top 4) 0) ["self","thing"] a.Jdt a.Jdu
 Jbe:FM K "__init__" "NoBasin.__init__" (Jid (top 5) 0) ["self","thing"] a.Jdv a.Jdw
 Jbf:FM K "__init__" "NoCloud.__init__" (Jid (top 7) 0) ["self","thing"] a.Jdx a.Jdy
 Jbg:FM K "__init__" "NoRiver.__init__" (Jid (top 8) 0) ["self","thing"] a.Jdz a.Je0
 Jbh:FM K "__init__" "NoNumber.__init__" (Jid (top 9) 0) ["self","thing"] a.Je1 a.Je2
 Jbi:FM K "__init__" "NoPromise.__init__" (Jid (top 10) 0) ["self","basin"] a.Je3 a.Je4
 Jbj:FM K "lets" "Gate.lets" (Jid (top 42) 0) ["self","setting","level"] a.Jf9 a.Jfa
 Jbk:FM K "__init__" "StepGate.__init__" (Jid (top 43) 0) ["self","marks"] a.Jfb a.Jfc
 Jbl:FM K "settings" "StepGate.settings" (Jid (top 43) 1) ["self"] a.Jfd a.Jfe
 Jbm:FM K "passes" "StepGate.passes" (Jid (top 43) 2) ["self","setting","level"] a.Jff a.Jfg
 Jbn:FM K "__init__" "FlapGate.__init__" (Jid (top 44) 0) ["self","marks"] a.Jfh a.Jfi
 Jbo:FM K "settings" "FlapGate.settings" (Jid (top 44) 1) ["self"] a.Jfj a.Jfk
 Jbp:FM K "passes" "FlapGate.passes" (Jid (top 44) 2) ["self","setting","level"] a.Jfl a.Jfm
 Jbq:FM K "__init__" "PartGate.__init__" (Jid (top 45) 0) ["self","marks"] a.Jfn a.Jfo
 Jbr:FM K "settings" "PartGate.settings" (Jid (top 45) 1) ["self"] a.Jfp a.Jfq
 Jbs:FM K "passes" "PartGate.passes" (Jid (top 45) 2) ["self","setting","level"] a.Jfr a.Jfs
 Jbt:FM K "__init__" "Basin.__init__" (Jid (top 54) 0) ["self","name","low","high","start","rain","gate"] a.Jfv a.Jfw
 Jbu:FM K "__init__" "River.__init__" (Jid (top 59) 0) ["self","cloud","gain","basins","towns"] a.Jg3 a.Jg4
 Jbv:FM K "beginning" "River.beginning" (Jid (top 59) 2) ["self"] a.Jg5 a.Jg6
 Jbw:XCls K a.Jhj a.Jhi a.Jdr
 Jbx:NoAttr K a.Jhj "thing"
 Jby:XCls K a.Jhk a.Jhi a.Jdt
 Jbz:NoAttr K a.Jhk "thing"
 Jc0:XCls K a.Jhl a.Jhi a.Jdv
 Jc1:NoAttr K a.Jhl "thing"
 Jc2:XCls K a.Jhn a.Jhi a.Jdx
 Jc3:XCls K a.Jho a.Jhi a.Jdz
 Jc4:XCls K a.Jhp a.Jhi a.Je1
 Jc5:XCls K a.Jhq a.Jhi a.Je3
 Jc6:ECls K a.Jhq
 Jc7:NoAttr K a.Jhq "basin"
 Jc8:Cls K a.Jhs
 Jc9:YCls K a.Jhs
 Jca:Mk K a.Jhs a.Jfb
 Jcb:Jku K a.Jhs "lets" a.Jf9
 Jcc:Jku K a.Jhs "settings" a.Jfd
 Jcd:Jku K a.Jhs "passes" a.Jff
 Jce:NoAttr K a.Jhs "marks"
 Jcf:Cls K a.Jht
 Jcg:YCls K a.Jht
 Jch:Mk K a.Jht a.Jfh
 Jci:Jku K a.Jht "lets" a.Jf9
 Jcj:Jku K a.Jht "settings" a.Jfj
 Jck:Jku K a.Jht "passes" a.Jfl
 Jcl:NoAttr K a.Jht "marks"
 Jcm:Cls K a.Jhu
 Jcn:YCls K a.Jhu
 Jco:Mk K a.Jhu a.Jfn
 Jcp:Jku K a.Jhu "lets" a.Jf9
 Jcq:Jku K a.Jhu "settings" a.Jfp
 Jcr:Jku K a.Jhu "passes" a.Jfr
 Jcs:NoAttr K a.Jhu "marks"
 Jct:Cls K a.Jhv
 Jcu:YCls K a.Jhv
 Jcv:Mk K a.Jhv a.Jfv
 Jcw:NoAttr K a.Jhv "name"
 Jcx:NoAttr K a.Jhv "low"
 Jcy:NoAttr K a.Jhv "high"
 Jcz:NoAttr K a.Jhv "start"
 Jd0:NoAttr K a.Jhv "rain"
 Jd1:NoAttr K a.Jhv "gate"
 Jd2:Cls K a.Jhw
 Jd3:YCls K a.Jhw
 Jd4:NoAttr K a.Jhw "name"
 Jd5:NoAttr K a.Jhw "basin"
 Jd6:Cls K a.Jhx
 Jd7:Mk K a.Jhx a.Jg3
 Jd8:Jku K a.Jhx "beginning" a.Jg5
 Jd9:NoAttr K a.Jhx "cloud"
 Jda:NoAttr K a.Jhx "gain"
 Jdb:NoAttr K a.Jhx "basins"
 Jdc:NoAttr K a.Jhx "towns"
 Jdd:Nst K a.Jen a.Jhy a.Jhz
 Jde:W.tabIn K "lost_alone" =some (a.Jhy,a.Jhz)
 tnd: [a.Jhz].Nodup
 Jdf:W.kitOne K (.ref a.Jhs) (.ref a.Jhr)=some true
 Jdg:W.kitOne K (.ref a.Jht) (.ref a.Jhr)=some true
 Jdh:W.kitOne K (.ref a.Jhu) (.ref a.Jhr)=some true
 Jdi:W.kitOne K (.ref a.Jhv) (.ref a.Jhv)=some true
 Jdj:W.kitOne K (.ref a.Jhw) (.ref a.Jhw)=some true
 Jdk:W.kitOne K (.ref a.Jhs) (.type "bool")=some false
 Jdl:W.kitOne K (.ref a.Jht) (.type "bool")=some false
 Jdm:W.kitOne K (.ref a.Jhu) (.type "bool")=some false
 Jdn:W.kitAny K (.ref a.Jhs) [.ref a.Jhs,.ref a.Jht,.ref a.Jhu]=some true
 Jdo:W.kitAny K (.ref a.Jht) [.ref a.Jhs,.ref a.Jht,.ref a.Jhu]=some true
 Jdp:W.kitAny K (.ref a.Jhu) [.ref a.Jhs,.ref a.Jht,.ref a.Jhu]=some true
 Jdq:W.mroIn K a.Jhq (.ref a.Jhq)=some true
def Jiz:Int→List V→Bool
 |_,[]=>true
 |lo,.int i::r=>(decide (lo≤i)&&decide (i≤12))&&Jiz (i+1) r
 |_,_::_=>false
def Jk5 (lo:Int) (xs:List V):Bool:=decide (1≤xs.length∧xs.length≤4)&&Jiz lo xs
theorem Jpb (lo:Int) (x:V) (r:List V):Jiz lo (x::r)=(Jiw x lo 12&&match x with| .int i=>Jiz (i+1) r|_=>false):=by
 cases x <;> simp [Jiz,Jiw]
inductive Sq (H:Hp):V→List V→Prop where
 |lst {p:Addr} {xs:List V}:H p=some (.lst xs)→Sq H (.ref p) xs
 |tup {p:Addr} {xs:List V}:H p=some (.tup xs)→Sq H (.ref p) xs
theorem Sq.same {H H':Hp} {x:V} {xs:List V} (s:Same H H') (h:Sq H x xs):Sq H' x xs:=by
 cases h with
 |lst e=>exact .lst (s _ _ e)
 |tup e=>exact .tup (s _ _ e)
theorem Sq.ty {K:W.Frag} {H:Hp} {x:V} {xs:List V} (h:Sq H x xs):∃t,TyX K H x t∧tpB t=true∧W.kitAny K t [.type "list",.type "tuple"]=some true:=by
 cases h with
 |lst e=>exact ⟨_,.of (.lst e),rfl,rfl⟩
 |tup e=>exact ⟨_,.of (.tup e),rfl,rfl⟩
inductive Shp (K:W.Frag) (H:Hp) (lo:Int):V→Bool→Prop where
 |seq {x:V} {xs:List V}:Sq H x xs→(∀y∈xs,Tm K H y)→Shp K H lo x (Jk5 lo xs)
 |non {x:V} {t:Value}:TyX K H x t→W.kitAny K t [.type "list",.type "tuple"]=some false→Shp K H lo x false
def spAre (K:W.Frag):Sp:=fun vs H Q _=>∃(x:V) (lo:Int) (b:Bool),vs= [x,.int lo]∧Shp K H lo x b∧∀H',Same H H'→Q (.bl b) H'
def Rf (a:Ad) (H H':Hp) (x:V) (c:Value) (eo:Option Addr):Prop:=∃e dx,c= .ref a.Jhk∧eo=some e∧Same H H'∧H' e=some (XO e a.Jhk (some dx) false)∧H' dx=some (XD dx [("thing",x)])
theorem Rf.of {a:Ad} {H H1 H':Hp} {x:V} {c:Value} {eo:Option Addr} (s:Same H H1) (h:Rf a H1 H' x c eo):Rf a H H' x c eo:=by
 obtain ⟨e,dx,h1,h2,h3,h4,h5⟩:=h
 exact ⟨e,dx,h1,h2,s.trans h3,h4,h5⟩
theorem Rf.new {a:Ad} {H:Hp} {x:V} {e dx:Addr} (h1:H e=none) (h2:H dx=none) (ne:dx≠e):Rf a H (upd (upd (upd H dx (XD dx [("thing",x)])) e (XO e a.Jhk (some dx) true)) e (XO e a.Jhk (some dx) false)) x (.ref a.Jhk) (some e):=by
 refine ⟨e,dx,rfl,rfl,?_,Ji1,?_⟩
 ·rw [Jll]
  intro b o q
  rw [Ji7 (Ji8 q h1),Ji7 (Ji8 q h2)]
  exact q
 ·rw [Ji7 ne,Ji7 ne,Ji1]
def spKept (K:W.Frag) (a:Ad):Sp:=fun vs H Q E=>∃(x:V) (lo:Int),vs= [x,.int lo]∧
 ((∃xs,Sq H x xs∧(∀y∈xs,Tm K H y)∧Jk5 lo xs=true∧∀t H',Same H H'→H' t=some (.tup xs)→Q (.ref t) H')∨(Shp K H lo x false∧∀c eo H',Rf a H H' x c eo→E c eo H'))
def IsC (a:Ad) (C:Addr):Prop:=C=a.Jhs∨C=a.Jht∨C=a.Jhu
def GateAt (C:Addr) (H:Hp) (g:Addr) (xs:List V):Prop:=∃dx t,H g=some (.ins C dx [("marks",.ref t)])∧H t=some (.tup xs)
theorem GateAt.same {C:Addr} {H H':Hp} {g:Addr} {xs:List V} (s:Same H H') (h:GateAt C H g xs):GateAt C H' g xs:=let ⟨dx,t,h1,h2⟩:=h;⟨dx,t,s _ _ h1,s _ _ h2⟩
def Jtj (K:W.Frag) (a:Ad) (lo:Int):Sp:=fun vs H Q E=>∃(p C dx:Addr) (x:V),vs= [.ref p,x]∧H p=some (.ins C dx [])∧Cls K C∧NoAttr K C "marks" ∧
 ((∃xs,Sq H x xs∧(∀y∈xs,Tm K H y)∧Jk5 lo xs=true∧∀t H',Same H H'→H' t=some (.tup xs)→Q .non (upd H' p (.ins C dx [("marks",.ref t)])))∨(Shp K H lo x false∧∀c eo H',Rf a H H' x c eo→E c eo H'))
def Yb (C:Addr):Sp:=fun vs H Q _=>∃(p:Addr) (xs:List V),vs= [.ref p]∧GateAt C H p xs∧Q (.int xs.length) H
inductive GS (K:W.Frag) (a:Ad) (H:Hp):V→Nat→Prop where
 |plain {g C:Addr} {xs:List V}:IsC a C→GateAt C H g xs→xs.length≤4→GS K a H (.ref g) xs.length
theorem GS.same {K:W.Frag} {a:Ad} {H H':Hp} {x:V} {n:Nat} (s:Same H H') (h:GS K a H x n):GS K a H' x n:=by
 cases h with
 |plain i g l=>exact .plain i (g.same s) l
def Knd (z:Str):Prop:=z=("step" :Str)∨z=("flap" :Str)∨z=("part" :Str)
def Jl3 (z:Str):Int:=if z=("part" :Str) then 1 else 0
def cOf (a:Ad) (z:Str):Addr:=if z=("step" :Str) then a.Jhs else if z=("flap" :Str) then a.Jht else a.Jhu
theorem cOf_is {a:Ad} {z:Str}:IsC a (cOf a z):=by
 unfold cOf
 split
 ·exact .inl rfl
 ·split
  ·exact .inr (.inl rfl)
  ·exact .inr (.inr rfl)
theorem Js6:¬(("part" :Str)="step"):=by decide +kernel
theorem Js5:¬(("part" :Str)="flap"):=by decide +kernel
theorem Jqf:¬(("flap" :Str)="step"):=by decide +kernel
theorem ne_fp:¬(("flap" :Str)="part"):=by decide +kernel
theorem ne_sp:¬(("step" :Str)="part"):=by decide +kernel
theorem Jw1 {x y:Str} (h:¬x=y):¬V.str x=V.str y:=fun e=>h (V.str.inj e)
def LET:Str:="abcdefghijklmnopqrstuvwxyz"
def Jtr (g z:Str):Bool:=z.cps.toList.all fun c=>decide (c∈g.cps.toList)
def Jpe (z:Str):Bool:=decide (1≤z.length∧z.length≤8)&&Jtr LET z
structure Wd (n:Nat) (z:Str):Prop where
 len:z.length≤n
 low:∀c∈z.cps.toList,c < 128
theorem Ya5 (z:Str):z.cps.toList.length=z.length:=Array.length_toList
theorem wd_lit {z:Str} {n:Nat} (h:(decide (z.length≤n)&&z.cps.toList.all (fun c=>decide (c < 128)))=true):Wd n z:=by
 rw [Bool.and_eq_true] at h
 exact ⟨of_decide_eq_true h.1,fun c hc=>of_decide_eq_true (List.all_eq_true.mp h.2 c hc)⟩
def Jl1:V→Bool
 | .str z=>Jpe z
 |_=>false
def Nmd (K:W.Frag) (H:Hp) (x:V):Prop:=Tm K H x∧∀z,x= .str z→Wd 50 z
def spMade:Sp:=fun vs H Q _=>∃z g:Str,vs= [.str z,.str g]∧z.length≤2000∧∀H',Same H H'→Q (.bl (Jtr g z)) H'
def spName (K:W.Frag):Sp:=fun vs H Q _=>∃x:V,vs= [x]∧Nmd K H x∧∀H',Same H H'→Q (.bl (Jl1 x)) H'
def RfC (C:Addr) (H H':Hp) (x:V) (c:Value) (eo:Option Addr):Prop:=∃e dx,c= .ref C∧eo=some e∧Same H H'∧H' e=some (XO e C (some dx) false)∧H' dx=some (XD dx [("thing",x)])
theorem RfC.of {C:Addr} {H H1 H':Hp} {x:V} {c:Value} {eo:Option Addr} (s:Same H H1) (h:RfC C H1 H' x c eo):RfC C H H' x c eo:=by
 obtain ⟨e,dx,h1,h2,h3,h4,h5⟩:=h
 exact ⟨e,dx,h1,h2,s.trans h3,h4,h5⟩
theorem RfC.new {C:Addr} {H:Hp} {x:V} {e dx:Addr} (h1:H e=none) (h2:H dx=none) (ne:dx≠e):RfC C H (upd (upd (upd H dx (XD dx [("thing",x)])) e (XO e C (some dx) true)) e (XO e C (some dx) false)) x (.ref C) (some e):=by
 refine ⟨e,dx,rfl,rfl,?_,Ji1,?_⟩
 ·rw [Jll]
  intro b o q
  rw [Ji7 (Ji8 q h1),Ji7 (Ji8 q h2)]
  exact q
 ·rw [Ji7 ne,Ji7 ne,Ji1]
def Jy0 (K:W.Frag) (a:Ad):Sp:=fun vs H Q E=>∃(x:V) (lo hi:Int),vs= [x,.int lo,.int hi]∧Tm K H x∧((Jiw x lo hi=true∧Q .non H)∨(Jiw x lo hi=false∧∀c eo H',RfC a.Jhl H H' x c eo→E c eo H'))
inductive Due (n lo hi st rn g:V) (gb:Bool):Option (Nat×V)→Prop
 |name:Jl1 n=false→Due n lo hi st rn g gb (some (0,n))
 |low:Jl1 n=true→Jiw lo 0 12=false→Due n lo hi st rn g gb (some (1,lo))
 |high (l:Int):Jl1 n=true→lo= .int l→Jiw lo 0 12=true→Jiw hi l 12=false→Due n lo hi st rn g gb (some (1,hi))
 |start (l h:Int):Jl1 n=true→lo= .int l→hi= .int h→Jiw lo 0 12=true→Jiw hi l 12=true→Jiw st l h=false→Due n lo hi st rn g gb (some (1,st))
 |rain (l h:Int):Jl1 n=true→lo= .int l→hi= .int h→Jiw lo 0 12=true→Jiw hi l 12=true→Jiw st l h=true→Jiw rn 0 6=false→Due n lo hi st rn g gb (some (1,rn))
 |gate (l h:Int):Jl1 n=true→lo= .int l→hi= .int h→Jiw lo 0 12=true→Jiw hi l 12=true→Jiw st l h=true→Jiw rn 0 6=true→gb=false→Due n lo hi st rn g gb (some (2,g))
 |good (l h:Int):Jl1 n=true→lo= .int l→hi= .int h→Jiw lo 0 12=true→Jiw hi l 12=true→Jiw st l h=true→Jiw rn 0 6=true→gb=true→Due n lo hi st rn g gb none
inductive DueT (n b wt:V):Option (Nat×V)→Prop
 |name:Jl1 n=false→DueT n b wt (some (0,n))
 |basin:Jl1 n=true→Jl1 b=false→DueT n b wt (some (0,b))
 |want:Jl1 n=true→Jl1 b=true→Jiw wt 1 6=false→DueT n b wt (some (3,wt))
 |good:Jl1 n=true→Jl1 b=true→Jiw wt 1 6=true→DueT n b wt none
def clsK (a:Ad):Nat→Addr
 |0=>a.Jhj
 |1=>a.Jhl
 |2=>a.Jhk
 |_=>a.Jhm
def GtI (K:W.Frag) (a:Ad) (H:Hp) (g:V) (gb:Bool):Prop:=∃t,TyX K H g t∧W.kitOne K t (.ref a.Jhr)=some gb∧W.kitAny K t [.ref a.Jhs,.ref a.Jht,.ref a.Jhu]=some gb∧
 ∃b,W.kitOne K t (.type "bool")=some b∧(gb=true→b=false)∧t≠ .type "float"
def basF (n lo hi st rn g:V):List (Str×V):=[("name",n),("low",lo),("high",hi),("start",st),("rain",rn),("gate",g)]
def twnF (n b wt:V):List (Str×V):=[("name",n),("basin",b),("want",wt)]
def Ends1 (a:Ad) (d:Option (Nat×V)) (H:Hp) (E:XK) (G:Prop):Prop:=match d with
 |none=>G
 |some (k,x)=>∀c eo H',RfC (clsK a k) H H' x c eo→E c eo H'
def Yao (K:W.Frag) (a:Ad):Sp:=fun vs H Q E=>∃(p dx:Addr) (n lo hi st rn g:V) (gb:Bool) (d:Option (Nat×V)),vs= [.ref p,n,lo,hi,st,rn,g]∧H p=some (.ins a.Jhv dx [])∧Nmd K H n∧Tm K H lo∧Tm K H hi∧Tm K H st∧Tm K H rn∧GtI K a H g gb∧Due n lo hi st rn g gb d∧
 Ends1 a d H E (∀H',Same H H'→Q .non (upd H' p (.ins a.Jhv dx (basF n lo hi st rn g))))
theorem Jtn {K:W.Frag} {H H':Hp} {x:V} {t:Value} (s:Same H H') (h:TyX K H x t):TyX K H' x t:=h.same (fun b o _ q=>s b o q) (fun b fs q=>s b _ q)
theorem GtI.same {K:W.Frag} {a:Ad} {H H':Hp} {g:V} {gb:Bool} (s:Same H H') (h:GtI K a H g gb):GtI K a H' g gb:=let ⟨t,ty,r⟩:=h;⟨t,Jtn s ty,r⟩
theorem ty_str {K:W.Frag} {H:Hp} {x:V} {t:Value} (h:TyX K H x t) (e:t= .type "str"):∃z,x= .str z:=by
 cases h with
 |exc=>cases e
 |of ty=>
  cases ty with
  |str z=>exact ⟨z,rfl⟩
  |ins=>cases e
  |non=>exact absurd (Value.type.inj e) (by decide)
  |bl=>exact absurd (Value.type.inj e) (by decide)
  |int=>exact absurd (Value.type.inj e) (by decide)
  |flt=>exact absurd (Value.type.inj e) (by decide)
  |lst=>exact absurd (Value.type.inj e) (by decide)
  |frz=>exact absurd (Value.type.inj e) (by decide)
  |tup=>exact absurd (Value.type.inj e) (by decide)
  |dK=>exact absurd (Value.type.inj e) (by decide)
  |dT=>exact absurd (Value.type.inj e) (by decide)
structure Bsn where
 z:Str
 lo:Int
 hi:Int
 st:Int
 rn:Int
 g:V
 n:Nat
def BasAt (K:W.Frag) (a:Ad) (H:Hp) (o:Addr) (B:Bsn):Prop:=∃dx,H o=some (.ins a.Jhv dx (basF (.str B.z) (.int B.lo) (.int B.hi) (.int B.st) (.int B.rn) B.g))∧GS K a H B.g B.n
theorem BasAt.same {K:W.Frag} {a:Ad} {H H':Hp} {o:Addr} {B:Bsn} (s:Same H H') (h:BasAt K a H o B):BasAt K a H' o B:=let ⟨dx,h1,h2⟩:=h;⟨dx,s _ _ h1,h2.same s⟩
structure Twn where
 z:Str
 b:Str
 wt:Int
def TwnAt (a:Ad) (H:Hp) (o:Addr) (B:Twn):Prop:=∃dx,H o=some (.ins a.Jhw dx (twnF (.str B.z) (.str B.b) (.int B.wt)))
theorem TwnAt.same {a:Ad} {H H':Hp} {o:Addr} {B:Twn} (s:Same H H') (h:TwnAt a H o B):TwnAt a H' o B:=let ⟨dx,h1⟩:=h;⟨dx,s _ _ h1⟩
def BasL (K:W.Frag) (a:Ad) (H:Hp):List Addr→List Bsn→Prop
 | [],[]=>True
 |o::os,B::Bs=>BasAt K a H o B∧BasL K a H os Bs
 |_,_=>False
def TwnL (a:Ad) (H:Hp):List Addr→List Twn→Prop
 | [],[]=>True
 |o::os,B::Bs=>TwnAt a H o B∧TwnL a H os Bs
 |_,_=>False
theorem BasL.same {K:W.Frag} {a:Ad} {H H':Hp} (s:Same H H'):∀{os:List Addr} {Bs:List Bsn},BasL K a H os Bs→BasL K a H' os Bs
 | [],[],_=>True.intro
 |_::_,_::_,⟨h,t⟩=>⟨h.same s,BasL.same s t⟩
theorem TwnL.same {a:Ad} {H H':Hp} (s:Same H H'):∀{os:List Addr} {Bs:List Twn},TwnL a H os Bs→TwnL a H' os Bs
 | [],[],_=>True.intro
 |_::_,_::_,⟨h,t⟩=>⟨h.same s,TwnL.same s t⟩
theorem BasL.len {K:W.Frag} {a:Ad} {H:Hp}:∀{os:List Addr} {Bs:List Bsn},BasL K a H os Bs→os.length=Bs.length
 | [],[],_=>rfl
 |_::_,_::_,⟨_,t⟩=>by rw [List.length_cons,List.length_cons,BasL.len t]
theorem TwnL.len {a:Ad} {H:Hp}:∀{os:List Addr} {Bs:List Twn},TwnL a H os Bs→os.length=Bs.length
 | [],[],_=>rfl
 |_::_,_::_,⟨_,t⟩=>by rw [List.length_cons,List.length_cons,TwnL.len t]
theorem BasL.get {K:W.Frag} {a:Ad} {H:Hp}:∀{os:List Addr} {Bs:List Bsn} {i:Nat} {v:V},BasL K a H os Bs→(os.map V.ref)[i]?=some v→∃o B,v= .ref o∧Bs[i]?=some B∧BasAt K a H o B
 |_::_,B::_,0,v,⟨h,_⟩,e=>⟨_,B,by simpa using e.symm,rfl,h⟩
 |_::_,_::_,i+1,v,⟨_,t⟩,e=>BasL.get (i:=i) t (by simpa using e)
 | [],[],i,v,_,e=>by simp at e
theorem TwnL.get {a:Ad} {H:Hp}:∀{os:List Addr} {Bs:List Twn} {i:Nat} {v:V},TwnL a H os Bs→(os.map V.ref)[i]?=some v→∃o B,v= .ref o∧Bs[i]?=some B∧TwnAt a H o B
 |_::_,B::_,0,v,⟨h,_⟩,e=>⟨_,B,by simpa using e.symm,rfl,h⟩
 |_::_,_::_,i+1,v,⟨_,t⟩,e=>TwnL.get (i:=i) t (by simpa using e)
 | [],[],i,v,_,e=>by simp at e
def Ye (K:W.Frag):Sp:=fun vs H Q _=>∃(l:Addr) (zs:List Str),vs= [.ref l]∧SqL K H l (zs.map V.str)∧zs.length≤2000∧∀H',Same H H'→Q (.bl (decide ((uq zs).length=zs.length))) H'
def Y0 (K:W.Frag) (a:Ad):Sp:=fun vs H Q _=>∃(l:Addr) (os:List Addr) (Bs:List Bsn),vs= [.ref l]∧H l=some (.lst (os.map V.ref))∧BasL K a H os Bs∧(1≤Bs.length∧Bs.length≤16)∧(Bs.map (·.z)).Nodup∧∀H',Same H H'→Q (.bl true) H'
def Yb2 (K:W.Frag) (a:Ad):Sp:=fun vs H Q _=>∃(l m:Addr) (os ts:List Addr) (Bs:List Bsn) (Ts:List Twn),vs= [.ref m,.ref l]∧H l=some (.lst (os.map V.ref))∧BasL K a H os Bs∧Bs.length≤16∧H m=some (.lst (ts.map V.ref))∧TwnL a H ts Ts∧Ts.length≤3∧(Ts.map (·.z)).Nodup∧(∀t∈Ts,t.b∈Bs.map (·.z))∧∀H',Same H H'→Q (.bl true) H'
section
variable {P:Program} {w:World} {K:W.Frag} {mg:Str→Option Value} {base:Heap} {a:Ad}
theorem Jns:Jia ["self","thing"] ["self","thing"] (Ji5 (Jid (top 4) 0)):=⟨rfl,rfl,rfl,by decide +kernel,rfl,by decide +kernel,by decide +kernel⟩
theorem Jlb (T:Tx K mg a):FnOk P w K mg base CX0 1 a.Jdt a.Jdu ["self","thing"] (Jm5 K "thing"):=by
 refine T.Jbd.fn.ok Jns (fun vs H Q E h=>?_) (fun cdv A outer s H vs Q E hr h=>?_)
 ·obtain ⟨e,C,W,fI,y,rfl,_⟩:=h
  rfl
 ·obtain ⟨e,C,W,fI,y,rfl,q,c,n,k⟩:=h
  refine ⟨_,(Ji4 (Jm4 (pv 0) (pv 1) rfl)),?_⟩
  exact ⟨_,rfl,_,rfl,e,C,W,fI,true,rfl,q,c,n,k⟩
theorem Jum:Jia ["thing","low","high"] ["thing","low","high"] (Ji5 (top 14)):=⟨rfl,rfl,rfl,by decide +kernel,rfl,by decide +kernel,by decide +kernel⟩
theorem Jky (T:Tx K mg a):FnOk P w K mg base CX0 1 a.Je5 a.Je6 ["thing","low","high"] (Yb3 K):=by
 refine T.J0.fn.ok Jum (fun vs H Q E h=>?_) (fun cdv A outer s H vs Q E hr h=>?_)
 ·obtain ⟨x,lo,hi,rfl,_⟩:=h
  rfl
 ·obtain ⟨x,lo,hi,rfl,tm,k⟩:=h
  refine ⟨_,(Ji3 (Jis (PW.pt (Jo9 (Jiv (Jic Jkv (by rfl) T.Jan Jip (Ji0 (pv 0) (Ji0 (Jjy (v:=.ty "bool") (by rfl) T.Jaj Jpr rfl) Ji2)))) (Jmk (Jj4 (Jiv (Jic Jkv (by rfl) T.Jan Jip (Ji0 (pv 0) (Ji0 (Jjy (v:=.ty "int") (by rfl) T.Jam Jsn rfl) Ji2)))))))) (Ji4 (Jib Jjt)) Jih)
   (Ji4 (Jib (Jue Jlk Jlk (pv 1) (pv 0) (pv 2))))),?_⟩
  rcases tm with ⟨i,rfl⟩|⟨t,ty,ht⟩
  ·refine ⟨_,rfl,_,_,_,_,_,rfl,rfl,.of (.int i),(by rfl:W.kitOne K (.type "int") (.type "bool")=some false),_,rfl,Jj0 ⟨_,rfl,_,_,_,_,_,rfl,rfl,.of (.int i),(by rfl:W.kitOne K (.type "int") (.type "int")=some true),_,rfl,Jj0 ?_⟩⟩
   refine ⟨_,rfl,_,rfl,_,_,rfl,rfl,_,rfl,?_⟩
   have k':Q (.bl (decide (lo≤i)&&decide (i≤hi))) H:=k
   by_cases h1:lo≤i
   ·rw [decide_eq_true h1] at k'⊢
    exact Jk0 ⟨_,rfl,_,_,rfl,rfl,by simpa using k'⟩
   ·rw [decide_eq_false h1] at k'⊢
    exact Jj0 (by simpa using k')
  ·rw [Ya9 ty ht] at k
   have e:=tp_int (K:=K) ht
   cases eb:(t== .type "bool") with
   |true=>
    rw [eb] at e
    exact ⟨_,rfl,_,_,_,_,_,rfl,rfl,ty,e.2,_,rfl,Jk0 (Jk0 k)⟩
   |false=>
    rw [eb] at e
    exact ⟨_,rfl,_,_,_,_,_,rfl,rfl,ty,e.2,_,rfl,Jj0 ⟨_,rfl,_,_,_,_,_,rfl,rfl,ty,e.1,_,rfl,Jk0 k⟩⟩
theorem sc_are_marks:Jia ["thing","lowest","least","mark"] ["thing","lowest"] (Ji5 (top 39)):=⟨rfl,rfl,rfl,by decide +kernel,rfl,by decide +kernel,by decide +kernel⟩
theorem Jt3 (T:Tx K mg a):FnOk P w K mg base CX0 2 a.Jf5 a.Jf6 ["thing","lowest"] (spAre K):=by
 have G_is_whole:=Jky (P:=P) (w:=w) (base:=base) T
 refine T.Ji.fn.ok sc_are_marks (fun vs H Q E h=>?_) (fun cdv A outer s H vs Q E hr h=>?_)
 ·obtain ⟨x,lo,b,rfl,_⟩:=h
  rfl
 ·obtain ⟨x,lo,b,rfl,sh,k⟩:=h
  refine ⟨_,(Ji3 (Jis (Jj4 (Jiv (Jic Jpz (by rfl) T.Jan Jip (Ji0 (pv 0) (Ji0 (Jke (Ji0 (Jjy (v:=.ty "list") (by rfl) T.Jap Jmu rfl) (Ji0 (Jjy (v:=.ty "tuple") (by rfl) T.Jaw Jl7 rfl) Ji2))) Ji2))))) (Ji4 (Jib Jjt)) Jih)
   (Ji3 (Jis (Jj4 (Jo7 Jlk Jlk Ji6 (Jic Jil (by rfl) T.Jao Jjg (Ji0 (pv 0) Ji2)) (Jjh (by rfl) T.Ja9 (v:=.int 4) ⟨_,rfl⟩))) (Ji4 (Jib Jjt)) Jih)
   (Ji3 (Jik (i:=2) sc_are_marks.nd rfl (Or.inl rfl) (pv 1))
   (Ji3 (Jk2 PassesOwn.never rfl (pi_seq (pv 0)) (Jie (i:=3) sc_are_marks.nd rfl (Or.inl rfl)) (Ji3 (Jis (Jj4 (Jiv (Ji9 T.J0 G_is_whole hr (by decide) (Ji0 (pv 3) (Ji0 (pv 2) (Ji0 (Jjh (by rfl) T.Jaa (v:=.int 12) ⟨_,rfl⟩) Ji2)))))) (Ji4 (Jib Jjt)) Jih)
    (Ji4 (Jik (i:=2) sc_are_marks.nd rfl (Or.inl rfl) (Jig Jit (pv 3) Ji6)))))
   (Ji4 (Jib Jjt)))))),?_⟩
  cases sh with
  | @non t ty e=>
   refine ⟨_,rfl,(show 2≤sizeLine by decide),fun p hp=>⟨_,p,_,_,t,_,rfl,Ji1,rfl,ty.same (fun b o _ q=>Same.upd hp b o q) (fun b fs q=>Same.upd hp b _ q),e,_,rfl,Jk0 (k _ (Same.upd hp))⟩⟩
  | @seq xs sq tms=>
   obtain ⟨t,ty,_,e⟩:=sq.ty (K:=K)
   refine ⟨_,rfl,(show 2≤sizeLine by decide),fun p hp=>⟨_,p,_,_,t,_,rfl,Ji1,rfl,ty.same (fun b o _ q=>Same.upd hp b o q) (fun b fs q=>Same.upd hp b _ q),e,_,rfl,Jj0 ?_⟩⟩
   have s1:=Same.upd (o:=.tup [.ty "list",.ty "tuple"]) hp
   have sq1:=sq.same s1
   obtain ⟨q,rfl⟩:∃q,x= .ref q:=by cases sq <;> exact ⟨_,rfl⟩
   have len:SqL K (upd H p (.tup [.ty "list",.ty "tuple"])) q xs∨SqT K (upd H p (.tup [.ty "list",.ty "tuple"])) q xs:=by
    cases sq1 with
    |lst e=>exact .inl (SqL.of e)
    |tup e=>exact .inr (SqT.of e)
   refine ⟨_,rfl,q,xs,rfl,len,_,_,rfl,rfl,_,rfl,?_⟩
   have no:Jk5 lo xs=false→∀H',Same H H'→Q (.bl false) H':=fun z H' s'=>by
    have:=k H' s'
    rw [z] at this
    exact this
   by_cases h1:(1:Int)≤(xs.length:Int)
   ·rw [decide_eq_true h1]
    refine Jk0 ⟨_,_,rfl,rfl,_,rfl,?_⟩
    by_cases h2:(xs.length:Int)≤4
    ·rw [decide_eq_true h2]
     refine Jj0 ⟨_,rfl,?_⟩
     have lz:decide (1≤xs.length∧xs.length≤4)=true:=decide_eq_true (by omega)
     have ar:Jk5 lo xs=Jiz lo xs:=by unfold Jk5;rw [lz,Bool.true_and]
     refine ⟨_,rfl,q,rfl,Yy (xs:=xs) (fun i σ H'=>∃(l:Int) (o:Option V),σ= [some (.ref q),some (.int lo),some (.int l),o]∧H'=upd H p (.tup [.ty "list",.ty "tuple"])∧Jiz lo xs=Jiz l (xs.drop i)) ⟨lo,_,rfl,rfl,rfl⟩ ?_ ?_ ?_⟩
     ·rcases len with z|z
      ·exact .inl fun i σ H' _ ⟨_,_,_,e,_⟩=>by rw [e];exact z
      ·exact .inr fun i σ H' _ ⟨_,_,_,e,_⟩=>by rw [e];exact z
     ·rintro i y σ H' hy ⟨l,o,rfl,rfl,em⟩
      have hd:xs.drop i=y::xs.drop (i+1):=by
       obtain ⟨hi,rfl⟩:=List.getElem?_eq_some_iff.mp hy
       exact List.drop_eq_getElem_cons hi
      refine ⟨_,rfl,_,rfl,y,l,12,rfl,(tms y (List.mem_of_getElem? hy)).same s1,_,rfl,?_⟩
      cases z:Jiw y l 12 with
      |false=>
       refine Jk0 (no ?_ _ s1)
       rw [ar,em,hd,Jpb,z,Bool.false_and]
      |true=>
       rw [hd,Jpb,z,Bool.true_and] at em
       cases y with
       |int i'=>exact Jj0 ⟨_,rfl,_,_,rfl,rfl,i'+1,_,rfl,rfl,em⟩
       |_=>cases z
     ·rintro σ H' ⟨l,o,rfl,rfl,em⟩
      have e:Jk5 lo xs=true:=by rw [ar,em,List.drop_of_length_le (Nat.le_refl _)];rfl
      have:=k _ s1
      rw [e] at this
      exact this
    ·rw [decide_eq_false h2]
     refine Jk0 (no ?_ _ s1)
     unfold Jk5
     rw [decide_eq_false (by omega:¬(1≤xs.length∧xs.length≤4)),Bool.false_and]
   ·rw [decide_eq_false h1]
    refine Jj0 ⟨_,rfl,Jk0 (no ?_ _ s1)⟩
    unfold Jk5
    rw [decide_eq_false (by omega:¬(1≤xs.length∧xs.length≤4)),Bool.false_and]
end
section
variable {P:Program} {w:World} {K:W.Frag} {mg:Str→Option Value} {base:Heap} {a:Ad}
theorem Jrn:Jia ["marks","lowest"] ["marks","lowest"] (Ji5 (top 40)):=⟨rfl,rfl,rfl,by decide +kernel,rfl,by decide +kernel,by decide +kernel⟩
theorem Jlo (T:Tx K mg a):FnOk P w K mg base (CXX P w) 3 a.Jf7 a.Jf8 ["marks","lowest"] (spKept K a):=by
 have G_are_marks:=Jt3 (P:=P) (w:=w) (base:=base) T
 have G_NoGate___init__:=Jlb (P:=P) (w:=w) (base:=base) T
 refine T.Jj.fn.okX Jrn (fun vs H Q E h=>?_) (fun cdv A outer s H vs Q E hr h=>?_)
 ·obtain ⟨x,lo,rfl,_⟩:=h
  rfl
 ·obtain ⟨x,lo,rfl,h⟩:=h
  refine ⟨_,(Ji3 (Jis (Jj4 (Jiv (Ji9 T.Ji G_are_marks hr (by decide) (Ji0 (pv 0) (Ji0 (pv 1) Ji2))))) (Ji4 (Jju Jjr rfl (Jlc T.Jby G_NoGate___init__ hr (by decide) T.Jbd.bd T.Jaz (Ji0 (pv 0) Ji2)))) Jih)
   (Ji4 (Jib (Jj6 Jkn (by rfl) T.Jaw Jl7 (Ji0 (pv 0) Ji2))))),?_⟩
  rcases h with ⟨xs,sq,tms,e,k⟩|⟨sh,k⟩
  ·have sh:=Shp.seq (lo:=lo) sq tms
   rw [e] at sh
   refine ⟨_,rfl,_,rfl,x,lo,true,rfl,sh,fun H1 s1=>⟨_,rfl,Jj0 ?_⟩⟩
   cases sq with
   |lst e=>exact ⟨_,rfl,_,xs,rfl,.inl ⟨SqL.of (s1 _ _ e),fun l hl=>k l _ (s1.trans (Same.upd hl)) Ji1⟩⟩
   |tup e=>exact ⟨_,rfl,_,xs,rfl,.inr ⟨SqT.of (s1 _ _ e),k _ _ s1 (s1 _ _ e)⟩⟩
  ·exact ⟨_,rfl,_,rfl,x,lo,false,rfl,sh,fun H1 s1=>⟨_,rfl,Jk0 (Jml T.Jby T.Jbz rfl fun e dx h1 h2 h3=>k _ _ _ ((Rf.new h1 h2 h3).of s1))⟩⟩
theorem Jmr:Jia ["self","marks"] ["self","marks"] (Ji5 (Jid (top 43) 0)):=⟨rfl,rfl,rfl,by decide +kernel,rfl,by decide +kernel,by decide +kernel⟩
theorem Jox (T:Tx K mg a):FnOk P w K mg base (CXX P w) 4 a.Jfb a.Jfc ["self","marks"] (Jtj K a 0):=by
 have G_kept_marks:=Jlo (P:=P) (w:=w) (base:=base) T
 refine T.Jbk.fn.okX Jmr (fun vs H Q E h=>?_) (fun cdv A outer s H vs Q E hr h=>?_)
 ·obtain ⟨p,C,dx,x,rfl,_⟩:=h
  rfl
 ·obtain ⟨p,C,dx,x,rfl,hp,c,n,h⟩:=h
  refine ⟨_,(Ji4 (Jkm (pv 0) (Jkz T.Jj G_kept_marks Jjr hr (by decide) (Ji0 (pv 1) (Ji0 Ji6 Ji2))) rfl)),?_⟩
  rcases h with ⟨xs,sq,tms,e,k⟩|⟨sh,k⟩
  ·exact ⟨_,rfl,x,0,rfl,.inl ⟨xs,sq,tms,e,fun t H' s' ht=>⟨_,rfl,p,C,dx,[],rfl,s' _ _ hp,c,n,by simp,k t H' s' ht⟩⟩⟩
  ·exact ⟨_,rfl,x,0,rfl,.inr ⟨sh,k⟩⟩
theorem Jms:Jia ["self"] ["self"] (Ji5 (Jid (top 43) 1)):=⟨rfl,rfl,rfl,by decide +kernel,rfl,by decide +kernel,by decide +kernel⟩
theorem Jmh (T:Tx K mg a):FnOk P w K mg base CX0 1 a.Jfd a.Jfe ["self"] (Yb a.Jhs):=by
 refine T.Jbl.fn.ok Jms (fun vs H Q E h=>?_) (fun cdv A outer s H vs Q E hr h=>?_)
 ·obtain ⟨p,xs,rfl,_⟩:=h
  rfl
 ·obtain ⟨p,xs,rfl,⟨dx,t,h1,h2⟩,k⟩:=h
  refine ⟨_,(Ji4 (Jib (Jic Jil (by rfl) T.Jao Jjg (Ji0 (Jjq (pv 0) (by rfl)) Ji2)))),?_⟩
  exact ⟨_,rfl,p,_,dx,_,_,rfl,h1,T.Jc8,T.Jce,rfl,t,xs,rfl,.inr (SqT.of h2),k⟩
theorem Jmm:Jia ["self","marks"] ["self","marks"] (Ji5 (Jid (top 44) 0)):=⟨rfl,rfl,rfl,by decide +kernel,rfl,by decide +kernel,by decide +kernel⟩
theorem Jou (T:Tx K mg a):FnOk P w K mg base (CXX P w) 4 a.Jfh a.Jfi ["self","marks"] (Jtj K a 0):=by
 have G_kept_marks:=Jlo (P:=P) (w:=w) (base:=base) T
 refine T.Jbn.fn.okX Jmm (fun vs H Q E h=>?_) (fun cdv A outer s H vs Q E hr h=>?_)
 ·obtain ⟨p,C,dx,x,rfl,_⟩:=h
  rfl
 ·obtain ⟨p,C,dx,x,rfl,hp,c,n,h⟩:=h
  refine ⟨_,(Ji4 (Jkm (pv 0) (Jkz T.Jj G_kept_marks Jjr hr (by decide) (Ji0 (pv 1) (Ji0 Ji6 Ji2))) rfl)),?_⟩
  rcases h with ⟨xs,sq,tms,e,k⟩|⟨sh,k⟩
  ·exact ⟨_,rfl,x,0,rfl,.inl ⟨xs,sq,tms,e,fun t H' s' ht=>⟨_,rfl,p,C,dx,[],rfl,s' _ _ hp,c,n,by simp,k t H' s' ht⟩⟩⟩
  ·exact ⟨_,rfl,x,0,rfl,.inr ⟨sh,k⟩⟩
theorem Jmn:Jia ["self"] ["self"] (Ji5 (Jid (top 44) 1)):=⟨rfl,rfl,rfl,by decide +kernel,rfl,by decide +kernel,by decide +kernel⟩
theorem Jmf (T:Tx K mg a):FnOk P w K mg base CX0 1 a.Jfj a.Jfk ["self"] (Yb a.Jht):=by
 refine T.Jbo.fn.ok Jmn (fun vs H Q E h=>?_) (fun cdv A outer s H vs Q E hr h=>?_)
 ·obtain ⟨p,xs,rfl,_⟩:=h
  rfl
 ·obtain ⟨p,xs,rfl,⟨dx,t,h1,h2⟩,k⟩:=h
  refine ⟨_,(Ji4 (Jib (Jic Jil (by rfl) T.Jao Jjg (Ji0 (Jjq (pv 0) (by rfl)) Ji2)))),?_⟩
  exact ⟨_,rfl,p,_,dx,_,_,rfl,h1,T.Jcf,T.Jcl,rfl,t,xs,rfl,.inr (SqT.of h2),k⟩
theorem Jmp:Jia ["self","marks"] ["self","marks"] (Ji5 (Jid (top 45) 0)):=⟨rfl,rfl,rfl,by decide +kernel,rfl,by decide +kernel,by decide +kernel⟩
theorem Jow (T:Tx K mg a):FnOk P w K mg base (CXX P w) 4 a.Jfn a.Jfo ["self","marks"] (Jtj K a 1):=by
 have G_kept_marks:=Jlo (P:=P) (w:=w) (base:=base) T
 refine T.Jbq.fn.okX Jmp (fun vs H Q E h=>?_) (fun cdv A outer s H vs Q E hr h=>?_)
 ·obtain ⟨p,C,dx,x,rfl,_⟩:=h
  rfl
 ·obtain ⟨p,C,dx,x,rfl,hp,c,n,h⟩:=h
  refine ⟨_,(Ji4 (Jkm (pv 0) (Jkz T.Jj G_kept_marks Jjr hr (by decide) (Ji0 (pv 1) (Ji0 Ji6 Ji2))) rfl)),?_⟩
  rcases h with ⟨xs,sq,tms,e,k⟩|⟨sh,k⟩
  ·exact ⟨_,rfl,x,1,rfl,.inl ⟨xs,sq,tms,e,fun t H' s' ht=>⟨_,rfl,p,C,dx,[],rfl,s' _ _ hp,c,n,by simp,k t H' s' ht⟩⟩⟩
  ·exact ⟨_,rfl,x,1,rfl,.inr ⟨sh,k⟩⟩
theorem Jmq:Jia ["self"] ["self"] (Ji5 (Jid (top 45) 1)):=⟨rfl,rfl,rfl,by decide +kernel,rfl,by decide +kernel,by decide +kernel⟩
theorem Jmg (T:Tx K mg a):FnOk P w K mg base CX0 1 a.Jfp a.Jfq ["self"] (Yb a.Jhu):=by
 refine T.Jbr.fn.ok Jmq (fun vs H Q E h=>?_) (fun cdv A outer s H vs Q E hr h=>?_)
 ·obtain ⟨p,xs,rfl,_⟩:=h
  rfl
 ·obtain ⟨p,xs,rfl,⟨dx,t,h1,h2⟩,k⟩:=h
  refine ⟨_,(Ji4 (Jib (Jic Jil (by rfl) T.Jao Jjg (Ji0 (Jjq (pv 0) (by rfl)) Ji2)))),?_⟩
  exact ⟨_,rfl,p,_,dx,_,_,rfl,h1,T.Jcm,T.Jcs,rfl,t,xs,rfl,.inr (SqT.of h2),k⟩
theorem Jnb {j:Nat} {σ:L2.St} {H:Hp} {x:V} {n:Nat} {Q:VK} (T:Tx K mg a) (g:GS K a H x n) (k:Q (.int n) H) (hj:1≤j):
  ∃g' C dx fs f fd ps sp k',x= .ref g'∧H g'=some (.ins C dx fs)∧fs.lookup ("settings" :Str)=none∧Cls K C∧Jku K C "settings" f∧FnOk P w K mg base CX0 k' f fd ps sp∧k'≤j∧Binds K fd ps []∧Jw4 σ H fun vs H2=>sp (x::vs) H2 Q E0:=by
 cases g with
 | @plain g C xs i ga l=>
  obtain ⟨dx,t,h1,h2⟩:=ga
  rcases i with rfl|rfl|rfl
  ·exact ⟨g,_,dx,_,_,_,_,_,_,rfl,h1,rfl,T.Jc8,T.Jcc,Jmh T,hj,T.Jbl.bd,g,xs,rfl,⟨dx,t,h1,h2⟩,k⟩
  ·exact ⟨g,_,dx,_,_,_,_,_,_,rfl,h1,rfl,T.Jcf,T.Jcj,Jmf T,hj,T.Jbo.bd,g,xs,rfl,⟨dx,t,h1,h2⟩,k⟩
  ·exact ⟨g,_,dx,_,_,_,_,_,_,rfl,h1,rfl,T.Jcm,T.Jcq,Jmg T,hj,T.Jbr.bd,g,xs,rfl,⟨dx,t,h1,h2⟩,k⟩
end
section
variable {P:Program} {w:World} {K:W.Frag} {mg:Str→Option Value} {base:Heap} {a:Ad}
theorem Jun:Jia ["_law_script","_law_k"] ["_law_script","_law_k"] (Ji5 (top 61)):=⟨rfl,rfl,rfl,by decide +kernel,rfl,by decide +kernel,by decide +kernel⟩
theorem Ju5 (T:Tx K mg a):FnOk P w K mg base CX0 1 a.Jg7 a.Jg8 ["_law_script","_law_k"] (spCell K):=by
 refine T.Jo.fn.ok Jun (fun vs H Q E h=>?_) (fun cdv A outer s H vs Q E hr h=>?_)
 ·obtain ⟨x,ns,i,rfl,_⟩:=h
  rfl
 ·obtain ⟨x,ns,i,rfl,hS,k⟩:=h
  refine ⟨_,(Ji3 (Jis (Jim Jze (pv 1) (Jic Jil (by rfl) T.Jao Jjg (Ji0 (pv 0) Ji2)) (Jio _)) (Ji4 (Jib (Jin Jiq (pv 0) (pv 1) (fun _ _=>rfl)))) Jih)
   (Ji4 (Jib (Jig Jit (Jig Jp0 Ji6 (pv 1)) Ji6)))),?_⟩
  refine ⟨_,rfl,_,rfl,x,_,rfl,.inl hS,_,_,rfl,rfl,_,rfl,Jl9 (fun q=>?_) (fun q=>?_)⟩
  ·have hi:i < ns.length:=by
    have q':=of_decide_eq_true q
    rw [List.length_map] at q'
    omega
   exact ⟨_,rfl,_,rfl,x,_,_,_,rfl,rfl,hS,Jwo hi,k _⟩
  ·exact ⟨_,rfl,_,_,rfl,rfl,.inl ⟨by decide,by decide⟩,_,_,rfl,rfl,k _⟩
theorem Jro:Jia ["_law_cell_here"] ["_law_cell_here"] (Ji5 (top 62)):=⟨rfl,rfl,rfl,by decide +kernel,rfl,by decide +kernel,by decide +kernel⟩
theorem Jrg (T:Tx K mg a):FnOk P w K mg base CX0 1 a.Jg9 a.Jga ["_law_cell_here"] Yd:=by
 refine T.Jp.fn.ok Jro (fun vs H Q E h=>?_) (fun cdv A outer s H vs Q E hr h=>?_)
 ·obtain ⟨c,rfl,_⟩:=h
  rfl
 ·obtain ⟨c,rfl,k⟩:=h
  refine ⟨_,(Ji4 (Jib (Jiu (Ji0 (Jic (Jl6 rfl) (by rfl) T.Jaq Jom (Ji0 Ji6 (Ji0 (Jig Jkd (pv 0) (Jig op_pow Ji6 Ji6)) Ji2))) (Ji0 (Jig Jno (pv 0) Ji6) (Ji0 Ji6 Ji2)))))),?_⟩
  refine ⟨_,rfl,_,_,rfl,rfl,⟨by decide,by decide,by decide⟩,_,_,rfl,rfl,_,_,rfl,_,rfl,_,_,rfl,rfl,(by show (0:Int) < 2147483647;decide),Jp3 _ (by show 3≤2000;decide),fun p hp=>?_⟩
  exact k p _ hp (Same.upd hp) ⟨_,_,_,Ji1⟩
theorem sc_law_take:Jia ["_law_stream_here","_law_many","_law_digit","_law_number"] ["_law_stream_here","_law_many"] (Ji5 (top 63)):=⟨rfl,rfl,rfl,by decide +kernel,rfl,by decide +kernel,by decide +kernel⟩
theorem Jk9 (T:Tx K mg a):FnOk P w K mg base CX0 1 a.Jgb a.Jgc ["_law_stream_here","_law_many"] spTake:=by
 refine T.Jq.fn.ok sc_law_take (fun vs H Q E h=>?_) (fun cdv A outer s H vs Q E hr h=>?_)
 ·obtain ⟨p,m,rfl,_⟩:=h
  rfl
 ·obtain ⟨p,m,rfl,⟨a0,b0,c0,hp⟩,hm,hl,k⟩:=h
  refine ⟨_,(Ji3 (Jtf (Jig Jit (Jin Jiq (pv 0) Ji6 (fun _ _=>rfl)) Ji6) (Jvs (pv 0) Ji6 Jqw))
   (Ji3 (Jis (Jim Js9 (Jin Jiq (pv 0) Ji6 (fun _ _=>rfl)) Ji6 (Jio _)) (Ji3 (Jik (i:=2) sc_law_take.nd rfl (Or.inl rfl) (Jig Jno (Jin Jiq (pv 0) Ji6 (fun _ _=>rfl)) (pv 1)))
    (Ji3 (Jtf (Jig Jlv (Jin Jiq (pv 0) Ji6 (fun _ _=>rfl)) (pv 1)) (Jvs (pv 0) Ji6 Jqw))
    (Ji4 (Jib (pv 2))))) Jih)
   (Ji3 (Jik (i:=3) sc_law_take.nd rfl (Or.inl rfl) (Jig Jno (Jig Jp0 (Jig Jit (Jin Jiq (pv 0) Ji6 (fun _ _=>rfl)) (Jig Jp0 Ji6 (Jin Jiq (pv 0) Ji6 (fun _ _=>rfl)))) Ji6) Ji6))
   (Ji3 (Jik (i:=3) sc_law_take.nd rfl (Or.inl rfl) (Jig Jno (Jig Jp0 (pv 3) (pv 3)) Ji6))
   (Ji4 (Jib (Jig Jno (Jig Jlv (Jig Jno (Jig Jit (Jig Jp0 (pv 3) (Jig Jit (pv 3) Ji6)) (Jig Jp0 Ji6 (Jin Jiq (pv 0) Ji6 (fun _ _=>rfl)))) Ji6) Ji6) (pv 1)))))))),?_⟩
  refine ⟨_,rfl,p,_,_,_,rfl,rfl,SqL.of hp,rfl,_,_,rfl,rfl,_,rfl,p,_,_,_,rfl,rfl,hp,rfl,?_⟩
  refine ⟨_,rfl,p,_,_,_,rfl,rfl,SqL.of Ji1,rfl,_,_,rfl,rfl,_,rfl,Jl9 (fun _=>?_) (fun _=>?_)⟩
  ·refine ⟨_,rfl,p,_,_,_,rfl,rfl,SqL.of Ji1,rfl,_,rfl,_,_,rfl,rfl,hm,?_⟩
   refine ⟨_,rfl,p,_,_,_,rfl,rfl,SqL.of Ji1,rfl,_,rfl,_,_,rfl,rfl,⟨hm,hl⟩,_,rfl,p,_,_,_,rfl,rfl,Ji1,rfl,?_⟩
   refine ⟨_,rfl,k _ _ (Int.emod_nonneg _ (by omega)) (Int.emod_lt_of_pos _ hm) ⟨fun b o ne e=>?_,_,_,_,Ji1⟩⟩
   rw [Ji7 ne,Ji7 ne]
   exact e
  ·refine ⟨_,rfl,p,_,_,_,rfl,rfl,SqL.of Ji1,rfl,_,rfl,p,_,_,_,rfl,rfl,SqL.of Ji1,rfl,_,_,rfl,rfl,.inl ⟨by decide,by decide⟩,_,_,rfl,rfl,_,_,rfl,rfl,.inr ⟨by decide,by decide⟩,_,_,rfl,rfl,(by show (0:Int) < 2147483629;decide),?_⟩
   have n1:∀x:Int,-(2^64) < x%2147483629∧x%2147483629 < 2^64:=fun x=>by
    have h1:=Int.emod_nonneg x (show (2147483629:Int)≠0 by decide)
    have h2:=Int.emod_lt_of_pos x (show (0:Int) < 2147483629 by decide)
    constructor <;> omega
   have n2:∀x:Int,-(2^64) < x%2147483587∧x%2147483587 < 2^64:=fun x=>by
    have h1:=Int.emod_nonneg x (show (2147483587:Int)≠0 by decide)
    have h2:=Int.emod_lt_of_pos x (show (0:Int) < 2147483587 by decide)
    constructor <;> omega
   refine ⟨_,rfl,_,rfl,_,_,rfl,rfl,.inl (n1 _),_,_,rfl,rfl,(by show (0:Int) < 2147483587;decide),?_⟩
   refine ⟨_,rfl,_,rfl,_,_,rfl,rfl,_,_,rfl,rfl,.inl (n2 _),_,rfl,p,_,_,_,rfl,rfl,SqL.of Ji1,rfl,_,_,rfl,rfl,.inl ⟨by decide,by decide⟩,_,_,rfl,rfl,_,_,rfl,rfl,(by show (0:Int) < 2147483647;decide),_,_,rfl,rfl,⟨by decide,by decide⟩,_,rfl,_,_,rfl,rfl,hm,?_⟩
   refine k _ _ (Int.emod_nonneg _ (by omega)) (Int.emod_lt_of_pos _ hm) ⟨fun b o ne e=>?_,_,_,_,Ji1⟩
   rw [Ji7 ne]
   exact e
end
section
variable {P:Program} {w:World} {K:W.Frag} {mg:Str→Option Value} {base:Heap} {a:Ad}
theorem Jnt:Jia ["self","thing"] ["self","thing"] (Ji5 (Jid (top 3) 0)):=⟨rfl,rfl,rfl,by decide +kernel,rfl,by decide +kernel,by decide +kernel⟩
theorem Jqi (T:Tx K mg a):FnOk P w K mg base CX0 1 a.Jdr a.Jds ["self","thing"] (Jm5 K "thing"):=by
 refine T.Jbc.fn.ok Jnt (fun vs H Q E h=>?_) (fun cdv A outer s H vs Q E hr h=>?_)
 ·obtain ⟨e,C,W,fI,y,rfl,_⟩:=h
  rfl
 ·obtain ⟨e,C,W,fI,y,rfl,q,c,n,k⟩:=h
  refine ⟨_,(Ji4 (Jm4 (pv 0) (pv 1) rfl)),?_⟩
  exact ⟨_,rfl,_,rfl,e,C,W,fI,true,rfl,q,c,n,k⟩
theorem Jmz:Jia ["self","thing"] ["self","thing"] (Ji5 (Jid (top 5) 0)):=⟨rfl,rfl,rfl,by decide +kernel,rfl,by decide +kernel,by decide +kernel⟩
theorem Jpm (T:Tx K mg a):FnOk P w K mg base CX0 1 a.Jdv a.Jdw ["self","thing"] (Jm5 K "thing"):=by
 refine T.Jbe.fn.ok Jmz (fun vs H Q E h=>?_) (fun cdv A outer s H vs Q E hr h=>?_)
 ·obtain ⟨e,C,W,fI,y,rfl,_⟩:=h
  rfl
 ·obtain ⟨e,C,W,fI,y,rfl,q,c,n,k⟩:=h
  refine ⟨_,(Ji4 (Jm4 (pv 0) (pv 1) rfl)),?_⟩
  exact ⟨_,rfl,_,rfl,e,C,W,fI,true,rfl,q,c,n,k⟩
theorem Jrm:Jia ["text","signs"] ["text","signs"] (Ji5 (top 15)):=⟨rfl,rfl,rfl,by decide +kernel,rfl,by decide +kernel,by decide +kernel⟩
theorem Jrf (T:Tx K mg a):FnOk P w K mg base CX0 1 a.Je7 a.Je8 ["text","signs"] spMade:=by
 refine T.J1.fn.ok Jrm (fun vs H Q E h=>?_) (fun cdv A outer s H vs Q E hr h=>?_)
 ·obtain ⟨z,g,rfl,_⟩:=h
  rfl
 ·obtain ⟨z,g,rfl,hz,k⟩:=h
  refine ⟨_,(Ji4 (Jib (Jic (Jlr rfl) (by rfl) T.Jah Jol (Ji0 (Jj2 (N:=(["sign","signs"]:List Str)) (ini:=[none,some 1]) rfl (pi_str (pv 0)) (fun _ _ _ _ _=>(Jie (i:=0) (by decide +kernel:(["sign","signs"]:List Str).Nodup) rfl (Or.inl rfl))) (fun _ _ _ _ _=>Jj3) (fun _ _ _ _ _=>(Jk6 Jxq (pv 0) (pv 1) (by with_unfolding_all rfl)))) Ji2)))),?_⟩
  refine ⟨_,rfl,z,rfl,fun D hD=>?_⟩
  refine Jyk (z:=z) (D:=D) (fun i σ H'=>∃o,σ= [o,some (.str g)]∧H'=upd H D (.lst ((z.cps.toList.take i).map fun c=>V.bl (decide (c∈g.cps.toList))))) ?_ ?_ ?_
  ·exact ⟨none,rfl,rfl⟩
  ·rintro i c σ H' hc ⟨o,rfl,rfl⟩
   refine Jj5 ⟨_,rfl,_,rfl,⟨#[c]⟩,g,rfl,rfl,_,Ji1,?_,_,rfl,?_⟩
   ·rw [List.length_map,List.length_take,Ya5]
    exact Jii (by omega)
   ·rw [Jll,StrLaws.found_one]
    have e:z.cps.toList[i]?=some c:=by simpa using hc
    rw [List.take_add_one,e]
    simp
  ·rintro σ H' ⟨o,rfl,rfl⟩
   have e:z.cps.toList.take z.cps.size=z.cps.toList:=List.take_of_length_le (by simp)
   refine ⟨D,z.cps.toList.map fun c=>decide (c∈g.cps.toList),rfl,SqL.of (by rw [Ji1,e,List.map_map];rfl),?_⟩
   have e2:(z.cps.toList.map fun c=>decide (c∈g.cps.toList)).all id=Jtr g z:=by
    unfold Jtr
    rw [List.all_map]
    rfl
   rw [e2]
   exact k _ (Same.upd hD)
theorem Yaa {H:Hp} {x:V} (h:Tm K H x) (n:∀z,x≠ .str z):∃t,TyX K H x t∧W.kitOne K t (.type "str")=some false:=by
 rcases h with ⟨i,rfl⟩|⟨t,ty,ht⟩
 ·exact ⟨_,.of (.int i),rfl⟩
 ·refine ⟨t,ty,?_⟩
  unfold tpB at ht
  simp only [List.contains_cons,List.contains_nil,Bool.or_false,Bool.or_eq_true,beq_iff_eq] at ht
  rcases ht with rfl|rfl|rfl|rfl|rfl|rfl
  ·rfl
  ·obtain ⟨z,e⟩:=ty_str ty rfl
   exact absurd e (n z)
  ·rfl
  ·rfl
  ·rfl
  ·rfl
theorem Jvv:Jia ["thing"] ["thing"] (Ji5 (top 16)):=⟨rfl,rfl,rfl,by decide +kernel,rfl,by decide +kernel,by decide +kernel⟩
theorem Jvk (T:Tx K mg a):FnOk P w K mg base CX0 2 a.Je9 a.Jea ["thing"] (spName K):=by
 have G_is_made_of:=Jrf (P:=P) (w:=w) (base:=base) T
 refine T.J2.fn.ok Jvv (fun vs H Q E h=>?_) (fun cdv A outer s H vs Q E hr h=>?_)
 ·obtain ⟨x,rfl,_⟩:=h
  rfl
 ·obtain ⟨x,rfl,nm,k⟩:=h
  refine ⟨_,(Ji3 (Jis (Jj4 (Jiv (Jic Jkv (by rfl) T.Jan Jip (Ji0 (pv 0) (Ji0 (Jjy (v:=.ty "str") (by rfl) T.Jav bt_str rfl) Ji2))))) (Ji4 (Jib Jjt)) Jih)
   (Ji4 (Jib (Jvq (Jue Jlk Jlk Ji6 (Jic Jsp (by rfl) T.Jao Jjg (Ji0 (pv 0) Ji2)) (Jjh (by rfl) T.Ja7 (v:=.int 8) ⟨_,rfl⟩)) (Jvr (Ji9 T.J1 G_is_made_of hr (by decide) (Ji0 (pv 0) (Ji0 (Jjh (by rfl) T.Ja6 (v:=.str "abcdefghijklmnopqrstuvwxyz") ⟨_,rfl⟩) Ji2)))))))),?_⟩
  by_cases hx:∃z,x= .str z
  ·obtain ⟨z,rfl⟩:=hx
   have k:∀H',Same H H'→Q (.bl (Jpe z)) H':=k
   have hz:z.length≤2000:=by have:=(nm.2 z rfl).len;omega
   refine ⟨_,rfl,_,_,_,_,_,rfl,rfl,.of (.str z),(by rfl:W.kitOne K (.type "str") (.type "str")=some true),_,rfl,Jj0 ?_⟩
   refine ⟨_,rfl,z,rfl,Jp3 _ hz,_,_,rfl,rfl,_,rfl,?_⟩
   have no:¬(1≤z.length∧z.length≤8)→Q (.bl false) H:=fun q=>by
    have k':=k H (Same.refl H)
    unfold Jpe at k'
    rw [decide_eq_false q,Bool.false_and] at k'
    exact k'
   by_cases h1:(1:Int)≤(z.length:Int)
   ·rw [decide_eq_true h1]
    refine Jk0 ⟨_,_,rfl,rfl,_,rfl,?_⟩
    by_cases h2:(z.length:Int)≤8
    ·rw [decide_eq_true h2]
     refine Jk0 ⟨_,rfl,z,_,rfl,hz,fun H' s'=>?_⟩
     have e:Jpe z=Jtr LET z:=by
      unfold Jpe
      rw [decide_eq_true (by omega:1≤z.length∧z.length≤8),Bool.true_and]
     have k':=k H' s'
     rw [e] at k'
     exact k'
    ·rw [decide_eq_false h2]
     exact Jj0 (no (by omega))
   ·rw [decide_eq_false h1]
    exact Jj0 ⟨_,rfl,Jj0 (no (by omega))⟩
  ·obtain ⟨t,ty,e1⟩:=Yaa nm.1 fun z e=>hx ⟨z,e⟩
   have k':=k H (Same.refl H)
   have e:Jl1 x=false:=by
    cases x with
    |str z=>exact absurd ⟨z,rfl⟩ hx
    |_=>rfl
   rw [e] at k'
   exact ⟨_,rfl,_,_,_,_,_,rfl,rfl,ty,e1,_,rfl,Jk0 k'⟩
theorem Jnx:Jia ["thing","low","high"] ["thing","low","high"] (Ji5 (top 53)):=⟨rfl,rfl,rfl,by decide +kernel,rfl,by decide +kernel,by decide +kernel⟩
theorem Jnm (T:Tx K mg a):FnOk P w K mg base (CXX P w) 3 a.Jft a.Jfu ["thing","low","high"] (Jy0 K a):=by
 have G_is_whole:=Jky (P:=P) (w:=w) (base:=base) T
 have G_NoBasin___init__:=Jpm (P:=P) (w:=w) (base:=base) T
 refine T.Jk.fn.okX Jnx (fun vs H Q E h=>?_) (fun cdv A outer s H vs Q E hr h=>?_)
 ·obtain ⟨x,lo,hi,rfl,_⟩:=h
  rfl
 ·obtain ⟨x,lo,hi,rfl,tm,h⟩:=h
  refine ⟨_,(Ji4 (Jis (Jj4 (Jiv (Ji9 T.J0 G_is_whole hr (by decide) (Ji0 (pv 0) (Ji0 (pv 1) (Ji0 (pv 2) Ji2)))))) (Ji4 (Jju Jjr rfl (Jlc T.Jc0 G_NoBasin___init__ hr (by decide) T.Jbe.bd T.Jb0 (Ji0 (pv 0) Ji2)))) Jih)),?_⟩
  refine ⟨_,rfl,_,rfl,_,rfl,x,lo,hi,rfl,tm,_,rfl,?_⟩
  rcases h with ⟨e,k⟩|⟨e,k⟩
  ·rw [e]
   exact Jj0 k
  ·rw [e]
   exact Jk0 (Jml T.Jc0 T.Jc1 rfl fun e dx h1 h2 h3=>k _ _ _ (RfC.new h1 h2 h3))
end
section
variable {P:Program} {w:World} {K:W.Frag} {mg:Str→Option Value} {base:Heap} {a:Ad}
theorem Jkf {f:Str} {v:V}:∀{fs:List (Str×V)},(fs.map (·.1)).contains f=false→Jki f v fs=fs++ [(f,v)]
 | [],_=>rfl
 | (g,x) :: r,h=>by
  rw [List.map_cons,List.contains_cons,Bool.or_eq_false_iff] at h
  have ne:¬g=f:=fun e=>by
   have:=h.1
   rw [e] at this
   simp at this
  show (if g=f then (g,v)::r else (g,x)::Jki f v r)=_
  rw [if_neg ne,Jkf h.2]
  rfl
theorem Joa:Jia ["self","name","low","high","start","rain","gate"] ["self","name","low","high","start","rain","gate"] (Ji5 (Jid (top 54) 0)):=⟨rfl,rfl,rfl,by decide +kernel,rfl,by decide +kernel,by decide +kernel⟩
theorem Jr9 (T:Tx K mg a):FnOk P w K mg base (CXX P w) 4 a.Jfv a.Jfw ["self","name","low","high","start","rain","gate"] (Yao K a):=by
 have G_is_name:=Jvk (P:=P) (w:=w) (base:=base) T
 have G_refuse_no_level:=Jnm (P:=P) (w:=w) (base:=base) T
 have G_NoName___init__:=Jqi (P:=P) (w:=w) (base:=base) T
 have G_NoGate___init__:=Jlb (P:=P) (w:=w) (base:=base) T
 refine T.Jbt.fn.okX Joa (fun vs H Q E h=>?_) (fun cdv A outer s H vs Q E hr h=>?_)
 ·obtain ⟨p,dx,n,lo,hi,st,rn,g,gb,d,rfl,_⟩:=h
  rfl
 ·obtain ⟨p,dx,n,lo,hi,st,rn,g,gb,d,rfl,hp,nm,tlo,thi,tst,trn,gt,du,k⟩:=h
  refine ⟨?t,?B,?C⟩
  case B=>
   refine' Ji3 (Jis (Jj4 (Jiv (Ji9 T.J2 G_is_name hr (by decide) (Ji0 (pv 1) Ji2)))) (Ji4 (Jju Jjr rfl (Jlc T.Jbw G_NoName___init__ hr (by decide) T.Jbc.bd T.Jay (Ji0 (pv 1) Ji2)))) Jih) ?_
   rotate_left
   refine' Ji3 (Jk7 (Jkz T.Jk G_refuse_no_level Jjr hr (by decide) (Ji0 (pv 2) (Ji0 Ji6 (Ji0 (Jjh (by rfl) T.Jac (v:=.int 12) ⟨_,rfl⟩) Ji2))))) ?_
   rotate_left
   refine' Ji3 (Jk7 (Jkz T.Jk G_refuse_no_level Jjr hr (by decide) (Ji0 (pv 3) (Ji0 (pv 2) (Ji0 (Jjh (by rfl) T.Jac (v:=.int 12) ⟨_,rfl⟩) Ji2))))) ?_
   rotate_left
   refine' Ji3 (Jk7 (Jkz T.Jk G_refuse_no_level Jjr hr (by decide) (Ji0 (pv 4) (Ji0 (pv 2) (Ji0 (pv 3) Ji2))))) ?_
   rotate_left
   refine' Ji3 (Jk7 (Jkz T.Jk G_refuse_no_level Jjr hr (by decide) (Ji0 (pv 5) (Ji0 Ji6 (Ji0 (Jjh (by rfl) T.Jad (v:=.int 6) ⟨_,rfl⟩) Ji2))))) ?_
   rotate_left
   refine' Ji3 (Jis (Jj4 (Jiv (Jic Jkv (by rfl) T.Jan Jip (Ji0 (pv 6) (Ji0 (Jjh (by rfl) T.Jb5 (v:=.ref _) rfl) Ji2))))) (Ji4 (Jju Jjr rfl (Jlc T.Jby G_NoGate___init__ hr (by decide) T.Jbd.bd T.Jaz (Ji0 (pv 6) Ji2)))) Jih) ?_
   rotate_left
   refine' Ji3 (Jkm (pv 0) (pv 1) rfl) ?_
   rotate_left
   refine' Ji3 (Jkm (pv 0) (pv 2) rfl) ?_
   rotate_left
   refine' Ji3 (Jkm (pv 0) (pv 3) rfl) ?_
   rotate_left
   refine' Ji3 (Jkm (pv 0) (pv 4) rfl) ?_
   rotate_left
   refine' Ji3 (Jkm (pv 0) (pv 5) rfl) ?_
   rotate_left
   exact (Ji4 (Jkm (pv 0) (pv 6) rfl))
  refine ⟨_,rfl,n,rfl,nm,fun H1 s1=>⟨_,rfl,?_⟩⟩
  cases du with
  |name e=>
   rw [e]
   exact Jk0 (Jml T.Jbw T.Jbx rfl fun e dx h1 h2 h3=>k _ _ _ ((RfC.new h1 h2 h3).of s1))
  |low e1 e2=>
   rw [e1]
   exact Jj0 ⟨_,rfl,lo,0,12,rfl,tlo.same s1,.inr ⟨e2,fun c eo H' rf=>k c eo H' (rf.of s1)⟩⟩
  |high l e1 e2 e3 e4=>
   subst e2
   rw [e1]
   refine Jj0 ⟨_,rfl,_,0,12,rfl,tlo.same s1,.inl ⟨e3,?_⟩⟩
   exact ⟨_,rfl,_,rfl,hi,l,12,rfl,thi.same s1,.inr ⟨e4,fun c eo H' rf=>k c eo H' (rf.of s1)⟩⟩
  |start l h e1 e2 e3 e4 e5 e6=>
   subst e2 e3
   rw [e1]
   refine Jj0 ⟨_,rfl,_,0,12,rfl,tlo.same s1,.inl ⟨e4,?_⟩⟩
   refine ⟨_,rfl,_,rfl,_,l,12,rfl,thi.same s1,.inl ⟨e5,?_⟩⟩
   exact ⟨_,rfl,_,rfl,_,rfl,st,l,h,rfl,tst.same s1,.inr ⟨e6,fun c eo H' rf=>k c eo H' (rf.of s1)⟩⟩
  |rain l h e1 e2 e3 e4 e5 e6 e7=>
   subst e2 e3
   rw [e1]
   refine Jj0 ⟨_,rfl,_,0,12,rfl,tlo.same s1,.inl ⟨e4,?_⟩⟩
   refine ⟨_,rfl,_,rfl,_,l,12,rfl,thi.same s1,.inl ⟨e5,?_⟩⟩
   refine ⟨_,rfl,_,rfl,_,rfl,st,l,h,rfl,tst.same s1,.inl ⟨e6,?_⟩⟩
   exact ⟨_,rfl,rn,0,6,rfl,trn.same s1,.inr ⟨e7,fun c eo H' rf=>k c eo H' (rf.of s1)⟩⟩
  |gate l h e1 e2 e3 e4 e5 e6 e7 e8=>
   subst e2 e3 e8
   obtain ⟨t,ty,g1,g2,g3⟩:=gt
   rw [e1]
   refine Jj0 ⟨_,rfl,_,0,12,rfl,tlo.same s1,.inl ⟨e4,?_⟩⟩
   refine ⟨_,rfl,_,rfl,_,l,12,rfl,thi.same s1,.inl ⟨e5,?_⟩⟩
   refine ⟨_,rfl,_,rfl,_,rfl,st,l,h,rfl,tst.same s1,.inl ⟨e6,?_⟩⟩
   refine ⟨_,rfl,rn,0,6,rfl,trn.same s1,.inl ⟨e7,?_⟩⟩
   exact ⟨_,rfl,g,_,_,t,_,rfl,rfl,Jtn s1 ty,g1,_,rfl,Jk0 (Jml T.Jby T.Jbz rfl fun e dx h1 h2 h3=>k _ _ _ ((RfC.new h1 h2 h3).of s1))⟩
  |good l h e1 e2 e3 e4 e5 e6 e7 e8=>
   subst e2 e3 e8
   obtain ⟨t,ty,g1,g2,g3⟩:=gt
   rw [e1]
   refine Jj0 ⟨_,rfl,_,0,12,rfl,tlo.same s1,.inl ⟨e4,?_⟩⟩
   refine ⟨_,rfl,_,rfl,_,l,12,rfl,thi.same s1,.inl ⟨e5,?_⟩⟩
   refine ⟨_,rfl,_,rfl,_,rfl,st,l,h,rfl,tst.same s1,.inl ⟨e6,?_⟩⟩
   refine ⟨_,rfl,rn,0,6,rfl,trn.same s1,.inl ⟨e7,?_⟩⟩
   refine ⟨_,rfl,g,_,_,t,_,rfl,rfl,Jtn s1 ty,g1,_,rfl,Jj0 ?_⟩
   refine ⟨_,rfl,_,rfl,p,_,dx,[],rfl,s1 _ _ hp,T.Jct,T.Jcw,by simp,?_⟩
   rw [show Jki "name" n []=([("name",n)]:List (Str×V)) from rfl]
   refine ⟨_,rfl,_,rfl,p,_,dx,_,rfl,Ji1,T.Jct,T.Jcx,by simp,?_⟩
   rw [show Jki "low" (.int l) [("name",n)]=([("name",n),("low",(.int l))]:List (Str×V)) from Jkf (fs:=[("name",n)]) (show (["name"]:List Str).contains "low" =false by decide +kernel)]
   refine ⟨_,rfl,_,rfl,p,_,dx,_,rfl,Ji1,T.Jct,T.Jcy,by simp,?_⟩
   rw [show Jki "high" (.int h) [("name",n),("low",.int l)]=([("name",n),("low",.int l),("high",(.int h))]:List (Str×V)) from Jkf (fs:=[("name",n),("low",.int l)]) (show (["name","low"]:List Str).contains "high" =false by decide +kernel)]
   refine ⟨_,rfl,_,rfl,p,_,dx,_,rfl,Ji1,T.Jct,T.Jcz,by simp,?_⟩
   rw [show Jki "start" st [("name",n),("low",.int l),("high",.int h)]=([("name",n),("low",.int l),("high",.int h),("start",st)]:List (Str×V)) from Jkf (fs:=[("name",n),("low",.int l),("high",.int h)]) (show (["name","low","high"]:List Str).contains "start" =false by decide +kernel)]
   refine ⟨_,rfl,_,rfl,p,_,dx,_,rfl,Ji1,T.Jct,T.Jd0,by simp,?_⟩
   rw [show Jki "rain" rn [("name",n),("low",.int l),("high",.int h),("start",st)]=([("name",n),("low",.int l),("high",.int h),("start",st),("rain",rn)]:List (Str×V)) from Jkf (fs:=[("name",n),("low",.int l),("high",.int h),("start",st)]) (show (["name","low","high","start"]:List Str).contains "rain" =false by decide +kernel)]
   refine ⟨_,rfl,_,rfl,p,_,dx,_,rfl,Ji1,T.Jct,T.Jd1,by simp,?_⟩
   rw [show Jki "gate" g [("name",n),("low",.int l),("high",.int h),("start",st),("rain",rn)]=([("name",n),("low",.int l),("high",.int h),("start",st),("rain",rn),("gate",g)]:List (Str×V)) from Jkf (fs:=[("name",n),("low",.int l),("high",.int h),("start",st),("rain",rn)]) (show (["name","low","high","start","rain"]:List Str).contains "gate" =false by decide +kernel)]
   show Q .non _
   simp only [Jll]
   exact k _ s1
end
theorem Jpd:∀(ns:List Int) (lo m n:Int),Jiz lo (ns.map V.int)=true→ns.getLast?=some m→m+1≤n→n≤12→Jiz lo ((ns++ [n]).map V.int)=true
 | [],_,_,_,_,h,_,_=>by simp at h
 | [x],lo,m,n,h,hl,h1,h2=>by
  have e:x=m:=by simpa using hl
  subst e
  simp [Jiz] at h⊢
  omega
 |x::y::r,lo,m,n,h,hl,h1,h2=>by
  have hl':(y::r).getLast?=some m:=by simpa using hl
  have h':((decide (lo≤x)&&decide (x≤12))&&Jiz (x+1) ((y::r).map V.int))=true:=h
  rw [Bool.and_eq_true] at h'
  have ih:=Jpd (y::r) (x+1) m n h'.2 hl' h1 h2
  show ((decide (lo≤x)&&decide (x≤12))&&Jiz (x+1) (((y::r)++ [n]).map V.int))=true
  rw [h'.1,ih]
  rfl
theorem Jpc:∀(ns:List Int) (lo m:Int),Jiz lo (ns.map V.int)=true→ns.getLast?=some m→lo≤m∧m≤12
 | [],_,_,_,h=>by simp at h
 | [x],lo,m,h,hl=>by
  have e:x=m:=by simpa using hl
  subst e
  simpa [Jiz] using h
 |x::y::r,lo,m,h,hl=>by
  have hl':(y::r).getLast?=some m:=by simpa using hl
  have h':((decide (lo≤x)&&decide (x≤12))&&Jiz (x+1) ((y::r).map V.int))=true:=h
  rw [Bool.and_eq_true,Bool.and_eq_true,decide_eq_true_eq,decide_eq_true_eq] at h'
  have ih:=Jpc (y::r) (x+1) m h'.2 hl'
  omega
theorem Jpx {ns:List Int} {m:Int} (h:ns.getLast?=some m):atI (ns.map V.int) (-1)=some (.int m):=by
 have hl:1≤ns.length:=by cases ns <;> simp at h⊢
 have e:ixN (ns.map V.int).length (-1)=some (ns.length - 1):=by
  unfold ixN
  rw [List.length_map,if_neg (by decide),if_pos (by omega)]
  congr 1
  omega
 unfold atI
 rw [e]
 show (ns.map V.int)[ns.length - 1]?=some (.int m)
 rw [List.getElem?_map,←List.getLast?_eq_getElem?,h]
 rfl
def Yaz:Sp:=fun vs H Q _=>∃(p:Addr) (lo:Int),vs= [.ref p,.int lo]∧Strm H p∧(lo=0∨lo=1)∧∀(l:Addr) (ns:List Int) (H':Hp),H l=none→But p H H'→H' l=some (.lst (ns.map V.int))→Jk5 lo (ns.map V.int)=true→Q (.ref l) H'
section
variable {P:Program} {w:World} {K:W.Frag} {mg:Str→Option Value} {base:Heap} {a:Ad}
theorem sc_law_marks:Jia ["_law_stream_here","_law_least_here","_law_marks_here","_law_k"] ["_law_stream_here","_law_least_here"] (Ji5 (top 64)):=⟨rfl,rfl,rfl,by decide +kernel,rfl,by decide +kernel,by decide +kernel⟩
theorem Jt8 (T:Tx K mg a):FnOk P w K mg base CX0 2 a.Jgd a.Jge ["_law_stream_here","_law_least_here"] Yaz:=by
 have G__law_take:=Jk9 (P:=P) (w:=w) (base:=base) T
 refine T.Jr.fn.ok sc_law_marks (fun vs H Q E h=>?_) (fun cdv A outer s H vs Q E hr h=>?_)
 ·obtain ⟨p,lo,rfl,_⟩:=h
  rfl
 ·obtain ⟨p,lo,rfl,st,hlo,k⟩:=h
  refine ⟨_,(Ji3 (Jik (i:=2) sc_law_marks.nd rfl (Or.inl rfl) (Jiu (Ji0 (Jig Jit (pv 1) (Ji9 T.Jq G__law_take hr (by decide) (Ji0 (pv 0) (Ji0 (Jig Jkd Ji6 (pv 1)) Ji2)))) Ji2)))
   (Ji3 (Jk2 PassesOwn.never rfl (Jix (by rfl) T.Jas (Ji0 (Ji9 T.Jq G__law_take hr (by decide) (Ji0 (pv 0) (Ji0 Ji6 Ji2))) Ji2)) (Jie (i:=3) sc_law_marks.nd rfl (Or.inl rfl)) (Ji4 (Jis (Jim Jze (Jin Jiq (pv 2) (Jsb Jp5 Ji6) (fun _ _=>rfl)) Ji6 (Jio _)) (Ji4 (Jk7 (Jph F.plainAttrs_list F.slot_list_append F.type_list_append Jjx (pv 2) (Ji0 (Jig Jit (Jig Jit (Jin Jiq (pv 2) (Jsb Jp5 Ji6) (fun _ _=>rfl)) Ji6) (Ji9 T.Jq G__law_take hr (by decide) (Ji0 (pv 0) (Ji0 (Jig Jkd Ji6 (Jin Jiq (pv 2) (Jsb Jp5 Ji6) (fun _ _=>rfl))) Ji2)))) Ji2)))) Jih)))
   (Ji4 (Jib (pv 2))))),?_⟩
  have hm:(0:Int) < 13 - lo∧(13 - lo).natAbs.log2 < 9000:=by rcases hlo with rfl|rfl <;> decide
  refine ⟨_,rfl,_,rfl,_,rfl,_,_,rfl,rfl,p,13 - lo,rfl,st,hm.1,hm.2,fun r H1 r0 r1 b1=>⟨_,_,rfl,rfl,(show 1≤sizeLine by decide),fun l hl=>?_⟩⟩
  have hl0:H l=none:=But.free st b1 hl
  have nlp:l≠p:=st.ne hl0
  have b1':But p H (upd H1 l (.lst [.int (lo+r)])):=b1.updD hl0 nlp
  refine ⟨_,rfl,p,4,rfl,b1'.2,by decide,by decide,fun j H2 j0 j1 b2=>⟨j,rfl,by omega,by omega,?_⟩⟩
  refine Jjw (fun i σ H'=>∃(o:Option V) (ns:List Int) (m:Int),σ= [some (.ref p),some (.int lo),some (.ref l),o]∧But p H H'∧H' l=some (.lst (ns.map V.int))∧Jiz lo (ns.map V.int)=true∧ns.getLast?=some m∧ns.length≤i+1)
   ⟨_,[lo+r],lo+r,rfl,b1'.trans b2,b2.1 _ _ nlp Ji1,?_,rfl,by simp⟩ ?_ ?_
  ·simp [Jiz]
   omega
  ·rintro i σ H3 hi ⟨o,ns,m,rfl,b3,h3,hmk,hla,hle⟩
   have hb:=Jpc ns lo m hmk hla
   refine ⟨_,rfl,_,rfl,l,_,-1,_,rfl,rfl,SqL.of h3,Jpx hla,_,_,rfl,rfl,_,rfl,Jl9 (fun q=>?_) (fun q=>?_)⟩
   ·have q':m < 12:=of_decide_eq_true q
    refine ⟨_,rfl,.inl ⟨rfl,_,SqL.of h3⟩,_,rfl,_,rfl,l,_,-1,_,rfl,rfl,SqL.of h3,Jpx hla,_,_,rfl,rfl,_,rfl,_,rfl,_,rfl,l,_,-1,_,rfl,rfl,SqL.of h3,Jpx hla,_,_,rfl,rfl,p,12 - m,rfl,b3.2,by omega,?_,fun r' H4 s0 s1 b4=>?_⟩
    ·have:(12 - m).natAbs≤12:=by rcases hlo with rfl|rfl <;> omega
     exact Nat.lt_of_le_of_lt (Nat.log2_le_self _) (by omega)
    ·have h4:=b4.1 _ _ nlp h3
     refine ⟨_,_,rfl,rfl,l,_,_,rfl,rfl,h4,by rw [List.length_map];exact Jii (by omega),?_⟩
     refine ⟨_,ns++ [m+1+r'],m+1+r',rfl,?_,?_,Jpd ns lo m _ hmk hla (by omega) (by omega),by simp,by simp;omega⟩
     ·refine ⟨fun b o nb e=>?_,?_⟩
      ·rw [Ji7 (Ji8 e hl0)]
       exact b4.1 _ _ nb (b3.1 _ _ nb e)
      ·obtain ⟨x,y,z,q⟩:=b4.2
       exact ⟨x,y,z,by rw [Ji7 (Ne.symm nlp)];exact q⟩
     ·rw [Ji1]
      simp
   ·exact ⟨_,ns,m,rfl,b3,h3,hmk,hla,by omega⟩
  ·rintro σ H3 ⟨o,ns,m,rfl,b3,h3,hmk,hla,hle⟩
   refine ⟨_,rfl,k l ns H3 hl0 b3 h3 ?_⟩
   have hn:1≤ns.length:=by cases ns <;> simp at hla⊢
   unfold Jk5
   rw [hmk,Bool.and_true,List.length_map]
   exact decide_eq_true (by omega)
end
structure Jlq where
 kd:Str
 ns:List Int
 sv:Option Int
structure GGood (G:Jlq):Prop where
 kd:Knd G.kd
 ns:Jk5 (Jl3 G.kd) (G.ns.map V.int)=true
 sv:∀i,G.sv=some i→0≤i∧i < G.ns.length
theorem GGood.len {G:Jlq} (h:GGood G):1≤G.ns.length∧G.ns.length≤4:=by
 have q:=h.ns
 unfold Jk5 at q
 rw [Bool.and_eq_true,decide_eq_true_eq,List.length_map] at q
 exact q.1
def nOf (G:Jlq):Nat:=match G.sv with
 |some _=>1
 |none=>G.ns.length
def GX (a:Ad) (H:Hp) (x:V) (G:Jlq):Prop:=∃(g:Addr),GateAt (cOf a G.kd) H g (G.ns.map V.int)∧match G.sv with
 |none=>x= .ref g
 |some _=>False
theorem GX.same {a:Ad} {H H':Hp} {x:V} {G:Jlq} (s:Same H H') (h:GX a H x G):GX a H' x G:=by
 obtain ⟨g,ga,r⟩:=h
 refine ⟨g,ga.same s,?_⟩
 cases e:G.sv with
 |none=>rw [e] at r;exact r
 |some j=>
  rw [e] at r
  exact r.elim
theorem GX.gs {K:W.Frag} {a:Ad} {H:Hp} {x:V} {G:Jlq} (gg:GGood G) (h:GX a H x G):GS K a H x (nOf G):=by
 obtain ⟨g,ga,r⟩:=h
 unfold nOf
 cases e:G.sv with
 |none=>
  rw [e] at r
  subst r
  have q:=GS.plain (K:=K) cOf_is ga (by rw [List.length_map];exact gg.len.2)
  rw [List.length_map] at q
  exact q
 |some j=>
  rw [e] at r
  exact r.elim
theorem Jz9 {i:Int} (h:i.natAbs≤1000):i.natAbs.log2 < 9000:=Nat.lt_of_le_of_lt (Nat.log2_le_self _) (by omega)
theorem ifF {b:Bool} {A B:Prop} (h:b=false) (k:B):if b=true then A else B:=by rw [h];exact Jj0 k
theorem ifT {b:Bool} {A B:Prop} (h:b=true) (k:A):if b=true then A else B:=by rw [h];exact Jk0 k
section
variable {P:Program} {w:World} {K:W.Frag} {mg:Str→Option Value} {base:Heap} {a:Ad}
theorem Jtk {H:Hp} {ns:List Int} {y:V} (h:y∈ns.map V.int):Tm K H y:=by
 obtain ⟨i,_,rfl⟩:=List.mem_map.mp h
 exact .inl ⟨i,rfl⟩
theorem Jq8 {C:Addr} {lo:Int} {x:V} {H:Hp} {Q1:Hp→Prop} {E:XK} {g dx:Addr} (c:Cls K C) (n:NoAttr K C "marks") (hg:H g=none) (hd:H dx=none) (ne:dx≠g)
  (h:∃xs,Sq H x xs∧(∀y∈xs,Tm K H y)∧Jk5 lo xs=true∧∀H',Same H H'→GateAt C H' g xs→Q1 H'):
  Jtj K a lo [.ref g,x] (upd (upd H dx (.own g)) g (.ins C dx [])) (fun v H2=>v= .non∧Q1 H2) E:=by
 have s1:Same H (upd (upd H dx (.own g)) g (.ins C dx [])):=fun b o e=>by rw [Ji7 (Ji8 e hg),Ji7 (Ji8 e hd)];exact e
 refine ⟨g,C,dx,x,rfl,Ji1,c,n,?_⟩
 obtain ⟨xs,sq,tms,e,k⟩:=h
 refine .inl ⟨xs,sq.same s1,fun y hy=>(tms y hy).same s1,e,fun t H' s' ht=>⟨rfl,?_⟩⟩
 have ng:t≠g:=ne_of ht (s' _ _ Ji1) (by intro z;cases z)
 exact k _ (fun b o e=>by rw [Ji7 (Ji8 e hg)];exact s' _ _ (s1 _ _ e)) ⟨dx,t,Ji1,by rw [Ji7 ng];exact ht⟩
end
def Jo3 (kd:Str) (m lv:Int):Int:=if kd=("step" :Str) then (if lv < m then lv else m) else if kd=("flap" :Str) then (if 0 > lv - m then 0 else lv - m) else lv/m
def lvG (G:Jlq) (s lv:Int):Int:=Jo3 G.kd (G.ns.getD (match G.sv with|some j=>j|none=>s).toNat 0) lv
def Jw0 (C:Addr) (lo:Int) (f:Int→Int→Int):Sp:=fun vs H Q _=>∃(g:Addr) (ns:List Int) (s lv:Int),vs= [.ref g,.int s,.int lv]∧GateAt C H g (ns.map V.int)∧(0≤s∧s < ns.length)∧(∀n∈ns,lo≤n∧n≤12)∧(0≤lv∧lv≤1000)∧Q (.int (f (ns.getD s.toNat 0) lv)) H
theorem Jkp {ns:List Int} {s:Int} (h:0≤s∧s < ns.length):atI (ns.map V.int) s=some (.int (ns.getD s.toNat 0))∧ns.getD s.toNat 0∈ns:=by
 obtain ⟨i,rfl⟩:=Int.eq_ofNat_of_zero_le h.1
 have hi:i < ns.length:=by omega
 have e:ns.getD (i:Int).toNat 0=ns[i]:=by simp [List.getD_eq_getElem?_getD,hi]
 rw [e]
 exact ⟨Jwo hi,List.getElem_mem hi⟩
section
variable {P:Program} {w:World} {K:W.Frag} {mg:Str→Option Value} {base:Heap} {a:Ad}
theorem Jnw:Jia ["self","setting","level"] ["self","setting","level"] (Ji5 (Jid (top 43) 2)):=⟨rfl,rfl,rfl,by decide +kernel,rfl,by decide +kernel,by decide +kernel⟩
theorem Jnj (T:Tx K mg a):FnOk P w K mg base CX0 1 a.Jff a.Jfg ["self","setting","level"] (Jw0 a.Jhs 0 fun m lv=>if lv < m then lv else m):=by
 refine T.Jbm.fn.ok Jnw (fun vs H Q E h=>?_) (fun cdv A outer s H vs Q E hr h=>?_)
 ·obtain ⟨g,ns,s,lv,rfl,_⟩:=h
  rfl
 ·obtain ⟨g,ns,s,lv,rfl,⟨dx,t,hg,ht⟩,hs,hn,hl,k⟩:=h
  obtain ⟨hat,hin⟩:=Jkp hs
  refine ⟨?t,?B,?C⟩
  case B=>
   refine' Ji4 ?s1
   case s1=>
    exact (Jib (Jic (Jmw rfl) (by rfl) T.Jar Jso (Ji0 (Jin Jj9 (Jjq (pv 0) (by rfl)) (pv 1) (fun _ _=>rfl)) (Ji0 (pv 2) Ji2))))
  exact ⟨_,rfl,g,_,dx,_,_,rfl,hg,T.Jc8,T.Jce,rfl,_,rfl,t,_,_,_,rfl,rfl,SqT.of ht,hat,_,rfl,_,_,rfl,k⟩
theorem Jnr:Jia ["self","setting","level"] ["self","setting","level"] (Ji5 (Jid (top 44) 2)):=⟨rfl,rfl,rfl,by decide +kernel,rfl,by decide +kernel,by decide +kernel⟩
theorem Jng (T:Tx K mg a):FnOk P w K mg base CX0 1 a.Jfl a.Jfm ["self","setting","level"] (Jw0 a.Jht 0 fun m lv=>if 0 > lv - m then 0 else lv - m):=by
 refine T.Jbp.fn.ok Jnr (fun vs H Q E h=>?_) (fun cdv A outer s H vs Q E hr h=>?_)
 ·obtain ⟨g,ns,s,lv,rfl,_⟩:=h
  rfl
 ·obtain ⟨g,ns,s,lv,rfl,⟨dx,t,hg,ht⟩,hs,hn,hl,k⟩:=h
  obtain ⟨hat,hin⟩:=Jkp hs
  refine ⟨?t,?B,?C⟩
  case B=>
   refine' Ji4 ?s1
   case s1=>
    exact (Jib (Jic (Jl6 rfl) (by rfl) T.Jaq Jom (Ji0 (Jig Jkd (pv 2) (Jin Jj9 (Jjq (pv 0) (by rfl)) (pv 1) (fun _ _=>rfl))) (Ji0 Ji6 Ji2))))
  exact ⟨_,rfl,_,rfl,g,_,dx,_,_,rfl,hg,T.Jcf,T.Jcl,rfl,_,rfl,t,_,_,_,rfl,rfl,SqT.of ht,hat,_,_,rfl,rfl,_,_,rfl,k⟩
theorem Jnu:Jia ["self","setting","level"] ["self","setting","level"] (Ji5 (Jid (top 45) 2)):=⟨rfl,rfl,rfl,by decide +kernel,rfl,by decide +kernel,by decide +kernel⟩
theorem Jnh (T:Tx K mg a):FnOk P w K mg base CX0 1 a.Jfr a.Jfs ["self","setting","level"] (Jw0 a.Jhu 1 fun m lv=>lv/m):=by
 refine T.Jbs.fn.ok Jnu (fun vs H Q E h=>?_) (fun cdv A outer s H vs Q E hr h=>?_)
 ·obtain ⟨g,ns,s,lv,rfl,_⟩:=h
  rfl
 ·obtain ⟨g,ns,s,lv,rfl,⟨dx,t,hg,ht⟩,hs,hn,hl,k⟩:=h
  obtain ⟨hat,hin⟩:=Jkp hs
  refine ⟨?t,?B,?C⟩
  case B=>
   refine' Ji4 ?s1
   case s1=>
    exact (Jib (Jig Jlv (pv 2) (Jin Jj9 (Jjq (pv 0) (by rfl)) (pv 1) (fun _ _=>rfl))))
  have hm:=hn _ hin
  refine ⟨_,rfl,_,rfl,g,_,dx,_,_,rfl,hg,T.Jcm,T.Jcs,rfl,_,rfl,t,_,_,_,rfl,rfl,SqT.of ht,hat,?_⟩
  exact ⟨_,_,rfl,rfl,⟨by omega,Jz9 (by omega)⟩,k⟩
theorem Js4:∀{ns:List Int} {lo:Int},Jiz lo (ns.map V.int)=true→∀n∈ns,lo≤n∧n≤12
 | [],_,_=>fun _ h=>nomatch h
 |x::r,lo,h=>by
  have h':((decide (lo≤x)&&decide (x≤12))&&Jiz (x+1) (r.map V.int))=true:=h
  rw [Bool.and_eq_true,Bool.and_eq_true,decide_eq_true_eq,decide_eq_true_eq] at h'
  intro n hn
  rcases List.mem_cons.mp hn with rfl|hn
  ·exact h'.1
  ·have:=Js4 h'.2 n hn
   omega
theorem GGood.marks {G:Jlq} (h:GGood G):∀n∈G.ns,Jl3 G.kd≤n∧n≤12:=by
 have q:(decide (1≤(G.ns.map V.int).length∧(G.ns.map V.int).length≤4)&&Jiz (Jl3 G.kd) (G.ns.map V.int))=true:=h.ns
 rw [Bool.and_eq_true] at q
 exact Js4 q.2
theorem Jud {H:Hp} {g:Addr} {kd:Str} {ns:List Int} {s lv:Int} {Q:VK} (T:Tx K mg a) (hk:Knd kd) (ga:GateAt (cOf a kd) H g (ns.map V.int)) (hs:0≤s∧s < ns.length) (hn:∀n∈ns,Jl3 kd≤n∧n≤12) (hl:0≤lv∧lv≤1000) (k:Q (.int (Jo3 kd (ns.getD s.toNat 0) lv)) H):
  ∃C dx fs f fd ps sp,H g=some (.ins C dx fs)∧fs.lookup ("passes" :Str)=none∧Cls K C∧Jku K C "passes" f∧FnOk P w K mg base CX0 1 f fd ps sp∧Binds K fd ps []∧sp [.ref g,.int s,.int lv] H Q E0:=by
 obtain ⟨dx,t,h1,h2⟩:=id ga
 rcases hk with rfl|rfl|rfl
 ·have e2:cOf a "step" =a.Jhs:=if_pos rfl
  rw [e2] at h1 ga
  exact ⟨_,dx,_,_,_,_,_,h1,rfl,T.Jc8,T.Jcd,Jnj T,T.Jbm.bd,g,ns,s,lv,rfl,ga,hs,hn,hl,k⟩
 ·have e2:cOf a "flap" =a.Jht:=by unfold cOf;rw [if_neg Jqf,if_pos rfl]
  rw [e2] at h1 ga
  have ek:Jo3 "flap" (ns.getD s.toNat 0) lv=(if 0 > lv - ns.getD s.toNat 0 then 0 else lv - ns.getD s.toNat 0):=by unfold Jo3;rw [if_neg Jqf,if_pos rfl]
  rw [ek] at k
  exact ⟨_,dx,_,_,_,_,_,h1,rfl,T.Jcf,T.Jck,Jng T,T.Jbp.bd,g,ns,s,lv,rfl,ga,hs,hn,hl,k⟩
 ·have e2:cOf a "part" =a.Jhu:=by unfold cOf;rw [if_neg Js6,if_neg Js5]
  rw [e2] at h1 ga
  have ek:Jo3 "part" (ns.getD s.toNat 0) lv=lv/ns.getD s.toNat 0:=by unfold Jo3;rw [if_neg Js6,if_neg Js5]
  rw [ek] at k
  exact ⟨_,dx,_,_,_,_,_,h1,rfl,T.Jcm,T.Jcr,Jnh T,T.Jbs.bd,g,ns,s,lv,rfl,ga,hs,hn,hl,k⟩
theorem GX.passes {H:Hp} {x:V} {G:Jlq} {s lv:Int} {Q:VK} (T:Tx K mg a) (gg:GGood G) (gx:GX a H x G) (hs:0≤s∧s < (nOf G:Int)) (hl:0≤lv∧lv≤1000) (k:Q (.int (lvG G s lv)) H):
  ∃o C dx fs f fd ps sp k',x= .ref o∧H o=some (.ins C dx fs)∧fs.lookup ("passes" :Str)=none∧Cls K C∧Jku K C "passes" f∧FnOk P w K mg base CX0 k' f fd ps sp∧k'≤2∧Binds K fd ps []∧sp [x,.int s,.int lv] H Q E0:=by
 obtain ⟨g,ga,r⟩:=gx
 unfold lvG at k
 unfold nOf at hs
 cases e:G.sv with
 |none=>
  rw [e] at r k hs
  subst r
  obtain ⟨C,dx',fs,f,fd,ps,sp,h1,h2,c,m,ok,bd,hsp⟩:=Jud (P:=P) (w:=w) (base:=base) (Q:=Q) T gg.kd ga hs gg.marks hl k
  exact ⟨g,C,dx',fs,f,fd,ps,sp,1,rfl,h1,h2,c,m,ok,by decide,bd,hsp⟩
 |some j=>
  rw [e] at r
  exact r.elim
def Y8 (a:Ad):Sp:=fun vs H Q _=>∃(x:V) (G:Jlq) (s lv:Int),vs= [x,.int s,.int lv]∧GX a H x G∧GGood G∧(0≤s∧s < (nOf G:Int))∧(0≤lv∧lv≤1000)∧Q (.int (lvG G s lv)) H
theorem Jmo:Jia ["self","thing"] ["self","thing"] (Ji5 (Jid (top 9) 0)):=⟨rfl,rfl,rfl,by decide +kernel,rfl,by decide +kernel,by decide +kernel⟩
theorem Jov (T:Tx K mg a):FnOk P w K mg base CX0 1 a.Je1 a.Je2 ["self","thing"] (Jm5 K "thing"):=by
 refine T.Jbh.fn.ok Jmo (fun vs H Q E h=>?_) (fun cdv A outer s H vs Q E hr h=>?_)
 ·obtain ⟨e,C,W,fI,y,rfl,_⟩:=h
  rfl
 ·obtain ⟨e,C,W,fI,y,rfl,q,c,n,k⟩:=h
  refine ⟨_,(Ji4 (Jm4 (pv 0) (pv 1) rfl)),?_⟩
  exact ⟨_,rfl,_,rfl,e,C,W,fI,true,rfl,q,c,n,k⟩
theorem Jtg:Jia ["self","setting","level"] ["self","setting","level"] (Ji5 (Jid (top 42) 0)):=⟨rfl,rfl,rfl,by decide +kernel,rfl,by decide +kernel,by decide +kernel⟩
theorem Jm3 (T:Tx K mg a):FnOk P w K mg base (CXX P w) 3 a.Jf9 a.Jfa ["self","setting","level"] (Y8 a):=by
 have G_is_whole:=Jky (P:=P) (w:=w) (base:=base) T
 have G_NoGate___init__:=Jlb (P:=P) (w:=w) (base:=base) T
 have G_NoNumber___init__:=Jov (P:=P) (w:=w) (base:=base) T
 refine T.Jbj.fn.okX Jtg (fun vs H Q E h=>?_) (fun cdv A outer s H vs Q E hr h=>?_)
 ·obtain ⟨x,G,s,lv,rfl,_⟩:=h
  rfl
 ·obtain ⟨x,G,s,lv,rfl,gx,gg,hs,hl,k⟩:=h
  refine ⟨?t,?B,?C⟩
  case B=>
   refine' Ji3 ?s1 ?r1
   case s1=>
    refine' Jis ?c2 ?a2 ?b2
    case c2=>
     exact (Jj4 (Jiv (Ji9 T.J0 G_is_whole hr (by decide) (Ji0 (pv 1) (Ji0 Ji6 (Ji0 (Jig Jkd (Jp1 (pv 0) hr) Ji6) Ji2))))))
    case a2=>
     refine' Ji4 ?s3
     case s3=>
      exact (Jju Jjr rfl (Jlc T.Jby G_NoGate___init__ hr (by decide) T.Jbd.bd T.Jaz (Ji0 (pv 1) Ji2)))
    case b2=>
     exact Jih
   case r1=>
    refine' Ji3 ?s6 ?r6
    case s6=>
     refine' Jis ?c7 ?a7 ?b7
     case c7=>
      exact (Jj4 (Jiv (Ji9 T.J0 G_is_whole hr (by decide) (Ji0 (pv 2) (Ji0 Ji6 (Ji0 (Jjh (by rfl) T.Jab (v:=.int 1000) ⟨_,rfl⟩) Ji2))))))
     case a7=>
      refine' Ji4 ?s8
      case s8=>
       exact (Jju Jjr rfl (Jlc T.Jc4 G_NoNumber___init__ hr (by decide) T.Jbh.bd T.Jb3 (Ji0 (pv 2) Ji2)))
     case b7=>
      exact Jih
    case r6=>
     refine' Ji4 ?s11
     case s11=>
      exact (Jib (Jqo (pv 0) hr (Ji0 (pv 1) (Ji0 (pv 2) Ji2))))
  have gs:GS K a H x (nOf G):=gx.gs gg
  obtain ⟨o,C,dx',fs,f,fd,ps,sp,k',rfl,h1,h2,c,m,ok,hk,bd,hsp⟩:=gx.passes (P:=P) (w:=w) (base:=base) (Q:=Q) T gg hs hl k
  refine ⟨_,rfl,_,rfl,Jnb T gs ⟨_,_,rfl,rfl,.int s,0,(nOf G:Int) - 1,rfl,.inl ⟨s,rfl⟩,_,rfl,ifF (by simp [Jiw];omega) ?_⟩ (by decide)⟩
  refine ⟨_,rfl,.int lv,0,1000,rfl,.inl ⟨lv,rfl⟩,_,rfl,ifF (by simp [Jiw];omega) ?_⟩
  exact ⟨_,rfl,o,C,dx',fs,f,fd,ps,sp,k',rfl,h1,h2,c,m,ok,hk,bd,_,rfl,_,rfl,hsp⟩
end
def oV:Option Int→V
 |none=>.non
 |some i=>.int i
def okE (lost:List (Option Int)):Option Int→Bool
 |none=>false
 |some i=>(lost.getD i.toNat none).isNone
def Juk (ends lost:List (Option Int)):Bool:=ends.all (okE lost)
def spSafe:Sp:=fun vs H Q _=>∃(L M:Addr) (ends lost:List (Option Int)),vs= [.ref L,.ref M]∧H L=some (.lst (ends.map oV))∧H M=some (.lst (lost.map oV))∧(∀i,some i∈ends→0≤i∧i < lost.length)∧ends.length≤100∧
 ∀H',Same H H'→Q (.bl (Juk ends lost)) H'
def spProm (K:W.Frag):Sp:=fun vs H Q _=>∃x:V,vs= [x]∧Tm K H x∧Q (.bl (Jiw x 0 12)) H
theorem Jt2 (o:Option Int):decide (oV o= .non)=o.isNone:=by
 cases o with
 |none=>rfl
 |some z=>simp [oV]
theorem oV_at {l:List (Option Int)} {i:Int} (h:0≤i∧i < l.length):atI (l.map oV) i=some (oV (l.getD i.toNat none)):=by
 obtain ⟨k,rfl⟩:=Int.eq_ofNat_of_zero_le h.1
 have hk:k < l.length:=by omega
 refine Jjv ?_
 rw [List.getElem?_map,List.getElem?_eq_getElem hk]
 simp [List.getD_eq_getElem?_getD,hk]
section
variable {P:Program} {w:World} {K:W.Frag} {mg:Str→Option Value} {base:Heap} {a:Ad}
theorem Jqv:Jia ["thing"] ["thing"] (Ji5 (top 22)):=⟨rfl,rfl,rfl,by decide +kernel,rfl,by decide +kernel,by decide +kernel⟩
theorem Jqk (T:Tx K mg a):FnOk P w K mg base CX0 2 a.Jef a.Jeg ["thing"] (spProm K):=by
 have G_is_whole:=Jky (P:=P) (w:=w) (base:=base) T
 refine T.J5.fn.ok Jqv (fun vs H Q E h=>?_) (fun cdv A outer s H vs Q E hr h=>?_)
 ·obtain ⟨x,rfl,_⟩:=h
  rfl
 ·obtain ⟨x,rfl,tx,k⟩:=h
  refine ⟨_,(Ji4 (Jib (Ji9 T.J0 G_is_whole hr (by decide) (Ji0 (pv 0) (Ji0 Ji6 (Ji0 (Jjh (by rfl) T.Ja8 (v:=.int 12) ⟨_,rfl⟩) Ji2)))))),?_⟩
  exact ⟨_,rfl,x,0,12,rfl,tx,k⟩
theorem Jvw:Jia ["ends","lost"] ["ends","lost"] (Ji5 (top 19)):=⟨rfl,rfl,rfl,by decide +kernel,rfl,by decide +kernel,by decide +kernel⟩
theorem Jql (T:Tx K mg a):FnOk P w K mg base CX0 1 a.Jed a.Jee ["ends","lost"] spSafe:=by
 refine T.J4.fn.ok Jvw (fun vs H Q E h=>?_) (fun cdv A outer s H vs Q E hr h=>?_)
 ·obtain ⟨L,M,ends,lost,rfl,_⟩:=h
  rfl
 ·obtain ⟨L,M,ends,lost,rfl,hL,hM,hb,hn,k⟩:=h
  refine ⟨_,(Ji4 (Jib (Jic (Jlr rfl) (by rfl) T.Jah Jol (Ji0 (Jj2 (N:=(["end","lost"]:List Str)) (ini:=[none,some 1]) rfl (Jj7 (pv 0)) (fun _ _ _ _ _=>(Jie (i:=0) (by decide +kernel:(["end","lost"]:List Str).Nodup) rfl (Or.inl rfl))) (fun _ _ _ _ _=>Jj3) (fun _ _ _ _ _=>(Jvq (Jk6 Jtc (pv 0) Jk1 (Jio _)) (Jvr (Jk6 Joz (Jin (Jlt (K:=K) rfl) (pv 1) (pv 0) (fun _ _=>rfl)) Jk1 (Jio _)))))) Ji2)))),?_⟩
  refine ⟨_,rfl,L,rfl,⟨_,SqL.of hL⟩,fun D hD=>?_⟩
  refine Jlz ((ends.map (okE lost)).map V.bl) hD (by simp) (by simp;omega) hL ?_ ?_
  ·intro i x y H' Q' hx hy sm k'
   rw [List.getElem?_map,Option.map_eq_some_iff] at hx hy
   obtain ⟨e,he,rfl⟩:=hx
   obtain ⟨c,hc,rfl⟩:=hy
   rw [List.getElem?_map,he] at hc
   obtain rfl:okE lost e=c:=by simpa using hc
   cases e with
   |none=>exact ⟨_,rfl,rfl,false,rfl,Jj0 (k' _ (Same.refl _))⟩
   |some j=>
    have hj:=hb j (List.mem_of_getElem? he)
    refine ⟨_,rfl,rfl,true,rfl,Jk0 ?_⟩
    refine ⟨_,rfl,_,rfl,M,_,j,_,rfl,rfl,SqL.of (sm _ _ hM),oV_at hj,rfl,?_⟩
    rw [Jt2]
    exact k' _ (Same.refl _)
  ·intro H' sm hDs
   refine ⟨D,ends.map (okE lost),rfl,SqL.of hDs,?_⟩
   have e:(ends.map (okE lost)).all id=Juk ends lost:=by
    unfold Juk
    rw [List.all_map]
    rfl
   rw [e]
   exact k _ sm
end
structure BTd where
 z:Str
 lo:Int
 hi:Int
 st:Int
 rn:Int
 G:Jlq
structure BGd (B:BTd):Prop where
 lo:0≤B.lo∧B.lo≤B.hi
 hi:B.hi≤12
 rn:0≤B.rn∧B.rn≤6
 G:GGood B.G
def BX (a:Ad) (H:Hp) (o:Addr) (B:BTd):Prop:=∃dx g,H o=some (.ins a.Jhv dx (basF (.str B.z) (.int B.lo) (.int B.hi) (.int B.st) (.int B.rn) g))∧GX a H g B.G
theorem BX.same {a:Ad} {H H':Hp} {o:Addr} {B:BTd} (s:Same H H') (h:BX a H o B):BX a H' o B:=let ⟨dx,g,h1,h2⟩:=h;⟨dx,g,s _ _ h1,h2.same s⟩
def Jqc (B:BTd):List Int:=(List.range (B.hi+1 - B.lo).toNat).map fun k:Nat=>B.lo+k
def Jlg (B:BTd) (e:Int):Option Int:=if B.lo≤e∧e≤B.hi then some (e - B.lo) else none
def Jkx (B:BTd) (up lv s:Int):List (Option Int):=(List.range (up+B.rn+1).toNat).map fun c:Nat=>Jlg B (lv - lvG B.G s lv+c)
def Y9 (a:Ad):Sp:=fun vs H Q _=>∃(o:Addr) (B:BTd),vs= [.ref o]∧BX a H o B∧BGd B∧∀l H',Same H H'→H' l=some (.lst ((Jqc B).map V.int))→Q (.ref l) H'
def spEnds (a:Ad):Sp:=fun vs H Q _=>∃(o:Addr) (B:BTd) (up lv s:Int),vs= [.ref o,.int up,.int lv,.int s]∧BX a H o B∧BGd B∧(0≤up∧up≤12)∧(0≤lv∧lv≤12)∧(0≤s∧s < (nOf B.G:Int))∧
 ∀l H',Same H H'→H' l=some (.lst ((Jkx B up lv s).map oV))→Q (.ref l) H'
section
variable {P:Program} {w:World} {K:W.Frag} {mg:Str→Option Value} {base:Heap} {a:Ad}
theorem GX.lets {H:Hp} {x:V} {G:Jlq} {s lv:Int} (T:Tx K mg a) (gg:GGood G) (gx:GX a H x G) (hs:0≤s∧s < (nOf G:Int)) (hl:0≤lv∧lv≤1000):
  ∃o C dx fs f fd ps sp k',x= .ref o∧H o=some (.ins C dx fs)∧fs.lookup ("lets" :Str)=none∧Cls K C∧Jku K C "lets" f∧FnOk P w K mg base CX0 k' f fd ps sp∧k'≤3∧Binds K fd ps []∧∀Q:VK,Q (.int (lvG G s lv)) H→sp [x,.int s,.int lv] H Q E0:=by
 have sp:∀Q:VK,Q (.int (lvG G s lv)) H→Y8 a [x,.int s,.int lv] H Q E0:=fun Q k=>⟨x,G,s,lv,rfl,gx,gg,hs,hl,k⟩
 obtain ⟨g,ga,r⟩:=gx
 obtain ⟨dx,t,h1,h2⟩:=id ga
 cases e:G.sv with
 |none=>
  rw [e] at r
  subst r
  rcases gg.kd with q|q|q
  ·rw [q,show cOf a "step" =a.Jhs from if_pos rfl] at h1
   exact ⟨g,_,dx,_,_,_,_,_,3,rfl,h1,rfl,T.Jc8,T.Jcb,(Jm3 T).calm,by decide,T.Jbj.bd,sp⟩
  ·rw [q,show cOf a "flap" =a.Jht by unfold cOf;rw [if_neg Jqf,if_pos rfl]] at h1
   exact ⟨g,_,dx,_,_,_,_,_,3,rfl,h1,rfl,T.Jcf,T.Jci,(Jm3 T).calm,by decide,T.Jbj.bd,sp⟩
  ·rw [q,show cOf a "part" =a.Jhu by unfold cOf;rw [if_neg Js6,if_neg Js5]] at h1
   exact ⟨g,_,dx,_,_,_,_,_,3,rfl,h1,rfl,T.Jcm,T.Jcp,(Jm3 T).calm,by decide,T.Jbj.bd,sp⟩
 |some j=>
  rw [e] at r
  exact r.elim
theorem Jth:Jia ["basin"] ["basin"] (Ji5 (top 23)):=⟨rfl,rfl,rfl,by decide +kernel,rfl,by decide +kernel,by decide +kernel⟩
theorem Jtb (T:Tx K mg a):FnOk P w K mg base CX0 1 a.Jeh a.Jei ["basin"] (Y9 a):=by
 refine T.J6.fn.ok Jth (fun vs H Q E h=>?_) (fun cdv A outer s H vs Q E hr h=>?_)
 ·obtain ⟨o,B,rfl,_⟩:=h
  rfl
 ·obtain ⟨o,B,rfl,⟨dx,g,ho,gx⟩,bg,k⟩:=h
  have b1:=bg.lo
  have b2:=bg.hi
  refine ⟨_,(Ji4 (Jib (Jj6 (Jr5 rfl) (by rfl) T.Jap Jmu (Ji0 (Jj6 Jx2 (by rfl) T.Jas Jyf (Ji0 (Jjq (pv 0) (by rfl)) (Ji0 (Jig Jit (Jjq (pv 0) (by rfl)) Ji6) Ji2))) Ji2)))),?_⟩
  refine ⟨_,rfl,o,_,dx,_,_,rfl,ho,T.Jct,T.Jcx,rfl,_,rfl,o,_,dx,_,_,rfl,ho,T.Jct,T.Jcy,rfl,_,_,rfl,rfl,_,_,rfl,fun p hp=>?_⟩
  refine ⟨p,_,_,rfl,Ji1,by omega,by omega,by omega,by omega,fun l hl=>?_⟩
  refine k l _ ((Same.upd hp).trans (Same.upd hl)) ?_
  rw [Ji1]
  unfold Jqc
  rw [List.map_map]
  rfl
theorem sc_ends_alone:Jia ["basin","up","level","setting","left","ends"] ["basin","up","level","setting"] (Ji5 (top 24)):=⟨rfl,rfl,rfl,by decide +kernel,rfl,by decide +kernel,by decide +kernel⟩
theorem Jrc (T:Tx K mg a):FnOk P w K mg base CX0 4 a.Jej a.Jek ["basin","up","level","setting"] (spEnds a):=by
 refine T.J7.fn.ok sc_ends_alone (fun vs H Q E h=>?_) (fun cdv A outer s H vs Q E hr h=>?_)
 ·obtain ⟨o,B,up,lv,s,rfl,_⟩:=h
  rfl
 ·obtain ⟨o,B,up,lv,s,rfl,bx,bg,hup,hlv,hs,k⟩:=h
  obtain ⟨dx,g,ho,gx⟩:=id bx
  have b1:=bg.lo
  have b2:=bg.hi
  have b3:=bg.rn
  refine ⟨?t,?B,?C⟩
  case B=>
   refine' Ji3 ?s1 ?r1
   case s1=>
    exact (Jik (i:=4) sc_ends_alone.nd rfl (Or.inr rfl) (Jig Jkd (pv 2) (Jqo (Jjq (pv 0) (by rfl)) hr (Ji0 (pv 3) (Ji0 (pv 2) Ji2)))))
   case r1=>
    refine' Ji3 ?s3 ?r3
    case s3=>
     exact (Jks (i:=5) (N:=(["cubes","left"]:List Str)) (ini:=[none,some 4]) sc_ends_alone.nd rfl (Or.inl rfl) rfl (Jix (by rfl) T.Jas (Ji0 (Jig Jit (Jig Jit (pv 1) (Jjq (pv 0) (by rfl))) Ji6) Ji2)) (fun _ _ _ _ _=>(Jie (i:=0) (by decide +kernel:(["cubes","left"]:List Str).Nodup) rfl (Or.inl rfl))) (fun _ _ _ _ _=>Jj3) (fun _ _ _ _ _=>(Jig Jit (pv 1) (pv 0))))
    case r3=>
     refine' Ji4 ?s5
     case s5=>
      exact (Jib (Jj2 (N:=(["end","basin"]:List Str)) (ini:=[none,some 0]) rfl (Jj7 (pv 5)) (fun _ _ _ _ _=>(Jie (i:=0) (by decide +kernel:(["end","basin"]:List Str).Nodup) rfl (Or.inl rfl))) (fun _ _ _ _ _=>Jj3) (fun _ _ _ _ _=>(Jzj (Jo7 Jlk Jlk (Jkq (K:=K) rfl (pv 1) (by rfl)) (pv 0) (Jkq (K:=K) rfl (pv 1) (by rfl))) (Jig Jkd (pv 0) (Jkq (K:=K) rfl (pv 1) (by rfl))) Jk1))))
  obtain ⟨q,C,dxq,fs,f,fd,ps,sp,k',eq,h1,h2,c',m,ok,hk,bd,hsp⟩:=GX.lets (P:=P) (w:=w) (base:=base) T bg.G gx hs (show 0≤lv∧lv≤1000 by omega)
  refine ⟨_,rfl,_,rfl,o,_,dx,_,_,rfl,ho,T.Jct,T.Jd1,rfl,q,C,dxq,fs,f,fd,ps,sp,k',eq,h1,h2,c',m,ok,hk,bd,_,rfl,_,rfl,hsp _ ⟨_,_,rfl,rfl,?_⟩⟩
  refine ⟨_,rfl,_,rfl,o,_,dx,_,_,rfl,ho,T.Jct,T.Jd0,rfl,_,_,rfl,rfl,_,_,rfl,rfl,_,rfl,by omega,by omega,fun D hD=>?_⟩
  refine Jjk (lo:=0) (fun i σ H'=>(∃o,σ= [o,some (.int (lv - lvG B.G s lv))])∧H' D=some (.lst ((List.range i).map fun c:Nat=>V.int (lv - lvG B.G s lv+c)))∧Same H H') ⟨⟨_,rfl⟩,Ji1,Same.upd hD⟩ ?_ ?_
  ·rintro i σ H' hi ⟨⟨o1,rfl⟩,hDs,sm⟩
   refine Jj5 ⟨_,rfl,_,rfl,_,_,rfl,rfl,_,hDs,?_,⟨_,rfl⟩,?_,?_⟩
   ·rw [List.length_map,List.length_range]
    exact Jii (by omega)
   ·rw [Ji1,List.range_succ,List.map_append]
    simp
   ·intro c u z
    rw [Ji7 (Ji8 z hD)]
    exact sm _ _ z
  rintro σ1 H1 ⟨_,hDs,s1⟩
  refine ⟨_,rfl,D,rfl,⟨_,SqL.of hDs⟩,fun D2 hD2=>?_⟩
  refine Jlz ((Jkx B up lv s).map oV) hD2 (by simp [Jkx]) (by simp;omega) hDs ?_ ?_
  ·intro i x y H' Q' hx hy sm k'
   have lt:i < (up+B.rn+1).toNat:=by
    have:=(List.getElem?_eq_some_iff.mp hx).1
    simpa using this
   have ex:x= .int (lv - lvG B.G s lv+i):=by
    have:(List.map (fun c:Nat=>V.int (lv - lvG B.G s lv+c)) (List.range (up+B.rn+1).toNat))[i]?=some (V.int (lv - lvG B.G s lv+i)):=by simp [lt]
    rw [this] at hx
    exact (Option.some.inj hx).symm
   have ey:y=oV (Jlg B (lv - lvG B.G s lv+i)):=by
    have:((Jkx B up lv s).map oV)[i]?=some (oV (Jlg B (lv - lvG B.G s lv+i))):=by unfold Jkx;simp [lt]
    rw [this] at hy
    exact (Option.some.inj hy).symm
   subst ex ey
   have ho':=sm _ _ (s1 _ _ ho)
   refine ⟨_,rfl,o,_,dx,_,_,rfl,ho',T.Jct,T.Jcx,rfl,_,rfl,_,_,rfl,rfl,_,rfl,?_⟩
   refine Jl9 (fun c1=>?_) (fun c1=>?_)
   ·have c1':=of_decide_eq_true c1
    refine ⟨_,rfl,o,_,dx,_,_,rfl,ho',T.Jct,T.Jcy,rfl,_,_,rfl,rfl,_,rfl,Jl9 (fun c2=>?_) (fun c2=>?_)⟩
    ·have c2':=of_decide_eq_true c2
     refine ⟨_,rfl,_,rfl,o,_,dx,_,_,rfl,ho',T.Jct,T.Jcx,rfl,_,_,rfl,rfl,?_⟩
     have e:Jlg B (lv - lvG B.G s lv+i)=some (lv - lvG B.G s lv+i - B.lo):=if_pos ⟨c1',c2'⟩
     rw [e] at k'
     exact k' _ (Same.refl _)
    ·have c2':=fun z=>c2 (decide_eq_true z)
     have e:Jlg B (lv - lvG B.G s lv+i)=none:=if_neg fun z=>c2' z.2
     rw [e] at k'
     exact k' _ (Same.refl _)
   ·have c1':=fun z=>c1 (decide_eq_true z)
    have e:Jlg B (lv - lvG B.G s lv+i)=none:=if_neg fun z=>c1' z.1
    rw [e] at k'
    exact ⟨_,rfl,Jj0 (k' _ (Same.refl _))⟩
  ·intro H' sm hDs2
   exact k D2 H' (s1.trans sm) hDs2
end
def usable (B:BTd) (hi lv:Int):List Int:=((List.range (nOf B.G)).map fun k:Nat=>(k:Int)).filter fun s=>decide (lvG B.G s lv≤hi)
def RowE (B:BTd) (up lv:Int) (H:Hp) (s:Int) (r:Addr×Addr):Prop:=H r.1=some (.tup [.int s,.ref r.2])∧H r.2=some (.lst ((Jkx B up lv s).map oV))
def Jm8 (us:List Int) (rs:List (Addr×Addr)):List (Key×V):=(us.zip rs).map fun p=>(Sum.inl p.1,V.ref p.2.2)
def WayAt (B:BTd) (up hi lv:Int) (H:Hp) (p:Addr):Prop:=∃o rs,H p=some (.frz o (.dK (Jm8 (usable B hi lv) rs)))∧Paired (RowE B up lv H) (usable B hi lv) rs
theorem RowE.same {B:BTd} {up lv:Int} {H H':Hp} {s:Int} {r:Addr×Addr} (sm:Same H H') (h:RowE B up lv H s r):RowE B up lv H' s r:=⟨sm _ _ h.1,sm _ _ h.2⟩
theorem WayAt.same {B:BTd} {up hi lv:Int} {H H':Hp} {p:Addr} (sm:Same H H') (h:WayAt B up hi lv H p):WayAt B up hi lv H' p:=by
 obtain ⟨o,rs,h1,h2⟩:=h
 exact ⟨o,rs,sm _ _ h1,Paired.mapP h2 fun s r q=>q.same sm⟩
theorem RowE.put {B:BTd} {up lv:Int} {H:Hp} {s:Int} {r:Addr×Addr} {D:Addr} {rs:List (Addr×Addr)} {o:HO} (hup:0≤up) (hrn:0≤B.rn) (hD:H D=some (.lst (rs.map fun r:Addr×Addr=>V.ref r.1))) (h:RowE B up lv H s r):RowE B up lv (upd H D o) s r:=by
 have n1:r.1≠D:=fun z=>by have:=h.1;rw [z,hD] at this;cases this
 have n2:r.2≠D:=fun z=>by
  have q:=h.2
  rw [z,hD] at q
  have e:=HO.lst.inj (Option.some.inj q)
  have l:(Jkx B up lv s).length=(up+B.rn+1).toNat:=by simp [Jkx]
  cases hc:Jkx B up lv s with
  |nil=>rw [hc] at l;simp at l;omega
  |cons x xs=>
   rw [hc] at e
   cases rs with
   |nil=>simp at e
   |cons r' rs'=>
    simp at e
    cases x <;> exact nomatch e.1
 exact ⟨by rw [Ji7 n1];exact h.1,by rw [Ji7 n2];exact h.2⟩
theorem Jqt {B:BTd} {up lv:Int} {H:Hp}:∀{us:List Int} {rs:List (Addr×Addr)},Paired (RowE B up lv H) us rs→Jsk H (rs.map fun r=>V.ref r.1) (Jm8 us rs)
 |_,_,.nil=>.nil
 |_,_,.cons h t=>.cons ⟨_,rfl,h.1⟩ (Jqt t)
theorem Ju1:∀{us:List Int} {rs:List (Addr×Addr)},us.length=rs.length→(Jm8 us rs).map (·.1)=us.map Sum.inl
 | [],[],_=>rfl
 | [],_::_,h=>by simp at h
 |_::_,[],h=>by simp at h
 |u::us,r::rs,h=>by
  have:=Ju1 (us:=us) (rs:=rs) (by simpa using h)
  show Sum.inl u::(Jm8 us rs).map (·.1)=_
  rw [this]
  rfl
theorem Jto (B:BTd) (hi lv:Int):(usable B hi lv).Nodup:=by
 unfold usable
 refine List.Pairwise.filter _ ?_
 refine List.Pairwise.map _ (fun a b h=>?_) List.nodup_range
 intro z
 exact h (by exact_mod_cast z)
theorem Jm6 (B:BTd) (hi lv:Int) (h:nOf B.G≤4):(usable B hi lv).length≤4:=by
 unfold usable
 refine Nat.le_trans (List.length_filter_le _ _) ?_
 simpa using h
theorem Jr3 {B:BTd} {hi lv s:Int} (h:s∈usable B hi lv):0≤s∧s < (nOf B.G:Int):=by
 unfold usable at h
 obtain ⟨h1,_⟩:=List.mem_filter.mp h
 obtain ⟨k,hk,rfl⟩:=List.mem_map.mp h1
 have:=List.mem_range.mp hk
 omega
theorem Jsy {G:Jlq} (gg:GGood G):nOf G≤4:=by
 unfold nOf
 have:=gg.len.2
 cases G.sv <;> simp <;> omega
def spWays (a:Ad):Sp:=fun vs H Q _=>∃(o:Addr) (B:BTd) (up hi lv:Int),vs= [.ref o,.int up,.int hi,.int lv]∧BX a H o B∧BGd B∧(0≤up∧up≤12)∧(0≤lv∧lv≤12)∧
 ∀p H',Same H H'→WayAt B up hi lv H' p→Q (.ref p) H'
section
variable {P:Program} {w:World} {K:W.Frag} {mg:Str→Option Value} {base:Heap} {a:Ad}
theorem sc_ends_by_setting:Jia ["basin","up","hi","level","usable"] ["basin","up","hi","level"] (Ji5 (top 25)):=⟨rfl,rfl,rfl,by decide +kernel,rfl,by decide +kernel,by decide +kernel⟩
theorem Jnk (T:Tx K mg a):FnOk P w K mg base CX0 5 a.Jel a.Jem ["basin","up","hi","level"] (spWays a):=by
 have G_ends_alone:=Jrc (P:=P) (w:=w) (base:=base) T
 refine T.J8.fn.ok sc_ends_by_setting (fun vs H Q E h=>?_) (fun cdv A outer s H vs Q E hr h=>?_)
 ·obtain ⟨o,B,up,hi,lv,rfl,_⟩:=h
  rfl
 ·obtain ⟨o,B,up,hi,lv,rfl,bx,bg,hup,hlv,k⟩:=h
  obtain ⟨dx,g,ho,gx⟩:=id bx
  have n4:=Jsy bg.G
  refine ⟨?t,?B,?C⟩
  case B=>
   refine' Ji3 ?s1 ?r1
   case s1=>
    exact (Jks (i:=4) (N:=(["setting","hi","level","basin"]:List Str)) (ini:=[none,some 2,some 3,some 0]) sc_ends_by_setting.nd rfl (Or.inl rfl) rfl (Jix (by rfl) T.Jas (Ji0 (Jp1 (Jjq (pv 0) (by rfl)) hr) Ji2)) (fun _ _ _ _ _=>(Jie (i:=0) (by decide +kernel:(["setting","hi","level","basin"]:List Str).Nodup) rfl (Or.inl rfl))) (fun _ _ _ _ _=>(Jkr (Jim Jlk (Jxr (P:=P) (w:=w) (K:=K) (mg:=mg) (base:=base) rfl rfl rfl rfl rfl (Jkq (K:=K) rfl (pv 3) (by rfl)) hr (Ji0 (pv 0) (Ji0 (pv 2) Ji2))) (pv 1) (Jio _)))) (fun _ _ _ _ _=>(pv 0)))
   case r1=>
    refine' Ji4 ?s3
    case s3=>
     refine' Jib ?e5_0
     case e5_0=>
      exact (Jj6 (Jpy rfl) (by rfl) T.Jak Jwe (Ji0 (Jj2 (N:=(["setting","basin","up","level"]:List Str)) (ini:=[none,some 0,some 1,some 3]) rfl (Jj7 (pv 4)) (fun _ _ _ _ _=>(Jie (i:=0) (by decide +kernel:(["setting","basin","up","level"]:List Str).Nodup) rfl (Or.inl rfl))) (fun _ _ _ _ _=>Jj3) (fun _ _ _ _ _=>(Jke (Ji0 (pv 0) (Ji0 (Ji9 T.J7 G_ends_alone hr (by decide) (pa4 (pv 1) (pv 2) (pv 3) (pv 0))) Ji2))))) Ji2))
  refine ⟨_,rfl,o,_,dx,_,_,rfl,ho,T.Jct,T.Jd1,rfl,Jnb T (gx.gs bg.G) ⟨_,rfl,by omega,by omega,fun D hD=>?_⟩ (by decide)⟩
  refine Jjk (lo:=0) (fun i σ H'=>(∃o',σ= [o',some (.int hi),some (.int lv),some (.ref o)])∧H' D=some (.lst ((((List.range i).map fun k:Nat=>(k:Int)).filter fun s=>decide (lvG B.G s lv≤hi)).map V.int))∧Same H H') ⟨⟨_,rfl⟩,Ji1,Same.upd hD⟩ ?_ ?_
  ·rintro i σ H' hi' ⟨⟨o1,rfl⟩,hDs,sm⟩
   have hs:0≤(0+i:Int)∧(0+i:Int) < (nOf B.G:Int):=by omega
   obtain ⟨q,C,dxq,fs,f,fd,ps,sp,k',eq,h1,h2,c',m,ok,hk,bd,hsp⟩:=GX.lets (P:=P) (w:=w) (base:=base) T bg.G (gx.same sm) hs (show 0≤lv∧lv≤1000 by omega)
   refine ⟨_,rfl,o,_,dx,_,_,rfl,sm _ _ ho,T.Jct,T.Jd1,rfl,q,C,dxq,fs,f,fd,ps,sp,k',eq,h1,h2,c',m,ok,Nat.le_succ_of_le hk,bd,_,rfl,_,rfl,hsp _ ⟨_,rfl,_,_,rfl,rfl,_,rfl,?_⟩⟩
   have e0:(0+(i:Int))=i:=by omega
   rw [e0]
   have ef:((List.range (i+1)).map fun k:Nat=>(k:Int)).filter (fun s=>decide (lvG B.G s lv≤hi))=((List.range i).map fun k:Nat=>(k:Int)).filter (fun s=>decide (lvG B.G s lv≤hi))++(if lvG B.G i lv≤hi then [(i:Int)] else []):=by
    rw [List.range_succ,List.map_append,List.filter_append]
    congr 1
    by_cases c:lvG B.G i lv≤hi <;> simp [c]
   show if decide (lvG B.G i lv≤hi)=true then _ else _
   refine Jl9 (fun c=>?_) (fun c=>?_)
   ·have c':=of_decide_eq_true c
    refine ⟨_,rfl,_,hDs,?_,⟨_,rfl⟩,?_,?_⟩
    ·rw [List.length_map]
     refine Jii (Nat.le_trans (List.length_filter_le _ _) ?_)
     rw [List.length_map,List.length_range]
     omega
    ·rw [Ji1,ef,if_pos c',List.map_append]
     rfl
    ·intro c2 u z
     rw [Ji7 (Ji8 z hD)]
     exact sm _ _ z
   ·have c':¬lvG B.G i lv≤hi:=fun z=>c (decide_eq_true z)
    refine ⟨⟨_,rfl⟩,?_,sm⟩
    rw [ef,if_neg c',List.append_nil]
    exact hDs
  rintro σ1 H1 ⟨_,hDs,s1⟩
  have hDs:H1 D=some (.lst ((usable B hi lv).map V.int)):=by
   have e:((nOf B.G:Nat):Int).toNat=nOf B.G:=Int.toNat_natCast _
   rw [e] at hDs
   exact hDs
  have ul:=Jm6 B hi lv n4
  refine ⟨_,rfl,D,rfl,⟨_,SqL.of hDs⟩,fun D2 hD2=>?_⟩
  refine Jjb (K:=K) (xs:=(usable B hi lv).map V.int) (fun i σ H'=>(∃o',σ= [o',some (.ref o),some (.int up),some (.int lv)])∧Same H1 H'∧∃rs,H' D2=some (.lst (rs.map fun r:Addr×Addr=>V.ref r.1))∧Paired (RowE B up lv H') ((usable B hi lv).take i) rs) ⟨⟨_,rfl⟩,Same.upd hD2,[],Ji1,.nil⟩ (fun i σ H' _ ⟨_,sm,_⟩=>SqL.of (sm _ _ hDs)) ?_ ?_
  ·rintro i x σ H' hx ⟨⟨o1,rfl⟩,sm,rs,hDr,pr⟩
   rw [List.getElem?_map] at hx
   obtain ⟨u,hu,rfl⟩:=Option.map_eq_some_iff.mp hx
   have hus:=Jr3 (List.mem_of_getElem? hu)
   refine Jj5 ⟨_,rfl,_,rfl,_,rfl,_,rfl,_,rfl,o,B,up,lv,u,rfl,(bx.same s1).same sm,bg,hup,hlv,hus,fun l H2 s2 hl=>?_⟩
   refine ⟨(show 2≤sizeLine by decide),fun T1 hT=>?_⟩
   have sT:=Same.upd (o:=.tup [.int u,.ref l]) hT
   have hDr2:=sT _ _ (s2 _ _ hDr)
   have hlr:rs.length=i:=by
    have e1:=Paired.length pr
    rw [List.length_take] at e1
    have:=(List.getElem?_eq_some_iff.mp hu).1
    omega
   have hil:i < (usable B hi lv).length:=(List.getElem?_eq_some_iff.mp hu).1
   refine ⟨_,hDr2,?_,⟨_,rfl⟩,?_,rs++ [(T1,l)],?_,?_⟩
   ·rw [List.length_map]
    exact Jii (by omega)
   ·intro c o' z
    rw [Ji7 (Ji8 z hD2)]
    exact sT _ _ (s2 _ _ (sm _ _ z))
   ·rw [Ji1,List.map_append]
    rfl
   ·rw [List.take_add_one,hu]
    refine Paired.snoc (Paired.mapP pr fun s r q=>((q.same s2).same sT).put hup.1 bg.rn.1 hDr2) (RowE.put (r:=(T1,l)) hup.1 bg.rn.1 hDr2 ⟨Ji1,sT _ _ hl⟩)
  rintro σ2 H2 ⟨_,s2,rs,hDr,pr⟩
  rw [List.take_of_length_le (by rw [List.length_map];exact Nat.le_refl _)] at pr
  have el:=Paired.length pr
  refine ⟨D2,_,Jm8 (usable B hi lv) rs,rfl,hDr,Jqt pr,?_,?_,fun p o' hp=>?_⟩
  ·unfold Jm8
   rw [List.length_map,List.length_zip]
   omega
  ·rw [Ju1 el]
   exact List.Pairwise.map _ (fun x y h z=>h (Sum.inl.inj z)) (Jto B hi lv)
  ·exact k p _ ((s1.trans s2).trans (Same.upd hp)) ⟨o',rs,Ji1,Paired.mapP pr fun s r q=>q.same (Same.upd hp)⟩
end
def Jjz (B:BTd) (up lv:Int) (lost:List (Option Int)) (s:Int):Bool:=Juk (Jkx B up lv s) lost
theorem Jwm {B:BTd} {up lv s:Int} {i:Int} (bg:BGd B) (h:some i∈Jkx B up lv s):0≤i∧i < ((B.hi+1 - B.lo).toNat:Int):=by
 unfold Jkx at h
 obtain ⟨c,_,e⟩:=List.mem_map.mp h
 unfold Jlg at e
 have b1:=bg.lo
 split at e
 ·rename_i q
  have e':=Option.some.inj e
  omega
 ·cases e
theorem Jtv {B:BTd} {up lv s:Int} (bg:BGd B) (hup:0≤up∧up≤12):(Jkx B up lv s).length≤100:=by
 unfold Jkx
 rw [List.length_map,List.length_range]
 have:=bg.rn
 omega
theorem Jsw:∀{us:List Int} {rs:List (Addr×Addr)} {F:Int→Addr×Addr→Prop} {i:Nat} {k:Key} {x:V},Paired F us rs→(Jm8 us rs)[i]?=some (k,x)→∃u r,us[i]?=some u∧k= .inl u∧x= .ref r.2∧F u r
 |_,_,_,_,_,_,.nil,h=>by simp [Jm8] at h
 |_,_,_,0,k,x,.cons (a:=u) (b:=r) h t,e=>by
  have e':(Sum.inl u,V.ref r.2)=(k,x):=by simpa [Jm8] using e
  cases e'
  exact ⟨u,r,rfl,rfl,rfl,h⟩
 |_,_,_,i+1,k,x,.cons h t,e=>by
  obtain ⟨u,r,e1,e2⟩:=Jsw (i:=i) t (by simpa [Jm8] using e)
  exact ⟨u,r,by simpa using e1,e2⟩
theorem Jwq {us:List Int} {rs:List (Addr×Addr)} (h:us.length=rs.length):(Jm8 us rs).length=us.length:=by
 unfold Jm8
 rw [List.length_map,List.length_zip]
 omega
def Yar (a:Ad):Sp:=fun vs H Q _=>∃(p M:Addr) (B:BTd) (up hi lv s:Int) (lost:List (Option Int)),vs= [.ref p,.ref M]∧WayAt B up hi lv H p∧H M=some (.lst (lost.map oV))∧lost.length=(B.hi+1 - B.lo).toNat∧BGd B∧(0≤up∧up≤12)∧
 ((usable B hi lv).filter (Jjz B up lv lost)).head?=some s∧∀H',Same H H'→Q (.int s) H'
section
variable {P:Program} {w:World} {K:W.Frag} {mg:Str→Option Value} {base:Heap} {a:Ad}
theorem Jrl:Jia ["by_setting","lost"] ["by_setting","lost"] (Ji5 (top 28)):=⟨rfl,rfl,rfl,by decide +kernel,rfl,by decide +kernel,by decide +kernel⟩
theorem Jre (T:Tx K mg a):FnOk P w K mg base CX0 2 a.Jer a.Jes ["by_setting","lost"] (Yar a):=by
 have G_is_safe:=Jql (P:=P) (w:=w) (base:=base) T
 refine T.Jb.fn.ok Jrl (fun vs H Q E h=>?_) (fun cdv A outer s H vs Q E hr h=>?_)
 ·obtain ⟨p,M,B,up,hi,lv,s,lost,rfl,_⟩:=h
  rfl
 ·obtain ⟨p,M,B,up,hi,lv,s,lost,rfl,⟨ob,rs,hp,pr⟩,hM,hN,bg,hup,hs,k⟩:=h
  have n4:=Jm6 B hi lv (Jsy bg.G)
  refine ⟨?t,?B,?C⟩
  case B=>
   refine' Ji4 ?s1
   case s1=>
    exact (Jib (Jin Jiq (Jj2 (N:=(["setting","ends","lost"]:List Str)) (ini:=[none,none,some 1]) rfl (Jzl (pv 0)) (fun _ _ _ _ _=>(Jte (K:=K) (n:=2) rfl rfl (Jjj (Jie (i:=0) (by decide +kernel:(["setting","ends","lost"]:List Str).Nodup) rfl (Or.inl rfl)) (Jjj (Jie (i:=1) (by decide +kernel:(["setting","ends","lost"]:List Str).Nodup) rfl (Or.inl rfl)) Jmy)))) (fun _ _ _ _ _=>(Jkr (Jiv (Ji9 T.J4 G_is_safe hr (by decide) (Ji0 (pv 1) (Ji0 (pv 2) Ji2)))))) (fun _ _ _ _ _=>(pv 0))) Ji6 (fun _ _=>rfl)))
  refine ⟨_,rfl,p,ob,_,rfl,hp,fun D hD=>?_⟩
  refine Jv5 (fun i σ H'=>(∃o1 o2,σ= [o1,o2,some (.ref M)])∧Same H H'∧H' D=some (.lst ((((usable B hi lv).take i).filter (Jjz B up lv lost)).map V.int))) ⟨⟨_,_,rfl⟩,Same.upd hD,Ji1⟩ (fun i σ H' _ ⟨_,sm,_⟩=>sm _ _ hp) ?_ ?_
  ·rintro i kk x σ H' T1 hx ⟨⟨o1,o2,rfl⟩,sm,hDs⟩ hT
   obtain ⟨u,r,hu,rfl,rfl,row⟩:=Jsw pr hx
   have sT:=Same.upd (o:=.tup [kV (.inl u),V.ref r.2]) hT
   refine ⟨T1,_,rfl,SqT.of Ji1,rfl,_,_,rfl,_,_,rfl,rfl,?_⟩
   refine ⟨_,rfl,_,rfl,r.2,M,Jkx B up lv u,lost,rfl,sT _ _ (sm _ _ row.2),sT _ _ (sm _ _ hM),fun j hj=>?_,Jtv bg hup,fun H2 s2=>?_⟩
   ·have:=Jwm bg hj
    rw [hN]
    exact this
   have ef:(((usable B hi lv).take (i+1)).filter (Jjz B up lv lost))=((usable B hi lv).take i).filter (Jjz B up lv lost)++(if Jjz B up lv lost u=true then [u] else []):=by
    rw [List.take_add_one,hu,List.filter_append]
    congr 1
    by_cases c:Jjz B up lv lost u=true <;> simp [c]
   have hDs2:=s2 _ _ (sT _ _ hDs)
   have lt:i < (usable B hi lv).length:=(List.getElem?_eq_some_iff.mp hu).1
   refine ⟨_,rfl,?_⟩
   show if Jjz B up lv lost u=true then _ else _
   refine Jl9 (fun c=>?_) (fun c=>?_)
   ·refine ⟨_,rfl,_,hDs2,?_,⟨_,_,rfl⟩,?_,?_⟩
    ·rw [List.length_map]
     refine Jii (Nat.le_trans (List.length_filter_le _ _) ?_)
     rw [List.length_take]
     omega
    ·intro c2 o' z
     rw [Ji7 (Ji8 z hD)]
     exact s2 _ _ (sT _ _ (sm _ _ z))
    ·rw [Ji1,ef,if_pos c,List.map_append]
     rfl
   ·refine ⟨⟨_,_,rfl⟩,(sm.trans sT).trans s2,?_⟩
    rw [ef,if_neg c,List.append_nil]
    exact hDs2
  ·rintro σ H' ⟨_,sm,hDs⟩
   rw [Jwq (Paired.length pr),List.take_length] at hDs
   refine ⟨D,_,0,_,rfl,rfl,SqL.of hDs,Jjv (j:=0) ?_,k _ sm⟩
   rw [List.getElem?_map,←List.head?_eq_getElem?,hs]
   rfl
end
abbrev lb_lost_alone:Array (Nat×Nat×Str):=#[((Jqq (nst (top 26) 0)).line,(Jqq (nst (top 26) 0)).col,"lost_alone.<locals>.comes")]
def WaysAt (B:BTd) (up hi:Int) (H:Hp) (W:Addr):Prop:=∃ps:List Addr,H W=some (.lst (ps.map V.ref))∧Paired (fun lv p=>WayAt B up hi lv H p) (Jqc B) ps
theorem WaysAt.same {B:BTd} {up hi:Int} {H H':Hp} {W:Addr} (sm:Same H H') (h:WaysAt B up hi H W):WaysAt B up hi H' W:=by
 obtain ⟨ps,h1,h2⟩:=h
 exact ⟨ps,sm _ _ h1,Paired.mapP h2 fun s r q=>q.same sm⟩
def nLv (B:BTd):Nat:=(B.hi+1 - B.lo).toNat
def Jkb (B:BTd) (up hi:Int) (lost:List (Option Int)) (n:Nat):Bool:=!((usable B hi (B.lo+n)).any (Jjz B up (B.lo+n) lost))
def CmAt (H:Hp) (f W:Addr):Prop:=CloAt H f "comes" "lost_alone.<locals>.comes" (nst (top 26) 0) [("ways",.ref W)]
def Yaq:List V→Sp:=fun cs vs H Q _=>∃(W M:Addr) (B:BTd) (up hi:Int) (n:Nat) (lost:List (Option Int)),cs= [.ref W]∧vs= [.int n,.ref M]∧WaysAt B up hi H W∧H M=some (.lst (lost.map oV))∧lost.length=nLv B∧BGd B∧(0≤up∧up≤12)∧n < nLv B∧
 ∀H',Same H H'→Q (.bl (Jkb B up hi lost n)) H'
theorem Jjm {α β:Type} {F:α→β→Prop} {l₁:List α} {l₂:List β} (r:Paired F l₁ l₂):∀{i:Nat} {x:α},l₁[i]?=some x→∃y,l₂[i]?=some y∧F x y:=by
 induction r with
 |nil=>intro i y h;simp at h
 |cons h t ih=>
  intro i y e
  cases i with
  |zero=>simp at e;subst e;exact ⟨_,rfl,h⟩
  |succ j=>exact ih (by simpa using e)
section
variable {P:Program} {w:World} {K:W.Frag} {mg:Str→Option Value} {base:Heap} {a:Ad}
theorem Jn2:Jnz ["number","found","ways"] ["number","found"] ["ways"] (Ji5 (nst (top 26) 0)):=⟨rfl,rfl,rfl,by decide +kernel,rfl,by decide +kernel,by decide +kernel,by decide +kernel⟩
theorem Jzc (T:Tx K mg a) (f:Addr):Jrr P w K mg base CX0 2 f (Y1 "comes" "lost_alone.<locals>.comes" (nst (top 26) 0) ["ways"] Yaq f):=by
 have G_is_safe:=Jql (P:=P) (w:=w) (base:=base) T
 refine Yu Jn2 (fun _ _ _ _ _ us hl=>match us,hl with| [_,_],_=>rfl) (fun cs vs H Q E h=>?_) (fun f c clos A outer s H vs cs Q E hr h=>?_) f
 ·obtain ⟨W,M,B,up,hi,n,lost,rfl,rfl,_⟩:=h
  exact ⟨rfl,rfl⟩
 ·obtain ⟨W,M,B,up,hi,n,lost,rfl,rfl,wa,hM,hN,bg,hup,hn,k⟩:=h
  obtain ⟨ps,hW,pp⟩:=wa
  obtain ⟨p,hp,ob,rs,hd,pr⟩:=Jjm pp (i:=n) (x:=B.lo+n) (by unfold Jqc;simp [show n < (B.hi+1 - B.lo).toNat from hn])
  refine ⟨?t,?B,?C⟩
  case B=>
   refine' Ji4 ?s1
   case s1=>
    exact (Jib (pe_not (Jic (Jyh rfl rfl) (by rfl) T.Jai bt_any (Ji0 (Jj2 (N:=(["ends","found"]:List Str)) (ini:=[none,some 1]) rfl (Yaf (Jin Jiq (pv 2) (pv 0) (fun _ _=>rfl))) (fun _ _ _ _ _=>(Jie (i:=0) (by decide +kernel:(["ends","found"]:List Str).Nodup) rfl (Or.inl rfl))) (fun _ _ _ _ _=>Jj3) (fun _ _ _ _ _=>(Ji9 T.J4 G_is_safe hr (by decide) (Ji0 (pv 0) (Ji0 (pv 1) Ji2))))) Ji2))))
  have n4:=Jm6 B hi (B.lo+n) (Jsy bg.G)
  refine ⟨_,rfl,_,rfl,W,_,(n:Int),_,rfl,rfl,SqL.of hW,Jjv (j:=n) (by rw [List.getElem?_map,hp];rfl),p,ob,_,rfl,hd,fun D hD=>?_⟩
  refine Jx6 (fun i σ H'=>(∃o1,σ= [o1,some (.ref M)])∧Same H H'∧H' D=some (.lst ((((usable B hi (B.lo+n)).take i).map (Jjz B up (B.lo+n) lost)).map V.bl))) ⟨⟨_,rfl⟩,Same.upd hD,Ji1⟩ (fun i σ H' _ ⟨_,sm,_⟩=>sm _ _ hd) ?_ ?_
  ·rintro i kk x σ H' hx ⟨⟨o1,rfl⟩,sm,hDs⟩
   obtain ⟨u,r,hu,rfl,rfl,row⟩:=Jsw pr hx
   have lt:i < (usable B hi (B.lo+n)).length:=(List.getElem?_eq_some_iff.mp hu).1
   refine Jj5 ⟨_,rfl,_,rfl,r.2,M,Jkx B up (B.lo+n) u,lost,rfl,sm _ _ row.2,sm _ _ hM,fun j hj=>?_,Jtv bg hup,fun H2 s2=>⟨_,s2 _ _ hDs,?_,⟨_,rfl⟩,?_,?_⟩⟩
   ·have:=Jwm bg hj
    rw [hN]
    exact this
   ·rw [List.length_map,List.length_map,List.length_take]
    exact Jii (by omega)
   ·intro c2 o' z
    rw [Ji7 (Ji8 z hD)]
    exact s2 _ _ (sm _ _ z)
   ·rw [Ji1,List.take_add_one,hu,List.map_append,List.map_append]
    rfl
  ·rintro σ H' ⟨_,sm,hDs⟩
   rw [Jwq (Paired.length pr),List.take_length] at hDs
   refine ⟨D,_,rfl,SqL.of hDs,_,rfl,?_⟩
   have e:((usable B hi (B.lo+n)).map (Jjz B up (B.lo+n) lost)).any id=(usable B hi (B.lo+n)).any (Jjz B up (B.lo+n) lost):=by
    rw [List.any_map]
    rfl
   rw [e]
   exact k _ sm
end
def Jij (B:BTd) (up hi:Int) (lost:List (Option Int)):List Nat:=(List.range (nLv B)).filter fun n=>(lost.getD n none).isNone&&Jkb B up hi lost n
def Jld (lost:List (Option Int)) (ns:List Nat) (r:Int):List (Option Int):=ns.foldl (fun l n=>l.set n (some r)) lost
def Jlu (B:BTd) (up hi:Int):Nat→List (Option Int)→Int→List (Option Int)
 |0,l,_=>l
 |k+1,l,r=>if Jij B up hi l= [] then l else Jlu B up hi k (Jld l (Jij B up hi l) (r+1)) (r+1)
def Jkc (B:BTd) (up hi:Int):List (Option Int):=Jlu B up hi (nLv B+1) (List.replicate (nLv B) none) 0
def Jja (l:List (Option Int)):Nat:=l.countP fun o=>o.isNone
theorem Jlw (ns:List Nat) (r:Int):∀l:List (Option Int),(Jld l ns r).length=l.length:=by
 induction ns with
 |nil=>intro l;rfl
 |cons n ns ih=>
  intro l
  show (Jld (l.set n (some r)) ns r).length=_
  rw [ih]
  simp
theorem Jsc (l:List (Option Int)) (ns:List Nat) (n:Nat) (r:Int):Jld l (ns++ [n]) r=(Jld l ns r).set n (some r):=by
 unfold Jld
 rw [List.foldl_append]
 rfl
theorem Jt0 (l:List (Option Int)) (n:Nat) (r:Int):Jja (l.set n (some r))≤Jja l:=by
 induction l generalizing n with
 |nil=>simp [Jja]
 |cons x l ih=>
  cases n with
  |zero=>unfold Jja;rw [List.set_cons_zero,List.countP_cons,List.countP_cons];simp
  |succ n=>
   have:=ih n
   unfold Jja at this⊢
   rw [List.set_cons_succ,List.countP_cons,List.countP_cons]
   omega
theorem Jsz (ns:List Nat) (r:Int):∀l:List (Option Int),Jja (Jld l ns r)≤Jja l:=by
 induction ns with
 |nil=>intro l;exact Nat.le_refl _
 |cons n ns ih=>intro l;exact Nat.le_trans (ih (l.set n (some r))) (Jt0 l n r)
theorem Jt1 {l:List (Option Int)} {n:Nat} {r:Int} (h:l[n]?=some none):Jja (l.set n (some r)) < Jja l:=by
 induction l generalizing n with
 |nil=>simp at h
 |cons x l ih=>
  cases n with
  |zero=>
   obtain rfl:x=none:=by simpa using h
   unfold Jja
   rw [List.set_cons_zero,List.countP_cons,List.countP_cons]
   simp
  |succ n=>
   have:=ih (n:=n) (by simpa using h)
   unfold Jja at this⊢
   rw [List.set_cons_succ,List.countP_cons,List.countP_cons]
   omega
theorem Jor {B:BTd} {up hi:Int} {l:List (Option Int)} {n:Nat} (hl:l.length=nLv B) (h:n∈Jij B up hi l):n < nLv B∧l[n]?=some none:=by
 unfold Jij at h
 obtain ⟨h1,h2⟩:=List.mem_filter.mp h
 have lt:=List.mem_range.mp h1
 rw [Bool.and_eq_true] at h2
 have hn:n < l.length:=by omega
 refine ⟨lt,?_⟩
 have:=h2.1
 rw [List.getD_eq_getElem?_getD,List.getElem?_eq_getElem hn] at this
 rw [List.getElem?_eq_getElem hn]
 simpa using this
theorem Jli {B:BTd} {up hi r:Int} {l:List (Option Int)} (hl:l.length=nLv B) (h:Jij B up hi l≠ []):Jja (Jld l (Jij B up hi l) r) < Jja l:=by
 cases hc:Jij B up hi l with
 |nil=>exact absurd hc h
 |cons n ns=>
  have q:=(Jor hl (n:=n) (by rw [hc];exact List.mem_cons_self ..)).2
  exact Nat.lt_of_le_of_lt (Jsz ns r (l.set n (some r))) (Jt1 q)
theorem Jm1 {B:BTd} {up hi:Int}:∀(k m:Nat) (l:List (Option Int)) (r:Int),l.length=nLv B→Jja l < k→Jja l < m→Jlu B up hi k l r=Jlu B up hi m l r:=by
 intro k
 induction k with
 |zero=>intro m l r _ h;omega
 |succ k ih=>
  intro m l r hl h1 h2
  cases m with
  |zero=>omega
  |succ m=>
   show (if Jij B up hi l= [] then l else _)=(if Jij B up hi l= [] then l else _)
   split
   ·rfl
   ·rename_i hf
    have:=Jli (r:=r+1) hl hf
    exact ih m _ _ (by rw [Jlw];exact hl) (by omega) (by omega)
def nsV (ns:List Nat):List V:=ns.map fun n:Nat=>V.int n
def Ya:Sp:=fun vs H Q _=>∃(c W:Addr) (B:BTd) (up hi:Int),vs= [.int (nLv B:Nat),.ref c]∧CmAt H c W∧WaysAt B up hi H W∧BGd B∧(0≤up∧up≤12)∧∀M H',Same H H'→H M=none→H' M=some (.lst ((Jkc B up hi).map oV))→Q (.ref M) H'
def RndI (B:BTd) (up hi:Int) (H:Hp) (c M:Addr):Nat→L2.St→Hp→Prop:=fun m σ H'=>∃(l:List (Option Int)) (r:Int) (F:Addr) (o5:Option V),σ= [some (.int (nLv B:Nat)),some (.ref c),some (.ref M),some (.int r),some (.ref F),o5]∧m=Jja l∧l.length=nLv B∧Same H H'∧H' M=some (.lst (l.map oV))∧H' F=some (.lst (nsV (Jij B up hi l)))∧F≠M∧Jlu B up hi (Jja l+1) l r=Jkc B up hi
theorem Jvh {B:BTd} (bg:BGd B):nLv B≤13:=by
 unfold nLv
 have:=bg.lo
 have:=bg.hi
 omega
section
variable {P:Program} {w:World} {K:W.Frag} {mg:Str→Option Value} {base:Heap} {a:Ad}
theorem sc_found_by_rounds:Jia ["many","comes","found","rounds","fresh","number"] ["many","comes"] (Ji5 (top 18)):=⟨rfl,rfl,rfl,by decide +kernel,rfl,by decide +kernel,by decide +kernel⟩
theorem Jnl (T:Tx K mg a):FnOk P w K mg base CX0 3 a.Jeb a.Jec ["many","comes"] Ya:=by
 have G_comes:=Jzc (P:=P) (w:=w) (base:=base) T
 refine T.J3.fn.ok sc_found_by_rounds (fun vs H Q E h=>?_) (fun cdv A outer s H vs Q E hr h=>?_)
 ·obtain ⟨c,W,B,up,hi,rfl,_⟩:=h
  rfl
 ·obtain ⟨c,W,B,up,hi,rfl,cm,wa,bg,hup,k⟩:=h
  have n13:=Jvh bg
  refine ⟨?t,?B,?C⟩
  case B=>
   refine' Ji3 ?s1 ?r1
   case s1=>
    exact (Jik (i:=2) sc_found_by_rounds.nd rfl (Or.inr rfl) (Jj2 (N:=(["number"]:List Str)) (ini:=[none]) rfl (Jix (by rfl) T.Jas (Ji0 (pv 0) Ji2)) (fun _ _ _ _ _=>(Jie (i:=0) (by decide +kernel:(["number"]:List Str).Nodup) rfl (Or.inl rfl))) (fun _ _ _ _ _=>Jj3) (fun _ _ _ _ _=>Jk1)))
   case r1=>
    refine' Ji3 ?s3 ?r3
    case s3=>
     exact (Jik (i:=3) sc_found_by_rounds.nd rfl (Or.inl rfl) Ji6)
    case r3=>
     refine' Ji3 ?s5 ?r5
     case s5=>
      exact (Jks (i:=4) (N:=(["number","comes","found"]:List Str)) (ini:=[none,some 1,some 2]) sc_found_by_rounds.nd rfl (Or.inl rfl) rfl (Jix (by rfl) T.Jas (Ji0 (pv 0) Ji2)) (fun _ _ _ _ _=>(Jie (i:=0) (by decide +kernel:(["number","comes","found"]:List Str).Nodup) rfl (Or.inl rfl))) (fun _ _ _ _ _=>(Jkr (Jiv (Jsa (P:=P) (w:=w) (K:=K) (mg:=mg) (base:=base) rfl rfl rfl rfl rfl G_comes hr (by decide) 1 (Ji0 (pv 0) (Ji0 (pv 2) Ji2)))))) (fun _ _ _ _ _=>(pv 0)))
     case r5=>
      refine' Ji3 ?s7 ?r7
      case s7=>
       exact (Jug PassesOwn.never (Jim Js9 (Jic Jil (by rfl) T.Jao Jjg (Ji0 (pv 4) Ji2)) Ji6 (Jio _)) (Ji3 (ps_aug (i:=3) sc_found_by_rounds.nd rfl (Or.inl rfl) Ji6 ip_add) (Ji3 (Jk2 PassesOwn.never rfl (Jj7 (pv 4)) (Jie (i:=5) sc_found_by_rounds.nd rfl (Or.inl rfl)) (Ji4 (Jtf (pv 3) (Jvs (pv 2) (pv 5) Jqw)))) (Ji4 (Jks (i:=4) (N:=(["number","comes","found"]:List Str)) (ini:=[none,some 1,some 2]) sc_found_by_rounds.nd rfl (Or.inl rfl) rfl (Jix (by rfl) T.Jas (Ji0 (pv 0) Ji2)) (fun _ _ _ _ _=>(Jie (i:=0) (by decide +kernel:(["number","comes","found"]:List Str).Nodup) rfl (Or.inl rfl))) (fun _ _ _ _ _=>(Jkr (PW.pt (Jqs (Jim Joz (Jin (Jlt (K:=K) rfl) (pv 2) (pv 0) (fun _ _=>rfl)) Jk1 (Jio _)) (Jo8 (Jiv (Jsa (P:=P) (w:=w) (K:=K) (mg:=mg) (base:=base) rfl rfl rfl rfl rfl G_comes hr (by decide) 1 (Ji0 (pv 0) (Ji0 (pv 2) Ji2))))))))) (fun _ _ _ _ _=>(pv 0)))))))
      case r7=>
       refine' Ji4 ?s9
       case s9=>
        exact (Jib (pv 2))
  refine ⟨_,rfl,_,rfl,by omega,by omega,fun M hM=>?_⟩
  refine Jjk (lo:=0) (fun i σ H'=>(∃o',σ= [o'])∧H' M=some (.lst ((List.replicate i (none:Option Int)).map oV))∧Same H H') ⟨⟨_,rfl⟩,Ji1,Same.upd hM⟩ ?_ ?_
  ·rintro i σ H' hi' ⟨⟨o1,rfl⟩,hDs,sm⟩
   refine Jj5 ⟨_,hDs,?_,⟨_,rfl⟩,?_,?_⟩
   ·rw [List.length_map,List.length_replicate]
    exact Jii (by omega)
   ·rw [Ji1,List.replicate_succ',List.map_append]
    rfl
   ·intro c2 o' z
    rw [Ji7 (Ji8 z hM)]
    exact sm _ _ z
  rintro σ1 H1 ⟨_,hMs,s1⟩
  rw [show ((nLv B:Nat):Int).toNat=nLv B from Int.toNat_natCast _] at hMs
  refine ⟨_,rfl,_,rfl,by omega,by omega,fun F hF=>?_⟩
  have ef:∀(p:Nat→Bool) (i:Nat),(List.range (i+1)).filter p=(List.range i).filter p++(if p i=true then [i] else []):=by
   intro p i
   rw [List.range_succ,List.filter_append]
   congr 1
   by_cases c:p i=true <;> simp [c]
  have fl:∀(p:Nat→Bool) (i:Nat),i≤13→(nsV ((List.range i).filter p)).length < sizeLine:=by
   intro p i hi'
   unfold nsV
   rw [List.length_map]
   refine Jii (Nat.le_trans (List.length_filter_le _ _) ?_)
   rw [List.length_range]
   omega
  refine Jjk (lo:=0) (fun i σ H'=>(∃o',σ= [o',some (.ref c),some (.ref M)])∧Same H1 H'∧H' F=some (.lst (nsV ((List.range i).filter (Jkb B up hi (List.replicate (nLv B) none)))))) ⟨⟨_,rfl⟩,Same.upd hF,Ji1⟩ ?_ ?_
  ·rintro i σ H' hi' ⟨⟨o1,rfl⟩,sm,hFs⟩
   have hi2:i < nLv B:=by rw [show ((nLv B:Nat):Int).toNat=nLv B from Int.toNat_natCast _] at hi';exact hi'
   refine ⟨c,rfl,_,rfl,_,rfl,[.ref W],(cm.same s1).same sm,W,M,B,up,hi,i,_,rfl,by simp,(wa.same s1).same sm,sm _ _ hMs,by simp,bg,hup,hi2,fun H2 s2=>⟨_,rfl,?_⟩⟩
   have hF2:=s2 _ _ hFs
   refine Jl9 (fun q=>?_) (fun q=>?_)
   ·refine ⟨_,rfl,_,hF2,fl _ i (by omega),⟨_,rfl⟩,?_,?_⟩
    ·intro c2 o' z
     rw [Ji7 (Ji8 z hF)]
     exact s2 _ _ (sm _ _ z)
    ·rw [Ji1,ef,if_pos q]
     unfold nsV
     rw [List.map_append]
     simp
   ·refine ⟨⟨_,rfl⟩,sm.trans s2,?_⟩
    rw [ef,if_neg q,List.append_nil]
    exact hF2
  rintro σ2 H2 ⟨_,s2,hFs⟩
  rw [show ((nLv B:Nat):Int).toNat=nLv B from Int.toNat_natCast _] at hFs
  have e0:Jij B up hi (List.replicate (nLv B) none)=(List.range (nLv B)).filter (Jkb B up hi (List.replicate (nLv B) none)):=by
   unfold Jij
   refine List.filter_congr fun n hn=>?_
   have lt:=List.mem_range.mp hn
   simp [List.getD_eq_getElem?_getD,lt]
  have nFM:F≠M:=fun z=>by rw [z,hMs] at hF;cases hF
  have sM:∀{H':Hp} {o:HO},Same H H'→Same H (upd H' M o):=fun s b u z=>by rw [Ji7 (Ji8 z hM)];exact s _ _ z
  refine ⟨RndI B up hi H c M,
   ⟨_,List.replicate (nLv B) none,0,F,none,rfl,rfl,by simp,s1.trans s2,s2 _ _ hMs,by rw [e0];exact hFs,nFM,?_⟩,?_⟩
  ·refine Jm1 _ _ _ _ (by simp) (Nat.lt_succ_self _) ?_
   unfold Jja
   refine Nat.lt_succ_of_le (Nat.le_trans (List.countP_le_length ..) ?_)
   simp
  rintro m σ' H' ⟨l,r,F,o5,rfl,rfl,hl,sm,hM',hF',nFM,hL⟩
  refine ⟨_,rfl,F,_,rfl,.inl (SqL.of hF'),_,_,rfl,rfl,_,rfl,Jl9 (fun q=>?_) (fun q=>?_)⟩
  ·have ne:Jij B up hi l≠ []:=fun z=>by
    rw [z] at q
    cases q
   refine ⟨fun σ H'=>∃m',m' < Jja l∧RndI B up hi H c M m' σ H',fun _ _ h=>h,?_⟩
   refine ⟨_,rfl,_,_,rfl,rfl,?_⟩
   refine ⟨_,rfl,F,rfl,⟨_,SqL.of hF'⟩,?_⟩
   refine Jma (K:=K) (xs:=nsV (Jij B up hi l)) (fun i σ H2=>(∃o5,σ= [some (.int (nLv B:Nat)),some (.ref c),some (.ref M),some (.int (r+1)),some (.ref F),o5])∧Same H H2∧H2 M=some (.lst ((Jld l ((Jij B up hi l).take i) (r+1)).map oV))∧H2 F=some (.lst (nsV (Jij B up hi l)))) ⟨⟨_,rfl⟩,sm,hM',hF'⟩ (fun i σ H2 _ h=>SqL.of h.2.2.2) ?_ ?_
   ·rintro i x σ H2 hx ⟨⟨o,rfl⟩,s',hM2,hF2⟩
    unfold nsV at hx
    rw [List.getElem?_map] at hx
    obtain ⟨n,hn,rfl⟩:=Option.map_eq_some_iff.mp hx
    have hn2:=Jor hl (List.mem_of_getElem? hn)
    refine ⟨_,rfl,_,rfl,_,rfl,M,_,(n:Int),n,rfl,rfl,hM2,?_,⟨_,rfl⟩,sM s',?_,?_⟩
    ·unfold ixN
     rw [List.length_map,Jlw,hl,if_pos (by omega),if_pos (by have:=hn2.1;omega)]
     simp
    ·rw [Ji1,List.take_add_one,hn]
     show _=some (HO.lst ((Jld l (_++ [n]) (r+1)).map oV))
     rw [Jsc,List.map_set]
     rfl
    ·rw [Ji7 nFM]
     exact hF2
   rintro σ3 H3 ⟨⟨o,rfl⟩,s3,hM3,hF3⟩
   have el:(nsV (Jij B up hi l)).length=(Jij B up hi l).length:=by unfold nsV;rw [List.length_map]
   rw [el,List.take_length] at hM3
   have lt2:=Jli (r:=r+1) hl ne
   have ln2:(Jld l (Jij B up hi l) (r+1)).length=nLv B:=by rw [Jlw];exact hl
   have hL2:Jlu B up hi (Jja (Jld l (Jij B up hi l) (r+1))+1) (Jld l (Jij B up hi l) (r+1)) (r+1)=Jkc B up hi:=by
    rw [←hL]
    show _=(if Jij B up hi l= [] then l else Jlu B up hi (Jja l) (Jld l (Jij B up hi l) (r+1)) (r+1))
    rw [if_neg ne]
    exact Jm1 _ _ _ _ ln2 (Nat.lt_succ_self _) lt2
   generalize Jld l (Jij B up hi l) (r+1)=l2 at hM3 lt2 ln2 hL2
   refine ⟨_,rfl,_,rfl,by omega,by omega,fun F2 hF2=>?_⟩
   have nF2:F2≠M:=fun z=>by rw [z,hM3] at hF2;cases hF2
   refine Jjk (lo:=0) (fun i σ H'=>(∃o',σ= [o',some (.ref c),some (.ref M)])∧Same H3 H'∧H' F2=some (.lst (nsV ((List.range i).filter fun n=>(l2.getD n none).isNone&&Jkb B up hi l2 n)))) ⟨⟨_,rfl⟩,Same.upd hF2,Ji1⟩ ?_ ?_
   ·rintro i σ H4 hi' ⟨⟨o1,rfl⟩,s4,hFs⟩
    have hi2:i < nLv B:=by rw [show ((nLv B:Nat):Int).toNat=nLv B from Int.toNat_natCast _] at hi';exact hi'
    have zi:(0+(i:Int))=i:=by omega
    have hM4:=s4 _ _ hM3
    refine ⟨_,rfl,_,rfl,M,_,_,_,rfl,rfl,SqL.of hM4,oV_at (i:=0+(i:Int)) (by omega),rfl,_,rfl,?_⟩
    rw [Jt2,zi,show ((i:Nat):Int).toNat=i from Int.toNat_natCast _]
    refine Jl9 (fun q1=>?_) (fun q1=>?_)
    ·refine ⟨c,rfl,_,rfl,_,rfl,[.ref W],(cm.same s3).same s4,W,M,B,up,hi,i,_,rfl,by simp,(wa.same s3).same s4,hM4,ln2,bg,hup,hi2,fun H5 s5=>⟨_,rfl,?_⟩⟩
     have hF5:=s5 _ _ hFs
     refine Jl9 (fun q2=>?_) (fun q2=>?_)
     ·refine ⟨_,rfl,_,hF5,fl _ i (by omega),⟨_,rfl⟩,?_,?_⟩
      ·intro c2 o' z
       rw [Ji7 (Ji8 z hF2)]
       exact s5 _ _ (s4 _ _ z)
      ·rw [Ji1,ef,if_pos (by rw [q1,q2];rfl)]
       unfold nsV
       rw [List.map_append]
       simp
     ·refine ⟨⟨_,rfl⟩,s4.trans s5,?_⟩
      rw [ef,if_neg (by rw [q1];simpa using q2),List.append_nil]
      exact hF5
    ·refine ⟨⟨_,rfl⟩,s4,?_⟩
     rw [ef,if_neg (by intro z;rw [Bool.and_eq_true] at z;exact q1 z.1),List.append_nil]
     exact hFs
   rintro σ5 H5 ⟨_,s5,hFs⟩
   rw [show ((nLv B:Nat):Int).toNat=nLv B from Int.toNat_natCast _] at hFs
   exact ⟨Jja l2,lt2,l2,r+1,F2,_,rfl,rfl,ln2,s3.trans s5,s5 _ _ hM3,hFs,nF2,hL2⟩
  ·have em:Jij B up hi l= []:=by
    cases hc:Jij B up hi l with
    |nil=>rfl
    |cons x xs=>
     rw [hc] at q
     exact absurd (by simp [nsV]) q
   have ee:Jkc B up hi=l:=by
    rw [←hL]
    show (if Jij B up hi l= [] then l else _)=l
    rw [if_pos em]
   exact ⟨_,rfl,k M H' sm hM (by rw [ee];exact hM')⟩
end
def Yay (a:Ad):Sp:=fun vs H Q _=>∃(W:Addr) (Bd:BTd) (up hi:Int),vs= [.ref W]∧H a.Jhz=some (.tbl lb_lost_alone)∧WaysAt Bd up hi H W∧BGd Bd∧(0≤up∧up≤12)∧∀M H',Same H H'→H' M=some (.lst ((Jkc Bd up hi).map oV))→Q (.ref M) H'
theorem Ju4 (Bd:BTd):(Jqc Bd).length=nLv Bd:=by
 unfold Jqc nLv
 rw [List.length_map,List.length_range]
section
variable {P:Program} {w:World} {K:W.Frag} {mg:Str→Option Value} {base:Heap} {a:Ad}
theorem sc_lost_alone:Jia ["ways","comes"] ["ways"] (Ji5 (top 26)):=⟨rfl,rfl,rfl,by decide +kernel,rfl,by decide +kernel,by decide +kernel⟩
theorem Jrh (T:Tx K mg a) (B:Bmn mg base):FnOk P w K mg base CX0 4 a.Jen a.Jeo ["ways"] (Yay a):=by
 have G_found_by_rounds:=Jnl (P:=P) (w:=w) (base:=base) T
 refine T.J9.fn.okN T.Jdd sc_lost_alone (fun vs H Q E h=>?_) (fun A outer s H vs Q E hr h=>?_)
 ·obtain ⟨W,Bd,up,hi,rfl,_⟩:=h
  rfl
 ·obtain ⟨W,Bd,up,hi,rfl,ht,wa,bg,hup,k⟩:=h
  obtain ⟨ps,hW,pp⟩:=id wa
  have hl:ps.length=nLv Bd:=(Paired.length pp).symm.trans (Ju4 Bd)
  refine ⟨?t,?B,?C⟩
  case B=>
   refine' pb_def (st:=nst (top 26) 0) (name:="comes") (qual:="lost_alone.<locals>.comes") (i:=1) (lb:=lb_lost_alone) (caps:=[("ways",0)]) T.Jdd B rfl rfl rfl rfl rfl (by rfl) lb_one (fun _=>Ya4) sc_lost_alone.nd rfl rfl (by intro y hy;simp only [List.mem_cons,List.not_mem_nil,or_false] at hy;rcases hy with rfl <;> exact ⟨rfl,by decide,rfl,rfl,rfl⟩) (by decide +kernel) ?r1
   case r1=>
    refine' PSs.pb ?s2
    case s2=>
     refine' Ji4 ?s3
     case s3=>
      exact (Jib (Ji9 T.J3 G_found_by_rounds hr (by decide) (Ji0 (Jic Jil (by rfl) T.Jao Jjg (Ji0 (pv 0) Ji2)) (Ji0 (pv 1) Ji2))))
  refine ⟨ht,[.ref W],?_,rfl,fun f H' s' hf clo=>?_⟩
  ·intro y hy
   obtain rfl:y=(((("ways" :Str),0):Str×Nat),V.ref W):=List.mem_singleton.mp hy
   rfl
  ·refine ⟨_,rfl,W,_,rfl,.inl (SqL.of (s' _ _ hW)),_,rfl,f,W,Bd,up,hi,?_,clo,wa.same s',bg,hup,fun M H2 s2 _ hM=>k M H2 (s'.trans s2) hM⟩
   rw [List.length_map,hl]
   rfl
end
theorem Jva {B:BTd} {up hi:Int}:∀(k:Nat) (l:List (Option Int)) (r:Int),l.length=nLv B→Jja l < k→Jij B up hi (Jlu B up hi k l r)= []∧(Jlu B up hi k l r).length=nLv B:=by
 intro k
 induction k with
 |zero=>intro l r _ h;omega
 |succ k ih=>
  intro l r hl h
  show Jij B up hi (if Jij B up hi l= [] then l else _)= []∧(if Jij B up hi l= [] then l else _).length=_
  by_cases hf:Jij B up hi l= []
  ·rw [if_pos hf]
   exact ⟨hf,hl⟩
  ·rw [if_neg hf]
   have:=Jli (r:=r+1) hl hf
   exact ih _ _ (by rw [Jlw];exact hl) (by omega)
theorem Jqb (B:BTd) (up hi:Int):Jij B up hi (Jkc B up hi)= []∧(Jkc B up hi).length=nLv B:=by
 refine Jva _ _ _ (by simp) ?_
 unfold Jja
 refine Nat.lt_succ_of_le (Nat.le_trans (List.countP_le_length ..) ?_)
 simp
def Jkk (B:BTd) (up hi:Int) (n:Nat):Bool:=((Jkc B up hi).getD n none).isNone
def Jm7 (B:BTd) (up hi:Int):List Nat:=(List.range (nLv B)).filter (Jkk B up hi)
def Jlm (B:BTd) (up hi:Int) (n:Nat):Int:=(((usable B hi (B.lo+n)).filter (Jjz B up (B.lo+n) (Jkc B up hi))).head?).getD 0
theorem Jq6 {B:BTd} {up hi:Int} {n:Nat} (h:n∈Jm7 B up hi):n < nLv B∧((usable B hi (B.lo+n)).filter (Jjz B up (B.lo+n) (Jkc B up hi))).head?=some (Jlm B up hi n):=by
 unfold Jm7 at h
 obtain ⟨h1,h2⟩:=List.mem_filter.mp h
 have lt:=List.mem_range.mp h1
 refine ⟨lt,?_⟩
 have d:=(Jqb B up hi).1
 unfold Jij at d
 have q:=List.filter_eq_nil_iff.mp d n h1
 unfold Jkk at h2
 rw [h2,Bool.true_and] at q
 unfold Jkb at q
 unfold Jlm
 cases hc:(usable B hi (B.lo+n)).filter (Jjz B up (B.lo+n) (Jkc B up hi)) with
 |nil=>
  refine absurd ?_ q
  rw [Bool.not_eq_true',List.any_eq_false]
  intro x hx
  exact List.filter_eq_nil_iff.mp hc x hx
 |cons x xs=>rfl
def Jny (B:BTd) (up hi:Int):List (Key×V):=(Jm7 B up hi).map fun n:Nat=>(Sum.inl (B.lo+n),V.int (Jlm B up hi n))
theorem WayAt.put {B:BTd} {up hi lv:Int} {H:Hp} {p D:Addr} {ps:List Addr} {o:HO} (hup:0≤up) (hrn:0≤B.rn) (hD:H D=some (.lst (ps.map V.ref))) (h:WayAt B up hi lv H p):WayAt B up hi lv (upd H D o) p:=by
 obtain ⟨ob,rs,h1,h2⟩:=h
 have n1:p≠D:=fun z=>by rw [z,hD] at h1;cases h1
 refine ⟨ob,rs,by rw [Ji7 n1];exact h1,Paired.mapP h2 fun s r q=>RowE.put (rs:=ps.map fun p=>(p,p)) hup hrn ?_ q⟩
 rw [hD,List.map_map]
 rfl
def spSets (a:Ad):Sp:=fun vs H Q _=>∃(o:Addr) (Bd:BTd) (up hi:Int),vs= [.ref o,.int up,.int hi]∧H a.Jhz=some (.tbl lb_lost_alone)∧BX a H o Bd∧BGd Bd∧(0≤up∧up≤12)∧
 ∀p ob H',Same H H'→H' p=some (.frz ob (.dK (Jny Bd up hi)))→Q (.ref p) H'
section
variable {P:Program} {w:World} {K:W.Frag} {mg:Str→Option Value} {base:Heap} {a:Ad}
theorem sc_settings_alone:Jia ["basin","up","hi","ways","lost","held"] ["basin","up","hi"] (Ji5 (top 27)):=⟨rfl,rfl,rfl,by decide +kernel,rfl,by decide +kernel,by decide +kernel⟩
theorem Jlj (T:Tx K mg a) (Bm:Bmn mg base):FnOk P w K mg base CX0 6 a.Jep a.Jeq ["basin","up","hi"] (spSets a):=by
 have G_levels_of:=Jtb (P:=P) (w:=w) (base:=base) T
 have G_ends_by_setting:=Jnk (P:=P) (w:=w) (base:=base) T
 have G_lost_alone:=Jrh (P:=P) (w:=w) T Bm
 have G_first_safe:=Jre (P:=P) (w:=w) (base:=base) T
 refine T.Ja.fn.ok sc_settings_alone (fun vs H Q E h=>?_) (fun cdv A outer s H vs Q E hr h=>?_)
 ·obtain ⟨o,Bd,up,hi,rfl,_⟩:=h
  rfl
 ·obtain ⟨o,Bd,up,hi,rfl,ht,bx,bg,hup,k⟩:=h
  have n13:=Jvh bg
  refine ⟨?t,?B,?C⟩
  case B=>
   refine' Ji3 ?s1 ?r1
   case s1=>
    exact (Jik (i:=3) sc_settings_alone.nd rfl (Or.inr rfl) (Jj2 (N:=(["level","basin","up","hi"]:List Str)) (ini:=[none,some 0,some 1,some 2]) rfl (Jj7 (Ji9 T.J6 G_levels_of hr (by decide) (Ji0 (pv 0) Ji2))) (fun _ _ _ _ _=>(Jie (i:=0) (by decide +kernel:(["level","basin","up","hi"]:List Str).Nodup) rfl (Or.inl rfl))) (fun _ _ _ _ _=>Jj3) (fun _ _ _ _ _=>(Ji9 T.J8 G_ends_by_setting hr (by decide) (pa4 (pv 1) (pv 2) (pv 3) (pv 0))))))
   case r1=>
    refine' Ji3 ?s3 ?r3
    case s3=>
     exact (Jik (i:=4) sc_settings_alone.nd rfl (Or.inr rfl) (Ji9 T.J9 G_lost_alone hr (by decide) (Ji0 (pv 3) Ji2)))
    case r3=>
     refine' Ji3 ?s5 ?r5
     case s5=>
      exact (Jks (i:=5) (N:=(["number","turns"]:List Str)) (ini:=[none,none]) sc_settings_alone.nd rfl (Or.inl rfl) rfl (Yae (by rfl) T.Jal (Ji0 (pv 4) Ji2)) (fun _ _ _ _ _=>(Jte (K:=K) (n:=2) rfl rfl (Jjj (Jie (i:=0) (by decide +kernel:(["number","turns"]:List Str).Nodup) rfl (Or.inl rfl)) (Jjj (Jie (i:=1) (by decide +kernel:(["number","turns"]:List Str).Nodup) rfl (Or.inl rfl)) Jmy)))) (fun _ _ _ _ _=>(Jkr (Jim Joz (pv 1) Jk1 (Jio _)))) (fun _ _ _ _ _=>(pv 0)))
     case r5=>
      refine' Ji4 ?s7
      case s7=>
       exact (Jib (Jj6 (Jpy rfl) (by rfl) T.Jak Jwe (Ji0 (Jj2 (N:=(["number","lost","basin","ways"]:List Str)) (ini:=[none,some 4,some 0,some 3]) rfl (Jj7 (pv 5)) (fun _ _ _ _ _=>(Jie (i:=0) (by decide +kernel:(["number","lost","basin","ways"]:List Str).Nodup) rfl (Or.inl rfl))) (fun _ _ _ _ _=>Jj3) (fun _ _ _ _ _=>(Jke (Ji0 (Jig Jit (Jkq (K:=K) rfl (pv 2) (by rfl)) (pv 0)) (Ji0 (Ji9 T.Jb G_first_safe hr (by decide) (Ji0 (Jin (Jlt (K:=K) rfl) (pv 3) (pv 0) (fun _ _=>rfl)) (Ji0 (pv 1) Ji2))) Ji2))))) Ji2)))
  refine ⟨_,rfl,o,Bd,rfl,bx,bg,fun L H1 s1 hL=>⟨L,rfl,⟨_,SqL.of hL⟩,fun D hD=>?_⟩⟩
  refine Jjb (K:=K) (xs:=(Jqc Bd).map V.int) (fun i σ H'=>(∃o',σ= [o',some (.ref o),some (.int up),some (.int hi)])∧Same H1 H'∧∃ps:List Addr,H' D=some (.lst (ps.map V.ref))∧Paired (fun lv p=>WayAt Bd up hi lv H' p) ((Jqc Bd).take i) ps) ⟨⟨_,rfl⟩,Same.upd hD,[],Ji1,.nil⟩ (fun i σ H' _ ⟨_,sm,_⟩=>SqL.of (sm _ _ hL)) ?_ ?_
  ·rintro i x σ H' hx ⟨⟨o1,rfl⟩,sm,ps,hDs,pr⟩
   rw [List.getElem?_map] at hx
   obtain ⟨lv,hlv,rfl⟩:=Option.map_eq_some_iff.mp hx
   have il:i < (Jqc Bd).length:=(List.getElem?_eq_some_iff.mp hlv).1
   have rg:0≤lv∧lv≤12:=by
    have e:=(List.getElem?_eq_some_iff.mp hlv).2
    unfold Jqc at e il
    simp at e il
    have:=bg.lo
    have:=bg.hi
    omega
   refine Jj5 ⟨_,rfl,_,rfl,_,rfl,_,rfl,o,Bd,up,hi,lv,rfl,(bx.same s1).same sm,bg,hup,rg,fun p H2 s2 wp=>?_⟩
   have hD2:=s2 _ _ hDs
   have lp:ps.length=i:=by
    have e1:=Paired.length pr
    rw [List.length_take] at e1
    omega
   rw [Ju4] at il
   refine ⟨_,hD2,?_,⟨_,rfl⟩,?_,ps++ [p],?_,?_⟩
   ·rw [List.length_map]
    exact Jii (by omega)
   ·intro c2 o' z
    rw [Ji7 (Ji8 z hD)]
    exact s2 _ _ (sm _ _ z)
   ·rw [Ji1,List.map_append]
    rfl
   ·rw [List.take_add_one,hlv]
    exact Paired.snoc (Paired.mapP pr fun lv' p' q=>(q.same s2).put hup.1 bg.rn.1 hD2) (wp.put hup.1 bg.rn.1 hD2)
  rintro σ2 H2 ⟨_,s2,ps,hW,pr⟩
  rw [List.take_of_length_le (by rw [List.length_map];exact Nat.le_refl _)] at pr
  have s02:=s1.trans s2
  refine ⟨_,rfl,D,Bd,up,hi,rfl,s02 _ _ ht,⟨ps,hW,pr⟩,bg,hup,fun M H3 s3 hM=>?_⟩
  have ll:=(Jqb Bd up hi).2
  have ef:∀(p:Nat→Bool) (i:Nat),(List.range (i+1)).filter p=(List.range i).filter p++(if p i=true then [i] else []):=by
   intro p i
   rw [List.range_succ,List.filter_append]
   congr 1
   by_cases c:p i=true <;> simp [c]
  refine ⟨_,rfl,M,rfl,⟨_,SqL.of hM⟩,fun D5 hD5=>?_⟩
  refine Jyj (K:=K) (a:=M) (xs:=(Jkc Bd up hi).map oV) (fun i σ H'=>(∃o1 o2,σ= [o1,o2])∧Same H3 H'∧H' D5=some (.lst (nsV ((List.range i).filter (Jkk Bd up hi))))) ⟨⟨_,_,rfl⟩,Same.upd hD5,Ji1⟩ (fun i σ H' _ ⟨_,sm,_⟩=>SqL.of (sm _ _ hM)) ?_ ?_
  ·rintro i x σ H' T1 hx ⟨⟨o1,o2,rfl⟩,sm,hDs⟩ hT
   rw [List.getElem?_map] at hx
   obtain ⟨e,he,rfl⟩:=Option.map_eq_some_iff.mp hx
   have il:i < nLv Bd:=by have:=(List.getElem?_eq_some_iff.mp he).1;omega
   have eh:Jkk Bd up hi i=e.isNone:=by unfold Jkk;rw [List.getD_eq_getElem?_getD,he];rfl
   have sT:=Same.upd (o:=.tup [.int i,oV e]) hT
   refine ⟨T1,_,rfl,SqT.of Ji1,rfl,_,_,rfl,_,_,rfl,rfl,?_⟩
   refine ⟨_,rfl,rfl,_,rfl,?_⟩
   rw [Jt2,←eh]
   have hDs2:=sT _ _ hDs
   refine Jl9 (fun q=>?_) (fun q=>?_)
   ·refine ⟨_,rfl,_,hDs2,?_,⟨_,_,rfl⟩,?_,?_⟩
    ·unfold nsV
     rw [List.length_map]
     refine Jii (Nat.le_trans (List.length_filter_le _ _) ?_)
     rw [List.length_range]
     omega
    ·intro c2 o' z
     rw [Ji7 (Ji8 z hD5)]
     exact sT _ _ (sm _ _ z)
    ·rw [Ji1,ef,if_pos q]
     unfold nsV
     rw [List.map_append]
     rfl
   ·refine ⟨⟨_,_,rfl⟩,sm.trans sT,?_⟩
    rw [ef,if_neg q,List.append_nil]
    exact hDs2
  rintro σ4 H4 ⟨_,s4,hDs⟩
  rw [List.length_map,ll] at hDs
  have hDs:H4 D5=some (.lst (nsV (Jm7 Bd up hi))):=hDs
  obtain ⟨dx,g,ho,gx⟩:=bx
  have hhl:(Jm7 Bd up hi).length≤13:=by
   unfold Jm7
   refine Nat.le_trans (List.length_filter_le _ _) ?_
   rw [List.length_range]
   exact n13
  refine ⟨_,rfl,D5,rfl,⟨_,SqL.of hDs⟩,fun D6 hD6=>?_⟩
  refine Jjb (K:=K) (xs:=nsV (Jm7 Bd up hi)) (fun i σ H'=>(∃o',σ= [o',some (.ref M),some (.ref o),some (.ref D)])∧Same H4 H'∧∃ts:List Addr,H' D6=some (.lst (ts.map V.ref))∧Paired (fun (n:Nat) t=>H' t=some (.tup [.int (Bd.lo+n),.int (Jlm Bd up hi n)])) ((Jm7 Bd up hi).take i) ts) ⟨⟨_,rfl⟩,Same.upd hD6,[],Ji1,.nil⟩ (fun i σ H' _ ⟨_,sm,_⟩=>SqL.of (sm _ _ hDs)) ?_ ?_
  ·rintro i x σ H' hx ⟨⟨o1,rfl⟩,sm,ts,hD,pt⟩
   unfold nsV at hx
   rw [List.getElem?_map] at hx
   obtain ⟨n,hn,rfl⟩:=Option.map_eq_some_iff.mp hx
   have il:i < (Jm7 Bd up hi).length:=(List.getElem?_eq_some_iff.mp hn).1
   obtain ⟨nl,hf⟩:=Jq6 (List.mem_of_getElem? hn)
   have s24:=(s3.trans s4).trans sm
   obtain ⟨p,hp,wp⟩:=Jjm pr (i:=n) (x:=Bd.lo+n) (by unfold Jqc;simp [show n < (Bd.hi+1 - Bd.lo).toNat from nl])
   refine Jj5 ⟨_,rfl,o,_,dx,_,_,rfl,s24 _ _ (s02 _ _ ho),T.Jct,T.Jcx,rfl,_,rfl,_,_,rfl,rfl,_,rfl,_,rfl,D,_,(n:Int),_,rfl,rfl,SqL.of (s24 _ _ hW),Jjv (j:=n) (by rw [List.getElem?_map,hp];rfl),_,rfl,p,M,Bd,up,hi,Bd.lo+n,Jlm Bd up hi n,Jkc Bd up hi,rfl,wp.same s24,(s4.trans sm) _ _ hM,ll,bg,hup,hf,fun H5 s5=>?_⟩
   refine ⟨(show 2≤sizeLine by decide),fun T1 hT=>?_⟩
   have sT:=Same.upd (o:=.tup [.int (Bd.lo+n),.int (Jlm Bd up hi n)]) hT
   have hD2:=sT _ _ (s5 _ _ hD)
   have lt:ts.length=i:=by
    have e1:=Paired.length pt
    rw [List.length_take] at e1
    omega
   have nt:∀{t:Addr} {xs:List V},(upd H5 T1 (.tup [.int (Bd.lo+n),.int (Jlm Bd up hi n)])) t=some (.tup xs)→t≠D6:=fun h z=>by rw [z,hD2] at h;cases h
   refine ⟨_,hD2,?_,⟨_,rfl⟩,?_,ts++ [T1],?_,?_⟩
   ·rw [List.length_map]
    exact Jii (by omega)
   ·intro c2 o' z
    rw [Ji7 (Ji8 z hD6)]
    exact sT _ _ (s5 _ _ (sm _ _ z))
   ·rw [Ji1,List.map_append]
    rfl
   ·rw [List.take_add_one,hn]
    refine Paired.snoc (Paired.mapP pt fun m t q=>?_) ?_
    ·have q2:=sT _ _ (s5 _ _ q)
     rw [Ji7 (nt q2)]
     exact q2
    ·rw [Ji7 (nt Ji1)]
     exact Ji1
  rintro σ6 H6 ⟨_,s6,ts,hD,pt⟩
  rw [List.take_of_length_le (by unfold nsV;rw [List.length_map];exact Nat.le_refl _)] at pt
  refine ⟨D6,_,Jny Bd up hi,rfl,hD,?_,?_,?_,fun p ob hp=>k p ob _ (((s02.trans s3).trans (s4.trans s6)).trans (Same.upd hp)) Ji1⟩
  ·have go:∀{ns:List Nat} {ts:List Addr},Paired (fun (n:Nat) t=>H6 t=some (.tup [.int (Bd.lo+n),.int (Jlm Bd up hi n)])) ns ts→Jsk H6 (ts.map V.ref) (ns.map fun n:Nat=>(Sum.inl (Bd.lo+n),V.int (Jlm Bd up hi n))):=by
    intro ns ts h
    induction h with
    |nil=>exact .nil
    |cons h t ih=>exact .cons ⟨_,rfl,h⟩ ih
   exact go pt
  ·unfold Jny
   rw [List.length_map]
   omega
  ·unfold Jny
   rw [List.map_map]
   refine List.Pairwise.map _ (fun x y h z=>h ?_) (List.Pairwise.filter _ List.nodup_range)
   have:=Sum.inl.inj z
   omega
end
section
variable {P:Program} {w:World} {K:W.Frag} {mg:Str→Option Value} {base:Heap} {a:Ad}
theorem Jrk:Jia ["names"] ["names"] (Ji5 (top 56)):=⟨rfl,rfl,rfl,by decide +kernel,rfl,by decide +kernel,by decide +kernel⟩
theorem Jn8 (T:Tx K mg a):FnOk P w K mg base CX0 1 a.Jfx a.Jfy ["names"] (Ye K):=by
 refine T.Jl.fn.ok Jrk (fun vs H Q E h=>?_) (fun cdv A outer s H vs Q E hr h=>?_)
 ·obtain ⟨l,zs,rfl,_⟩:=h
  rfl
 ·obtain ⟨l,zs,rfl,hq,hz,k⟩:=h
  refine ⟨_,(Ji4 (Jib (Jk6 Jn9 (Jic Jq0 (by rfl) T.Jao Jjg (Ji0 (Jj6 (Jq1 rfl) (by rfl) T.Jat Jyg (Ji0 (pv 0) Ji2)) Ji2)) (Jic Jil (by rfl) T.Jao Jjg (Ji0 (pv 0) Ji2)) (Jio _)))),?_⟩
  refine ⟨_,rfl,l,zs,rfl,hq,hz,fun t ht=>⟨t,zs,rfl,Ji1,?_⟩⟩
  have s1:=Same.upd (o:=TxS P w t zs) ht
  refine ⟨_,rfl,l,_,rfl,.inl (s1.seq hq),rfl,?_⟩
  have e:decide (V.int ((uq zs).length:Nat)=V.int ((zs.map V.str).length:Nat))=decide ((uq zs).length=zs.length):=by
   rw [List.length_map]
   by_cases h:(uq zs).length=zs.length
   ·rw [decide_eq_true h,decide_eq_true (by rw [h])]
   ·rw [decide_eq_false h,decide_eq_false (fun q=>h (by have:=V.int.inj q;omega))]
  rw [e]
  exact k _ s1
theorem Jrj:Jia ["thing"] ["thing"] (Ji5 (top 57)):=⟨rfl,rfl,rfl,by decide +kernel,rfl,by decide +kernel,by decide +kernel⟩
theorem Jrb (T:Tx K mg a):FnOk P w K mg base CX0 2 a.Jfz a.Jg0 ["thing"] (Y0 K a):=by
 have G_are_unlike:=Jn8 (P:=P) (w:=w) (base:=base) T
 refine T.Jm.fn.ok Jrj (fun vs H Q E h=>?_) (fun cdv A outer s H vs Q E hr h=>?_)
 ·obtain ⟨l,os,Bs,rfl,_⟩:=h
  rfl
 ·obtain ⟨l,os,Bs,rfl,hl,bl,hn,nd,k⟩:=h
  have len:=bl.len
  refine ⟨?t,?B,?C⟩
  case B=>
   refine' Ji3 ?s1 ?r1
   case s1=>
    refine' Jis ?c2 ?a2 ?b2
    case c2=>
     exact (PW.pt (Jo9 (Jj4 (Jiv (Jic Jpz (by rfl) T.Jan Jip (Ji0 (pv 0) (Ji0 (Jke (Ji0 (Jjy (v:=.ty "list") (by rfl) T.Jap Jmu rfl) (Ji0 (Jjy (v:=.ty "tuple") (by rfl) T.Jaw Jl7 rfl) Ji2))) Ji2))))) (Jmk (Jj4 (Jo7 Jlk Jlk Ji6 (Jic Jil (by rfl) T.Jao Jjg (Ji0 (pv 0) Ji2)) (Jjh (by rfl) T.Jaf (v:=.int 16) ⟨_,rfl⟩))))))
    case a2=>
     refine' Ji4 ?s3
     case s3=>
      exact (Jib Jjt)
    case b2=>
     exact Jih
   case r1=>
    refine' Ji3 ?s7 ?r7
    case s7=>
     refine' Jis ?c8 ?a8 ?b8
     case c8=>
      exact (Jj4 (Jiv (Jic (Jlr rfl) (by rfl) T.Jah Jol (Ji0 (Jj2 (N:=(["basin"]:List Str)) (ini:=[none]) rfl (Jj7 (pv 0)) (fun _ _ _ _ _=>(Jie (i:=0) (by decide +kernel:(["basin"]:List Str).Nodup) rfl (Or.inl rfl))) (fun _ _ _ _ _=>Jj3) (fun _ _ _ _ _=>(Jic (Joo (K:=K) rfl) (by rfl) T.Jan Jip (Ji0 (pv 0) (Ji0 (Jjh (by rfl) T.Jb9 (v:=.ref _) rfl) Ji2))))) Ji2))))
     case a8=>
      refine' Ji4 ?s9
      case s9=>
       exact (Jib Jjt)
     case b8=>
      exact Jih
    case r7=>
     refine' Ji4 ?s13
     case s13=>
      exact (Jib (Ji9 T.Jl G_are_unlike hr (by decide) (Ji0 (Jj2 (N:=(["basin"]:List Str)) (ini:=[none]) rfl (Jj7 (pv 0)) (fun _ _ _ _ _=>(Jie (i:=0) (by decide +kernel:(["basin"]:List Str).Nodup) rfl (Or.inl rfl))) (fun _ _ _ _ _=>Jj3) (fun _ _ _ _ _=>(Jkq (K:=K) rfl (pv 0) (by rfl)))) Ji2)))
  refine ⟨_,rfl,(show 2≤sizeLine by decide),fun p hp=>⟨_,p,_,_,.type "list",true,rfl,Ji1,rfl,.of (.lst (Same.upd hp _ _ hl)),rfl,_,rfl,Jj0 ?_⟩⟩
  have s1:=Same.upd (o:=.tup [.ty "list",.ty "tuple"]) hp
  refine ⟨_,rfl,l,_,rfl,.inl (SqL.of (s1 _ _ hl)),_,_,rfl,rfl,_,rfl,ifT (by rw [List.length_map];simp;omega) ⟨_,_,rfl,rfl,_,rfl,ifF (by rw [List.length_map];simp;omega) ?_⟩⟩
  refine ⟨_,rfl,l,rfl,⟨_,SqL.of (s1 _ _ hl)⟩,fun D hD=>?_⟩
  refine Jjb (K:=K) (a:=l) (xs:=os.map V.ref) (D:=D) (fun i σ H'=>∃o,σ= [o]∧H' D=some (.lst ((List.replicate i true).map V.bl))∧Same (upd H p (.tup [.ty "list",.ty "tuple"])) H') ⟨_,rfl,Ji1,Same.upd hD⟩ (fun i σ H' _ ⟨o,_,_,sm⟩=>SqL.of (sm _ _ (s1 _ _ hl))) ?_ ?_
  ·rintro i v σ H' hv ⟨o,rfl,hDs,sm⟩
   obtain ⟨ob,B,rfl,hB,dx,hb,gs⟩:=(bl.same (s1.trans sm)).get hv
   have hi:i < os.length:=by have:=(List.getElem?_eq_some_iff.mp hv).1;rwa [List.length_map] at this
   refine Jj5 ⟨_,rfl,_,_,_,_,true,rfl,rfl,.of (T.Jcu.ty T.Jct hb),T.Jdi,_,hDs,?_,_,rfl,?_,fun c o z=>?_⟩
   ·rw [List.length_map,List.length_replicate]
    exact Jii (by omega)
   ·rw [Ji1,List.replicate_succ',List.map_append]
    rfl
   ·rw [Ji7 (Ji8 z hD)]
    exact sm _ _ z
  rintro σ H1 ⟨o,rfl,hDs,sm⟩
  refine ⟨D,_,rfl,SqL.of hDs,_,rfl,ifF (by simp) ?_⟩
  have s2:=s1.trans sm
  refine ⟨_,rfl,l,rfl,⟨_,SqL.of (s2 _ _ hl)⟩,fun D2 hD2=>?_⟩
  refine Jjb (K:=K) (a:=l) (xs:=os.map V.ref) (D:=D2) (fun i σ H'=>∃o,σ= [o]∧H' D2=some (.lst (((Bs.take i).map (·.z)).map V.str))∧Same H1 H') ⟨_,rfl,Ji1,Same.upd hD2⟩ (fun i σ H' _ ⟨o,_,_,sm⟩=>SqL.of (sm _ _ (s2 _ _ hl))) ?_ ?_
  ·rintro i v σ H' hv ⟨o,rfl,hDs,sm3⟩
   obtain ⟨ob,B,rfl,hB,dx,hb,gs⟩:=(bl.same (s2.trans sm3)).get hv
   refine Jj5 ⟨_,rfl,ob,_,dx,_,_,rfl,hb,T.Jct,T.Jcw,rfl,_,hDs,?_,_,rfl,?_,fun c o z=>?_⟩
   ·rw [List.length_map,List.length_map,List.length_take]
    exact Jii (by omega)
   ·rw [Ji1,List.take_add_one,hB]
    simp
   ·rw [Ji7 (Ji8 z hD2)]
    exact sm3 _ _ z
  rintro σ H2 ⟨o,rfl,hDs,sm3⟩
  rw [List.length_map,List.take_of_length_le (by omega)] at hDs
  refine ⟨D2,Bs.map (·.z),rfl,SqL.of hDs,by rw [List.length_map];omega,fun H3 s3=>?_⟩
  rw [Juy nd,decide_eq_true rfl]
  exact k _ ((s2.trans sm3).trans s3)
theorem sc_are_towns:Jia ["thing","basins","names"] ["thing","basins"] (Ji5 (top 58)):=⟨rfl,rfl,rfl,by decide +kernel,rfl,by decide +kernel,by decide +kernel⟩
theorem Jt4 (T:Tx K mg a):FnOk P w K mg base CX0 2 a.Jg1 a.Jg2 ["thing","basins"] (Yb2 K a):=by
 have G_are_unlike:=Jn8 (P:=P) (w:=w) (base:=base) T
 refine T.Jn.fn.ok sc_are_towns (fun vs H Q E h=>?_) (fun cdv A outer s H vs Q E hr h=>?_)
 ·obtain ⟨l,m,os,ts,Bs,Ts,rfl,_⟩:=h
  rfl
 ·obtain ⟨l,m,os,ts,Bs,Ts,rfl,hl,bl,hn,hm,tl,tn,nd,inn,k⟩:=h
  have len:=bl.len
  have tlen:=tl.len
  refine ⟨?t,?B,?C⟩
  case B=>
   refine' Ji3 ?s1 ?r1
   case s1=>
    refine' Jis ?c2 ?a2 ?b2
    case c2=>
     exact (PW.pt (Jo9 (Jj4 (Jiv (Jic Jpz (by rfl) T.Jan Jip (Ji0 (pv 0) (Ji0 (Jke (Ji0 (Jjy (v:=.ty "list") (by rfl) T.Jap Jmu rfl) (Ji0 (Jjy (v:=.ty "tuple") (by rfl) T.Jaw Jl7 rfl) Ji2))) Ji2))))) (Jmk (Jim Js9 (Jic Jil (by rfl) T.Jao Jjg (Ji0 (pv 0) Ji2)) (Jjh (by rfl) T.Jag (v:=.int 3) ⟨_,rfl⟩) (Jio _)))))
    case a2=>
     refine' Ji4 ?s3
     case s3=>
      exact (Jib Jjt)
    case b2=>
     exact Jih
   case r1=>
    refine' Ji3 ?s7 ?r7
    case s7=>
     refine' Jis ?c8 ?a8 ?b8
     case c8=>
      exact (Jj4 (Jiv (Jic (Jlr rfl) (by rfl) T.Jah Jol (Ji0 (Jj2 (N:=(["town"]:List Str)) (ini:=[none]) rfl (Jj7 (pv 0)) (fun _ _ _ _ _=>(Jie (i:=0) (by decide +kernel:(["town"]:List Str).Nodup) rfl (Or.inl rfl))) (fun _ _ _ _ _=>Jj3) (fun _ _ _ _ _=>(Jic (Joo (K:=K) rfl) (by rfl) T.Jan Jip (Ji0 (pv 0) (Ji0 (Jjh (by rfl) T.Jba (v:=.ref _) rfl) Ji2))))) Ji2))))
     case a8=>
      refine' Ji4 ?s9
      case s9=>
       exact (Jib Jjt)
     case b8=>
      exact Jih
    case r7=>
     refine' Ji3 ?s13 ?r13
     case s13=>
      exact (Jik (i:=2) sc_are_towns.nd rfl (Or.inr rfl) (Jj2 (N:=(["basin"]:List Str)) (ini:=[none]) rfl (Jj7 (pv 1)) (fun _ _ _ _ _=>(Jie (i:=0) (by decide +kernel:(["basin"]:List Str).Nodup) rfl (Or.inl rfl))) (fun _ _ _ _ _=>Jj3) (fun _ _ _ _ _=>(Jkq (K:=K) rfl (pv 0) (by rfl)))))
     case r13=>
      refine' Ji4 ?s15
      case s15=>
       exact (Jib (Jvq (Ji9 T.Jl G_are_unlike hr (by decide) (Ji0 (Jj2 (N:=(["town"]:List Str)) (ini:=[none]) rfl (Jj7 (pv 0)) (fun _ _ _ _ _=>(Jie (i:=0) (by decide +kernel:(["town"]:List Str).Nodup) rfl (Or.inl rfl))) (fun _ _ _ _ _=>Jj3) (fun _ _ _ _ _=>(Jkq (K:=K) rfl (pv 0) (by rfl)))) Ji2)) (Jvr (Jic (Jlr rfl) (by rfl) T.Jah Jol (Ji0 (Jj2 (N:=(["town","names"]:List Str)) (ini:=[none,some 2]) rfl (Jj7 (pv 0)) (fun _ _ _ _ _=>(Jie (i:=0) (by decide +kernel:(["town","names"]:List Str).Nodup) rfl (Or.inl rfl))) (fun _ _ _ _ _=>Jj3) (fun _ _ _ _ _=>(Jk6 (Jvo (K:=K) rfl) (Jkq (K:=K) rfl (pv 0) (by rfl)) (pv 1) (by with_unfolding_all rfl)))) Ji2)))))
  refine ⟨_,rfl,(show 2≤sizeLine by decide),fun p hp=>⟨_,p,_,_,.type "list",true,rfl,Ji1,rfl,.of (.lst (Same.upd hp _ _ hm)),rfl,_,rfl,Jj0 ?_⟩⟩
  have s1:=Same.upd (o:=.tup [.ty "list",.ty "tuple"]) hp
  refine ⟨_,rfl,m,_,rfl,.inl (SqL.of (s1 _ _ hm)),_,_,rfl,rfl,_,rfl,ifF (by rw [List.length_map];simp;omega) ?_⟩
  refine ⟨_,rfl,m,rfl,⟨_,SqL.of (s1 _ _ hm)⟩,fun D hD=>?_⟩
  refine Jjb (K:=K) (a:=m) (xs:=ts.map V.ref) (D:=D) (fun i σ H'=>∃o,σ= [o]∧H' D=some (.lst ((List.replicate i true).map V.bl))∧Same (upd H p (.tup [.ty "list",.ty "tuple"])) H') ⟨_,rfl,Ji1,Same.upd hD⟩ (fun i σ H' _ ⟨o,_,_,sm⟩=>SqL.of (sm _ _ (s1 _ _ hm))) ?_ ?_
  ·rintro i v σ H' hv ⟨o,rfl,hDs,sm⟩
   obtain ⟨ob,B,rfl,hB,dx,hb⟩:=(tl.same (s1.trans sm)).get hv
   have hi:i < ts.length:=by have:=(List.getElem?_eq_some_iff.mp hv).1;rwa [List.length_map] at this
   refine Jj5 ⟨_,rfl,_,_,_,_,true,rfl,rfl,.of (T.Jd3.ty T.Jd2 hb),T.Jdj,_,hDs,?_,_,rfl,?_,fun c o z=>?_⟩
   ·rw [List.length_map,List.length_replicate]
    exact Jii (by omega)
   ·rw [Ji1,List.replicate_succ',List.map_append]
    rfl
   ·rw [Ji7 (Ji8 z hD)]
    exact sm _ _ z
  rintro σ H1 ⟨o,rfl,hDs,sm⟩
  refine ⟨D,_,rfl,SqL.of hDs,_,rfl,ifF (by simp) ?_⟩
  have s2:=s1.trans sm
  refine ⟨_,rfl,l,rfl,⟨_,SqL.of (s2 _ _ hl)⟩,fun D2 hD2=>?_⟩
  refine Jjb (K:=K) (a:=l) (xs:=os.map V.ref) (D:=D2) (fun i σ H'=>∃o,σ= [o]∧H' D2=some (.lst (((Bs.take i).map (·.z)).map V.str))∧Same H1 H') ⟨_,rfl,Ji1,Same.upd hD2⟩ (fun i σ H' _ ⟨o,_,_,sm⟩=>SqL.of (sm _ _ (s2 _ _ hl))) ?_ ?_
  ·rintro i v σ H' hv ⟨o,rfl,hDs,sm3⟩
   obtain ⟨ob,B,rfl,hB,dx,hb,gs⟩:=(bl.same (s2.trans sm3)).get hv
   refine Jj5 ⟨_,rfl,ob,_,dx,_,_,rfl,hb,T.Jct,T.Jcw,rfl,_,hDs,?_,_,rfl,?_,fun c o z=>?_⟩
   ·rw [List.length_map,List.length_map,List.length_take]
    exact Jii (by omega)
   ·rw [Ji1,List.take_add_one,hB]
    simp
   ·rw [Ji7 (Ji8 z hD2)]
    exact sm3 _ _ z
  rintro σ H2 ⟨o,rfl,hD2s,sm3⟩
  rw [List.length_map,List.take_of_length_le (by omega)] at hD2s
  have s3:=s2.trans sm3
  refine ⟨_,rfl,m,rfl,⟨_,SqL.of (s3 _ _ hm)⟩,fun D3 hD3=>?_⟩
  refine Jjb (K:=K) (a:=m) (xs:=ts.map V.ref) (D:=D3) (fun i σ H'=>∃o,σ= [o]∧H' D3=some (.lst (((Ts.take i).map (·.z)).map V.str))∧Same H2 H') ⟨_,rfl,Ji1,Same.upd hD3⟩ (fun i σ H' _ ⟨o,_,_,sm⟩=>SqL.of (sm _ _ (s3 _ _ hm))) ?_ ?_
  ·rintro i v σ H' hv ⟨o,rfl,hDs,sm4⟩
   obtain ⟨ob,B,rfl,hB,dx,hb⟩:=(tl.same (s3.trans sm4)).get hv
   refine Jj5 ⟨_,rfl,ob,_,dx,_,_,rfl,hb,T.Jd2,T.Jd4,rfl,_,hDs,?_,_,rfl,?_,fun c o z=>?_⟩
   ·rw [List.length_map,List.length_map,List.length_take]
    exact Jii (by omega)
   ·rw [Ji1,List.take_add_one,hB]
    simp
   ·rw [Ji7 (Ji8 z hD3)]
    exact sm4 _ _ z
  rintro σ H3 ⟨o,rfl,hD3s,sm4⟩
  rw [List.length_map,List.take_of_length_le (by omega)] at hD3s
  refine ⟨D3,Ts.map (·.z),rfl,SqL.of hD3s,by rw [List.length_map];omega,fun H4 s4=>⟨_,rfl,ifT (by rw [Juy nd,decide_eq_true rfl]) ?_⟩⟩
  have s5:=(s3.trans sm4).trans s4
  have hD24:=s4 _ _ (sm4 _ _ hD2s)
  refine ⟨_,rfl,m,rfl,⟨_,SqL.of (s5 _ _ hm)⟩,fun D4 hD4=>?_⟩
  refine Jjb (K:=K) (a:=m) (xs:=ts.map V.ref) (D:=D4) (fun i σ H'=>∃o,σ= [o,some (.ref D2)]∧H' D4=some (.lst ((List.replicate i true).map V.bl))∧Same H4 H') ⟨_,rfl,Ji1,Same.upd hD4⟩ (fun i σ H' _ ⟨o,_,_,sm⟩=>SqL.of (sm _ _ (s5 _ _ hm))) ?_ ?_
  ·rintro i v σ H' hv ⟨o,rfl,hDs,sm6⟩
   obtain ⟨ob,B,rfl,hB,dx,hb⟩:=(tl.same (s5.trans sm6)).get hv
   have hi:i < ts.length:=by have:=(List.getElem?_eq_some_iff.mp hv).1;rwa [List.length_map] at this
   refine Jj5 ⟨_,rfl,ob,_,dx,_,_,rfl,hb,T.Jd2,T.Jd5,rfl,_,rfl,D2,_,rfl,.inl (SqL.of (sm6 _ _ hD24)),rfl,by simp [Jn7],?_⟩
   have e:inV (V.str B.b) ((Bs.map (·.z)).map V.str)=true:=by
    obtain ⟨z,hz,ez⟩:=List.mem_map.mp (inn B (List.mem_of_getElem? hB))
    unfold inV
    refine List.any_eq_true.mpr ⟨V.str z.z,List.mem_map.mpr ⟨z.z,List.mem_map.mpr ⟨z,hz,rfl⟩,rfl⟩,?_⟩
    simp [eqV,ez]
   show ∃ys,_
   rw [if_neg Bool.false_ne_true,e]
   refine ⟨_,hDs,?_,_,rfl,?_,fun c o z=>?_⟩
   ·rw [List.length_map,List.length_replicate]
    exact Jii (by omega)
   ·rw [Ji1,List.replicate_succ',List.map_append]
    rfl
   ·rw [Ji7 (Ji8 z hD4)]
    exact sm6 _ _ z
  rintro σ H5 ⟨o,rfl,hD4s,sm6⟩
  refine ⟨D4,_,rfl,SqL.of hD4s,?_⟩
  rw [show (List.replicate (ts.map V.ref).length true).all id=true by simp]
  exact k _ (s5.trans sm6)
end
section
variable {P:Program} {w:World} {K:W.Frag} {mg:Str→Option Value} {base:Heap} {a:Ad}
theorem Jn0:Jia ["self","thing"] ["self","thing"] (Ji5 (Jid (top 7) 0)):=⟨rfl,rfl,rfl,by decide +kernel,rfl,by decide +kernel,by decide +kernel⟩
theorem Jpn (T:Tx K mg a):FnOk P w K mg base CX0 1 a.Jdx a.Jdy ["self","thing"] (Jm5 K "thing"):=by
 refine T.Jbf.fn.ok Jn0 (fun vs H Q E h=>?_) (fun cdv A outer s H vs Q E hr h=>?_)
 ·obtain ⟨e,C,W,fI,y,rfl,_⟩:=h
  rfl
 ·obtain ⟨e,C,W,fI,y,rfl,q,c,n,k⟩:=h
  refine ⟨_,(Ji4 (Jm4 (pv 0) (pv 1) rfl)),?_⟩
  exact ⟨_,rfl,_,rfl,e,C,W,fI,true,rfl,q,c,n,k⟩
theorem Jn1:Jia ["self","thing"] ["self","thing"] (Ji5 (Jid (top 8) 0)):=⟨rfl,rfl,rfl,by decide +kernel,rfl,by decide +kernel,by decide +kernel⟩
theorem Jpo (T:Tx K mg a):FnOk P w K mg base CX0 1 a.Jdz a.Je0 ["self","thing"] (Jm5 K "thing"):=by
 refine T.Jbg.fn.ok Jn1 (fun vs H Q E h=>?_) (fun cdv A outer s H vs Q E hr h=>?_)
 ·obtain ⟨e,C,W,fI,y,rfl,_⟩:=h
  rfl
 ·obtain ⟨e,C,W,fI,y,rfl,q,c,n,k⟩:=h
  refine ⟨_,(Ji4 (Jm4 (pv 0) (pv 1) rfl)),?_⟩
  exact ⟨_,rfl,_,rfl,e,C,W,fI,true,rfl,q,c,n,k⟩
theorem Jux {H:Hp} {p q:Addr} {o u:HO} (h:p≠q):upd (upd H p o) q u=upd (upd H q u) p o:=by
 funext c
 by_cases h1:c=p
 ·subst h1
  rw [Ji1,Ji7 h,Ji1]
 ·rw [Ji7 h1]
  by_cases h2:c=q
  ·subst h2
   rw [Ji1,Ji1]
  ·rw [Ji7 h2,Ji7 h2,Ji7 h1]
def rivF (c g b t:V):List (Str×V):=[("cloud",c),("gain",g),("basins",b),("towns",t)]
def Yb1 (K:W.Frag) (a:Ad):Sp:=fun vs H Q _=>∃(p dx l m:Addr) (c g:Int) (os ts:List Addr) (Bs:List Bsn) (Ts:List Twn),vs= [.ref p,.int c,.int g,.ref l,.ref m]∧H p=some (.ins a.Jhx dx [])∧(0≤c∧c≤12)∧(0≤g∧g≤c)∧H l=some (.lst (os.map V.ref))∧BasL K a H os Bs∧(1≤Bs.length∧Bs.length≤16)∧(Bs.map (·.z)).Nodup∧H m=some (.lst (ts.map V.ref))∧TwnL a H ts Ts∧Ts.length≤3∧(Ts.map (·.z)).Nodup∧(∀t∈Ts,t.b∈Bs.map (·.z))∧∀H' b t,Same H H'→H' b=some (.tup (os.map V.ref))→H' t=some (.tup (ts.map V.ref))→b≠p→t≠p→Q .non (upd H' p (.ins a.Jhx dx (rivF (.int c) (.int g) (.ref b) (.ref t))))
theorem Jle {i lo hi:Int} (h1:lo≤i) (h2:i≤hi):Jiw (.int i) lo hi=true:=by
 show (decide (lo≤i)&&decide (i≤hi))=true
 rw [decide_eq_true h1,decide_eq_true h2]
 rfl
theorem Job:Jia ["self","cloud","gain","basins","towns"] ["self","cloud","gain","basins","towns"] (Ji5 (Jid (top 59) 0)):=⟨rfl,rfl,rfl,by decide +kernel,rfl,by decide +kernel,by decide +kernel⟩
theorem Jra (T:Tx K mg a):FnOk P w K mg base (CXX P w) 4 a.Jg3 a.Jg4 ["self","cloud","gain","basins","towns"] (Yb1 K a):=by
 have G_is_whole:=Jky (P:=P) (w:=w) (base:=base) T
 have G_are_basins:=Jrb (P:=P) (w:=w) (base:=base) T
 have G_are_towns:=Jt4 (P:=P) (w:=w) (base:=base) T
 have G_NoCloud___init__:=Jpn (P:=P) (w:=w) (base:=base) T
 have G_NoRiver___init__:=Jpo (P:=P) (w:=w) (base:=base) T
 refine T.Jbu.fn.okX Job (fun vs H Q E h=>?_) (fun cdv A outer s H vs Q E hr h=>?_)
 ·obtain ⟨p,dx,l,m,c,g,os,ts,Bs,Ts,rfl,_⟩:=h
  rfl
 ·obtain ⟨p,dx,l,m,c,g,os,ts,Bs,Ts,rfl,hp,hc,hg,hl,bl,hn,nd,hm,tl,tn,tnd,inn,k⟩:=h
  refine ⟨?t,?B,?C⟩
  case B=>
   refine' Ji3 ?s1 ?r1
   case s1=>
    refine' Jis ?c2 ?a2 ?b2
    case c2=>
     exact (Jj4 (Jiv (Ji9 T.J0 G_is_whole hr (by decide) (Ji0 (pv 1) (Ji0 Ji6 (Ji0 (Jjh (by rfl) T.Jae (v:=.int 12) ⟨_,rfl⟩) Ji2))))))
    case a2=>
     refine' Ji4 ?s3
     case s3=>
      exact (Jju Jjr rfl (Jlc T.Jc2 G_NoCloud___init__ hr (by decide) T.Jbf.bd T.Jb1 (Ji0 (pv 1) Ji2)))
    case b2=>
     exact Jih
   case r1=>
    refine' Ji3 ?s6 ?r6
    case s6=>
     refine' Jis ?c7 ?a7 ?b7
     case c7=>
      exact (Jj4 (Jiv (Ji9 T.J0 G_is_whole hr (by decide) (Ji0 (pv 2) (Ji0 Ji6 (Ji0 (pv 1) Ji2))))))
     case a7=>
      refine' Ji4 ?s8
      case s8=>
       exact (Jju Jjr rfl (Jlc T.Jc2 G_NoCloud___init__ hr (by decide) T.Jbf.bd T.Jb1 (Ji0 (pv 2) Ji2)))
     case b7=>
      exact Jih
    case r6=>
     refine' Ji3 ?s11 ?r11
     case s11=>
      refine' Jis ?c12 ?a12 ?b12
      case c12=>
       exact (Jj4 (Jiv (Ji9 T.Jm G_are_basins hr (by decide) (Ji0 (pv 3) Ji2))))
      case a12=>
       refine' Ji4 ?s13
       case s13=>
        exact (Jju Jjr rfl (Jlc T.Jc3 G_NoRiver___init__ hr (by decide) T.Jbg.bd T.Jb2 (Ji0 (pv 3) Ji2)))
      case b12=>
       exact Jih
     case r11=>
      refine' Ji3 ?s16 ?r16
      case s16=>
       refine' Jis ?c17 ?a17 ?b17
       case c17=>
        exact (Jj4 (Jiv (Ji9 T.Jn G_are_towns hr (by decide) (Ji0 (pv 4) (Ji0 (pv 3) Ji2)))))
       case a17=>
        refine' Ji4 ?s18
        case s18=>
         exact (Jju Jjr rfl (Jlc T.Jc3 G_NoRiver___init__ hr (by decide) T.Jbg.bd T.Jb2 (Ji0 (pv 4) Ji2)))
       case b17=>
        exact Jih
      case r16=>
       refine' Ji3 ?s21 ?r21
       case s21=>
        exact (Jkm (pv 0) (pv 1) rfl)
       case r21=>
        refine' Ji3 ?s23 ?r23
        case s23=>
         exact (Jkm (pv 0) (pv 2) rfl)
        case r23=>
         refine' Ji3 ?s25 ?r25
         case s25=>
          exact (Jkm (pv 0) (Jj6 Jkn (by rfl) T.Jaw Jl7 (Ji0 (pv 3) Ji2)) rfl)
         case r25=>
          refine' Ji4 ?s27
          case s27=>
           exact (Jkm (pv 0) (Jj6 Jkn (by rfl) T.Jaw Jl7 (Ji0 (pv 4) Ji2)) rfl)
  refine ⟨_,rfl,_,0,12,rfl,.inl ⟨_,rfl⟩,_,rfl,ifF (by rw [Jle hc.1 hc.2];rfl) ?_⟩
  refine ⟨_,rfl,_,rfl,_,0,c,rfl,.inl ⟨_,rfl⟩,_,rfl,ifF (by rw [Jle hg.1 hg.2];rfl) ?_⟩
  refine ⟨_,rfl,l,os,Bs,rfl,hl,bl,hn,nd,fun H1 s1=>⟨_,rfl,Jj0 ?_⟩⟩
  refine ⟨_,rfl,_,rfl,l,m,os,ts,Bs,Ts,rfl,s1 _ _ hl,bl.same s1,hn.2,s1 _ _ hm,tl.same s1,tn,tnd,inn,fun H2 s2=>⟨_,rfl,Jj0 ?_⟩⟩
  have s3:=s1.trans s2
  have hp2:=s3 _ _ hp
  refine ⟨_,rfl,_,rfl,p,_,dx,[],rfl,hp2,T.Jd6,T.Jd9,by simp,?_⟩
  rw [show Jki "cloud" (.int c) []=([("cloud",.int c)]:List (Str×V)) from rfl]
  refine ⟨_,rfl,_,rfl,p,_,dx,_,rfl,Ji1,T.Jd6,T.Jda,by simp,?_⟩
  rw [show Jki "gain" (.int g) [("cloud",.int c)]=([("cloud",.int c),("gain",.int g)]:List (Str×V)) from Jkf (fs:=[("cloud",.int c)]) (show (["cloud"]:List Str).contains "gain" =false by decide +kernel),Jll]
  have nl:l≠p:=fun e=>by subst e;rw [hl] at hp;cases hp
  have nm:m≠p:=fun e=>by subst e;rw [hm] at hp;cases hp
  refine ⟨_,rfl,l,_,rfl,.inl ⟨SqL.of (by rw [Ji7 nl];exact s3 _ _ hl),fun b hb=>?_⟩⟩
  have nb:b≠p:=fun e=>by subst e;rw [Ji1] at hb;cases hb
  rw [Ji7 nb] at hb
  rw [Jux nb.symm]
  refine ⟨_,rfl,p,_,dx,_,rfl,Ji1,T.Jd6,T.Jdb,by simp,?_⟩
  rw [show Jki "basins" (.ref b) [("cloud",.int c),("gain",.int g)]=([("cloud",.int c),("gain",.int g),("basins",.ref b)]:List (Str×V)) from Jkf (fs:=[("cloud",.int c),("gain",.int g)]) (show (["cloud","gain"]:List Str).contains "basins" =false by decide +kernel),Jll]
  have s4:=s3.trans (Same.upd (o:=.tup (os.map V.ref)) hb)
  refine ⟨_,rfl,m,_,rfl,.inl ⟨SqL.of (by rw [Ji7 nm];exact s4 _ _ hm),fun t ht=>?_⟩⟩
  have nt:t≠p:=fun e=>by subst e;rw [Ji1] at ht;cases ht
  rw [Ji7 nt] at ht
  rw [Jux nt.symm]
  refine ⟨_,rfl,p,_,dx,_,rfl,Ji1,T.Jd6,T.Jdc,by simp,?_⟩
  rw [show Jki "towns" (.ref t) [("cloud",.int c),("gain",.int g),("basins",.ref b)]=(rivF (.int c) (.int g) (.ref b) (.ref t)) from Jkf (fs:=[("cloud",.int c),("gain",.int g),("basins",.ref b)]) (show (["cloud","gain","basins"]:List Str).contains "towns" =false by decide +kernel),Jll]
  have s5:=Same.upd (o:=.tup (ts.map V.ref)) ht
  exact k _ b t (s4.trans s5) (s5 _ _ Ji1) Ji1 nb nt
end
def TldAt (H:Hp) (t:Addr) (B:BTd):Prop:=∃m:Addr,H t=some (.tup [.str B.z,.int B.lo,.int B.hi,.int B.st,.int B.rn,.str B.G.kd,.ref m])∧H m=some (.lst (B.G.ns.map V.int))∧B.G.sv=none
theorem TldAt.same {H H':Hp} {t:Addr} {B:BTd} (s:Same H H') (h:TldAt H t B):TldAt H' t B:=let ⟨m,h1,h2,h3⟩:=h;⟨m,s _ _ h1,s _ _ h2,h3⟩
def Yau:Sp:=fun vs H Q _=>∃(t:Addr) (B:BTd) (s lv:Int),vs= [.ref t,.int s,.int lv]∧TldAt H t B∧GGood B.G∧(0≤s∧s < (nOf B.G:Int))∧(0≤lv∧lv≤1000)∧Q (.int (lvG B.G s lv)) H
section
variable {P:Program} {w:World} {K:W.Frag} {mg:Str→Option Value} {base:Heap} {a:Ad}
theorem sc_law_lets:Jia ["_law_told_here","_law_setting","_law_level","_law_mark"] ["_law_told_here","_law_setting","_law_level"] (Ji5 (top 68)):=⟨rfl,rfl,rfl,by decide +kernel,rfl,by decide +kernel,by decide +kernel⟩
theorem Ju8 (T:Tx K mg a):FnOk P w K mg base CX0 1 a.Jgl a.Jgm ["_law_told_here","_law_setting","_law_level"] Yau:=by
 refine T.Jv.fn.ok sc_law_lets (fun vs H Q E h=>?_) (fun cdv A outer s H vs Q E hr h=>?_)
 ·obtain ⟨t,B,s,lv,rfl,_⟩:=h
  rfl
 ·obtain ⟨t,B,s,lv,rfl,⟨m,ht,hm,sv⟩,gg,hs,hl,k⟩:=h
  have hs':0≤s∧s < B.G.ns.length:=by unfold nOf at hs;rw [sv] at hs;exact hs
  obtain ⟨hat,hin⟩:=Jkp hs'
  have hmk:=gg.marks _ hin
  have e:lvG B.G s lv=Jo3 B.G.kd (B.G.ns.getD s.toNat 0) lv:=by unfold lvG;rw [sv]
  rw [e] at k
  refine ⟨?t,?B,?C⟩
  case B=>
   refine' Ji3 ?s1 ?r1
   case s1=>
    exact (Jik (i:=3) sc_law_lets.nd rfl (Or.inl rfl) (Jin Jiq (Jin Jj9 (pv 0) Ji6 (fun _ _=>rfl)) (pv 1) (fun _ _=>rfl)))
   case r1=>
    refine' Ji3 ?s3 ?r3
    case s3=>
     refine' Jis ?c4 ?a4 ?b4
     case c4=>
      exact (Jim Jn9 (Jin Jj9 (pv 0) Ji6 (fun _ _=>rfl)) Jji (Jio _))
     case a4=>
      refine' Ji4 ?s5
      case s5=>
       exact (Jib (Jic (Jmw rfl) (by rfl) T.Jar Jso (Ji0 (pv 3) (Ji0 (pv 2) Ji2))))
     case b4=>
      exact Jih
    case r3=>
     refine' Ji3 ?s9 ?r9
     case s9=>
      refine' Jis ?c10 ?a10 ?b10
      case c10=>
       exact (Jim Jn9 (Jin Jj9 (pv 0) Ji6 (fun _ _=>rfl)) Jji (Jio _))
      case a10=>
       refine' Ji4 ?s11
       case s11=>
        exact (Jib (Jic (Jl6 rfl) (by rfl) T.Jaq Jom (Ji0 Ji6 (Ji0 (Jig Jkd (pv 2) (pv 3)) Ji2))))
      case b10=>
       exact Jih
     case r9=>
      refine' Ji4 ?s15
      case s15=>
       exact (Jib (Jig Jlv (pv 2) (pv 3)))
  refine ⟨_,rfl,t,_,6,_,rfl,rfl,SqT.of ht,rfl,_,rfl,m,_,s,_,rfl,rfl,SqL.of hm,hat,?_⟩
  generalize B.G.ns.getD s.toNat 0=mk at k hmk
  have kd:=gg.kd
  refine ⟨_,rfl,t,_,5,_,rfl,rfl,SqT.of ht,rfl,?_⟩
  rcases kd with kd|kd|kd
  ·rw [kd] at k⊢
   refine ⟨rfl,_,rfl,iteD rfl ?_⟩
   exact ⟨_,rfl,_,rfl,_,_,rfl,k⟩
  ·rw [kd] at k⊢
   refine ⟨rfl,_,rfl,Jxf (Jw1 Jqf) ?_⟩
   refine ⟨_,rfl,t,_,5,_,rfl,rfl,SqT.of ht,by rw [kd];rfl,rfl,_,rfl,iteD rfl ?_⟩
   refine ⟨_,rfl,_,rfl,_,_,rfl,rfl,_,_,rfl,?_⟩
   have e2:(if lv - mk > 0 then lv - mk else 0)=Jo3 "flap" mk lv:=by
    unfold Jo3
    rw [if_neg Jqf,if_pos rfl]
    split <;> split <;> omega
   show Q (.int (if lv - mk > 0 then lv - mk else 0)) H
   rw [e2]
   exact k
  ·rw [kd] at k⊢
   refine ⟨rfl,_,rfl,Jxf (Jw1 Js6) ?_⟩
   refine ⟨_,rfl,t,_,5,_,rfl,rfl,SqT.of ht,by rw [kd];rfl,rfl,_,rfl,Jxf (Jw1 Js5) ?_⟩
   have m1:1≤mk∧mk≤12:=by
    rw [kd] at hmk
    exact hmk
   exact ⟨_,rfl,_,rfl,_,_,rfl,rfl,⟨by omega,Jz9 (by omega)⟩,k⟩
end
def Yas (a:Ad):Sp:=fun vs H Q _=>∃(m:Addr) (kd:Str) (ns:List Int),vs= [.str kd,.ref m]∧H m=some (.lst (ns.map V.int))∧GGood ⟨kd,ns,none⟩∧∀(g:Addr) (H':Hp),Same H H'→GateAt (cOf a kd) H' g (ns.map V.int)→Q (.ref g) H'
section
variable {P:Program} {w:World} {K:W.Frag} {mg:Str→Option Value} {base:Heap} {a:Ad}
theorem Juo:Jia ["_law_kind","_law_marks_here"] ["_law_kind","_law_marks_here"] (Ji5 (top 66)):=⟨rfl,rfl,rfl,by decide +kernel,rfl,by decide +kernel,by decide +kernel⟩
theorem Ju7 (T:Tx K mg a):FnOk P w K mg base CX0 6 a.Jgh a.Jgi ["_law_kind","_law_marks_here"] (Yas a):=by
 have G_StepGate___init__:=Jox (P:=P) (w:=w) (base:=base) T
 have G_FlapGate___init__:=Jou (P:=P) (w:=w) (base:=base) T
 have G_PartGate___init__:=Jow (P:=P) (w:=w) (base:=base) T
 refine T.Jt.fn.ok Juo (fun vs H Q E h=>?_) (fun cdv A outer s H vs Q E hr h=>?_)
 ·obtain ⟨m,kd,ns,rfl,_⟩:=h
  rfl
 ·obtain ⟨m,kd,ns,rfl,hm,gg,k⟩:=h
  have hkd:Knd kd:=gg.kd
  have har:Jk5 (Jl3 kd) (ns.map V.int)=true:=gg.ns
  refine ⟨?t,?B,?C⟩
  case B=>
   refine' Ji3 ?s1 ?r1
   case s1=>
    refine' Jis ?c2 ?a2 ?b2
    case c2=>
     exact (Jim Jn9 (pv 0) Jji (Jio _))
    case a2=>
     refine' Ji4 ?s3
     case s3=>
      exact (Jib (Jo4 T.Jca G_StepGate___init__.calm (hr.mono (by decide)) (by rfl) T.Jb6 T.Jbk.bd .nil Jpg (Ji0 (pv 1) Ji2)))
    case b2=>
     exact Jih
   case r1=>
    refine' Ji3 ?s7 ?r7
    case s7=>
     refine' Jis ?c8 ?a8 ?b8
     case c8=>
      exact (Jim Jn9 (pv 0) Jji (Jio _))
     case a8=>
      refine' Ji4 ?s9
      case s9=>
       exact (Jib (Jo4 T.Jch G_FlapGate___init__.calm (hr.mono (by decide)) (by rfl) T.Jb7 T.Jbn.bd .nil Jpg (Ji0 (pv 1) Ji2)))
     case b8=>
      exact Jih
    case r7=>
     refine' Ji4 ?s13
     case s13=>
      exact (Jib (Jo4 T.Jco G_PartGate___init__.calm (hr.mono (by decide)) (by rfl) T.Jb8 T.Jbq.bd .nil Jpg (Ji0 (pv 1) Ji2)))
  rcases hkd with rfl|rfl|rfl
  ·have e1:Jl3 "step" =0:=if_neg ne_sp
   have e2:cOf a "step" =a.Jhs:=if_pos rfl
   have hr':Jk5 (0) (ns.map V.int)=true:=by rw [←e1];exact har
   refine ⟨_,rfl,rfl,_,rfl,iteD rfl ⟨_,rfl,fun g dx hg hd ne=>Jq8 T.Jc8 T.Jce hg hd ne ⟨ns.map V.int,.lst hm,fun y hy=>Jtk hy,hr',fun H' s' ga=>?_⟩⟩⟩
   exact k g H' s' (by rw [e2];exact ga)
  ·have e1:Jl3 "flap" =0:=if_neg ne_fp
   have e2:cOf a "flap" =a.Jht:=by unfold cOf;rw [if_neg Jqf,if_pos rfl]
   have hr':Jk5 (0) (ns.map V.int)=true:=by rw [←e1];exact har
   refine ⟨_,rfl,rfl,_,rfl,Jxf (Jw1 Jqf) ⟨_,rfl,rfl,_,rfl,iteD rfl ⟨_,rfl,fun g dx hg hd ne=>Jq8 T.Jcf T.Jcl hg hd ne ⟨ns.map V.int,.lst hm,fun y hy=>Jtk hy,hr',fun H' s' ga=>?_⟩⟩⟩⟩
   exact k g H' s' (by rw [e2];exact ga)
  ·have e1:Jl3 "part" =1:=if_pos rfl
   have e2:cOf a "part" =a.Jhu:=by unfold cOf;rw [if_neg Js6,if_neg Js5]
   have hr':Jk5 (1) (ns.map V.int)=true:=by rw [←e1];exact har
   refine ⟨_,rfl,rfl,_,rfl,Jxf (Jw1 Js6) ⟨_,rfl,rfl,_,rfl,Jxf (Jw1 Js5) ⟨_,rfl,fun g dx hg hd ne=>Jq8 T.Jcm T.Jcs hg hd ne ⟨ns.map V.int,.lst hm,fun y hy=>Jtk hy,hr',fun H' s' ga=>?_⟩⟩⟩⟩
   exact k g H' s' (by rw [e2];exact ga)
end
structure TGd (B:BTd):Prop where
 b:BGd B
 st:B.lo≤B.st∧B.st≤B.hi
 nm:Jpe B.z=true
 wd:Wd 50 B.z
def Yaw (a:Ad):Sp:=fun vs H Q _=>∃(t:Addr) (B:BTd),vs= [.ref t]∧TldAt H t B∧TGd B∧∀(o:Addr) (H':Hp),Same H H'→BX a H' o B→Q (.ref o) H'
section
variable {P:Program} {w:World} {K:W.Frag} {mg:Str→Option Value} {base:Heap} {a:Ad}
theorem GS.gti {H:Hp} {x:V} {n:Nat} (T:Tx K mg a) (g:GS K a H x n):GtI K a H x true:=by
 cases g with
 |plain i ga l=>
  obtain ⟨dx,t,h1,h2⟩:=ga
  rcases i with rfl|rfl|rfl
  ·exact ⟨_,.of (T.Jc9.ty T.Jc8 h1),T.Jdf,T.Jdn,_,T.Jdk,fun _=>rfl,by intro w';cases w'⟩
  ·exact ⟨_,.of (T.Jcg.ty T.Jcf h1),T.Jdg,T.Jdo,_,T.Jdl,fun _=>rfl,by intro w';cases w'⟩
  ·exact ⟨_,.of (T.Jcn.ty T.Jcm h1),T.Jdh,T.Jdp,_,T.Jdm,fun _=>rfl,by intro w';cases w'⟩
theorem Juq:Jia ["_law_told_here"] ["_law_told_here"] (Ji5 (top 67)):=⟨rfl,rfl,rfl,by decide +kernel,rfl,by decide +kernel,by decide +kernel⟩
theorem Jua (T:Tx K mg a):FnOk P w K mg base CX0 7 a.Jgj a.Jgk ["_law_told_here"] (Yaw a):=by
 have G__law_gate:=Ju7 (P:=P) (w:=w) (base:=base) T
 have G_Basin___init__:=Jr9 (P:=P) (w:=w) (base:=base) T
 refine T.Ju.fn.ok Juq (fun vs H Q E h=>?_) (fun cdv A outer s H vs Q E hr h=>?_)
 ·obtain ⟨t,B,rfl,_⟩:=h
  rfl
 ·obtain ⟨t,B,rfl,⟨m,ht,hm,sv⟩,tg,k⟩:=h
  have bg:=tg.b
  have gg:GGood ⟨B.G.kd,B.G.ns,none⟩:=by
   have e:B.G=⟨B.G.kd,B.G.ns,none⟩:=by
    cases hG:B.G with
    |mk kd ns sv'=>
     rw [hG] at sv
     cases sv
     rfl
   rw [←e]
   exact bg.G
  refine ⟨?t,?B,?C⟩
  case B=>
   refine' Ji4 ?s1
   case s1=>
    refine' Jib ?e3_0
    case e3_0=>
     exact (Jo4 T.Jcv G_Basin___init__.calm (hr.mono (by decide)) (by rfl) T.Jb9 T.Jbt.bd .nil Jpg (pa6 (Jin Jj9 (pv 0) Ji6 (fun _ _=>rfl)) (Jin Jj9 (pv 0) Ji6 (fun _ _=>rfl)) (Jin Jj9 (pv 0) Ji6 (fun _ _=>rfl)) (Jin Jj9 (pv 0) Ji6 (fun _ _=>rfl)) (Jin Jj9 (pv 0) Ji6 (fun _ _=>rfl)) (Ji9 T.Jt G__law_gate hr (by decide) (Ji0 (Jin Jj9 (pv 0) Ji6 (fun _ _=>rfl)) (Ji0 (Jin Jj9 (pv 0) Ji6 (fun _ _=>rfl)) Ji2)))))
  refine ⟨_,rfl,t,_,0,_,rfl,rfl,SqT.of ht,rfl,_,rfl,t,_,1,_,rfl,rfl,SqT.of ht,rfl,_,rfl,t,_,2,_,rfl,rfl,SqT.of ht,rfl,_,rfl,t,_,3,_,rfl,rfl,SqT.of ht,rfl,_,rfl,t,_,4,_,rfl,rfl,SqT.of ht,rfl,?_⟩
  refine ⟨_,rfl,t,_,5,_,rfl,rfl,SqT.of ht,rfl,_,rfl,t,_,6,_,rfl,rfl,SqT.of ht,rfl,m,B.G.kd,B.G.ns,rfl,hm,gg,fun g H1 s1 ga=>?_⟩
  have gx:GX a H1 (.ref g) B.G:=by
   refine ⟨g,ga,?_⟩
   rw [sv]
  have gs:GS K a H1 (.ref g) (nOf B.G):=gx.gs bg.G
  intro x dx hx1 hd1 ne
  have sn:Same H1 (upd (upd H1 dx (.own x)) x (.ins a.Jhv dx [])):=fun b o e=>by rw [Ji7 (Ji8 e hx1),Ji7 (Ji8 e hd1)];exact e
  have b1:=bg.lo
  have b2:=bg.hi
  have b3:=bg.rn
  have b4:=tg.st
  refine ⟨x,dx,.str B.z,.int B.lo,.int B.hi,.int B.st,.int B.rn,.ref g,true,none,rfl,Ji1,⟨.inr ⟨_,.of (.str B.z),rfl⟩,fun y e=>by cases e;exact tg.wd⟩,.inl ⟨_,rfl⟩,.inl ⟨_,rfl⟩,.inl ⟨_,rfl⟩,.inl ⟨_,rfl⟩,(gs.gti T).same sn,.good B.lo B.hi tg.nm rfl rfl (Jle (by omega) (by omega)) (Jle (by omega) (by omega)) (Jle b4.1 b4.2) (Jle (by omega) (by omega)) rfl,fun H2 s2=>⟨rfl,?_⟩⟩
  have s3:Same H1 (upd H2 x (.ins a.Jhv dx (basF (.str B.z) (.int B.lo) (.int B.hi) (.int B.st) (.int B.rn) (.ref g)))):=fun b o e=>by rw [Ji7 (Ji8 e hx1)];exact s2 _ _ (sn _ _ e)
  exact k x _ (s1.trans s3) ⟨dx,_,Ji1,gx.same s3⟩
end
def LDict (B:BTd) (lost:List (Option Int)) (kvs:List (Key×V)):Prop:=∀e:Int,B.lo≤e→e≤B.hi→(Jl0 kvs (Sum.inl e)).isSome=(lost.getD (e - B.lo).toNat none).isSome
def Jna (B:BTd) (up left:Int) (lost:List (Option Int)):Bool:=(List.range (up+B.rn+1).toNat).all fun c:Nat=>okE lost (Jlg B (left+c))
def spBad:Sp:=fun vs H Q _=>∃(t L:Addr) (B:BTd) (up left:Int) (kvs:List (Key×V)) (lost:List (Option Int)),vs= [.ref t,.int up,.int left,.ref L]∧TldAt H t B∧BGd B∧(0≤up∧up≤12)∧H L=some (.dK kvs)∧LDict B lost kvs∧
 (Jna B up left lost=true→Q .non H)∧(Jna B up left lost=false→∀i:Int,Q (.int i) H)
section
variable {P:Program} {w:World} {K:W.Frag} {mg:Str→Option Value} {base:Heap} {a:Ad}
theorem sc_law_bad:Jia ["_law_told_here","_law_up","_law_left","_law_lost_here","_law_more"] ["_law_told_here","_law_up","_law_left","_law_lost_here"] (Ji5 (top 69)):=⟨rfl,rfl,rfl,by decide +kernel,rfl,by decide +kernel,by decide +kernel⟩
theorem Jvm (T:Tx K mg a):FnOk P w K mg base CX0 1 a.Jgn a.Jgo ["_law_told_here","_law_up","_law_left","_law_lost_here"] spBad:=by
 refine T.Jw.fn.ok sc_law_bad (fun vs H Q E h=>?_) (fun cdv A outer s H vs Q E hr h=>?_)
 ·obtain ⟨t,L,B,up,left,kvs,lost,rfl,_⟩:=h
  rfl
 ·obtain ⟨t,L,B,up,left,kvs,lost,rfl,⟨m,ht,hm,sv⟩,bg,hup,hL,ld,k1,k2⟩:=h
  have hu64:=Jm0 hr
  have b3:=bg.rn
  refine ⟨?t,?B,?C⟩
  case B=>
   refine' Ji3 ?s1 ?r1
   case s1=>
    refine' Jk2 ?f2_0 ?f2_1 ?f2_2 ?f2_3 ?f2_4
    case f2_0=>
     exact PassesOwn.never
    case f2_1=>
     exact rfl
    case f2_2=>
     exact (Jix (by rfl) T.Jas (Ji0 (Jig Jit (Jig Jit (pv 1) (Jin Jj9 (pv 0) Ji6 (fun _ _=>rfl))) Ji6) Ji2))
    case f2_3=>
     exact (Jie (i:=4) sc_law_bad.nd rfl (Or.inl rfl))
    case f2_4=>
     refine' Ji4 ?s3
     case s3=>
      refine' Jis ?c4 ?a4 ?b4
      case c4=>
       exact (PW.pt (Jo9 (Jj4 (Jo7 Jlk Jlk (Jin Jj9 (pv 0) Ji6 (fun _ _=>rfl)) (Jig Jit (pv 2) (pv 4)) (Jin Jj9 (pv 0) Ji6 (fun _ _=>rfl)))) (Jmk (Jim (Jqn hu64) (Jig Jit (pv 2) (pv 4)) (pv 3) (by with_unfolding_all rfl)))))
      case a4=>
       refine' Ji4 ?s5
       case s5=>
        exact (Jib (pv 4))
      case b4=>
       exact Jih
   case r1=>
    refine' Ji4 ?s9
    case s9=>
     exact (Jib Jk1)
  refine ⟨_,rfl,_,rfl,t,_,4,_,rfl,rfl,SqT.of ht,rfl,_,_,rfl,rfl,_,_,rfl,rfl,_,rfl,by omega,by omega,?_⟩
  have bad:∀i:Nat,i < (up+B.rn+1).toNat→okE lost (Jlg B (left+i))=false→Jna B up left lost=false:=fun i hi e=>by
   unfold Jna
   rw [List.all_eq_false]
   exact ⟨i,List.mem_range.mpr hi,by rw [e];simp⟩
  refine Jjw (lo:=0) (fun i σ H'=>(∃o,σ= [some (.ref t),some (.int up),some (.int left),some (.ref L),o])∧H'=H∧∀c:Nat,c < i→okE lost (Jlg B (left+c))=true) ⟨⟨_,rfl⟩,rfl,fun c h=>absurd h (Nat.not_lt_zero _)⟩ ?_ ?_
  ·rintro i σ H' hi ⟨⟨o,rfl⟩,rfl,all⟩
   have zi:(0+(i:Int))=i:=by omega
   rw [zi]
   refine ⟨_,rfl,t,_,1,_,rfl,rfl,SqT.of ht,rfl,_,rfl,_,rfl,_,_,rfl,rfl,_,_,rfl,rfl,_,rfl,?_⟩
   have out:¬(B.lo≤left+i∧left+i≤B.hi)→Jna B up left lost=false:=fun h=>bad i hi (by unfold Jlg;rw [if_neg h];rfl)
   refine Jl9 (fun c1=>?_) (fun c1=>?_)
   ·have c1':=of_decide_eq_true c1
    refine ⟨_,rfl,t,_,2,_,rfl,rfl,SqT.of ht,rfl,_,_,rfl,rfl,_,rfl,?_⟩
    by_cases c2:left+i≤B.hi
    ·have e2:decide (left+(i:Int)≤B.hi)=true:=decide_eq_true c2
     show if (!decide (left+(i:Int)≤B.hi))=true then _ else _
     rw [e2]
     refine Jj0 ?_
     refine ⟨_,rfl,_,rfl,_,_,rfl,rfl,_,rfl,L,_,rfl,.inl ⟨_,Sum.inl (left+i),.inl hL,rfl,rfl⟩,_,rfl,?_⟩
     have ed:=ld (left+i) c1' c2
     have eo:Jlg B (left+i)=some (left+i - B.lo):=by unfold Jlg;rw [if_pos ⟨c1',c2⟩]
     rw [ed]
     cases hc:lost.getD (left+i - B.lo).toNat none with
     |none=>
      refine Jj0 ⟨⟨_,rfl⟩,rfl,fun c hc'=>?_⟩
      by_cases z:c < i
      ·exact all c z
      ·have:c=i:=by omega
       subst this
       rw [eo]
       show (lost.getD (left+c - B.lo).toNat none).isNone=true
       rw [hc]
       rfl
     |some q=>
      refine Jk0 ⟨_,rfl,k2 (bad i hi ?_) _⟩
      rw [eo]
      show (lost.getD (left+i - B.lo).toNat none).isNone=false
      rw [hc]
      rfl
    ·have e2:decide (left+(i:Int)≤B.hi)=false:=decide_eq_false c2
     show if (!decide (left+(i:Int)≤B.hi))=true then _ else _
     rw [e2]
     exact Jk0 (Jk0 ⟨_,rfl,k2 (out fun z=>c2 z.2) _⟩)
   ·have c1':¬B.lo≤left+i:=fun z=>c1 (decide_eq_true z)
    refine ⟨_,rfl,Jk0 (Jk0 ⟨_,rfl,k2 (out fun z=>c1' z.1) _⟩)⟩
  ·rintro σ H' ⟨_,rfl,all⟩
   refine k1 ?_
   unfold Jna
   rw [List.all_eq_true]
   intro c hc
   exact all c (List.mem_range.mp hc)
end
theorem Jul (B:BTd) (up lv s:Int) (lost:List (Option Int)):Jna B up (lv - lvG B.G s lv) lost=Jjz B up lv lost s:=by
 unfold Jna Jjz Juk Jkx
 rw [List.all_map]
 rfl
theorem Jyi (B:BTd) (up hi:Int) (lost:List (Option Int)) (n:Nat):Jkb B up hi lost n=((usable B hi (B.lo+n)).filter (Jjz B up (B.lo+n) lost)).isEmpty:=by
 unfold Jkb
 cases hc:(usable B hi (B.lo+n)).filter (Jjz B up (B.lo+n) lost) with
 |nil=>
  show _=true
  rw [Bool.not_eq_true',List.any_eq_false]
  intro x hx
  exact List.filter_eq_nil_iff.mp hc x hx
 |cons x xs=>
  show _=false
  have hx:x∈(usable B hi (B.lo+n)).filter (Jjz B up (B.lo+n) lost):=by rw [hc];exact List.mem_cons_self ..
  obtain ⟨h1,h2⟩:=List.mem_filter.mp hx
  rw [Bool.not_eq_false',List.any_eq_true]
  exact ⟨x,h1,h2⟩
theorem LDict.put {B:BTd} {l:List (Option Int)} {kvs:List (Key×V)} {n:Nat} {r:Int} (h:LDict B l kvs) (hl:l.length=nLv B) (hn:n < nLv B) {kvs':List (Key×V)} (hk:∀e:Int,(Jl0 kvs' (Sum.inl e)).isSome=((Jl0 kvs (Sum.inl e)).isSome||decide (e=B.lo+n))):LDict B (l.set n (some r)) kvs':=by
 intro e h1 h2
 rw [hk e,h e h1 h2]
 by_cases q:e=B.lo+n
 ·subst q
  have e1:(B.lo+(n:Int) - B.lo).toNat=n:=by omega
  rw [e1]
  have:n < l.length:=by omega
  simp [List.getD_eq_getElem?_getD,this]
 ·have e1:(e - B.lo).toNat≠n:=fun z=>q (by omega)
  rw [decide_eq_false q,Bool.or_false]
  simp [List.getD_eq_getElem?_getD,List.getElem?_set_ne (Ne.symm e1)]
theorem Jkw {K:W.Frag} {H:Hp}:∀ns:List Int,DatVs K H (ns.map V.int) (ns.map PyData.int)
 | []=>.nil
 |_::r=>.cons (.int _) (Jkw r)
theorem Jkg (ns:List Int):SeqAt.shaped (.list (ns.map PyData.int))=true:=by
 have e1:∀l:List Int,PyData.canLayAll0 (l.map PyData.int)=true:=by
  intro l
  induction l with
  |nil=>rfl
  |cons c r ih=>simp only [List.map_cons,PyData.canLayAll0,PyData.canLay0,ih,Bool.and_self]
 have e2:∀l:List Int,PyData.depthAll (l.map PyData.int)=0:=by
  intro l
  induction l with
  |nil=>rfl
  |cons c r ih=>simp [PyData.depthAll,PyData.depth,ih]
 simp [SeqAt.shaped,PyData.canLay0,PyData.depth,e1 ns,e2]
theorem Jq3 (ns:List Int):PyData.eqv (.list (ns.map PyData.int)) (.list [])=ns.isEmpty:=by
 cases ns <;> rfl
theorem Jzn (kvs:List (Key×V)) (k:Key) (v:V):(Jnq kvs k v).length≤kvs.length+1:=by
 unfold Jnq
 split <;> simp
def frL (B:BTd) (up hi:Int) (l:List (Option Int)) (i:Nat):List Int:=((List.range i).filter fun n=>(l.getD n none).isNone&&Jkb B up hi l n).map fun n:Nat=>B.lo+(n:Int)
theorem Jq4 (B:BTd) (up hi:Int) (l:List (Option Int)) (i:Nat):frL B up hi l (i+1)=frL B up hi l i++(if ((l.getD i none).isNone&&Jkb B up hi l i)=true then [B.lo+(i:Int)] else []):=by
 unfold frL
 rw [List.range_succ,List.filter_append,List.map_append]
 congr 1
 by_cases c:((l.getD i none).isNone&&Jkb B up hi l i)=true
 ·rw [List.filter_cons,if_pos c,if_pos c];rfl
 ·rw [List.filter_cons,if_neg c,if_neg c];rfl
theorem Ya0 (B:BTd) (up hi:Int) (l:List (Option Int)) (i:Nat):(frL B up hi l i).length≤i:=by
 unfold frL
 rw [List.length_map]
 refine Nat.le_trans (List.length_filter_le _ _) ?_
 rw [List.length_range]
 exact Nat.le_refl _
def LstI (B:BTd) (up hi:Int) (H:Hp) (t L:Addr):Nat→L2.St→Hp→Prop:=fun m σ H'=>∃(l:List (Option Int)) (r:Int) (fl:Bool) (kvs:List (Key×V)) (o6 o7 o8 o9 o10:Option V),
 σ= [some (.ref t),some (.int up),some (.int hi),some (.ref L),some (.int r),some (.bl fl),o6,o7,o8,o9,o10]∧Same H H'∧H' L=some (.dK kvs)∧LDict B l kvs∧l.length=nLv B∧kvs.length+13*Jja l≤169∧
 ((fl=true∧m=Jja l+1∧Jlu B up hi (Jja l+1) l r=Jkc B up hi)∨(fl=false∧m=0∧l=Jkc B up hi))
def Yav:Sp:=fun vs H Q _=>∃(t:Addr) (B:BTd) (up hi:Int),vs= [.ref t,.int up,.int hi]∧TldAt H t B∧BGd B∧(0≤up∧up≤12)∧
 ∀(L:Addr) (kvs:List (Key×V)) (H':Hp),Same H H'→H' L=some (.dK kvs)→LDict B (Jkc B up hi) kvs→Q (.ref L) H'
section
variable {P:Program} {w:World} {K:W.Frag} {mg:Str→Option Value} {base:Heap} {a:Ad}
theorem sc_law_lost:Jia ["_law_told_here","_law_up","_law_hi","_law_lost_here","_law_number","_law_more","_law_some","_law_level","_law_good","_law_lefts","_law_safe"] ["_law_told_here","_law_up","_law_hi"] (Ji5 (top 70)):=⟨rfl,rfl,rfl,by decide +kernel,rfl,by decide +kernel,by decide +kernel⟩
theorem Ju9 (T:Tx K mg a):FnOk P w K mg base CX0 2 a.Jgp a.Jgq ["_law_told_here","_law_up","_law_hi"] Yav:=by
 have G__law_lets:=Ju8 (P:=P) (w:=w) (base:=base) T
 have G__law_bad:=Jvm (P:=P) (w:=w) (base:=base) T
 refine T.Jx.fn.ok sc_law_lost (fun vs H Q E h=>?_) (fun cdv A outer s H vs Q E hr h=>?_)
 ·obtain ⟨t,B,up,hi,rfl,_⟩:=h
  rfl
 ·obtain ⟨t,B,up,hi,rfl,td,bg,hup,k⟩:=h
  have hu64:=Jm0 hr
  have n13:=Jvh bg
  have b1:=bg.lo
  have b2:=bg.hi
  have b3:=bg.rn
  have n4:=Jsy bg.G
  obtain ⟨mm,ht,hm,sv⟩:=id td
  have en:nOf B.G=B.G.ns.length:=by unfold nOf;rw [sv]
  refine ⟨?t,?B,?C⟩
  case B=>
   refine' Ji3 ?s1 ?r1
   case s1=>
    exact (Jik (i:=3) sc_law_lost.nd rfl (Or.inr rfl) Jzi)
   case r1=>
    refine' Ji3 ?s3 ?r3
    case s3=>
     exact (Jik (i:=4) sc_law_lost.nd rfl (Or.inl rfl) Ji6)
    case r3=>
     refine' Ji3 ?s5 ?r5
     case s5=>
      exact (Jik (i:=5) sc_law_lost.nd rfl (Or.inl rfl) Jjt)
     case r5=>
      refine' Ji3 ?s7 ?r7
      case s7=>
       exact (Jug PassesOwn.never (Jqr (pv 5) (fun _=>rfl)) (Ji3 (Jik (i:=4) sc_law_lost.nd rfl (Or.inl rfl) (Jig Jit (pv 4) Ji6)) (Ji3 (Jik (i:=6) sc_law_lost.nd rfl (Or.inl rfl) (Jiu Ji2)) (Ji3 (Jk2 PassesOwn.never rfl (Jxs (by rfl) T.Jas (Ji0 (Jin Jj9 (pv 0) Ji6 (fun _ _=>rfl)) (Ji0 (Jig Jit (Jin Jj9 (pv 0) Ji6 (fun _ _=>rfl)) Ji6) Ji2))) (Jie (i:=7) sc_law_lost.nd rfl (Or.inr rfl)) (Ji3 (Jks (i:=8) (N:=(["_law_setting","_law_hi","_law_told_here","_law_level"]:List Str)) (ini:=[none,some 2,some 0,some 7]) sc_law_lost.nd rfl (Or.inl rfl) rfl (Jix (by rfl) T.Jas (Ji0 (Jic Jil (by rfl) T.Jao Jjg (Ji0 (Jin Jj9 (pv 0) Ji6 (fun _ _=>rfl)) Ji2)) Ji2)) (fun _ _ _ _ _=>(Jie (i:=0) (by decide +kernel:(["_law_setting","_law_hi","_law_told_here","_law_level"]:List Str).Nodup) rfl (Or.inl rfl))) (fun _ _ _ _ _=>(Jkr (Jim Jlk (Ji9 T.Jv G__law_lets hr (by decide) (Ji0 (pv 2) (Ji0 (pv 0) (Ji0 (pv 3) Ji2)))) (pv 1) (Jio _)))) (fun _ _ _ _ _=>(pv 0))) (Ji3 (Jks (i:=9) (N:=(["_law_setting","_law_level","_law_told_here"]:List Str)) (ini:=[none,some 7,some 0]) sc_law_lost.nd rfl (Or.inl rfl) rfl (Jj7 (pv 8)) (fun _ _ _ _ _=>(Jie (i:=0) (by decide +kernel:(["_law_setting","_law_level","_law_told_here"]:List Str).Nodup) rfl (Or.inl rfl))) (fun _ _ _ _ _=>Jj3) (fun _ _ _ _ _=>(Jig Jkd (pv 1) (Ji9 T.Jv G__law_lets hr (by decide) (Ji0 (pv 2) (Ji0 (pv 0) (Ji0 (pv 1) Ji2))))))) (Ji3 (Jks (i:=10) (N:=(["_law_left","_law_told_here","_law_up","_law_lost_here"]:List Str)) (ini:=[none,some 0,some 1,some 3]) sc_law_lost.nd rfl (Or.inl rfl) rfl (Jj7 (pv 9)) (fun _ _ _ _ _=>(Jie (i:=0) (by decide +kernel:(["_law_left","_law_told_here","_law_up","_law_lost_here"]:List Str).Nodup) rfl (Or.inl rfl))) (fun _ _ _ _ _=>(Jkr (Jim Joz (Ji9 T.Jw G__law_bad hr (by decide) (pa4 (pv 1) (pv 2) (pv 0) (pv 3))) Jk1 (Jio _)))) (fun _ _ _ _ _=>(pv 0))) (Ji4 (Jis (PW.pt (Jqs (Jim (Jlp hu64) (pv 7) (pv 3) (by with_unfolding_all rfl)) (Jo8 (Jim (Jzd hu64) (pv 10) (Jiu Ji2) (Jio _))))) (Ji4 (Jk7 (Jph F.plainAttrs_list F.slot_list_append F.type_list_append Jjx (pv 6) (Ji0 (pv 7) Ji2)))) Jih)))))) (Ji3 (Jk2 PassesOwn.never rfl (Jj7 (pv 6)) (Jie (i:=7) sc_law_lost.nd rfl (Or.inr rfl)) (Ji4 (Jxv hu64 (pv 3) (pv 7) (pv 4) rfl))) (Ji4 (Jik (i:=5) sc_law_lost.nd rfl (Or.inl rfl) (Jk6 (Jnp hu64) (pv 6) (Jiu Ji2) (Jio _)))))))))
      case r7=>
       refine' Ji4 ?s9
       case s9=>
        exact (Jib (pv 3))
  intro L hL
  have sL:∀{H':Hp} {o:HO},Same H H'→Same H (upd H' L o):=fun s b u z=>by rw [Ji7 (Ji8 z hL)];exact s _ _ z
  refine ⟨LstI B up hi H t L,⟨_,List.replicate (nLv B) none,0,true,[],none,none,none,none,none,rfl,Same.upd hL,Ji1,?_,by simp,?_,.inl ⟨rfl,rfl,?_⟩⟩,?_⟩
  ·intro e _ _
   rw [Yk,List.getD_eq_getElem?_getD,List.getElem?_replicate]
   split <;> rfl
  ·have:Jja (List.replicate (nLv B) none)≤nLv B:=by
    unfold Jja
    refine Nat.le_trans (List.countP_le_length ..) ?_
    simp
   simp
   omega
  ·refine Jm1 _ _ _ _ (by simp) (Nat.lt_succ_self _) ?_
   unfold Jja
   refine Nat.lt_succ_of_le (Nat.le_trans (List.countP_le_length ..) ?_)
   simp
  rintro m σ' H' ⟨l,r,fl,kvs,o6,o7,o8,o9,o10,rfl,sm,hLd,ld,hl,hk,cs⟩
  refine ⟨_,rfl,fl,rfl,?_⟩
  rcases cs with ⟨rfl,rfl,hloop⟩|⟨rfl,rfl,rfl⟩
  ·refine Jk0 ⟨fun σ H'=>∃m',m' < Jja l+1∧LstI B up hi H t L m' σ H',fun _ _ h=>h,?_⟩
   refine ⟨_,rfl,_,_,rfl,rfl,?_⟩
   refine ⟨(show 0≤sizeLine by decide),fun S hS=>?_⟩
   have hS0:H S=none:=by
    cases hc:H S with
    |none=>rfl
    |some u=>rw [sm _ _ hc] at hS;cases hS
   have nSL:S≠L:=fun z=>by rw [z,hLd] at hS;cases hS
   have s1:Same H (upd H' S (.lst [])):=sm.trans (Same.upd hS)
   refine ⟨_,rfl,t,_,1,_,rfl,rfl,SqT.of (s1 _ _ ht),rfl,_,rfl,t,_,2,_,rfl,rfl,SqT.of (s1 _ _ ht),rfl,_,_,rfl,rfl,_,_,rfl,⟨by omega,by omega,by omega,by omega⟩,?_⟩
   refine Jjw (lo:=B.lo) (fun i σ H2=>(∃o7 o8 o9 o10,σ= [some (.ref t),some (.int up),some (.int hi),some (.ref L),some (.int (r+1)),some (.bl true),some (.ref S),o7,o8,o9,o10])∧Same H H2∧H2 L=some (.dK kvs)∧H2 S=some (.lst ((frL B up hi l i).map V.int))) ⟨⟨_,_,_,_,rfl⟩,s1,by rw [Ji7 (Ne.symm nSL)];exact hLd,Ji1⟩ ?_ ?_
   ·rintro i σ H2 hi' ⟨⟨o7,o8,o9,o10,rfl⟩,s2,hL2,hS2⟩
    have hi2:i < nLv B:=hi'
    have hi3:(i:Int) < B.hi+1 - B.lo:=by unfold nLv at hi2;omega
    generalize elv:B.lo+(i:Int)=lv
    have hlv:0≤lv∧lv≤1000:=by omega
    refine ⟨_,rfl,t,_,6,_,rfl,rfl,SqT.of (s2 _ _ ht),rfl,mm,_,rfl,.inl (SqL.of (s2 _ _ hm)),_,rfl,by rw [List.length_map];omega,by rw [List.length_map];omega,fun D hD=>?_⟩
    refine Jjk (lo:=0) (fun j σ H3=>(∃o,σ= [o,some (.int hi),some (.ref t),some (.int lv)])∧Same H2 H3∧H3 D=some (.lst ((((List.range j).map fun k:Nat=>(k:Int)).filter fun s=>decide (lvG B.G s lv≤hi)).map V.int))) ⟨⟨_,rfl⟩,Same.upd hD,Ji1⟩ ?_ ?_
    ·rintro j σ H3 hj ⟨⟨o1,rfl⟩,s3,hD3⟩
     have hj2:j < B.G.ns.length:=by simpa using hj
     have zj:(0+(j:Int))=j:=by omega
     rw [zj]
     refine ⟨_,rfl,_,rfl,_,rfl,t,B,(j:Int),lv,rfl,(td.same s2).same s3,bg.G,⟨by omega,by omega⟩,hlv,_,rfl,_,_,rfl,rfl,_,rfl,Jl9 (fun q=>?_) (fun q=>?_)⟩
     ·refine ⟨_,rfl,_,hD3,?_,⟨_,rfl⟩,?_,?_⟩
      ·rw [List.length_map]
       refine Jii (Nat.le_trans (List.length_filter_le _ _) ?_)
       simp
       omega
      ·intro c2 o' z
       rw [Ji7 (Ji8 z hD)]
       exact s3 _ _ z
      ·rw [Ji1,List.range_succ,List.map_append,List.filter_append,List.map_append]
       congr 3
       show _=List.map V.int (List.filter _ [(j:Int)])
       rw [List.filter_cons,if_pos q]
       rfl
     ·refine ⟨⟨_,rfl⟩,s3,?_⟩
      rw [hD3,List.range_succ,List.map_append,List.filter_append,List.map_append]
      congr 2
      show _=_++List.map V.int (List.filter _ [(j:Int)])
      rw [List.filter_cons,if_neg q]
      simp
    rintro σ3 H3 ⟨_,s3,hD3⟩
    have hD3:H3 D=some (.lst ((usable B hi lv).map V.int)):=by
     rw [hD3]
     unfold usable
     rw [en]
     simp
    have n5:=Jm6 B hi lv n4
    refine ⟨_,rfl,D,rfl,⟨_,SqL.of hD3⟩,fun D2 hD2=>?_⟩
    refine Jlz ((usable B hi lv).map fun s=>V.int (lv - lvG B.G s lv)) hD2 (by simp) (by simp;omega) hD3 ?_ ?_
    ·intro j x y H4 Q' hx hy s4 k'
     rw [List.getElem?_map] at hx hy
     obtain ⟨u,hu,rfl⟩:=Option.map_eq_some_iff.mp hx
     rw [hu] at hy
     cases hy
     exact ⟨_,rfl,_,rfl,_,rfl,_,rfl,t,B,u,lv,rfl,((td.same s2).same s3).same s4,bg.G,Jr3 (List.mem_of_getElem? hu),hlv,_,_,rfl,rfl,k' _ (Same.refl _)⟩
    intro H4 s4 hD4
    have hL4:=s4 _ _ (s3 _ _ hL2)
    refine ⟨_,rfl,D2,rfl,⟨_,SqL.of hD4⟩,fun D3 hD3'=>?_⟩
    refine Jjb (K:=K) (xs:=(usable B hi lv).map fun s=>V.int (lv - lvG B.G s lv)) (fun j σ H5=>(∃o,σ= [o,some (.ref t),some (.int up),some (.ref L)])∧Same H4 H5∧H5 D3=some (.lst (((((usable B hi lv).take j).filter (Jjz B up lv l)).map fun s=>lv - lvG B.G s lv).map V.int))) ⟨⟨_,rfl⟩,Same.upd hD3',Ji1⟩ (fun j σ H5 _ ⟨_,s5,_⟩=>SqL.of (s5 _ _ hD4)) ?_ ?_
    ·rintro j x σ H5 hx ⟨⟨o1,rfl⟩,s5,hD5⟩
     rw [List.getElem?_map] at hx
     obtain ⟨u,hu,rfl⟩:=Option.map_eq_some_iff.mp hx
     have il:j < (usable B hi lv).length:=(List.getElem?_eq_some_iff.mp hu).1
     have es:Jna B up (lv - lvG B.G u lv) l=Jjz B up lv l u:=Jul B up lv u l
     refine ⟨_,rfl,_,rfl,_,rfl,_,rfl,t,L,B,up,lv - lvG B.G u lv,kvs,l,rfl,(((td.same s2).same s3).same s4).same s5,bg,hup,s5 _ _ hL4,ld,fun q=>?_,fun q z=>?_⟩
     ·rw [es] at q
      refine ⟨rfl,_,rfl,ifT (by simp) ?_⟩
      refine ⟨_,rfl,_,hD5,?_,⟨_,rfl⟩,?_,?_⟩
      ·rw [List.length_map,List.length_map]
       refine Jii (Nat.le_trans (List.length_filter_le _ _) ?_)
       rw [List.length_take]
       omega
      ·intro c2 o' z
       rw [Ji7 (Ji8 z hD3')]
       exact s5 _ _ z
      ·rw [Ji1,List.take_add_one,hu,List.filter_append,List.map_append,List.map_append]
       congr 3
       show _=List.map V.int (List.map _ (List.filter _ [u]))
       rw [List.filter_cons,if_pos q]
       rfl
     ·rw [es] at q
      refine ⟨rfl,_,rfl,ifF (by simp) ?_⟩
      refine ⟨⟨_,rfl⟩,s5,?_⟩
      rw [hD5,List.take_add_one,hu,List.filter_append,List.map_append,List.map_append]
      congr 2
      show _=_++List.map V.int (List.map _ (List.filter _ [u]))
      rw [List.filter_cons,if_neg (by rw [q];decide)]
      simp
    rintro σ5 H5 ⟨_,s5,hD5⟩
    rw [List.length_map,List.take_length] at hD5
    have s25:=((s3.trans s4).trans s5)
    have hL5:=s25 _ _ hL2
    have hS5:=s25 _ _ hS2
    refine ⟨_,rfl,_,rfl,L,_,rfl,.inl ⟨_,Sum.inl lv,.inl hL5,rfl,rfl⟩,_,rfl,?_⟩
    have ed:=ld lv (by omega) (by omega)
    rw [show (lv - B.lo).toNat=i by omega] at ed
    rw [ed]
    have ec:=Jyi B up hi l i
    rw [elv] at ec
    cases hc:l.getD i none with
    |some v=>
     refine Jj0 (Jj0 ⟨⟨_,_,_,_,rfl⟩,s2.trans s25,hL5,?_⟩)
     rw [Jq4,hc,if_neg (by simp),List.append_nil]
     exact hS5
    |none=>
     refine Jk0 ⟨_,rfl,(show 0≤sizeLine by decide),fun E hE=>⟨_,_,.lst (SqL.of (Same.upd hE _ _ hD5)) (Jkw _),.lst (SqL.of Ji1) .nil,Jkg _,rfl,_,rfl,?_⟩⟩
     rw [if_neg Bool.false_ne_true,Jq3]
     have s5E:=Same.upd (o:=.lst []) hE
     have ee:((List.map (fun s=>lv - lvG B.G s lv) (List.filter (Jjz B up lv l) (usable B hi lv))).isEmpty)=Jkb B up hi l i:=by
      rw [ec,List.isEmpty_map]
     rw [ee]
     refine Jl9 (fun q=>?_) (fun q=>?_)
     ·have hS6:=s5E _ _ hS5
      refine ⟨_,rfl,.inl ⟨rfl,_,SqL.of hS6⟩,_,rfl,S,_,_,rfl,rfl,hS6,?_,⟨_,_,_,_,rfl⟩,?_,?_,?_⟩
      ·rw [List.length_map]
       exact Jii (Nat.le_trans (Ya0 ..) (by omega))
      ·intro c2 o' z
       rw [Ji7 (Ji8 z hS0)]
       exact s5E _ _ (s25 _ _ (s2 _ _ z))
      ·rw [Ji7 (Ne.symm nSL)]
       exact s5E _ _ hL5
      ·rw [Ji1,Jq4,hc,q,if_pos (by rfl),List.map_append,elv]
       rfl
     ·refine ⟨⟨_,_,_,_,rfl⟩,(s2.trans s25).trans s5E,s5E _ _ hL5,?_⟩
      rw [Jq4,hc,if_neg (by simpa using q),List.append_nil]
      exact s5E _ _ hS5
   ·rintro σ2 H2 ⟨⟨o7,o8,o9,o10,rfl⟩,s2,hL2,hS2⟩
    have hS2:H2 S=some (.lst (((Jij B up hi l).map fun n:Nat=>B.lo+(n:Int)).map V.int)):=hS2
    refine ⟨_,rfl,S,rfl,⟨_,SqL.of hS2⟩,?_⟩
    refine Jma (K:=K) (xs:=((Jij B up hi l).map fun n:Nat=>B.lo+(n:Int)).map V.int) (fun j σ H3=>(∃o7,σ= [some (.ref t),some (.int up),some (.int hi),some (.ref L),some (.int (r+1)),some (.bl true),some (.ref S),o7,o8,o9,o10])∧Same H H3∧H3 S=some (.lst (((Jij B up hi l).map fun n:Nat=>B.lo+(n:Int)).map V.int))∧∃kvs',H3 L=some (.dK kvs')∧LDict B (Jld l ((Jij B up hi l).take j) (r+1)) kvs'∧kvs'.length≤kvs.length+j) ⟨⟨_,rfl⟩,s2,hS2,kvs,hL2,ld,Nat.le_refl _⟩ (fun j σ H3 _ h=>SqL.of h.2.2.1) ?_ ?_
    ·rintro j x σ H3 hx ⟨⟨o7,rfl⟩,s3,hS3,kvs',hL3,ld3,hk3⟩
     rw [List.getElem?_map,List.getElem?_map] at hx
     obtain ⟨z,hz,rfl⟩:=Option.map_eq_some_iff.mp hx
     obtain ⟨n,hn,rfl⟩:=Option.map_eq_some_iff.mp hz
     have hn2:=Jor hl (List.mem_of_getElem? hn)
     have jl:j < (Jij B up hi l).length:=(List.getElem?_eq_some_iff.mp hn).1
     have f13:(Jij B up hi l).length≤13:=by
      unfold Jij
      refine Nat.le_trans (List.length_filter_le _ _) ?_
      rw [List.length_range]
      exact n13
     refine ⟨_,rfl,_,rfl,_,rfl,L,_,rfl,DPut.k (k:=Sum.inl (B.lo+(n:Int))) hL3 (Jii (by omega)),⟨_,rfl⟩,sL s3,?_,_,Ji1,?_,?_⟩
     ·rw [Ji7 nSL]
      exact hS3
     ·rw [List.take_add_one,hn]
      show LDict B (Jld l (_++ [n]) (r+1)) _
      rw [Jsc]
      refine LDict.put ld3 (by rw [Jlw];exact hl) hn2.1 fun e=>?_
      rw [Yl]
      by_cases c:e=B.lo+(n:Int)
      ·rw [if_pos (by rw [c]),decide_eq_true c]
       simp
      ·rw [if_neg (fun z=>c (Sum.inl.inj z)),decide_eq_false c,Bool.or_false]
     ·have:=Jzn kvs' (Sum.inl (B.lo+(n:Int))) (V.int (r+1))
      omega
    ·rintro σ3 H3 ⟨⟨o7,rfl⟩,s3,hS3,kvs',hL3,ld3,hk3⟩
     rw [List.length_map,List.length_map] at ld3 hk3
     rw [List.take_length] at ld3
     have f13:(Jij B up hi l).length≤13:=by
      unfold Jij
      refine Nat.le_trans (List.length_filter_le _ _) ?_
      rw [List.length_range]
      exact n13
     refine ⟨_,rfl,(show 0≤sizeLine by decide),fun E hE=>⟨_,_,.lst (SqL.of (Same.upd hE _ _ hS3)) (Jkw _),.lst (SqL.of Ji1) .nil,Jkg _,rfl,?_⟩⟩
     have s3E:=Same.upd (o:=.lst []) hE
     rw [if_pos rfl,Jq3,List.isEmpty_map]
     by_cases em:Jij B up hi l= []
     ·rw [em]
      have ee:Jkc B up hi=l:=by
       rw [←hloop]
       show (if Jij B up hi l= [] then l else _)=l
       rw [if_pos em]
      rw [em] at ld3 hk3
      refine ⟨0,Nat.succ_pos _,l,r+1,false,kvs',_,_,_,_,_,rfl,s3.trans s3E,s3E _ _ hL3,ld3,hl,?_,.inr ⟨rfl,rfl,ee.symm⟩⟩
      simp at hk3
      omega
     ·have lt2:=Jli (r:=r+1) hl em
      have ln2:(Jld l (Jij B up hi l) (r+1)).length=nLv B:=by rw [Jlw];exact hl
      have e0:(Jij B up hi l).isEmpty=false:=by
       cases hc:Jij B up hi l with
       |nil=>exact absurd hc em
       |cons _ _=>rfl
      rw [e0]
      refine ⟨_,?_,Jld l (Jij B up hi l) (r+1),r+1,true,kvs',_,_,_,_,_,rfl,s3.trans s3E,s3E _ _ hL3,ld3,ln2,?_,.inl ⟨rfl,rfl,?_⟩⟩
      ·omega
      ·omega
      ·rw [←hloop]
       show _=(if Jij B up hi l= [] then l else Jlu B up hi (Jja l) (Jld l (Jij B up hi l) (r+1)) (r+1))
       rw [if_neg em]
       exact Jm1 _ _ _ _ ln2 (Nat.lt_succ_self _) lt2
  ·refine Jj0 ⟨_,rfl,k L kvs H' sm hLd ld⟩
end
theorem Jpt {t1 t2:TS} {D:Ends} {σ:L2.St} {H:Hp} (Mid:L2.St→Hp→Prop) (h1:∀R,(∀σ H,Mid σ H→R σ H)→t1 {D with nx:=R} σ H) (h2:∀σ H,Mid σ H→t2 D σ H):tSeq t1 t2 D σ H:=h1 _ h2
theorem lo_eq (z:Str):(if decide (V.str z=V.str ("part" :Str))=true then (1:Int) else 0)=Jl3 z:=by
 unfold Jl3
 by_cases h:z=("part" :Str)
 ·rw [if_pos h,if_pos (decide_eq_true (by rw [h]))]
 ·rw [if_neg h,if_neg (by rw [decide_eq_false (Jw1 h)];decide)]
theorem lo_01 (z:Str):Jl3 z=0∨Jl3 z=1:=by
 unfold Jl3
 split
 ·exact .inr rfl
 ·exact .inl rfl
theorem Jlh:∀(ns:List Int) (lo:Int),ns.Pairwise (· < ·)→(∀n∈ns,lo≤n∧n≤12)→Jiz lo (ns.map V.int)=true:=by
 intro ns
 induction ns with
 |nil=>intro lo _ _;rfl
 |cons x r ih=>
  intro lo h b
  have hx:=b x (List.mem_cons_self ..)
  obtain ⟨h1,h2⟩:=List.pairwise_cons.mp h
  have q:=ih (x+1) h2 fun n hn=>⟨by have:=h1 n hn;omega,(b n (List.mem_cons_of_mem _ hn)).2⟩
  show ((decide (lo≤x)&&decide (x≤12))&&Jiz (x+1) (r.map V.int))=true
  rw [decide_eq_true hx.1,decide_eq_true hx.2,q]
  rfl
theorem Jxm:∀(ns:List Int) (lo:Int),Jiz lo (ns.map V.int)=true→∀n∈ns,lo≤n∧n≤12:=by
 intro ns
 induction ns with
 |nil=>intro lo _ n hn;simp at hn
 |cons x r ih=>
  intro lo h n hn
  have h':((decide (lo≤x)&&decide (x≤12))&&Jiz (x+1) (r.map V.int))=true:=h
  rw [Bool.and_eq_true,Bool.and_eq_true,decide_eq_true_eq,decide_eq_true_eq] at h'
  rcases List.mem_cons.mp hn with rfl|hn
  ·exact h'.1
  ·have:=ih _ h'.2 n hn
   omega
theorem cut4 (ns:List Int):Jjn (ns.map V.int) none (some 4)=(ns.take 4).map V.int:=by
 unfold Jjn
 rw [HT.sIx_none,show (some (4:Int))=some ((4:Nat):Int) from rfl,HT.sIx_nat,List.length_map,List.drop_zero,Nat.sub_zero,List.map_take]
 by_cases h:4≤ns.length
 ·rw [Nat.min_eq_left h]
 ·rw [Nat.min_eq_right (by omega),List.take_of_length_le (by rw [List.length_map];exact Nat.le_refl _),List.take_of_length_le (by rw [List.length_map];omega)]
theorem Jve {lo:Int} {ns zs:List Int} (h0:0≤lo) (h1:lo≤1) (hm:Jk5 lo (zs.map V.int)=true) (hp:ns.Pairwise (· < ·)) (hi:∀n,n∈ns↔n∈zs++ [lo]):Jk5 lo ((ns.take 4).map V.int)=true:=by
 unfold Jk5 at hm⊢
 rw [Bool.and_eq_true] at hm
 have mb:=Jxm zs lo hm.2
 have all:∀n∈ns,lo≤n∧n≤12:=fun n hn=>by
  rcases List.mem_append.mp ((hi n).mp hn) with h|h
  ·exact mb n h
  ·have:=List.mem_singleton.mp h
   omega
 have ne:1≤ns.length:=by
  have:lo∈ns:=(hi lo).mpr (List.mem_append.mpr (.inr (List.mem_singleton.mpr rfl)))
  cases ns with
  |nil=>simp at this
  |cons _ _=>simp
 rw [Bool.and_eq_true]
 refine ⟨decide_eq_true ?_,Jlh _ _ (hp.sublist (List.take_sublist 4 ns)) fun n hn=>all n (List.mem_of_mem_take hn)⟩
 rw [List.length_map,List.length_take]
 omega
def TldM (H:Hp) (t m:Addr) (B:BTd):Prop:=H t=some (.tup [.str B.z,.int B.lo,.int B.hi,.int B.st,.int B.rn,.str B.G.kd,.ref m])∧H m=some (.lst (B.G.ns.map V.int))∧B.G.sv=none
theorem TldM.at {H:Hp} {t m:Addr} {B:BTd} (h:TldM H t m B):TldAt H t B:=⟨m,h⟩
theorem TldM.but {p t m:Addr} {H H':Hp} {B:BTd} (st:Strm H p) (b:But p H H') (hm:m≠p) (h:TldM H t m B):TldM H' t m B:=⟨b.1 _ _ (Jws st h.1 (fun _ _ _ z=>by cases z)) h.1,b.1 _ _ hm h.2.1,h.2.2⟩
theorem TldM.same {t m:Addr} {H H':Hp} {B:BTd} (s:Same H H') (h:TldM H t m B):TldM H' t m B:=⟨s _ _ h.1,s _ _ h.2.1,h.2.2⟩
theorem Yf {zs:List Str} {s:Int} (h:0≤s∧s < zs.length):∃z,atI (zs.map V.str) s=some (.str z)∧z∈zs:=by
 obtain ⟨i,rfl⟩:=Int.eq_ofNat_of_zero_le h.1
 have hi:i < zs.length:=by omega
 exact ⟨zs[i],Jjv (by rw [List.getElem?_map,List.getElem?_eq_getElem hi];rfl),List.getElem_mem hi⟩
theorem Ju3 {i:Int} (h0:0≤i) (h:i≤1000):i.natAbs.log2 < 9000:=Jz9 (by omega)
def Juu:Sp:=fun vs H Q _=>∃(p:Addr) (z:Str),vs= [.ref p,.str z]∧Strm H p∧Jpe z=true∧Wd 50 z∧∀(t m:Addr) (B:BTd) (H':Hp),But p H H'→m≠p→TldM H' t m B→TGd B→B.z=z→Q (.ref t) H'
section
variable {P:Program} {w:World} {K:W.Frag} {mg:Str→Option Value} {base:Heap} {a:Ad}
theorem sc_law_basin:Jia ["_law_stream_here","_law_name","_law_low","_law_high","_law_start","_law_kind","_law_marks_here"] ["_law_stream_here","_law_name"] (Ji5 (top 65)):=⟨rfl,rfl,rfl,by decide +kernel,rfl,by decide +kernel,by decide +kernel⟩
theorem Jt5 (T:Tx K mg a):FnOk P w K mg base CX0 3 a.Jgf a.Jgg ["_law_stream_here","_law_name"] Juu:=by
 have G__law_take:=Jk9 (P:=P) (w:=w) (base:=base) T
 have G__law_marks:=Jt8 (P:=P) (w:=w) (base:=base) T
 refine T.Js.fn.ok sc_law_basin (fun vs H Q E h=>?_) (fun cdv A outer s H vs Q E hr h=>?_)
 ·obtain ⟨p,z,rfl,_⟩:=h
  rfl
 ·obtain ⟨p,z,rfl,st,nm,wd,k⟩:=h
  refine ⟨?t,?B,?C⟩
  case B=>
   refine' Ji3 ?s1 ?r1
   case s1=>
    exact (Jik (i:=2) sc_law_basin.nd rfl (Or.inl rfl) (Ji9 T.Jq G__law_take hr (by decide) (Ji0 (pv 0) (Ji0 (Jin Jiq (Jiu (Ji0 Ji6 (Ji0 Ji6 (Ji0 Ji6 Ji2)))) (Ji9 T.Jq G__law_take hr (by decide) (Ji0 (pv 0) (Ji0 Ji6 Ji2))) (fun _ _=>rfl)) Ji2))))
   case r1=>
    refine' Ji3 ?s3 ?r3
    case s3=>
     exact (Jik (i:=3) sc_law_basin.nd rfl (Or.inl rfl) (Jig Jit (pv 2) (Ji9 T.Jq G__law_take hr (by decide) (Ji0 (pv 0) (Ji0 (Jig Jkd Ji6 (pv 2)) Ji2)))))
    case r3=>
     refine' Ji3 ?s5 ?r5
     case s5=>
      refine' Jis ?c6 ?a6 ?b6
      case c6=>
       exact (Jim Js9 (Ji9 T.Jq G__law_take hr (by decide) (Ji0 (pv 0) (Ji0 Ji6 Ji2))) Ji6 (Jio _))
      case a6=>
       refine' Ji4 ?s7
       case s7=>
        exact (Jik (i:=3) sc_law_basin.nd rfl (Or.inl rfl) (Jic (Jl6 rfl) (by rfl) T.Jaq Jom (Ji0 (pv 3) (Ji0 (Jig Jkd Ji6 (Ji9 T.Jq G__law_take hr (by decide) (Ji0 (pv 0) (Ji0 Ji6 Ji2)))) Ji2))))
      case b6=>
       exact Jih
     case r5=>
      refine' Ji3 ?s10 ?r10
      case s10=>
       exact (Jik (i:=4) sc_law_basin.nd rfl (Or.inl rfl) (Jig Jit (pv 2) (Ji9 T.Jq G__law_take hr (by decide) (Ji0 (pv 0) (Ji0 (Jig Jit (Jig Jkd (pv 3) (pv 2)) Ji6) Ji2)))))
      case r10=>
       refine' Ji3 ?s12 ?r12
       case s12=>
        exact (Jik (i:=5) sc_law_basin.nd rfl (Or.inl rfl) (Jin Jiq (Jiu (pa4 Jji Jji Jji Jji)) (Ji9 T.Jq G__law_take hr (by decide) (Ji0 (pv 0) (Ji0 Ji6 Ji2))) (fun _ _=>rfl)))
       case r12=>
        refine' Ji3 ?s14 ?r14
        case s14=>
         exact (Jik (i:=6) sc_law_basin.nd rfl (Or.inl rfl) (Ji9 T.Jr G__law_marks hr (by decide) (Ji0 (pv 0) (Ji0 (Jj6 Jon (by rfl) T.Jam Jsn (Ji0 (Jk6 Jn9 (pv 5) Jji (Jio _)) Ji2)) Ji2))))
        case r14=>
         refine' Ji3 ?s16 ?r16
         case s16=>
          refine' Jis ?c17 ?a17 ?b17
          case c17=>
           exact (Jim Jn9 (Ji9 T.Jq G__law_take hr (by decide) (Ji0 (pv 0) (Ji0 Ji6 Ji2))) Ji6 (Jio _))
          case a17=>
           refine' Ji4 ?s18
           case s18=>
            exact (Jik (i:=6) sc_law_basin.nd rfl (Or.inl rfl) (Jmj Jod (Jic (Jq2 rfl) (by rfl) T.Jau Jx0 (Ji0 (Jj6 (Jr6 rfl rfl) (by rfl) T.Jat Jyg (Ji0 (Jig Jnn (pv 6) (Jiu (Ji0 (Jj6 Jon (by rfl) T.Jam Jsn (Ji0 (Jk6 Jn9 (pv 5) Jji (Jio _)) Ji2)) Ji2))) Ji2)) Ji2)) Jo5 (Jo6 Ji6)))
          case b17=>
           exact Jih
         case r16=>
          refine' Ji4 ?s21
          case s21=>
           refine' Jib ?e23_0
           case e23_0=>
            refine' Jke ?e24_0
            case e24_0=>
             refine' pa7 ?e25_0 ?e25_1 ?e25_2 ?e25_3 ?e25_4 ?e25_5 ?e25_6
             case e25_0=>
              exact (pv 1)
             case e25_1=>
              exact (pv 2)
             case e25_2=>
              exact (pv 3)
             case e25_3=>
              exact (pv 4)
             case e25_4=>
              exact (Ji9 T.Jq G__law_take hr (by decide) (Ji0 (pv 0) (Ji0 (Jin Jiq (Jiu (Ji0 Ji6 (Ji0 Ji6 Ji2))) (Ji9 T.Jq G__law_take hr (by decide) (Ji0 (pv 0) (Ji0 Ji6 Ji2))) (fun _ _=>rfl)) Ji2)))
             case e25_5=>
              exact (pv 5)
             case e25_6=>
              exact (pv 6)
  refine ⟨_,rfl,(show 3≤sizeLine by decide),fun l1 h1=>?_⟩
  have s1:=Same.upd (o:=.lst [.int 13,.int 3,.int 3]) h1
  have n1:=st.ne h1
  refine ⟨_,rfl,p,3,rfl,st.same s1,by decide,by decide,fun r1 H1 r10 r11 b1=>?_⟩
  obtain ⟨a1,m1⟩:=Jkp (ns:=[13,3,3]) ⟨r10,r11⟩
  refine ⟨l1,_,r1,_,rfl,rfl,SqL.of (b1.1 _ _ n1 Ji1),a1,?_⟩
  generalize ([13,3,3]:List Int).getD r1.toNat 0=mk at a1 m1
  have hmk:3≤mk∧mk≤13:=by
   simp at m1
   omega
  have c1:But p H H1:=((But.refl st).same s1).trans b1
  refine ⟨p,mk,rfl,c1.2,by omega,Ju3 (by omega) (by omega),fun lo H2 lo0 lo1 b2=>?_⟩
  have c2:=c1.trans b2
  refine ⟨_,rfl,_,rfl,_,rfl,_,_,rfl,rfl,p,13 - lo,rfl,c2.2,by omega,Ju3 (by omega) (by omega),fun r3 H3 r30 r31 b3=>⟨_,_,rfl,rfl,?_⟩⟩
  have c3:=c2.trans b3
  dsimp only [Jmb]
  refine Jpt (fun σ H4=>∃hi:Int,σ= [some (.ref p),some (.str z),some (.int lo),some (.int hi),none,none,none]∧lo≤hi∧hi≤12∧But p H H4) (fun R hR=>?_) ?_
  ·refine ⟨_,rfl,p,3,rfl,c3.2,by decide,by decide,fun r4 H4 r40 r41 b4=>⟨_,_,rfl,rfl,_,rfl,Jl9 (fun q=>?_) (fun q=>?_)⟩⟩
   ·refine ⟨_,rfl,_,rfl,p,4,rfl,(c3.trans b4).2,by decide,by decide,fun r5 H5 r50 r51 b5=>⟨_,_,rfl,rfl,_,_,rfl,hR _ _ ⟨_,rfl,?_,?_,(c3.trans b4).trans b5⟩⟩⟩
    ·split <;> omega
    ·split <;> omega
   ·exact hR _ _ ⟨_,rfl,by omega,by omega,c3.trans b4⟩
  rintro σ H4 ⟨hi,rfl,hi0,hi1,c4⟩
  refine ⟨_,rfl,_,rfl,_,rfl,_,rfl,_,_,rfl,rfl,_,_,rfl,rfl,p,hi - lo+1,rfl,c4.2,by omega,Ju3 (by omega) (by omega),fun r5 H5 r50 r51 b5=>⟨_,_,rfl,rfl,?_⟩⟩
  have c5:=c4.trans b5
  refine ⟨(show 4≤sizeLine by decide),fun l2 h2=>?_⟩
  have s2:=Same.upd (o:=.lst [.str "step",.str "flap",.str "flap",.str "part"]) h2
  have n2:=c5.2.ne h2
  refine ⟨_,rfl,p,4,rfl,c5.2.same s2,by decide,by decide,fun r6 H6 r60 r61 b6=>?_⟩
  obtain ⟨kd,a2,m2⟩:=Yf (zs:=["step","flap","flap","part"]) ⟨r60,r61⟩
  refine ⟨l2,_,r6,_,rfl,rfl,SqL.of (b6.1 _ _ n2 Ji1),a2,?_⟩
  have kn:Knd kd:=by
   simp at m2
   exact m2
  have c6:But p H H6:=(c5.same s2).trans b6
  refine ⟨_,rfl,_,rfl,rfl,.inr ⟨_,rfl,?_⟩⟩
  refine ⟨p,Jl3 kd,congrArg (fun z=>[V.ref p,V.int z]) (lo_eq kd),c6.2,lo_01 kd,fun m ns H7 hm0 b7 hm7 ar=>?_⟩
  have c7:=c6.trans b7
  have nm7:m≠p:=c6.2.ne hm0
  have l01:0≤Jl3 kd∧Jl3 kd≤1:=by rcases lo_01 kd with e|e <;> rw [e] <;> decide
  dsimp only [Jmb]
  refine Jpt (fun σ H8=>∃(m:Addr) (ns:List Int),σ= [some (.ref p),some (.str z),some (.int lo),some (.int hi),some (.int (lo+r5)),some (.str kd),some (.ref m)]∧H8 m=some (.lst (ns.map V.int))∧m≠p∧Jk5 (Jl3 kd) (ns.map V.int)=true∧But p H H8) (fun R hR=>?_) ?_
  ·refine ⟨_,rfl,p,2,rfl,c7.2,by decide,by decide,fun r8 H8 r80 r81 b8=>⟨rfl,_,rfl,Jl9 (fun q=>?_) (fun q=>?_)⟩⟩
   ·have c8:=c7.trans b8
    have hm8:=b8.1 _ _ nm7 hm7
    refine ⟨_,rfl,_,rfl,rfl,.inr ⟨_,rfl,(show 1≤sizeLine by decide),fun l3 h3=>?_⟩⟩
    have s3:=Same.upd (o:=.lst [.int (if decide (V.str kd=V.str ("part" :Str))=true then (1:Int) else 0)]) h3
    have nl:ns.length≤4:=by
     unfold Jk5 at ar
     rw [Bool.and_eq_true,decide_eq_true_eq,List.length_map] at ar
     exact ar.1.2
    refine ⟨m,l3,_,_,rfl,rfl,s3 _ _ hm8,Ji1,?_,fun l4 h4=>?_⟩
    ·rw [List.length_map]
     exact Nat.le_of_lt (Jii (by simp;omega))
    have hl4:(upd (upd H8 l3 (.lst [.int (if decide (V.str kd=V.str ("part" :Str))=true then (1:Int) else 0)])) l4 (.lst (ns.map V.int++ [.int (if decide (V.str kd=V.str ("part" :Str))=true then (1:Int) else 0)]))) l4=some (.lst ((ns++ [Jl3 kd]).map V.int)):=by
     rw [Ji1,lo_eq,List.map_append]
     rfl
    have s4:=s3.trans (Same.upd (o:=.lst (ns.map V.int++ [.int (if decide (V.str kd=V.str ("part" :Str))=true then (1:Int) else 0)])) h4)
    refine ⟨l4,ns++ [Jl3 kd],rfl,SqL.of hl4,by simp;omega,fun l5 h5=>?_⟩
    have s5:=s4.trans (Same.upd (o:=ZS P w l5 (ns++ [Jl3 kd])) h5)
    refine ⟨l5,ns++ [Jl3 kd],rfl,Ji1,by simp;omega,fun l6 ms h6 hp hi=>?_⟩
    have s6:=s5.trans (Same.upd (o:=.lst (ms.map V.int)) h6)
    refine ⟨4,rfl,l6,_,rfl,SqL.of Ji1,fun l7 h7=>hR _ _ ⟨l7,ms.take 4,rfl,?_,?_,Jve l01.1 l01.2 ar hp hi,c8.same (s6.trans (Same.upd h7))⟩⟩
    ·rw [Ji1,cut4]
    ·exact (c8.2.same s6).ne h7
   ·exact hR _ _ ⟨m,ns,rfl,b8.1 _ _ nm7 hm7,nm7,ar,c7.trans b8⟩
  rintro σ H8 ⟨m,ns,rfl,hm8,nm8,ar,c8⟩
  refine ⟨_,rfl,_,rfl,_,rfl,_,rfl,_,rfl,(show 2≤sizeLine by decide),fun l9 h9=>?_⟩
  have s9:=Same.upd (o:=.lst [.int 7,.int 3]) h9
  have n9:=c8.2.ne h9
  refine ⟨_,rfl,p,2,rfl,c8.2.same s9,by decide,by decide,fun r9 H9 r90 r91 b9=>?_⟩
  obtain ⟨a9,m9⟩:=Jkp (ns:=[7,3]) ⟨r90,r91⟩
  refine ⟨l9,_,r9,_,rfl,rfl,SqL.of (b9.1 _ _ n9 Ji1),a9,?_⟩
  generalize ([7,3]:List Int).getD r9.toNat 0=mr at a9 m9
  have hmr:3≤mr∧mr≤7:=by
   simp at m9
   omega
  have c9:But p H H9:=(c8.same s9).trans b9
  refine ⟨p,mr,rfl,c9.2,by omega,Ju3 (by omega) (by omega),fun rn H10 rn0 rn1 b10=>?_⟩
  refine ⟨_,rfl,_,rfl,(show 7≤sizeLine by decide),fun t ht=>?_⟩
  have hm10:=b10.1 _ _ nm8 (b9.1 _ _ nm8 (s9 _ _ hm8))
  refine k t m ⟨z,lo,hi,lo+r5,rn,⟨kd,ns,none⟩⟩ _ ((c9.trans b10).same (Same.upd ht)) nm8 ⟨Ji1,Same.upd ht _ _ hm10,rfl⟩ ⟨⟨⟨lo0,hi0⟩,hi1,⟨rn0,?_⟩,⟨kn,ar,fun i e=>by cases e⟩⟩,⟨?_,?_⟩,nm,wd⟩ rfl
  ·show rn≤6
   omega
  ·show lo≤lo+r5
   omega
  ·show lo+r5≤hi
   omega
end
def RivAt (a:Ad) (H:Hp) (r:Addr) (Bs:List BTd) (c:Int):Prop:=∃(dx b t:Addr) (os:List Addr),H r=some (.ins a.Jhx dx (rivF (.int c) (.int 0) (.ref b) (.ref t)))∧H b=some (.tup (os.map V.ref))∧Paired (fun o B=>BX a H o B) os Bs
theorem RivAt.same {a:Ad} {H H':Hp} {r:Addr} {Bs:List BTd} {c:Int} (s:Same H H') (h:RivAt a H r Bs c):RivAt a H' r Bs c:=by
 obtain ⟨dx,b,t,os,h1,h2,h3⟩:=h
 exact ⟨dx,b,t,os,s _ _ h1,s _ _ h2,Paired.mapP h3 fun _ _ q=>q.same s⟩
structure RGd (Bs:List BTd):Prop where
 len:1≤Bs.length∧Bs.length≤16
 all:∀B∈Bs,TGd B
def Jj8 (B:BTd) (up hi:Int):Bool:=Jkk B up hi (B.st - B.lo).toNat
theorem Jy8 (f:Nat→Int) (lo:Int) (n:Nat):∀ns:List Nat,Jl0 (ns.map fun m:Nat=>((Sum.inl (lo+m):Key),V.int (f m))) (Sum.inl (lo+n))=if n∈ns then some (.int (f n)) else none:=by
 intro ns
 induction ns with
 |nil=>rfl
 |cons m ns ih=>
  rw [List.map_cons]
  by_cases c:m=n
  ·subst c
   rw [Jjp rfl,if_pos (List.mem_cons_self ..)]
  ·have nin:n∈m::ns↔n∈ns:=⟨fun z=>(List.mem_cons.mp z).elim (fun h=>absurd h.symm c) id,List.mem_cons_of_mem _⟩
   rw [Jjo (fun z=>c (by have:=Sum.inl.inj z;omega)),ih]
   by_cases d:n∈ns
   ·rw [if_pos d,if_pos (nin.mpr d)]
   ·rw [if_neg d,if_neg fun z=>d (nin.mp z)]
theorem st_in {B:BTd} (h:B.lo≤B.st∧B.st≤B.hi) (up hi:Int):(Jl0 (Jny B up hi) (Sum.inl B.st)).isSome=Jj8 B up hi:=by
 have e:B.st=B.lo+((B.st - B.lo).toNat:Int):=by omega
 have q:=Jy8 (Jlm B up hi) B.lo (B.st - B.lo).toNat (Jm7 B up hi)
 rw [←e] at q
 unfold Jny
 rw [q]
 unfold Jj8
 cases hc:Jkk B up hi (B.st - B.lo).toNat with
 |true=>
  have hm:(B.st - B.lo).toNat∈Jm7 B up hi:=List.mem_filter.mpr ⟨List.mem_range.mpr (by unfold nLv;omega),hc⟩
  rw [if_pos hm]
  rfl
 |false=>rw [if_neg fun z=>by have:=(List.mem_filter.mp z).2;rw [hc] at this;cases this];rfl
theorem Yw {p:Nat→Bool} {n i:Nat} (hi:i < n) (h:p i=true) (all:∀j,j < i→p j=false):(List.range n).find? p=some i:=by
 rw [List.find?_range_eq_some]
 exact ⟨h,List.mem_range.mpr hi,fun j hj=>by rw [all j hj];rfl⟩
theorem Yx {p:Nat→Bool} {n:Nat} (all:∀j,j < n→p j=false):(List.range n).find? p=none:=by
 rw [List.find?_eq_none]
 intro j hj
 rw [all j (List.mem_range.mp hj)]
 decide
def Jjc (B:BTd) (up:Int):Option Int:=((List.range 13).find? fun h:Nat=>Jj8 B up h).map fun h:Nat=>(h:Int)
theorem Jot {B:BTd} {up u:Int} (h:Jjc B up=some u):0≤u∧u≤12:=by
 unfold Jjc at h
 obtain ⟨n,hn,rfl⟩:=Option.map_eq_some_iff.mp h
 have:=List.mem_range.mp (List.mem_of_find?_eq_some hn)
 omega
def Jjs:List BTd→Int→List Int→List Int×Option Nat
 | [],_,acc=>(acc,none)
 |B::Bs,up,acc=>match Jjc B up with
  |none=>(acc,some acc.length)
  |some u=>Jjs Bs u (acc++ [u])
def Jla (Bs:List BTd):List Int×Option Nat:=Jjs Bs 0 []
def Y7 (a:Ad):Sp:=fun vs H Q _=>∃(o:Addr) (Bd:BTd) (up:Int),vs= [.ref o,.int up]∧H a.Jhz=some (.tbl lb_lost_alone)∧BX a H o Bd∧TGd Bd∧(0≤up∧up≤12)∧∀H',Same H H'→Q (oV (Jjc Bd up)) H'
def Yb0 (a:Ad):Sp:=fun vs H Q E=>∃(r:Addr) (Bs:List BTd) (c:Int),vs= [.ref r]∧H a.Jhz=some (.tbl lb_lost_alone)∧RivAt a H r Bs c∧RGd Bs∧
 (∀acc,Jla Bs=(acc,none)→∀N H',Same H H'→H N=none→H' N=some (.lst (acc.map V.int))→Q (.ref N) H')∧
 (∀acc k,Jla Bs=(acc,some k)→∀e dx H',Same H H'→H' e=some (XO e a.Jhq (some dx) false)→H' dx=some (XD dx [("basin",.int (k:Nat))])→E (.ref a.Jhq) (some e) H')
section
variable {P:Program} {w:World} {K:W.Frag} {mg:Str→Option Value} {base:Heap} {a:Ad}
theorem Jm9:Jia ["self","basin"] ["self","basin"] (Ji5 (Jid (top 10) 0)):=⟨rfl,rfl,rfl,by decide +kernel,rfl,by decide +kernel,by decide +kernel⟩
theorem Jo2 (T:Tx K mg a):FnOk P w K mg base CX0 1 a.Je3 a.Je4 ["self","basin"] (Jm5 K "basin"):=by
 refine T.Jbi.fn.ok Jm9 (fun vs H Q E h=>?_) (fun cdv A outer s H vs Q E hr h=>?_)
 ·obtain ⟨e,C,W,fI,y,rfl,_⟩:=h
  rfl
 ·obtain ⟨e,C,W,fI,y,rfl,q,c,n,k⟩:=h
  refine ⟨_,(Ji4 (Jm4 (pv 0) (pv 1) rfl)),?_⟩
  exact ⟨_,rfl,_,rfl,e,C,W,fI,true,rfl,q,c,n,k⟩
theorem sc_least_promise:Jia ["basin","up","hi"] ["basin","up"] (Ji5 (top 33)):=⟨rfl,rfl,rfl,by decide +kernel,rfl,by decide +kernel,by decide +kernel⟩
theorem Joy (T:Tx K mg a) (Bm:Bmn mg base):FnOk P w K mg base CX0 7 a.Jf1 a.Jf2 ["basin","up"] (Y7 a):=by
 have G_settings_alone:=Jlj (P:=P) (w:=w) T Bm
 refine T.Jg.fn.ok sc_least_promise (fun vs H Q E h=>?_) (fun cdv A outer s H vs Q E hr h=>?_)
 ·obtain ⟨o,Bd,up,rfl,_⟩:=h
  rfl
 ·obtain ⟨o,Bd,up,rfl,ht,bx,tg,hup,k⟩:=h
  have hu64:=Jm0 hr
  refine ⟨?t,?B,?C⟩
  case B=>
   refine' Ji3 ?s1 ?r1
   case s1=>
    refine' Jk2 ?f2_0 ?f2_1 ?f2_2 ?f2_3 ?f2_4
    case f2_0=>
     exact PassesOwn.never
    case f2_1=>
     exact rfl
    case f2_2=>
     exact (Jix (by rfl) T.Jas (Ji0 (Jig Jit (Jjh (by rfl) T.Ja8 (v:=.int 12) ⟨_,rfl⟩) Ji6) Ji2))
    case f2_3=>
     exact (Jie (i:=2) sc_least_promise.nd rfl (Or.inl rfl))
    case f2_4=>
     refine' Ji4 ?s3
     case s3=>
      refine' Jis ?c4 ?a4 ?b4
      case c4=>
       exact (Jim (Jqn hu64) (Jjq (pv 0) (by rfl)) (Ji9 T.Ja G_settings_alone hr (by decide) (Ji0 (pv 0) (Ji0 (pv 1) (Ji0 (pv 2) Ji2)))) (by with_unfolding_all rfl))
      case a4=>
       refine' Ji4 ?s5
       case s5=>
        exact (Jib (pv 2))
      case b4=>
       exact Jih
   case r1=>
    refine' Ji4 ?s9
    case s9=>
     exact (Jib Jk1)
  refine ⟨_,_,rfl,rfl,_,rfl,by decide,by decide,?_⟩
  refine Jjw (lo:=0) (fun i σ H'=>(∃o2,σ= [some (.ref o),some (.int up),o2])∧Same H H'∧∀j:Nat,j < i→Jj8 Bd up j=false) ⟨⟨_,rfl⟩,Same.refl _,fun j h=>absurd h (Nat.not_lt_zero _)⟩ ?_ ?_
  ·rintro i σ H' hi ⟨⟨o2,rfl⟩,sm,all⟩
   have hi2:i < 13:=hi
   have zi:(0+(i:Int))=i:=by omega
   rw [zi]
   obtain ⟨dx,g,ho,gx⟩:=id (bx.same sm)
   refine ⟨_,rfl,o,_,dx,_,_,rfl,ho,T.Jct,T.Jcz,rfl,_,rfl,_,rfl,_,rfl,o,Bd,up,(i:Int),rfl,sm _ _ ht,bx.same sm,tg.b,hup,fun p ob H2 s2 hp=>⟨p,_,rfl,.inl ⟨_,Sum.inl Bd.st,.inr ⟨ob,hp⟩,rfl,rfl⟩,_,rfl,?_⟩⟩
   rw [st_in tg.st]
   refine Jl9 (fun q=>?_) (fun q=>?_)
   ·have e:Jjc Bd up=some (i:Int):=by
     unfold Jjc
     rw [Yw (p:=fun h:Nat=>Jj8 Bd up h) hi2 q all]
     rfl
    rw [e] at k
    exact ⟨_,rfl,k _ (sm.trans s2)⟩
   ·refine ⟨⟨_,rfl⟩,sm.trans s2,fun j hj=>?_⟩
    by_cases c:j < i
    ·exact all j c
    ·have:j=i:=by omega
     subst this
     exact Bool.eq_false_iff.mpr q
  ·rintro σ H' ⟨_,sm,all⟩
   have e:Jjc Bd up=none:=by
    unfold Jjc
    rw [Yx (n:=13) (p:=fun h:Nat=>Jj8 Bd up h) all]
    rfl
   rw [e] at k
   exact k _ sm
theorem sc_promises:Jia ["river","numbers","up","place","basin"] ["river"] (Ji5 (top 34)):=⟨rfl,rfl,rfl,by decide +kernel,rfl,by decide +kernel,by decide +kernel⟩
theorem Juc (T:Tx K mg a) (Bm:Bmn mg base):FnOk P w K mg base (CXX P w) 8 a.Jf3 a.Jf4 ["river"] (Yb0 a):=by
 have G_least_promise:=Joy (P:=P) (w:=w) T Bm
 have G_NoPromise___init__:=Jo2 (P:=P) (w:=w) (base:=base) T
 refine T.Jh.fn.okX sc_promises (fun vs H Q E h=>?_) (fun cdv A outer s H vs Q E hr h=>?_)
 ·obtain ⟨r,Bs,c,rfl,_⟩:=h
  rfl
 ·obtain ⟨r,Bs,c,rfl,ht,rv,rg,k1,k2⟩:=h
  obtain ⟨dx,b,t,os,hr0,hb,pr⟩:=id rv
  have len:=Paired.length pr
  have l16:=rg.len
  refine ⟨?t,?B,?C⟩
  case B=>
   refine' Ji3 ?s1 ?r1
   case s1=>
    exact (Jik (i:=1) sc_promises.nd rfl (Or.inl rfl) (Jiu Ji2))
   case r1=>
    refine' Ji3 ?s3 ?r3
    case s3=>
     exact (Jik (i:=2) sc_promises.nd rfl (Or.inl rfl) Ji6)
    case r3=>
     refine' Ji3 ?s5 ?r5
     case s5=>
      refine' Jk2 ?f6_0 ?f6_1 ?f6_2 ?f6_3 ?f6_4
      case f6_0=>
       exact PassesOwn.leaving
      case f6_1=>
       exact rfl
      case f6_2=>
       exact (Juf (by rfl) T.Jal (Ji0 (Jjq (pv 0) (by rfl)) Ji2))
      case f6_3=>
       exact (Jtd rfl (Jjj (Jie (i:=3) sc_promises.nd rfl (Or.inl rfl)) (Jjj (Jie (i:=4) sc_promises.nd rfl (Or.inl rfl)) Jmy)))
      case f6_4=>
       refine' Ji3 ?s7 ?r7
       case s7=>
        exact (Jik (i:=2) sc_promises.nd rfl (Or.inl rfl) (Ji9 T.Jg G_least_promise hr (by decide) (Ji0 (pv 4) (Ji0 (pv 2) Ji2))))
       case r7=>
        refine' Ji3 ?s9 ?r9
        case s9=>
         refine' Jis ?c10 ?a10 ?b10
         case c10=>
          exact (Jim Joz (pv 2) Jk1 (Jio _))
         case a10=>
          refine' Ji4 ?s11
          case s11=>
           exact (Jju Jjr rfl (Jlc T.Jc5 G_NoPromise___init__ hr (by decide) T.Jbi.bd T.Jb4 (Ji0 (pv 3) Ji2)))
         case b10=>
          exact Jih
        case r9=>
         refine' Ji4 ?s14
         case s14=>
          exact (Jk7 (Jph F.plainAttrs_list F.slot_list_append F.type_list_append Jjx (pv 1) (Ji0 (pv 2) Ji2)))
     case r5=>
      refine' Ji4 ?s16
      case s16=>
       exact (Jib (pv 1))
  refine ⟨(show 0≤sizeLine by decide),fun N hN=>?_⟩
  have s1:=Same.upd (o:=.lst []) hN
  refine ⟨_,rfl,r,_,dx,_,_,rfl,s1 _ _ hr0,T.Jd6,T.Jdb,rfl,b,rfl,⟨_,SqT.of (s1 _ _ hb)⟩,?_⟩
  refine Jty (K:=K) (a:=b) (xs:=os.map V.ref) (fun i σ H'=>∃(acc:List Int) (up:Int) (o3 o4:Option V),σ= [some (.ref r),some (.ref N),some (.int up),o3,o4]∧Same H H'∧H' N=some (.lst (acc.map V.int))∧acc.length=i∧(0≤up∧up≤12)∧Jjs (Bs.drop i) up acc=Jla Bs) ⟨[],0,_,_,rfl,s1,Ji1,rfl,by decide,rfl⟩ (fun i σ H' _ ⟨_,_,_,_,_,sm,_⟩=>SqT.of (sm _ _ hb)) ?_ ?_
  ·rintro i x σ H' T1 hx ⟨acc,up,o3,o4,rfl,sm,hN',hlen,hup,hgo⟩ hT
   rw [List.getElem?_map] at hx
   obtain ⟨o,ho,rfl⟩:=Option.map_eq_some_iff.mp hx
   obtain ⟨B,hB,bx⟩:=Jjm pr ho
   have il:i < Bs.length:=(List.getElem?_eq_some_iff.mp hB).1
   have tg:=rg.all B (List.mem_of_getElem? hB)
   have sT:=Same.upd (o:=.tup [.int i,.ref o]) hT
   have s2:=sm.trans sT
   rw [List.drop_eq_getElem_cons il,(List.getElem?_eq_some_iff.mp hB).2] at hgo
   refine ⟨T1,_,rfl,SqT.of Ji1,rfl,_,_,rfl,_,_,rfl,rfl,?_⟩
   refine ⟨_,rfl,_,rfl,o,B,up,rfl,s2 _ _ ht,bx.same s2,tg,hup,fun H3 s3=>?_⟩
   refine ⟨_,rfl,rfl,_,rfl,?_⟩
   rw [Jt2]
   cases hc:Jjc B up with
   |none=>
    refine Jk0 ?_
    have e:Jla Bs=(acc,some acc.length):=by
     rw [←hgo]
     show (match Jjc B up with|none=>(acc,some acc.length)|some u=>Jjs (Bs.drop (i+1)) u (acc++ [u]))=_
     rw [hc]
    refine Jml T.Jc5 T.Jc7 rfl fun e' dx' h1 h2 h3=>?_
    refine k2 acc acc.length e e' dx' _ ?_ Ji1 ?_
    ·rw [Jll]
     intro b' o' q
     have q':=s3 _ _ (s2 _ _ q)
     rw [Ji7 (Ji8 q' h1),Ji7 (Ji8 q' h2)]
     exact q'
    ·rw [Ji7 h3,Ji7 h3,Ji1,hlen]
   |some u=>
    refine Jj0 ?_
    have hN3:=s3 _ _ (sT _ _ hN')
    refine ⟨_,rfl,.inl ⟨rfl,_,SqL.of hN3⟩,_,rfl,N,_,_,rfl,rfl,hN3,?_,acc++ [u],u,_,_,rfl,?_,?_,?_,Jot hc,?_⟩
    ·rw [List.length_map]
     exact Jii (by omega)
    ·intro b' o' q
     rw [Ji7 (Ji8 q hN)]
     exact s3 _ _ (s2 _ _ q)
    ·rw [Ji1,List.map_append]
     rfl
    ·rw [List.length_append,hlen]
     rfl
    ·rw [←hgo]
     show _=(match Jjc B up with|none=>(acc,some acc.length)|some u=>Jjs (Bs.drop (i+1)) u (acc++ [u]))
     rw [hc]
  ·rintro σ H' ⟨acc,up,o3,o4,rfl,sm,hN',hlen,hup,hgo⟩
   rw [List.length_map,List.drop_of_length_le (by omega)] at hgo
   exact ⟨_,rfl,k1 acc hgo.symm N H' sm hN hN'⟩
end
def Jl5 (ns:List Int):List Int:=0::ns.dropLast
def Joi (Bs:List BTd) (ns:List Int):Bool:=(List.range Bs.length).all fun i=>match Bs[i]? with
 |some B=>Jj8 B ((Jl5 ns).getD i 0) (ns.getD i 0)
 |none=>true
def NGd (n:Nat) (ns:List Int):Prop:=ns.length=n∧∀x∈ns,0≤x∧x≤12
theorem Jr2 {n:Nat} {ns:List Int} (h:NGd n ns) (hn:1≤n):(Jl5 ns).length=n:=by
 have:=h.1
 unfold Jl5
 rw [List.length_cons,List.length_dropLast]
 omega
theorem Jwv {n:Nat} {ns:List Int} (h:NGd n ns):∀x∈Jl5 ns,0≤x∧x≤12:=by
 intro x hx
 unfold Jl5 at hx
 rcases List.mem_cons.mp hx with rfl|hx
 ·decide
 ·exact h.2 x ((List.dropLast_sublist _).subset hx)
def Jyc (H:Hp) (B:BTd) (up hi:Int) (p:Addr):Prop:=∃ob,H p=some (.frz ob (.dK (Jny B up hi)))
def Yap (a:Ad):Sp:=fun vs H Q _=>∃(r:Addr) (Bs:List BTd) (c:Int),vs= [.ref r]∧RivAt a H r Bs c∧Bs.length≤16∧∀(t s:Addr) (H':Hp),Same H H'→H' t=some (.tup [.ref s,.int c])→H' s=some (.tup ((Bs.map (·.st)).map V.int))→Q (.ref t) H'
def spNums (a:Ad):Sp:=fun vs H Q _=>∃(r l:Addr) (Bs:List BTd) (c:Int) (ns:List Int),vs= [.ref r,.ref l]∧RivAt a H r Bs c∧H l=some (.lst (ns.map V.int))∧NGd Bs.length ns∧Bs.length≤16∧∀H',Same H H'→Q (.bl true) H'
def Yc (a:Ad):Sp:=fun vs H Q _=>∃(r l:Addr) (Bs:List BTd) (c:Int) (ns:List Int),vs= [.ref r,.ref l]∧H a.Jhz=some (.tbl lb_lost_alone)∧RivAt a H r Bs c∧RGd Bs∧H l=some (.lst (ns.map V.int))∧NGd Bs.length ns∧
 ∀(d:Addr) (ps:List Addr) (H':Hp),Same H H'→H' d=some (.lst (ps.map V.ref))→ps.length=Bs.length→(∀(i:Nat) B p,Bs[i]?=some B→ps[i]?=some p→Jyc H' B ((Jl5 ns).getD i 0) (ns.getD i 0) p)→Q (.ref d) H'
def Y2:Sp:=fun vs H Q _=>∃(s d:Addr) (Bs:List BTd) (ns:List Int) (ps:List Addr),vs= [.ref s,.ref d]∧H s=some (.tup ((Bs.map (·.st)).map V.int))∧H d=some (.lst (ps.map V.ref))∧RGd Bs∧ps.length=Bs.length∧(∀(i:Nat) B p,Bs[i]?=some B→ps[i]?=some p→Jyc H B ((Jl5 ns).getD i 0) (ns.getD i 0) p)∧
 (Joi Bs ns=true→∀H',Same H H'→Q .non H')∧(Joi Bs ns=false→∀(i:Int) H',Same H H'→Q (.int i) H')
def spAreP (a:Ad):Sp:=fun vs H Q _=>∃(r l:Addr) (Bs:List BTd) (c:Int) (ns:List Int),vs= [.ref r,.ref l]∧H a.Jhz=some (.tbl lb_lost_alone)∧RivAt a H r Bs c∧RGd Bs∧H l=some (.lst (ns.map V.int))∧NGd Bs.length ns∧∀H',Same H H'→Q (.bl (Joi Bs ns)) H'
section
variable {P:Program} {w:World} {K:W.Frag} {mg:Str→Option Value} {base:Heap} {a:Ad}
theorem turn3 {i j k:Nat} {T:Addr} {x y z:V} {σ:L2.St} {H:Hp} {A B:L2.St→Hp→Prop} (hT:SqT K H T [x,y,z]) (h:A (((σ.set i (some x)).set j (some y)).set k (some z)) H):
  gTup K 3 (Jwn (Jmb i) (Jwn (Jmb j) (Jwn (Jmb k) gNil))) (.ref T) σ H fun σ3 H3=>tYes σ3 H3 fun b H4=>if b=true then A σ3 H4 else B σ3 H4:=by
 refine ⟨T,_,rfl,hT,rfl,_,_,rfl,_,_,rfl,_,_,rfl,rfl,?_⟩
 show if true=true then A (((σ.set i (some x)).set j (some y)).set k (some z)) H else B (((σ.set i (some x)).set j (some y)).set k (some z)) H
 rw [if_pos rfl]
 exact h
theorem Jnv:Jia ["self"] ["self"] (Ji5 (Jid (top 59) 2)):=⟨rfl,rfl,rfl,by decide +kernel,rfl,by decide +kernel,by decide +kernel⟩
theorem Jni (T:Tx K mg a):FnOk P w K mg base CX0 1 a.Jg5 a.Jg6 ["self"] (Yap a):=by
 refine T.Jbv.fn.ok Jnv (fun vs H Q E h=>?_) (fun cdv A outer s H vs Q E hr h=>?_)
 ·obtain ⟨r,Bs,c,rfl,_⟩:=h
  rfl
 ·obtain ⟨r,Bs,c,rfl,rv,l16,k⟩:=h
  obtain ⟨dx,b,t,os,hr0,hb,pr⟩:=id rv
  have len:=Paired.length pr
  refine ⟨?t,?B,?C⟩
  case B=>
   refine' Ji4 ?s1
   case s1=>
    exact (Jib (Jke (Ji0 (Jj6 Jkn (by rfl) T.Jaw Jl7 (Ji0 (Jj2 (N:=(["basin"]:List Str)) (ini:=[none]) rfl (pi_tup (Jjq (pv 0) (by rfl))) (fun _ _ _ _ _=>(Jie (i:=0) (by decide +kernel:(["basin"]:List Str).Nodup) rfl (Or.inl rfl))) (fun _ _ _ _ _=>Jj3) (fun _ _ _ _ _=>(Jkq (K:=K) rfl (pv 0) (by rfl)))) Ji2)) (Ji0 (Jjq (pv 0) (by rfl)) Ji2))))
  refine ⟨_,rfl,r,_,dx,_,_,rfl,hr0,T.Jd6,T.Jdb,rfl,b,rfl,⟨_,SqT.of hb⟩,fun D hD=>?_⟩
  refine Jx5 ((Bs.map (·.st)).map V.int) hD (by simp [len]) (by simp;omega) hb ?_ ?_
  ·intro i x y H' Q' hx hy sm k'
   rw [List.getElem?_map] at hx
   obtain ⟨o,ho,rfl⟩:=Option.map_eq_some_iff.mp hx
   obtain ⟨B,hB,bx⟩:=Jjm pr ho
   rw [List.getElem?_map,List.getElem?_map,hB] at hy
   cases hy
   obtain ⟨dx',g,h1,_⟩:=bx.same sm
   exact ⟨_,rfl,o,_,dx',_,_,rfl,h1,T.Jct,T.Jcz,rfl,k' _ (Same.refl _)⟩
  intro H1 s1 hD1
  refine ⟨D,_,rfl,.inl ⟨SqL.of hD1,fun S hS=>?_⟩⟩
  have s2:=Same.upd (o:=.tup ((Bs.map (·.st)).map V.int)) hS
  refine ⟨_,rfl,r,_,dx,_,_,rfl,s2 _ _ (s1 _ _ hr0),T.Jd6,T.Jd9,rfl,(show 2≤sizeLine by decide),fun T1 hT1=>?_⟩
  exact k T1 S _ ((s1.trans s2).trans (Same.upd hT1)) Ji1 (Same.upd hT1 _ _ Ji1)
theorem Jqu:Jia ["river","thing"] ["river","thing"] (Ji5 (top 29)):=⟨rfl,rfl,rfl,by decide +kernel,rfl,by decide +kernel,by decide +kernel⟩
theorem Jqj (T:Tx K mg a):FnOk P w K mg base CX0 3 a.Jet a.Jeu ["river","thing"] (spNums a):=by
 have G_is_promised:=Jqk (P:=P) (w:=w) (base:=base) T
 refine T.Jc.fn.ok Jqu (fun vs H Q E h=>?_) (fun cdv A outer s H vs Q E hr h=>?_)
 ·obtain ⟨r,l,Bs,c,ns,rfl,_⟩:=h
  rfl
 ·obtain ⟨r,l,Bs,c,ns,rfl,rv,hl,ng,l16,k⟩:=h
  obtain ⟨dx,b,t,os,hr0,hb,pr⟩:=id rv
  have len:=Paired.length pr
  have nl:=ng.1
  refine ⟨?t,?B,?C⟩
  case B=>
   refine' Ji3 ?s1 ?r1
   case s1=>
    refine' Jis ?c2 ?a2 ?b2
    case c2=>
     exact (PW.pt (Jo9 (Jj4 (Jiv (Jic Jkv (by rfl) T.Jan Jip (Ji0 (pv 1) (Ji0 (Jjy (v:=.ty "list") (by rfl) T.Jap Jmu rfl) Ji2))))) (Jmk (Jim op_ne (Jic Jil (by rfl) T.Jao Jjg (Ji0 (pv 1) Ji2)) (Jic Jil (by rfl) T.Jao Jjg (Ji0 (Jjq (pv 0) (by rfl)) Ji2)) (Jio _)))))
    case a2=>
     refine' Ji4 ?s3
     case s3=>
      exact (Jib Jjt)
    case b2=>
     exact Jih
   case r1=>
    refine' Ji4 ?s7
    case s7=>
     exact (Jib (Jic (Jlr rfl) (by rfl) T.Jah Jol (Ji0 (Jj2 (N:=(["number"]:List Str)) (ini:=[none]) rfl (Jj7 (pv 1)) (fun _ _ _ _ _=>(Jie (i:=0) (by decide +kernel:(["number"]:List Str).Nodup) rfl (Or.inl rfl))) (fun _ _ _ _ _=>Jj3) (fun _ _ _ _ _=>(Ji9 T.J5 G_is_promised hr (by decide) (Ji0 (pv 0) Ji2)))) Ji2)))
  refine ⟨_,rfl,_,_,_,.type "list",true,rfl,rfl,.of (.lst hl),rfl,_,rfl,Jj0 ?_⟩
  refine ⟨_,rfl,l,_,rfl,.inl (SqL.of hl),_,rfl,r,_,dx,_,_,rfl,hr0,T.Jd6,T.Jdb,rfl,b,_,rfl,.inr (SqT.of hb),rfl,_,rfl,ifF ?_ ?_⟩
  ·rw [List.length_map,List.length_map,nl,len]
   simp
  refine ⟨_,rfl,l,rfl,⟨_,SqL.of hl⟩,fun D hD=>?_⟩
  refine Jlz ((List.replicate ns.length true).map V.bl) hD (by simp) (by simp;omega) hl ?_ ?_
  ·intro i x y H' Q' hx hy sm k'
   rw [List.getElem?_map] at hx
   obtain ⟨n,hn,rfl⟩:=Option.map_eq_some_iff.mp hx
   have il:i < ns.length:=(List.getElem?_eq_some_iff.mp hn).1
   have ey:y= .bl true:=by
    rw [List.getElem?_map,List.getElem?_replicate,if_pos il] at hy
    exact (Option.some.inj hy).symm
   subst ey
   have hb':=ng.2 n (List.mem_of_getElem? hn)
   refine ⟨_,rfl,.int n,rfl,.inl ⟨n,rfl⟩,?_⟩
   rw [Jle hb'.1 hb'.2]
   exact k' _ (Same.refl _)
  intro H1 s1 hD1
  refine ⟨D,_,rfl,SqL.of hD1,?_⟩
  rw [show (List.replicate ns.length true).all id=true by simp]
  exact k _ s1
theorem sc_settings_by:Jia ["river","numbers","ups"] ["river","numbers"] (Ji5 (top 30)):=⟨rfl,rfl,rfl,by decide +kernel,rfl,by decide +kernel,by decide +kernel⟩
theorem Jqm (T:Tx K mg a) (Bm:Bmn mg base):FnOk P w K mg base CX0 7 a.Jev a.Jew ["river","numbers"] (Yc a):=by
 have G_settings_alone:=Jlj (P:=P) (w:=w) T Bm
 refine T.Jd.fn.ok sc_settings_by (fun vs H Q E h=>?_) (fun cdv A outer s H vs Q E hr h=>?_)
 ·obtain ⟨r,l,Bs,c,ns,rfl,_⟩:=h
  rfl
 ·obtain ⟨r,l,Bs,c,ns,rfl,ht,rv,rg,hl,ng,k⟩:=h
  obtain ⟨dx,b,t,os,hr0,hb,pr⟩:=id rv
  have len:=Paired.length pr
  have l16:=rg.len
  have nl:=ng.1
  have ul:=Jr2 ng l16.1
  refine ⟨?t,?B,?C⟩
  case B=>
   refine' Ji3 ?s1 ?r1
   case s1=>
    exact (Jik (i:=2) sc_settings_by.nd rfl (Or.inl rfl) (Jig Jnn (Jiu (Ji0 Ji6 Ji2)) (Jmj Jod (pv 1) Jo5 (Jo6 (Jsb Jp5 Ji6)))))
   case r1=>
    refine' Ji4 ?s3
    case s3=>
     exact (Jib (Jj2 (N:=(["basin","up","hi"]:List Str)) (ini:=[none,none,none]) rfl (Yag true false false (by rfl) T.Jax (Ji0 (Jjq (pv 0) (by rfl)) (Ji0 (pv 2) (Ji0 (pv 1) Ji2)))) (fun _ _ _ _ _=>(Jte (K:=K) (n:=3) rfl rfl (Jjj (Jie (i:=0) (by decide +kernel:(["basin","up","hi"]:List Str).Nodup) rfl (Or.inl rfl)) (Jjj (Jie (i:=1) (by decide +kernel:(["basin","up","hi"]:List Str).Nodup) rfl (Or.inl rfl)) (Jjj (Jie (i:=2) (by decide +kernel:(["basin","up","hi"]:List Str).Nodup) rfl (Or.inl rfl)) Jmy))))) (fun _ _ _ _ _=>Jj3) (fun _ _ _ _ _=>(Ji9 T.Ja G_settings_alone hr (by decide) (Ji0 (pv 0) (Ji0 (pv 1) (Ji0 (pv 2) Ji2)))))))
  refine ⟨(show 1≤sizeLine by decide),fun z hz=>?_⟩
  have s1:=Same.upd (o:=.lst [.int 0]) hz
  refine ⟨_,rfl,_,rfl,_,rfl,l,_,rfl,SqL.of (s1 _ _ hl),fun z2 hz2=>?_⟩
  have s2:=Same.upd (o:=.lst (Jjn (ns.map V.int) none (some (-1)))) hz2
  have ec:Jjn (ns.map V.int) none (some (-1))=ns.dropLast.map V.int:=by
   unfold Jjn
   rw [HT.sIx_none,List.length_map]
   show ((ns.map V.int).drop 0).take (((-1:Int)+(ns.length:Int)).toNat - 0)=_
   rw [List.drop_zero,List.dropLast_eq_take,List.map_take]
   congr 1
   omega
  refine ⟨z,z2,_,_,rfl,rfl,s2 _ _ Ji1,Ji1,?_,fun U hU=>?_⟩
  ·rw [ec]
   simp
   exact Nat.le_of_lt (Jii (by omega))
  have s3:=(s1.trans s2).trans (Same.upd (o:=.lst ([.int 0]++Jjn (ns.map V.int) none (some (-1)))) hU)
  have hU':(upd (upd (upd H z (.lst [.int 0])) z2 (.lst (Jjn (ns.map V.int) none (some (-1))))) U (.lst ([.int 0]++Jjn (ns.map V.int) none (some (-1))))) U=some (.lst ((Jl5 ns).map V.int)):=by
   rw [Ji1,ec]
   rfl
  generalize upd (upd (upd H z (.lst [.int 0])) z2 (.lst (Jjn (ns.map V.int) none (some (-1))))) U (.lst ([.int 0]++Jjn (ns.map V.int) none (some (-1))))=H3 at s3 hU'
  refine ⟨_,rfl,r,_,dx,_,_,rfl,s3 _ _ hr0,T.Jd6,T.Jdb,rfl,_,rfl,_,rfl,b,U,l,rfl,⟨_,SqT.of (s3 _ _ hb)⟩,⟨_,SqL.of hU'⟩,⟨_,SqL.of (s3 _ _ hl)⟩,fun D hD=>?_⟩
  refine Jx7 (K:=K) (xs:=os.map V.ref) (ys:=(Jl5 ns).map V.int) (us:=ns.map V.int) (fun i σ H'=>(∃o1 o2 o3,σ= [o1,o2,o3])∧Same H3 H'∧∃ps:List Addr,H' D=some (.lst (ps.map V.ref))∧ps.length=i∧∀(j:Nat) B p,Bs[j]?=some B→ps[j]?=some p→Jyc H' B ((Jl5 ns).getD j 0) (ns.getD j 0) p) ⟨⟨_,_,_,rfl⟩,Same.upd hD,[],Ji1,rfl,fun j B p _ h=>by simp at h⟩ (fun i σ H' _ ⟨_,sm,_⟩=>⟨SqT.of (sm _ _ (s3 _ _ hb)),SqL.of (sm _ _ hU'),SqL.of (sm _ _ (s3 _ _ hl))⟩) (by simp;omega) (by simp;omega) ?_ ?_
  ·rintro i x y u σ H' T1 hx hy hu ⟨⟨o1,o2,o3,rfl⟩,sm,ps,hDs,hpl,hps⟩ hT
   rw [List.getElem?_map] at hx hy hu
   obtain ⟨o,ho,rfl⟩:=Option.map_eq_some_iff.mp hx
   obtain ⟨up,hup,rfl⟩:=Option.map_eq_some_iff.mp hy
   obtain ⟨hi,hhi,rfl⟩:=Option.map_eq_some_iff.mp hu
   obtain ⟨B,hB,bx⟩:=Jjm pr ho
   have il:i < Bs.length:=(List.getElem?_eq_some_iff.mp hB).1
   have tg:=rg.all B (List.mem_of_getElem? hB)
   have sT:=Same.upd (o:=.tup [.ref o,.int up,.int hi]) hT
   have s4:=(s3.trans sm).trans sT
   have b1:=Jwv ng up (List.mem_of_getElem? hup)
   refine turn3 (SqT.of Ji1) ⟨_,rfl,_,rfl,_,rfl,o,B,up,hi,rfl,s4 _ _ ht,bx.same s4,tg.b,b1,fun p ob H5 s5 hp=>?_⟩
   have hD5:=s5 _ _ (sT _ _ hDs)
   have npD:∀{q:Addr} {ob:Obj} {kvs:List (Key×V)},H5 q=some (.frz ob (.dK kvs))→q≠D:=fun h z=>by rw [z,hD5] at h;cases h
   refine ⟨_,hD5,?_,⟨_,_,_,rfl⟩,?_,ps++ [p],?_,?_,?_⟩
   ·rw [List.length_map]
    exact Jii (by omega)
   ·intro c2 o' z'
    rw [Ji7 (Ji8 z' hD)]
    exact s5 _ _ (sT _ _ (sm _ _ z'))
   ·rw [Ji1,List.map_append]
    rfl
   ·rw [List.length_append,hpl]
    rfl
   ·intro j B' p' hB' hp'
    by_cases cj:j < ps.length
    ·rw [List.getElem?_append_left cj] at hp'
     obtain ⟨ob',e'⟩:=hps j B' p' hB' hp'
     have e5:=s5 _ _ (sT _ _ e')
     exact ⟨ob',by rw [Ji7 (npD e5)];exact e5⟩
    ·have jl:=(List.getElem?_eq_some_iff.mp hp').1
     rw [List.length_append] at jl
     have ej:j=i:=by simp at jl;omega
     subst ej
     rw [List.getElem?_append_right (by omega),show j - ps.length=0 by omega] at hp'
     have ep:p'=p:=by simpa using hp'.symm
     subst ep
     rw [hB] at hB'
     cases hB'
     have e1:(Jl5 ns).getD j 0=up:=by rw [List.getD_eq_getElem?_getD,hup];rfl
     have e2:ns.getD j 0=hi:=by rw [List.getD_eq_getElem?_getD,hhi];rfl
     rw [e1,e2]
     exact ⟨ob,by rw [Ji7 (npD hp)];exact hp⟩
  ·rintro σ H' ⟨_,sm,ps,hDs,hpl,hps⟩
   exact k D ps H' (s3.trans sm) hDs (by rw [hpl,List.length_map,len]) hps
theorem sc_first_lost:Jia ["levels","by_basin","place","level"] ["levels","by_basin"] (Ji5 (top 31)):=⟨rfl,rfl,rfl,by decide +kernel,rfl,by decide +kernel,by decide +kernel⟩
theorem Jrd (T:Tx K mg a):FnOk P w K mg base CX0 1 a.Jex a.Jey ["levels","by_basin"] Y2:=by
 refine T.Je.fn.ok sc_first_lost (fun vs H Q E h=>?_) (fun cdv A outer s H vs Q E hr h=>?_)
 ·obtain ⟨s',d,Bs,ns,ps,rfl,_⟩:=h
  rfl
 ·obtain ⟨s',d,Bs,ns,ps,rfl,hs,hd,rg,hpl,hps,k1,k2⟩:=h
  have hu64:=Jm0 hr
  have l16:=rg.len
  refine ⟨?t,?B,?C⟩
  case B=>
   refine' Ji3 ?s1 ?r1
   case s1=>
    refine' Jk2 ?f2_0 ?f2_1 ?f2_2 ?f2_3 ?f2_4
    case f2_0=>
     exact PassesOwn.never
    case f2_1=>
     exact rfl
    case f2_2=>
     exact (Juf (by rfl) T.Jal (Ji0 (pv 0) Ji2))
    case f2_3=>
     exact (Jtd rfl (Jjj (Jie (i:=2) sc_first_lost.nd rfl (Or.inl rfl)) (Jjj (Jie (i:=3) sc_first_lost.nd rfl (Or.inl rfl)) Jmy)))
    case f2_4=>
     refine' Ji4 ?s3
     case s3=>
      refine' Jis ?c4 ?a4 ?b4
      case c4=>
       exact (Jim (Jlp hu64) (pv 3) (Jin Jiq (pv 1) (pv 2) (fun _ _=>rfl)) (by with_unfolding_all rfl))
      case a4=>
       refine' Ji4 ?s5
       case s5=>
        exact (Jib (pv 2))
      case b4=>
       exact Jih
   case r1=>
    refine' Ji4 ?s9
    case s9=>
     exact (Jib Jk1)
  refine ⟨_,rfl,s',rfl,⟨_,SqT.of hs⟩,?_⟩
  refine Jty (K:=K) (a:=s') (xs:=(Bs.map (·.st)).map V.int) (fun i σ H'=>(∃o2 o3,σ= [some (.ref s'),some (.ref d),o2,o3])∧Same H H'∧∀(j:Nat) B,j < i→Bs[j]?=some B→Jj8 B ((Jl5 ns).getD j 0) (ns.getD j 0)=true) ⟨⟨_,_,rfl⟩,Same.refl _,fun j B h=>absurd h (Nat.not_lt_zero _)⟩ (fun i σ H' _ ⟨_,sm,_⟩=>SqT.of (sm _ _ hs)) ?_ ?_
  ·rintro i x σ H' T1 hx ⟨⟨o2,o3,rfl⟩,sm,all⟩ hT
   rw [List.getElem?_map,List.getElem?_map] at hx
   obtain ⟨v,hv,rfl⟩:=Option.map_eq_some_iff.mp hx
   obtain ⟨B,hB,rfl⟩:=Option.map_eq_some_iff.mp hv
   have il:i < Bs.length:=(List.getElem?_eq_some_iff.mp hB).1
   have tg:=rg.all B (List.mem_of_getElem? hB)
   have sT:=Same.upd (o:=.tup [.int i,.int B.st]) hT
   have s1:=sm.trans sT
   have hp:ps[i]?=some (ps[i]'(by omega)):=List.getElem?_eq_getElem _
   obtain ⟨ob,e⟩:=hps i B _ hB hp
   refine ⟨T1,_,rfl,SqT.of Ji1,rfl,_,_,rfl,_,_,rfl,rfl,?_⟩
   refine ⟨_,rfl,_,rfl,_,rfl,d,_,(i:Int),_,rfl,rfl,SqL.of (s1 _ _ hd),Jjv (j:=i) (by rw [List.getElem?_map,hp];rfl),_,_,rfl,.inl ⟨_,Sum.inl B.st,.inr ⟨ob,s1 _ _ e⟩,rfl,rfl⟩,_,rfl,?_⟩
   rw [st_in tg.st]
   cases hc:Jj8 B ((Jl5 ns).getD i 0) (ns.getD i 0) with
   |false=>
    refine Jk0 ⟨_,rfl,k2 ?_ _ _ s1⟩
    unfold Joi
    rw [List.all_eq_false]
    refine ⟨i,List.mem_range.mpr il,?_⟩
    rw [hB]
    show ¬(Jj8 B ((Jl5 ns).getD i 0) (ns.getD i 0)=true)
    rw [hc]
    decide
   |true=>
    refine Jj0 ⟨⟨_,_,rfl⟩,s1,fun j B' hj hB'=>?_⟩
    by_cases cj:j < i
    ·exact all j B' cj hB'
    ·have:j=i:=by omega
     subst this
     rw [hB] at hB'
     cases hB'
     exact hc
  ·rintro σ H' ⟨_,sm,all⟩
   refine k1 ?_ _ sm
   unfold Joi
   rw [List.all_eq_true]
   intro i hi
   have il:=List.mem_range.mp hi
   cases hB:Bs[i]? with
   |none=>rfl
   |some B=>exact all i B (by simpa using il) hB
theorem Jpq:Jia ["river","numbers"] ["river","numbers"] (Ji5 (top 32)):=⟨rfl,rfl,rfl,by decide +kernel,rfl,by decide +kernel,by decide +kernel⟩
theorem Jpp (T:Tx K mg a) (Bm:Bmn mg base):FnOk P w K mg base CX0 8 a.Jez a.Jf0 ["river","numbers"] (spAreP a):=by
 have G_are_numbers:=Jqj (P:=P) (w:=w) (base:=base) T
 have G_settings_by:=Jqm (P:=P) (w:=w) T Bm
 have G_first_lost:=Jrd (P:=P) (w:=w) (base:=base) T
 refine T.Jf.fn.ok Jpq (fun vs H Q E h=>?_) (fun cdv A outer s H vs Q E hr h=>?_)
 ·obtain ⟨r,l,Bs,c,ns,rfl,_⟩:=h
  rfl
 ·obtain ⟨r,l,Bs,c,ns,rfl,ht,rv,rg,hl,ng,k⟩:=h
  have l16:=rg.len
  refine ⟨?t,?B,?C⟩
  case B=>
   refine' Ji3 ?s1 ?r1
   case s1=>
    refine' Jis ?c2 ?a2 ?b2
    case c2=>
     exact (Jj4 (Jiv (Ji9 T.Jc G_are_numbers hr (by decide) (Ji0 (pv 0) (Ji0 (pv 1) Ji2)))))
    case a2=>
     refine' Ji4 ?s3
     case s3=>
      exact (Jib Jjt)
    case b2=>
     exact Jih
   case r1=>
    refine' Ji4 ?s7
    case s7=>
     exact (Jib (Jk6 Joz (Ji9 T.Je G_first_lost hr (by decide) (Ji0 (Jin Jj9 (Jp1 (pv 0) hr) Ji6 (fun _ _=>rfl)) (Ji0 (Ji9 T.Jd G_settings_by hr (by decide) (Ji0 (pv 0) (Ji0 (pv 1) Ji2))) Ji2))) Jk1 (Jio _)))
  refine ⟨_,rfl,_,rfl,r,l,Bs,c,ns,rfl,rv,hl,ng,l16.2,fun H1 s1=>⟨_,rfl,Jj0 ?_⟩⟩
  obtain ⟨dx,b,t,os,hr0,hb,pr⟩:=id (rv.same s1)
  refine ⟨_,rfl,r,_,dx,_,_,_,_,_,1,rfl,hr0,rfl,T.Jd6,T.Jd8,Jni T,by decide,T.Jbv.bd,r,Bs,c,rfl,rv.same s1,l16.2,fun t1 S H2 s2 ht1 hS=>?_⟩
  have s12:=s1.trans s2
  refine ⟨t1,_,0,_,rfl,rfl,SqT.of ht1,rfl,_,rfl,_,rfl,r,l,Bs,c,ns,rfl,s12 _ _ ht,rv.same s12,rg,s12 _ _ hl,ng,fun d ps H3 s3 hd hpl hps=>?_⟩
  have s13:=s12.trans s3
  refine ⟨S,d,Bs,ns,ps,rfl,s3 _ _ hS,hd,rg,hpl,hps,fun e H4 s4=>⟨rfl,?_⟩,fun e i H4 s4=>⟨rfl,?_⟩⟩
  ·have q:=k _ (s13.trans s4)
   rw [e] at q
   exact q
  ·have q:=k _ (s13.trans s4)
   rw [e] at q
   exact q
end
theorem half5 {r:Int} (h0:0≤r) (h1:r < 5):0≤r/2∧r/2 < 3:=by omega
section
variable {P:Program} {w:World} {K:W.Frag} {mg:Str→Option Value} {base:Heap} {a:Ad}
theorem are2 {lo x y:Int} (h0:lo≤x) (h1:x < y) (h2:y≤12):Jk5 lo ([x,y].map V.int)=true:=by
 unfold Jk5
 have:Jiz lo ([x,y].map V.int)=true:=Jlh _ _ (by simpa using h1) (by simp;omega)
 rw [this]
 rfl
theorem are3 {lo x y z:Int} (h0:lo≤x) (h1:x < y) (h2:y < z) (h3:z≤12):Jk5 lo ([x,y,z].map V.int)=true:=by
 unfold Jk5
 have:Jiz lo ([x,y,z].map V.int)=true:=Jlh _ _ (by simp;omega) (by simp;omega)
 rw [this]
 rfl
theorem are1 {lo x:Int} (h0:lo≤x) (h1:x≤12):Jk5 lo ([x].map V.int)=true:=by
 unfold Jk5
 have:Jiz lo ([x].map V.int)=true:=Jlh _ _ (by simp) (by simp;omega)
 rw [this]
 rfl
theorem sc_law_easy:Jia ["_law_stream_here","_law_name","_law_low","_law_rain","_law_start","_law_kind","_law_some","_law_marks_here"] ["_law_stream_here","_law_name"] (Ji5 (top 71)):=⟨rfl,rfl,rfl,by decide +kernel,rfl,by decide +kernel,by decide +kernel⟩
theorem Ju6 (T:Tx K mg a):FnOk P w K mg base CX0 3 a.Jgr a.Jgs ["_law_stream_here","_law_name"] Juu:=by
 have G__law_take:=Jk9 (P:=P) (w:=w) (base:=base) T
 refine T.Jy.fn.ok sc_law_easy (fun vs H Q E h=>?_) (fun cdv A outer s H vs Q E hr h=>?_)
 ·obtain ⟨p,z,rfl,_⟩:=h
  rfl
 ·obtain ⟨p,z,rfl,st,nm,wd,k⟩:=h
  refine ⟨?t,?B,?C⟩
  case B=>
   refine' Ji3 ?s1 ?r1
   case s1=>
    exact (Jik (i:=2) sc_law_easy.nd rfl (Or.inl rfl) (Ji9 T.Jq G__law_take hr (by decide) (Ji0 (pv 0) (Ji0 Ji6 Ji2))))
   case r1=>
    refine' Ji3 ?s3 ?r3
    case s3=>
     exact (Jik (i:=3) sc_law_easy.nd rfl (Or.inl rfl) (Ji9 T.Jq G__law_take hr (by decide) (Ji0 (pv 0) (Ji0 Ji6 Ji2))))
    case r3=>
     refine' Ji3 ?s5 ?r5
     case s5=>
      exact (Jik (i:=4) sc_law_easy.nd rfl (Or.inl rfl) (Jig Jit (pv 2) (Ji9 T.Jq G__law_take hr (by decide) (Ji0 (pv 0) (Ji0 Ji6 Ji2)))))
     case r5=>
      refine' Ji3 ?s7 ?r7
      case s7=>
       exact (Jik (i:=5) sc_law_easy.nd rfl (Or.inl rfl) (Jin Jiq (Jiu (Ji0 Jji (Ji0 Jji (Ji0 Jji Ji2)))) (Jig Jlv (Ji9 T.Jq G__law_take hr (by decide) (Ji0 (pv 0) (Ji0 Ji6 Ji2))) Ji6) (fun _ _=>rfl)))
      case r7=>
       refine' Ji3 ?s9 ?r9
       case s9=>
        exact (Jik (i:=6) sc_law_easy.nd rfl (Or.inl rfl) (Jiu (Ji0 (Jiu (Ji0 (pv 2) (Ji0 (Jig Jit (Jig Jit (pv 2) Ji6) (Ji9 T.Jq G__law_take hr (by decide) (Ji0 (pv 0) (Ji0 Ji6 Ji2)))) Ji2))) (Ji0 (Jiu (Ji0 (Jig Jit Ji6 (Ji9 T.Jq G__law_take hr (by decide) (Ji0 (pv 0) (Ji0 Ji6 Ji2)))) (Ji0 Ji6 (Ji0 Ji6 Ji2)))) (Ji0 (Jiu (Ji0 Ji6 (Ji0 Ji6 Ji2))) Ji2)))))
       case r9=>
        refine' Ji3 ?s11 ?r11
        case s11=>
         exact (Jik (i:=7) sc_law_easy.nd rfl (Or.inl rfl) (Jin Jiq (pv 6) (Jig Jlv (Ji9 T.Jq G__law_take hr (by decide) (Ji0 (pv 0) (Ji0 Ji6 Ji2))) Ji6) (fun _ _=>rfl)))
        case r11=>
         refine' Ji3 ?s13 ?r13
         case s13=>
          refine' Jis ?c14 ?a14 ?b14
          case c14=>
           exact (Jim Jn9 (pv 5) Jji (Jio _))
          case a14=>
           refine' Ji4 ?s15
           case s15=>
            exact (Jik (i:=7) sc_law_easy.nd rfl (Or.inl rfl) (Jiu (Ji0 (Jig Jit Ji6 (Ji9 T.Jq G__law_take hr (by decide) (Ji0 (pv 0) (Ji0 Ji6 Ji2)))) Ji2)))
          case b14=>
           exact Jih
         case r13=>
          refine' Ji4 ?s18
          case s18=>
           refine' Jib ?e20_0
           case e20_0=>
            refine' Jke ?e21_0
            case e21_0=>
             refine' pa7 ?e22_0 ?e22_1 ?e22_2 ?e22_3 ?e22_4 ?e22_5 ?e22_6
             case e22_0=>
              exact (pv 1)
             case e22_1=>
              exact (pv 2)
             case e22_2=>
              exact (Jig Jkd Ji6 (Ji9 T.Jq G__law_take hr (by decide) (Ji0 (pv 0) (Ji0 Ji6 Ji2))))
             case e22_3=>
              exact (pv 4)
             case e22_4=>
              exact (pv 3)
             case e22_5=>
              exact (pv 5)
             case e22_6=>
              exact (pv 7)
  refine ⟨_,rfl,p,3,rfl,st,by decide,by decide,fun lo H1 lo0 lo1 b1=>?_⟩
  refine ⟨_,rfl,p,3,rfl,b1.2,by decide,by decide,fun rn H2 rn0 rn1 b2=>?_⟩
  have c2:=b1.trans b2
  refine ⟨_,rfl,_,rfl,p,4,rfl,c2.2,by decide,by decide,fun r3 H3 r30 r31 b3=>⟨_,_,rfl,rfl,?_⟩⟩
  have c3:=c2.trans b3
  refine ⟨(show 3≤sizeLine by decide),fun l1 h1=>?_⟩
  have s1:=Same.upd (o:=.lst [.str "flap",.str "step",.str "part"]) h1
  have n1:=c3.2.ne h1
  refine ⟨_,rfl,p,5,rfl,c3.2.same s1,by decide,by decide,fun r4 H4 r40 r41 b4=>⟨_,_,rfl,rfl,⟨by decide,by decide⟩,?_⟩⟩
  obtain ⟨kd,a4,m4⟩:=Yf (zs:=["flap","step","part"]) (half5 r40 r41)
  refine ⟨l1,_,_,_,rfl,rfl,SqL.of (b4.1 _ _ n1 Ji1),a4,?_⟩
  have kn:Knd kd:=by
   simp at m4
   rcases m4 with e|e|e
   ·exact .inr (.inl e)
   ·exact .inl e
   ·exact .inr (.inr e)
  have c4:But p H H4:=(c3.same s1).trans b4
  refine ⟨_,rfl,_,rfl,_,_,rfl,rfl,_,rfl,p,3,rfl,c4.2,by decide,by decide,fun r5 H5 r50 r51 b5=>⟨_,_,rfl,rfl,(show 2≤sizeLine by decide),fun la hla=>?_⟩⟩
  have c5:=c4.trans b5
  have na:=c5.2.ne hla
  have sa:=Same.upd (o:=.lst [.int lo,.int (lo+2+r5)]) hla
  refine ⟨_,rfl,p,2,rfl,c5.2.same sa,by decide,by decide,fun r6 H6 r60 r61 b6=>⟨_,_,rfl,rfl,(show 3≤sizeLine by decide),fun lb hlb=>?_⟩⟩
  have c6:=(c5.same sa).trans b6
  have nb:=c6.2.ne hlb
  have ha6:=b6.1 _ _ na Ji1
  have sb:=Same.upd (o:=.lst [.int (1+r6),.int 4,.int 9]) hlb
  refine ⟨(show 2≤sizeLine by decide),fun lc hlc=>?_⟩
  have sc:=Same.upd (o:=.lst [.int 1,.int 2]) hlc
  have nc:lc≠p:=(c6.same sb).2.ne hlc
  refine ⟨(show 3≤sizeLine by decide),fun ls hls=>?_⟩
  have sd:=Same.upd (o:=.lst [.ref la,.ref lb,.ref lc]) hls
  have ns:ls≠p:=((c6.same sb).same sc).2.ne hls
  have c7:=((c6.same sb).same sc).same sd
  have ha:=sd _ _ (sc _ _ (sb _ _ ha6))
  have hb:=sd _ _ (sc _ _ (Ji1 (H:=H6) (a:=lb) (o:=.lst [.int (1+r6),.int 4,.int 9])))
  have hc:=sd _ _ (Ji1 (H:=upd H6 lb (.lst [.int (1+r6),.int 4,.int 9])) (a:=lc) (o:=.lst [.int 1,.int 2]))
  have hs:=Ji1 (H:=upd (upd H6 lb (.lst [.int (1+r6),.int 4,.int 9])) lc (.lst [.int 1,.int 2])) (a:=ls) (o:=.lst [.ref la,.ref lb,.ref lc])
  generalize upd (upd (upd H6 lb (.lst [.int (1+r6),.int 4,.int 9])) lc (.lst [.int 1,.int 2])) ls (.lst [.ref la,.ref lb,.ref lc])=H7 at c7 ha hb hc hs
  refine ⟨_,rfl,_,rfl,p,5,rfl,c7.2,by decide,by decide,fun r8 H8 r80 r81 b8=>⟨_,_,rfl,rfl,⟨by decide,by decide⟩,?_⟩⟩
  have c8:=c7.trans b8
  have pick:∃(m:Addr) (ns:List Int),atI [V.ref la,.ref lb,.ref lc] (r8/2)=some (.ref m)∧m≠p∧H8 m=some (.lst (ns.map V.int))∧(1≤ns.length∧ns.length≤4)∧Jiz 0 (ns.map V.int)=true:=by
   have q:=half5 r80 r81
   have cs:r8/2=0∨r8/2=1∨r8/2=2:=by omega
   have a2:=are2 (lo:=0) (x:=lo) (y:=lo+2+r5) (by omega) (by omega) (by omega)
   have a3:=are3 (lo:=0) (x:=1+r6) (y:=4) (z:=9) (by omega) (by omega) (by omega) (by omega)
   have a1:=are2 (lo:=0) (x:=1) (y:=2) (by omega) (by omega) (by omega)
   unfold Jk5 at a1 a2 a3
   rw [Bool.and_eq_true] at a1 a2 a3
   rcases cs with e|e|e <;> rw [e]
   ·exact ⟨la,[lo,lo+2+r5],rfl,na,b8.1 _ _ na ha,by simp,a2.2⟩
   ·exact ⟨lb,[1+r6,4,9],rfl,nb,b8.1 _ _ nb hb,by simp,a3.2⟩
   ·exact ⟨lc,[1,2],rfl,nc,b8.1 _ _ nc hc,by simp,a1.2⟩
  obtain ⟨m,ms,am,nm',hm,lm,mb⟩:=pick
  refine ⟨ls,_,_,_,rfl,rfl,SqL.of (b8.1 _ _ ns hs),am,?_⟩
  dsimp only [Jmb]
  refine Jpt (fun σ H9=>∃(m:Addr) (ns:List Int),σ= [some (.ref p),some (.str z),some (.int lo),some (.int rn),some (.int (lo+r3)),some (.str kd),some (.ref ls),some (.ref m)]∧H9 m=some (.lst (ns.map V.int))∧m≠p∧Jk5 (Jl3 kd) (ns.map V.int)=true∧But p H H9) (fun R hR=>?_) ?_
  ·refine ⟨_,rfl,rfl,_,rfl,Jl9 (fun q=>?_) (fun q=>?_)⟩
   ·have ek:kd="part" :=V.str.inj (of_decide_eq_true q)
    refine ⟨_,rfl,p,2,rfl,c8.2,by decide,by decide,fun r9 H9 r90 r91 b9=>⟨_,_,rfl,rfl,(show 1≤sizeLine by decide),fun l9 h9=>hR _ _ ⟨l9,[1+r9],rfl,Ji1,(c8.trans b9).2.ne h9,?_,(c8.trans b9).same (Same.upd h9)⟩⟩⟩
    rw [ek,show Jl3 "part" =1 from if_pos rfl]
    exact are1 (by omega) (by omega)
   ·have ek:¬kd="part" :=fun z=>q (decide_eq_true (by rw [z]))
    refine hR _ _ ⟨m,ms,rfl,hm,nm',?_,c8⟩
    rw [show Jl3 kd=0 from if_neg ek]
    unfold Jk5
    rw [mb,List.length_map,decide_eq_true lm]
    rfl
  rintro σ H9 ⟨m,ns,rfl,hm,nm9,ar,c9⟩
  refine ⟨_,rfl,_,rfl,_,rfl,p,3,rfl,c9.2,by decide,by decide,fun r10 H10 r100 r101 b10=>⟨_,_,rfl,rfl,_,rfl,_,rfl,_,rfl,_,rfl,(show 7≤sizeLine by decide),fun t ht=>?_⟩⟩
  have hm10:=b10.1 _ _ nm9 hm
  refine k t m ⟨z,lo,12 - r10,lo+r3,rn,⟨kd,ns,none⟩⟩ _ ((c9.trans b10).same (Same.upd ht)) nm9 ⟨Ji1,Same.upd ht _ _ hm10,rfl⟩ ⟨⟨⟨lo0,?_⟩,?_,⟨rn0,?_⟩,⟨kn,ar,fun i e=>by cases e⟩⟩,⟨?_,?_⟩,nm,wd⟩ rfl
  ·show lo≤12 - r10
   omega
  ·show 12 - r10≤12
   omega
  ·show rn≤6
   omega
  ·show lo≤lo+r3
   omega
  ·show lo+r3≤12 - r10
   omega
end
def TldL (p:Addr) (H:Hp) (ts:List Addr) (Bs:List BTd):Prop:=Paired (fun t B=>∃m,m≠p∧TldM H t m B) ts Bs
theorem TldL.same {p:Addr} {H H':Hp} {ts:List Addr} {Bs:List BTd} (s:Same H H') (h:TldL p H ts Bs):TldL p H' ts Bs:=Paired.mapP h fun _ _ ⟨m,n,q⟩=>⟨m,n,q.same s⟩
theorem TldL.but {p:Addr} {H H':Hp} {ts:List Addr} {Bs:List BTd} (st:Strm H p) (b:But p H H') (h:TldL p H ts Bs):TldL p H' ts Bs:=Paired.mapP h fun _ _ ⟨m,n,q⟩=>⟨m,n,q.but st b n⟩
theorem TldM.put {H:Hp} {t m L:Addr} {B:BTd} {xs:List V} {o:HO} (tg:TGd B) (hL:H L=some (.lst xs)) (hx:∀x∈xs,∃q,x=V.ref q) (h:TldM H t m B):TldM (upd H L o) t m B:=by
 have n1:t≠L:=fun z=>by have:=h.1;rw [z,hL] at this;cases this
 have n2:m≠L:=fun z=>by
  have q:=h.2.1
  rw [z,hL] at q
  have e:=HO.lst.inj (Option.some.inj q)
  have l:=tg.b.G.len.1
  cases hc:B.G.ns with
  |nil=>rw [hc] at l;simp at l
  |cons x r=>
   rw [hc] at e
   obtain ⟨y,hy⟩:=hx (V.int x) (by rw [e];exact List.mem_cons_self ..)
   cases hy
 exact ⟨by rw [Ji7 n1];exact h.1,by rw [Ji7 n2];exact h.2.1,h.2.2⟩
theorem Jzg {α β:Type} {F G:α→β→Prop} {l₁:List α} {l₂:List β} (h:Paired F l₁ l₂):(∀x y,y∈l₂→F x y→G x y)→Paired G l₁ l₂:=by
 induction h with
 |nil=>intro _;exact .nil
 |cons h t ih=>intro f;exact .cons (f _ _ (List.mem_cons_self ..) h) (ih fun x y hy=>f x y (List.mem_cons_of_mem _ hy))
theorem TldL.put {p L:Addr} {H:Hp} {ts us:List Addr} {Bs:List BTd} {o:HO} (tg:∀B∈Bs,TGd B) (hL:H L=some (.lst (us.map V.ref))) (h:TldL p H ts Bs):TldL p (upd H L o) ts Bs:=by
 refine Jzg h fun t B hB ⟨m,n,q⟩=>⟨m,n,q.put (tg B hB) hL fun x hx=>?_⟩
 obtain ⟨u,_,rfl⟩:=List.mem_map.mp hx
 exact ⟨u,rfl⟩
def AP:Str:="abcdefghijklmnop"
def nmP (i:Nat):Str:=(⟨#[AP.cps.getD i 0]⟩:Str)++Jui "xy" (i%3)
theorem nmP_ok:∀i,i < 16→Jpe (nmP i)=true∧(decide ((nmP i).length≤50)&&(nmP i).cps.toList.all (fun c=>decide (c < 128)))=true:=by decide +kernel
theorem nmP_nd:((List.range 16).map nmP).Nodup:=by decide +kernel
theorem Ya8 {n:Nat} (h:n≤16):((List.range n).map nmP).Nodup:=by
 refine List.Nodup.sublist ?_ nmP_nd
 refine List.Sublist.map _ ?_
 rw [show (16:Nat)=n+(16 - n) by omega,List.range_add]
 exact List.sublist_append_left _ _
theorem ap_at {i:Nat} (h:i < 16):atI AP.cps.toList (i:Int)=some (AP.cps.getD i 0):=by
 have:∀i,i < 16→AP.cps.toList[i]?=some (AP.cps.getD i 0):=by decide +kernel
 exact Jjv (this i h)
def Y6:Sp:=fun vs H Q _=>∃p:Addr,vs= [.ref p]∧Strm H p∧∀(L:Addr) (ts:List Addr) (Bs:List BTd) (H':Hp),But p H H'→H L=none→H' L=some (.lst (ts.map V.ref))→TldL p H' ts Bs→RGd Bs→(Bs.map (·.z)).Nodup→Q (.ref L) H'
def Yat:Sp:=fun vs H Q _=>∃(t:Addr) (B:BTd) (up hi:Int),vs= [.ref t,.int up,.int hi]∧TldAt H t B∧TGd B∧(0≤up∧up≤12)∧∀H',Same H H'→Q (.bl (Jj8 B up hi)) H'
section
variable {P:Program} {w:World} {K:W.Frag} {mg:Str→Option Value} {base:Heap} {a:Ad}
theorem Jup:Jia ["_law_told_here","_law_up","_law_hi"] ["_law_told_here","_law_up","_law_hi"] (Ji5 (top 73)):=⟨rfl,rfl,rfl,by decide +kernel,rfl,by decide +kernel,by decide +kernel⟩
theorem Jpf (T:Tx K mg a):FnOk P w K mg base CX0 3 a.Jgv a.Jgw ["_law_told_here","_law_up","_law_hi"] Yat:=by
 have G__law_lost:=Ju9 (P:=P) (w:=w) (base:=base) T
 refine T.Ja0.fn.ok Jup (fun vs H Q E h=>?_) (fun cdv A outer s H vs Q E hr h=>?_)
 ·obtain ⟨t,B,up,hi,rfl,_⟩:=h
  rfl
 ·obtain ⟨t,B,up,hi,rfl,td,tg,hup,k⟩:=h
  have hu64:=Jm0 hr
  obtain ⟨mm,ht,hm,sv⟩:=id td
  refine ⟨?t,?B,?C⟩
  case B=>
   refine' Ji4 ?s1
   case s1=>
    exact (Jib (Jk6 (Jlp hu64) (Jin Jj9 (pv 0) Ji6 (fun _ _=>rfl)) (Ji9 T.Jx G__law_lost hr (by decide) (Ji0 (pv 0) (Ji0 (pv 1) (Ji0 (pv 2) Ji2)))) (by with_unfolding_all rfl)))
  refine ⟨_,rfl,t,_,3,_,rfl,rfl,SqT.of ht,rfl,_,rfl,_,rfl,_,rfl,t,B,up,hi,rfl,td,tg.b,hup,fun L kvs H1 s1 hL ld=>⟨L,_,rfl,.inl ⟨_,Sum.inl B.st,.inl hL,rfl,rfl⟩,?_⟩⟩
  have e:(!(Jl0 kvs (Sum.inl B.st)).isSome)=Jj8 B up hi:=by
   rw [ld B.st tg.st.1 tg.st.2]
   unfold Jj8 Jkk
   cases (Jkc B up hi).getD (B.st - B.lo).toNat none <;> rfl
  rw [e]
  exact k _ s1
theorem sc_law_river:Jia ["_law_stream_here","_law_many","_law_easy_here","_law_told_here","_law_place","_law_name"] ["_law_stream_here"] (Ji5 (top 72)):=⟨rfl,rfl,rfl,by decide +kernel,rfl,by decide +kernel,by decide +kernel⟩
theorem Jta (T:Tx K mg a):FnOk P w K mg base CX0 4 a.Jgt a.Jgu ["_law_stream_here"] Y6:=by
 have G__law_take:=Jk9 (P:=P) (w:=w) (base:=base) T
 have G__law_easy:=Ju6 (P:=P) (w:=w) (base:=base) T
 have G__law_basin:=Jt5 (P:=P) (w:=w) (base:=base) T
 refine T.Jz.fn.ok sc_law_river (fun vs H Q E h=>?_) (fun cdv A outer s H vs Q E hr h=>?_)
 ·obtain ⟨p,rfl,_⟩:=h
  rfl
 ·obtain ⟨p,rfl,st,k⟩:=h
  refine ⟨?t,?B,?C⟩
  case B=>
   refine' Ji3 ?s1 ?r1
   case s1=>
    exact (Jik (i:=1) sc_law_river.nd rfl (Or.inl rfl) (Jin Jiq (Jiu (Ji0 (Jig Jit Ji6 (Ji9 T.Jq G__law_take hr (by decide) (Ji0 (pv 0) (Ji0 Ji6 Ji2)))) (Ji0 (Jig Jit Ji6 (Ji9 T.Jq G__law_take hr (by decide) (Ji0 (pv 0) (Ji0 Ji6 Ji2)))) Ji2))) (Jj6 Jon (by rfl) T.Jam Jsn (Ji0 (Jk6 Jn9 (Ji9 T.Jq G__law_take hr (by decide) (Ji0 (pv 0) (Ji0 Ji6 Ji2))) Ji6 (Jio _)) Ji2)) (fun _ _=>rfl)))
   case r1=>
    refine' Ji3 ?s3 ?r3
    case s3=>
     exact (Jik (i:=2) sc_law_river.nd rfl (Or.inl rfl) (Jk6 Js9 (Ji9 T.Jq G__law_take hr (by decide) (Ji0 (pv 0) (Ji0 Ji6 Ji2))) Ji6 (Jio _)))
    case r3=>
     refine' Ji3 ?s5 ?r5
     case s5=>
      exact (Jik (i:=3) sc_law_river.nd rfl (Or.inl rfl) (Jiu Ji2))
     case r5=>
      refine' Ji3 ?s7 ?r7
      case s7=>
       refine' Jk2 ?f8_0 ?f8_1 ?f8_2 ?f8_3 ?f8_4
       case f8_0=>
        exact PassesOwn.never
       case f8_1=>
        exact rfl
       case f8_2=>
        exact (Jix (by rfl) T.Jas (Ji0 (pv 1) Ji2))
       case f8_3=>
        exact (Jie (i:=4) sc_law_river.nd rfl (Or.inl rfl))
       case f8_4=>
        refine' Ji3 ?s9 ?r9
        case s9=>
         exact (Jik (i:=5) sc_law_river.nd rfl (Or.inl rfl) (Jig Jvn (Jin ix_str Jji (pv 4) (fun _ _=>rfl)) (Jig Jvp Jji (Jig Jno (pv 4) Ji6))))
        case r9=>
         refine' Ji4 ?s11
         case s11=>
          refine' Jis ?c12 ?a12 ?b12
          case c12=>
           exact (PW.pt (Jqs (Jiv (pv 2)) (Jo8 (Jim Js9 (Ji9 T.Jq G__law_take hr (by decide) (Ji0 (pv 0) (Ji0 Ji6 Ji2))) Ji6 (Jio _)))))
          case a12=>
           refine' Ji4 ?s13
           case s13=>
            exact (Jk7 (Jph F.plainAttrs_list F.slot_list_append F.type_list_append Jjx (pv 3) (Ji0 (Ji9 T.Jy G__law_easy hr (by decide) (Ji0 (pv 0) (Ji0 (pv 5) Ji2))) Ji2)))
          case b12=>
           refine' Ji4 ?s15
           case s15=>
            exact (Jk7 (Jph F.plainAttrs_list F.slot_list_append F.type_list_append Jjx (pv 3) (Ji0 (Ji9 T.Js G__law_basin hr (by decide) (Ji0 (pv 0) (Ji0 (pv 5) Ji2))) Ji2)))
      case r7=>
       refine' Ji4 ?s17
       case s17=>
        exact (Jib (pv 3))
  refine ⟨_,rfl,p,5,rfl,st,by decide,by decide,fun r1 H1 r10 r11 b1=>⟨_,_,rfl,rfl,?_⟩⟩
  refine ⟨_,rfl,p,16,rfl,b1.2,by decide,by decide,fun r2 H2 r20 r21 b2=>⟨_,_,rfl,rfl,(show 2≤sizeLine by decide),fun l0 h0=>?_⟩⟩
  have c2:=b1.trans b2
  have s0:=Same.upd (o:=.lst [.int (1+r1),.int (1+r2)]) h0
  have n0:=c2.2.ne h0
  refine ⟨_,rfl,p,4,rfl,c2.2.same s0,by decide,by decide,fun r3 H3 r30 r31 b3=>⟨rfl,.inr ⟨_,rfl,?_⟩⟩⟩
  have c3:=(c2.same s0).trans b3
  have hl3:=b3.1 _ _ n0 (Ji1 (H:=H2) (a:=l0) (o:=.lst [.int (1+r1),.int (1+r2)]))
  have pick:∃n:Nat,atI [V.int (1+r1),.int (1+r2)] (if decide (V.int r3=V.int 0)=true then (1:Int) else 0)=some (.int (n:Int))∧1≤n∧n≤16:=by
   by_cases c:decide (V.int r3=V.int 0)=true
   ·rw [if_pos c]
    exact ⟨(1+r2).toNat,by rw [show (((1+r2).toNat:Nat):Int)=1+r2 by omega];rfl,by omega,by omega⟩
   ·rw [if_neg c]
    exact ⟨(1+r1).toNat,by rw [show (((1+r1).toNat:Nat):Int)=1+r1 by omega];rfl,by omega,by omega⟩
  obtain ⟨n,an,n1,n16⟩:=pick
  refine ⟨l0,_,_,_,rfl,rfl,SqL.of hl3,an,?_⟩
  refine ⟨_,rfl,p,4,rfl,c3.2,by decide,by decide,fun r4 H4 r40 r41 b4=>⟨_,_,rfl,rfl,?_⟩⟩
  have c4:=c3.trans b4
  refine ⟨(show 0≤sizeLine by decide),fun L hL=>?_⟩
  have hL0:H L=none:=But.free st c4 hL
  have nL:L≠p:=st.ne hL0
  have s5:=Same.upd (o:=.lst []) hL
  refine ⟨_,rfl,_,rfl,by omega,by omega,?_⟩
  refine Jjw (lo:=0) (fun i σ H'=>∃(o4 o5:Option V) (ts:List Addr) (Bs:List BTd),σ= [some (.ref p),some (.int (n:Int)),some (.bl (decide (0 < r4))),some (.ref L),o4,o5]∧But p H H'∧H' L=some (.lst (ts.map V.ref))∧TldL p H' ts Bs∧Bs.length=i∧(∀B∈Bs,TGd B)∧Bs.map (·.z)=(List.range i).map nmP)
   ⟨_,_,[],[],rfl,c4.same s5,Ji1,.nil,rfl,(fun B h=>nomatch h),rfl⟩ ?_ ?_
  ·rintro i σ H' hi ⟨o4,o5,ts,Bs,rfl,c5,hL5,tl,hlen,tg,hz⟩
   have hi2:i < n:=by simpa using hi
   have hi3:i < 16:=by omega
   have zi:(0+(i:Int))=i:=by omega
   rw [zi]
   have lt:=Paired.length tl
   obtain ⟨nok,nw⟩:=nmP_ok i hi3
   have wd:Wd 50 (nmP i):=wd_lit nw
   have app:∀{H6 H7:Hp} {t m:Addr} {B:BTd},But p H' H6→But p H6 H7→m≠p→TldM H7 t m B→TGd B→B.z=nmP i→H7 L=some (.lst (ts.map V.ref))∧(ts.map V.ref).length < sizeLine∧(∃(o4 o5:Option V) (ts':List Addr) (Bs':List BTd),[some (.ref p),some (.int (n:Int)),some (.bl (decide (0 < r4))),some (.ref L),some (.int (i:Int)),some (.str (nmP i))]= [some (V.ref p),some (.int (n:Int)),some (.bl (decide (0 < r4))),some (.ref L),o4,o5]∧But p H (upd H7 L (.lst (ts.map V.ref++ [.ref t])))∧(upd H7 L (.lst (ts.map V.ref++ [.ref t]))) L=some (.lst (ts'.map V.ref))∧TldL p (upd H7 L (.lst (ts.map V.ref++ [.ref t]))) ts' Bs'∧Bs'.length=i+1∧(∀B∈Bs',TGd B)∧Bs'.map (·.z)=(List.range (i+1)).map nmP):=by
    intro H6 H7 t m B b6 b7 nm tm tgB eB
    have b67:=b6.trans b7
    have hL7:=b67.1 _ _ nL hL5
    have tl7:=tl.but c5.2 b67
    have c7:=c5.trans b67
    refine ⟨hL7,by rw [List.length_map];exact Jii (by omega),_,_,ts++ [t],Bs++ [B],rfl,c7.updD hL0 nL,?_,?_,?_,?_,?_⟩
    ·rw [Ji1,List.map_append]
     rfl
    ·refine Paired.snoc (TldL.put tg hL7 tl7) ⟨m,nm,tm.put tgB hL7 fun x hx=>?_⟩
     obtain ⟨u,_,rfl⟩:=List.mem_map.mp hx
     exact ⟨u,rfl⟩
    ·rw [List.length_append,hlen]
     rfl
    ·intro B' hB'
     rcases List.mem_append.mp hB' with h|h
     ·exact tg B' h
     ·rw [List.mem_singleton.mp h]
      exact tgB
    ·rw [List.map_append,hz,List.range_succ,List.map_append]
     show _++ [B.z]=_++ [nmP i]
     rw [eB]
   refine ⟨_,rfl,AP,_,_,rfl,rfl,Jp3 _ (by decide +kernel),ap_at hi3,_,rfl,_,_,rfl,rfl,(show (0:Int) < 3 by decide),"xy",i%3,rfl,congrArg V.int (by omega),by omega,by decide +kernel,by decide +kernel,_,_,rfl,rfl,?_,?_⟩
   ·have e1:(⟨#[AP.cps.getD i 0]⟩:Str).length=1:=rfl
    have e2:=Juj "xy" (i%3)
    have e3:("xy" :Str).length=2:=by decide +kernel
    rw [e1,e2,e3,sizeLine_eq]
    omega
   refine ⟨_,rfl,_,rfl,Jl9 (fun ez=>?_) (fun ez=>?_)⟩
   ·refine ⟨_,rfl,p,8,rfl,c5.2,by decide,by decide,fun r6 H6 r60 r61 b6=>⟨_,_,rfl,rfl,_,rfl,Jl9 (fun q=>?_) (fun q=>?_)⟩⟩
    ·refine ⟨_,rfl,.inl ⟨rfl,_,SqL.of (b6.1 _ _ nL hL5)⟩,_,rfl,_,rfl,p,nmP i,rfl,b6.2,nok,wd,fun t m B H7 b7 nm tm tgB eB=>?_⟩
     obtain ⟨f1,f2,f3⟩:=app b6 b7 nm tm tgB eB
     exact ⟨L,_,_,rfl,rfl,f1,f2,f3⟩
    ·refine ⟨_,rfl,.inl ⟨rfl,_,SqL.of (b6.1 _ _ nL hL5)⟩,_,rfl,_,rfl,p,nmP i,rfl,b6.2,nok,wd,fun t m B H7 b7 nm tm tgB eB=>?_⟩
     obtain ⟨f1,f2,f3⟩:=app b6 b7 nm tm tgB eB
     exact ⟨L,_,_,rfl,rfl,f1,f2,f3⟩
   ·refine Jj0 ?_
    refine ⟨_,rfl,.inl ⟨rfl,_,SqL.of hL5⟩,_,rfl,_,rfl,p,nmP i,rfl,c5.2,nok,wd,fun t m B H7 b7 nm tm tgB eB=>?_⟩
    obtain ⟨f1,f2,f3⟩:=app (But.refl c5.2) b7 nm tm tgB eB
    exact ⟨L,_,_,rfl,rfl,f1,f2,f3⟩
  ·rintro σ H' ⟨o4,o5,ts,Bs,rfl,c5,hL5,tl,hlen,tg,hz⟩
   have hlen':Bs.length=n:=by simpa using hlen
   refine ⟨_,rfl,k L ts Bs H' c5 hL0 hL5 tl ⟨by omega,tg⟩ ?_⟩
   rw [hz]
   exact Ya8 (by simp;omega)
end
def TldS (H:Hp) (ts:List Addr) (Bs:List BTd):Prop:=Paired (fun t B=>TldAt H t B) ts Bs
theorem TldS.same {H H':Hp} {ts:List Addr} {Bs:List BTd} (s:Same H H') (h:TldS H ts Bs):TldS H' ts Bs:=Paired.mapP h fun _ _ q=>q.same s
theorem TldL.s {p:Addr} {H:Hp} {ts:List Addr} {Bs:List BTd} (h:TldL p H ts Bs):TldS H ts Bs:=Paired.mapP h fun _ _ ⟨_,_,q⟩=>q.at
theorem Jyn (acc:List Int):atI (Jjn (acc.map V.int) (some (-1)) none++ [.int 0]) 0=some (.int (acc.getLast?.getD 0)):=by
 refine Jjv (j:=0) ?_
 rcases List.eq_nil_or_concat acc with rfl|⟨l,x,rfl⟩
 ·rfl
 ·rw [List.concat_eq_append]
  have ln:((l++ [x]).map V.int).length=l.length+1:=by rw [List.length_map,List.length_append];rfl
  have e:Jjn ((l++ [x]).map V.int) (some (-1)) none= [.int x]:=by
   unfold Jjn
   rw [ln]
   have e1:HT.sIx (l.length+1) 0 (some (-1))=l.length:=by
    show (if (-1:Int) < 0 then ((-1:Int)+((l.length+1:Nat):Int)).toNat else min (-1:Int).toNat (l.length+1))=_
    rw [if_pos (by decide)]
    omega
   have e2:HT.sIx (l.length+1) (l.length+1) none=l.length+1:=rfl
   rw [e1,e2,List.map_append,List.drop_append,List.length_map,List.drop_of_length_le (by rw [List.length_map];exact Nat.le_refl _),Nat.sub_self,show l.length+1 - l.length=1 by omega]
   rfl
  rw [e]
  simp
theorem Jtx (B:BTd) (up:Int):(((List.range 13).filter fun h:Nat=>Jj8 B up h).map fun h:Nat=>(h:Int)).head?=Jjc B up:=by
 unfold Jjc
 rw [List.head?_map,List.head?_filter]
def Jwr:Option Nat→V
 |none=>.non
 |some k=>.int (k:Nat)
def Y3:Sp:=fun vs H Q _=>∃(L:Addr) (ts:List Addr) (Bs:List BTd),vs= [.ref L]∧H L=some (.lst (ts.map V.ref))∧TldS H ts Bs∧RGd Bs∧
 ∀(acc:List Int) (lk:Option Nat),Jla Bs=(acc,lk)→∀(t F:Addr) (H':Hp),Same H H'→H F=none→H' t=some (.tup [.ref F,Jwr lk])→H' F=some (.lst (acc.map V.int))→Q (.ref t) H'
def spLAre:Sp:=fun vs H Q _=>∃(L N:Addr) (ts:List Addr) (Bs:List BTd) (ns:List Int),vs= [.ref L,.ref N]∧H L=some (.lst (ts.map V.ref))∧TldS H ts Bs∧RGd Bs∧H N=some (.lst (ns.map V.int))∧NGd Bs.length ns∧∀H',Same H H'→Q (.bl (Joi Bs ns)) H'
section
variable {P:Program} {w:World} {K:W.Frag} {mg:Str→Option Value} {base:Heap} {a:Ad}
theorem sc_law_least:Jia ["_law_told_here","_law_found","_law_one","_law_good"] ["_law_told_here"] (Ji5 (top 74)):=⟨rfl,rfl,rfl,by decide +kernel,rfl,by decide +kernel,by decide +kernel⟩
theorem Jt6 (T:Tx K mg a):FnOk P w K mg base CX0 4 a.Jgx a.Jgy ["_law_told_here"] Y3:=by
 have G__law_held:=Jpf (P:=P) (w:=w) (base:=base) T
 refine T.Ja1.fn.ok sc_law_least (fun vs H Q E h=>?_) (fun cdv A outer s H vs Q E hr h=>?_)
 ·obtain ⟨L,ts,Bs,rfl,_⟩:=h
  rfl
 ·obtain ⟨L,ts,Bs,rfl,hL,td,rg,k⟩:=h
  have hu64:=Jm0 hr
  have len:=Paired.length td
  have l16:=rg.len
  refine ⟨?t,?B,?C⟩
  case B=>
   refine' Ji3 ?s1 ?r1
   case s1=>
    exact (Jik (i:=1) sc_law_least.nd rfl (Or.inr rfl) (Jiu Ji2))
   case r1=>
    refine' Ji3 ?s3 ?r3
    case s3=>
     refine' Jk2 ?f4_0 ?f4_1 ?f4_2 ?f4_3 ?f4_4
     case f4_0=>
      exact PassesOwn.never
     case f4_1=>
      exact rfl
     case f4_2=>
      exact (Jj7 (pv 0))
     case f4_3=>
      exact (Jie (i:=2) sc_law_least.nd rfl (Or.inr rfl))
     case f4_4=>
      refine' Ji3 ?s5 ?r5
      case s5=>
       exact (Jks (i:=3) (N:=(["_law_hi","_law_one","_law_found"]:List Str)) (ini:=[none,some 2,some 1]) sc_law_least.nd rfl (Or.inl rfl) rfl (Jix (by rfl) T.Jas (Ji0 Ji6 Ji2)) (fun _ _ _ _ _=>(Jie (i:=0) (by decide +kernel:(["_law_hi","_law_one","_law_found"]:List Str).Nodup) rfl (Or.inl rfl))) (fun _ _ _ _ _=>(Jkr (Jiv (Ji9 T.Ja0 G__law_held hr (by decide) (Ji0 (pv 1) (Ji0 (Jin (Jlt (K:=K) rfl) (Jig Jnn (Jmj (Jzy (K:=K) rfl) (pv 2) (Jo6 (Jsb Jp5 Ji6)) Jo5) (Jiu (Ji0 Ji6 Ji2))) Ji6 (fun _ _=>rfl)) (Ji0 (pv 0) Ji2))))))) (fun _ _ _ _ _=>(pv 0)))
      case r5=>
       refine' Ji3 ?s7 ?r7
       case s7=>
        refine' Jis ?c8 ?a8 ?b8
        case c8=>
         exact (Jim (Jzd hu64) (pv 3) (Jiu Ji2) (Jio _))
        case a8=>
         refine' Ji4 ?s9
         case s9=>
          exact (Jib (Jke (Ji0 (pv 1) (Ji0 (Jic Jil (by rfl) T.Jao Jjg (Ji0 (pv 1) Ji2)) Ji2))))
        case b8=>
         exact Jih
       case r7=>
        refine' Ji4 ?s13
        case s13=>
         exact (Jk7 (Jph F.plainAttrs_list F.slot_list_append F.type_list_append Jjx (pv 1) (Ji0 (Jin Jiq (pv 3) Ji6 (fun _ _=>rfl)) Ji2)))
    case r3=>
     refine' Ji4 ?s15
     case s15=>
      exact (Jib (Jke (Ji0 (pv 1) (Ji0 Jk1 Ji2))))
  refine ⟨(show 0≤sizeLine by decide),fun F hF=>?_⟩
  have s1:=Same.upd (o:=.lst []) hF
  have sF:∀{H':Hp} {o:HO},Same H H'→Same H (upd H' F o):=fun s b u z=>by rw [Ji7 (Ji8 z hF)];exact s _ _ z
  refine ⟨_,rfl,L,rfl,⟨_,SqL.of (s1 _ _ hL)⟩,?_⟩
  refine Jma (K:=K) (xs:=ts.map V.ref) (fun i σ H'=>∃(acc:List Int) (o2 o3:Option V),σ= [some (.ref L),some (.ref F),o2,o3]∧Same H H'∧H' F=some (.lst (acc.map V.int))∧acc.length=i∧(0≤acc.getLast?.getD 0∧acc.getLast?.getD 0≤12)∧Jjs (Bs.drop i) (acc.getLast?.getD 0) acc=Jla Bs) ⟨[],_,_,rfl,s1,Ji1,rfl,by decide,rfl⟩ (fun i σ H' _ ⟨_,_,_,_,sm,_⟩=>SqL.of (sm _ _ hL)) ?_ ?_
  ·rintro i x σ H' hx ⟨acc,o2,o3,rfl,sm,hF',hlen,hup,hgo⟩
   rw [List.getElem?_map] at hx
   obtain ⟨t,ht,rfl⟩:=Option.map_eq_some_iff.mp hx
   obtain ⟨B,hB,tB⟩:=Jjm td ht
   have il:i < Bs.length:=(List.getElem?_eq_some_iff.mp hB).1
   have tg:=rg.all B (List.mem_of_getElem? hB)
   rw [List.drop_eq_getElem_cons il,(List.getElem?_eq_some_iff.mp hB).2] at hgo
   have at0:=Jyn acc
   generalize acc.getLast?.getD 0=up at hup hgo at0
   refine ⟨_,rfl,by decide,by decide,fun D hD=>?_⟩
   refine Jjk (lo:=0) (fun j σ H3=>(∃o,σ= [o,some (.ref t),some (.ref F)])∧Same H' H3∧H3 D=some (.lst ((((List.range j).filter fun h:Nat=>Jj8 B up h).map fun h:Nat=>(h:Int)).map V.int))) ⟨⟨_,rfl⟩,Same.upd hD,Ji1⟩ ?_ ?_
   ·rintro j σ H3 hj ⟨⟨o1,rfl⟩,s3,hD3⟩
    have hj2:j < 13:=hj
    have zj:(0+(j:Int))=j:=by omega
    rw [zj]
    have hF3:=s3 _ _ hF'
    refine ⟨_,rfl,_,rfl,_,rfl,_,rfl,F,_,rfl,SqL.of hF3,fun z1 hz1=>⟨(show 1≤sizeLine by decide),fun z2 hz2=>?_⟩⟩
    have q1:=Same.upd (o:=.lst (Jjn (acc.map V.int) (some (-1)) none)) hz1
    have q2:=Same.upd (o:=.lst [.int 0]) hz2
    refine ⟨z1,z2,_,_,rfl,rfl,q2 _ _ Ji1,Ji1,?_,fun z3 hz3=>?_⟩
    ·have:=Jp6 (acc.map V.int) (some (-1)) none
     rw [List.length_map] at this
     exact Nat.le_of_lt (Jii (by simp;omega))
    have q3:=Same.upd (o:=.lst (Jjn (acc.map V.int) (some (-1)) none++ [.int 0])) hz3
    have s4:=(q1.trans q2).trans q3
    refine ⟨z3,_,0,_,rfl,rfl,SqL.of Ji1,at0,_,rfl,t,B,up,(j:Int),rfl,((tB.same sm).same s3).same s4,tg,hup,fun H5 s5=>⟨_,rfl,?_⟩⟩
    have s35:=(s3.trans s4).trans s5
    have hD5:=s5 _ _ (s4 _ _ hD3)
    refine Jl9 (fun q=>?_) (fun q=>?_)
    ·refine ⟨_,rfl,_,hD5,?_,⟨_,rfl⟩,?_,?_⟩
     ·rw [List.length_map,List.length_map]
      refine Jii (Nat.le_trans (List.length_filter_le _ _) ?_)
      rw [List.length_range]
      omega
     ·intro c2 o' z
      rw [Ji7 (Ji8 z hD)]
      exact s35 _ _ z
     ·rw [Ji1,List.range_succ,List.filter_append,List.map_append,List.map_append]
      congr 3
      rw [List.filter_cons,if_pos q]
      rfl
    ·refine ⟨⟨_,rfl⟩,s35,?_⟩
     rw [hD5,List.range_succ,List.filter_append,List.map_append,List.map_append]
     congr 2
     rw [List.filter_cons,if_neg q]
     simp
   rintro σ3 H3 ⟨_,s3,hD3⟩
   have hD3:H3 D=some (.lst ((((List.range 13).filter fun h:Nat=>Jj8 B up h).map fun h:Nat=>(h:Int)).map V.int)):=hD3
   have hf:=Jtx B up
   generalize ((List.range 13).filter fun h:Nat=>Jj8 B up h).map (fun h:Nat=>(h:Int))=gs at hD3 hf
   refine ⟨_,rfl,(show 0≤sizeLine by decide),fun E hE=>⟨_,_,.lst (SqL.of (Same.upd hE _ _ hD3)) (Jkw _),.lst (SqL.of Ji1) .nil,Jkg _,rfl,_,rfl,?_⟩⟩
   rw [if_neg Bool.false_ne_true,Jq3]
   have sE:=Same.upd (o:=.lst []) hE
   have s4:=(sm.trans s3).trans sE
   have hF4:=sE _ _ (s3 _ _ hF')
   cases gs with
   |nil=>
    have hc:Jjc B up=none:=hf.symm
    have e:Jla Bs=(acc,some acc.length):=by
     rw [←hgo]
     show (match Jjc B up with|none=>(acc,some acc.length)|some u=>Jjs (Bs.drop (i+1)) u (acc++ [u]))=_
     rw [hc]
    refine Jk0 ⟨_,rfl,_,rfl,F,_,rfl,.inl (SqL.of hF4),(show 2≤sizeLine by decide),fun T1 hT1=>?_⟩
    refine k acc _ e T1 F _ (s4.trans (Same.upd hT1)) hF ?_ (Same.upd hT1 _ _ hF4)
    rw [Ji1,List.length_map]
    rfl
   |cons u gs=>
    have hc:Jjc B up=some u:=hf.symm
    refine Jj0 ?_
    have hD4:=sE _ _ hD3
    refine ⟨_,rfl,.inl ⟨rfl,_,SqL.of hF4⟩,_,rfl,D,_,0,_,rfl,rfl,SqL.of hD4,Jjv (j:=0) rfl,F,_,_,rfl,rfl,hF4,?_,acc++ [u],_,_,rfl,sF s4,?_,?_,?_,?_⟩
    ·rw [List.length_map]
     exact Jii (by omega)
    ·rw [Ji1,List.map_append]
     rfl
    ·rw [List.length_append,hlen]
     rfl
    ·have:=Jot hc
     simp
     exact this
    ·rw [←hgo]
     simp
     show _=(match Jjc B up with|none=>(acc,some acc.length)|some u=>Jjs (Bs.drop (i+1)) u (acc++ [u]))
     rw [hc]
  ·rintro σ H' ⟨acc,o2,o3,rfl,sm,hF',hlen,hup,hgo⟩
   rw [List.length_map,List.drop_of_length_le (by omega)] at hgo
   refine ⟨_,rfl,(show 2≤sizeLine by decide),fun T1 hT1=>?_⟩
   exact k acc none hgo.symm T1 F _ (sm.trans (Same.upd hT1)) hF Ji1 (Same.upd hT1 _ _ hF')
theorem sc_law_are:Jia ["_law_told_here","_law_numbers","_law_place"] ["_law_told_here","_law_numbers"] (Ji5 (top 75)):=⟨rfl,rfl,rfl,by decide +kernel,rfl,by decide +kernel,by decide +kernel⟩
theorem Jvl (T:Tx K mg a):FnOk P w K mg base CX0 4 a.Jgz a.Jh0 ["_law_told_here","_law_numbers"] spLAre:=by
 have G__law_held:=Jpf (P:=P) (w:=w) (base:=base) T
 refine T.Ja2.fn.ok sc_law_are (fun vs H Q E h=>?_) (fun cdv A outer s H vs Q E hr h=>?_)
 ·obtain ⟨L,N,ts,Bs,ns,rfl,_⟩:=h
  rfl
 ·obtain ⟨L,N,ts,Bs,ns,rfl,hL,td,rg,hN,ng,k⟩:=h
  have len:=Paired.length td
  have l16:=rg.len
  have nl:=ng.1
  have ul:=Jr2 ng l16.1
  refine ⟨?t,?B,?C⟩
  case B=>
   refine' Ji3 ?s1 ?r1
   case s1=>
    refine' Jk2 ?f2_0 ?f2_1 ?f2_2 ?f2_3 ?f2_4
    case f2_0=>
     exact PassesOwn.never
    case f2_1=>
     exact rfl
    case f2_2=>
     exact (Jix (by rfl) T.Jas (Ji0 (Jic Jil (by rfl) T.Jao Jjg (Ji0 (pv 0) Ji2)) Ji2))
    case f2_3=>
     exact (Jie (i:=2) sc_law_are.nd rfl (Or.inl rfl))
    case f2_4=>
     refine' Ji4 ?s3
     case s3=>
      refine' Jis ?c4 ?a4 ?b4
      case c4=>
       exact (Jj4 (Jiv (Ji9 T.Ja0 G__law_held hr (by decide) (Ji0 (Jin Jiq (pv 0) (pv 2) (fun _ _=>rfl)) (Ji0 (Jin Jiq (Jig Jnn (Jiu (Ji0 Ji6 Ji2)) (pv 1)) (pv 2) (fun _ _=>rfl)) (Ji0 (Jin Jiq (pv 1) (pv 2) (fun _ _=>rfl)) Ji2))))))
      case a4=>
       refine' Ji4 ?s5
       case s5=>
        exact (Jib Jjt)
      case b4=>
       exact Jih
   case r1=>
    refine' Ji4 ?s9
    case s9=>
     exact (Jib Jjt)
  refine ⟨_,rfl,L,_,rfl,.inl (SqL.of hL),_,rfl,by rw [List.length_map];omega,by rw [List.length_map];omega,?_⟩
  refine Jjw (lo:=0) (fun i σ H'=>(∃o2,σ= [some (.ref L),some (.ref N),o2])∧Same H H'∧∀(j:Nat) B,j < i→Bs[j]?=some B→Jj8 B ((Jl5 ns).getD j 0) (ns.getD j 0)=true) ⟨⟨_,rfl⟩,Same.refl _,fun j B h=>absurd h (Nat.not_lt_zero _)⟩ ?_ ?_
  ·rintro i σ H' hi ⟨⟨o2,rfl⟩,sm,all⟩
   have il:i < ts.length:=by simpa using hi
   have zi:(0+(i:Int))=i:=by omega
   rw [zi]
   have ht:ts[i]?=some ts[i]:=List.getElem?_eq_getElem il
   obtain ⟨B,hB,tB⟩:=Jjm td ht
   have tg:=rg.all B (List.mem_of_getElem? hB)
   have hn:ns[i]?=some (ns[i]'(by omega)):=List.getElem?_eq_getElem _
   have e1:ns.getD i 0=ns[i]'(by omega):=by rw [List.getD_eq_getElem?_getD,hn];rfl
   have hu:([V.int 0]++ns.map V.int)[i]?=some (.int ((Jl5 ns).getD i 0)):=by
    have:(0::ns)[i]?=some ((Jl5 ns).getD i 0):=by
     have q:(Jl5 ns)[i]?=(0::ns)[i]?:=by
      unfold Jl5
      cases i with
      |zero=>rfl
      |succ j=>
       show ns.dropLast[j]?=ns[j]?
       rw [List.dropLast_eq_take,List.getElem?_take,if_pos (by omega)]
     rw [List.getD_eq_getElem?_getD,q,List.getElem?_eq_getElem (by simp;omega)]
     rfl
    have e:([V.int 0]++ns.map V.int)=(0::ns).map V.int:=rfl
    rw [e,List.getElem?_map,this]
    rfl
   have b1:=Jwv ng ((Jl5 ns).getD i 0) (by rw [List.getD_eq_getElem?_getD,List.getElem?_eq_getElem (by omega)];exact List.getElem_mem _)
   refine ⟨_,rfl,_,rfl,L,_,(i:Int),_,rfl,rfl,SqL.of (sm _ _ hL),Jjv (j:=i) (by rw [List.getElem?_map,ht];rfl),(show 1≤sizeLine by decide),fun z hz=>?_⟩
   have q1:=Same.upd (o:=.lst [.int 0]) hz
   refine ⟨_,rfl,z,N,_,_,rfl,rfl,Ji1,q1 _ _ (sm _ _ hN),?_,fun z2 hz2=>?_⟩
   ·rw [List.length_map]
    exact Nat.le_of_lt (Jii (by simp;omega))
   have q2:=q1.trans (Same.upd (o:=.lst ([.int 0]++ns.map V.int)) hz2)
   have s2:=sm.trans q2
   refine ⟨_,rfl,z2,_,(i:Int),_,rfl,rfl,SqL.of Ji1,Jjv (j:=i) hu,_,rfl,_,rfl,N,_,(i:Int),_,rfl,rfl,SqL.of (s2 _ _ hN),Jjv (j:=i) (by rw [List.getElem?_map,hn];rfl),ts[i],B,_,_,rfl,tB.same s2,tg,b1,fun H3 s3=>⟨_,rfl,?_⟩⟩
   rw [←e1]
   cases hc:Jj8 B ((Jl5 ns).getD i 0) (ns.getD i 0) with
   |false=>
    have e:Joi Bs ns=false:=by
     unfold Joi
     rw [List.all_eq_false]
     refine ⟨i,List.mem_range.mpr (by omega),?_⟩
     rw [hB]
     show ¬(Jj8 B ((Jl5 ns).getD i 0) (ns.getD i 0)=true)
     rw [hc]
     decide
    have q:=k _ (s2.trans s3)
    rw [e] at q
    exact Jk0 q
   |true=>
    refine Jj0 ⟨⟨_,rfl⟩,s2.trans s3,fun j B' hj hB'=>?_⟩
    by_cases cj:j < i
    ·exact all j B' cj hB'
    ·have:j=i:=by omega
     subst this
     rw [hB] at hB'
     cases hB'
     exact hc
  ·rintro σ H' ⟨_,sm,all⟩
   have e:Joi Bs ns=true:=by
    unfold Joi
    rw [List.all_eq_true]
    intro i hi
    have il:=List.mem_range.mp hi
    cases hB:Bs[i]? with
    |none=>rfl
    |some B=>exact all i B (by simp;omega) hB
   have q:=k _ sm
   rw [e] at q
   exact q
end
def Yax (a:Ad):Sp:=fun vs H Q _=>∃(r:Addr) (Bs:List BTd) (c:Int),vs= [.ref r]∧H a.Jhz=some (.tbl lb_lost_alone)∧RivAt a H r Bs c∧RGd Bs∧
 (∀acc,Jla Bs=(acc,none)→∀t N H',Same H H'→H N=none→H' t=some (.tup [.str "told",.ref N])→H' N=some (.lst (acc.map V.int))→Q (.ref t) H')∧
 (∀acc k,Jla Bs=(acc,some k)→∀t H',Same H H'→H' t=some (.tup [.str "none",.int (k:Nat)])→Q (.ref t) H')
section
variable {P:Program} {w:World} {K:W.Frag} {mg:Str→Option Value} {base:Heap} {a:Ad}
theorem sc_law_told:Jia ["_law_river_here","_law_found","e"] ["_law_river_here"] (Ji5 (top 76)):=⟨rfl,rfl,rfl,by decide +kernel,rfl,by decide +kernel,by decide +kernel⟩
theorem Jub (T:Tx K mg a) (Bm:Bmn mg base):FnOk P w K mg base CX0 9 a.Jh1 a.Jh2 ["_law_river_here"] (Yax a):=by
 have G_promises:=Juc (P:=P) (w:=w) T Bm
 refine T.Ja3.fn.ok sc_law_told (fun vs H Q E h=>?_) (fun cdv A outer s H vs Q E hr h=>?_)
 ·obtain ⟨r,Bs,c,rfl,_⟩:=h
  rfl
 ·obtain ⟨r,Bs,c,rfl,ht,rv,rg,k1,k2⟩:=h
  refine ⟨?t,?B,?C⟩
  case B=>
   refine' Ji3 ?s1 ?r1
   case s1=>
    exact (Jik (i:=1) sc_law_told.nd rfl (Or.inl rfl) Jk1)
   case r1=>
    refine' Ji3 ?s3 ?r3
    case s3=>
     exact (ps_try ⟨rfl,rfl⟩ (fun _ _ hw=>(Ji4 (Jik (i:=1) sc_law_told.nd rfl (Or.inl rfl) (Jke (Ji0 Jji (Ji0 (Jkz T.Jh G_promises hw hr (by decide) (Ji0 (pv 0) Ji2)) Ji2)))))) (by exact ph_as T.Jc6 T.Jb4 sc_law_told.nd (i:=2) rfl rfl (fun _=>(Ji4 (Jik (i:=1) sc_law_told.nd rfl (Or.inl rfl) (Jke (Ji0 Jji (Ji0 (Yad (pv 2) (by rfl)) Ji2)))))) ph_nil))
    case r3=>
     refine' Ji4 ?s5
     case s5=>
      exact (Jib (pv 1))
  refine fun pins=>⟨_,rfl,r,Bs,c,rfl,ht,rv,rg,fun acc e N H1 s1 hN0 hN=>?_,fun acc n e eo dx H1 s1 q1 q2=>?_⟩
  ·refine ⟨(show 2≤sizeLine by decide),fun t ht1=>?_⟩
   exact ⟨_,rfl,k1 acc e t N _ (s1.trans (Same.upd ht1)) hN0 Ji1 (Same.upd ht1 _ _ hN)⟩
  ·refine ⟨eo,_,true,rfl,rfl,T.Jdq,Jk0 ?_⟩
   refine ⟨_,rfl,eo,_,_,_,dx,_,_,_,rfl,q1,q2,T.Jc5,T.Jc7,rfl,(show 2≤sizeLine by decide),fun t ht1=>?_⟩
   exact ⟨_,rfl,k2 acc n e t _ (s1.trans (Same.upd ht1)) Ji1⟩
end
def Jtq (B:BTd) (up hi:Int) (l:List (Option Int)):Prop:=∀n,n < nLv B→Jkk B up hi n=true→l.getD n none=none
theorem Yaj (r:Int) {n:Nat}:∀{ns:List Nat} {l:List (Option Int)},¬n∈ns→(Jld l ns r).getD n none=l.getD n none:=by
 intro ns
 induction ns with
 |nil=>intro l _;rfl
 |cons m ns ih=>
  intro l h
  show (Jld (l.set m (some r)) ns r).getD n none=_
  rw [ih fun z=>h (List.mem_cons_of_mem _ z)]
  have:m≠n:=fun z=>h (by rw [z];exact List.mem_cons_self ..)
  simp [List.getD_eq_getElem?_getD,List.getElem?_set_ne this]
theorem Ya3 {B:BTd} {up up' hi:Int} {l:List (Option Int)} {n:Nat} (h:up'≤up) (k:Jtq B up hi l) (hn:n < nLv B) (hh:Jkk B up hi n=true):Jkb B up' hi l n=false:=by
 have hm:n∈Jm7 B up hi:=List.mem_filter.mpr ⟨List.mem_range.mpr hn,hh⟩
 have q:=(Jq6 hm).2
 have m:=List.mem_of_mem_head? (Option.mem_def.mpr q)
 obtain ⟨h1,h2⟩:=List.mem_filter.mp m
 unfold Jkb
 rw [Bool.not_eq_false',List.any_eq_true]
 refine ⟨_,h1,?_⟩
 rw [←Jul] at h2⊢
 unfold Jna at h2⊢
 rw [List.all_eq_true] at h2⊢
 intro c hc
 have lt:=List.mem_range.mp hc
 have ok:=h2 c (List.mem_range.mpr (by omega))
 revert ok
 unfold Jlg
 split
 ·rename_i rgc
  intro ok
  show (l.getD _ none).isNone=true
  rw [k _ ?_ ok]
  ·rfl
  ·unfold nLv
   omega
 ·intro ok
  exact ok
theorem Jxg {B:BTd} {up up' hi:Int} (h:up'≤up):∀(j:Nat) (l:List (Option Int)) (r:Int),Jtq B up hi l→Jtq B up hi (Jlu B up' hi j l r):=by
 intro j
 induction j with
 |zero=>intro l r k;exact k
 |succ j ih=>
  intro l r k
  show Jtq B up hi (if Jij B up' hi l= [] then l else Jlu B up' hi j (Jld l (Jij B up' hi l) (r+1)) (r+1))
  by_cases c:Jij B up' hi l= []
  ·rw [if_pos c]
   exact k
  ·rw [if_neg c]
   refine ih _ _ fun n hn hh=>?_
   rw [Yaj (r+1) fun z=>?_]
   ·exact k n hn hh
   ·unfold Jij at z
    have:=(List.mem_filter.mp z).2
    rw [Bool.and_eq_true,Ya3 h k hn hh] at this
    cases this.2
theorem Jx9 {B:BTd} {up up' hi:Int} {n:Nat} (h:up'≤up) (hn:n < nLv B) (hh:Jkk B up hi n=true):Jkk B up' hi n=true:=by
 have z:Jtq B up hi (List.replicate (nLv B) none):=fun m hm _=>by
  rw [List.getD_eq_getElem?_getD,List.getElem?_replicate]
  split <;> rfl
 have q:=Jxg h (nLv B+1) _ 0 z n hn hh
 unfold Jkk Jkc
 rw [q]
 rfl
theorem Yb4 {B:BTd} {up up' hi:Int} (tg:TGd B) (h:up'≤up) (hh:Jj8 B up hi=true):Jj8 B up' hi=true:=Jx9 h (by have:=tg.st;unfold nLv;omega) hh
theorem Jxk {B:BTd} {up up' hi:Int} (tg:TGd B) (h:up'≤up) (hi0:0≤hi∧hi≤12) (hh:Jj8 B up hi=true):∃u,Jjc B up'=some u∧u≤hi:=by
 have q:=Yb4 tg h hh
 have e:hi=((hi.toNat:Nat):Int):=by omega
 cases hc:(List.range 13).find? fun h:Nat=>Jj8 B up' h with
 |none=>
  rw [List.find?_eq_none] at hc
  refine absurd ?_ (hc hi.toNat (List.mem_range.mpr (by omega)))
  rw [←e]
  exact q
 |some u=>
  refine ⟨(u:Int),by unfold Jjc;rw [hc];rfl,?_⟩
  rw [List.find?_range_eq_some] at hc
  by_cases lt:hi.toNat < u
  ·have:=hc.2.2 hi.toNat lt
   rw [←e,q] at this
   cases this
  ·omega
theorem Jxl:∀(Bs:List BTd) (up:Int) (us ns acc:List Int),(∀B∈Bs,TGd B)→us.length=Bs.length→ns.length=Bs.length→(∀x∈ns,0≤x∧x≤12)→(∀i,i < Bs.length→∀B,Bs[i]?=some B→Jj8 B (us.getD i 0) (ns.getD i 0)=true)→
  (∀i,i+1 < Bs.length→us.getD (i+1) 0=ns.getD i 0)→(Bs≠ []→up≤us.getD 0 0)→∃more:List Int,Jjs Bs up acc=(acc++more,none)∧more.length=Bs.length∧∀i,i < Bs.length→more.getD i 0≤ns.getD i 0:=by
 intro Bs
 induction Bs with
 |nil=>intro up us ns acc _ _ _ _ _ _ _;exact ⟨[],by simp [Jjs],rfl,fun i h=>absurd h (Nat.not_lt_zero _)⟩
 |cons B Bs ih=>
  intro up us ns acc tg l1 l2 hb held link hup
  cases us with
  |nil=>simp at l1
  |cons u0 us=>
   cases ns with
   |nil=>simp at l2
   |cons n0 ns=>
    obtain ⟨u,hu,le⟩:=Jxk (tg B (List.mem_cons_self ..)) (hup (List.cons_ne_nil _ _)) (hb n0 (List.mem_cons_self ..)) (held 0 (by simp) B rfl)
    obtain ⟨more,h1,h2,h3⟩:=ih u us ns (acc++ [u]) (fun B' h=>tg B' (List.mem_cons_of_mem _ h)) (by simpa using l1) (by simpa using l2) (fun x h=>hb x (List.mem_cons_of_mem _ h))
     (fun i hi B' hB'=>held (i+1) (by simpa using hi) B' hB') (fun i hi=>link (i+1) (by simpa using hi)) (fun ne=>by
      have:=link 0 (by cases Bs with|nil=>exact absurd rfl ne|cons _ _=>simp)
      have e:us.getD 0 0=n0:=this
      rw [e]
      exact le)
    refine ⟨u::more,?_,by simp [h2],fun i hi=>?_⟩
    ·show (match Jjc B up with|none=>(acc,some acc.length)|some u=>Jjs Bs u (acc++ [u]))=_
     rw [hu]
     show Jjs Bs u (acc++ [u])=_
     rw [h1,List.append_assoc]
     rfl
    ·cases i with
     |zero=>exact le
     |succ j=>exact h3 j (by simpa using hi)
theorem Jxu {Bs:List BTd} {ns acc:List Int} {lk:Option Nat} (rg:RGd Bs) (ng:NGd Bs.length ns) (h:Joi Bs ns=true) (e:Jla Bs=(acc,lk)):lk=none∧∀i,i < acc.length→¬ns.getD i 0 < acc.getD i 0:=by
 unfold Joi at h
 rw [List.all_eq_true] at h
 have nl:=ng.1
 obtain ⟨more,h1,h2,h3⟩:=Jxl Bs 0 (Jl5 ns) ns [] rg.all (Jr2 ng rg.len.1) ng.1 ng.2 (fun i hi B hB=>by have:=h i (List.mem_range.mpr hi);rw [hB] at this;exact this) (fun i hi=>by
  unfold Jl5
  show ns.dropLast.getD i 0=_
  rw [List.getD_eq_getElem?_getD,List.getD_eq_getElem?_getD,List.dropLast_eq_take,List.getElem?_take,if_pos (by omega)]) (fun _=>Int.le_refl _)
 unfold Jla at e
 rw [h1] at e
 cases e
 refine ⟨rfl,fun i hi=>?_⟩
 have:=h3 i (by simpa [h2] using hi)
 simp only [List.nil_append] at*
 omega
def NumL (p:Addr) (n:Nat) (H:Hp) (qs:List Addr) (nss:List (List Int)):Prop:=Paired (fun q ns=>q≠p∧H q=some (.lst (ns.map V.int))∧NGd n ns) qs nss
theorem NumL.same {p:Addr} {n:Nat} {H H':Hp} {qs:List Addr} {nss:List (List Int)} (s:Same H H') (h:NumL p n H qs nss):NumL p n H' qs nss:=Paired.mapP h fun _ _ ⟨a,b,c⟩=>⟨a,s _ _ b,c⟩
theorem NumL.but {p:Addr} {n:Nat} {H H':Hp} {qs:List Addr} {nss:List (List Int)} (b:But p H H') (h:NumL p n H qs nss):NumL p n H' qs nss:=Paired.mapP h fun _ _ ⟨a,c,d⟩=>⟨a,b.1 _ _ a c,d⟩
theorem Jvj {n:Nat} {H:Hp} {q L:Addr} {ns:List Int} {us:List Addr} (h1:1≤n) (h:H q=some (.lst (ns.map V.int))) (ng:NGd n ns) (hL:H L=some (.lst (us.map V.ref))):q≠L:=fun z=>by
 rw [z,hL] at h
 have e:=HO.lst.inj (Option.some.inj h)
 cases hc:ns with
 |nil=>have:=ng.1;rw [hc] at this;simp at this;omega
 |cons x r=>
  rw [hc] at e
  cases us with
  |nil=>simp at e
  |cons u us=>simp at e
theorem NumL.put {p L:Addr} {n:Nat} {H:Hp} {qs us:List Addr} {nss:List (List Int)} {o:HO} (h1:1≤n) (hL:H L=some (.lst (us.map V.ref))) (h:NumL p n H qs nss):NumL p n (upd H L o) qs nss:=Paired.mapP h fun _ _ ⟨a,b,c⟩=>⟨a,by rw [Ji7 (Jvj h1 b c hL)];exact b,c⟩
def Jje (acc:List Int) (n:Nat):List Int:=acc++List.replicate (n - acc.length) 12
theorem Jz0 {acc:List Int} {n:Nat} (h:acc.length≤n) (ha:∀x∈acc,0≤x∧x≤12):NGd n (Jje acc n):=by
 refine ⟨by unfold Jje;rw [List.length_append,List.length_replicate];omega,fun x hx=>?_⟩
 unfold Jje at hx
 rcases List.mem_append.mp hx with h|h
 ·exact ha x h
 ·rw [(List.mem_replicate.mp h).2]
  decide
theorem Jyy (k:Nat):(List.replicate k [V.int 12]).flatten=(List.replicate k (12:Int)).map V.int:=by
 induction k with
 |zero=>rfl
 |succ k ih=>rw [List.replicate_succ,List.flatten_cons,ih,List.replicate_succ,List.map_cons];rfl
theorem put_ok {ns:List Int} {n i:Nat} {x:Int} (ng:NGd n ns) (hi:i < n) (hx:0≤x∧x≤12):NGd n (ns.take i++ [x]++ns.drop (i+1)):=by
 have nl:=ng.1
 refine ⟨?_,fun y hy=>?_⟩
 ·rw [List.length_append,List.length_append,List.length_take,List.length_drop]
  simp
  omega
 ·rcases List.mem_append.mp hy with h|h
  ·rcases List.mem_append.mp h with h|h
   ·exact ng.2 y (List.mem_of_mem_take h)
   ·rw [List.mem_singleton.mp h]
    exact hx
  ·exact ng.2 y (List.mem_of_mem_drop h)
theorem cut_to (ns:List Int) (i:Nat) (h:i≤ns.length):Jjn (ns.map V.int) none (some (i:Int))=(ns.take i).map V.int:=by
 unfold Jjn
 rw [HT.sIx_none,HT.sIx_nat,List.length_map,Nat.min_eq_left h,List.drop_zero,Nat.sub_zero,List.map_take]
theorem Jym (ns:List Int) (i:Nat) (h:i≤ns.length):Jjn (ns.map V.int) (some (i:Int)) none=(ns.drop i).map V.int:=by
 unfold Jjn
 rw [HT.sIx_nat,List.length_map,Nat.min_eq_left h,←List.map_drop]
 show List.take (ns.length - i) ((ns.drop i).map V.int)=_
 rw [List.take_of_length_le (by rw [List.length_map,List.length_drop];exact Nat.le_refl _)]
def Y4:Sp:=fun vs H Q _=>∃(p G0:Addr) (acc:List Int) (n:Nat),vs= [.ref p,.ref G0,.int (n:Int)]∧Strm H p∧G0≠p∧H G0=some (.lst (acc.map V.int))∧acc.length≤n∧(1≤n∧n≤16)∧(∀x∈acc,0≤x∧x≤12)∧
 ∀(LL:Addr) (qs:List Addr) (nss:List (List Int)) (H':Hp),But p H H'→H LL=none→H' LL=some (.lst (qs.map V.ref))→NumL p n H' qs nss→Q (.ref LL) H'
section
variable {P:Program} {w:World} {K:W.Frag} {mg:Str→Option Value} {base:Heap} {a:Ad}
theorem sc_law_lists:Jia ["_law_stream_here","_law_least_here","_law_many","_law_full","_law_lists_here","_law_turn","_law_place","_law_number"] ["_law_stream_here","_law_least_here","_law_many"] (Ji5 (top 77)):=⟨rfl,rfl,rfl,by decide +kernel,rfl,by decide +kernel,by decide +kernel⟩
theorem Jt7 (T:Tx K mg a):FnOk P w K mg base CX0 2 a.Jh3 a.Jh4 ["_law_stream_here","_law_least_here","_law_many"] Y4:=by
 have G__law_take:=Jk9 (P:=P) (w:=w) (base:=base) T
 refine T.Ja4.fn.ok sc_law_lists (fun vs H Q E h=>?_) (fun cdv A outer s H vs Q E hr h=>?_)
 ·obtain ⟨p,G0,acc,n,rfl,_⟩:=h
  rfl
 ·obtain ⟨p,G0,acc,n,rfl,st,nF,hF,hacc,hn,hb,k⟩:=h
  have fo:=Jz0 hacc hb
  have fl:=fo.1
  refine ⟨?t,?B,?C⟩
  case B=>
   refine' Ji3 ?s1 ?r1
   case s1=>
    exact (Jik (i:=3) sc_law_lists.nd rfl (Or.inl rfl) (Jig Jnn (pv 1) (Jig Jzf (Jiu (Ji0 Ji6 Ji2)) (Jig Jkd (pv 2) (Jic Jil (by rfl) T.Jao Jjg (Ji0 (pv 1) Ji2))))))
   case r1=>
    refine' Ji3 ?s3 ?r3
    case s3=>
     exact (Jik (i:=4) sc_law_lists.nd rfl (Or.inl rfl) (Jiu (Ji0 (pv 3) (Ji0 (Jig Jzf (Jiu (Ji0 Ji6 Ji2)) (pv 2)) (Ji0 (Jj2 (N:=(["_law_place","_law_stream_here"]:List Str)) (ini:=[none,some 0]) rfl (Jix (by rfl) T.Jas (Ji0 (pv 2) Ji2)) (fun _ _ _ _ _=>(Jie (i:=0) (by decide +kernel:(["_law_place","_law_stream_here"]:List Str).Nodup) rfl (Or.inl rfl))) (fun _ _ _ _ _=>Jj3) (fun _ _ _ _ _=>(Ji9 T.Jq G__law_take hr (by decide) (Ji0 (pv 1) (Ji0 Ji6 Ji2))))) Ji2)))))
    case r3=>
     refine' Ji3 ?s5 ?r5
     case s5=>
      refine' Jk2 ?f6_0 ?f6_1 ?f6_2 ?f6_3 ?f6_4
      case f6_0=>
       exact PassesOwn.never
      case f6_1=>
       exact rfl
      case f6_2=>
       exact (Jix (by rfl) T.Jas (Ji0 Ji6 Ji2))
      case f6_3=>
       exact (Jie (i:=5) sc_law_lists.nd rfl (Or.inl rfl))
      case f6_4=>
       refine' Ji3 ?s7 ?r7
       case s7=>
        exact (Jik (i:=6) sc_law_lists.nd rfl (Or.inl rfl) (Ji9 T.Jq G__law_take hr (by decide) (Ji0 (pv 0) (Ji0 (pv 2) Ji2))))
       case r7=>
        refine' Ji3 ?s9 ?r9
        case s9=>
         exact (Jik (i:=7) sc_law_lists.nd rfl (Or.inl rfl) (Jic (Jl6 rfl) (by rfl) T.Jaq Jom (Ji0 Ji6 (Ji0 (Jic (Jmw rfl) (by rfl) T.Jar Jso (Ji0 Ji6 (Ji0 (Jig Jit (Jin Jiq (pv 3) (pv 6) (fun _ _=>rfl)) (Jin Jiq (Jiu (Ji0 (Jsb Jp5 Ji6) (Ji0 Ji6 (Ji0 Ji6 Ji2)))) (Ji9 T.Jq G__law_take hr (by decide) (Ji0 (pv 0) (Ji0 Ji6 Ji2))) (fun _ _=>rfl))) Ji2))) Ji2))))
        case r9=>
         refine' Ji4 ?s11
         case s11=>
          exact (Jk7 (Jph F.plainAttrs_list F.slot_list_append F.type_list_append Jjx (pv 4) (Ji0 (Jig Jnn (Jig Jnn (Jmj Jod (pv 3) Jo5 (Jo6 (pv 6))) (Jiu (Ji0 (pv 7) Ji2))) (Jmj Jod (pv 3) (Jo6 (Jig Jit (pv 6) Ji6)) Jo5)) Ji2)))
     case r5=>
      refine' Ji4 ?s13
      case s13=>
       exact (Jib (pv 4))
  refine ⟨_,rfl,(show 1≤sizeLine by decide),fun z1 hz1=>?_⟩
  have q1:=Same.upd (o:=.lst [.int 12]) hz1
  refine ⟨_,rfl,_,rfl,G0,_,rfl,.inl (SqL.of (q1 _ _ hF)),_,_,rfl,rfl,z1,_,_,rfl,rfl,Ji1,?_,?_,?_,fun z2 hz2=>?_⟩
  ·rw [List.length_map]
   omega
  ·rw [List.length_map]
   omega
  ·rw [List.length_map]
   exact Nat.le_of_lt (Jii (by simp;omega))
  have e2:(List.replicate ((n:Int) - ((acc.map V.int).length:Int)).toNat [V.int 12]).flatten=(List.replicate (n - acc.length) (12:Int)).map V.int:=by
   rw [List.length_map,show ((n:Int) - (acc.length:Int)).toNat=n - acc.length by omega,Jyy]
  have q2:=Same.upd (o:=.lst (List.replicate ((n:Int) - ((acc.map V.int).length:Int)).toNat [V.int 12]).flatten) hz2
  refine ⟨G0,z2,_,_,rfl,rfl,q2 _ _ (q1 _ _ hF),Ji1,?_,fun FL hFL=>?_⟩
  ·rw [e2,List.length_map,List.length_map,List.length_replicate]
   exact Nat.le_of_lt (Jii (by omega))
  have q3:=Same.upd (o:=.lst (acc.map V.int++(List.replicate ((n:Int) - ((acc.map V.int).length:Int)).toNat [V.int 12]).flatten)) hFL
  have hFL':(upd (upd (upd H z1 (.lst [.int 12])) z2 (.lst (List.replicate ((n:Int) - ((acc.map V.int).length:Int)).toNat [V.int 12]).flatten)) FL (.lst (acc.map V.int++(List.replicate ((n:Int) - ((acc.map V.int).length:Int)).toNat [V.int 12]).flatten))) FL=some (.lst ((Jje acc n).map V.int)):=by
   rw [Ji1,e2,←List.map_append]
   rfl
  have s3:=(q1.trans q2).trans q3
  have c3:But p H _:=(But.refl st).same s3
  have nFL:FL≠p:=((But.refl st).same (q1.trans q2)).2.ne hFL
  generalize upd (upd (upd H z1 (.lst [.int 12])) z2 (.lst (List.replicate ((n:Int) - ((acc.map V.int).length:Int)).toNat [V.int 12]).flatten)) FL (.lst (acc.map V.int++(List.replicate ((n:Int) - ((acc.map V.int).length:Int)).toNat [V.int 12]).flatten))=H3 at hFL' s3 c3
  refine ⟨_,rfl,(show 1≤sizeLine by decide),fun z4 hz4=>?_⟩
  have q4:=Same.upd (o:=.lst [.int 12]) hz4
  refine ⟨_,rfl,z4,_,_,rfl,rfl,Ji1,by omega,by omega,?_,fun TW hTW=>?_⟩
  ·exact Nat.le_of_lt (Jii (by simp;omega))
  have e5:(List.replicate ((n:Int)).toNat [V.int 12]).flatten=(List.replicate n (12:Int)).map V.int:=by
   rw [Int.toNat_natCast,Jyy]
  have q5:=Same.upd (o:=.lst (List.replicate ((n:Int)).toNat [V.int 12]).flatten) hTW
  have c4:=c3.same q4
  have nTW:TW≠p:=c4.2.ne hTW
  have hTW':=Ji1 (H:=upd H3 z4 (.lst [.int 12])) (a:=TW) (o:=.lst (List.replicate ((n:Int)).toNat [V.int 12]).flatten)
  have c5:=c4.same q5
  have hFL5:=q5 _ _ (q4 _ _ hFL')
  have s35:=q4.trans q5
  generalize eH5:upd (upd H3 z4 (.lst [.int 12])) TW (.lst (List.replicate ((n:Int)).toNat [V.int 12]).flatten)=H5 at hTW' c5 hFL5 s35
  rw [e5] at hTW'
  refine ⟨_,rfl,_,rfl,by omega,by omega,fun D hD=>?_⟩
  have nD:D≠p:=c5.2.ne hD
  have hD0:H D=none:=But.free st c5 hD
  have bD:But p H5 (upd H5 D (.lst [])):=(But.refl c5.2).updD hD nD
  refine Jjk (lo:=0) (fun j σ H'=>(∃o,σ= [o,some (.ref p)])∧But p H5 H'∧∃ns:List Int,H' D=some (.lst (ns.map V.int))∧NGd j ns) ⟨⟨_,rfl⟩,bD,[],Ji1,rfl,fun x h=>nomatch h⟩ ?_ ?_
  ·rintro j σ H' hj ⟨⟨o1,rfl⟩,b6,ns,hDs,ng⟩
   have hj2:j < n:=by simpa using hj
   refine Jj5 ⟨_,rfl,p,13,rfl,b6.2,by decide,by decide,fun r H7 r0 r1 b7=>?_⟩
   have hD7:=b7.1 _ _ nD hDs
   have nl:=ng.1
   refine ⟨_,hD7,?_,⟨_,rfl⟩,(b6.trans b7).updD hD nD,ns++ [r],?_,?_,fun x hx=>?_⟩
   ·rw [List.length_map]
    exact Jii (by omega)
   ·rw [Ji1,List.map_append]
    rfl
   ·rw [List.length_append,nl]
    rfl
   ·rcases List.mem_append.mp hx with h|h
    ·exact ng.2 x h
    ·rw [List.mem_singleton.mp h]
     omega
  rintro σ6 H6 ⟨_,b6,ns,hDs,ng⟩
  rw [show ((n:Nat):Int).toNat=n from Int.toNat_natCast _] at ng
  have c6:=c5.trans b6
  refine ⟨(show 3≤sizeLine by decide),fun LL hLL=>?_⟩
  have hLL0:H LL=none:=But.free st c6 hLL
  have nLL:LL≠p:=st.ne hLL0
  have q7:=Same.upd (o:=.lst [.ref FL,.ref TW,.ref D]) hLL
  have c7:=c6.same q7
  have hFL7:=q7 _ _ (b6.1 _ _ nFL hFL5)
  have t12:NGd n (List.replicate n (12:Int)):=⟨List.length_replicate,fun x hx=>by rw [(List.mem_replicate.mp hx).2];decide⟩
  have nl7:NumL p n (upd H6 LL (.lst [.ref FL,.ref TW,.ref D])) [FL,TW,D] [Jje acc n,List.replicate n 12,ns]:=.cons ⟨nFL,hFL7,fo⟩ (.cons ⟨nTW,q7 _ _ (b6.1 _ _ nTW hTW'),t12⟩ (.cons ⟨nD,q7 _ _ hDs,ng⟩ .nil))
  refine ⟨3,rfl,by decide,by decide,?_⟩
  refine Jjw (lo:=0) (fun i σ H'=>(∃o5 o6 o7,σ= [some (.ref p),some (.ref G0),some (.int (n:Int)),some (.ref FL),some (.ref LL),o5,o6,o7])∧But p H H'∧H' FL=some (.lst ((Jje acc n).map V.int))∧∃(qs:List Addr) (nss:List (List Int)),H' LL=some (.lst (qs.map V.ref))∧qs.length=3+i∧NumL p n H' qs nss) ⟨⟨_,_,_,rfl⟩,c7,hFL7,[FL,TW,D],_,Ji1,rfl,nl7⟩ ?_ ?_
  ·rintro i σ H' hi ⟨⟨o5,o6,o7,rfl⟩,c8,hFL8,qs,nss,hLL8,hql,nl8⟩
   have hi2:i < 3:=hi
   refine ⟨_,rfl,_,rfl,p,(n:Int),rfl,c8.2,by omega,Ju3 (by omega) (by omega),fun r H9 r0 r1 b9=>?_⟩
   obtain ⟨pl,rfl⟩:=Int.eq_ofNat_of_zero_le r0
   have pln:pl < n:=by omega
   have c9:=c8.trans b9
   have hFL9:=b9.1 _ _ nFL hFL8
   obtain ⟨a1,m1⟩:=Jkp (ns:=Jje acc n) (s:=(pl:Int)) ⟨by omega,by rw [fl];omega⟩
   have bx:=fo.2 _ m1
   generalize (Jje acc n).getD (pl:Int).toNat 0=fv at a1 bx
   refine ⟨_,rfl,_,rfl,FL,_,(pl:Int),_,rfl,rfl,SqL.of hFL9,a1,_,rfl,(show 3≤sizeLine by decide),fun z6 hz6=>?_⟩
   have q9:=Same.upd (o:=.lst [.int (-1),.int 1,.int 2]) hz6
   have n6:=c9.2.ne hz6
   refine ⟨_,rfl,p,3,rfl,c9.2.same q9,by decide,by decide,fun r2 H10 r20 r21 b10=>?_⟩
   obtain ⟨a2,m2⟩:=Jkp (ns:=[-1,1,2]) ⟨r20,r21⟩
   refine ⟨z6,_,r2,_,rfl,rfl,SqL.of (b10.1 _ _ n6 Ji1),a2,_,_,rfl,rfl,_,_,rfl,_,_,rfl,?_⟩
   have c10:=(c9.same q9).trans b10
   generalize hv:(if (if fv+([-1,1,2]:List Int).getD r2.toNat 0 < 12 then fv+([-1,1,2]:List Int).getD r2.toNat 0 else 12) > 0 then (if fv+([-1,1,2]:List Int).getD r2.toNat 0 < 12 then fv+([-1,1,2]:List Int).getD r2.toNat 0 else 12) else (0:Int))=nv
   have bv:0≤nv∧nv≤12:=by
    rw [←hv]
    split <;> split <;> omega
   have hFL10:=b10.1 _ _ nFL (q9 _ _ hFL9)
   have hLL10:=b10.1 _ _ nLL (q9 _ _ (b9.1 _ _ nLL hLL8))
   have nl10:=((nl8.but b9).same q9).but b10
   have ct:=cut_to (Jje acc n) pl (by rw [fl];omega)
   have cf:=Jym (Jje acc n) (pl+1) (by rw [fl];omega)
   refine ⟨_,rfl,.inl ⟨rfl,_,SqL.of hLL10⟩,_,rfl,_,rfl,_,rfl,FL,_,rfl,SqL.of hFL10,fun y1 hy1=>?_⟩
   have w1:=Same.upd (o:=.lst (Jjn ((Jje acc n).map V.int) none (some (pl:Int)))) hy1
   refine ⟨_,rfl,(show 1≤sizeLine by decide),fun y2 hy2=>?_⟩
   have w2:=w1.trans (Same.upd (o:=.lst [.int nv]) hy2)
   refine ⟨y1,y2,_,_,rfl,rfl,Same.upd hy2 _ _ Ji1,Ji1,?_,fun y3 hy3=>?_⟩
   ·rw [ct,List.length_map,List.length_take]
    exact Nat.le_of_lt (Jii (by simp;omega))
   have w3:=w2.trans (Same.upd (o:=.lst (Jjn ((Jje acc n).map V.int) none (some (pl:Int))++ [.int nv])) hy3)
   refine ⟨_,rfl,_,rfl,_,_,rfl,rfl,_,rfl,FL,_,rfl,SqL.of (w3 _ _ hFL10),fun y4 hy4=>?_⟩
   have w4:=w3.trans (Same.upd (o:=.lst (Jjn ((Jje acc n).map V.int) (some ((pl:Int)+1)) none)) hy4)
   refine ⟨y3,y4,_,_,rfl,rfl,Same.upd hy4 _ _ Ji1,Ji1,?_,fun y5 hy5=>?_⟩
   ·rw [ct,show ((pl:Int)+1)=((pl+1:Nat):Int) by omega,cf,List.length_append,List.length_map,List.length_map,List.length_take,List.length_drop]
    exact Nat.le_of_lt (Jii (by simp;omega))
   have w5:=Same.upd (o:=.lst (Jjn ((Jje acc n).map V.int) none (some (pl:Int))++ [.int nv]++Jjn ((Jje acc n).map V.int) (some ((pl:Int)+1)) none)) hy5
   have hy5':(upd (upd (upd (upd (upd H10 y1 (.lst (Jjn ((Jje acc n).map V.int) none (some (pl:Int))))) y2 (.lst [.int nv])) y3 (.lst (Jjn ((Jje acc n).map V.int) none (some (pl:Int))++ [.int nv]))) y4 (.lst (Jjn ((Jje acc n).map V.int) (some ((pl:Int)+1)) none))) y5 (.lst (Jjn ((Jje acc n).map V.int) none (some (pl:Int))++ [.int nv]++Jjn ((Jje acc n).map V.int) (some ((pl:Int)+1)) none))) y5=some (.lst (((Jje acc n).take pl++ [nv]++(Jje acc n).drop (pl+1)).map V.int)):=by
    rw [Ji1,ct,show ((pl:Int)+1)=((pl+1:Nat):Int) by omega,cf,List.map_append,List.map_append]
    rfl
   have s11:=w4.trans w5
   have n5:y5≠p:=(c10.same w4).2.ne hy5
   generalize upd (upd (upd (upd (upd H10 y1 (.lst (Jjn ((Jje acc n).map V.int) none (some (pl:Int))))) y2 (.lst [.int nv])) y3 (.lst (Jjn ((Jje acc n).map V.int) none (some (pl:Int))++ [.int nv]))) y4 (.lst (Jjn ((Jje acc n).map V.int) (some ((pl:Int)+1)) none))) y5 (.lst (Jjn ((Jje acc n).map V.int) none (some (pl:Int))++ [.int nv]++Jjn ((Jje acc n).map V.int) (some ((pl:Int)+1)) none))=H11 at hy5' s11
   have hLL11:=s11 _ _ hLL10
   have hFL11:=s11 _ _ hFL10
   have pk:=put_ok (i:=pl) fo pln bv
   refine ⟨LL,_,_,rfl,rfl,hLL11,?_,⟨_,_,_,rfl⟩,(c10.same s11).updD hLL0 nLL,?_,qs++ [y5],nss++ [(Jje acc n).take pl++ [nv]++(Jje acc n).drop (pl+1)],?_,?_,?_⟩
   ·rw [List.length_map]
    exact Jii (by omega)
   ·rw [Ji7 (Jvj hn.1 hFL11 fo hLL11)]
    exact hFL11
   ·rw [Ji1,List.map_append]
    rfl
   ·rw [List.length_append,hql]
    rfl
   ·exact Paired.snoc ((nl10.same s11).put hn.1 hLL11) ⟨n5,by rw [Ji7 (Jvj hn.1 hy5' pk hLL11)];exact hy5',pk⟩
  ·rintro σ H' ⟨⟨o5,o6,o7,rfl⟩,c8,hFL8,qs,nss,hLL8,hql,nl8⟩
   exact ⟨_,rfl,k LL qs nss H' c8 hLL0 hLL8 nl8⟩
end
theorem Jv9:∀(Bs:List BTd) (up:Int) (acc acc':List Int) (lk:Option Nat),Jjs Bs up acc=(acc',lk)→(∀x∈acc,0≤x∧x≤12)→(∀x∈acc',0≤x∧x≤12)∧acc'.length≤acc.length+Bs.length:=by
 intro Bs
 induction Bs with
 |nil=>
  intro up acc acc' lk h ha
  cases h
  exact ⟨ha,Nat.le_refl _⟩
 |cons B Bs ih=>
  intro up acc acc' lk h ha
  have h':(match Jjc B up with|none=>(acc,some acc.length)|some u=>Jjs Bs u (acc++ [u]))=(acc',lk):=h
  cases hc:Jjc B up with
  |none=>
   rw [hc] at h'
   cases h'
   exact ⟨ha,by simp⟩
  |some u=>
   rw [hc] at h'
   obtain ⟨h1,h2⟩:=ih u (acc++ [u]) acc' lk h' fun x hx=>(List.mem_append.mp hx).elim (ha x) fun y=>by rw [List.mem_singleton.mp y];exact Jot hc
   refine ⟨h1,?_⟩
   rw [List.length_append] at h2
   simp at h2⊢
   omega
theorem RivAt.but {a:Ad} {p:Addr} {H H':Hp} {r:Addr} {Bs:List BTd} {c:Int} (st:Strm H p) (b:But p H H') (h:RivAt a H r Bs c):RivAt a H' r Bs c:=by
 obtain ⟨dx,q,t,os,h1,h2,h3⟩:=h
 have k:∀d o,(∀x y z:Int,o≠HO.lst [.int x,.int y,.int z])→H d=some o→H' d=some o:=fun d o n e=>b.1 _ _ (Jws st e n) e
 refine ⟨dx,q,t,os,k _ _ (fun _ _ _ z=>by cases z) h1,k _ _ (fun _ _ _ z=>by cases z) h2,Paired.mapP h3 fun o B ⟨dx',g,g1,g0,⟨dy,t',g3,g4⟩,g5⟩=>⟨dx',g,k _ _ (fun _ _ _ z=>by cases z) g1,g0,⟨dy,t',k _ _ (fun _ _ _ z=>by cases z) g3,k _ _ (fun _ _ _ z=>by cases z) g4⟩,g5⟩⟩
theorem Jtw (ns:List Int):PyData.eqv (.list (ns.map PyData.int)) (.list (ns.map PyData.int))=true:=by
 have h:∀l:List Int,PyData.eqvAll (l.map PyData.int) (l.map PyData.int)=true:=by
  intro l
  induction l with
  |nil=>rfl
  |cons c r ih=>simp [PyData.eqvAll,PyData.eqv,ih]
 simp [PyData.eqv,h]
theorem Jpj {z:Str} (hz:PyData.strOk z=true) (ns:List Int):SeqAt.shaped (.tuple [.str z,.list (ns.map PyData.int)])=true:=by
 have e1:∀l:List Int,PyData.canLayAll0 (l.map PyData.int)=true:=by
  intro l
  induction l with
  |nil=>rfl
  |cons c r ih=>simp only [List.map_cons,PyData.canLayAll0,PyData.canLay0,ih,Bool.and_self]
 have e2:∀l:List Int,PyData.depthAll (l.map PyData.int)=0:=by
  intro l
  induction l with
  |nil=>rfl
  |cons c r ih=>simp [PyData.depthAll,PyData.depth,ih]
 simp [SeqAt.shaped,PyData.canLay0,PyData.canLayAll0,PyData.depth,PyData.depthAll,e1 ns,e2,hz]
theorem Jyx (z:Str) (ns:List Int):PyData.eqv (.tuple [.str z,.list (ns.map PyData.int)]) (.tuple [.str z,.list (ns.map PyData.int)])=true:=by
 have h:=Jtw ns
 simp [PyData.eqv,PyData.eqvAll] at h⊢
 exact h
theorem Jyw (z:Str) (i:Int):PyData.eqv (.tuple [.str z,.int i]) (.tuple [.str z,.int i])=true:=by
 simp [PyData.eqv,PyData.eqvAll]
theorem Jpi {z:Str} (hz:PyData.strOk z=true) (i:Int):SeqAt.shaped (.tuple [.str z,.int i])=true:=by
 simp [SeqAt.shaped,PyData.canLay0,PyData.canLayAll0,PyData.depth,PyData.depthAll,hz]
theorem Jyv (b:Bool):PyData.eqv (.bool b) (.bool b)=true:=by cases b <;> rfl
def Y5 (a:Ad):Sp:=fun vs H Q _=>∃(r L p:Addr) (ts:List Addr) (Bs:List BTd) (c:Int),vs= [.ref r,.ref L,.ref p]∧H a.Jhz=some (.tbl lb_lost_alone)∧RivAt a H r Bs c∧RGd Bs∧H L=some (.lst (ts.map V.ref))∧L≠p∧TldL p H ts Bs∧Strm H p∧a.Jhz≠p∧∀H',But p H H'→Q (.bl true) H'
section
variable {P:Program} {w:World} {K:W.Frag} {mg:Str→Option Value} {base:Heap} {a:Ad}
theorem sc_law_right:Jia ["_law_river_here","_law_told_here","_law_stream_here","_law_least_here","_law_lack","_law_turn","_law_found","_law_numbers","_law_handed","_law_less"] ["_law_river_here","_law_told_here","_law_stream_here"] (Ji5 (top 78)):=⟨rfl,rfl,rfl,by decide +kernel,rfl,by decide +kernel,by decide +kernel⟩
theorem Jt9 (T:Tx K mg a) (Bm:Bmn mg base):FnOk P w K mg base CX0 10 a.Jh5 a.Jh6 ["_law_river_here","_law_told_here","_law_stream_here"] (Y5 a):=by
 have G__law_least:=Jt6 (P:=P) (w:=w) (base:=base) T
 have G__law_told:=Jub (P:=P) (w:=w) T Bm
 have G__law_lists:=Jt7 (P:=P) (w:=w) (base:=base) T
 have G_are_promises:=Jpp (P:=P) (w:=w) T Bm
 have G__law_are:=Jvl (P:=P) (w:=w) (base:=base) T
 refine T.Ja5.fn.ok sc_law_right (fun vs H Q E h=>?_) (fun cdv A outer s H vs Q E hr h=>?_)
 ·obtain ⟨r,L,p,ts,Bs,c,rfl,_⟩:=h
  rfl
 ·obtain ⟨r,L,p,ts,Bs,c,rfl,htb,rv,rg,hL,nL,tl,st,ntb,k⟩:=h
  have hu64:=Jm0 hr
  have l16:=rg.len
  have lts:=Paired.length tl
  refine ⟨?t,?B,?C⟩
  case B=>
   refine' Ji3 ?s1 ?r1
   case s1=>
    exact (Jtf (Ji9 T.Ja1 G__law_least hr (by decide) (Ji0 (pv 1) Ji2)) (Jtd rfl (Jjj (Jie (i:=3) sc_law_right.nd rfl (Or.inr rfl)) (Jjj (Jie (i:=4) sc_law_right.nd rfl (Or.inl rfl)) Jmy))))
   case r1=>
    refine' Ji3 ?s4 ?r4
    case s4=>
     refine' Jk2 ?f5_0 ?f5_1 ?f5_2 ?f5_3 ?f5_4
     case f5_0=>
      exact PassesOwn.never
     case f5_1=>
      exact rfl
     case f5_2=>
      exact (Jix (by rfl) T.Jas (Ji0 Ji6 Ji2))
     case f5_3=>
      exact (Jie (i:=5) sc_law_right.nd rfl (Or.inl rfl))
     case f5_4=>
      refine' Ji3 ?s6 ?r6
      case s6=>
       exact (Jik (i:=6) sc_law_right.nd rfl (Or.inl rfl) (Ji9 T.Ja3 G__law_told hr (by decide) (Ji0 (pv 0) Ji2)))
      case r6=>
       refine' Ji4 ?s8
       case s8=>
        refine' Jis ?c9 ?a9 ?b9
        case c9=>
         exact (Jim Jtc (pv 4) Jk1 (Jio _))
        case a9=>
         refine' Ji4 ?s10
         case s10=>
          refine' Jis ?c11 ?a11 ?b11
          case c11=>
           exact (PW.pt (Jo9 (Jim (Jnp hu64) (pv 6) (Jke (Ji0 Jji (Ji0 (pv 4) Ji2))) (Jio _)) (Jmk (Jiv (Jic Jkv (by rfl) T.Jan Jip (Ji0 (Jin Jj9 (pv 6) Ji6 (fun _ _=>rfl)) (Ji0 (Jjy (v:=.ty "bool") (by rfl) T.Jaj Jpr rfl) Ji2)))))))
          case a11=>
           refine' Ji4 ?s12
           case s12=>
            exact (Jib Jjt)
          case b11=>
           exact Jih
        case b9=>
         refine' Ji3 ?s16 ?r16
         case s16=>
          refine' Jis ?c17 ?a17 ?b17
          case c17=>
           exact (PW.pt (Jo9 (Jim (Jnp hu64) (pv 6) (Jke (Ji0 Jji (Ji0 (pv 3) Ji2))) (Jio _)) (Jmk (Jim (Jnp hu64) (Jj2 (N:=(["_law_one"]:List Str)) (ini:=[none]) rfl (Jj7 (Jin Jj9 (pv 6) Ji6 (fun _ _=>rfl))) (fun _ _ _ _ _=>(Jie (i:=0) (by decide +kernel:(["_law_one"]:List Str).Nodup) rfl (Or.inl rfl))) (fun _ _ _ _ _=>(Jkr (Jiv (Jic (Joo (K:=K) rfl) (by rfl) T.Jan Jip (Ji0 (pv 0) (Ji0 (Jjy (v:=.ty "bool") (by rfl) T.Jaj Jpr rfl) Ji2)))))) (fun _ _ _ _ _=>(pv 0))) (Jiu Ji2) (Jio _)))))
          case a17=>
           refine' Ji4 ?s18
           case s18=>
            exact (Jib Jjt)
          case b17=>
           exact Jih
         case r16=>
          refine' Ji4 ?s22
          case s22=>
           exact (Jk7 (Jph F.plainAttrs_list F.slot_list_append F.type_list_append Jjx (Jin Jj9 (pv 6) Ji6 (fun _ _=>rfl)) (Ji0 Ji6 Ji2)))
    case r4=>
     refine' Ji3 ?s24 ?r24
     case s24=>
      refine' Jk2 ?f25_0 ?f25_1 ?f25_2 ?f25_3 ?f25_4
      case f25_0=>
       exact PassesOwn.never
      case f25_1=>
       exact rfl
      case f25_2=>
       exact (Jj7 (Ji9 T.Ja4 G__law_lists hr (by decide) (Ji0 (pv 2) (Ji0 (pv 3) (Ji0 (Jic Jil (by rfl) T.Jao Jjg (Ji0 (pv 1) Ji2)) Ji2)))))
      case f25_3=>
       exact (Jie (i:=7) sc_law_right.nd rfl (Or.inr rfl))
      case f25_4=>
       refine' Ji3 ?s26 ?r26
       case s26=>
        exact (Jik (i:=8) sc_law_right.nd rfl (Or.inl rfl) (Jj6 Jsq (by rfl) T.Jap Jmu (Ji0 (pv 7) Ji2)))
       case r26=>
        refine' Ji3 ?s28 ?r28
        case s28=>
         exact (Jik (i:=6) sc_law_right.nd rfl (Or.inl rfl) (Ji9 T.Jf G_are_promises hr (by decide) (Ji0 (pv 0) (Ji0 (pv 8) Ji2))))
        case r28=>
         refine' Ji3 ?s30 ?r30
         case s30=>
          refine' Jis ?c31 ?a31 ?b31
          case c31=>
           exact (PW.pt (Jo9 (Jj4 (Jiv (Jic Jkv (by rfl) T.Jan Jip (Ji0 (pv 6) (Ji0 (Jjy (v:=.ty "bool") (by rfl) T.Jaj Jpr rfl) Ji2))))) (Jo9 (Jim (Jnp hu64) (pv 6) (Ji9 T.Ja2 G__law_are hr (by decide) (Ji0 (pv 1) (Ji0 (pv 7) Ji2))) (Jio _)) (Jmk (Jim (Jnp hu64) (pv 8) (pv 7) (Jio _))))))
          case a31=>
           refine' Ji4 ?s32
           case s32=>
            exact (Jib Jjt)
          case b31=>
           exact Jih
         case r30=>
          refine' Ji3 ?s36 ?r36
          case s36=>
           refine' Jis ?c37 ?a37 ?b37
           case c37=>
            exact (PW.pt (Jqs (Jqr (pv 6) (fun _=>rfl)) (Jo8 (Jim Jtc (pv 4) Jk1 (Jio _)))))
           case a37=>
            refine' Ji4 ?s38
            case s38=>
             exact (Jib Jjt)
           case b37=>
            exact Jih
          case r36=>
           refine' Ji3 ?s42 ?r42
           case s42=>
            exact (Jks (i:=9) (N:=(["_law_place","_law_numbers","_law_least_here"]:List Str)) (ini:=[none,some 7,some 3]) sc_law_right.nd rfl (Or.inl rfl) rfl (Jix (by rfl) T.Jas (Ji0 (Jic Jil (by rfl) T.Jao Jjg (Ji0 (pv 3) Ji2)) Ji2)) (fun _ _ _ _ _=>(Jie (i:=0) (by decide +kernel:(["_law_place","_law_numbers","_law_least_here"]:List Str).Nodup) rfl (Or.inl rfl))) (fun _ _ _ _ _=>(Jkr (Jim Jze (Jin (Jlt (K:=K) rfl) (pv 1) (pv 0) (fun _ _=>rfl)) (Jin (Jlt (K:=K) rfl) (pv 2) (pv 0) (fun _ _=>rfl)) (Jio _)))) (fun _ _ _ _ _=>(pv 0)))
           case r42=>
            refine' Ji4 ?s44
            case s44=>
             refine' Jis ?c45 ?a45 ?b45
             case c45=>
              exact (PW.pt (Jqs (Jqr (pv 6) (fun _=>rfl)) (Jo8 (Jim (Jnp hu64) (pv 9) (Jiu Ji2) (Jio _)))))
             case a45=>
              refine' Ji4 ?s46
              case s46=>
               exact (Jib Jjt)
             case b45=>
              exact Jih
     case r24=>
      refine' Ji4 ?s50
      case s50=>
       exact (Jib Jjt)
  refine ⟨_,rfl,L,ts,Bs,rfl,hL,tl.s,rg,fun acc lk elr t G0 H1 s1 hG0 ht hG=>⟨t,_,rfl,SqT.of ht,rfl,_,_,rfl,_,_,rfl,rfl,?_⟩⟩
  obtain ⟨ab,al⟩:=Jv9 Bs 0 [] acc lk elr fun x h=>nomatch h
  have al':acc.length≤Bs.length:=by simpa using al
  have nG:G0≠p:=st.ne hG0
  refine ⟨2,rfl,by decide,by decide,?_⟩
  refine Jjw (lo:=0) (fun i σ H'=>(∃o5 o6 o7 o8 o9,σ= [some (.ref r),some (.ref L),some (.ref p),some (.ref G0),some (Jwr lk),o5,o6,o7,o8,o9])∧Same H1 H') ⟨⟨_,_,_,_,_,rfl⟩,Same.refl _⟩ ?_ ?_
  ·rintro i σ H2 _ ⟨⟨o5,o6,o7,o8,o9,rfl⟩,s2⟩
   have s02:=s1.trans s2
   refine ⟨_,rfl,r,Bs,c,rfl,s02 _ _ htb,rv.same s02,rg,fun acc2 e2 t2 N H3 s3 hN0 ht2 hN=>?_,fun acc2 k2 e2 t2 H3 s3 ht2=>?_⟩
   ·rw [elr] at e2
    cases e2
    refine ⟨_,rfl,rfl,_,rfl,ifF (by rfl) ?_⟩
    refine ⟨_,rfl,_,rfl,(show 2≤sizeLine by decide),fun T2 hT2=>?_⟩
    have q1:=Same.upd (o:=.tup [.str "told",.ref G0]) hT2
    have hG3:=q1 _ _ (s3 _ _ (s2 _ _ hG))
    refine ⟨_,_,.tup (SqT.of (q1 _ _ ht2)) (.cons (.str _) (.cons (.lst (SqL.of (q1 _ _ hN)) (Jkw acc)) .nil)),.tup (SqT.of Ji1) (.cons (.str _) (.cons (.lst (SqL.of hG3) (Jkw acc)) .nil)),Jpj (by decide +kernel) _,Jpj (by decide +kernel) _,_,rfl,?_⟩
    rw [if_pos rfl,Jyx]
    refine Jj0 ?_
    have ht3:=q1 _ _ ht2
    have hN3:=q1 _ _ hN
    refine ⟨_,rfl,t2,_,1,_,rfl,rfl,SqT.of ht3,rfl,N,rfl,⟨_,SqL.of hN3⟩,fun G hG'=>?_⟩
    refine Jjb (K:=K) (xs:=acc.map V.int) (fun j σ H5=>(∃o,σ= [o])∧Same (upd H3 T2 (.tup [.str "told",.ref G0])) H5∧H5 G=some (.lst [])) ⟨⟨_,rfl⟩,Same.upd hG',Ji1⟩ (fun j σ H5 _ ⟨_,s5,_⟩=>SqL.of (s5 _ _ hN3)) ?_ ?_
    ·rintro j x σ H5 hx ⟨⟨o1,rfl⟩,s5,hG5⟩
     rw [List.getElem?_map] at hx
     obtain ⟨z,hz,rfl⟩:=Option.map_eq_some_iff.mp hx
     exact ⟨_,rfl,_,_,_,.type "int",false,rfl,rfl,.of (.int z),rfl,_,rfl,Jj0 ⟨⟨_,rfl⟩,s5,hG5⟩⟩
    rintro σ5 H5 ⟨_,s5,hG5⟩
    refine ⟨(show 0≤sizeLine by decide),fun E hE=>⟨_,_,.lst (SqL.of (Same.upd hE _ _ hG5)) .nil,.lst (SqL.of Ji1) .nil,rfl,rfl,_,rfl,?_⟩⟩
    have s5E:=s5.trans (Same.upd (o:=.lst []) hE)
    rw [if_pos rfl]
    refine Jj0 ?_
    have ht6:=s5E _ _ ht3
    have hN6:=s5E _ _ hN3
    refine ⟨_,rfl,t2,_,1,_,rfl,rfl,SqT.of ht6,rfl,.inl ⟨rfl,_,SqL.of hN6⟩,N,_,_,rfl,rfl,hN6,?_,⟨_,_,_,_,_,rfl⟩,?_⟩
    ·rw [List.length_map]
     exact Jii (by omega)
    ·intro c2 o' z
     rw [Ji7 (Ji8 (s2 _ _ z) hN0)]
     exact s5E _ _ (q1 _ _ (s3 _ _ (s2 _ _ z)))
   ·rw [elr] at e2
    cases e2
    refine ⟨_,rfl,rfl,_,rfl,ifT (by rfl) ?_⟩
    refine ⟨_,rfl,_,rfl,(show 2≤sizeLine by decide),fun T2 hT2=>?_⟩
    have q1:=Same.upd (o:=.tup [.str "none",.int (k2:Nat)]) hT2
    refine ⟨_,_,.tup (SqT.of (q1 _ _ ht2)) (.cons (.str _) (.cons (.int _) .nil)),.tup (SqT.of Ji1) (.cons (.str _) (.cons (.int _) .nil)),Jpi (by decide +kernel) _,Jpi (by decide +kernel) _,_,rfl,?_⟩
    rw [if_pos rfl,Jyw]
    refine Jj0 ?_
    refine ⟨_,rfl,t2,_,1,_,rfl,rfl,SqT.of (q1 _ _ ht2),rfl,_,_,_,.type "int",false,rfl,rfl,.of (.int _),rfl,_,rfl,Jj0 ?_⟩
    exact ⟨⟨_,_,_,_,_,rfl⟩,(s2.trans s3).trans q1⟩
  rintro σ2 H2 ⟨⟨o5,o6,o7,o8,o9,rfl⟩,s2⟩
  have s02:=s1.trans s2
  have st2:=st.same s02
  refine ⟨_,rfl,_,rfl,_,rfl,L,_,rfl,.inl (SqL.of (s02 _ _ hL)),p,G0,acc,(ts.map V.ref).length,rfl,st2,nG,s2 _ _ hG,by rw [List.length_map];omega,by rw [List.length_map];omega,ab,fun LL qs nss H3 b3 hLL0 hLL nl=>⟨LL,rfl,⟨_,SqL.of hLL⟩,?_⟩⟩
  have en:(ts.map V.ref).length=Bs.length:=by rw [List.length_map,lts]
  have b03:But p H H3:=((But.refl st).same s02).trans b3
  have rv3:=(rv.same s02).but st2 b3
  have htb3:=b3.1 _ _ ntb (s02 _ _ htb)
  have hL3:=b3.1 _ _ nL (s02 _ _ hL)
  have td3:=((tl.same s02).but st2 b3).s
  have hG3:=b3.1 _ _ nG (s2 _ _ hG)
  refine Jma (K:=K) (xs:=qs.map V.ref) (fun i σ H'=>(∃o5 o6 o7 o8 o9,σ= [some (.ref r),some (.ref L),some (.ref p),some (.ref G0),some (Jwr lk),o5,o6,o7,o8,o9])∧Same H3 H') ⟨⟨_,_,_,_,_,rfl⟩,Same.refl _⟩ (fun i σ H' _ ⟨_,sm⟩=>SqL.of (sm _ _ hLL)) ?_ ?_
  ·rintro i x σ H4 hx ⟨⟨o5,o6,o7,o8,o9,rfl⟩,s4⟩
   rw [List.getElem?_map] at hx
   obtain ⟨q,hq,rfl⟩:=Option.map_eq_some_iff.mp hx
   obtain ⟨ns,hns,nqp,hqn,ng⟩:=Jjm nl hq
   rw [en] at ng
   have nl':=ng.1
   have hq4:=s4 _ _ hqn
   refine ⟨_,rfl,q,_,rfl,.inl (SqL.of hq4),fun h hh=>?_⟩
   have q5:=Same.upd (o:=.lst (ns.map V.int)) hh
   have s5:=s4.trans q5
   refine ⟨_,rfl,_,rfl,r,h,Bs,c,ns,rfl,s5 _ _ htb3,rv3.same s5,rg,Ji1,ng,fun H6 s6=>?_⟩
   have s36:=s5.trans s6
   have hh6:=s6 _ _ (Ji1 (H:=H4) (a:=h) (o:=.lst (ns.map V.int)))
   refine ⟨_,rfl,_,_,_,.type "bool",true,rfl,rfl,.of (.bl _),rfl,_,rfl,Jj0 ?_⟩
   refine ⟨_,rfl,_,rfl,_,rfl,L,q,ts,Bs,ns,rfl,s36 _ _ hL3,td3.same s36,rg,s36 _ _ hqn,ng,fun H7 s7=>⟨_,_,.bl _,.bl _,rfl,rfl,_,rfl,?_⟩⟩
   rw [if_pos rfl,Jyv]
   refine Jj0 ?_
   have s37:=s36.trans s7
   refine ⟨_,rfl,_,rfl,_,_,.lst (SqL.of (s7 _ _ hh6)) (Jkw ns),.lst (SqL.of (s37 _ _ hqn)) (Jkw ns),Jkg _,Jkg _,_,rfl,?_⟩
   rw [if_pos rfl,Jtw]
   refine Jj0 ?_
   have hG7:=s37 _ _ hG3
   have low:=fun e=>Jxu rg ng e elr
   generalize Joi Bs ns=ap at low
   unfold tNext
   dsimp only
   refine Jpt (fun σ H8=>σ= [some (.ref r),some (.ref L),some (.ref p),some (.ref G0),some (Jwr lk),o5,some (.bl ap),some (.ref q),some (.ref h),o9]∧H8=H7) (fun R hR=>?_) ?_
   ·refine ⟨_,rfl,ap,rfl,?_⟩
    cases ap with
    |false=>exact Jj0 (Jj0 (hR _ _ ⟨rfl,rfl⟩))
    |true=>
     obtain ⟨rfl,_⟩:=low rfl
     refine Jk0 ⟨_,rfl,rfl,_,rfl,ifF (by rfl) (hR _ _ ⟨rfl,rfl⟩)⟩
   rintro σ H8 ⟨rfl,rfl⟩
   refine ⟨_,rfl,G0,_,rfl,.inl (SqL.of hG7),_,rfl,by rw [List.length_map];omega,by rw [List.length_map];omega,fun D hD=>?_⟩
   refine Jjk (lo:=0) (fun j σ H9=>(∃o,σ= [o,some (.ref q),some (.ref G0)])∧Same H8 H9∧∃xs:List Int,H9 D=some (.lst (xs.map V.int))∧xs.length≤j∧(ap=true→xs= [])) ⟨⟨_,rfl⟩,Same.upd hD,[],Ji1,Nat.le_refl _,fun _=>rfl⟩ ?_ ?_
   ·rintro j σ H9 hj ⟨⟨o1,rfl⟩,s9,xs,hD9,xl,xe⟩
    have hj2:j < acc.length:=by simpa using hj
    have zj:(0+(j:Int))=j:=by omega
    rw [zj]
    obtain ⟨a1,_⟩:=Jkp (ns:=ns) (s:=(j:Int)) ⟨by omega,by omega⟩
    obtain ⟨a2,_⟩:=Jkp (ns:=acc) (s:=(j:Int)) ⟨by omega,by omega⟩
    rw [Int.toNat_natCast] at a1 a2
    refine ⟨_,rfl,_,rfl,q,_,(j:Int),_,rfl,rfl,SqL.of (s9 _ _ (s37 _ _ hqn)),a1,_,rfl,_,rfl,G0,_,(j:Int),_,rfl,rfl,SqL.of (s9 _ _ hG7),a2,_,_,rfl,rfl,_,rfl,?_⟩
    refine Jl9 (fun e=>?_) (fun e=>?_)
    ·have e':=of_decide_eq_true e
     refine ⟨_,rfl,_,hD9,?_,⟨_,rfl⟩,?_,xs++ [(j:Int)],?_,?_,fun ea=>absurd e' ((low ea).2 j hj2)⟩
     ·rw [List.length_map]
      exact Jii (by omega)
     ·intro c2 o' z
      rw [Ji7 (Ji8 z hD)]
      exact s9 _ _ z
     ·rw [Ji1,List.map_append]
      rfl
     ·rw [List.length_append]
      simp
      omega
    ·exact ⟨⟨_,rfl⟩,s9,xs,hD9,by omega,xe⟩
   rintro σ9 H9 ⟨_,s9,xs,hD9,_,xe⟩
   refine ⟨_,rfl,ap,rfl,?_⟩
   cases ap with
   |false=>exact Jj0 (Jj0 ⟨⟨_,_,_,_,_,rfl⟩,s37.trans s9⟩)
   |true=>
    have ex:=xe rfl
    subst ex
    refine Jk0 ⟨_,rfl,(show 0≤sizeLine by decide),fun E hE=>⟨_,_,.lst (SqL.of (Same.upd hE _ _ hD9)) .nil,.lst (SqL.of Ji1) .nil,rfl,rfl,_,rfl,?_⟩⟩
    rw [if_pos rfl]
    exact Jj0 ⟨⟨_,_,_,_,_,rfl⟩,(s37.trans s9).trans (Same.upd hE)⟩
  ·rintro σ H4 ⟨⟨o5,o6,o7,o8,o9,rfl⟩,s4⟩
   exact k _ (b03.same s4)
end
theorem BX.put {a:Ad} {H:Hp} {o D:Addr} {B:BTd} {xs:List V} {u:HO} (hD:H D=some (.lst xs)) (h:BX a H o B):BX a (upd H D u) o B:=by
 obtain ⟨dx,g,h1,g0,⟨dy,t,h3,h4⟩,h5⟩:=h
 have n:∀{b:Addr} {v:HO},H b=some v→(∀ys,v≠ .lst ys)→(upd H D u) b=some v:=fun e ne=>by
  rw [Ji7 fun z=>?_]
  ·exact e
  ·rw [z,hD] at e
   exact ne _ (Option.some.inj e).symm
 exact ⟨dx,g,n h1 (fun _ z=>by cases z),g0,⟨dy,t,n h3 (fun _ z=>by cases z),n h4 (fun _ z=>by cases z)⟩,h5⟩
theorem bas_of {K:W.Frag} {a:Ad} {H:Hp} {os:List Addr} {Bs:List BTd} (h:Paired (fun o B=>BX a H o B) os Bs):(∀B∈Bs,TGd B)→∃Cs:List Bsn,BasL K a H os Cs∧Cs.map (·.z)=Bs.map (·.z)∧Cs.length=Bs.length:=by
 induction h with
 |nil=>intro _;exact ⟨[],trivial,rfl,rfl⟩
 | @cons o B os Bs h t ih=>
  intro tg
  obtain ⟨Cs,c1,c2,c3⟩:=ih fun B' hB'=>tg B' (List.mem_cons_of_mem _ hB')
  obtain ⟨dx,g,h1,gx⟩:=h
  exact ⟨⟨B.z,B.lo,B.hi,B.st,B.rn,g,nOf B.G⟩::Cs,⟨⟨dx,h1,gx.gs (tg B (List.mem_cons_self ..)).b.G⟩,c1⟩,by simp [c2],by simp [c3]⟩
def spLaw (K:W.Frag) (a:Ad):Sp:=fun vs H Q _=>∃(x:Addr) (ns:List Int),vs= [.ref x]∧SqL K H x (ns.map V.int)∧ns.length≤63∧H a.Jhz=some (.tbl lb_lost_alone)∧∀H',Q (.bl true) H'
section
variable {P:Program} {w:World} {K:W.Frag} {mg:Str→Option Value} {base:Heap} {a:Ad}
theorem sc_law:Jia ["_law_script","_law_k","_law_stream_here","_law_told_here","_law_river_here"] ["_law_script"] (Ji5 (top 79)):=⟨rfl,rfl,rfl,by decide +kernel,rfl,by decide +kernel,by decide +kernel⟩
theorem ok_law (T:Tx K mg a) (B:Bmn mg base):FnOk P w K mg base CX0 11 a.a_law a.d_law ["_law_script"] (spLaw K a):=by
 have G__law_cell:=Ju5 (P:=P) (w:=w) (base:=base) T
 have G__law_stream:=Jrg (P:=P) (w:=w) (base:=base) T
 have G__law_take:=Jk9 (P:=P) (w:=w) (base:=base) T
 have G__law_river:=Jta (P:=P) (w:=w) (base:=base) T
 have G__law_made:=Jua (P:=P) (w:=w) (base:=base) T
 have G_River___init__:=Jra (P:=P) (w:=w) (base:=base) T
 have G__law_right:=Jt9 (P:=P) (w:=w) T B
 refine T.f_law.fn.ok sc_law (fun vs H Q E h=>?_) (fun cdv A outer s H vs Q E hr h=>?_)
 ·obtain ⟨x,ns,rfl,_⟩:=h
  rfl
 ·obtain ⟨x,ns,rfl,hS,hl,htb,k⟩:=h
  refine ⟨?t,?B,?C⟩
  case B=>
   refine' Ji3 ?s1 ?r1
   case s1=>
    refine' Jk2 ?f2_0 ?f2_1 ?f2_2 ?f2_3 ?f2_4
    case f2_0=>
     exact PassesOwn.never
    case f2_1=>
     exact rfl
    case f2_2=>
     exact (Jix (by rfl) T.Jas (Ji0 (Jic (Jl6 rfl) (by rfl) T.Jaq Jom (Ji0 Ji6 (Ji0 (Jic (Jmw rfl) (by rfl) T.Jar Jso (Ji0 Ji6 (Ji0 (Jic Jil (by rfl) T.Jao Jjg (Ji0 (pv 0) Ji2)) Ji2))) Ji2))) Ji2))
    case f2_3=>
     exact (Jie (i:=1) sc_law.nd rfl (Or.inl rfl))
    case f2_4=>
     refine' Ji3 ?s3 ?r3
     case s3=>
      exact (Jik (i:=2) sc_law.nd rfl (Or.inl rfl) (Ji9 T.Jp G__law_stream hr (by decide) (Ji0 (Ji9 T.Jo G__law_cell hr (by decide) (Ji0 (pv 0) (Ji0 (pv 1) Ji2))) Ji2)))
     case r3=>
      refine' Ji3 ?s5 ?r5
      case s5=>
       exact (Jik (i:=3) sc_law.nd rfl (Or.inl rfl) (Ji9 T.Jz G__law_river hr (by decide) (Ji0 (pv 2) Ji2)))
      case r5=>
       refine' Ji3 ?s7 ?r7
       case s7=>
        exact (Jik (i:=4) sc_law.nd rfl (Or.inl rfl) (Jo4 T.Jd7 G_River___init__.calm (hr.mono (by decide)) (by rfl) T.Jbb T.Jbu.bd .nil Jpg (pa4 (Ji9 T.Jq G__law_take hr (by decide) (Ji0 (pv 2) (Ji0 Ji6 Ji2))) Ji6 (Jj2 (N:=(["_law_one"]:List Str)) (ini:=[none]) rfl (Jj7 (pv 3)) (fun _ _ _ _ _=>(Jie (i:=0) (by decide +kernel:(["_law_one"]:List Str).Nodup) rfl (Or.inl rfl))) (fun _ _ _ _ _=>Jj3) (fun _ _ _ _ _=>(Ji9 T.Ju G__law_made hr (by decide) (Ji0 (pv 0) Ji2)))) (Jiu Ji2))))
       case r7=>
        refine' Ji4 ?s9
        case s9=>
         refine' Jis ?c10 ?a10 ?b10
         case c10=>
          exact (Jj4 (Jiv (Ji9 T.Ja5 G__law_right hr (by decide) (Ji0 (pv 4) (Ji0 (pv 3) (Ji0 (pv 2) Ji2))))))
         case a10=>
          refine' Ji4 ?s11
          case s11=>
           exact (Jib Jjt)
         case b10=>
          exact Jih
   case r1=>
    refine' Ji4 ?s15
    case s15=>
     exact (Jib Jjt)
  refine ⟨_,rfl,x,_,rfl,.inl hS,_,_,rfl,_,_,rfl,_,rfl,?_,?_,?_⟩
  ·split <;> split <;> omega
  ·rw [List.length_map]
   split <;> split <;> omega
  refine Jjw (lo:=0) (fun i σ H'=>(∃o1 o2 o3 o4,σ= [some (.ref x),o1,o2,o3,o4])∧Same H H') ⟨⟨_,_,_,_,rfl⟩,Same.refl _⟩ ?_ ?_
  ·rintro i σ H0 _ ⟨⟨o1,o2,o3,o4,rfl⟩,s0⟩
   refine ⟨_,rfl,_,rfl,x,ns,0+i,by simp,s0.seq hS,fun cl=>⟨cl,rfl,fun p H1 hp s1 st=>?_⟩⟩
   have hp0:H p=none:=by
    cases hc:H p with
    |none=>rfl
    |some u=>rw [s0 _ _ hc] at hp;cases hp
   have done:∀{H':Hp},But p H1 H'→Same H H':=fun b c o z=>b.1 _ _ (Ji8 z hp0) (s1 _ _ (s0 _ _ z))
   have ntb:a.Jhz≠p:=Ji8 htb hp0
   refine ⟨_,rfl,p,rfl,st,fun L ts Bs H2 b2 hL0 hL tl rg nz=>?_⟩
   have nL:L≠p:=st.ne hL0
   have lts:=Paired.length tl
   have l16:=rg.len
   refine ⟨_,rfl,p,13,rfl,b2.2,by decide,by decide,fun c H3 c0 c1 b3=>?_⟩
   have d3:=b2.trans b3
   have hL3:=b3.1 _ _ nL hL
   have tl3:=tl.but b2.2 b3
   refine ⟨_,rfl,L,rfl,⟨_,SqL.of hL3⟩,fun D hD=>?_⟩
   refine Jjb (K:=K) (xs:=ts.map V.ref) (fun j σ H'=>(∃o,σ= [o])∧Same H3 H'∧∃os:List Addr,H' D=some (.lst (os.map V.ref))∧Paired (fun o B=>BX a H' o B) os (Bs.take j)) ⟨⟨_,rfl⟩,Same.upd hD,[],Ji1,.nil⟩ (fun j σ H' _ ⟨_,sm,_⟩=>SqL.of (sm _ _ hL3)) ?_ ?_
   ·rintro j y σ H' hy ⟨⟨o,rfl⟩,sm,os,hDs,po⟩
    rw [List.getElem?_map] at hy
    obtain ⟨t,ht,rfl⟩:=Option.map_eq_some_iff.mp hy
    obtain ⟨C,hC,tC⟩:=Jjm tl3.s ht
    have jl:j < Bs.length:=(List.getElem?_eq_some_iff.mp hC).1
    have tg:=rg.all C (List.mem_of_getElem? hC)
    refine Jj5 ⟨_,rfl,t,C,rfl,tC.same sm,tg,fun ob H5 s5 bx=>?_⟩
    have hD5:=s5 _ _ hDs
    have ol:os.length=j:=by
     have:=Paired.length po
     rw [List.length_take] at this
     omega
    refine ⟨_,hD5,?_,⟨_,rfl⟩,?_,os++ [ob],?_,?_⟩
    ·rw [List.length_map]
     exact Jii (by omega)
    ·intro c2 o' z
     rw [Ji7 (Ji8 z hD)]
     exact s5 _ _ (sm _ _ z)
    ·rw [Ji1,List.map_append]
     rfl
    ·rw [List.take_add_one,hC]
     exact Paired.snoc (Paired.mapP po fun _ _ q=>(q.same s5).put hD5) (bx.put hD5)
   rintro σ4 H4 ⟨_,s4,os,hDs,po⟩
   rw [List.length_map,List.take_of_length_le (by omega)] at po
   refine ⟨(show 0≤sizeLine by decide),fun M hM=>?_⟩
   have q5:=Same.upd (o:=.lst []) hM
   intro y dy hy hdy ne
   have sn:Same (upd H4 M (.lst [])) (upd (upd (upd H4 M (.lst [])) dy (.own y)) y (.ins a.Jhx dy [])):=fun b o e=>by rw [Ji7 (Ji8 e hy),Ji7 (Ji8 e hdy)];exact e
   have s45:=q5.trans sn
   obtain ⟨Cs,bl,cz,cl'⟩:=bas_of (K:=K) (Paired.mapP po fun _ _ q=>q.same s45) rg.all
   refine ⟨y,dy,D,M,c,0,os,[],Cs,[],rfl,Ji1,⟨c0,by omega⟩,⟨by decide,c0⟩,s45 _ _ hDs,bl,by omega,by rw [cz];exact nz,sn _ _ Ji1,trivial,by simp,List.nodup_nil,(fun t h=>nomatch h),fun H6 b t s6 hb ht nb nt=>⟨rfl,?_⟩⟩
   have s46:Same H4 (upd H6 y (.ins a.Jhx dy (rivF (.int c) (.int 0) (.ref b) (.ref t)))):=fun d o e=>by
    rw [Ji7 (Ji8 (q5 _ _ e) hy)]
    exact s6 _ _ (s45 _ _ e)
   have rv:RivAt a (upd H6 y (.ins a.Jhx dy (rivF (.int c) (.int 0) (.ref b) (.ref t)))) y Bs c:=⟨dy,b,t,os,Ji1,by rw [Ji7 nb];exact hb,Paired.mapP po fun _ _ q=>q.same s46⟩
   have d6:=(d3.same s4).same s46
   have s36:=s4.trans s46
   refine ⟨_,rfl,_,rfl,_,rfl,y,L,p,ts,Bs,c,rfl,done d6 _ _ htb,rv,rg,s36 _ _ hL3,nL,tl3.same s36,d6.2,ntb,fun H7 b7=>⟨_,rfl,Jj0 ⟨⟨_,_,_,_,rfl⟩,done (d6.trans b7)⟩⟩⟩
  ·rintro σ H' _
   exact k _
end
theorem tx_mk {K:W.Frag} {mg:Str→Option Value} {f1 f2 f3 f5 f6 f7 f8 f9 f10 f11 f12 f13 f14 f15 f16 f17 f18 f19 f20 f21 f22 f23 f24 f25 f26 f27 f28 f30 f31 f32 f33 f35 f36 f37 f39 f40 f41 f43 f44 f46 f47 f48 f49 f51 f52 f53 f54 f55 f56 f57 f58 f59 f60 f61 f62 f63 f64 f65 f66 f67 f68 f69 f70 C0 C1 C2 C3 C4 C5 C6 C7 C8 C9 C10 C11 C12 C13 C14 C15 nc18 np18:Addr} {d1 d2 d3 d5 d6 d7 d8 d9 d10 d11 d12 d13 d14 d15 d16 d17 d18 d19 d20 d21 d22 d23 d24 d25 d26 d27 d28 d30 d31 d32 d33 d35 d36 d37 d39 d40 d41 d43 d44 d46 d47 d48 d49 d51 d52 d53 d54 d55 d56 d57 d58 d59 d60 d61 d62 d63 d64 d65 d66 d67 d68 d69 d70:FuncData} {t0 t1 t2 t3 t4 t5 t6 t7 t8 t9 t10:Tok}
(p0:FT K mg "is_whole" (top 14) ["thing","low","high"] f9 d9)
(p1:FT K mg "is_made_of" (top 15) ["text","signs"] f10 d10)
(p2:FT K mg "is_name" (top 16) ["thing"] f11 d11)
(p3:FT K mg "found_by_rounds" (top 18) ["many","comes"] f12 d12)
(p4:FT K mg "is_safe" (top 19) ["ends","lost"] f13 d13)
(p5:FT K mg "is_promised" (top 22) ["thing"] f14 d14)
(p6:FT K mg "levels_of" (top 23) ["basin"] f15 d15)
(p7:FT K mg "ends_alone" (top 24) ["basin","up","level","setting"] f16 d16)
(p8:FT K mg "ends_by_setting" (top 25) ["basin","up","hi","level"] f17 d17)
(p9:FT K mg "lost_alone" (top 26) ["ways"] f18 d18)
(p10:FT K mg "settings_alone" (top 27) ["basin","up","hi"] f19 d19)
(p11:FT K mg "first_safe" (top 28) ["by_setting","lost"] f20 d20)
(p12:FT K mg "are_numbers" (top 29) ["river","thing"] f21 d21)
(p13:FT K mg "settings_by" (top 30) ["river","numbers"] f22 d22)
(p14:FT K mg "first_lost" (top 31) ["levels","by_basin"] f23 d23)
(p15:FT K mg "are_promises" (top 32) ["river","numbers"] f24 d24)
(p16:FT K mg "least_promise" (top 33) ["basin","up"] f25 d25)
(p17:FT K mg "promises" (top 34) ["river"] f26 d26)
(p18:FT K mg "are_marks" (top 39) ["thing","lowest"] f27 d27)
(p19:FT K mg "kept_marks" (top 40) ["marks","lowest"] f28 d28)
(p20:FT K mg "refuse_no_level" (top 53) ["thing","low","high"] f43 d43)
(p21:FT K mg "are_unlike" (top 56) ["names"] f46 d46)
(p22:FT K mg "are_basins" (top 57) ["thing"] f47 d47)
(p23:FT K mg "are_towns" (top 58) ["thing","basins"] f48 d48)
(p24:FT K mg "_law_cell" (top 61) ["_law_script","_law_k"] f52 d52)
(p25:FT K mg "_law_stream" (top 62) ["_law_cell_here"] f53 d53)
(p26:FT K mg "_law_take" (top 63) ["_law_stream_here","_law_many"] f54 d54)
(p27:FT K mg "_law_marks" (top 64) ["_law_stream_here","_law_least_here"] f55 d55)
(p28:FT K mg "_law_basin" (top 65) ["_law_stream_here","_law_name"] f56 d56)
(p29:FT K mg "_law_gate" (top 66) ["_law_kind","_law_marks_here"] f57 d57)
(p30:FT K mg "_law_made" (top 67) ["_law_told_here"] f58 d58)
(p31:FT K mg "_law_lets" (top 68) ["_law_told_here","_law_setting","_law_level"] f59 d59)
(p32:FT K mg "_law_bad" (top 69) ["_law_told_here","_law_up","_law_left","_law_lost_here"] f60 d60)
(p33:FT K mg "_law_lost" (top 70) ["_law_told_here","_law_up","_law_hi"] f61 d61)
(p34:FT K mg "_law_easy" (top 71) ["_law_stream_here","_law_name"] f62 d62)
(p35:FT K mg "_law_river" (top 72) ["_law_stream_here"] f63 d63)
(p36:FT K mg "_law_held" (top 73) ["_law_told_here","_law_up","_law_hi"] f64 d64)
(p37:FT K mg "_law_least" (top 74) ["_law_told_here"] f65 d65)
(p38:FT K mg "_law_are" (top 75) ["_law_told_here","_law_numbers"] f66 d66)
(p39:FT K mg "_law_told" (top 76) ["_law_river_here"] f67 d67)
(p40:FT K mg "_law_lists" (top 77) ["_law_stream_here","_law_least_here","_law_many"] f68 d68)
(p41:FT K mg "_law_right" (top 78) ["_law_river_here","_law_told_here","_law_stream_here"] f69 d69)
(p42:FT K mg "law" (top 79) ["_law_script"] f70 d70)
(p43:mg "LETTERS" =some (.str "abcdefghijklmnopqrstuvwxyz" t0))
(p44:mg "MOST_LETTERS" =some (.int 8 t1))
(p45:mg "MOST_PROMISED" =some (.int 12 t2))
(p46:mg "MOST_SETTINGS" =some (.int 4 t3))
(p47:mg "HIGHEST_MARK" =some (.int 12 t4))
(p48:mg "HIGHEST_LEVEL" =some (.int 1000 t5))
(p49:mg "HIGHEST" =some (.int 12 t6))
(p50:mg "MOST_RAIN" =some (.int 6 t7))
(p51:mg "MOST_CLOUD" =some (.int 12 t8))
(p52:mg "MOST_BASINS" =some (.int 16 t9))
(p53:mg "MOST_TOWNS" =some (.int 3 t10))
(p54:mg "all" =none)
(p55:mg "any" =none)
(p56:mg "bool" =none)
(p57:mg "dict" =none)
(p58:mg "enumerate" =none)
(p59:mg "int" =none)
(p60:mg "isinstance" =none)
(p61:mg "len" =none)
(p62:mg "list" =none)
(p63:mg "max" =none)
(p64:mg "min" =none)
(p65:mg "range" =none)
(p66:mg "set" =none)
(p67:mg "sorted" =none)
(p68:mg "str" =none)
(p69:mg "tuple" =none)
(p70:mg "zip" =none)
(p71:mg "WeirError" =some (.ref C0))
(p72:mg "NoName" =some (.ref C1))
(p73:mg "NoGate" =some (.ref C2))
(p74:mg "NoBasin" =some (.ref C3))
(p75:mg "NoTown" =some (.ref C4))
(p76:mg "NoCloud" =some (.ref C5))
(p77:mg "NoRiver" =some (.ref C6))
(p78:mg "NoNumber" =some (.ref C7))
(p79:mg "NoPromise" =some (.ref C8))
(p80:mg "Gate" =some (.ref C9))
(p81:mg "StepGate" =some (.ref C10))
(p82:mg "FlapGate" =some (.ref C11))
(p83:mg "PartGate" =some (.ref C12))
(p84:mg "Basin" =some (.ref C13))
(p85:mg "Town" =some (.ref C14))
(p86:mg "River" =some (.ref C15))
(p87:W.findIn K (.ref C1) "__init__" =some (some (.ref f1)))
(p88:FM K "__init__" "NoName.__init__" (Jid (top 3) 0) ["self","thing"] f1 d1)
(p89:W.findIn K (.ref C2) "__init__" =some (some (.ref f2)))
(p90:FM K "__init__" "NoGate.__init__" (Jid (top 4) 0) ["self","thing"] f2 d2)
(p91:W.findIn K (.ref C3) "__init__" =some (some (.ref f3)))
(p92:FM K "__init__" "NoBasin.__init__" (Jid (top 5) 0) ["self","thing"] f3 d3)
(p93:W.findIn K (.ref C5) "__init__" =some (some (.ref f5)))
(p94:FM K "__init__" "NoCloud.__init__" (Jid (top 7) 0) ["self","thing"] f5 d5)
(p95:W.findIn K (.ref C6) "__init__" =some (some (.ref f6)))
(p96:FM K "__init__" "NoRiver.__init__" (Jid (top 8) 0) ["self","thing"] f6 d6)
(p97:W.findIn K (.ref C7) "__init__" =some (some (.ref f7)))
(p98:FM K "__init__" "NoNumber.__init__" (Jid (top 9) 0) ["self","thing"] f7 d7)
(p99:W.findIn K (.ref C8) "__init__" =some (some (.ref f8)))
(p100:FM K "__init__" "NoPromise.__init__" (Jid (top 10) 0) ["self","basin"] f8 d8)
(p101:W.findIn K (.ref C9) "lets" =some (some (.ref f30)))
(p102:FM K "lets" "Gate.lets" (Jid (top 42) 0) ["self","setting","level"] f30 d30)
(p103:W.findIn K (.ref C10) "__init__" =some (some (.ref f31)))
(p104:FM K "__init__" "StepGate.__init__" (Jid (top 43) 0) ["self","marks"] f31 d31)
(p105:W.findIn K (.ref C10) "settings" =some (some (.ref f32)))
(p106:FM K "settings" "StepGate.settings" (Jid (top 43) 1) ["self"] f32 d32)
(p107:W.findIn K (.ref C10) "passes" =some (some (.ref f33)))
(p108:FM K "passes" "StepGate.passes" (Jid (top 43) 2) ["self","setting","level"] f33 d33)
(p109:W.findIn K (.ref C11) "__init__" =some (some (.ref f35)))
(p110:FM K "__init__" "FlapGate.__init__" (Jid (top 44) 0) ["self","marks"] f35 d35)
(p111:W.findIn K (.ref C11) "settings" =some (some (.ref f36)))
(p112:FM K "settings" "FlapGate.settings" (Jid (top 44) 1) ["self"] f36 d36)
(p113:W.findIn K (.ref C11) "passes" =some (some (.ref f37)))
(p114:FM K "passes" "FlapGate.passes" (Jid (top 44) 2) ["self","setting","level"] f37 d37)
(p115:W.findIn K (.ref C12) "__init__" =some (some (.ref f39)))
(p116:FM K "__init__" "PartGate.__init__" (Jid (top 45) 0) ["self","marks"] f39 d39)
(p117:W.findIn K (.ref C12) "settings" =some (some (.ref f40)))
(p118:FM K "settings" "PartGate.settings" (Jid (top 45) 1) ["self"] f40 d40)
(p119:W.findIn K (.ref C12) "passes" =some (some (.ref f41)))
(p120:FM K "passes" "PartGate.passes" (Jid (top 45) 2) ["self","setting","level"] f41 d41)
(p121:W.findIn K (.ref C13) "__init__" =some (some (.ref f44)))
(p122:FM K "__init__" "Basin.__init__" (Jid (top 54) 0) ["self","name","low","high","start","rain","gate"] f44 d44)
(p123:W.findIn K (.ref C15) "__init__" =some (some (.ref f49)))
(p124:FM K "__init__" "River.__init__" (Jid (top 59) 0) ["self","cloud","gain","basins","towns"] f49 d49)
(p125:W.findIn K (.ref C15) "beginning" =some (some (.ref f51)))
(p126:FM K "beginning" "River.beginning" (Jid (top 59) 2) ["self"] f51 d51)
(p127:XCls K C1 C0 f1)
(p128:W.findIn K (.ref C1) "thing" =some none)
(p129:XCls K C2 C0 f2)
(p130:W.findIn K (.ref C2) "thing" =some none)
(p131:XCls K C3 C0 f3)
(p132:W.findIn K (.ref C3) "thing" =some none)
(p133:XCls K C5 C0 f5)
(p134:XCls K C6 C0 f6)
(p135:XCls K C7 C0 f7)
(p136:XCls K C8 C0 f8)
(p137:W.findIn K (.ref C8) "basin" =some none)
(p138:Cls K C10)
(p139:YCls K C10)
(p140:Mk K C10 f31)
(p141:Jku K C10 "lets" f30)
(p142:Jku K C10 "settings" f32)
(p143:Jku K C10 "passes" f33)
(p144:W.findIn K (.ref C10) "marks" =some none)
(p145:Cls K C11)
(p146:YCls K C11)
(p147:Mk K C11 f35)
(p148:Jku K C11 "lets" f30)
(p149:Jku K C11 "settings" f36)
(p150:Jku K C11 "passes" f37)
(p151:W.findIn K (.ref C11) "marks" =some none)
(p152:Cls K C12)
(p153:YCls K C12)
(p154:Mk K C12 f39)
(p155:Jku K C12 "lets" f30)
(p156:Jku K C12 "settings" f40)
(p157:Jku K C12 "passes" f41)
(p158:W.findIn K (.ref C12) "marks" =some none)
(p159:Cls K C13)
(p160:YCls K C13)
(p161:Mk K C13 f44)
(p162:W.findIn K (.ref C13) "name" =some none)
(p163:W.findIn K (.ref C13) "low" =some none)
(p164:W.findIn K (.ref C13) "high" =some none)
(p165:W.findIn K (.ref C13) "start" =some none)
(p166:W.findIn K (.ref C13) "rain" =some none)
(p167:W.findIn K (.ref C13) "gate" =some none)
(p168:Cls K C14)
(p169:YCls K C14)
(p170:W.findIn K (.ref C14) "name" =some none)
(p171:W.findIn K (.ref C14) "basin" =some none)
(p172:Cls K C15)
(p173:Mk K C15 f49)
(p174:Jku K C15 "beginning" f51)
(p175:W.findIn K (.ref C15) "cloud" =some none)
(p176:W.findIn K (.ref C15) "gain" =some none)
(p177:W.findIn K (.ref C15) "basins" =some none)
(p178:W.findIn K (.ref C15) "towns" =some none)
(p179:Nst K f18 nc18 np18)
(p180:W.tabIn K "lost_alone" =some (nc18,np18))
(p181: [np18].Nodup)
(p182:W.kitOne K (.ref C10) (.ref C9)=some true)
(p183:W.kitOne K (.ref C11) (.ref C9)=some true)
(p184:W.kitOne K (.ref C12) (.ref C9)=some true)
(p185:W.kitOne K (.ref C13) (.ref C13)=some true)
(p186:W.kitOne K (.ref C14) (.ref C14)=some true)
(p187:W.kitOne K (.ref C10) (.type "bool")=some false)
(p188:W.kitOne K (.ref C11) (.type "bool")=some false)
(p189:W.kitOne K (.ref C12) (.type "bool")=some false)
(p190:W.kitAny K (.ref C10) [.ref C10,.ref C11,.ref C12]=some true)
(p191:W.kitAny K (.ref C11) [.ref C10,.ref C11,.ref C12]=some true)
(p192:W.kitAny K (.ref C12) [.ref C10,.ref C11,.ref C12]=some true)
(p193:W.mroIn K C8 (.ref C8)=some true):
  ∃a:Ad,a.d_law=d70∧Tx K mg a:=⟨⟨f1,d1,f2,d2,f3,d3,f5,d5,f6,d6,f7,d7,f8,d8,f9,d9,f10,d10,f11,d11,f12,d12,f13,d13,f14,d14,f15,d15,f16,d16,f17,d17,f18,d18,f19,d19,f20,d20,f21,d21,f22,d22,f23,d23,f24,d24,f25,d25,f26,d26,f27,d27,f28,d28,f30,d30,f31,d31,f32,d32,f33,d33,f35,d35,f36,d36,f37,d37,f39,d39,f40,d40,f41,d41,f43,d43,f44,d44,f46,d46,f47,d47,f48,d48,f49,d49,f51,d51,f52,d52,f53,d53,f54,d54,f55,d55,f56,d56,f57,d57,f58,d58,f59,d59,f60,d60,f61,d61,f62,d62,f63,d63,f64,d64,f65,d65,f66,d66,f67,d67,f68,d68,f69,d69,f70,d70,t0,t1,t2,t3,t4,t5,t6,t7,t8,t9,t10,C0,C1,C2,C3,C4,C5,C6,C7,C8,C9,C10,C11,C12,C13,C14,C15,nc18,np18⟩,rfl,⟨p0,p1,p2,p3,p4,p5,p6,p7,p8,p9,p10,p11,p12,p13,p14,p15,p16,p17,p18,p19,p20,p21,p22,p23,p24,p25,p26,p27,p28,p29,p30,p31,p32,p33,p34,p35,p36,p37,p38,p39,p40,p41,p42,p43,p44,p45,p46,p47,p48,p49,p50,p51,p52,p53,p54,p55,p56,p57,p58,p59,p60,p61,p62,p63,p64,p65,p66,p67,p68,p69,p70,p72,p73,p74,p76,p77,p78,p79,p80,p81,p82,p83,p84,p85,p86,p88,p90,p92,p94,p96,p98,p100,p102,p104,p106,p108,p110,p112,p114,p116,p118,p120,p122,p124,p126,p127,p128,p129,p130,p131,p132,p133,p134,p135,p136,p136.e,p137,p138,p139,p140,p141,p142,p143,p144,p145,p146,p147,p148,p149,p150,p151,p152,p153,p154,p155,p156,p157,p158,p159,p160,p161,p162,p163,p164,p165,p166,p167,p168,p169,p170,p171,p172,p173,p174,p175,p176,p177,p178,p179,p180,p181,p182,p183,p184,p185,p186,p187,p188,p189,p190,p191,p192,p193⟩⟩
theorem tx_fin {K:W.Frag} {mg:Str→Option Value} {d:FuncData} (h:∃a:Ad,a.d_law=d∧Tx K mg a) (b:∀(s:Shared) (v:Value),BindsTo s d ⟨[v],[]⟩ [("_law_script",v)]):∃a:Ad,(∀(s:Shared) (v:Value),BindsTo s a.d_law ⟨[v],[]⟩ [("_law_script",v)])∧Tx K mg a:=by
 obtain ⟨a,e,T⟩:=h
 exact ⟨a,by rw [e];exact b,T⟩
end K74
namespace PySem.W.Fast
def tw5595374076623191882:=()
def tw10626463667589465231:=()
def tw8976144988857660001:=()
def tw6212325607837680286:=()
def tw4320957741756218273:=()
def tw14832593001519387625:=()
def tw8257230680341675590:=()
def tw3601821071426421859:=()
def tw16281453116094256551:=()
def tw919180531969096216:=()
def tw9061841315499372925:=()
def tw472775252909750316:=()
def tw843710386496743703:=()
def tw16213141452907459063:=()
def tw1402275622056459069:=()
def tw518924184973958940:=()
def tw15436784165226941691:=()
def tw14780739574335294229:=()
def tw2357018079056225120:=()
def tw9860140890187861341:=()
def tw2720346775459979015:=()
def tw16861022260298388654:=()
def tw17840347285253625471:=()
def tw9704040234037885178:=()
def tw4411201029824154671:=()
def tw16433078000073209709:=()
def tw15262421649880372126:=()
def tw1910482352999535468:=()
def tw15798880642799364128:=()
def tw754351579487886358:=()
def tw2969260883737362946:=()
def tw17547699884840721350:=()
def tw16551909868718059057:=()
def tw4625180657945324701:=()
def tw16636618621913789485:=()
def tw16361175512213014335:=()
def tw4776456478453314647:=()
def tw13243223348979835299:=()
def tw215322248383578109:=()
def tw14339456384403708844:=()
def tw13825517092031430381:=()
def tw15273186442487897194:=()
def tw9950806099712582926:=()
def tw5352236423150189178:=()
def tw8988868297368448622:=()
def tw12836800832619883276:=()
def tw15568804242009859349:=()
def tw818178476650414663:=()
def tw6700302648444695268:=()
def tw17649525584347432574:=()
def tw17649038001806119366:=()
def tw7415721218067507264:=()
def tw11116472393731896705:=()
def tw1196015759119367463:=()
def tw3954371690945106160:=()
def tw9513705687564011909:=()
def tw3140935591720976709:=()
def tw17731350366143616193:=()
def tw10255635237493248245:=()
def tw10707095978787257008:=()
def tw3499561905604884860:=()
def tw1322090095232194841:=()
def tw11181444653925534250:=()
def tw16508967051014443344:=()
def tw4990846194919620769:=()
def tw9701878814210758092:=()
def tw3721735469154922465:=()
def tw8002002468965219749:=()
def tw15040609486546218367:=()
def tw14676041329534197512:=()
def tw16649044877803682782:=()
def tw10624172476772005838:=()
def tw12633668540920507203:=()
def tw13093454811109269104:=()
def tw1193944333972813196:=()
def tw14173102271211236050:=()
def tw11916079573150684204:=()
def tw7977907258822654142:=()
def tw678809067734461788:=()
def tw16050601305808943437:=()
def tw7627238548751857272:=()
def tw13091209021246168712:=()
def tw13682459093191496140:=()
def tw4473361257594014417:=()
def tw2040947807514129874:=()
def tw3082706546568425793:=()
def tw18010219887763863095:=()
def tw6393519168961835554:=()
def tw14760391304624256972:=()
def tw6741434269995199935:=()
def tw11204215316031498890:=()
def tw3926056311058013838:=()
def tw15032259263669328674:=()
def tw5103078769733007258:=()
def tw8477412296004654023:=()
def tw3671531512065271439:=()
def tw12302928081589497574:=()
def tw16781893536727732686:=()
def tw3197742611121322521:=()
def tw462229856553157202:=()
def tw16462187462447599348:=()
def tw5137428876278622914:=()
def tw6234869444581061406:=()
def tw13637226333891913640:=()
def tw17175043963138024787:=()
def tw17309590627373361920:=()
def tw17440366162117459556:=()
def tw10958648478273561293:=()
def tw475190678665278560:=()
def tw12327280890644107694:=()
def tw4020600602793914235:=()
def tw4689441677968807519:=()
def tw2329166179320891183:=()
def tw14925565766995524339:=()
def tw16231437439331353088:=()
def tw3690572318989512916:=()
def tw12480654547957478037:=()
def tw1286903833047000884:=()
def tw4053182760391024447:=()
def tw6459923920816439889:=()
def tw12986593898171307798:=()
def tw11715406003852597480:=()
def tw12414973531340388982:=()
def tw11968497746800333862:=()
def tw698588684205205197:=()
def tw15987361251341447027:=()
def tw1609837262538623461:=()
def tw1172070538950826692:=()
def tw2176458687663763824:=()
def tw17641306280812913342:=()
def tw4479381375274763251:=()
def tw15854055522525060949:=()
def tw626647320842491480:=()
def tw5099191733938209929:=()
def tw18231100440129491625:=()
def tw8755922296579373942:=()
def tw8117986422095071068:=()
def tw15447483395860801247:=()
def tw15124960792508461223:=()
def tw11898611281582870496:=()
def tw2712470512190195191:=()
def tw12376458291984625143:=()
def tw10884195492237707244:=()
def tw256846692471306465:=()
def tw4211259519510216194:=()
def tw3002048089606623097:=()
def tw9419232641962184457:=()
def tw12495200017005347764:=()
def tw2911217118465288610:=()
def tw288370815245685739:=()
def tw9347224954972916378:=()
def tw18117868305130857885:=()
def tw14697003653480845178:=()
def tw8753344596443675183:=()
def tw12306735063826010986:=()
def tw14303568440088529898:=()
def tw9595466125850711614:=()
def tw5308833751925118625:=()
def tw10463083649452027887:=()
def tw8059681317982712936:=()
def tw11375255507010387615:=()
def tw16302556510726033779:=()
def tw7977904907155579707:=()
def tw14067076538738041841:=()
def tw3724296170749688622:=()
def tw1962503492365641695:=()
def tw356451643346709466:=()
def tw6815146262183421288:=()
def tw7606699710160349866:=()
def tw15185153045369468467:=()
def tw17939903374585483999:=()
def tw2868342597449481636:=()
def tw11706544289308656896:=()
def tw6804065153995640010:=()
def tw10001650181769930483:=()
def tw5589203739368727406:=()
def tw2309892190664993994:=()
def tw17812871083171894974:=()
def tw16489002792994157867:=()
def tw6539076931774330170:=()
def tw13855182894069682296:=()
def tw6521813374209937977:=()
def tw17046527765116513495:=()
def tw9568861795087866921:=()
def tw6862572482343676302:=()
def tw12189681004315415560:=()
def tw16309824424616683359:=()
def tw684391270213437255:=()
def tw16872710304338363443:=()
def tw13532985273834527967:=()
def tw11261117633562749482:=()
def tw8282469234290962605:=()
def tw17766543483054560706:=()
def tw17074732706641377929:=()
def tw3499139814361142902:=()
def tw1185833343983473640:=()
def tw10943371772230425271:=()
def tw6329335802758298951:=()
def tw8653845380276897401:=()
def tw10631405550852904023:=()
def tw2754449005352828142:=()
def tw2866242523834515421:=()
def tw1704034889975041533:=()
def tw11830575274543176882:=()
def tw15665284683133333743:=()
def tw8861553804005973322:=()
def tw9318934272709558811:=()
def tw13843868696523245201:=()
def tw2598266749570276385:=()
def tw16757486031964263542:=()
def tw9499686392131255525:=()
def tw4677441437540882097:=()
def tw5595573229142545279:=()
def tw2725939198926619031:=()
def tw11207102672789502595:=()
def tw11638557845924967651:=()
def tw10805783734073958543:=()
def tw7550260243970104833:=()
def tw2615355263676537437:=()
def tw7590156663799940404:=()
def tw13843676498846795152:=()
def tw4643500310303440274:=()
def tw13123333318545402065:=()
def tw9396759970167523838:=()
def tw2432870550103196357:=()
def tw2104780843124925490:=()
def tw12151529064214225343:=()
def tw248139835704503551:=()
def tw1188209589690193154:=()
def tw15287391625167909061:=()
def tw13300849040053985624:=()
def tw13272794040535919465:=()
def tw3944961649283901972:=()
def tw8057391033362178383:=()
def tw5832405480005345912:=()
def tw8404010438064075735:=()
def tw1420746495279254623:=()
def tw16302227282160421209:=()
def tw6419187872551950824:=()
def tw15337518303393027732:=()
def tw9886657663864499559:=()
def tw7688778912609866151:=()
def tw9075194308832875607:=()
def tw17636093481285069316:=()
def tw16699451302662418279:=()
def tw15737981977890135372:=()
def tw15805409221514203230:=()
def tw9458521414451511692:=()
def tw12645568357554049630:=()
def tw5510555673009403056:=()
def tw6844300841002231385:=()
def tw8448586970897075108:=()
def tw18209313010411576438:=()
def tw8497970917008959092:=()
def tw14065265706991758838:=()
def tw15104904999732215533:=()
def tw17746952174332497542:=()
def tw4044362662869436178:=()
def tw7506932449976986806:=()
def tw723697909913264509:=()
def tw10441723601485340659:=()
def tw3611700443047780225:=()
def tw8496643832381976107:=()
def tw800835155881824028:=()
def tw18388331873680052256:=()
def tw1066470666932383563:=()
def tw11145854307051507912:=()
def tw6030928264975893931:=()
def tw759014576762054421:=()
def tw16551877849405711960:=()
def tw3444432933929946323:=()
def tw4294310227607999563:=()
def tw9568761883390732259:=()
def tw9626487507454288921:=()
def tw12581356599402539986:=()
def tw11425646036554550906:=()
def tw4388946495906882494:=()
def tw13732983167636926572:=()
def tw18036064838585920691:=()
def tw6328319936704298637:=()
def tw10284462515947637185:=()
def tw7133386079935480886:=()
def tw13548502623957579875:=()
def tw18277042423349711878:=()
def tw2187427763753904338:=()
def tw8881651160013221267:=()
def tw4192674734806536534:=()
def tw16654217926604264445:=()
def tw6735904564351086133:=()
def tw18133103787855375504:=()
def tw12958583185636923914:=()
def tw16607711119431747737:=()
def tw8759705675928090744:=()
def tw9630798743047850387:=()
def tw6201491909996960298:=()
def tw17694978211152762737:=()
def tw13488285055299378673:=()
def tw10023505134203921540:=()
def tw10521772002195456262:=()
def tw15654243982013140210:=()
def tw10325724166915926171:=()
def tw18224933914931728864:=()
def tw8447969385173873105:=()
def tw9515241733812687738:=()
def tw12960229677013213963:=()
def tw4440078841546881577:=()
def tw2644545140312904653:=()
def tw3797200178337041795:=()
def tw6569788995538443582:=()
def tw12649959924890643304:=()
def tw479526132250512705:=()
def tw13607103686645154726:=()
def tw5980447547558693199:=()
def tw1917941450196429365:=()
def tw16334432333454730068:=()
def tw5648302745718508572:=()
def tw2959843067749018356:=()
def tw723441771534457210:=()
def tw8776319925186255762:=()
def tw10664720387201588560:=()
def tw62905751544095453:=()
def tw122874776139706927:=()
def tw811638265296654041:=()
def tw15300337144954870332:=()
def tw9194012023712091640:=()
def tw12912202287158418562:=()
def tw8667850126562937436:=()
def tw6463472524622027689:=()
def tw1563675979864063866:=()
def tw17660493210216328945:=()
def tw17382673537722321641:=()
def tw6837658095161184426:=()
def tw13031597075751182533:=()
def tw14696955559627343282:=()
def tw7660938955710952938:=()
def tw12748172166842989197:=()
def tw5443122326917332463:=()
def tw11097532238474796010:=()
def tw3342140764119105173:=()
def tw4862838914376515190:=()
def tw18095512812979736644:=()
def tw11559002803533380144:=()
def tw9019401486360901785:=()
def tw8770101857438418265:=()
def tw5792127177629120073:=()
def tw8384804859112746097:=()
def tw14706737042230756871:=()
def tw3974795779060720695:=()
def tw2571812537877042913:=()
def tw9840461821388593747:=()
def tw13764575943698964135:=()
def tw14504625547082313854:=()
def tw5217663802765381896:=()
def tw8661476305860932038:=()
def tw11337573937280680141:=()
def tw6403952259065926404:=()
def tw11015652331765876926:=()
def tw6465373706805858750:=()
def tw17761699024217478751:=()
def tw842092810951576432:=()
def tw2862347779633314222:=()
def tw17738854780101282380:=()
def tw13615474904231917528:=()
def tw11838109017804023251:=()
def tw15183290134760519881:=()
def tw17380392972573990670:=()
def tw949891894496645005:=()
def tw4643395541776658949:=()
def tw8674305763670217223:=()
def tw7330576531578506686:=()
def tw16826575031399550060:=()
def tw3711223169235598636:=()
def tw2312816988321001410:=()
def tw15154357465661727870:=()
def tw1690015676397345370:=()
def tw10434763910667467495:=()
def tw7897355035588330621:=()
def tw2496697672069474653:=()
def tw13555878868467511773:=()
def tw11929002039433931847:=()
def tw16290749373405739072:=()
def tw15128504728153306406:=()
def tw6385123802486193111:=()
def tw7877854217559373138:=()
def tw1424336425739239723:=()
def tw15209205060971351477:=()
def tw13908703798042568363:=()
def tw7952585342769252028:=()
def tw7266759018461766626:=()
def tw8387862971173667351:=()
def tw15776744872829376360:=()
def tw6111458199967276314:=()
def tw3456287144492826931:=()
def tw3912952955416499387:=()
def tw2959817301496638244:=()
def tw5834181338067170073:=()
def tw15586418172865908230:=()
def tw14093783223010179443:=()
def tw8285779219339127299:=()
def tw10212591099249409131:=()
def tw16744594024678620656:=()
def tw17446996966323677912:=()
def tw17608179199917973328:=()
def tw17710166945012143467:=()
def tw4791329028055066756:=()
def tw7327938906823307594:=()
def tw10363325272881700240:=()
def tw14588216832290935622:=()
def tw10230836406703114507:=()
def tw10028534312192490488:=()
def tw3438829159590264437:=()
def tw10866318285706880004:=()
def tw1465731013188309881:=()
def tw14532659697795287219:=()
def tw9470148815428066647:=()
def tw15153434192764106255:=()
def tw16977566904076099508:=()
def tw11435976936589065299:=()
def tw8332878204416110071:=()
def tw7075098018848595021:=()
def tw10845466421063819855:=()
def tw14946443025756565926:=()
def tw4629363519622546471:=()
def tw17577032005172870510:=()
def tw9345707940745403201:=()
def tw2260341044431334793:=()
def tw15732304331302182724:=()
def tw412597274334247626:=()
def tw2672271636262005491:=()
def tw4396831333590032202:=()
def tw1141260164206773237:=()
def tw11936097357952056503:=()
def tw12380633717684362385:=()
def tw2087821646853407468:=()
def tw8500686293936131770:=()
def tw13475497970839201250:=()
def tw10492271248184967324:=()
def tw13741154352232740825:=()
def tw5069321289564066247:=()
def tw12619380161679940354:=()
def tw9747548750234463625:=()
def tw14798736511812138993:=()
def tw10310320080504418456:=()
def tw7493945001876447875:=()
def tw15414662034116492796:=()
def tw10928655852928994698:=()
def tw11832641840540855700:=()
def tw5218401262924653556:=()
def tw14318656287258267284:=()
def tw18425951688115605382:=()
def tw16182210996139522537:=()
def tw12235343234078297534:=()
def tw13611388089659583748:=()
def tw14496056874837837028:=()
def tw1360592917216024022:=()
def tw8816704284019601818:=()
def tw12239585551748449032:=()
def tw4648669168827012803:=()
def tw17203229817542159873:=()
def tw703592406716686317:=()
def tw576318031969720941:=()
def tw14613657942072406975:=()
def tw8138191235977592006:=()
def tw4940027432162291251:=()
def tw15685197303423424900:=()
def tw10254661528849766890:=()
def tw2089539134961302504:=()
def tw2731060439483144323:=()
def tw9595221559041152449:=()
def tw9202005710500427254:=()
def tw16499303359835614459:=()
def tw3695781471525653412:=()
def tw5822998208687717143:=()
def tw10212098476965952824:=()
def tw5761319123416705054:=()
def tw15596115994116133120:=()
def tw15378002964566434477:=()
def tw16573511660721165387:=()
def tw16895695421814505247:=()
def tw1296236457694973518:=()
def tw2890174918284110696:=()
end PySem.W.Fast
open PySem PySem.W PyProof.Rows
set_option maxRecDepth 100000 in
set_option maxHeartbeats 0 in
theorem PySem.Challenge.cw_weirwatch_k74_least_promises_holds : PySem.Challenge.rw_weirwatch_k74_least_promises.Holds := by
 w_on;o_law;k_head;(case hw=>w_witness2)
 k_fill
 refine L2.walk_ofT (l:=PySem.Challenge.rw_weirwatch_k74_least_promises) (n:=63) (k:=11) (x:="_law_script") (CX:=L2.CX0) rfl (by decide) rfl ⟨rfl,by decide,by decide⟩ (fun w h Y=>PySem.W.km_in_of Y) ?K ?F ?C
 case K=>intro w;kernel_rfl
 case F=>
  intro w mg fa h KX G TB hmg
  have T:∃a:K74.Ad,(∀(s:Shared) (v:Value),BindsTo s a.d_law ⟨[v],[]⟩ [("_law_script",v)])∧K74.Tx (L2.KOf KX) mg a:=by
   dsimp only [L2.KOf]
   refine' K74.tx_fin ?tx ?bb
   case tx=>
    refine' K74.tx_mk (L2.ft_mk KX G ?h0 ?h1 ?h2 ?h3 fun _ _ _ _ _ _ u h=>match u,h with| [_,_,_],_=>rfl) (L2.ft_mk KX G ?h4 ?h5 ?h6 ?h7 fun _ _ _ _ _ _ u h=>match u,h with| [_,_],_=>rfl) (L2.ft_mk KX G ?h8 ?h9 ?h10 ?h11 fun _ _ _ _ _ _ u h=>match u,h with| [_],_=>rfl) (L2.ft_mk KX G ?h12 ?h13 ?h14 ?h15 fun _ _ _ _ _ _ u h=>match u,h with| [_,_],_=>rfl) (L2.ft_mk KX G ?h16 ?h17 ?h18 ?h19 fun _ _ _ _ _ _ u h=>match u,h with| [_,_],_=>rfl) (L2.ft_mk KX G ?h20 ?h21 ?h22 ?h23 fun _ _ _ _ _ _ u h=>match u,h with| [_],_=>rfl) (L2.ft_mk KX G ?h24 ?h25 ?h26 ?h27 fun _ _ _ _ _ _ u h=>match u,h with| [_],_=>rfl) (L2.ft_mk KX G ?h28 ?h29 ?h30 ?h31 fun _ _ _ _ _ _ u h=>match u,h with| [_,_,_,_],_=>rfl) (L2.ft_mk KX G ?h32 ?h33 ?h34 ?h35 fun _ _ _ _ _ _ u h=>match u,h with| [_,_,_,_],_=>rfl) (L2.ft_mk KX G ?h36 ?h37 ?h38 ?h39 fun _ _ _ _ _ _ u h=>match u,h with| [_],_=>rfl) (L2.ft_mk KX G ?h40 ?h41 ?h42 ?h43 fun _ _ _ _ _ _ u h=>match u,h with| [_,_,_],_=>rfl) (L2.ft_mk KX G ?h44 ?h45 ?h46 ?h47 fun _ _ _ _ _ _ u h=>match u,h with| [_,_],_=>rfl) (L2.ft_mk KX G ?h48 ?h49 ?h50 ?h51 fun _ _ _ _ _ _ u h=>match u,h with| [_,_],_=>rfl) (L2.ft_mk KX G ?h52 ?h53 ?h54 ?h55 fun _ _ _ _ _ _ u h=>match u,h with| [_,_],_=>rfl) (L2.ft_mk KX G ?h56 ?h57 ?h58 ?h59 fun _ _ _ _ _ _ u h=>match u,h with| [_,_],_=>rfl) (L2.ft_mk KX G ?h60 ?h61 ?h62 ?h63 fun _ _ _ _ _ _ u h=>match u,h with| [_,_],_=>rfl) (L2.ft_mk KX G ?h64 ?h65 ?h66 ?h67 fun _ _ _ _ _ _ u h=>match u,h with| [_,_],_=>rfl) (L2.ft_mk KX G ?h68 ?h69 ?h70 ?h71 fun _ _ _ _ _ _ u h=>match u,h with| [_],_=>rfl) (L2.ft_mk KX G ?h72 ?h73 ?h74 ?h75 fun _ _ _ _ _ _ u h=>match u,h with| [_,_],_=>rfl) (L2.ft_mk KX G ?h76 ?h77 ?h78 ?h79 fun _ _ _ _ _ _ u h=>match u,h with| [_,_],_=>rfl) (L2.ft_mk KX G ?h80 ?h81 ?h82 ?h83 fun _ _ _ _ _ _ u h=>match u,h with| [_,_,_],_=>rfl) (L2.ft_mk KX G ?h84 ?h85 ?h86 ?h87 fun _ _ _ _ _ _ u h=>match u,h with| [_],_=>rfl) (L2.ft_mk KX G ?h88 ?h89 ?h90 ?h91 fun _ _ _ _ _ _ u h=>match u,h with| [_],_=>rfl) (L2.ft_mk KX G ?h92 ?h93 ?h94 ?h95 fun _ _ _ _ _ _ u h=>match u,h with| [_,_],_=>rfl) (L2.ft_mk KX G ?h96 ?h97 ?h98 ?h99 fun _ _ _ _ _ _ u h=>match u,h with| [_,_],_=>rfl) (L2.ft_mk KX G ?h100 ?h101 ?h102 ?h103 fun _ _ _ _ _ _ u h=>match u,h with| [_],_=>rfl) (L2.ft_mk KX G ?h104 ?h105 ?h106 ?h107 fun _ _ _ _ _ _ u h=>match u,h with| [_,_],_=>rfl) (L2.ft_mk KX G ?h108 ?h109 ?h110 ?h111 fun _ _ _ _ _ _ u h=>match u,h with| [_,_],_=>rfl) (L2.ft_mk KX G ?h112 ?h113 ?h114 ?h115 fun _ _ _ _ _ _ u h=>match u,h with| [_,_],_=>rfl) (L2.ft_mk KX G ?h116 ?h117 ?h118 ?h119 fun _ _ _ _ _ _ u h=>match u,h with| [_,_],_=>rfl) (L2.ft_mk KX G ?h120 ?h121 ?h122 ?h123 fun _ _ _ _ _ _ u h=>match u,h with| [_],_=>rfl) (L2.ft_mk KX G ?h124 ?h125 ?h126 ?h127 fun _ _ _ _ _ _ u h=>match u,h with| [_,_,_],_=>rfl) (L2.ft_mk KX G ?h128 ?h129 ?h130 ?h131 fun _ _ _ _ _ _ u h=>match u,h with| [_,_,_,_],_=>rfl) (L2.ft_mk KX G ?h132 ?h133 ?h134 ?h135 fun _ _ _ _ _ _ u h=>match u,h with| [_,_,_],_=>rfl) (L2.ft_mk KX G ?h136 ?h137 ?h138 ?h139 fun _ _ _ _ _ _ u h=>match u,h with| [_,_],_=>rfl) (L2.ft_mk KX G ?h140 ?h141 ?h142 ?h143 fun _ _ _ _ _ _ u h=>match u,h with| [_],_=>rfl) (L2.ft_mk KX G ?h144 ?h145 ?h146 ?h147 fun _ _ _ _ _ _ u h=>match u,h with| [_,_,_],_=>rfl) (L2.ft_mk KX G ?h148 ?h149 ?h150 ?h151 fun _ _ _ _ _ _ u h=>match u,h with| [_],_=>rfl) (L2.ft_mk KX G ?h152 ?h153 ?h154 ?h155 fun _ _ _ _ _ _ u h=>match u,h with| [_,_],_=>rfl) (L2.ft_mk KX G ?h156 ?h157 ?h158 ?h159 fun _ _ _ _ _ _ u h=>match u,h with| [_],_=>rfl) (L2.ft_mk KX G ?h160 ?h161 ?h162 ?h163 fun _ _ _ _ _ _ u h=>match u,h with| [_,_,_],_=>rfl) (L2.ft_mk KX G ?h164 ?h165 ?h166 ?h167 fun _ _ _ _ _ _ u h=>match u,h with| [_,_,_],_=>rfl) (L2.ft_mk KX G ?h168 ?h169 ?h170 ?h171 fun _ _ _ _ _ _ u h=>match u,h with| [_],_=>rfl) (PySem.W.mg_of KX G ?h172) (PySem.W.mg_of KX G ?h173) (PySem.W.mg_of KX G ?h174) (PySem.W.mg_of KX G ?h175) (PySem.W.mg_of KX G ?h176) (PySem.W.mg_of KX G ?h177) (PySem.W.mg_of KX G ?h178) (PySem.W.mg_of KX G ?h179) (PySem.W.mg_of KX G ?h180) (PySem.W.mg_of KX G ?h181) (PySem.W.mg_of KX G ?h182) (PySem.W.mg_none_of KX G ?h183) (PySem.W.mg_none_of KX G ?h184) (PySem.W.mg_none_of KX G ?h185) (PySem.W.mg_none_of KX G ?h186) (PySem.W.mg_none_of KX G ?h187) (PySem.W.mg_none_of KX G ?h188) (PySem.W.mg_none_of KX G ?h189) (PySem.W.mg_none_of KX G ?h190) (PySem.W.mg_none_of KX G ?h191) (PySem.W.mg_none_of KX G ?h192) (PySem.W.mg_none_of KX G ?h193) (PySem.W.mg_none_of KX G ?h194) (PySem.W.mg_none_of KX G ?h195) (PySem.W.mg_none_of KX G ?h196) (PySem.W.mg_none_of KX G ?h197) (PySem.W.mg_none_of KX G ?h198) (PySem.W.mg_none_of KX G ?h199) (PySem.W.mg_of KX G ?h200) (PySem.W.mg_of KX G ?h201) (PySem.W.mg_of KX G ?h202) (PySem.W.mg_of KX G ?h203) (PySem.W.mg_of KX G ?h204) (PySem.W.mg_of KX G ?h205) (PySem.W.mg_of KX G ?h206) (PySem.W.mg_of KX G ?h207) (PySem.W.mg_of KX G ?h208) (PySem.W.mg_of KX G ?h209) (PySem.W.mg_of KX G ?h210) (PySem.W.mg_of KX G ?h211) (PySem.W.mg_of KX G ?h212) (PySem.W.mg_of KX G ?h213) (PySem.W.mg_of KX G ?h214) (PySem.W.mg_of KX G ?h215) ?h216 (L2.fm_mk ?h217 ?h218 ?h219 fun _ _ _ _ _ _ u h=>match u,h with| [_,_],_=>rfl) ?h220 (L2.fm_mk ?h221 ?h222 ?h223 fun _ _ _ _ _ _ u h=>match u,h with| [_,_],_=>rfl) ?h224 (L2.fm_mk ?h225 ?h226 ?h227 fun _ _ _ _ _ _ u h=>match u,h with| [_,_],_=>rfl) ?h228 (L2.fm_mk ?h229 ?h230 ?h231 fun _ _ _ _ _ _ u h=>match u,h with| [_,_],_=>rfl) ?h232 (L2.fm_mk ?h233 ?h234 ?h235 fun _ _ _ _ _ _ u h=>match u,h with| [_,_],_=>rfl) ?h236 (L2.fm_mk ?h237 ?h238 ?h239 fun _ _ _ _ _ _ u h=>match u,h with| [_,_],_=>rfl) ?h240 (L2.fm_mk ?h241 ?h242 ?h243 fun _ _ _ _ _ _ u h=>match u,h with| [_,_],_=>rfl) ?h244 (L2.fm_mk ?h245 ?h246 ?h247 fun _ _ _ _ _ _ u h=>match u,h with| [_,_,_],_=>rfl) ?h248 (L2.fm_mk ?h249 ?h250 ?h251 fun _ _ _ _ _ _ u h=>match u,h with| [_,_],_=>rfl) ?h252 (L2.fm_mk ?h253 ?h254 ?h255 fun _ _ _ _ _ _ u h=>match u,h with| [_],_=>rfl) ?h256 (L2.fm_mk ?h257 ?h258 ?h259 fun _ _ _ _ _ _ u h=>match u,h with| [_,_,_],_=>rfl) ?h260 (L2.fm_mk ?h261 ?h262 ?h263 fun _ _ _ _ _ _ u h=>match u,h with| [_,_],_=>rfl) ?h264 (L2.fm_mk ?h265 ?h266 ?h267 fun _ _ _ _ _ _ u h=>match u,h with| [_],_=>rfl) ?h268 (L2.fm_mk ?h269 ?h270 ?h271 fun _ _ _ _ _ _ u h=>match u,h with| [_,_,_],_=>rfl) ?h272 (L2.fm_mk ?h273 ?h274 ?h275 fun _ _ _ _ _ _ u h=>match u,h with| [_,_],_=>rfl) ?h276 (L2.fm_mk ?h277 ?h278 ?h279 fun _ _ _ _ _ _ u h=>match u,h with| [_],_=>rfl) ?h280 (L2.fm_mk ?h281 ?h282 ?h283 fun _ _ _ _ _ _ u h=>match u,h with| [_,_,_],_=>rfl) ?h284 (L2.fm_mk ?h285 ?h286 ?h287 fun _ _ _ _ _ _ u h=>match u,h with| [_,_,_,_,_,_,_],_=>rfl) ?h288 (L2.fm_mk ?h289 ?h290 ?h291 fun _ _ _ _ _ _ u h=>match u,h with| [_,_,_,_,_],_=>rfl) ?h292 (L2.fm_mk ?h293 ?h294 ?h295 fun _ _ _ _ _ _ u h=>match u,h with| [_],_=>rfl) (L2.xc_mk ?h296 ?h297 ?h298) ?h299 (L2.xc_mk ?h300 ?h301 ?h302) ?h303 (L2.xc_mk ?h304 ?h305 ?h306) ?h307 (L2.xc_mk ?h308 ?h309 ?h310) (L2.xc_mk ?h311 ?h312 ?h313) (L2.xc_mk ?h314 ?h315 ?h316) (L2.xc_mk ?h317 ?h318 ?h319) ?h320 ⟨?h321,?h322,?h323,?h324⟩ ⟨?h325,?h326,?h327,?h328⟩ ⟨?h329,?h330,?h331,?h332⟩ ⟨?h333,?h334,?h335⟩ ⟨?h336,?h337,?h338⟩ ⟨?h339,?h340,?h341⟩ ?h342 ⟨?h343,?h344,?h345,?h346⟩ ⟨?h347,?h348,?h349,?h350⟩ ⟨?h351,?h352,?h353,?h354⟩ ⟨?h355,?h356,?h357⟩ ⟨?h358,?h359,?h360⟩ ⟨?h361,?h362,?h363⟩ ?h364 ⟨?h365,?h366,?h367,?h368⟩ ⟨?h369,?h370,?h371,?h372⟩ ⟨?h373,?h374,?h375,?h376⟩ ⟨?h377,?h378,?h379⟩ ⟨?h380,?h381,?h382⟩ ⟨?h383,?h384,?h385⟩ ?h386 ⟨?h387,?h388,?h389,?h390⟩ ⟨?h391,?h392,?h393,?h394⟩ ⟨?h395,?h396,?h397,?h398⟩ ?h399 ?h400 ?h401 ?h402 ?h403 ?h404 ⟨?h405,?h406,?h407,?h408⟩ ⟨?h409,?h410,?h411,?h412⟩ ?h413 ?h414 ⟨?h415,?h416,?h417,?h418⟩ ⟨?h419,?h420,?h421,?h422⟩ ⟨?h423,?h424,?h425⟩ ?h426 ?h427 ?h428 ?h429 (L2.nst_mk ?h430 ?h431 ?h432 ?h433 ?h434) ?h435 ?h436 ?h437 ?h438 ?h439 ?h440 ?h441 ?h442 ?h443 ?h444 ?h445 ?h446 ?h447 ?h448
    case h0=>k_is
    case h1=>k_is
    case h2=>k_is
    case h3=>k_is
    case h4=>k_is
    case h5=>k_is
    case h6=>k_is
    case h7=>k_is
    case h8=>k_is
    case h9=>k_is
    case h10=>k_is
    case h11=>k_is
    case h12=>k_is
    case h13=>k_is
    case h14=>k_is
    case h15=>k_is
    case h16=>k_is
    case h17=>k_is
    case h18=>k_is
    case h19=>k_is
    case h20=>k_is
    case h21=>k_is
    case h22=>k_is
    case h23=>k_is
    case h24=>k_is
    case h25=>k_is
    case h26=>k_is
    case h27=>k_is
    case h28=>k_is
    case h29=>k_is
    case h30=>k_is
    case h31=>k_is
    case h32=>k_is
    case h33=>k_is
    case h34=>k_is
    case h35=>k_is
    case h36=>k_is
    case h37=>k_is
    case h38=>k_is
    case h39=>k_is
    case h40=>k_is
    case h41=>k_is
    case h42=>k_is
    case h43=>k_is
    case h44=>k_is
    case h45=>k_is
    case h46=>k_is
    case h47=>k_is
    case h48=>k_is
    case h49=>k_is
    case h50=>k_is
    case h51=>k_is
    case h52=>k_is
    case h53=>k_is
    case h54=>k_is
    case h55=>k_is
    case h56=>k_is
    case h57=>k_is
    case h58=>k_is
    case h59=>k_is
    case h60=>k_is
    case h61=>k_is
    case h62=>k_is
    case h63=>k_is
    case h64=>k_is
    case h65=>k_is
    case h66=>k_is
    case h67=>k_is
    case h68=>k_is
    case h69=>k_is
    case h70=>k_is
    case h71=>k_is
    case h72=>k_is
    case h73=>k_is
    case h74=>k_is
    case h75=>k_is
    case h76=>k_is
    case h77=>k_is
    case h78=>k_is
    case h79=>k_is
    case h80=>k_is
    case h81=>k_is
    case h82=>k_is
    case h83=>k_is
    case h84=>k_is
    case h85=>k_is
    case h86=>k_is
    case h87=>k_is
    case h88=>k_is
    case h89=>k_is
    case h90=>k_is
    case h91=>k_is
    case h92=>k_is
    case h93=>k_is
    case h94=>k_is
    case h95=>k_is
    case h96=>k_is
    case h97=>k_is
    case h98=>k_is
    case h99=>k_is
    case h100=>k_is
    case h101=>k_is
    case h102=>k_is
    case h103=>k_is
    case h104=>k_is
    case h105=>k_is
    case h106=>k_is
    case h107=>k_is
    case h108=>k_is
    case h109=>k_is
    case h110=>k_is
    case h111=>k_is
    case h112=>k_is
    case h113=>k_is
    case h114=>k_is
    case h115=>k_is
    case h116=>k_is
    case h117=>k_is
    case h118=>k_is
    case h119=>k_is
    case h120=>k_is
    case h121=>k_is
    case h122=>k_is
    case h123=>k_is
    case h124=>k_is
    case h125=>k_is
    case h126=>k_is
    case h127=>k_is
    case h128=>k_is
    case h129=>k_is
    case h130=>k_is
    case h131=>k_is
    case h132=>k_is
    case h133=>k_is
    case h134=>k_is
    case h135=>k_is
    case h136=>k_is
    case h137=>k_is
    case h138=>k_is
    case h139=>k_is
    case h140=>k_is
    case h141=>k_is
    case h142=>k_is
    case h143=>k_is
    case h144=>k_is
    case h145=>k_is
    case h146=>k_is
    case h147=>k_is
    case h148=>k_is
    case h149=>k_is
    case h150=>k_is
    case h151=>k_is
    case h152=>k_is
    case h153=>k_is
    case h154=>k_is
    case h155=>k_is
    case h156=>k_is
    case h157=>k_is
    case h158=>k_is
    case h159=>k_is
    case h160=>k_is
    case h161=>k_is
    case h162=>k_is
    case h163=>k_is
    case h164=>k_is
    case h165=>k_is
    case h166=>k_is
    case h167=>k_is
    case h168=>k_is
    case h169=>k_is
    case h170=>k_is
    case h171=>k_is
    case h172=>k_is
    case h173=>k_is
    case h174=>k_is
    case h175=>k_is
    case h176=>k_is
    case h177=>k_is
    case h178=>k_is
    case h179=>k_is
    case h180=>k_is
    case h181=>k_is
    case h182=>k_is
    case h183=>k_is
    case h184=>k_is
    case h185=>k_is
    case h186=>k_is
    case h187=>k_is
    case h188=>k_is
    case h189=>k_is
    case h190=>k_is
    case h191=>k_is
    case h192=>k_is
    case h193=>k_is
    case h194=>k_is
    case h195=>k_is
    case h196=>k_is
    case h197=>k_is
    case h198=>k_is
    case h199=>k_is
    case h200=>k_is
    case h201=>k_is
    case h202=>k_is
    case h203=>k_is
    case h204=>k_is
    case h205=>k_is
    case h206=>k_is
    case h207=>k_is
    case h208=>k_is
    case h209=>k_is
    case h210=>k_is
    case h211=>k_is
    case h212=>k_is
    case h213=>k_is
    case h214=>k_is
    case h215=>k_is
    case h216=>k_is
    case h217=>k_is
    case h218=>k_is
    case h219=>k_is
    case h220=>k_is
    case h221=>k_is
    case h222=>k_is
    case h223=>k_is
    case h224=>k_is
    case h225=>k_is
    case h226=>k_is
    case h227=>k_is
    case h228=>k_is
    case h229=>k_is
    case h230=>k_is
    case h231=>k_is
    case h232=>k_is
    case h233=>k_is
    case h234=>k_is
    case h235=>k_is
    case h236=>k_is
    case h237=>k_is
    case h238=>k_is
    case h239=>k_is
    case h240=>k_is
    case h241=>k_is
    case h242=>k_is
    case h243=>k_is
    case h244=>k_is
    case h245=>k_is
    case h246=>k_is
    case h247=>k_is
    case h248=>k_is
    case h249=>k_is
    case h250=>k_is
    case h251=>k_is
    case h252=>k_is
    case h253=>k_is
    case h254=>k_is
    case h255=>k_is
    case h256=>k_is
    case h257=>k_is
    case h258=>k_is
    case h259=>k_is
    case h260=>k_is
    case h261=>k_is
    case h262=>k_is
    case h263=>k_is
    case h264=>k_is
    case h265=>k_is
    case h266=>k_is
    case h267=>k_is
    case h268=>k_is
    case h269=>k_is
    case h270=>k_is
    case h271=>k_is
    case h272=>k_is
    case h273=>k_is
    case h274=>k_is
    case h275=>k_is
    case h276=>k_is
    case h277=>k_is
    case h278=>k_is
    case h279=>k_is
    case h280=>k_is
    case h281=>k_is
    case h282=>k_is
    case h283=>k_is
    case h284=>k_is
    case h285=>k_is
    case h286=>k_is
    case h287=>k_is
    case h288=>k_is
    case h289=>k_is
    case h290=>k_is
    case h291=>k_is
    case h292=>k_is
    case h293=>k_is
    case h294=>k_is
    case h295=>k_is
    case h296=>k_is
    case h297=>kernel_rfl
    case h298=>kernel_rfl
    case h299=>k_is
    case h300=>k_is
    case h301=>kernel_rfl
    case h302=>kernel_rfl
    case h303=>k_is
    case h304=>k_is
    case h305=>kernel_rfl
    case h306=>kernel_rfl
    case h307=>k_is
    case h308=>k_is
    case h309=>kernel_rfl
    case h310=>kernel_rfl
    case h311=>k_is
    case h312=>kernel_rfl
    case h313=>kernel_rfl
    case h314=>k_is
    case h315=>kernel_rfl
    case h316=>kernel_rfl
    case h317=>k_is
    case h318=>kernel_rfl
    case h319=>kernel_rfl
    case h320=>k_is
    case h321=>k_is
    case h322=>k_is
    case h323=>k_is
    case h324=>k_is
    case h325=>k_is
    case h326=>k_is
    case h327=>k_is
    case h328=>k_is
    case h329=>k_is
    case h330=>k_is
    case h331=>k_is
    case h332=>k_is
    case h333=>k_is
    case h334=>k_is
    case h335=>k_is
    case h336=>k_is
    case h337=>k_is
    case h338=>k_is
    case h339=>k_is
    case h340=>k_is
    case h341=>k_is
    case h342=>k_is
    case h343=>k_is
    case h344=>k_is
    case h345=>k_is
    case h346=>k_is
    case h347=>k_is
    case h348=>k_is
    case h349=>k_is
    case h350=>k_is
    case h351=>k_is
    case h352=>k_is
    case h353=>k_is
    case h354=>k_is
    case h355=>k_is
    case h356=>k_is
    case h357=>k_is
    case h358=>k_is
    case h359=>k_is
    case h360=>k_is
    case h361=>k_is
    case h362=>k_is
    case h363=>k_is
    case h364=>k_is
    case h365=>k_is
    case h366=>k_is
    case h367=>k_is
    case h368=>k_is
    case h369=>k_is
    case h370=>k_is
    case h371=>k_is
    case h372=>k_is
    case h373=>k_is
    case h374=>k_is
    case h375=>k_is
    case h376=>k_is
    case h377=>k_is
    case h378=>k_is
    case h379=>k_is
    case h380=>k_is
    case h381=>k_is
    case h382=>k_is
    case h383=>k_is
    case h384=>k_is
    case h385=>k_is
    case h386=>k_is
    case h387=>k_is
    case h388=>k_is
    case h389=>k_is
    case h390=>k_is
    case h391=>k_is
    case h392=>k_is
    case h393=>k_is
    case h394=>k_is
    case h395=>k_is
    case h396=>k_is
    case h397=>k_is
    case h398=>k_is
    case h399=>k_is
    case h400=>k_is
    case h401=>k_is
    case h402=>k_is
    case h403=>k_is
    case h404=>k_is
    case h405=>k_is
    case h406=>k_is
    case h407=>k_is
    case h408=>k_is
    case h409=>k_is
    case h410=>k_is
    case h411=>k_is
    case h412=>k_is
    case h413=>k_is
    case h414=>k_is
    case h415=>k_is
    case h416=>k_is
    case h417=>k_is
    case h418=>k_is
    case h419=>k_is
    case h420=>k_is
    case h421=>k_is
    case h422=>k_is
    case h423=>k_is
    case h424=>k_is
    case h425=>k_is
    case h426=>k_is
    case h427=>k_is
    case h428=>k_is
    case h429=>k_is
    case h430=>k_is
    case h431=>rfl
    case h432=>k_is
    case h433=>rfl
    case h434=>rfl
    case h435=>kernel_rfl
    case h436=>decide
    case h437=>kernel_rfl
    case h438=>kernel_rfl
    case h439=>kernel_rfl
    case h440=>kernel_rfl
    case h441=>kernel_rfl
    case h442=>kernel_rfl
    case h443=>kernel_rfl
    case h444=>kernel_rfl
    case h445=>kernel_rfl
    case h446=>kernel_rfl
    case h447=>kernel_rfl
    case h448=>kernel_rfl
   case bb=>exact fun s v=>.of_eq rfl
  obtain ⟨a,b,T⟩:=T
  have e:=hmg.symm.trans T.f_law.mgx
  cases e
  exact ⟨a.d_law,K74.spLaw (L2.KOf KX) a,[(a.Jhz,K74.lb_lost_alone)],b,List.forall_mem_cons.mpr ⟨L2.tab_kn (y:="lost_alone") TB rfl T.Jde,fun _ z=>nomatch z⟩,T.tnd,fun base kb nb B=>K74.ok_law T B,fun H x ns hl ht hS=>⟨x,ns,rfl,hS,hl,ht _ (.head _),fun _=>rfl⟩⟩
 case C=>exact fun _ _ _ _ z=>z
#print axioms PySem.Challenge.cw_weirwatch_k74_least_promises_holds
