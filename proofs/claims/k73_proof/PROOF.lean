import PyProof.Rows.All
import Wide.All
import OpenK.AllK
import Wide.FinOn
import Lean
import PyProof.EqAt
import PyProof.EqKinds
import PyProof.TupleCall
import PySem.Challenge.RW_weirwatch_k73_promises_refused
open Or renaming inl → ye, inr → yad
open List renaming length_map → yf, mem_cons → ym, getElem?_eq_getElem → yn, getElem?_map → yp, not_mem_nil → yr, size_toArray → yt, range → yu, getElem?_eq_some_iff → yv, map_append → yab, mem_of_getElem? → yae, length_take → yaf, mem_range → yaj, mem_cons_of_mem → yak, take_of_length_le → yam, take_add_one → yan, getD_eq_getElem?_getD → yao, mem_cons_self → yaq, all_eq_true → yar, replicate → yat, nodup_cons → yav, lookup_cons → yaw, append_nil → yax, length_append → yay, map_cons → ybb, mem_map → ybd, mem_singleton → ybe, length_range → ybf, mem_append_right → ybh, length_cons → ybj, nodup_nil → ybk, mem_filter → ybl, getElem_mem → ybn, lookup → ybp, countP_cons → ybt, mem_append → ybu, length_replicate → ybx, Pairwise → yby, range_succ → yca, length_filter_le → ycb, find?_cons → ycd, forIn_cons → yce, filterMap_cons → ych, mem_append_left → yci, getElem?_append_right → ycj, getElem?_append_left → yck, getElem_of_mem → ycl, contains_iff_mem → ycm, filter_append → yco, replicate_succ' → ycp, filter_cons → ycq, getElem?_zip_eq_some → ycr
open Nat renaming le_refl → yg, ne_of_lt → yq, le_trans → yz, lt_of_lt_of_le → yah, zero_le → yal, le_of_lt → yap, not_lt → yas, ne_of_gt → yau, lt_irrefl → yba, lt_succ_self → ybq, lt_trans → ybr, lt_succ_of_lt → ybs, le_of_eq → ybw, lt_of_le_of_lt → ycf
open PySem.Heap renaming get?_push_of_some → yi, lt_size → yj, get?_push_size → yo, size_push → yaa, SameBut → yai, get?_update_other → yaz, get?_update_self → ybm
open Ne renaming symm → yk
open Bool renaming false_ne_true → yw, and_eq_true → yac, eq_iff_iff → ybi, false_and → ybv
open Sum renaming inl → yx
open Option renaming some → yy, map_eq_some_iff → yag, isSome_iff_exists → ycc
open Int renaming toNat_natCast → ybc, eq_ofNat_of_zero_le → ycn
open Array renaming length_toList → ybg, getD → ybo, getElem?_eq_some_iff → ybz, getElem?_eq_getElem → ycg
set_option Elab.async false
set_option linter.all false
set_option maxRecDepth 100000
namespace L2
open PySem PySem.Spec PyProof.Rows
abbrev Key:=Sum Int Str
def Jqt:Key->Value->Bool
 | .inl k,v=>Value.isInt k v
 | .inr x,v=>Value.isStrOf x v
def keyH (w:World):Key->Int
 | .inl k=>hashInt k
 | .inr x=>hashStr w x
theorem Jkz:∀{k:Key} {v:Value},Jqt k v=true->(∃i t,k=yx i/\v=Value.int i t)\/(∃x t,k=Sum.inr x/\v=Value.str x t)
 | .inl i,v,h=>by
  obtain ⟨t,e⟩:=Value.isInt_shape (k:=i) (v:=v) h
  exact .inl ⟨i,t,rfl,e⟩
 | .inr x,v,h=>by
  obtain ⟨t,e⟩:=Value.isStrOf_shape (x:=x) (v:=v) h
  exact .inr ⟨x,t,rfl,e⟩
theorem Jzj (i:Int) (t:Tok):Jqt (.inl i) (.int i t)=true:=by simp [Jqt,Value.isInt]
theorem Jzk (x:Str) (t:Tok):Jqt (.inr x) (.str x t)=true:=by simp [Jqt,Value.isStrOf]
theorem key_ll (a b:Int):decide ((yx a:Key)=yx b)=(a==b):=by
 by_cases e:a=b
 ·subst e;simp
 ·have h:¬(yx a:Key)=yx b:=λq=>e (yx.inj q)
  rw [decide_eq_false h]
  exact (beq_eq_false_iff_ne.mpr e).symm
theorem key_rr (a b:Str):decide ((Sum.inr a:Key)=Sum.inr b)=decide (a=b):=by
 by_cases e:a=b
 ·subst e;simp
 ·have h:¬(Sum.inr a:Key)=Sum.inr b:=λq=>e (Sum.inr.inj q)
  rw [decide_eq_false h,decide_eq_false e]
theorem key_lr (a:Int) (b:Str):decide ((yx a:Key)=Sum.inr b)=false:=decide_eq_false (λq=>nomatch q)
theorem key_rl (a:Str) (b:Int):decide ((Sum.inr a:Key)=yx b)=false:=decide_eq_false (λq=>nomatch q)
def Jjm (prog:Program) (w:World):PySem.KeyKind prog w Key where
 is:=Jqt
 hash:=keyH w
 inj:=λv a b ha hb=>by
  rcases Jkz ha with ⟨i,t,rfl,rfl⟩|⟨x,t,rfl,rfl⟩
  ·rcases Jkz hb with ⟨j,u,rfl,e⟩|⟨y,u,rfl,e⟩
   ·injection e with e1 _;rw [e1]
   ·exact nomatch e
  ·rcases Jkz hb with ⟨j,u,rfl,e⟩|⟨y,u,rfl,e⟩
   ·exact nomatch e
   ·injection e with e1 _;rw [e1]
 byValue:=λk v h=>by
  rcases Jkz h with ⟨i,t,rfl,rfl⟩|⟨x,t,rfl,rfl⟩ <;> rfl
 pyHash:=λhv h=>by
  rcases Jkz hv with ⟨i,t,rfl,rfl⟩|⟨x,t,rfl,rfl⟩
  ·exact wpAny_pyHash_int h
  ·exact wpAny_pyHash_str h
 eqBool:=λhu hv h=>by
  rcases Jkz hu with ⟨i,t,rfl,rfl⟩|⟨x,t,rfl,rfl⟩
  ·rcases Jkz hv with ⟨j,u,rfl,rfl⟩|⟨y,u,rfl,rfl⟩
   ·rw [key_ll] at h;exact wpAny_eqBool_int h
   ·rw [key_lr] at h;exact SeqAt.EqAt.int_str i t y u _ _ _ _ h
  ·rcases Jkz hv with ⟨j,u,rfl,rfl⟩|⟨y,u,rfl,rfl⟩
   ·rw [key_rl] at h;exact SeqAt.EqAt.str_int x t j u _ _ _ _ h
   ·rw [key_rr] at h;exact wpAny_eqBool_str h
 «strs»:=λk x t v h=>by
  rcases Jkz h with ⟨i,u,rfl,e⟩|⟨y,u,rfl,e⟩
  ·exact nomatch e
  ·injection e with e1 _
   subst e1
   cases v <;> rfl
theorem Jxf (prog:Program) (w:World) (k:Key) (v:Value):(Jjm prog w).is k v=Jqt k v:=rfl
theorem Jnp (prog:Program) (w:World) (i:Int) (t:Tok):(Jjm prog w).is (.inl i) (.int i t)=true:=Jzj i t
theorem Jnq (prog:Program) (w:World) (x:Str) (t:Tok):(Jjm prog w).is (.inr x) (.str x t)=true:=Jzk x t
end L2
namespace L2
open PySem PySem.Spec PyProof.Rows
inductive V where
 |non|bl (b:Bool)|int (i:Int)|str (x:Str)|byt (b:Array UInt8)|flt (b:UInt64)|ref (a:Addr)|ty (n:String)
 deriving DecidableEq
def RelV:V->Value->Prop
 | .non,u=>u=Value.none
 | .bl b,u=>u=Value.bool b
 | .int i,u=>∃t,u=Value.int i t
 | .str x,u=>∃t,u=Value.str x t
 | .byt b,u=>∃t,u=Value.bytes b t
 | .flt b,u=>∃t,u=Value.float b t
 | .ref a,u=>u=Value.ref a
 | .ty n,u=>u=Value.type n
abbrev Vals:List V->List Value->Prop:=Paired RelV
theorem Vals.length {xs:List V} {us:List Value} (r:Vals xs us):xs.length=us.length:=Paired.length r
theorem Vals.get:∀{xs:List V} {us:List Value} {i:Nat} {x:V},Vals xs us->xs[i]?=some x->∃u,us[i]?=some u/\RelV x u
 |_,_,_,_,.nil,e=>by simp at e
 |_,_,0,_,.cons r _,e=>by simp at e;subst e;exact ⟨_,rfl,r⟩
 |_,_,i+1,x,.cons _ t,e=>by
  obtain ⟨u,h1,h2⟩:=Vals.get (i:=i) (x:=x) t (by simpa using e)
  exact ⟨u,by simpa using h1,h2⟩
theorem Vals.set {x:V} {u:Value} (r:RelV x u):∀{xs:List V} {us:List Value} (i:Nat),Vals xs us->Vals (xs.set i x) (us.set i u)
 |_,_,_,.nil=>.nil
 |_,_,0,.cons _ t=>.cons r t
 |_,_,i+1,.cons q t=>.cons q (Vals.set r i t)
theorem Vals.append:∀{xs ys:List V} {us ws:List Value},Vals xs us->Vals ys ws->Vals (xs++ys) (us++ws)
 |_,_,_,_,.nil,s=>s
 |_,_,_,_,.cons r t,s=>.cons r (Vals.append t s)
theorem Vals.take:∀{xs:List V} {us:List Value} (n:Nat),Vals xs us->Vals (xs.take n) (us.take n)
 |_,_,0,_=>.nil
 |_,_,_+1,.nil=>.nil
 |_,_,n+1,.cons r t=>.cons r (Vals.take n t)
theorem Vals.drop:∀{xs:List V} {us:List Value} (n:Nat),Vals xs us->Vals (xs.drop n) (us.drop n)
 |_,_,0,r=>r
 |_,_,_+1,.nil=>.nil
 |_,_,n+1,.cons _ t=>Vals.drop n t
def RelO:Option V->Option Value->Prop
 |some v,some u=>RelV v u
 |none,none=>True
 |_,_=>False
def KV {κ:Type}:List (κ×V)->List (κ×Value)->Prop:=Paired λ(p:κ×V) (q:κ×Value)=>p.1=q.1/\RelV p.2 q.2
def kV:Key->V
 | .inl i=>.int i
 | .inr x=>.str x
inductive HO where
 |lst (xs:List V)
 |tup (xs:List V)
 |dK (kvs:List (Key×V))|dT (kvs:List (List Key×V))
 |set (S:Int->Bool) (n:Nat)
 |ins (C dx:Addr) (fs:List (Str×V))
 |own (x:Addr)
 |xd (fs:List (Str×V))
 |cod (q:Str)
 |rng (lo hi:Int)
 |frz (o:Obj) (u:HO)
 |tbl (ps:Array (Nat×Nat×Str))
 |ext (φ:Heap->Prop)
abbrev Hp:=Addr->Option HO
def upd (H:Hp) (a:Addr) (o:HO):Hp:=λb=>if b=a then some o else H b
theorem Jj9 {H:Hp} {a:Addr} {o:HO}:upd H a o a=some o:=by unfold upd;rw [if_pos rfl]
theorem Jjg {H:Hp} {a b:Addr} {o:HO} (h:b≠a):upd H a o b=H b:=by unfold upd;rw [if_neg h]
theorem Jmq {H:Hp} {a:Addr} {o u:HO}:upd (upd H a o) a u=upd H a u:=by
 funext b;unfold upd;split <;> rfl
theorem ne_of {H:Hp} {a b:Addr} {o u:HO} (h:H a=some o) (h':H b=some u) (d:o≠u):a≠b:=by
 intro e;subst e;rw [h] at h';exact d (yy.inj h')
theorem Jjh {H:Hp} {a b:Addr} {o:HO} (h:H a=some o) (h':H b=none):a≠b:=by
 intro e;subst e;rw [h] at h';cases h'
def celF (o:Obj):HO:=.frz o (.ext λ_=>True)
def TrOk (H:Hp) (lb:Array (Nat×Nat×Str)):List Value->Prop
 | []=>True
 | .int l _:: .int c _::v::r=>(∃(n m:Nat) (q:Str) (a:Addr),(n,m,q)∈lb/\l=n/\c=m/\v= .ref a/\H a=some (.cod q))/\TrOk H lb r
 |_=>False
theorem TrOk.mono {H H':Hp} {lb:Array (Nat×Nat×Str)} (k:∀b q,H b=some (.cod q)->H' b=some (.cod q)) {l:List Value} (x:TrOk H lb l):TrOk H' lb l:=by
 fun_induction TrOk H lb l with
 |case1=>exact True.intro
 |case2 l _ c _ v r ih=>
  obtain ⟨⟨n,m,q,a,h1,h2,h3,h4,h5⟩,h6⟩:=x
  exact ⟨⟨n,m,q,a,h1,h2,h3,h4,k _ _ h5⟩,ih h6⟩
 |case3=>exact x.elim
section
variable (P:Program) (w:World)
def ObjOk (H:Hp) (h:Heap) (a:Addr):HO->Prop
 | .lst xs=>xs.length<=sizeLine/\∃(its:List Value) (n:Nat),Vals xs its/\h.get? a=some {cls:=.type "list",data:=.seq its.toArray n}
 | .tup xs=>xs.length<=sizeLine/\∃its:List Value,Vals xs its/\IsTup h a its.toArray
 | .dK kvs=>kvs.length<=sizeLine/\(a==sysModules)=false/\∃vs,KV kvs vs/\h.DictOf (Jjm P w) a vs
 | .dT kvs=>kvs.length<=sizeLine/\(a==sysModules)=false/\∃xs:List (List Key×Addr×Value),
   Paired (λ(p:List Key×V) (q:List Key×Addr×Value)=>p.1=q.1/\H q.2.1=some (.tup (p.1.map kV))/\RelV p.2 q.2.2) kvs xs/\
   ∃o es ep,h.get? a=some o/\o.ExactDict/\o.data= .dict es ep/\es.toList=xs.map (entryOfKey (tupleKind (Jjm P w)))/\(xs.map (·.1)).Nodup
 | .set S n=>h.SetOf (intKind P w) a S n
 | .ins C dx fs=>H dx=some (.own a)/\fs.length<=1000/\dx≠a/\h.get? a=some (PySem.W.instObj C dx)/\
   ∃mA,h.Ns1 dx mA/\(∀f,RelO (fs.lookup f) (mA f))/\PySem.Within mA (fs.map (·.1))
 | .own _=>∃o,h.get? a=some o
 | .xd fs=>∃mA,h.Ns1 a mA/\∀f,RelO (fs.lookup f) (mA f)
 | .rng lo hi=>∃t u v,h.get? a=some {cls:=.type "range",data:=.fields #[.int lo t,.int hi u,.int 1 v]}
 | .frz o u=>h.get? a=some o/\ObjOk H h a u
 | .tbl lb=>∃ts:Array Value,h.get? a=some ⟨.none,none,.fields ts,#[]⟩/\TrOk H lb ts.toList
 | .cod q=>h.CodeRec (.ref a) q
 | .ext φ=>φ h/\(∃o,h.get? a=some o)/\∀h1 h2:Heap,φ h1->(∀o,h1.get? a=some o->h2.get? a=some o)->φ h2
def HOk (H:Hp) (h:Heap):Prop:=∀a o,H a=some o->ObjOk P w H h a o
end
section
variable {P:Program} {w:World} {H H':Hp} {h h':Heap} {a:Addr} {o:HO}
theorem ObjOk.lt (x:ObjOk P w H h a o):a < h.objs.size:=by
 cases o with
 |lst xs=>obtain ⟨_,_,_,_,e⟩:=x;exact yj e
 |tup xs=>obtain ⟨_,_,_,p⟩:=x;exact p.lt
 |dK kvs=>obtain ⟨_,_,_,_,o,_,_,e,_⟩:=x;exact yj e
 |dT kvs=>obtain ⟨_,_,_,_,o,_,_,e,_⟩:=x;exact yj e
 |set S n=>obtain ⟨o,_,_,_,e,_⟩:=x;exact yj e
 |ins C dx fs=>obtain ⟨_,_,_,e,_⟩:=x;exact yj e
 |own y=>obtain ⟨_,e⟩:=x;exact yj e
 |xd fs=>obtain ⟨_,⟨_,_,_,e,_⟩,_⟩:=x;exact yj e
 |rng lo hi=>obtain ⟨_,_,_,e⟩:=x;exact yj e
 |frz ob u=>obtain ⟨e,_⟩:=x;exact yj e
 |tbl lb=>obtain ⟨_,e,_⟩:=x;exact yj e
 |cod q=>obtain ⟨_,_,_,_,e1,e2,_⟩:=x;cases e1;exact yj e2
 |ext φ=>obtain ⟨_,⟨_,e⟩,_⟩:=x;exact yj e
theorem Paired.mapP {α β:Type} {F G:α->β->Prop}:∀{l₁:List α} {l₂:List β},Paired F l₁ l₂->(∀a b,F a b->G a b)->Paired G l₁ l₂
 |_,_,.nil,_=>.nil
 |_,_,.cons r t,f=>.cons (f _ _ r) (Paired.mapP t f)
theorem ObjOk.stay (x:ObjOk P w H h a o) (k:∀b u,(b=a\/H b=some (.own a))->h.get? b=some u->h'.get? b=some u)
  (ho:∀b,H b=some (.own a)->H' b=some (.own a)) (ht:∀b xs,H b=some (.tup xs)->H' b=some (.tup xs)) (hc:∀b q,H b=some (.cod q)->H' b=some (.cod q)):ObjOk P w H' h' a o:=by
 induction o with
 |lst xs=>obtain ⟨z,its,n,r,e⟩:=x;exact ⟨z,its,n,r,k _ _ (.inl rfl) e⟩
 |tup xs=>obtain ⟨z,its,r,ob,e,c⟩:=x;exact ⟨z,its,r,ob,k _ _ (.inl rfl) e,c⟩
 |dK kvs=>obtain ⟨z,y,vs,r,ob,es,ep,e,c⟩:=x;exact ⟨z,y,vs,r,ob,es,ep,k _ _ (.inl rfl) e,c⟩
 |dT kvs=>
  obtain ⟨z,y,xs,r,ob,es,ep,e,c⟩:=x
  exact ⟨z,y,xs,Paired.mapP r λp q z=>⟨z.1,ht _ _ z.2.1,z.2.2⟩,ob,es,ep,k _ _ (.inl rfl) e,c⟩
 |set S n=>obtain ⟨ob,es,ep,t,e,c⟩:=x;exact ⟨ob,es,ep,t,k _ _ (.inl rfl) e,c⟩
 |ins C dx fs=>
  obtain ⟨d,z,ne,e,mA,⟨od,es,ep,e2,c⟩,r⟩:=x
  exact ⟨ho _ d,z,ne,k _ _ (.inl rfl) e,mA,⟨od,es,ep,k _ _ (.inr d) e2,c⟩,r⟩
 |own y=>obtain ⟨ob,e⟩:=x;exact ⟨ob,k _ _ (.inl rfl) e⟩
 |xd fs=>obtain ⟨mA,⟨od,es,ep,e,c⟩,r⟩:=x;exact ⟨mA,⟨od,es,ep,k _ _ (.inl rfl) e,c⟩,r⟩
 |rng lo hi=>obtain ⟨t,u,v,e⟩:=x;exact ⟨t,u,v,k _ _ (.inl rfl) e⟩
 |frz ob u ih=>obtain ⟨e,q⟩:=x;exact ⟨k _ _ (.inl rfl) e,ih q⟩
 |tbl lb=>obtain ⟨ts,e,r⟩:=x;exact ⟨ts,k _ _ (.inl rfl) e,r.mono hc⟩
 |cod q=>obtain ⟨c,o,vs,t,e1,e2,e3,e4⟩:=x;cases e1;exact ⟨_,o,vs,t,rfl,k _ _ (.inl rfl) e2,e3,e4⟩
 |ext φ=>obtain ⟨p,⟨o,e⟩,st⟩:=x;exact ⟨st _ _ p λo q=>k _ _ (.inl rfl) q,⟨o,k _ _ (.inl rfl) e⟩,st⟩
theorem HOk.lt (x:HOk P w H h) (e:H a=some o):a < h.objs.size:=(x a o e).lt
theorem HOk.fresh (x:HOk P w H h) (e:h.objs.size<=a):H a=none:=by
 cases q:H a with
 |none=>rfl
 |some u=>exact absurd (yah (x.lt q) e) (yba _)
theorem HOk.kept (x:HOk P w H h) (k:∀b u,h.get? b=some u->h'.get? b=some u):HOk P w H h':=λa o e=>
 (x a o e).stay (λb u _ q=>k b u q) (λ_ q=>q) (λ_ _ q=>q) λ_ _ q=>q
theorem HOk.laid (x:HOk P w H h) (k:∀b u,h.get? b=some u->h'.get? b=some u) (hp:h.objs.size<=a) (new:ObjOk P w (upd H a o) h' a o):HOk P w (upd H a o) h':=λb u e=>by
 have hn:=x.fresh hp
 by_cases hb:b=a
 ·subst hb;rw [Jj9] at e;cases e;exact new
 ·rw [Jjg hb] at e
  exact (x b u e).stay (λc v _ q=>k c v q) (λc q=>by rw [Jjg (Jjh q hn)];exact q) (λc xs q=>by rw [Jjg (Jjh q hn)];exact q) λc xs q=>by rw [Jjg (Jjh q hn)];exact q
end
def Rd (H:Hp) (a:Addr) (u:HO):Prop:=H a=some u\/∃o,H a=some (.frz o u)
theorem Rd.ok {P:Program} {w:World} {H:Hp} {h:Heap} {a:Addr} {u:HO} (r:Rd H a u) (x:HOk P w H h):ObjOk P w H h a u:=by
 rcases r with r|⟨o,r⟩
 ·exact x a u r
 ·obtain ⟨_,q⟩:=x a _ r
  exact q
def Mut:Option HO->Prop
 |some (.lst _)=>True
 |some (.dK _)=>True
 |some (.dT _)=>True
 |some (.set _ _)=>True
 |some (.ins _ _ _)=>True
 |some (.ext _)=>True
 |_=>False
section
variable {P:Program} {w:World} {H:Hp} {h h':Heap} {x e:Addr} {o':HO}
theorem HOk.write (ok:HOk P w H h) (mu:Mut (H x)) (he:e=x\/H e=some (.own x)) (k:∀b u,b≠e->h.get? b=some u->h'.get? b=some u) (heo:∃u,h'.get? e=some u)
  (new:ObjOk P w (upd H x o') h' x o'):HOk P w (upd H x o') h':=λb u q=>by
 have nown:∀c y,H c=some (.own y)->c≠x:=λc y r z=>by subst z;rw [r] at mu;exact mu
 have ntup:∀c xs,H c=some (.tup xs)->c≠x:=λc xs r z=>by subst z;rw [r] at mu;exact mu
 by_cases hb:b=x
 ·subst hb;rw [Jj9] at q;cases q;exact new
 ·rw [Jjg hb] at q
  by_cases hbe:b=e
  ·have q':H b=some (.own x):=by
    rcases he with z|z
    ·exact absurd (hbe.trans z) hb
    ·rw [hbe];exact z
   rw [q] at q';cases q'
   obtain ⟨v,hv⟩:=heo
   exact ⟨v,by rw [hbe];exact hv⟩
  ·refine (ok b u q).stay (λc v hc r=>k c v ?_ r) (λc r=>by rw [Jjg (nown c b r)];exact r) (λc xs r=>by rw [Jjg (ntup c xs r)];exact r) λc xs r=>by rw [Jjg λz=>by subst z;rw [r] at mu;exact mu];exact r
   rcases hc with rfl|hc
   ·exact hbe
   ·rintro rfl
    rcases he with z|z
    ·exact nown c b hc z
    ·rw [hc] at z;cases z;exact hb rfl
end
structure Un (fs ex:List Addr) (H H':Hp) (h h':Heap):Prop where
 keep:∀b o,h.get? b=some o->H b=none->b∉fs->b∉ex->h'.get? b=some o
 slot:∀b o,h.get? b=some o->H b=none->b∈fs->b∉ex->∃sl,h'.get? b=some {o with slots:=sl}
 free:∀b o,h.get? b=some o->H b=none->b∉ex->H' b=none
 there:∀b o,h.get? b=some o->b∉ex->∃o',h'.get? b=some o'
 tups:∀b xs,H b=some (.tup xs)->H' b=some (.tup xs)
 frzs:∀b o u,H b=some (.frz o u)->H' b=some (.frz o u)
 tbls:∀b ps,H b=some (.tbl ps)->∃more,H' b=some (.tbl (ps++more))
section
variable {fs fs' ex ex':List Addr} {H H1 H2:Hp} {h h1 h2 h':Heap} {a x e:Addr} {o:HO}
theorem Un.any (u:Un fs ex H H1 h h1) {b:Addr} {ob:Obj} (q:h.get? b=some ob) (n:H b=none) (hx:b∉ex):∃sl,h1.get? b=some {ob with slots:=sl}:=by
 by_cases hb:b∈fs
 ·exact u.slot b ob q n hb hx
 ·exact ⟨ob.slots,u.keep b ob q n hb hx⟩
theorem Un.trans (a:Un fs ex H H1 h h1) (b:Un fs ex H1 H2 h1 h2):Un fs ex H H2 h h2 where
 keep:=λc ob q n hc hx=>b.keep c ob (a.keep c ob q n hc hx) (a.free c ob q n hx) hc hx
 slot:=λc ob q n hc hx=>by
  obtain ⟨sl,e1⟩:=a.slot c ob q n hc hx
  obtain ⟨sl',e2⟩:=b.slot c _ e1 (a.free c ob q n hx) hc hx
  exact ⟨sl',e2⟩
 free:=λc ob q n hx=>by
  obtain ⟨o',e1⟩:=a.there c ob q hx
  exact b.free c o' e1 (a.free c ob q n hx) hx
 there:=λc ob q hx=>by
  obtain ⟨o',e1⟩:=a.there c ob q hx
  exact b.there c o' e1 hx
 tups:=λc xs q=>b.tups c xs (a.tups c xs q)
 frzs:=λc ob xs q=>b.frzs c ob xs (a.frzs c ob xs q)
 tbls:=λc ps q=>by
  obtain ⟨m1,e1⟩:=a.tbls c ps q
  obtain ⟨m2,e2⟩:=b.tbls c _ e1
  exact ⟨m1++m2,by rw [e2,Array.append_assoc]⟩
theorem Un.kept (k:∀b u,h.get? b=some u->h'.get? b=some u):Un fs ex H H h h':=
 ⟨λb ob q _ _ _=>k b ob q,λb ob q _ _ _=>⟨ob.slots,k b ob q⟩,λ_ _ _ n _=>n,λb ob q _=>⟨ob,k b ob q⟩,λ_ _ q=>q,λ_ _ _ q=>q,λ_ ps q=>⟨#[],by rw [q];simp⟩⟩
theorem Un.refl:Un fs ex H H h h:=Un.kept λ_ _ q=>q
theorem Un.laid (k:∀b u,h.get? b=some u->h'.get? b=some u) (hp:h.objs.size<=a) (hn:H a=none):Un fs ex H (upd H a o) h h' where
 keep:=λb u q _ _ _=>k b u q
 slot:=λb u q _ _ _=>⟨u.slots,k b u q⟩
 free:=λb u q n _=>by rw [Jjg (yq (yah (yj q) hp))];exact n
 there:=λb u q _=>⟨u,k b u q⟩
 tups:=λb xs q=>by rw [Jjg (Jjh q hn)];exact q
 frzs:=λb u xs q=>by rw [Jjg (Jjh q hn)];exact q
 tbls:=λb ps q=>⟨#[],by rw [Jjg (Jjh q hn),q];simp⟩
theorem Un.write (mu:Mut (H x)) (he:e=x\/H e=some (.own x)) (k:∀b u,b≠e->h.get? b=some u->h'.get? b=some u) (heo:∃u,h'.get? e=some u):Un fs ex H (upd H x o) h h':=by
 have hx:∀b,H b=none->b≠x:=λb n z=>by subst z;rw [n] at mu;exact mu
 have hb:∀b,H b=none->b≠e:=λb n z=>by
  subst z
  rcases he with r|r
  ·exact hx b n r
  ·rw [n] at r;cases r
 have hm:∀b u,H b=some u->¬Mut (some u)->b≠x:=λb u q nm z=>by subst z;rw [q] at mu;exact nm mu
 refine ⟨λb u q n _ _=>k b u (hb b n) q,λb u q n _ _=>⟨u.slots,k b u (hb b n) q⟩,λb u q n _=>by rw [Jjg (hx b n)];exact n,λb u q _=>?_,
  λb xs q=>by rw [Jjg (hm b _ q λz=>z)];exact q,λb u xs q=>by rw [Jjg (hm b _ q λz=>z)];exact q,λb ps q=>⟨#[],by rw [Jjg (hm b _ q λz=>z),q];simp⟩⟩
 by_cases hbe:b=e
 ·subst hbe;exact heo
 ·exact ⟨u,k b u hbe q⟩
end
def trk (h:Heap) (H:Hp):List Addr:=(yu h.objs.size).filter λa=>(H a).isSome
def Jur (h:Heap) (H:Hp):Heap:=PySem.W.hideAll h (trk h H)
theorem Jze (h:Heap) (H:Hp):(Jur h H).objs.size=h.objs.size:=PySem.W.hideAll_size _ _
theorem Jrq {h:Heap} {H:Hp} {b:Addr} {o:Obj} (e:h.get? b=some o) (n:H b=none):(Jur h H).get? b=some o:=
 PySem.W.hideAll_get _ e λhm=>by
  have q:(H b).isSome=true:=(ybl.mp hm).2
  rw [n] at q;simp at q
theorem Yco {h:Heap} {H:Hp} {b:Addr} {o:Obj} (e:(Jur h H).get? b=some o):h.get? b=some o/\H b=none:=by
 have e':h.get? b=some o:=PySem.W.of_hideAll (trk h H) e
 refine ⟨e',?_⟩
 cases q:H b with
 |none=>rfl
 |some x=>
  have hm:b∈trk h H:=ybl.mpr ⟨yaj.mpr (yj e'),by simp [q]⟩
  have z:(Jur h H).get? b=none:=PySem.W.hideAll_none (trk h H) hm
  rw [z] at e;cases e
end L2
namespace L2
open PySem PySem.Spec PyProof.Rows
structure Mod (K:PySem.W.Frag) (mg:Str->Option Value) (base:Heap):Prop where
 kin:K.In base
 glob:base.Ns mainGlobals mg
 blt:∃mb,base.Ns builtinsNs mb/\∀x:Str,x≠"__name__" ->mb x=bootBuiltins x
 nolimit:base.NoLimit
structure Cx where
 prog:Program
 w:World
 K:PySem.W.Frag
 mg:Str->Option Value
 base:Heap
 A:Around
 N:List Str
 s₀:Shared
 H₀:Hp
 env:Env
 outer:List Env
 stack:List Env
 ex:List Addr
 fn:Str->Bool
 calm:Bool
 pn:List (Addr×Obj)
 xe:Value->Shared->Prop
def frs (l:List Env):List Addr:=l.filterMap (·.frame)
abbrev Cx.fs (X:Cx):List Addr:=frs X.outer
def Vis (sc:Scope) (x:Str):Prop:=sc.names.lookup x=some .local\/sc.names.lookup x=some .cell\/sc.names.lookup x=some .free
def Loc (sc:Scope) (x:Str):Prop:=sc.names.lookup x=some .local\/sc.names.lookup x=some .cell
def Look (env:Env) (h:Heap) (m:Str->Option Value) (x:Str) (u:Value):Prop:=
 (env.kindOf x=some .local/\m x=some u)\/((env.kindOf x=some .cell\/env.kindOf x=some .free)/\∃c,env.cells.lookup x=some c/\h.IsCell c (some u))
structure Cx.Ok (X:Cx):Prop where
 mod:Mod X.K X.mg X.base
 kind:X.env.scope.kind= .function
 glob:X.env.globals=mainGlobals
 blt:X.env.builtins=builtinsNs
 above:X.s₀.heap.objs.size<=X.env.locals
 inj:∀x y c,X.env.cells.lookup x=some c->X.env.cells.lookup y=some c->x=y
 has:∀x,(X.env.kindOf x=some .cell\/X.env.kindOf x=some .free)->∃c,X.env.cells.lookup x=some c
 cab:∀x c,X.fn x=true->X.env.cells.lookup x=some c->X.s₀.heap.objs.size<=c
 hd:X.calm=true->X.A.handled=none
 frames:X.A.frames=some X.stack
 stk:X.stack=X.outer\/(X.stack=X.env::X.outer/\X.env.frame=some X.env.locals)
 exf:∀b∈X.ex,b≠X.env.locals/\∀x c,X.env.cells.lookup x=some c->c≠b
 bs:∀b o,X.base.get? b=some o->X.s₀.heap.get? b=some o/\X.H₀ b=none
 bsz:X.base.objs.size<=X.s₀.heap.objs.size
 noex:∀b o,X.base.get? b=some o->b∉X.ex
 exfs:∀b∈X.ex,b∉X.fs
 funs:X.s₀.heap.FunFrames X.base X.outer
 frf:∀b∈X.fs,X.H₀ b=none
structure Inv (X:Cx) (pins:List (Addr×Obj)) (σ:List (Option V)) (H:Hp) (s:Shared):Prop where
 ok:X.Ok
 os:s.os=X.s₀.os
 bare:AllBare s.gens
 base:Un X.fs X.ex X.H₀ H X.s₀.heap s.heap
 loc:∃m,s.heap.Ns X.env.locals m/\∀(i:Nat) (x:Str) (v:V),X.N[i]?=some x->σ[i]?=some (some v)->Vis X.env.scope x->∃u,RelV v u/\Look X.env s.heap m x u
 cell:∀x c,X.env.cells.lookup x=some c->∃v,s.heap.IsCell c v
 free:H X.env.locals=none
 freeC:∀x c,X.env.cells.lookup x=some c->H c=none\/(X.fn x=false/\∃o,H c=some (celF o))
 pin:∀p∈X.pn++pins,s.heap.get? p.1=some p.2/\H p.1=none/\p.1≠X.env.locals/\p.1∉X.fs/\∀v,p.2.data≠ .cell v
 hok:HOk X.prog X.w H s.heap
 len:σ.length=X.N.length
section
variable {X:Cx} {pins:List (Addr×Obj)} {σ:List (Option V)} {H H':Hp} {s:Shared} {h':Heap}
theorem Cx.Ok.nofr (ok:X.Ok) {b:Addr} {o:Obj} (e:X.base.get? b=some o):b∉X.fs:=λhb=>by
 have:=(ok.funs.mem hb).1
 rw [e] at this;cases this
theorem Inv.bs (I:Inv X pins σ H s):∀b o,X.base.get? b=some o->s.heap.get? b=some o/\H b=none:=λb o e=>
 ⟨I.base.keep b o (I.ok.bs b o e).1 (I.ok.bs b o e).2 (I.ok.nofr e) (I.ok.noex b o e),I.base.free b o (I.ok.bs b o e).1 (I.ok.bs b o e).2 (I.ok.noex b o e)⟩
theorem Inv.bk (I:Inv X pins σ H s):∀b o,X.base.get? b=some o->s.heap.get? b=some o:=λb o e=>(I.bs b o e).1
theorem Inv.mod (I:Inv X pins σ H s):Mod X.K X.mg X.base:=I.ok.mod
theorem Inv.kIn (I:Inv X pins σ H s):X.K.In s.heap:=I.ok.mod.kin.keeps I.bk
theorem Inv.lt (I:Inv X pins σ H s):X.env.locals < s.heap.objs.size:=let ⟨_,hn,_⟩:=I.loc;hn.lt
theorem Inv.sz (I:Inv X pins σ H s):X.s₀.heap.objs.size<=s.heap.objs.size:=yz I.ok.above (yap I.lt)
theorem Inv.nofs (I:Inv X pins σ H s) {a:Addr} (h:s.heap.objs.size<=a):a∉X.fs:=λhb=>by
 obtain ⟨_,o,ho,_⟩:=I.ok.funs.mem hb
 exact absurd (yah (yj ho) (yz I.sz h)) (yba _)
theorem Inv.cne (I:Inv X pins σ H s):∀x c,X.env.cells.lookup x=some c->c≠X.env.locals:=λx c e z=>by
 obtain ⟨v,o,ho,hd⟩:=I.cell x c e
 obtain ⟨m,⟨o',es,ep,ho',hd',_⟩,_⟩:=I.loc
 rw [z,ho'] at ho;cases ho;rw [hd'] at hd;cases hd
theorem Inv.funs (I:Inv X pins σ H s):s.heap.FunFrames X.base X.outer:=by
 have all:∀(l:List Env),(∀b∈frs l,b∈X.fs)->X.s₀.heap.FunFrames X.base l->s.heap.FunFrames X.base l:=by
  intro l
  induction l with
  |nil=>intro _ _;trivial
  |cons env r ih=>
   intro hs hl
   obtain ⟨hk,⟨L,o,hf,hn,ho,hd⟩,hr⟩:=hl
   have hL:L∈X.fs:=hs L (by unfold frs;rw [ych,hf];exact yaq)
   obtain ⟨sl,e⟩:=I.base.slot L o ho (I.ok.frf L hL) hL λz=>I.ok.exfs L z hL
   exact ⟨hk,⟨L,_,hf,hn,e,hd⟩,ih (λb hb=>hs b (by unfold frs;rw [ych,hf];exact yak _ hb)) hr⟩
 exact all X.outer (λ_ hb=>hb) I.ok.funs
theorem Inv.stack (I:Inv X pins σ H s):s.heap.FunFrames X.base X.stack:=by
 rcases I.ok.stk with e|⟨e,hf⟩
 ·rw [e];exact I.funs
 ·rw [e]
  obtain ⟨m,hn,_⟩:=I.loc
  refine .cons (by rw [I.ok.kind];decide) hf hn ?_ I.funs
  exact Heap.get?_none_of_le (yz I.ok.bsz I.ok.above)
theorem Inv.stkSub (I:Inv X pins σ H s):∀b∈frs X.stack,b∈X.env.locals::X.fs:=λb hb=>by
 rcases I.ok.stk with e|⟨e,hf⟩
 ·rw [e] at hb;exact yak _ hb
 ·rw [e] at hb
  unfold frs at hb
  rw [ych,hf] at hb
  exact hb
theorem Inv.stkFree (I:Inv X pins σ H s):∀b∈frs X.stack,H b=none:=λb hb=>by
 rcases ym.mp (I.stkSub b hb) with e|hb
 ·rw [e];exact I.free
 ·obtain ⟨_,o,ho,_⟩:=I.ok.funs.mem hb
  exact I.base.free b o ho (I.ok.frf b hb) λz=>I.ok.exfs b z hb
theorem Inv.step {g':Array GenState} {t':Nat} {d':Drawn} {ch:List Addr} (I:Inv X pins σ H s)
  (hch:∀b∈ch,(b∈X.ex\/X.s₀.heap.objs.size<=b)/\b≠X.env.locals/\(∀x c,X.env.cells.lookup x=some c->c≠b)/\∀p∈X.pn++pins,p.1≠b)
  (keep:∀b o,b≠X.env.locals->b∉X.fs->b∉ch->s.heap.get? b=some o->H b=none->h'.get? b=some o)
  (slot:∀b o,b≠X.env.locals->b∈X.fs->b∉ch->s.heap.get? b=some o->H b=none->∃sl,h'.get? b=some {o with slots:=sl}) (free:∀b o,b∉ch->s.heap.get? b=some o->H b=none->H' b=none)
  (there:∀b o,b∉ch->s.heap.get? b=some o->∃o',h'.get? b=some o')
  (tups:∀b xs,H b=some (.tup xs)->H' b=some (.tup xs)) (frzs:∀b o u,H b=some (.frz o u)->H' b=some (.frz o u)) (tbls:∀b ps,H b=some (.tbl ps)->∃more,H' b=some (.tbl (ps++more)))
  (ns:∀m,s.heap.Ns X.env.locals m->h'.Ns X.env.locals m) (hok:HOk X.prog X.w H' h') (hg:AllBare g'):
  Inv X pins σ H' {s with heap:=h',gens:=g',drawn:=d',toks:=t'}:=by
 have neL:∀b o,X.s₀.heap.get? b=some o->b≠X.env.locals:=λb o e=>yq (yah (yj e) I.ok.above)
 have neC:∀b o,X.s₀.heap.get? b=some o->b∉X.ex->b∉ch:=λb o e hx hb=>by
  rcases (hch b hb).1 with z|z
  ·exact hx z
  ·exact absurd (yah (yj e) z) (yba _)
 have cellK:∀x c,X.env.cells.lookup x=some c->∀v,s.heap.IsCell c v->h'.IsCell c v:=λx c e v ⟨o,ho,hd⟩=>by
  have nch:c∉ch:=λz=>(hch c z).2.2.1 x c e rfl
  rcases I.freeC x c e with n|⟨_,ob,q⟩
  ·by_cases hc:c∈X.fs
   ·obtain ⟨sl,q⟩:=slot c o (I.cne x c e) hc nch ho n
    exact ⟨_,q,hd⟩
   ·exact ⟨o,keep c o (I.cne x c e) hc nch ho n,hd⟩
  ·obtain ⟨e1,_⟩:=I.hok c _ q
   obtain ⟨e2,_⟩:=hok c _ (frzs c ob _ q)
   rw [ho] at e1;cases e1
   exact ⟨_,e2,hd⟩
 refine ⟨I.ok,I.os,hg,⟨λb o e n hb hx=>?_,λb o e n hb hx=>?_,λb o e n hx=>?_,λb o e hx=>?_,λb xs e=>tups b xs (I.base.tups b xs e),λb o xs e=>frzs b o xs (I.base.frzs b o xs e),λb ps e=>?_⟩,?_,λx c e=>?_,?_,λx c e=>?_,λp hp=>?_,hok,I.len⟩
 ·exact keep b o (neL b o e) hb (neC b o e hx) (I.base.keep b o e n hb hx) (I.base.free b o e n hx)
 ·obtain ⟨sl,e1⟩:=I.base.slot b o e n hb hx
  obtain ⟨sl',e2⟩:=slot b _ (neL b o e) hb (neC b o e hx) e1 (I.base.free b o e n hx)
  exact ⟨sl',e2⟩
 ·obtain ⟨o',e1⟩:=I.base.there b o e hx
  exact free b o' (neC b o e hx) e1 (I.base.free b o e n hx)
 ·obtain ⟨o',e1⟩:=I.base.there b o e hx
  exact there b o' (neC b o e hx) e1
 ·obtain ⟨m1,e1⟩:=I.base.tbls b ps e
  obtain ⟨m2,e2⟩:=tbls b _ e1
  exact ⟨m1++m2,by rw [e2,Array.append_assoc]⟩
 ·obtain ⟨m,hn,hl⟩:=I.loc
  refine ⟨m,ns m hn,λi x v e1 e2 e3=>?_⟩
  obtain ⟨u,r,l⟩:=hl i x v e1 e2 e3
  refine ⟨u,r,?_⟩
  rcases l with l|⟨k,c,e,z⟩
  ·exact .inl l
  ·exact .inr ⟨k,c,e,cellK x c e _ z⟩
 ·obtain ⟨v,z⟩:=I.cell x c e
  exact ⟨v,cellK x c e v z⟩
 ·obtain ⟨m,⟨o,_,_,ho,_⟩,_⟩:=I.loc
  exact free _ o (λz=>(hch _ z).2.1 rfl) ho I.free
 ·obtain ⟨v,o,ho,hd⟩:=I.cell x c e
  rcases I.freeC x c e with n|⟨hf,ob,q⟩
  ·exact .inl (free c o (λz=>(hch c z).2.2.1 x c e rfl) ho n)
  ·exact .inr ⟨hf,ob,frzs c ob _ q⟩
 ·obtain ⟨e,n,ne,nf,d⟩:=I.pin p hp
  have nch:p.1∉ch:=λz=>(hch p.1 z).2.2.2 p hp rfl
  exact ⟨keep p.1 p.2 ne nf nch e n,free p.1 p.2 nch e n,ne,nf,d⟩
theorem Inv.un {t':Nat} (I:Inv X pins σ H s) (u:Un X.fs [] H H' s.heap h') (hok:HOk X.prog X.w H' h'):Inv X pins σ H' {s with heap:=h',toks:=t'}:=by
 obtain ⟨m,⟨o,es,ep,ho,r⟩,_⟩:=id I.loc
 obtain ⟨sl,hL⟩:=u.any ho I.free (by simp)
 exact I.step (g':=s.gens) (d':=s.drawn) (ch:=[]) (λ_ z=>nomatch z) (λb o _ hb _ e n=>u.keep b o e n hb (by simp)) (λb o _ hb _ e n=>u.slot b o e n hb (by simp)) (λb o _ e n=>u.free b o e n (by simp)) (λb o _ e=>u.there b o e (by simp)) u.tups u.frzs u.tbls (λm' hm=>by
  obtain ⟨o',es',ep',ho',r'⟩:=hm
  rw [ho] at ho';cases ho'
  exact ⟨_,es',ep',hL,r'⟩) hok I.bare
theorem Inv.call {g':Array GenState} {t':Nat} {d':Drawn} {ch:List Addr} (I:Inv X pins σ H s) (u:Un (frs X.stack) ch H H' s.heap h') (hok:HOk X.prog X.w H' h') (hg:AllBare g')
  (hch:∀b∈ch,(b∈X.ex\/X.s₀.heap.objs.size<=b)/\b≠X.env.locals/\(∀x c,X.env.cells.lookup x=some c->c≠b)/\∀p∈X.pn++pins,p.1≠b):
  Inv X pins σ H' {s with heap:=h',gens:=g',drawn:=d',toks:=t'}:=by
 obtain ⟨m,⟨o,es,ep,ho,r⟩,_⟩:=id I.loc
 obtain ⟨sl,hL⟩:=u.any ho I.free λz=>(hch _ z).2.1 rfl
 exact I.step (ch:=ch) hch (λb o hL hb hc e n=>u.keep b o e n (λz=>(ym.mp (I.stkSub b z)).elim hL hb) hc) (λb o _ _ hc e n=>u.any e n hc) (λb o hc e n=>u.free b o e n hc) (λb o hc e=>u.there b o e hc) u.tups u.frzs u.tbls (λm' hm=>by
  obtain ⟨o',es',ep',ho',r'⟩:=hm
  rw [ho] at ho';cases ho'
  exact ⟨_,es',ep',hL,r'⟩) hok hg
theorem Inv.turned {t':Nat} {it:Addr} (I:Inv X pins σ H s) (k:∀b o,b≠it->s.heap.get? b=some o->h'.get? b=some o) (hn:H it=none) (hL:it≠X.env.locals)
  (h1:it∈X.ex\/X.s₀.heap.objs.size<=it) (h2:∀x c,X.env.cells.lookup x=some c->c≠it) (h3:∀p∈X.pn++pins,p.1≠it):Inv X pins σ H {s with heap:=h',toks:=t'}:=by
 have nit:∀b u,H b=some u->b≠it:=λb u e z=>by rw [z,hn] at e;cases e
 refine I.step (g':=s.gens) (d':=s.drawn) (ch:=[it]) (λb hb=>?_) (λb o _ _ hc e _=>k b o (λz=>hc (by simp [z])) e) (λb o _ _ hc e _=>⟨o.slots,k b o (λz=>hc (by simp [z])) e⟩) (λ_ _ _ _ n=>n)
  (λb o hc e=>⟨o,k b o (λz=>hc (by simp [z])) e⟩) (λ_ _ e=>e) (λ_ _ _ e=>e) (λb ps e=>⟨#[],by rw [e];simp⟩) (λm hm=>?_) (λb u e=>?_) I.bare
 ·have e:b=it:=by simpa using hb
  subst e
  exact ⟨h1,hL,h2,h3⟩
 ·obtain ⟨o,es,ep,ho,r⟩:=hm
  exact ⟨o,es,ep,k _ o (yk hL) ho,r⟩
 ·refine (I.hok b u e).stay (λc v hc q=>k c v ?_ q) (λ_ q=>q) (λ_ _ q=>q) λ_ _ q=>q
  rcases hc with z|z
  ·rw [z];exact nit b u e
  ·exact nit c _ z
theorem Inv.tok (I:Inv X pins σ H s) (t:Nat):Inv X pins σ H {s with toks:=t}:=I.un (h':=s.heap) (t':=t) Un.refl I.hok
theorem Inv.kept {t':Nat} (I:Inv X pins σ H s) (k:∀b u,s.heap.get? b=some u->h'.get? b=some u):Inv X pins σ H {s with heap:=h',toks:=t'}:=I.un (Un.kept k) (I.hok.kept k)
theorem Inv.laid {a:Addr} {o:HO} {t':Nat} (I:Inv X pins σ H s) (k:∀b u,s.heap.get? b=some u->h'.get? b=some u) (hp:s.heap.objs.size<=a) (new:ObjOk X.prog X.w (upd H a o) h' a o):
  Inv X pins σ (upd H a o) {s with heap:=h',toks:=t'}:=I.un (Un.laid k hp (I.hok.fresh hp)) (I.hok.laid k hp new)
theorem Inv.write {x e:Addr} {o:HO} {t':Nat} (I:Inv X pins σ H s) (mu:Mut (H x)) (he:e=x\/H e=some (.own x)) (k:∀b u,b≠e->s.heap.get? b=some u->h'.get? b=some u) (heo:∃u,h'.get? e=some u)
  (new:ObjOk X.prog X.w (upd H x o) h' x o):Inv X pins σ (upd H x o) {s with heap:=h',toks:=t'}:=I.un (Un.write mu he k heo) (I.hok.write mu he k heo new)
theorem Inv.pins_of {pins':List (Addr×Obj)} (I:Inv X pins σ H s) (h:∀p∈pins',s.heap.get? p.1=some p.2/\H p.1=none/\p.1≠X.env.locals/\p.1∉X.fs/\∀v,p.2.data≠ .cell v):Inv X pins' σ H s:=
 ⟨I.ok,I.os,I.bare,I.base,I.loc,I.cell,I.free,I.freeC,λp hp=>(ybu.mp hp).elim (λz=>I.pin p (yci _ z)) (h p),I.hok,I.len⟩
theorem Js1 {N:List Str} (hN:N.Nodup) {i j:Nat} {x:Str} (a:N[i]?=some x) (b:N[j]?=some x):i=j:=by
 obtain ⟨h1,e1⟩:=yv.mp a
 obtain ⟨h2,e2⟩:=yv.mp b
 exact (List.getElem_inj hN).mp (e1.trans e2.symm)
theorem Ju7 {M:Model} {A:Around} {E:Value->Shared->Prop} {i:Nat} {x:Str} {v:V} {u:Value} {Q:Unit->Shared->Prop} (I:Inv X pins σ H s) (hN:X.N.Nodup) (hi:X.N[i]?=some x) (hx:Loc X.env.scope x) (r:RelV v u)
  (h:∀s',Inv X pins (σ.set i (some v)) H s'->(∃a,yai a s.heap s'.heap/\(a=X.env.locals\/X.env.cells.lookup x=some a))->Q () s') (hf:X.fn x=true\/X.env.scope.names.lookup x=some .local:=by first|exact .inl rfl|exact .inr rfl|assumption):wpAny M A (storeName X.env x u) Q E s:=by
 obtain ⟨m,hn,hl⟩:=id I.loc
 have hcls:(X.env.scope.kind== .class||(X.env.scope.kind== .module&&X.env.locals !=X.env.globals))=false:=by rw [I.ok.kind];rfl
 have hiσ:i < σ.length:=by rw [I.len];exact (yv.mp hi).1
 have cne:=I.cne
 have tracked:∀{a:Addr} {h':Heap},(∃o,s.heap.get? a=some o/\H a=none)->yai a s.heap h'->HOk X.prog X.w H h':=λ{a h'} ha hs b ob e=>by
  obtain ⟨_,_,hfree⟩:=ha
  refine (I.hok b ob e).stay (λc w' hc q=>(hs.2 c ?_).trans q) (λ_ q=>q) (λ_ _ q=>q) λ_ _ q=>q
  rintro rfl
  rcases hc with rfl|hc
  ·rw [hfree] at e;cases e
  ·rw [hfree] at hc;cases hc
 rcases hx with hk|hk
 ·refine wpAny_storeName_local hk hn (λh' hn' hs=>?_) hcls
  obtain ⟨oL,_,_,hoL,_⟩:=id hn
  refine h _ ⟨I.ok,I.os,I.bare,⟨λb o e n hb hx=>?_,λb o e n hb hx=>?_,I.base.free,λb o e hx=>?_,I.base.tups,I.base.frzs,I.base.tbls⟩,⟨_,hn',λj y v' e1 e2 e3=>?_⟩,λy c e=>?_,I.free,I.freeC,λp hp=>?_,tracked ⟨oL,hoL,I.free⟩ hs,by simpa using I.len⟩ ⟨_,hs,.inl rfl⟩
  ·exact (hs.2 b (yq (yah (yj e) I.ok.above))).trans (I.base.keep b o e n hb hx)
  ·obtain ⟨sl,e1⟩:=I.base.slot b o e n hb hx
   exact ⟨sl,(hs.2 b (yq (yah (yj e) I.ok.above))).trans e1⟩
  ·obtain ⟨o',e1⟩:=I.base.there b o e hx
   exact ⟨o',(hs.2 b (yq (yah (yj e) I.ok.above))).trans e1⟩
  ·by_cases hj:j=i
   ·subst hj
    rw [hi] at e1;cases e1
    rw [List.getElem?_set_self hiσ] at e2
    cases e2
    exact ⟨u,r,.inl ⟨hk,by simp⟩⟩
   ·rw [List.getElem?_set_ne (yk hj)] at e2
    obtain ⟨u',r',q⟩:=hl j y v' e1 e2 e3
    refine ⟨u',r',?_⟩
    rcases q with ⟨k,e⟩|⟨k,c,e,z⟩
    ·refine .inl ⟨k,?_⟩
     have:y≠x:=λe=>hj (Js1 hN e1 (e▸hi))
     simp [this,e]
    ·exact .inr ⟨k,c,e,z.sameBut hs (cne y c e)⟩
  ·obtain ⟨w',z⟩:=I.cell y c e
   exact ⟨w',z.sameBut hs (cne y c e)⟩
  ·obtain ⟨e,n,ne,nf,d⟩:=I.pin p hp
   exact ⟨(hs.2 p.1 ne).trans e,n,ne,nf,d⟩
 ·have hfn:X.fn x=true:=by
   rcases hf with z|z
   ·exact z
   ·rw [z] at hk;cases hk
  obtain ⟨c,hc⟩:=I.ok.has x (.inl hk)
  obtain ⟨w',z⟩:=I.cell x c hc
  refine wpAny_storeName_cell I.ok.kind hk hc z (λh' hc' hs=>?_)
  obtain ⟨oc,hoc,hocd⟩:=id z
  refine h {s with heap:=h'} ⟨I.ok,I.os,I.bare,⟨λb o e n hb hx=>?_,λb o e n hb hx=>?_,I.base.free,λb o e hx=>?_,I.base.tups,I.base.frzs,I.base.tbls⟩,⟨m,hn.sameBut hs (yk (cne x c hc)),λj y v' e1 e2 e3=>?_⟩,λy c' e=>?_,I.free,I.freeC,λp hp=>?_,tracked ⟨oc,hoc,(I.freeC x c hc).elim id λz=>by rw [hfn] at z;cases z.1⟩ hs,by simpa using I.len⟩ ⟨c,hs,.inr hc⟩
  ·exact (hs.2 b (yq (yah (yj e) (I.ok.cab x c hfn hc)))).trans (I.base.keep b o e n hb hx)
  ·obtain ⟨sl,e1⟩:=I.base.slot b o e n hb hx
   exact ⟨sl,(hs.2 b (yq (yah (yj e) (I.ok.cab x c hfn hc)))).trans e1⟩
  ·obtain ⟨o',e1⟩:=I.base.there b o e hx
   exact ⟨o',(hs.2 b (yq (yah (yj e) (I.ok.cab x c hfn hc)))).trans e1⟩
  ·by_cases hj:j=i
   ·subst hj
    rw [hi] at e1;cases e1
    rw [List.getElem?_set_self hiσ] at e2
    cases e2
    exact ⟨u,r,.inr ⟨.inl hk,c,hc,hc'⟩⟩
   ·rw [List.getElem?_set_ne (yk hj)] at e2
    obtain ⟨u',r',q⟩:=hl j y v' e1 e2 e3
    refine ⟨u',r',?_⟩
    rcases q with q|⟨k,c',e,z'⟩
    ·exact .inl q
    ·refine .inr ⟨k,c',e,z'.sameBut hs ?_⟩
     rintro rfl
     exact hj (Js1 hN e1 (I.ok.inj _ _ _ e hc▸hi))
  ·by_cases hcc:c'=c
   ·subst hcc;exact ⟨_,hc'⟩
   ·obtain ⟨w2,z2⟩:=I.cell y c' e
    exact ⟨w2,z2.sameBut hs hcc⟩
  ·obtain ⟨e,n,ne,nf,d⟩:=I.pin p hp
   refine ⟨(hs.2 p.1 ?_).trans e,n,ne,nf,d⟩
   intro q
   rw [q,hoc] at e
   have q':oc=p.2:=yy.inj e
   exact d w' (by rw [<-q'];exact hocd)
theorem Jo9 {M:Model} {A:Around} {E:Value->Shared->Prop} {i:Nat} {x:Str} {v:V} {u:Value} {Q:Unit->Shared->Prop} (I:Inv X pins σ H s) (hN:X.N.Nodup) (hi:X.N[i]?=some x) (hx:Loc X.env.scope x) (r:RelV v u)
  (h:∀s',Inv X pins (σ.set i (some v)) H s'->Q () s') (hf:X.fn x=true\/X.env.scope.names.lookup x=some .local:=by first|exact .inl rfl|exact .inr rfl|assumption):wpAny M A (storeName X.env x u) Q E s:=
 Ju7 I hN hi hx r (λs' I' _=>h s' I') hf
theorem Inv.call' {s':Shared} {ch:List Addr} (I:Inv X pins σ H s) (ho:s'.os=s.os) (u:Un (frs X.stack) ch H H' s.heap s'.heap) (hok:HOk X.prog X.w H' s'.heap) (hg:AllBare s'.gens)
  (hch:∀b∈ch,(b∈X.ex\/X.s₀.heap.objs.size<=b)/\b≠X.env.locals/\(∀x c,X.env.cells.lookup x=some c->c≠b)/\∀p∈X.pn++pins,p.1≠b):Inv X pins σ H' s':=by
 obtain ⟨h',g',d',t',o'⟩:=s'
 have e:o'=s.os:=ho
 subst e
 exact I.call (g':=g') (t':=t') (d':=d') u hok hg hch
end
abbrev XK:=Value->Option Addr->Hp->Prop
abbrev St:=List (Option V)
abbrev VK:=V->Hp->Prop
abbrev TE:=St->Hp->VK->Prop
abbrev TT:=St->Hp->(Bool->Hp->Prop)->Prop
abbrev TA:=St->Hp->(List V->Hp->Prop)->Prop
structure Ends where
 nx:St->Hp->Prop
 rt:VK
 bk:St->Hp->Prop:=λ_ _=>False
 ct:St->Hp->Prop:=λ_ _=>False
abbrev TS:=Ends->St->Hp->Prop
def EP (X:Cx) (pins:List (Addr×Obj)) (σ:St) (Q:VK) (u:Value) (s':Shared):Prop:=∃v H',Inv X pins σ H' s'/\RelV v u/\Q v H'
def TP (X:Cx) (pins:List (Addr×Obj)) (σ:St) (Q:Bool->Hp->Prop) (b:Bool) (s':Shared):Prop:=∃H',Inv X pins σ H' s'/\Q b H'
def AP (X:Cx) (pins:List (Addr×Obj)) (σ:St) (Q:List V->Hp->Prop) (us:List Value) (s':Shared):Prop:=∃vs H',Inv X pins σ H' s'/\Vals vs us/\Q vs H'
def SP (X:Cx) (pins:List (Addr×Obj)) (D:Ends) (f:Flow) (s':Shared):Prop:=
 match f with
 | .next=>∃σ' H',Inv X pins σ' H' s'/\D.nx σ' H'
 | .brk=>∃σ' H',Inv X pins σ' H' s'/\D.bk σ' H'
 | .cont=>∃σ' H',Inv X pins σ' H' s'/\D.ct σ' H'
 | .ret u=>∃v σ' H',Inv X pins σ' H' s'/\RelV v u/\D.rt v H'
def PE (X:Cx) (e:Expr) (t:TE):Prop:=
 ∀(pins:List (Addr×Obj)) (s:Shared) (σ:St) (H:Hp) (Q:VK),Inv X pins σ H s->t σ H Q->wpAny (model X.prog X.w) X.A (eval e X.env) (EP X pins σ Q) X.xe s
def PT (X:Cx) (e:Expr) (t:TT):Prop:=
 ∀(pins:List (Addr×Obj)) (s:Shared) (σ:St) (H:Hp) (Q:Bool->Hp->Prop),Inv X pins σ H s->t σ H Q->wpAny (model X.prog X.w) X.A (isTrue e X.env (eval e X.env)) (TP X pins σ Q) X.xe s
def PW (X:Cx) (e:Expr) (t:TT):Prop:=
 ∀(whole:Sem Value) (pins:List (Addr×Obj)) (s:Shared) (σ:St) (H:Hp) (Q:Bool->Hp->Prop),Inv X pins σ H s->t σ H Q->wpAny (model X.prog X.w) X.A (isTrue e X.env whole) (TP X pins σ Q) X.xe s
theorem PW.pt {X:Cx} {e:Expr} {t:TT} (h:PW X e t):PT X e t:=h _
def PA (X:Cx) (es:List Expr) (t:TA):Prop:=
 ∀(pos:Pos) (pins:List (Addr×Obj)) (s:Shared) (σ:St) (H:Hp) (Q:List V->Hp->Prop),Inv X pins σ H s->t σ H Q->wpAny (model X.prog X.w) X.A (spliced (backTo pos (starEach es X.env))) (AP X pins σ Q) X.xe s
def PS (X:Cx) (st:Stmt) (t:TS):Prop:=
 ∀(pins:List (Addr×Obj)) (s:Shared) (σ:St) (H:Hp) (D:Ends),Inv X pins σ H s->t D σ H->wpAny (model X.prog X.w) X.A (exec st X.env) (SP X pins D) X.xe s
def PSs (X:Cx) (st:List Stmt) (t:TS):Prop:=
 ∀(pins:List (Addr×Obj)) (s:Shared) (σ:St) (H:Hp) (D:Ends),Inv X pins σ H s->t D σ H->wpAny (model X.prog X.w) X.A (execs st X.env) (SP X pins D) X.xe s
theorem thn {α:Type} {t:Sem α} {Q Q':α->Shared->Prop} {M:Model} {A:Around} {E:Value->Shared->Prop} {s:Shared} (h:wpAny M A t Q E s) (hQ:∀a s,Q a s->Q' a s):wpAny M A t Q' E s:=wpAny_mono h hQ λ_ _ x=>x
end L2
namespace L2
open PySem PySem.Spec PyProof.Rows
section
variable {X:Cx}
def tVar (i:Nat):TE:=λσ H Q=>∃v,σ[i]?=some (some v)/\Q v H
def tC (v:V):TE:=λ_ H Q=>Q v H
theorem Yao {i:Nat} {x:Str} {pos:Pos} (hN:X.N[i]?=some x) (hv:Vis X.env.scope x) (hd:(x==("__debug__" :Str))=false:=by decide) (hcd:(x==("__classdict__" :Str))=false:=by decide):PE X (.Name x pos) (tVar i):=by
 intro pins s σ H Q I h
 obtain ⟨v,e,h⟩:=h
 obtain ⟨m,hn,hl⟩:=I.loc
 obtain ⟨u,r,l⟩:=hl i x v hN e hv
 have fin:EP X pins σ Q u s:=⟨v,H,I,r,h⟩
 rcases l with ⟨hk,hm⟩|⟨hk,c,hc,hcell⟩
 ·exact wpAny_Name (wpAny_loadName_local I.ok.kind hk hn hm fin) hd
 ·rcases hk with hk|hk
  ·exact wpAny_Name (wpAny_loadName_cell I.ok.kind hk hc hcell fin) hd
  ·exact wpAny_Name (wpAny_loadName_free I.ok.kind hk hc hcell fin hcd) hd
theorem Jjb {i j pos}:PE X (.Constant (.int i) j pos) (tC (.int i)):=λ_ _ _ H _ I h=>wpAny_Constant_int ⟨.int i,H,I.tok _,⟨_,rfl⟩,h⟩
theorem Jkn {b j pos}:PE X (.Constant (.bool b) j pos) (tC (.bl b)):=λ_ _ _ H _ I h=>Constant_bool ⟨.bl b,H,I,rfl,h⟩
theorem Jl7 {j pos}:PE X (.Constant .none j pos) (tC .non):=λ_ _ _ H _ I h=>Constant_none ⟨.non,H,I,rfl,h⟩
theorem Jm1 {x j pos}:PE X (.Constant (.str x) j pos) (tC (.str x)):=λ_ _ _ H _ I h=>Calls.Constant_str ⟨.str x,H,I.tok _,⟨_,rfl⟩,h⟩
def Gl (X:Cx) (x:Str):Prop:=X.env.kindOf x=some .globalImplicit
theorem Jna {E:Value->Shared->Prop} {pins:List (Addr×Obj)} {s:Shared} {σ:St} {H:Hp} {x:Str} {u:Value} {pos:Pos} {Q:Value->Shared->Prop} (I:Inv X pins σ H s) (hg:Gl X x) (hm:X.mg x=some u) (h:Q u s)
  (hd:(x==("__debug__" :Str))=false:=by decide):wpAny (model X.prog X.w) X.A (eval (.Name x pos) X.env) Q E s:=
 Calls.Name_function_global I.ok.kind hg (Calls.loadGlobal_global (by rw [I.ok.glob];exact I.mod.glob.keeps I.bk) hm h) hd
theorem Jn9 {E:Value->Shared->Prop} {pins:List (Addr×Obj)} {s:Shared} {σ:St} {H:Hp} {x:Str} {u:Value} {pos:Pos} {Q:Value->Shared->Prop} (I:Inv X pins σ H s) (hg:Gl X x) (hm:X.mg x=none) (hv:bootBuiltins x=some u) (h:Q u s)
  (hn:x≠"__name__" :=by decide) (hd:(x==("__debug__" :Str))=false:=by decide):wpAny (model X.prog X.w) X.A (eval (.Name x pos) X.env) Q E s:=by
 obtain ⟨mb,h1,h2⟩:=I.mod.blt
 exact Calls.Name_function_global I.ok.kind hg (Calls.loadGlobal_builtin (by rw [I.ok.glob];exact I.mod.glob.keeps I.bk) hm (by rw [I.ok.blt];exact h1.keeps I.bk) ((h2 x hn).trans hv) h) hd
theorem Jkk {x:Str} {v:V} {u:Value} {pos:Pos} (hg:Gl X x) (hm:X.mg x=some u) (r:RelV v u) (hd:(x==("__debug__" :Str))=false:=by decide):PE X (.Name x pos) (tC v):=
 λ_ _ _ H _ I h=>Jna I hg hm ⟨v,H,I,r,h⟩ hd
theorem Jl0 {x:Str} {v:V} {u:Value} {pos:Pos} (hg:Gl X x) (hm:X.mg x=none) (hv:bootBuiltins x=some u) (r:RelV v u) (hn:x≠"__name__" :=by decide) (hd:(x==("__debug__" :Str))=false:=by decide):PE X (.Name x pos) (tC v):=
 λ_ _ _ H _ I h=>Jn9 I hg hm hv ⟨v,H,I,r,h⟩ hn hd
variable {a b:Expr} {ta tb:TE} {pos:Pos}
def tB (t:TE):TT:=λσ H Q=>t σ H λx H1=>∃c,x= .bl c/\Q c H1
theorem Jjw {e:Expr} {t:TE} (h:PE X e t) (he:∀whole,isTrue e X.env whole=(do let v<-whole;standAt e.pos;holding [v] (truthy v)):=by intro _;rfl):PT X e (tB t):=by
 intro pins s σ H Q I hw
 refine isTrue_plain (thn (h pins s σ H _ I hw) λv s1 zq=>?_) (he _)
 obtain ⟨x,H1,I1,r1,q1⟩:=zq
 obtain ⟨d,rfl,q⟩:=q1
 cases r1
 exact wpAny_truthy_bool ⟨H1,I1,q⟩
variable {tA tB':TT} {rest:List Expr}
def tAnd (t u:TT):TT:=λσ H Q=>t σ H λc H1=>if c=true then u σ H1 Q else Q false H1
def tOr (t u:TT):TT:=λσ H Q=>t σ H λc H1=>if c=true then Q true H1 else u σ H1 Q
def tNot (t:TT):TT:=λσ H Q=>t σ H λc H1=>Q (!c) H1
theorem Ycu (ha:PT X a tA):PW X (.BoolOp .And [a] pos) tA:=by
 intro wh pins s σ H Q I h
 refine isTrue_and (thn (ha pins s σ H Q I h) λc s1 e=>?_)
 cases c with
 |true=>exact isTrue_and_nil e
 |false=>exact e
theorem Jmv (ha:PT X a tA):PW X (.BoolOp .Or [a] pos) tA:=by
 intro wh pins s σ H Q I h
 refine isTrue_or (thn (ha pins s σ H Q I h) λc s1 e=>?_)
 cases c with
 |false=>exact isTrue_or_nil e
 |true=>exact e
theorem pw_and (ha:PT X a tA) (hb:PW X (.BoolOp .And (b::rest) pos) tB'):PW X (.BoolOp .And (a::b::rest) pos) (tAnd tA tB'):=by
 intro wh pins s σ H Q I h
 refine isTrue_and (thn (ha pins s σ H _ I h) λc s1 zq=>?_)
 obtain ⟨H1,I1,q1⟩:=zq
 cases c with
 |true=>exact hb wh pins s1 σ H1 Q I1 q1
 |false=>exact ⟨H1,I1,q1⟩
theorem Jov (ha:PT X a tA) (hb:PW X (.BoolOp .Or (b::rest) pos) tB'):PW X (.BoolOp .Or (a::b::rest) pos) (tOr tA tB'):=by
 intro wh pins s σ H Q I h
 refine isTrue_or (thn (ha pins s σ H _ I h) λc s1 zq=>?_)
 obtain ⟨H1,I1,q1⟩:=zq
 cases c with
 |true=>exact ⟨H1,I1,q1⟩
 |false=>exact hb wh pins s1 σ H1 Q I1 q1
theorem Jjy (ha:PT X a tA):PT X (.UnaryOp .Not a pos) (tNot tA):=by
 intro pins s σ H Q I h
 exact isTrue_not (ha pins s σ H (λc H1=>Q (!c) H1) I h)
def tAndV (ta tb:TE):TE:=λσ H Q=>ta σ H λx H1=>∃c,x= .bl c/\if c=true then tb σ H1 Q else Q (.bl false) H1
def tNotV (ta:TE):TE:=λσ H Q=>ta σ H λx H1=>∃c,x= .bl c/\Q (.bl (!c)) H1
theorem Jp9 {op} {t:TE} (h:PE X a t):PE X (.BoolOp op [a] pos) t:=λpins s σ H Q I hw=>BoolOp_one (h pins s σ H Q I hw)
theorem Jp8 (ha:PE X a ta) (hb:PE X (.BoolOp .And (b::rest) pos) tb):PE X (.BoolOp .And (a::b::rest) pos) (tAndV ta tb):=by
 intro pins s σ H Q I h
 refine BoolOp_and (thn (ha pins s σ H _ I h) λv s1 zq=>?_)
 obtain ⟨x,H1,I1,r1,q1⟩:=zq
 obtain ⟨c,rfl,q1⟩:=q1
 cases r1
 refine wpAny_truthy_bool ?_
 cases c with
 |true=>exact hb pins s1 σ H1 Q I1 q1
 |false=>exact ⟨.bl false,H1,I1,rfl,q1⟩
theorem pe_not (ha:PE X a ta):PE X (.UnaryOp .Not a pos) (tNotV ta):=by
 intro pins s σ H Q I h
 refine UnaryOp_ (thn (ha pins s σ H _ I h) λv s1 zq=>?_)
 obtain ⟨x,H1,I1,r1,q1⟩:=zq
 obtain ⟨c,rfl,q1⟩:=q1
 cases r1
 exact not_of (wpAny_truthy_bool ⟨.bl (!c),H1,I1,rfl,q1⟩)
def tIf (t:TT) (ta tb:TE):TE:=λσ H Q=>t σ H λc H1=>if c=true then ta σ H1 Q else tb σ H1 Q
theorem Yan {c:Expr} (hc:PT X c tA) (ha:PE X a ta) (hb:PE X b tb):PE X (.IfExp c a b pos) (tIf tA ta tb):=by
 intro pins s σ H Q I h
 refine wpAny_IfExp (thn (hc pins s σ H _ I h) λd s1 zq=>?_)
 obtain ⟨H1,I1,q1⟩:=zq
 cases d with
 |true=>exact ha pins s1 σ H1 Q I1 q1
 |false=>exact hb pins s1 σ H1 Q I1 q1
end
end L2
namespace L2
open PySem PySem.Spec PyProof.Rows
def SqL (K:PySem.W.Frag) (H:Hp) (a:Addr) (xs:List V):Prop:=
 Rd H a (.lst xs)\/
  ∃(o:Obj) (its:Array Value) (n:Nat),K.lookup a=some o/\o.cls= .type "list" /\o.dict=none/\o.data= .seq its n/\its.size<=sizeLine/\Vals xs its.toList
def SqT (K:PySem.W.Frag) (H:Hp) (a:Addr) (xs:List V):Prop:=
 Rd H a (.tup xs)\/
  ∃(o:Obj) (its:Array Value) (n:Nat),K.lookup a=some o/\o.cls= .type "tuple" /\o.data= .seq its n/\its.size<=sizeLine/\Vals xs its.toList
def absV:Value->Option V
 | .none=>some .non
 | .bool b=>some (.bl b)
 | .int i _=>some (.int i)
 | .str x _=>some (.str x)
 | .bytes b _=>some (.byt b)
 | .float b _=>some (.flt b)
 | .ref a=>some (.ref a)
 | .type n=>some (.ty n)
 |_=>none
theorem RelV.abs {x:V} {u:Value} (r:RelV x u):absV u=some x:=by
 cases x with
 |non=>cases r;rfl
 |bl _=>cases r;rfl
 |int _=>obtain ⟨t,rfl⟩:=r;rfl
 |str _=>obtain ⟨t,rfl⟩:=r;rfl
 |byt _=>obtain ⟨t,rfl⟩:=r;rfl
 |flt _=>obtain ⟨t,rfl⟩:=r;rfl
 |ref _=>cases r;rfl
 |ty _=>cases r;rfl
theorem RelV.inj {x y:V} {u:Value} (r:RelV x u) (q:RelV y u):x=y:=yy.inj (r.abs.symm.trans q.abs)
theorem Vals.inj:∀{xs ys:List V} {us:List Value},Vals xs us->Vals ys us->xs=ys
 |_,_,_,.nil,.nil=>rfl
 |_,_,_,.cons r t,.cons r' t'=>by rw [r.inj r',Vals.inj t t']
section
variable {X:Cx} {pins:List (Addr×Obj)} {σ:St} {H:Hp} {s:Shared} {a:Addr} {xs ys:List V}
theorem SqL.of {K:PySem.W.Frag} (h:H a=some (.lst xs)):SqL K H a xs:=.inl (.inl h)
theorem SqT.of {K:PySem.W.Frag} (h:H a=some (.tup xs)):SqT K H a xs:=.inl (.inl h)
theorem Inv.list (I:Inv X pins σ H s) (h:SqL X.K H a xs):∃its:List Value,Vals xs its/\PlainL s.heap a its.toArray/\xs.length<=sizeLine:=by
 rcases h with h|⟨o,its,n,hk,hc,hd,hs,hz,r⟩
 ·obtain ⟨z,its,n,r,e⟩:=h.ok I.hok
  exact ⟨its,r,⟨_,n,e,rfl,rfl,rfl⟩,z⟩
 ·refine ⟨its.toList,r,⟨o,n,I.kIn a o hk,hc,hd,by simpa using hs⟩,?_⟩
  have e:=r.length
  simp only [ybg] at e
  omega
theorem Inv.tuple (I:Inv X pins σ H s) (h:SqT X.K H a xs):∃its:List Value,Vals xs its/\IsTup s.heap a its.toArray/\xs.length<=sizeLine:=by
 rcases h with h|⟨o,its,n,hk,hc,hs,hz,r⟩
 ·obtain ⟨z,its,r,p⟩:=h.ok I.hok
  exact ⟨its,r,p,z⟩
 ·refine ⟨its.toList,r,⟨o,I.kIn a o hk,hc,n,by simpa using hs⟩,?_⟩
  have e:=r.length
  simp only [ybg] at e
  omega
theorem Inv.list_inj (I:Inv X pins σ H s) (h:SqL X.K H a xs) (h':SqL X.K H a ys):xs=ys:=by
 obtain ⟨its,r,⟨o,n,e,_,_,d⟩,_⟩:=I.list h
 obtain ⟨its',r',⟨o',n',e',_,_,d'⟩,_⟩:=I.list h'
 rw [e] at e';cases e'
 rw [d] at d'
 injection d' with d1 _
 have:its=its':=by simpa using congrArg Array.toList d1
 subst this
 exact r.inj r'
theorem Inv.tuple_inj (I:Inv X pins σ H s) (h:SqT X.K H a xs) (h':SqT X.K H a ys):xs=ys:=by
 obtain ⟨its,r,⟨o,e,_,n,d⟩,_⟩:=I.tuple h
 obtain ⟨its',r',⟨o',e',_,n',d'⟩,_⟩:=I.tuple h'
 rw [e] at e';cases e'
 rw [d] at d'
 injection d' with d1 _
 have:its=its':=by simpa using congrArg Array.toList d1
 subst this
 exact r.inj r'
end
abbrev Cx.wish (X:Cx) (E:Value->Shared->Prop):Cx:={X with xe:=E}
abbrev Cx.nox (X:Cx):Cx:=X.wish λ_ _=>False
theorem Cx.Ok.wish {X:Cx} (ok:X.Ok) (E:Value->Shared->Prop):(X.wish E).Ok:=
 ⟨ok.mod,ok.kind,ok.glob,ok.blt,ok.above,ok.inj,ok.has,ok.cab,ok.hd,ok.frames,ok.stk,ok.exf,ok.bs,ok.bsz,ok.noex,ok.exfs,ok.funs,ok.frf⟩
theorem Cx.Ok.unwish {X:Cx} {E:Value->Shared->Prop} (ok:(X.wish E).Ok):X.Ok:=
 ⟨ok.mod,ok.kind,ok.glob,ok.blt,ok.above,ok.inj,ok.has,ok.cab,ok.hd,ok.frames,ok.stk,ok.exf,ok.bs,ok.bsz,ok.noex,ok.exfs,ok.funs,ok.frf⟩
section
variable {X:Cx} {pins:List (Addr×Obj)} {σ:St} {H:Hp} {s:Shared} {E:Value->Shared->Prop}
theorem Inv.wish (I:Inv X pins σ H s) (E:Value->Shared->Prop):Inv (X.wish E) pins σ H s:=⟨I.ok.wish E,I.os,I.bare,I.base,I.loc,I.cell,I.free,I.freeC,I.pin,I.hok,I.len⟩
theorem Inv.unwish (I:Inv (X.wish E) pins σ H s):Inv X pins σ H s:=⟨I.ok.unwish,I.os,I.bare,I.base,I.loc,I.cell,I.free,I.freeC,I.pin,I.hok,I.len⟩
theorem SP.unwish {D:Ends} {f:Flow} {s':Shared} (h:SP (X.wish E) pins D f s'):SP X pins D f s':=by
 cases f with
 |next=>obtain ⟨σ',H',I,q⟩:=h;exact ⟨σ',H',I.unwish,q⟩
 |brk=>obtain ⟨σ',H',I,q⟩:=h;exact ⟨σ',H',I.unwish,q⟩
 |cont=>obtain ⟨σ',H',I,q⟩:=h;exact ⟨σ',H',I.unwish,q⟩
 |ret u=>obtain ⟨v,σ',H',I,r,q⟩:=h;exact ⟨v,σ',H',I.unwish,r,q⟩
theorem PSs.nox {st:List Stmt} {t:TS} (h:PSs X.nox st t):PSs X st t:=λpins s σ H D I hw=>
 wpAny_mono (h pins s σ H D (I.wish _) hw) (λ_ _ q=>q.unwish) λ_ _ z=>False.elim z
end
section
variable {X:Cx} {st:Stmt} {rest:List Stmt} {t u:TS} {e:Expr} {te:TE} {pos:Pos}
def tNext:TS:=λD σ H=>D.nx σ H
def tSeq (t u:TS):TS:=λD σ H=>t {D with nx:=u D} σ H
theorem Jjn:PSs X [] tNext:=λ_ _ σ H _ I h=>wpAny_execs_nil ⟨σ,H,I,h⟩
theorem Jjd (h1:PS X st t) (h2:PSs X rest u):PSs X (st::rest) (tSeq t u):=by
 intro pins s σ H D I h
 refine wpAny_execs_cons (thn (h1 pins s σ H {D with nx:=u D} I h) λf s1 q=>?_)
 cases f with
 |next=>
  obtain ⟨σ',H',I',q⟩:=q
  exact h2 pins s1 σ' H' D I' q
 |ret v=>exact q
 |brk=>exact q
 |cont=>exact q
theorem Jjc (h1:PS X st t):PSs X [st] t:=by
 intro pins s σ H D I h
 refine wpAny_execs_cons (thn (h1 pins s σ H D I h) λf s1 q=>?_)
 cases f with
 |next=>exact wpAny_execs_nil q
 |ret v=>exact q
 |brk=>exact q
 |cont=>exact q
theorem Inv.quiet {pins:List (Addr×Obj)} {σ:St} {H:Hp} {s:Shared} (I:Inv X pins σ H s):interactive X.env=false:=by simp [interactive,I.ok.kind]
def tDrop (te:TE):TS:=λD σ H=>te σ H λ_ H1=>D.nx σ H1
theorem Jkv (he:PE X e te) (hs:swapsWith e none pos.line X.env=pure false:=by rfl):PS X (.Expr e pos) (tDrop te):=by
 intro pins s σ H D I h
 exact wpAny_Expr_any (thn (he pins s σ H _ I h) λv s1 ⟨x,H1,I1,r1,q1⟩=>⟨σ,H1,I1,q1⟩) I.quiet hs
def tRet (te:TE):TS:=λD σ H=>te σ H D.rt
theorem Jjk (he:PE X e te):PS X (.Return (some e) pos) (tRet te):=by
 intro pins s σ H D I h
 exact wpAny_Return_some (thn (he pins s σ H _ I h) λv s1 ⟨x,H1,I1,r1,q1⟩=>⟨x,σ,H1,I1,r1,q1⟩)
def tIfS (c:TT) (t u:TS):TS:=λD σ H=>c σ H λb H1=>if b=true then t D σ H1 else u D σ H1
theorem Jk1 {c:Expr} {a b:List Stmt} {tc:TT} (hc:PT X c tc) (ha:PSs X a t) (hb:PSs X b u):PS X (.If c a b pos) (tIfS tc t u):=by
 intro pins s σ H D I h
 refine wpAny_If (thn (hc pins s σ H _ I h) λd s1 zq=>?_)
 obtain ⟨H1,I1,q1⟩:=zq
 cases d with
 |true=>exact ha pins s1 σ H1 D I1 q1
 |false=>exact hb pins s1 σ H1 D I1 q1
end
abbrev TG:=V->St->Hp->(St->Hp->Prop)->Prop
abbrev TGs:=List V->St->Hp->(St->Hp->Prop)->Prop
def PG (X:Cx) (target:Expr) (t:TG):Prop:=
 ∀(pins:List (Addr×Obj)) (s:Shared) (σ:St) (H:Hp) (v:V) (u:Value) (Q:St->Hp->Prop),Inv X pins σ H s->RelV v u->t v σ H Q->
  wpAny (model X.prog X.w) X.A (assign target X.env u) (λ_ s'=>∃σ' H',Inv X pins σ' H' s'/\Q σ' H') X.xe s
def PGs (X:Cx) (ts:List Expr) (t:TGs):Prop:=
 ∀(pins:List (Addr×Obj)) (s:Shared) (σ:St) (H:Hp) (vs:List V) (us:List Value) (Q:St->Hp->Prop),Inv X pins σ H s->Vals vs us->t vs σ H Q->
  wpAny (model X.prog X.w) X.A (assignInOrder ((assignEach ts X.env).map (·.2)) us) (λ_ s'=>∃σ' H',Inv X pins σ' H' s'/\Q σ' H') X.xe s
abbrev TSet:=V->V->V->Hp->(Hp->Prop)->Prop
def PSet (X:Cx) (t:TSet):Prop:=
 ∀(pins:List (Addr×Obj)) (s:Shared) (σ:St) (H:Hp) (o i v:V) (ov iv u:Value) (Q:Hp->Prop),Inv X pins σ H s->RelV o ov->RelV i iv->RelV v u->t o i v H Q->
  wpAny (model X.prog X.w) X.A (setItem ov iv u) (λ_ s'=>∃H',Inv X pins σ H' s'/\Q H') X.xe s
abbrev TIp:=V->V->Hp->VK->Prop
def PIp (X:Cx) (op:Operator) (t:TIp):Prop:=
 ∀(pins:List (Addr×Obj)) (s:Shared) (σ:St) (H:Hp) (x y:V) (v u:Value) (Q:VK),Inv X pins σ H s->RelV x v->RelV y u->t x y H Q->
  wpAny (model X.prog X.w) X.A (inplaceOp op v u) (EP X pins σ Q) X.xe s
section
variable {X:Cx} {pos:Pos}
def Jnf (i:Nat):TG:=λv σ H Q=>Q (σ.set i (some v)) H
theorem Jjl {i:Nat} {x:Str} (hN:X.N.Nodup) (hi:X.N[i]?=some x) (hx:Loc X.env.scope x) (hf:X.fn x=true\/X.env.scope.names.lookup x=some .local:=by first|exact .inl rfl|exact .inr rfl|assumption):PG X (.Name x pos) (Jnf i):=by
 intro pins s σ H v u Q I r h
 exact wpAny_assign_Name (Jo9 I hN hi hx r (λs' I'=>⟨_,H,I',h⟩) hf)
def gNil:TGs:=λvs σ H Q=>vs= []/\Q σ H
def Jtm (t:TG) (u:TGs):TGs:=λvs σ H Q=>∃v r,vs=v::r/\t v σ H λσ' H'=>u r σ' H' Q
theorem Jm5:PGs X [] gNil:=by
 intro pins s σ H vs us Q I r h
 obtain ⟨e,h⟩:=h
 subst e
 cases r
 exact assignInOrder_nil ⟨σ,H,I,h⟩
theorem Jka {e:Expr} {es:List Expr} {t:TG} {u:TGs} (h1:PG X e t) (h2:PGs X es u)
  (hs:(assignEach (e::es) X.env).map (·.2)=assign e X.env::(assignEach es X.env).map (·.2):=by rfl):PGs X (e::es) (Jtm t u):=by
 intro pins s σ H vs us Q I r h
 obtain ⟨v,vr,e1,h⟩:=h
 subst e1
 cases r with
 |cons r rr=>
  rw [hs]
  refine assignInOrder_cons (thn (h1 pins s σ H _ _ _ I r h) λ_ s1 zq=>?_)
  obtain ⟨σ1,H1,I1,q1⟩:=zq
  exact h2 pins s1 σ1 H1 _ _ Q I1 rr q1
def gTup (K:PySem.W.Frag) (n:Nat) (t:TGs):TG:=λv σ H Q=>∃a xs,v= .ref a/\SqT K H a xs/\xs.length=n/\t xs σ H Q
theorem Yap {es:List Expr} {k:Nat} {t:TGs} {n:Nat} (hc:X.calm=true) (h:PGs X es t)
  (hn:(assignEach es X.env).length=n:=by rfl) (hst:(assignEach es X.env).findIdx? (·.1)=none:=by rfl):PG X (.Tuple es k pos) (gTup X.K n t):=by
 intro pins s σ H v u Q I r hw
 obtain ⟨a,xs,e1,hq,hl,hw⟩:=hw
 subst e1
 cases r
 obtain ⟨its,rv,ht,hz⟩:=I.tuple hq
 refine assign_Tuple_tuple (I.ok.hd hc) ht (by simp [hn,<-hl,rv.length]) hst λh' hx=>?_
 have I1:Inv X pins σ H {s with heap:=h'}:=I.kept (t':=s.toks) λb o e=>hx b o (yq (yj e)) e
 exact h pins _ σ H xs _ Q I1 (by simpa using rv) hw
def gSub (to ti:TE) (t:TSet):TG:=λv σ H Q=>to σ H λo H1=>ti σ H1 λi H2=>t o i v H2 λH3=>Q σ H3
theorem Jxq {o i:Expr} {to ti:TE} {t:TSet} (ho:PE X o to) (hi:PE X i ti) (hs:PSet X t)
  (ha:∀v,assign (.Subscript o i pos) X.env v=(do
   let ov<-holding [v] (eval o X.env)
   let iv<-holding [v,ov] (eval i X.env)
   standAt pos
   holding [v,ov,iv] (setItem ov iv v)
   release [v,ov,iv] []):=by intro _;rfl):PG X (.Subscript o i pos) (gSub to ti t):=by
 intro pins s σ H v u Q I r h
 rw [ha]
 refine wpAny_bind (wpAny_holding (thn (ho pins s σ H _ I h) λov s1 zq=>?_))
 obtain ⟨x,H1,I1,r1,q1⟩:=zq
 refine wpAny_bind (wpAny_holding (thn (hi pins s1 σ H1 _ I1 q1) λiv s2 zq=>?_))
 obtain ⟨y,H2,I2,r2,q2⟩:=zq
 refine wpAny_bind (wpAny_standAt (wpAny_bind (wpAny_holding (thn (hs pins s2 σ H2 x y v ov iv u _ I2 r1 r2 r q2) λ_ s3 zq=>?_))))
 obtain ⟨H3,I3,q3⟩:=zq
 exact wpAny_release ⟨σ,H3,I3,q3⟩
def tAsg (te:TE) (g:TG):TS:=λD σ H=>te σ H λx H1=>g x σ H1 D.nx
theorem Jxr {tg e:Expr} {te:TE} {g:TG} (he:PE X e te) (hg:PG X tg g) (hs:swapsWithSole [tg] e pos.line X.env=pure false:=by rfl) (hw:swappedStores [tg] e X.env=pure none:=by rfl)
  (h1:(assignEach [tg] X.env).map (·.2)= [assign tg X.env]:=by rfl):PS X (.Assign [tg] e pos) (tAsg te g):=by
 intro pins s σ H D I h
 refine wpAny_Assign_stores (thn (he pins s σ H _ I h) λv s1 zq=>?_) hs hw
 obtain ⟨x,H1,I1,r1,q1⟩:=zq
 rw [h1]
 exact thn (hg pins s1 σ H1 x v _ I1 r1 q1) λ_ s2 q=>q
theorem Jju {i:Nat} {x:Str} {e:Expr} {te:TE} {pos':Pos} (hN:X.N.Nodup) (hi:X.N[i]?=some x) (hx:Loc X.env.scope x) (he:PE X e te) (hs:swapsWith e (some (.Name x pos')) pos.line X.env=pure false:=by rfl) (hf:X.fn x=true\/X.env.scope.names.lookup x=some .local:=by first|exact .inl rfl|exact .inr rfl|assumption):
  PS X (.Assign [.Name x pos'] e pos) (tAsg te (Jnf i)):=by
 intro pins s σ H D I h
 refine wpAny_Assign_Name (thn (he pins s σ H _ I h) λv s1 zq=>?_) hs
 obtain ⟨y,H1,I1,r1,q1⟩:=zq
 exact Jo9 I1 hN hi hx r1 (λs2 I2=>⟨_,H1,I2,q1⟩) hf
def tAug (i:Nat) (te:TE) (ti:TIp):TS:=λD σ H=>∃x,σ[i]?=some (some x)/\te σ H λy H1=>ti x y H1 λz H2=>D.nx (σ.set i (some z)) H2
theorem ps_aug {i:Nat} {x:Str} {e:Expr} {te:TE} {op:Operator} {ti:TIp} {pos':Pos} (hN:X.N.Nodup) (hi:X.N[i]?=some x) (hx:Loc X.env.scope x) (he:PE X e te) (ho:PIp X op ti) (hf:X.fn x=true\/X.env.scope.names.lookup x=some .local:=by first|exact .inl rfl|exact .inr rfl|assumption):
  PS X (.AugAssign (.Name x pos') op e pos) (tAug i te ti):=by
 intro pins s σ H D I h
 obtain ⟨v,e1,h⟩:=h
 obtain ⟨m,hn,hl⟩:=I.loc
 have vis:Vis X.env.scope x:=by rcases hx with k|k;exact .inl k;exact .inr (.inl k)
 obtain ⟨u,r,l⟩:=hl i x v hi e1 vis
 refine wpAny_AugAssign_Name ?_
 have go:wpAny (model X.prog X.w) X.A (eval e X.env) (λw s₂=>wpAny (model X.prog X.w) X.A (inplaceOp op u w) (λr s₃=>wpAny (model X.prog X.w) X.A (storeName X.env x r) (λ_=>SP X pins D .next) X.xe s₃) X.xe s₂) X.xe s:=by
  refine thn (he pins s σ H _ I h) λw s1 zq=>?_
  obtain ⟨y,H1,I1,r1,q1⟩:=zq
  refine thn (ho pins s1 σ H1 v y u w _ I1 r r1 q1) λz s2 zq=>?_
  obtain ⟨zv,H2,I2,r2,q2⟩:=zq
  exact Jo9 I2 hN hi hx r2 (λs3 I3=>⟨_,H2,I3,q2⟩) hf
 rcases l with ⟨hk,hm⟩|⟨hk,c,hc,hcell⟩
 ·exact wpAny_loadName_local I.ok.kind hk hn hm go
 ·rcases hk with hk|hk
  ·exact wpAny_loadName_cell I.ok.kind hk hc hcell go
  ·rcases hx with k|k
   ·have:X.env.scope.names.lookup x=some .free:=hk
    rw [k] at this;cases this
   ·have:X.env.scope.names.lookup x=some .free:=hk
    rw [k] at this;cases this
def ipI (f:Int->Int->Int):TIp:=λx y H Q=>∃i j,x= .int i/\y= .int j/\Q (.int (f i j)) H
theorem ip_add:PIp X .Add (ipI λi j=>i+j):=by
 intro pins s σ H x y v u Q I r1 r2 h
 obtain ⟨i,j,e1,e2,q⟩:=h
 subst e1;subst e2
 obtain ⟨t,rfl⟩:=r1
 obtain ⟨t',rfl⟩:=r2
 exact iadd_int ⟨.int _,H,I.tok _,⟨_,rfl⟩,q⟩
end
section
variable {X:Cx} {pos:Pos}
def tWhile (c:TT) (tb:TS):TS:=λD σ H=>∃W:Nat->St->Hp->Prop,(∃m,W m σ H)/\∀m σ H,W m σ H->
 c σ H λb H1=>if b=true then ∃N:St->Hp->Prop,(∀σ' H',N σ' H'->∃m',m' < m/\W m' σ' H')/\tb {D with nx:=N,ct:=N,bk:=D.nx} σ H1 else D.nx σ H1
theorem Yav {c:Expr} {body:List Stmt} {tc:TT} {tb:TS} (hp:PassesOwn (model X.prog X.w) X.A X.env X.xe) (hc:PT X c tc) (hb:PSs X body tb):PS X (.While c body [] pos) (tWhile tc tb):=by
 intro pins s σ H D I h
 obtain ⟨W,⟨m0,w0⟩,turn⟩:=h
 refine wpAny_While (codeAny_whileLoop (λn s'=>∃σ' H',Inv X pins σ' H' s'/\W n σ' H') ?_ m0 ⟨σ,H,I,w0⟩)
 rintro n s1 ⟨σ1,H1,I1,w1⟩
 refine wpAny_passesOwn hp (thn (hc pins s1 σ1 H1 _ I1 (turn n σ1 H1 w1)) λb s2 zq=>?_)
 obtain ⟨H2,I2,q2⟩:=zq
 cases b with
 |true=>
  obtain ⟨N,hN,q2⟩:=q2
  rw [if_pos rfl]
  refine wpAny_passesOwn hp (thn (hb pins s2 σ1 H2 _ I2 q2) λf s3 q3=>?_)
  cases f with
  |next=>
   obtain ⟨σ3,H3,I3,n3⟩:=q3
   obtain ⟨m',hm,w3⟩:=hN σ3 H3 n3
   exact ⟨m',hm,σ3,H3,I3,w3⟩
  |cont=>
   obtain ⟨σ3,H3,I3,n3⟩:=q3
   obtain ⟨m',hm,w3⟩:=hN σ3 H3 n3
   exact ⟨m',hm,σ3,H3,I3,w3⟩
  |brk=>exact q3
  |ret v=>exact q3
 |false=>
  rw [if_neg yw]
  exact wpAny_execs_nil ⟨σ1,H2,I2,q2⟩
end
structure It where
 go:Nat->Hp->Prop
 yld:Nat->Hp->V->Hp->Prop
 stop:Nat->Hp->Prop
def Jq5 (X:Cx) (pins:List (Addr×Obj)) (H:Hp) (b:Addr):Prop:=
 H b=none/\b≠X.env.locals/\b∉X.fs/\(b∈X.ex\/X.s₀.heap.objs.size<=b)/\(∀x c,X.env.cells.lookup x=some c->c≠b)/\∀p∈X.pn++pins,p.1≠b
theorem Inv.fpOk {X:Cx} {pins:List (Addr×Obj)} {σ:St} {H H':Hp} {s:Shared} {b:Addr} (I:Inv X pins σ H s) (hb:s.heap.objs.size<=b) (hn:H' b=none):Jq5 X pins H' b:=by
 refine ⟨hn,yau (yah I.lt hb),I.nofs hb,.inr (yz I.sz hb),λx c e z=>?_,λp hp z=>?_⟩
 ·obtain ⟨v,q⟩:=I.cell x c e
  exact absurd (yah q.lt (by rw [z];exact hb)) (yba _)
 ·exact absurd (yah (yj (I.pin p hp).1) (by rw [z];exact hb)) (yba _)
structure Jq7 (P:Program) (w:World) (K:PySem.W.Frag) (tg:Expr) (J:It) (fp:List Addr) (it:Addr) (tn:Nat->Heap->Prop):Prop where
 mem:it∈fp
 obj:∀i h,tn i h->∀b∈fp,∃o,h.get? b=some o/\∀v,o.data≠ .cell v
 keep:∀i h h',tn i h->(∀b∈fp,∀o,h.get? b=some o->h'.get? b=some o)->tn i h'
 item:∀(X:Cx),X.prog=P->X.w=w->X.K=K->X.calm=true->∀(i:Nat) (pins:List (Addr×Obj)) (s:Shared) (σ:St) (H:Hp) (E:Value->Shared->Prop),Inv X pins σ H s->(∀b∈fp,Jq5 X pins H b)->tn i s.heap->J.go i H->
  wpAny (model P w) X.A (pyNext (.ref it)) (λr s1=>∃u,r=some u/\
   wpAny (model P w) X.A (letOwnedTupleGo tg (.ref it) u) (λ_ s2=>∃x H',Inv X pins σ H' s2/\RelV x u/\J.yld i H x H'/\tn (i+1) s2.heap/\∀b∈fp,H' b=none) E s1) E s
 done:∀(X:Cx),X.prog=P->X.w=w->X.K=K->X.calm=true->∀(i:Nat) (pins:List (Addr×Obj)) (s:Shared) (σ:St) (H:Hp) (E:Value->Shared->Prop),Inv X pins σ H s->(∀b∈fp,Jq5 X pins H b)->tn i s.heap->J.stop i H->
  wpAny (model P w) X.A (pyNext (.ref it)) (λr s1=>r=none/\Inv X pins σ H s1) E s
 self:∀(A:Around) (i:Nat) (s:Shared) (Q:Value->Shared->Prop) (E:Value->Shared->Prop),tn i s.heap->Q (.ref it) s->wpAny (model P w) A (pyIter (.ref it)) Q E s
abbrev TI:=St->Hp->(It->Hp->Prop)->Prop
def PIE (X:Cx) (pins:List (Addr×Obj)) (σ:St) (tg:Expr) (R:It->Hp->Prop) (itv:Value) (s2:Shared):Prop:=
 ∃(it:Addr) (fp:List Addr) (tn:Nat->Heap->Prop) (J:It) (H':Hp),itv= .ref it/\Inv X pins σ H' s2/\Jq7 X.prog X.w X.K tg J fp it tn/\tn 0 s2.heap/\(∀b∈fp,Jq5 X pins H' b)/\R J H'
def PI (X:Cx) (tg iter:Expr) (wi:TI):Prop:=
 ∀(pins:List (Addr×Obj)) (s:Shared) (σ:St) (H:Hp) (R:It->Hp->Prop),Inv X pins σ H s->wi σ H R->
  wpAny (model X.prog X.w) X.A (eval iter X.env) (λv s1=>wpAny (model X.prog X.w) X.A (pyIter v) (PIE X pins σ tg R) X.xe s1) X.xe s
theorem Jvw {M:Model} {A:Around} {E:Value->Shared->Prop} {s:Shared} {tg:Expr} {it:Addr} {u:Value} {o:Obj} {n:String} {vs:Array Value} {Q:Unit->Shared->Prop} (ho:s.heap.get? it=some o) (hc:o.cls= .type n) (hd:o.data= .fields vs)
  (hn: ["enumerate","zip","dict_itemiterator","dict_reverseitemiterator","odict_iterator","itertools.zip_longest","itertools.pairwise"].contains n=false) (hQ:Q () s):wpAny M A (letOwnedTupleGo tg (.ref it) u) Q E s:=by
 unfold letOwnedTupleGo
 cases tg <;> first
  |exact wpAny_pure hQ
  | (cases u <;> first
    |exact wpAny_pure hQ
    | (refine wpAny_bind (wpAny_load ho ?_)
       rw [hc,hd]
       show wpAny M A (if (["enumerate","zip","dict_itemiterator","dict_reverseitemiterator","odict_iterator","itertools.zip_longest","itertools.pairwise"].contains n&&vs[0]?==some (rawInt _))=true then _ else _) Q E s
       rw [if_neg (by intro h;rw [hn,ybv] at h;cases h)]
       exact wpAny_pure hQ))
def Itl (K:PySem.W.Frag) (a:Addr):It:=
 ⟨λi H=>∃xs x,SqL K H a xs/\xs[i]?=some x,λi H x H'=>H'=H/\∀xs,SqL K H a xs->xs[i]?=some x,λi H=>∃xs,SqL K H a xs/\xs.length<=i⟩
def Itt (K:PySem.W.Frag) (a:Addr):It:=
 ⟨λi H=>∃xs x,SqT K H a xs/\xs[i]?=some x,λi H x H'=>H'=H/\∀xs,SqT K H a xs->xs[i]?=some x,λi H=>∃xs,SqT K H a xs/\xs.length<=i⟩
def Itr (lo:Int) (n:Nat):It:=⟨λi _=>i < n,λi H x H'=>H'=H/\x= .int (lo+i),λi _=>n<=i⟩
theorem Ju8 {P:Program} {w:World} {K:PySem.W.Frag} {tg:Expr} (a it:Addr):Jq7 P w K tg (Itl K a) [it] it (λi h=>h.IsListIter it a i) where
 mem:=by simp
 obj:=λi h st b hb=>by
  have e:b=it:=by simpa using hb
  subst e
  obtain ⟨o,e,c,d⟩:=st
  exact ⟨o,e,λv z=>by rw [d] at z;cases z⟩
 keep:=λi h h' st k=>st.at λo e=>k it (by simp) o e
 item:=by
  intro X hP hw hK hc i pins s σ H E I hf st hg
  subst hP hw hK
  obtain ⟨xs,x,hq,hx⟩:=hg
  obtain ⟨its,rv,p,hz⟩:=I.list hq
  obtain ⟨u,hu,ru⟩:=rv.get hx
  obtain ⟨f0,f1,f2,f3,f4,f5⟩:=hf it (by simp)
  refine wpAny_pyNext_list_item st p.isList (x:=u) (by simpa using hu) λh' st' sb=>?_
  have I1:Inv X pins σ H {s with heap:=h'}:=I.turned (t':=s.toks) (λb o hb e=>(sb.2 b hb).trans e) f0 f1 f3 f4 f5
  obtain ⟨o,e,c,d⟩:=id st'
  exact ⟨u,rfl,Jvw (s:={s with heap:=h'}) e c d (by decide) ⟨x,H,I1,ru,⟨rfl,λys hy=>by rw [I.list_inj hy hq];exact hx⟩,st',λb hb=>(hf b hb).1⟩⟩
 done:=by
  intro X hP hw hK hc i pins s σ H E I hf st hg
  subst hP hw hK
  obtain ⟨xs,hq,hx⟩:=hg
  obtain ⟨its,rv,p,hz⟩:=I.list hq
  obtain ⟨f0,f1,f2,f3,f4,f5⟩:=hf it (by simp)
  have hl:=rv.length
  exact wpAny_pyNext_list_end (I.ok.hd hc) st p.isList (by simp;omega) λh' eb=>⟨rfl,I.turned (t':=s.toks) (λb o hb e=>eb b o hb e) f0 f1 f3 f4 f5⟩
 self:=λ_ _ _ _ _ st h=>wpAny_pyIter_listiter st h
theorem Jso {P:Program} {w:World} {K:PySem.W.Frag} {tg:Expr} (a it:Addr):Jq7 P w K tg (Itt K a) [it] it (λi h=>h.IsTupleIter it a i) where
 mem:=by simp
 obj:=λi h st b hb=>by
  have e:b=it:=by simpa using hb
  subst e
  obtain ⟨o,e,c,d⟩:=st
  exact ⟨o,e,λv z=>by rw [d] at z;cases z⟩
 keep:=λi h h' st k=>st.at λo e=>k it (by simp) o e
 item:=by
  intro X hP hw hK hc i pins s σ H E I hf st hg
  subst hP hw hK
  obtain ⟨xs,x,hq,hx⟩:=hg
  obtain ⟨its,rv,p,hz⟩:=I.tuple hq
  obtain ⟨u,hu,ru⟩:=rv.get hx
  obtain ⟨f0,f1,f2,f3,f4,f5⟩:=hf it (by simp)
  refine wpAny_pyNext_tuple_item st (show s.heap.IsTuple a its.toArray from p) (x:=u) (by simpa using hu) λh' st' sb=>?_
  have I1:Inv X pins σ H {s with heap:=h'}:=I.turned (t':=s.toks) (λb o hb e=>(sb.2 b hb).trans e) f0 f1 f3 f4 f5
  obtain ⟨o,e,c,d⟩:=id st'
  exact ⟨u,rfl,Jvw (s:={s with heap:=h'}) e c d (by decide) ⟨x,H,I1,ru,⟨rfl,λys hy=>by rw [I.tuple_inj hy hq];exact hx⟩,st',λb hb=>(hf b hb).1⟩⟩
 done:=by
  intro X hP hw hK hc i pins s σ H E I hf st hg
  subst hP hw hK
  obtain ⟨xs,hq,hx⟩:=hg
  obtain ⟨its,rv,p,hz⟩:=I.tuple hq
  obtain ⟨f0,f1,f2,f3,f4,f5⟩:=hf it (by simp)
  have hl:=rv.length
  exact wpAny_pyNext_tuple_end (I.ok.hd hc) st (show s.heap.IsTuple a its.toArray from p) (by simp;omega) λh' eb=>⟨rfl,I.turned (t':=s.toks) (λb o hb e=>eb b o hb e) f0 f1 f3 f4 f5⟩
 self:=λ_ _ _ _ _ st h=>wpAny_pyIter_tupleiter st h
theorem Jy6 {P:Program} {w:World} {K:PySem.W.Frag} {tg:Expr} (it:Addr) (lo:Int) (n:Nat):Jq7 P w K tg (Itr lo n) [it] it (λi h=>IsRangeIter h it (lo+(i:Nat)*1) ((n:Int) - (i:Nat)) 1) where
 mem:=by simp
 obj:=λi h st b hb=>by
  have e:b=it:=by simpa using hb
  subst e
  exact ⟨_,st,λv z=>by
   have z':Data.fields _=Data.cell v:=z
   cases z'⟩
 keep:=λi h h' st k=>k it (by simp) _ st
 item:=by
  intro X hP hw hK hc i pins s σ H E I hf st hg
  subst hP hw hK
  obtain ⟨f0,f1,f2,f3,f4,f5⟩:=hf it (by simp)
  have W:=Walks.range (prog:=X.prog) (w:=X.w) (I.ok.hd hc) it lo 1 n
  refine W.item i s _ _ hg st λv h' tk hv st' kk=>?_
  obtain ⟨t,rfl⟩:=hv
  have I1:Inv X pins σ H {s with heap:=h',toks:=tk}:=I.turned (λb o hb e=>kk b o (by simpa using hb) e) f0 f1 f3 f4 f5
  refine ⟨_,rfl,Jvw (s:={s with heap:=h',toks:=tk}) (n:="range_iterator") st' rfl rfl (by decide) ⟨.int (lo+i),H,I1,⟨t,?_⟩,⟨rfl,rfl⟩,st',λb hb=>(hf b hb).1⟩⟩
  rw [Int.mul_one]
 done:=by
  intro X hP hw hK hc i pins s σ H E I hf st hg
  subst hP hw hK
  obtain ⟨f0,f1,f2,f3,f4,f5⟩:=hf it (by simp)
  exact wpAny_pyNext_range_end (I.ok.hd hc) st (by have:n<=i:=hg;omega) λh' eb=>⟨rfl,I.turned (t':=s.toks) (λb o hb e=>eb b o hb e) f0 f1 f3 f4 f5⟩
 self:=λ_ _ _ _ _ st h=>wpAny_pyIter_rangeiter st h
end L2
namespace L2
open PySem PySem.Spec PyProof.Rows
section
variable {X:Cx} {tg:Expr}
def iList (K:PySem.W.Frag) (tl:TE):TI:=λσ H R=>tl σ H λx H1=>∃a,x= .ref a/\(∃xs,SqL K H1 a xs)/\R (Itl K a) H1
def iTup (K:PySem.W.Frag) (tl:TE):TI:=λσ H R=>tl σ H λx H1=>∃a,x= .ref a/\(∃xs,SqT K H1 a xs)/\R (Itt K a) H1
theorem Jku {l:Expr} {tl:TE} (hl:PE X l tl):PI X tg l (iList X.K tl):=by
 intro pins s σ H R I h
 refine thn (hl pins s σ H _ I h) λv s1 zq=>?_
 obtain ⟨x,H1,I1,r1,q1⟩:=zq
 obtain ⟨a,e,⟨xs,hq⟩,q⟩:=q1
 subst e
 cases r1
 obtain ⟨its,rv,p,hz⟩:=I1.list hq
 refine wpAny_pyIter_list p.isList ?_
 refine ⟨s1.heap.objs.size,[s1.heap.objs.size],_,_,H1,rfl,I1.kept (t':=s1.toks) λb o e=>yi _ e,Ju8 a _,⟨_,yo _ rfl,rfl,rfl⟩,λb hb=>?_,q⟩
 have e:b=s1.heap.objs.size:=by simpa using hb
 subst e
 exact I1.fpOk (yg _) (I1.hok.fresh (yg _))
theorem Jsc {l:Expr} {tl:TE} (hl:PE X l tl):PI X tg l (iTup X.K tl):=by
 intro pins s σ H R I h
 refine thn (hl pins s σ H _ I h) λv s1 zq=>?_
 obtain ⟨x,H1,I1,r1,q1⟩:=zq
 obtain ⟨a,e,⟨xs,hq⟩,q⟩:=q1
 subst e
 cases r1
 obtain ⟨its,rv,p,hz⟩:=I1.tuple hq
 refine wpAny_pyIter_tuple (show s1.heap.IsTuple a its.toArray from p) ?_
 refine ⟨s1.heap.objs.size,[s1.heap.objs.size],_,_,H1,rfl,I1.kept (t':=s1.toks) λb o e=>yi _ e,Jso a _,⟨_,yo _ rfl,rfl,rfl⟩,λb hb=>?_,q⟩
 have e:b=s1.heap.objs.size:=by simpa using hb
 subst e
 exact I1.fpOk (yg _) (I1.hok.fresh (yg _))
theorem Jwe {pins:List (Addr×Obj)} {σ:St} {H:Hp} {s:Shared} {R:It->Hp->Prop} {E:Value->Shared->Prop} {lo hi:Int} {t u v:Tok} {tk:Nat} (I:Inv X pins σ H s) (h1: -(2^62)<=lo) (h2:lo < 2^62) (h3: -(2^62)<=hi) (h4:hi < 2^62)
  (q:R (Itr lo (hi - lo).toNat) H):wpAny (model X.prog X.w) X.A (pyIter (.ref s.heap.objs.size)) (PIE X pins σ tg R) E {s with heap:=s.heap.push {cls:=.type "range",data:=.fields #[.int lo t,.int hi u,.int 1 v]},toks:=tk}:=by
 refine wpAny_pyIter_range (IsRange.new ..) (small_one h1 h2 h3 h4) ?_
 have I1:Inv X pins σ H {s with heap:=s.heap.push {cls:=.type "range",data:=.fields #[.int lo t,.int hi u,.int 1 v]},toks:=tk}:=I.kept λb o e=>yi _ e
 refine ⟨(s.heap.push {cls:=.type "range",data:=.fields #[.int lo t,.int hi u,.int 1 v]}).objs.size,[(s.heap.push {cls:=.type "range",data:=.fields #[.int lo t,.int hi u,.int 1 v]}).objs.size],_,_,H,rfl,
  I1.kept (t':=tk) λb o e=>yi _ e,Jy6 _ lo (hi - lo).toNat,?_,λb hb=>?_,q⟩
 ·have e1:lo+((0:Nat):Int)*1=lo:=by simp
  have e2:(((hi - lo).toNat:Nat):Int) - ((0:Nat):Int)=Builtin.Range.rangeSize lo hi 1:=by rw [rangeSize_one];split <;> omega
  show IsRangeIter _ _ (lo+((0:Nat):Int)*1) ((((hi - lo).toNat:Nat):Int) - ((0:Nat):Int)) 1
  rw [e1,e2]
  exact yo _ rfl
 ·have e:b=(s.heap.push {cls:=.type "range",data:=.fields #[.int lo t,.int hi u,.int 1 v]}).objs.size:=by simpa using hb
  subst e
  exact I1.fpOk (yg _) (I1.hok.fresh (yg _))
def iRng1 (ta:TA):TI:=λσ H R=>ta σ H λvs H1=>∃j:Int,vs= [.int j]/\ -(2^62)<=j/\j < 2^62/\R (Itr 0 j.toNat) H1
def iRng2 (ta:TA):TI:=λσ H R=>ta σ H λvs H1=>∃i j:Int,vs= [.int i,.int j]/\(-(2^62)<=i/\i < 2^62/\ -(2^62)<=j/\j < 2^62)/\R (Itr i (j - i).toNat) H1
theorem Jl8 {a:Expr} {ta:TA} {p pos:Pos} (hg:Gl X "range") (hm:X.mg "range" =none) (ha:PA X [a] ta) (hs:starEach [a] X.env= [(false,eval a X.env)]:=by rfl):PI X tg (.Call (.Name "range" p) [a] [] pos) (iRng1 ta):=by
 intro pins s σ H R I h
 refine Call_ (Jn9 I hg hm boot_range (PyProof.Rows.callWith_type1 (thn (ha pos pins s σ H _ I h) λus s1 zq=>?_) hs rfl))
 obtain ⟨vs,H1,I1,r1,q1⟩:=zq
 obtain ⟨j,e,q1,q2,q⟩:=q1
 subst e
 cases r1 with
 |cons r rr=>
  cases rr
  obtain ⟨t,rfl⟩:=r
  exact call_range_1 (Jwe I1 (by omega) (by omega) q1 q2 (by simpa using q))
theorem Jzv {a b:Expr} {ta:TA} {p pos:Pos} (hg:Gl X "range") (hm:X.mg "range" =none) (ha:PA X [a,b] ta) (hs:starEach [a,b] X.env= [(false,eval a X.env),(false,eval b X.env)]:=by rfl) (hs2:starEach [b] X.env= [(false,eval b X.env)]:=by rfl):
  PI X tg (.Call (.Name "range" p) [a,b] [] pos) (iRng2 ta):=by
 intro pins s σ H R I h
 refine Call_ (Jn9 I hg hm boot_range (PyProof.Rows.callWith_type1 (thn (ha pos pins s σ H _ I h) λus s1 zq=>?_) (by rw [hs,hs2]) (by rw [hs2];rfl)))
 obtain ⟨vs,H1,I1,r1,q1⟩:=zq
 obtain ⟨i,j,e,⟨q1,q2,q3,q4⟩,q⟩:=q1
 subst e
 cases r1 with
 |cons r rr=>
  cases rr with
  |cons r' rr=>
   cases rr
   obtain ⟨t,rfl⟩:=r
   obtain ⟨t',rfl⟩:=r'
   exact call_range_2 (Jwe I1 q1 q2 q3 q4 q)
def tFor (wi:TI) (g:TG) (tb:TS):TS:=λD σ H=>wi σ H λJ H1=>∃W:Nat->Nat->St->Hp->Prop,(∃m,W 0 m σ H1)/\∀i m σ H,W i m σ H->
 (J.stop i H/\D.nx σ H)\/(J.go i H/\∃N:St->Hp->Prop,(∀σ' H',N σ' H'->∃m',m' < m/\W (i+1) m' σ' H')/\∀x H',J.yld i H x H'->g x σ H' λσ2 H2=>tb {D with nx:=N,ct:=N,bk:=D.nx} σ2 H2)
def Jsd (fp:List Addr) (h:Heap):List (Addr×Obj):=fp.filterMap λb=>(h.get? b).map λo=>(b,o)
theorem Jnb {fp:List Addr} {h:Heap} {b:Addr} {o:Obj} (hb:b∈fp) (e:h.get? b=some o):(b,o)∈Jsd fp h:=List.mem_filterMap.mpr ⟨b,hb,by rw [e];rfl⟩
theorem Jzo {fp:List Addr} {h:Heap} {p:Addr×Obj} (hp:p∈Jsd fp h):p.1∈fp/\h.get? p.1=some p.2:=by
 obtain ⟨b,hb,e⟩:=List.mem_filterMap.mp hp
 cases q:h.get? b with
 |none=>rw [q] at e;cases e
 |some o=>
  rw [q] at e
  have e':(b,o)=p:=yy.inj e
  subst e'
  exact ⟨hb,q⟩
theorem Inv.pinned {pins:List (Addr×Obj)} {σ:St} {H:Hp} {s:Shared} {fp:List Addr} (I:Inv X pins σ H s) (hf:∀b∈fp,Jq5 X pins H b) (ho:∀b∈fp,∃o,s.heap.get? b=some o/\∀v,o.data≠ .cell v):Inv X (pins++Jsd fp s.heap) σ H s:=
 I.pins_of λp hp=>(ybu.mp hp).elim (λz=>I.pin p (ybh _ z)) λz=>by
  obtain ⟨hb,e⟩:=Jzo z
  obtain ⟨f0,f1,f2,_⟩:=hf p.1 hb
  obtain ⟨o,e',d⟩:=ho p.1 hb
  rw [e] at e';cases e'
  exact ⟨e,f0,f1,f2,d⟩
theorem Inv.unpinned {pins pl:List (Addr×Obj)} {σ:St} {H:Hp} {s:Shared} (I:Inv X (pins++pl) σ H s):Inv X pins σ H s:=I.pins_of λp hp=>I.pin p (ybh _ (yci _ hp))
theorem Jpa {iter:Expr} {body:List Stmt} {wi:TI} {g:TG} {tb:TS} {pos:Pos} (hp:PassesOwn (model X.prog X.w) X.A X.env X.xe) (hc:X.calm=true) (hi:PI X tg iter wi) (hg:PG X tg g) (hb:PSs X body tb)
  (hs:∀x,foldedSetIterable iter X.env x=pure x:=by intro _;rfl):PS X (.For tg iter body [] pos) (tFor wi g tb):=by
 intro pins s σ H D I h
 refine wpAny_For (thn (hi pins s σ H _ I h) λv s1 h1=>thn h1 λitv s2 h2=>?_) hs
 obtain ⟨it,fp,tn,J,H2,e,I2,T,st2,f2,W,⟨m0,w0⟩,turn⟩:=h2
 subst e
 have stat:∀{H':Hp},(∀b∈fp,H' b=none)->∀b∈fp,Jq5 X pins H' b:=λhn b hb=>⟨hn b hb,(f2 b hb).2⟩
 refine codeAny_forLoop_any (λn s'=>∃i σ' H',Inv X pins σ' H' s'/\tn i s'.heap/\(∀b∈fp,H' b=none)/\W i n σ' H') ?_ m0 ⟨0,σ,H2,I2,st2,λb hb=>(f2 b hb).1,w0⟩
 rintro n s3 ⟨i,σ3,H3,I3,st3,fr3,w3⟩
 rcases turn i n σ3 H3 w3 with ⟨stop,qn⟩|⟨go,N,hN,step⟩
 ·refine wpAny_passesOwn hp (thn (T.done X rfl rfl rfl hc i pins s3 σ3 H3 X.xe I3 (stat fr3) st3 stop) λr s4 ⟨hr,I4⟩=>?_)
  subst hr
  exact wpAny_execs_nil ⟨σ3,H3,I4,qn⟩
 ·refine wpAny_passesOwn hp (thn (T.item X rfl rfl rfl hc i pins s3 σ3 H3 X.xe I3 (stat fr3) st3 go) λr s4 ⟨u,hr,h4⟩=>?_)
  subst hr
  refine wpAny_passesOwn hp (thn h4 λ_ s5 zq=>?_)
  obtain ⟨x,H5,I5,r5,y5,st5,fr5⟩:=zq
  have I5':=I5.pinned (stat fr5) (T.obj _ _ st5)
  refine wpAny_passesOwn hp (thn (hg _ s5 σ3 H5 x u _ I5' r5 (step x H5 y5)) λ_ s6 zq=>?_)
  obtain ⟨σ6,H6,I6,q6⟩:=zq
  refine wpAny_passesOwn hp (thn (hb _ s6 σ6 H6 _ I6 q6) λf s7 q7=>?_)
  have again:∀{σ7:St} {H7:Hp},Inv X (pins++Jsd fp s5.heap) σ7 H7 s7->N σ7 H7->∃m,m < n/\∃i σ' H',Inv X pins σ' H' s7/\tn i s7.heap/\(∀b∈fp,H' b=none)/\W i m σ' H':=λ{σ7 H7} I7 n7=>by
   obtain ⟨m',hm,w7⟩:=hN σ7 H7 n7
   refine ⟨m',hm,i+1,σ7,H7,I7.unpinned,T.keep _ _ _ st5 λb hb o e=>(I7.pin (b,o) (ybh _ (ybh _ (Jnb hb e)))).1,λb hb=>?_,w7⟩
   obtain ⟨o,e,d⟩:=T.obj _ _ st5 b hb
   exact (I7.pin (b,o) (ybh _ (ybh _ (Jnb hb e)))).2.1
  cases f with
  |next=>obtain ⟨σ7,H7,I7,n7⟩:=q7;exact again I7 n7
  |cont=>obtain ⟨σ7,H7,I7,n7⟩:=q7;exact again I7 n7
  |brk=>obtain ⟨σ7,H7,I7,q7⟩:=q7;exact ⟨σ7,H7,I7.unpinned,q7⟩
  |ret v=>obtain ⟨x7,σ7,H7,I7,r7,q7⟩:=q7;exact ⟨x7,σ7,H7,I7.unpinned,r7,q7⟩
end
theorem Jvv {K:PySem.W.Frag} {a:Addr} {xs:List V} {g:TG} {tb:TS} {D:Ends} {σ:St} {H:Hp} (Pv:Nat->St->Hp->Prop) (h0:Pv 0 σ H) (hl:∀i σ H,i<=xs.length->Pv i σ H->SqL K H a xs)
  (hs:∀i x σ H,xs[i]?=some x->Pv i σ H->g x σ H λσ2 H2=>tb {D with nx:=Pv (i+1),ct:=Pv (i+1),bk:=D.nx} σ2 H2) (hd:∀σ H,Pv xs.length σ H->D.nx σ H):
  ∃W:Nat->Nat->St->Hp->Prop,(∃m,W 0 m σ H)/\∀i m σ H,W i m σ H->
   ((Itl K a).stop i H/\D.nx σ H)\/((Itl K a).go i H/\∃N:St->Hp->Prop,(∀σ' H',N σ' H'->∃m',m' < m/\W (i+1) m' σ' H')/\∀x H',(Itl K a).yld i H x H'->g x σ H' λσ2 H2=>tb {D with nx:=N,ct:=N,bk:=D.nx} σ2 H2):=by
 refine ⟨λi m σ H=>m=xs.length - i/\i<=xs.length/\Pv i σ H,⟨xs.length,by simp,yal _,h0⟩,?_⟩
 rintro i m σ H ⟨rfl,hi,p⟩
 have q:=hl i σ H hi p
 by_cases hlt:i < xs.length
 ·refine .inr ⟨⟨xs,xs[i],q,by simp [hlt]⟩,Pv (i+1),λσ' H' p'=>⟨xs.length - (i+1),by omega,rfl,hlt,p'⟩,λx H' y=>?_⟩
  obtain ⟨e,y⟩:=y
  subst e
  exact hs i x σ _ (y xs q) p
 ·have e:i=xs.length:=by omega
  subst e
  exact .inl ⟨⟨xs,q,yg _⟩,hd σ H p⟩
theorem Yce {K:PySem.W.Frag} {a:Addr} {xs:List V} {g:TG} {tb:TS} {D:Ends} {σ:St} {H:Hp} (Pv:Nat->St->Hp->Prop) (h0:Pv 0 σ H) (hl:∀i σ H,i<=xs.length->Pv i σ H->SqT K H a xs)
  (hs:∀i x σ H,xs[i]?=some x->Pv i σ H->g x σ H λσ2 H2=>tb {D with nx:=Pv (i+1),ct:=Pv (i+1),bk:=D.nx} σ2 H2) (hd:∀σ H,Pv xs.length σ H->D.nx σ H):
  ∃W:Nat->Nat->St->Hp->Prop,(∃m,W 0 m σ H)/\∀i m σ H,W i m σ H->
   ((Itt K a).stop i H/\D.nx σ H)\/((Itt K a).go i H/\∃N:St->Hp->Prop,(∀σ' H',N σ' H'->∃m',m' < m/\W (i+1) m' σ' H')/\∀x H',(Itt K a).yld i H x H'->g x σ H' λσ2 H2=>tb {D with nx:=N,ct:=N,bk:=D.nx} σ2 H2):=by
 refine ⟨λi m σ H=>m=xs.length - i/\i<=xs.length/\Pv i σ H,⟨xs.length,by simp,yal _,h0⟩,?_⟩
 rintro i m σ H ⟨rfl,hi,p⟩
 have q:=hl i σ H hi p
 by_cases hlt:i < xs.length
 ·refine .inr ⟨⟨xs,xs[i],q,by simp [hlt]⟩,Pv (i+1),λσ' H' p'=>⟨xs.length - (i+1),by omega,rfl,hlt,p'⟩,λx H' y=>?_⟩
  obtain ⟨e,y⟩:=y
  subst e
  exact hs i x σ _ (y xs q) p
 ·have e:i=xs.length:=by omega
  subst e
  exact .inl ⟨⟨xs,q,yg _⟩,hd σ H p⟩
theorem Jod {lo:Int} {n:Nat} {g:TG} {tb:TS} {D:Ends} {σ:St} {H:Hp} (Pv:Nat->St->Hp->Prop) (h0:Pv 0 σ H)
  (hs:∀i σ H,i < n->Pv i σ H->g (.int (lo+i)) σ H λσ2 H2=>tb {D with nx:=Pv (i+1),ct:=Pv (i+1),bk:=D.nx} σ2 H2) (hd:∀σ H,Pv n σ H->D.nx σ H):
  ∃W:Nat->Nat->St->Hp->Prop,(∃m,W 0 m σ H)/\∀i m σ H,W i m σ H->
   ((Itr lo n).stop i H/\D.nx σ H)\/((Itr lo n).go i H/\∃N:St->Hp->Prop,(∀σ' H',N σ' H'->∃m',m' < m/\W (i+1) m' σ' H')/\∀x H',(Itr lo n).yld i H x H'->g x σ H' λσ2 H2=>tb {D with nx:=N,ct:=N,bk:=D.nx} σ2 H2):=by
 refine ⟨λi m σ H=>m=n - i/\i<=n/\Pv i σ H,⟨n,by simp,yal _,h0⟩,?_⟩
 rintro i m σ H ⟨rfl,hi,p⟩
 by_cases hlt:i < n
 ·refine .inr ⟨hlt,Pv (i+1),λσ' H' p'=>⟨n - (i+1),by omega,rfl,hlt,p'⟩,λx H' y=>?_⟩
  obtain ⟨e,y⟩:=y
  subst e y
  exact hs i σ _ hlt p
 ·have e:i=n:=by omega
  subst e
  exact .inl ⟨yg _,hd σ H p⟩
end L2
namespace L2
open PySem PySem.Spec PyProof.Rows
abbrev R2:=V->V->Hp->VK->Prop
def OpR (X:Cx) (f:Value->Value->Sem Value) (r:R2):Prop:=
 ∀(pins:List (Addr×Obj)) (s:Shared) (σ:St) (H:Hp) (x y:V) (v u:Value) (Q:VK),Inv X pins σ H s->RelV x v->RelV y u->r x y H Q->
  wpAny (model X.prog X.w) X.A (f v u) (EP X pins σ Q) X.xe s
def UnR (X:Cx) (f:Value->Sem Value) (r:V->Hp->VK->Prop):Prop:=
 ∀(pins:List (Addr×Obj)) (s:Shared) (σ:St) (H:Hp) (x:V) (v:Value) (Q:VK),Inv X pins σ H s->RelV x v->r x H Q->
  wpAny (model X.prog X.w) X.A (f v) (EP X pins σ Q) X.xe s
def Jle (X:Cx) (f:Value) (r:List V->Hp->VK->Prop):Prop:=
 ∀(pins:List (Addr×Obj)) (s:Shared) (σ:St) (H:Hp) (xs:List V) (us:List Value) (Q:VK),Inv X pins σ H s->Vals xs us->r xs H Q->
  wpAny (model X.prog X.w) X.A (call f us) (EP X pins σ Q) X.xe s
def tOp (r:R2) (ta tb:TE):TE:=λσ H Q=>ta σ H λx H1=>tb σ H1 λy H2=>r x y H2 Q
def tUn (r:V->Hp->VK->Prop) (ta:TE):TE:=λσ H Q=>ta σ H λx H1=>r x H1 Q
def rI (C:Int->Int->Prop) (g:Int->Int->V):R2:=λx y H Q=>∃i j,x= .int i/\y= .int j/\C i j/\Q (g i j) H
def rI0 (g:Int->Int->V):R2:=λx y H Q=>∃i j,x= .int i/\y= .int j/\Q (g i j) H
def rU (g:Int->V):V->Hp->VK->Prop:=λx H Q=>∃i,x= .int i/\Q (g i) H
section
variable {X:Cx} {a b c:Expr} {ta tb tc:TE} {pos:Pos}
theorem binT (ha:PE X a ta) (hb:PE X b tb) {pins:List (Addr×Obj)} {s:Shared} {σ:St} {H:Hp} {R:V->V->Hp->Prop} (I:Inv X pins σ H s)
  (h:ta σ H λx H1=>tb σ H1 λy H2=>R x y H2) {Q:Value->Shared->Prop} {f:Value->Value->Sem Value}
  (hf:∀v u s2 x y H2,Inv X pins σ H2 s2->RelV x v->RelV y u->R x y H2->wpAny (model X.prog X.w) X.A (f v u) Q X.xe s2):
  wpAny (model X.prog X.w) X.A (eval a X.env) (λv s₁=>wpAny (model X.prog X.w) X.A (eval b X.env) (λu s₂=>wpAny (model X.prog X.w) X.A (f v u) Q X.xe s₂) X.xe s₁) X.xe s:=by
 refine thn (ha pins s σ H _ I h) λv s1 zq=>?_
 obtain ⟨x,H1,I1,r1,q1⟩:=zq
 refine thn (hb pins s1 σ H1 _ I1 q1) λu s2 zq=>?_
 obtain ⟨y,H2,I2,r2,q2⟩:=zq
 exact hf v u s2 x y H2 I2 r1 r2 q2
theorem Jjt {op:Operator} {r:R2} (ho:OpR X (binaryOp op) r) (ha:PE X a ta) (hb:PE X b tb):PE X (.BinOp a op b pos) (tOp r ta tb):=by
 intro pins s σ H Q I h
 exact wpAny_BinOp (binT ha hb I h λv u s2 x y H2 I2 rx ry q=>ho pins s2 σ H2 x y v u Q I2 rx ry q)
theorem Ju2 {op:UnaryOp} {r:V->Hp->VK->Prop} (ho:UnR X (unaryOp op) r) (ha:PE X a ta):PE X (.UnaryOp op a pos) (tUn r ta):=by
 intro pins s σ H Q I h
 exact UnaryOp_ (thn (ha pins s σ H _ I h) λv s1 ⟨x,H1,I1,r1,q1⟩=>ho pins s1 σ H1 x v Q I1 r1 q1)
theorem opI {f:Value->Value->Sem Value} {C:Int->Int->Prop} {g:Int->Int->Int}
  (rule:∀(i j:Int) (t u:Tok) (s:Shared) (Q:Value->Shared->Prop) (E:Value->Shared->Prop),C i j->Q (.int (g i j) s.toks) {s with toks:=s.toks+1}->wpAny (model X.prog X.w) X.A (f (.int i t) (.int j u)) Q E s):
  OpR X f (rI C λi j=>.int (g i j)):=by
 intro pins s σ H x y v u Q I rx ry h
 obtain ⟨i,j,rfl,rfl,hc,q⟩:=h
 obtain ⟨t,rfl⟩:=rx
 obtain ⟨t',rfl⟩:=ry
 exact rule i j t t' s _ _ hc ⟨.int (g i j),H,I.tok _,⟨_,rfl⟩,q⟩
theorem opI0 {f:Value->Value->Sem Value} {g:Int->Int->Int}
  (rule:∀(i j:Int) (t u:Tok) (s:Shared) (Q:Value->Shared->Prop) (E:Value->Shared->Prop),Q (.int (g i j) s.toks) {s with toks:=s.toks+1}->wpAny (model X.prog X.w) X.A (f (.int i t) (.int j u)) Q E s):
  OpR X f (rI0 λi j=>.int (g i j)):=by
 intro pins s σ H x y v u Q I rx ry h
 obtain ⟨i,j,rfl,rfl,q⟩:=h
 obtain ⟨t,rfl⟩:=rx
 obtain ⟨t',rfl⟩:=ry
 exact rule i j t t' s _ _ ⟨.int (g i j),H,I.tok _,⟨_,rfl⟩,q⟩
theorem opB0 {f:Value->Value->Sem Value} {g:Int->Int->Bool}
  (rule:∀(i j:Int) (t u:Tok) (s:Shared) (Q:Value->Shared->Prop) (E:Value->Shared->Prop),Q (.bool (g i j)) s->wpAny (model X.prog X.w) X.A (f (.int i t) (.int j u)) Q E s):
  OpR X f (rI0 λi j=>.bl (g i j)):=by
 intro pins s σ H x y v u Q I rx ry h
 obtain ⟨i,j,rfl,rfl,q⟩:=h
 obtain ⟨t,rfl⟩:=rx
 obtain ⟨t',rfl⟩:=ry
 exact rule i j t t' s _ _ ⟨.bl (g i j),H,I,rfl,q⟩
def CPow (i j:Int):Prop:=0<=j/\j<=1000000/\i.natAbs < 2^64
def CMul (i j:Int):Prop:=(-(2^64) < i/\i < 2^64)\/(-(2^64) < j/\j < 2^64)
theorem CMul.ok {i j:Int} (h:CMul i j):IntMulOk i j:=by
 rcases h with ⟨h1,h2⟩|⟨h1,h2⟩
 ·exact .of_left (intBits_le_64 h1 h2)
 ·exact .of_right (intBits_le_64 h1 h2)
theorem two_pow_nn (k:Nat):(0:Int)<=2^k:=by
 rw [two_pow_cast]
 exact Int.natCast_nonneg _
theorem Jks:OpR X (binaryOp .Add) (rI0 λi j=>.int (i+j)):=opI0 λ_ _ _ _ _ _ _ q=>add_int q
theorem Jlt:OpR X (binaryOp .Sub) (rI0 λi j=>.int (i - j)):=opI0 λ_ _ _ _ _ _ _ q=>sub_int q
theorem Jp7:OpR X (binaryOp .Mult) (rI CMul λi j=>.int (i*j)):=opI λ_ _ _ _ _ _ _ hc q=>mul_int q hc.ok
theorem Jqn:OpR X (binaryOp .Mod) (rI (λ_ j=>0 < j) λi j=>.int (i%j)):=opI λi j _ _ _ _ _ hc q=>by
 have h1:(0:Int) < j:=hc
 exact mod_int' (by omega) (by rw [Int.fmod_eq_emod_of_nonneg i (by omega)];exact q)
theorem Jv7:OpR X (binaryOp .Pow) (rI CPow λi j=>.int (i^j.toNat)):=opI λ_ _ _ _ _ _ _ hc q=>pow_int_small hc.1 hc.2.1 hc.2.2 q
theorem Yah:OpR X (binaryOp .RShift) (rI (λ_ j=>0<=j) λi j=>.int (i/2^j.toNat)):=opI λi j _ _ _ _ _ hc q=>
 rshift_int hc (by rw [Int.fdiv_eq_ediv_of_nonneg i (two_pow_nn _)];exact q)
theorem Jxn:OpR X (binaryOp .BitAnd) (rI0 λi j=>.int (Builtin.bitAnd i j)):=opI0 λ_ _ _ _ _ _ _ q=>and_int q
theorem unI {f:Value->Sem Value} {g:Int->Int}
  (rule:∀(i:Int) (t:Tok) (s:Shared) (Q:Value->Shared->Prop) (E:Value->Shared->Prop),Q (.int (g i) s.toks) {s with toks:=s.toks+1}->wpAny (model X.prog X.w) X.A (f (.int i t)) Q E s):
  UnR X f (rU λi=>.int (g i)):=by
 intro pins s σ H x v Q I rx h
 obtain ⟨i,rfl,q⟩:=h
 obtain ⟨t,rfl⟩:=rx
 exact rule i t s _ _ ⟨.int (g i),H,I.tok _,⟨_,rfl⟩,q⟩
theorem Jqr:UnR X (unaryOp .USub) (rU λi=>.int (-i)):=unI λ_ _ _ _ _ q=>neg_int q
end
def scal:V->V->Bool
 | .non,.non=>true| .non,.int _=>true| .int _,.non=>true| .non,.bl _=>true| .bl _,.non=>true| .non,.str _=>true| .str _,.non=>true
 | .int _,.int _=>true| .bl _,.bl _=>true| .str _,.str _=>true| .byt _,.byt _=>true
 | .int _,.str _=>true| .str _,.int _=>true| .bl _,.str _=>true| .str _,.bl _=>true
 |_,_=>false
def rEq:R2:=λx y H Q=>scal x y=true/\Q (.bl (decide (x=y))) H
def rNe:R2:=λx y H Q=>scal x y=true/\Q (.bl (!decide (x=y))) H
theorem Jyf {i j:Int}:decide (V.int i=V.int j)=(i==j):=by
 rw [ybi]
 simp
theorem Yu {i j:Bool}:decide (V.bl i=V.bl j)=(i==j):=by
 rw [ybi]
 simp
theorem Jyg {i j:Str}:decide (V.str i=V.str j)=(i==j):=by
 rw [ybi]
 simp
theorem Jye {i j:Array UInt8}:decide (V.byt i=V.byt j)=(i.toList==j.toList):=by
 rw [ybi]
 cases i
 cases j
 simp
section
variable {X:Cx} {a b c:Expr} {ta tb tc:TE} {pos:Pos}
theorem Jk4 {pins:List (Addr×Obj)} {σ:St} {H:Hp} {s:Shared} {Q:VK} {k k':Bool} (I:Inv X pins σ H s) (q:Q (.bl k) H) (e:k=k'):EP X pins σ Q (.bool k') s:=by
 subst e
 exact ⟨.bl k,H,I,rfl,q⟩
theorem Jmh:OpR X (compareOp .Eq) rEq:=by
 intro pins s σ H x y v u Q I rx ry h
 obtain ⟨hs,q⟩:=h
 cases x with
 |non=>
  cases rx
  cases y with
  |non=>cases ry;exact PySem.EqNone.eq_none_none (Jk4 I q (by simp))
  |bl j=>cases ry;exact PySem.EqNone.eq_none_bool (Jk4 I q (by simp))
  |int j=>obtain ⟨t',rfl⟩:=ry;exact PySem.EqNone.eq_none_int (Jk4 I q (by simp))
  |str j=>obtain ⟨t',rfl⟩:=ry;exact PySem.EqNone.eq_none_str (Jk4 I q (by simp))
  |_=>exact absurd (show false=true from hs) yw
 |bl i=>
  cases rx
  cases y with
  |non=>cases ry;exact PySem.EqNone.eq_bool_none (Jk4 I q (by simp))
  |bl j=>cases ry;exact eq_bool (Jk4 I q Yu)
  |str j=>obtain ⟨t',rfl⟩:=ry;exact PySem.EqMixed.eq_bool_str (Jk4 I q (by simp))
  |_=>exact absurd (show false=true from hs) yw
 |int i=>
  obtain ⟨t,rfl⟩:=rx
  cases y with
  |non=>cases ry;exact PySem.EqNone.eq_int_none (Jk4 I q (by simp))
  |int j=>obtain ⟨t',rfl⟩:=ry;exact eq_int (Jk4 I q Jyf)
  |str j=>obtain ⟨t',rfl⟩:=ry;exact PySem.EqMixed.eq_int_str (Jk4 I q (by simp))
  |_=>exact absurd (show false=true from hs) yw
 |str i=>
  obtain ⟨t,rfl⟩:=rx
  cases y with
  |non=>cases ry;exact PySem.EqNone.eq_str_none (Jk4 I q (by simp))
  |bl j=>cases ry;exact PySem.EqMixed.eq_str_bool (Jk4 I q (by simp))
  |int j=>obtain ⟨t',rfl⟩:=ry;exact PySem.EqMixed.eq_str_int (Jk4 I q (by simp))
  |str j=>obtain ⟨t',rfl⟩:=ry;exact eq_str (Jk4 I q Jyg)
  |_=>exact absurd (show false=true from hs) yw
 |byt i=>
  obtain ⟨t,rfl⟩:=rx
  cases y with
  |byt j=>obtain ⟨t',rfl⟩:=ry;exact PySem.W.eq_bytes (Jk4 I q Jye)
  |_=>exact absurd (show false=true from hs) yw
 |_=>cases y <;> exact absurd (show false=true from hs) yw
theorem Jyo:OpR X (compareOp .NotEq) rNe:=by
 intro pins s σ H x y v u Q I rx ry h
 obtain ⟨hs,q⟩:=h
 cases x with
 |non=>
  cases rx
  cases y with
  |non=>cases ry;exact PySem.EqNone.ne_none_none (Jk4 I q (by simp))
  |bl j=>cases ry;exact PySem.EqNone.ne_none_bool (Jk4 I q (by simp))
  |int j=>obtain ⟨t',rfl⟩:=ry;exact PySem.EqNone.ne_none_int (Jk4 I q (by simp))
  |str j=>obtain ⟨t',rfl⟩:=ry;exact PySem.EqNone.ne_none_str (Jk4 I q (by simp))
  |_=>exact absurd (show false=true from hs) yw
 |bl i=>
  cases rx
  cases y with
  |non=>cases ry;exact PySem.EqNone.ne_bool_none (Jk4 I q (by simp))
  |bl j=>cases ry;exact ne_bool (Jk4 I q (congrArg not Yu))
  |str j=>obtain ⟨t',rfl⟩:=ry;exact PySem.EqMixed.ne_bool_str (Jk4 I q (by simp))
  |_=>exact absurd (show false=true from hs) yw
 |int i=>
  obtain ⟨t,rfl⟩:=rx
  cases y with
  |non=>cases ry;exact PySem.EqNone.ne_int_none (Jk4 I q (by simp))
  |int j=>obtain ⟨t',rfl⟩:=ry;exact ne_int (Jk4 I q (congrArg not Jyf))
  |str j=>obtain ⟨t',rfl⟩:=ry;exact PySem.EqMixed.ne_int_str (Jk4 I q (by simp))
  |_=>exact absurd (show false=true from hs) yw
 |str i=>
  obtain ⟨t,rfl⟩:=rx
  cases y with
  |non=>cases ry;exact PySem.EqNone.ne_str_none (Jk4 I q (by simp))
  |bl j=>cases ry;exact PySem.EqMixed.ne_str_bool (Jk4 I q (by simp))
  |int j=>obtain ⟨t',rfl⟩:=ry;exact PySem.EqMixed.ne_str_int (Jk4 I q (by simp))
  |str j=>obtain ⟨t',rfl⟩:=ry;exact ne_str (Jk4 I q (congrArg not Jyg))
  |_=>exact absurd (show false=true from hs) yw
 |byt i=>
  obtain ⟨t,rfl⟩:=rx
  cases y with
  |byt j=>obtain ⟨t',rfl⟩:=ry;exact PySem.W.ne_bytes (Jk4 I q (congrArg not Jye))
  |_=>exact absurd (show false=true from hs) yw
 |_=>cases y <;> exact absurd (show false=true from hs) yw
theorem op_lt:OpR X (compareOp .Lt) (rI0 λi j=>.bl (decide (i < j))):=opB0 λ_ _ _ _ _ _ _ q=>lt_int q
theorem Jny:OpR X (compareOp .LtE) (rI0 λi j=>.bl (decide (i<=j))):=opB0 λ_ _ _ _ _ _ _ q=>le_int q
theorem Jw9:OpR X (compareOp .Gt) (rI0 λi j=>.bl (decide (j < i))):=opB0 λ_ _ _ _ _ _ _ q=>gt_int q
theorem Jzr:OpR X (compareOp .In) (λx y H Q=>∃i j,x= .str i/\y= .str j/\Q (.bl (!(Builtin.Str.occurrences j i 0 j.length 1).isEmpty)) H):=by
 intro pins s σ H x y v u Q I rx ry h
 obtain ⟨i,j,rfl,rfl,q⟩:=h
 obtain ⟨t,rfl⟩:=rx
 obtain ⟨t',rfl⟩:=ry
 exact in_str (Jk4 I q rfl)
theorem Jsa:OpR X (compareOp .Is) (λx y H Q=>y= .non/\Q (.bl (decide (x= .non))) H):=by
 intro pins s σ H x y v u Q I rx ry h
 obtain ⟨rfl,q⟩:=h
 cases ry
 refine is_none_gen (Jk4 I q ?_)
 cases x <;> first
  | (cases rx; rfl)
  | (obtain ⟨t,rfl⟩:=rx; rfl)
theorem Jv6:OpR X (compareOp .IsNot) (λx y H Q=>y= .non/\Q (.bl (!decide (x= .non))) H):=by
 intro pins s σ H x y v u Q I rx ry h
 obtain ⟨rfl,q⟩:=h
 cases ry
 refine isnot_none_gen (Jk4 I q ?_)
 cases x <;> first
  | (cases rx; rfl)
  | (obtain ⟨t,rfl⟩:=rx; rfl)
theorem Jk2 (b:Expr) {op:CmpOp} (h:op≠ .In:=by decide) (h2:op≠ .NotIn:=by decide):behindInMarks op b=false:=by
 have e1:(op==CmpOp.In)=false:=by cases op <;> first|rfl|exact absurd rfl h
 have e2:(op==CmpOp.NotIn)=false:=by cases op <;> first|rfl|exact absurd rfl h2
 cases b <;> simp [behindInMarks,e1,e2]
theorem Jl1 {op:CmpOp} {r:R2} (ho:OpR X (compareOp op) r) (ha:PE X a ta) (hb:PE X b tb) (hm:behindInMarks op b=false):PE X (.Compare a [op] [b] pos) (tOp r ta tb):=by
 intro pins s σ H Q I h
 exact wpAny_Compare1 (binT ha hb I h λv u s2 x y H2 I2 rx ry q=>ho pins s2 σ H2 x y v u Q I2 rx ry q) hm
def tTest (t:TE):TT:=λσ H Q=>t σ H λx H'=>∃k,x= .bl k/\Q k H'
theorem Jk8 {op:CmpOp} {r:R2} (ho:OpR X (compareOp op) r) (ha:PE X a ta) (hb:PE X b tb) (hm:behindInMarks op b=false):PT X (.Compare a [op] [b] pos) (tTest (tOp r ta tb)):=by
 intro pins s σ H Q I h
 refine wpAny_isTrue_Compare1 (thn (ha pins s σ H _ I h) λv s1 ⟨x,H1,I1,r1,q1⟩=>thn (hb pins s1 σ H1 _ I1 q1) λu s2 ⟨y,H2,I2,r2,q2⟩=>
  thn (ho pins s2 σ H2 x y v u _ I2 r1 r2 q2) λc s3 ⟨z,H3,I3,r3,k,e,q3⟩=>?_) hm
 subst e
 cases r3
 exact wpAny_truthy_bool ⟨H3,I3,q3⟩
def Ybm (r r':R2) (ta tb tc:TE):TE:=λσ H Q=>ta σ H λx H1=>tb σ H1 λy H2=>r x y H2 λz H3=>∃k,z= .bl k/\
 (if k=true then tc σ H3 λw' H4=>r' y w' H4 Q else Q (.bl false) H3)
theorem Jwc {op op':CmpOp} {r r':R2} (ho:OpR X (compareOp op) r) (ho':OpR X (compareOp op') r') (ha:PE X a ta) (hb:PE X b tb) (hc:PE X c tc)
  (hm:lastMarks [op,op'] [b,c]=false:=by with_unfolding_all rfl):PE X (.Compare a [op,op'] [b,c] pos) (Ybm r r' ta tb tc):=by
 intro pins s σ H Q I h
 refine Compare_chain (thn (ha pins s σ H _ I h) λv s1 ⟨x,H1,I1,r1,q1⟩=>chain_link (thn (hb pins s1 σ H1 _ I1 q1) λu s2 ⟨y,H2,I2,r2,q2⟩=>
  thn (ho pins s2 σ H2 x y v u _ I2 r1 r2 q2) λd s3 ⟨z,H3,I3,r3,k,e,q3⟩=>?_)) hm
 subst e
 cases r3
 refine wpAny_truthy_bool ?_
 cases k with
 |false=>exact ite_ff ⟨.bl false,H3,I3,rfl,q3⟩
 |true=>exact ite_tt (chain_last (thn (hc pins s3 σ H3 _ I3 q3) λw' s4 ⟨z',H4,I4,r4,q4⟩=>ho' pins s4 σ H4 y z' u w' Q I4 r2 r4 q4))
theorem Jse {op op':CmpOp} {r r':R2} (ho:OpR X (compareOp op) r) (ho':OpR X (compareOp op') r') (ha:PE X a ta) (hb:PE X b tb) (hc:PE X c tc)
  (hm:lastMarks [op,op'] [b,c]=false:=by with_unfolding_all rfl):PT X (.Compare a [op,op'] [b,c] pos) (tTest (Ybm r r' ta tb tc)):=by
 intro pins s σ H Q I h
 refine isTrue_chain (thn (ha pins s σ H _ I h) λv s1 ⟨x,H1,I1,r1,q1⟩=>test_link (thn (hb pins s1 σ H1 _ I1 q1) λu s2 ⟨y,H2,I2,r2,q2⟩=>
  thn (ho pins s2 σ H2 x y v u _ I2 r1 r2 q2) λd s3 ⟨z,H3,I3,r3,k,e,q3⟩=>?_)) hm
 subst e
 cases r3
 refine wpAny_truthy_bool ?_
 cases k with
 |false=>
  obtain ⟨k',e',q'⟩:=q3
  cases e'
  exact ite_ff ⟨H3,I3,q'⟩
 |true=>
  refine ite_tt (test_last (thn (hc pins s3 σ H3 _ I3 q3) λw' s4 ⟨z',H4,I4,r4,q4⟩=>thn (ho' pins s4 σ H4 y z' u w' _ I4 r2 r4 q4) λd' s5 zq=>?_))
  obtain ⟨z2,H5,I5,r5,k2,e2,q5⟩:=zq
  subst e2
  cases r5
  exact wpAny_truthy_bool ⟨H5,I5,q5⟩
theorem Jqg:(sizeLine:Nat) < 2^63:=by rw [sizeLine_eq];decide
theorem Jm0 {x:V} {us:List Value} (r:Vals [x] us):∃u,us= [u]/\RelV x u:=by
 cases r with
 |cons r1 r2=>cases r2;exact ⟨_,rfl,r1⟩
theorem Jwv {x y:V} {us:List Value} (r:Vals [x,y] us):∃u w',us= [u,w']/\RelV x u/\RelV y w':=by
 cases r with
 |cons r1 r2=>
  cases r2 with
  |cons r3 r4=>cases r4;exact ⟨_,_,rfl,r1,r3⟩
theorem Job (hc:X.calm=true):Jle X (.builtin "max") (λxs H Q=>∃i j,xs= [.int i,.int j]/\Q (.int (if j > i then j else i)) H):=by
 intro pins s σ H xs us Q I r h
 obtain ⟨i,j,rfl,q⟩:=h
 obtain ⟨u,w',rfl,⟨t,rfl⟩,⟨t',rfl⟩⟩:=Jwv r
 refine max_two_ints (I.ok.hd hc) λh' tk k=>⟨_,H,I.kept k,?_,q⟩
 by_cases hj:j > i
 ·rw [if_pos hj,if_pos hj];exact ⟨_,rfl⟩
 ·rw [if_neg hj,if_neg hj];exact ⟨_,rfl⟩
theorem Jti (hc:X.calm=true):Jle X (.builtin "min") (λxs H Q=>∃i j,xs= [.int i,.int j]/\Q (.int (if j < i then j else i)) H):=by
 intro pins s σ H xs us Q I r h
 obtain ⟨i,j,rfl,q⟩:=h
 obtain ⟨u,w',rfl,⟨t,rfl⟩,⟨t',rfl⟩⟩:=Jwv r
 refine min_two_ints (I.ok.hd hc) λh' tk k=>⟨_,H,I.kept k,?_,q⟩
 by_cases hj:j < i
 ·rw [if_pos hj,if_pos hj];exact ⟨_,rfl⟩
 ·rw [if_neg hj,if_neg hj];exact ⟨_,rfl⟩
theorem Jqb:Jle X (.type "int") (λxs H Q=>(∃i,xs= [.int i]/\Q (.int i) H)\/∃k,xs= [.bl k]/\Q (.int (if k then 1 else 0)) H):=by
 intro pins s σ H xs us Q I r h
 rcases h with ⟨i,rfl,q⟩|⟨k,rfl,q⟩
 ·obtain ⟨u,rfl,t,rfl⟩:=Jm0 r
  exact call_int_int ⟨.int i,H,I,⟨_,rfl⟩,q⟩
 ·obtain ⟨u,rfl,r1⟩:=Jm0 r
  cases r1
  exact call_int_bool ⟨.int (if k then 1 else 0),H,I.tok _,⟨_,rfl⟩,q⟩
theorem Jum:Jle X (.type "str") (λxs H Q=>∃i,xs= [.int i]/\i.natAbs.log2 < 1920/\Q (.str (toString i)) H):=by
 intro pins s σ H xs us Q I r h
 obtain ⟨i,rfl,hz,q⟩:=h
 obtain ⟨u,rfl,t,rfl⟩:=Jm0 r
 exact PySem.P.str_of_int hz ⟨.str _,H,I.tok _,⟨_,rfl⟩,q⟩
end
end L2
namespace L2
open PySem PySem.Spec PyProof.Rows
structure ObjM (h:Heap) (x dx C:Addr) (mA:Str->Option Value):Prop where
 obj:h.get? x=some (PySem.W.instObj C dx)
 ns:h.Ns1 dx mA
 ne:dx≠x
theorem Jtq {h:Heap} {dx:Addr} {mA:Str->Option Value} (n:h.Ns1 dx mA):∃od,h.get? dx=some od/\∀name,PySem.W.lookIn name od=some (mA name):=by
 obtain ⟨o,es,ep,ho,hd,hk,_,hm⟩:=n
 refine ⟨o,ho,λname=>?_⟩
 have e:=hm name
 unfold nsFind findBy at e
 rw [<-Array.find?_toList] at e
 unfold PySem.W.lookIn
 rw [hd]
 dsimp only
 split
 ·rename_i y q
  rw [q] at e
  exact congrArg some e
 ·rename_i q
  rw [q] at e
  have a:es.toList.any (·.refKey)=false:=by
   rw [List.any_eq_false]
   intro y hy
   obtain ⟨z,t,hkey⟩:=hk y (Array.mem_toList_iff.mp hy)
   simp [DictEntry.refKey,hkey]
  have a':¬es.toList.any (·.refKey)=true:=by rw [a];exact yw
  rw [if_neg a']
  exact congrArg some e
theorem ObjM.look {h:Heap} {x dx C:Addr} {mA:Str->Option Value} (I:ObjM h x dx C mA):∃od,PySem.W.InstAt h x (PySem.W.instObj C dx) C (some od)/\∀name,PySem.W.lookIn name od=some (mA name):=
 let ⟨od,ho,hl⟩:=Jtq I.ns
 ⟨od,⟨I.obj,rfl,rfl,ho⟩,hl⟩
section
variable {prog:Program} {w:World} {A:Around} {E:Value->Shared->Prop} {s:Shared} {K:PySem.W.Frag} {x dx C f:Addr} {mA:Str->Option Value} {name:Str} {v:Value}
theorem Ycf {expr:Bool} {Q:Value->Shared->Prop} (X:K.In s.heap) (I:ObjM s.heap x dx C mA) (hg:PySem.W.plainGet K C name=true) (hh:PySem.W.hasDictIn K C=true)
  (ha:PySem.W.findIn K (.ref C) name=some none) (hv:mA name=some v) (hv':PySem.W.handedIn v=true) (h:Q v {s with toks:=s.toks+1}):
  wpAny (model prog w) A (getAttr (.ref x) name expr) Q E s:=by
 obtain ⟨od,J,hl⟩:=I.look
 exact PySem.W.get_value X J (PySem.W.plainGet_of hg).1 (PySem.W.findObj_own hh ha rfl (by rw [hl,hv])) hv' h
theorem Ya7 {pl:Sem Bool} {Q:Value×List Value->Shared->Prop} (X:K.In s.heap) (I:ObjM s.heap x dx C mA) (hg:PySem.W.plainGet K C name=true)
  (hf:PySem.W.findIn K (.ref C) name=some (some (.ref f))) (ht:PySem.W.isFn K (.ref f)=true) (hv:mA name=none) (h:Q (.ref f,[.ref x]) s):
  wpAny (model prog w) A (getMethod (.ref x) name pl) Q E s:=by
 obtain ⟨od,J,hl⟩:=I.look
 exact PySem.W.method_fn X J (PySem.W.plainGet_of hg).1 (PySem.W.plainGet_of hg).2 hf (beq_iff_eq.mp ht) (by show (PySem.W.lookIn name od).map (·.isSome)=some false;rw [hl,hv];rfl) h
theorem Ycz {ns:List Str} {Q:Unit->Shared->Prop} (X:K.In s.heap) (I:ObjM s.heap x dx C mA)
  (hs:PySem.W.findIn K (.ref C) "__setattr__" =some (some (.builtin "object.__setattr__"))) (hp:PySem.W.plainOver K C=true) (ht:PySem.W.takerIn K C name=some none) (hh:PySem.W.hasDictIn K C=true)
  (hw:PySem.Within mA ns) (hsz:ns.length<=sizeLine)
  (h:∀h',ObjM h' x dx C (λy=>if y=name then some v else mA y)->yai dx s.heap h'->Q () {s with heap:=h',toks:=s.toks+2}):
  wpAny (model prog w) A (setAttr (.ref x) name v) Q E s:=by
 obtain ⟨od,J,hl⟩:=I.look
 refine PySem.W.set_plain X J hs (PySem.W.osa_open (s:={s with toks:=s.toks+1}) (r:=none) X J hp ht λb=>?_)
 obtain ⟨cd,hc,hd'⟩:=PySem.W.any_some hh
 have hx:s.heap.get? x=some ⟨.ref C,some dx,.plain,#[]⟩:=I.obj
 refine wpAny_bind (wpAny_pure (wpAny_bind (wpAny_bind (wpAny_loadPart hx (wpAny_bind (PySem.W.Looks.here (s:={s with toks:=s.toks+1}) (PySem.W.looks_clsIn X hc) ?_))))))
 rw [hd']
 refine wpAny_pure (a:=some dx) (wpAny_bind (wpAny_pure (wpAny_bind ?_)))
 refine wpAny_nsSet1 (s:={s with toks:=s.toks+1}) I.ns λh' hn2 hs2=>?_
 obtain ⟨oD,esD,epD,hoD,hdD,hcD⟩:=hn2.count (PySem.Within.cons name v hw)
 refine wpAny_bind (wpAny_lookBehind hoD (by rw [hdD];exact pastItsLine_dict (yz hcD (by rw [ybj];omega))) ?_)
 exact wpAny_pure (h _ ⟨(hs2.2 _ (yk I.ne)).trans I.obj,hn2,I.ne⟩ hs2)
theorem Yae {R:Result->Shared->Prop} {vs:List Value} {kw:List (Str×Value)} (X:K.In s.heap) (hm:PySem.W.makesIn K C=true)
  (hi:PySem.W.findIn K (.ref C) "__init__" =some (some (.ref f))) (hf:PySem.W.typeIn K (.ref f)=some (.type "function"))
  (h:codeAny (model prog w) (A.under (.builtin "type.__call__" ⟨.ref C::vs,kw⟩)) (.call (.ref f) ⟨.ref (s.heap.objs.size+1)::vs,kw⟩) (PySem.W.InitBack (s.heap.objs.size+1) R)
   {s with heap:=(s.heap.push PySem.W.emptyDict).push (PySem.W.instObj C s.heap.objs.size)}):
  codeAny (model prog w) A (.call (.ref C) ⟨vs,kw⟩) R s:=by
 obtain ⟨hh,g,d,t,os⟩:=s
 exact PySem.W.make_core (PySem.W.makes_of X hm) (PySem.W.looks_findIn X hi) (λself=>PySem.W.bind_fn X self hf) (.inl rfl) h
end
def Jlq (f:Str) (v:V):List (Str×V)->List (Str×V)
 | []=>[(f,v)]
 | (g,x) :: r=>if g = f then (g,v) :: r else (g,x) :: Jlq f v r
theorem Jqv (f g:Str) (v:V):∀fs:List (Str×V),(Jlq f v fs).lookup g=if g=f then some v else fs.lookup g
 | []=>by
  show ybp g [(f,v)]=_
  by_cases h:g=f
  ·have hb:(g==f)=true:=beq_iff_eq.mpr h
   simp only [ybp,hb,if_pos h]
  ·have hb:(g==f)=false:=beq_eq_false_iff_ne.mpr h
   simp only [ybp,hb,if_neg h]
 | (k,x) :: r=>by
  have ih:=Jqv f g v r
  rw [show Jlq f v ((k,x)::r)=(if k=f then (k,v)::r else (k,x)::Jlq f v r) from rfl]
  by_cases hk:k=f
  ·rw [if_pos hk]
   by_cases h:g=k
   ·have hb:(g==k)=true:=beq_iff_eq.mpr h
    simp only [ybp,hb,if_pos (h.trans hk)]
   ·have hb:(g==k)=false:=beq_eq_false_iff_ne.mpr h
    simp only [ybp,hb,if_neg (λe:g=f=>h (e.trans hk.symm))]
  ·rw [if_neg hk]
   by_cases h:g=k
   ·have hb:(g==k)=true:=beq_iff_eq.mpr h
    simp only [ybp,hb,if_neg (λe:g=f=>hk (h.symm.trans e))]
   ·have hb:(g==k)=false:=beq_eq_false_iff_ne.mpr h
    simp only [ybp,hb]
    exact ih
theorem Jqf (f:Str) (v:V):∀fs:List (Str×V),f∈(Jlq f v fs).map (·.1)/\∀g,g∈fs.map (·.1)->g∈(Jlq f v fs).map (·.1)
 | []=>⟨by simp [Jlq],λg h=>by simp at h⟩
 | (k,x) :: r=>by
  obtain ⟨i1,i2⟩:=Jqf f v r
  rw [show Jlq f v ((k,x)::r)=(if k=f then (k,v)::r else (k,x)::Jlq f v r) from rfl]
  by_cases hk:k=f
  ·rw [if_pos hk]
   subst hk
   exact ⟨by simp,λg h=>by simpa using h⟩
  ·rw [if_neg hk]
   refine ⟨?_,λg h=>?_⟩
   ·rw [ybb]
    exact yak _ i1
   ·rw [ybb] at h⊢
    rcases ym.mp h with e|e
    ·exact ym.mpr (.inl e)
    ·exact yak _ (i2 g e)
theorem Jqu (f:Str) (v:V):∀fs:List (Str×V),(Jlq f v fs).length<=fs.length+1
 | []=>by simp [Jlq]
 | (k,x) :: r=>by
  have ih:=Jqu f v r
  rw [show Jlq f v ((k,x)::r)=(if k=f then (k,v)::r else (k,x)::Jlq f v r) from rfl]
  by_cases hk:k=f
  ·rw [if_pos hk,ybj,ybj];omega
  ·rw [if_neg hk,ybj,ybj];omega
theorem RelO.some_of {v:V} {o:Option Value} (r:RelO (some v) o):∃u,o=some u/\RelV v u:=by
 cases o with
 |none=>exact (show False from r).elim
 |some u=>exact ⟨u,rfl,r⟩
theorem RelO.none_of {o:Option Value} (r:RelO none o):o=none:=by
 cases o with
 |none=>rfl
 |some u=>exact (show False from r).elim
theorem Jtn {v:V} {u:Value} (r:RelV v u):PySem.W.handedIn u=true:=by
 cases v with
 |non=>cases (show u=Value.none from r);rfl
 |bl b=>cases (show u=Value.bool b from r);rfl
 |int i=>obtain ⟨t,e⟩:=(show ∃t,u=Value.int i t from r);cases e;rfl
 |str x=>obtain ⟨t,e⟩:=(show ∃t,u=Value.str x t from r);cases e;rfl
 |byt b=>obtain ⟨t,e⟩:=(show ∃t,u=Value.bytes b t from r);cases e;rfl
 |flt b=>obtain ⟨t,e⟩:=(show ∃t,u=Value.float b t from r);cases e;rfl
 |ref a=>cases (show u=Value.ref a from r);rfl
 |ty n=>cases (show u=Value.type n from r);rfl
section
variable {P:Program} {w:World} {H H':Hp} {h h':Heap} {a C dx:Addr} {fs fs':List (Str×V)}
theorem Jrf (hok:HOk P w H h) (e:H a=some (.ins C dx fs)):∃mA,ObjM h a dx C mA/\(∀f,RelO (fs.lookup f) (mA f))/\PySem.Within mA (fs.map (·.1))/\fs.length<=1000/\H dx=some (.own a):=by
 obtain ⟨d,z,ne,ob,mA,n,r,q⟩:=(show ObjOk P w H h a (.ins C dx fs) from hok a _ e)
 exact ⟨mA,⟨ob,n,ne⟩,r,q,z,d⟩
end
structure Cls (K:PySem.W.Frag) (C:Addr):Prop where
 pg:PySem.W.plainGet K C Str.empty=true
 hd:PySem.W.hasDictIn K C=true
 po:PySem.W.plainOver K C=true
 sa:PySem.W.findIn K (.ref C) "__setattr__" =some (some (.builtin "object.__setattr__"))
theorem Cls.get {K:PySem.W.Frag} {C:Addr} (c:Cls K C) (f:Str):PySem.W.plainGet K C f=true:=c.pg
def NoAttr (K:PySem.W.Frag) (C:Addr) (f:Str):Prop:=PySem.W.findIn K (.ref C) f=some none
theorem NoAttr.taker {K:PySem.W.Frag} {C:Addr} {f:Str} (n:NoAttr K C f):PySem.W.takerIn K C f=some none:=by
 unfold PySem.W.takerIn
 rw [show PySem.W.findIn K (.ref C) f=some none from n]
 rfl
structure Con (K:PySem.W.Frag) (C:Addr) (f:Str) (v:V) (u:Value):Prop where
 at_:PySem.W.findIn K (.ref C) f=some (some u)
 rel:RelV v u
 get:PySem.W.specialIn K u "__get__" =some none
 cp:PySem.W.copiedNames.contains f=false
structure Jof (K:PySem.W.Frag) (C:Addr) (m:Str) (f:Addr):Prop where
 at_:PySem.W.findIn K (.ref C) m=some (some (.ref f))
 fn:PySem.W.isFn K (.ref f)=true
 kp:PySem.W.keepIn K (.ref f)=true
section
variable {X:Cx} {pins:List (Addr×Obj)} {σ:St} {H:Hp} {s:Shared} {a C dx:Addr} {fs:List (Str×V)} {f:Str} {v:V} {A:Around} {E:Value->Shared->Prop}
theorem Jx4 {b:Bool} {Q:Value->Shared->Prop} (I:Inv X pins σ H s) (e:H a=some (.ins C dx fs)) (c:Cls X.K C) (n:NoAttr X.K C f) (l:fs.lookup f=some v)
  (h:∀u s',Inv X pins σ H s'->RelV v u->Q u s'):wpAny (model X.prog X.w) A (getAttr (.ref a) f b) Q E s:=by
 obtain ⟨mA,O,r,_,_,_⟩:=Jrf I.hok e
 obtain ⟨u,hu,ru⟩:=RelO.some_of (v:=v) (o:=mA f) (by rw [<-l];exact r f)
 exact Ycf I.kIn O (c.get f) c.hd n hu (Jtn ru) (h u _ (I.tok _) ru)
theorem Jro {m:Str} {g:Addr} {pl:Sem Bool} {Q:Value×List Value->Shared->Prop} (I:Inv X pins σ H s) (e:H a=some (.ins C dx fs)) (c:Cls X.K C) (k:Jof X.K C m g) (l:fs.lookup m=none)
  (h:Q (.ref g,[.ref a]) s):wpAny (model X.prog X.w) A (getMethod (.ref a) m pl) Q E s:=by
 obtain ⟨mA,O,r,_,_,_⟩:=Jrf I.hok e
 have hn:mA m=none:=RelO.none_of (by rw [<-l];exact r m)
 exact Ya7 I.kIn O (c.get m) k.at_ k.fn hn h
theorem Jxz {y:V} {u:Value} {Q:Unit->Shared->Prop} (I:Inv X pins σ H s) (e:H a=some (.ins C dx fs)) (c:Cls X.K C) (n:NoAttr X.K C f) (hl:fs.length < 1000) (ry:RelV y u)
  (h:∀s',Inv X pins σ (upd H a (.ins C dx (Jlq f y fs))) s'->Q () s'):wpAny (model X.prog X.w) A (setAttr (.ref a) f u) Q E s:=by
 obtain ⟨mA,O,r,wi,_,ho⟩:=Jrf I.hok e
 have hz:(fs.map (·.1)).length<=sizeLine:=by rw [yf,sizeLine_eq];omega
 refine Ycz I.kIn O c.sa c.po n.taker c.hd wi hz λh' O' sb=>h _ ?_
 have hd:∃o,h'.get? dx=some o:=let ⟨o,_,_,e',_⟩:=O'.ns;⟨o,e'⟩
 refine I.write (x:=a) (e:=dx) (by rw [e];exact True.intro) (.inr ho) (λb q hb z=>(sb.2 b hb).trans z) hd ?_
 refine ⟨by rw [Jjg O.ne];exact ho,?_,O.ne,O'.obj,_,O'.ns,λg=>?_,λg hg=>?_⟩
 ·have:=Jqu f y fs;omega
 ·show RelO ((Jlq f y fs).lookup g) (if g=f then some u else mA g)
  rw [Jqv]
  by_cases q:g=f
  ·rw [if_pos q,if_pos q];exact ry
  ·rw [if_neg q,if_neg q];exact r g
 ·by_cases q:g=f
  ·rw [q];exact (Jqf f y fs).1
  ·refine (Jqf f y fs).2 g (wi g λz=>hg ?_)
   show (if g=f then some u else mA g)=none
   rw [if_neg q];exact z
theorem Inv.made (I:Inv X pins σ H s):Inv X pins σ (upd (upd H s.heap.objs.size (.own (s.heap.objs.size+1))) (s.heap.objs.size+1) (.ins C s.heap.objs.size []))
  {s with heap:=(s.heap.push PySem.W.emptyDict).push (PySem.W.instObj C s.heap.objs.size)}:=by
 have e1:(s.heap.push PySem.W.emptyDict).get? s.heap.objs.size=some PySem.W.emptyDict:=yo s.heap rfl
 have e2:((s.heap.push PySem.W.emptyDict).push (PySem.W.instObj C s.heap.objs.size)).get? (s.heap.objs.size+1)=some (PySem.W.instObj C s.heap.objs.size):=by
  have:=yo (s.heap.push PySem.W.emptyDict) (o:=PySem.W.instObj C s.heap.objs.size) rfl
  rwa [yaa] at this
 have e3:(s.heap.push PySem.W.emptyDict).Ns s.heap.objs.size (λ_=>none):=⟨PySem.W.emptyDict,#[],_,e1,rfl,(λe he=>absurd he (by simp)),λ_=>rfl⟩
 have I1:=I.laid (a:=s.heap.objs.size) (o:=.own (s.heap.objs.size+1)) (h':=s.heap.push PySem.W.emptyDict) (t':=s.toks) (λb u q=>yi _ q) (yg _) ⟨_,e1⟩
 refine I1.laid (a:=s.heap.objs.size+1) (o:=.ins C s.heap.objs.size []) (t':=s.toks) (λb u q=>yi _ q) (ybw (yaa _ _)) ?_
 have ne:s.heap.objs.size≠s.heap.objs.size+1:=yq (ybq _)
 refine ⟨by rw [Jjg ne,Jj9],yal _,ne,e2,λ_=>none,(Heap.Ns1.of_empty e3).at λo q=>yi _ q,λ_=>True.intro,λy hy=>absurd rfl hy⟩
theorem Jyd {prog:Program} {w:World} {env:Env} {e:Expr} {f:Str} {pos:Pos} {s:Shared} {Q:Value->Shared->Prop} (hb:attributeBase e f env (eval e env)=eval e env)
  (h:wpAny (model prog w) A (eval e env) (λo s₁=>wpAny (model prog w) A (getAttr o f true) Q E s₁) E s):wpAny (model prog w) A (eval (.Attribute e f pos) env) Q E s:=
 Attribute_any_ h (by rw [arm_eval_Attribute,hb])
end
def tFld (K:PySem.W.Frag) (ta:TE) (f:Str):TE:=λσ H Q=>ta σ H λx H1=>∃a C dx fs v,x= .ref a/\H1 a=some (.ins C dx fs)/\Cls K C/\NoAttr K C f/\fs.lookup f=some v/\Q v H1
def sFld (K:PySem.W.Frag) (ta tv:TE) (f:Str):TS:=λD σ H=>tv σ H λy H1=>ta σ H1 λx H2=>∃a C dx fs,x= .ref a/\H2 a=some (.ins C dx fs)/\Cls K C/\NoAttr K C f/\fs.length < 1000/\
 D.nx σ (upd H2 a (.ins C dx (Jlq f y fs)))
section
variable {X:Cx} {o e value:Expr} {f:Str} {pos pos' tpos:Pos} {ta tv:TE}
theorem Jkh (he:PE X e ta) (hb:attributeBase e f X.env (eval e X.env)=eval e X.env):PE X (.Attribute e f pos) (tFld X.K ta f):=by
 intro pins s σ H Q I h
 refine Jyd hb (thn (he pins s σ H _ I h) λu s1 zq=>?_)
 obtain ⟨x,H1,I1,rx,a,C,dx,fs,v,ex,ea,c,n,l,q⟩:=zq
 subst ex
 obtain rfl:u=Value.ref a:=rx
 exact Jx4 I1 ea c n l λu' s2 I2 ru=>⟨v,H1,I2,ru,q⟩
theorem Jlu (ha:PE X o ta) (hv:PE X value tv) (hs:swapsWith value (some (.Attribute o f pos')) pos.line X.env=pure false):PS X (.Assign [.Attribute o f pos'] value pos) (sFld X.K ta tv f):=by
 intro pins s σ H D I h
 refine plainObj_wpAny_Assign_Attribute (thn (hv pins s σ H _ I h) λu s1 ⟨y,H1,I1,ry,q⟩=>thn (ha pins s1 σ H1 _ I1 q) λov s2 zq=>?_) hs
 obtain ⟨x,H2,I2,rx,a,C,dx,fs,ex,ea,c,n,l,q2⟩:=zq
 subst ex
 obtain rfl:ov=Value.ref a:=rx
 exact Jxz I2 ea c n l ry λs3 I3=>⟨σ,_,I3,q2⟩
end
section
variable {X:Cx} {pins:List (Addr×Obj)} {σ:St} {H:Hp} {s:Shared} {A:Around} {E:Value->Shared->Prop} {Q:Value->Shared->Prop} {c:Value} {b:Bool}
inductive Jq8 (K:PySem.W.Frag) (H:Hp):V->Value->Prop where
 |non:Jq8 K H .non (.type "NoneType")
 |bl (x:Bool):Jq8 K H (.bl x) (.type "bool")
 |int (i:Int):Jq8 K H (.int i) (.type "int")
 |str (x:Str):Jq8 K H (.str x) (.type "str")
 |flt (x:UInt64):Jq8 K H (.flt x) (.type "float")
 |lst {a:Addr} {xs:List V} (e:H a=some (.lst xs)):Jq8 K H (.ref a) (.type "list")
 |frz {a:Addr} {o:Obj} {xs:List V} (e:H a=some (.frz o (.lst xs))):Jq8 K H (.ref a) (.type "list")
 |tup {a:Addr} {xs:List V} (e:H a=some (.tup xs)):Jq8 K H (.ref a) (.type "tuple")
 |dK {a:Addr} {kvs:List (Key×V)} (e:H a=some (.dK kvs)):Jq8 K H (.ref a) (.type "dict")
 |dT {a:Addr} {kvs:List (List Key×V)} (e:H a=some (.dT kvs)):Jq8 K H (.ref a) (.type "dict")
 |ins {a C dx:Addr} {fs:List (Str×V)} (e:H a=some (.ins C dx fs)) (cl:Cls K C) (ha:PySem.W.findIn K (.ref C) "__class__" =some (some (.builtin "object.__class__")))
   (hn:PySem.W.specialIn K (.builtin "object.__class__") "__get__" =some (some (.builtin "getset_descriptor.__get__"))) (htk:PySem.W.takesIn K (.builtin "object.__class__")=some true)
   (hm:PySem.W.mroIn K C (.type "object")=some true):Jq8 K H (.ref a) (.ref C)
end
end L2
namespace L2
open PySem PySem.Spec PyProof.Rows
structure Room (k:Nat) (A:Around):Prop where
 hd:A.handled=none
 dp:A.depth+3*k+5 < recursionLimit
 un:A.units+16*k+200 < cLine
theorem Room.mono {j k:Nat} {A:Around} (r:Room k A) (h:j<=k):Room j A:=⟨r.hd,by have:=r.dp;omega,by have:=r.un;omega⟩
theorem Room.deeper {k:Nat} {A:Around} (r:Room (k+1) A) (env:Env):Room k (A.deeper env):=
 ⟨r.hd,by have:=r.dp;show A.depth+1+3*k+5 < _;omega,by have:=r.un;show A.units+3+16*k+200 < _;omega⟩
theorem Jxa {A:Around} {C:Addr} {us:List Value} {kw:List (Str×Value)}:(A.under (.builtin "type.__call__" ⟨.ref C::us,kw⟩)).depth=A.depth+1:=by
 first|rfl|simp [Around.under,Code.weight,Code.isCreation,Code.isGuard,Code.isCaller,Code.frames,Code.isFrame,guardIds]
theorem Jxb {A:Around} {C:Addr} {us:List Value} {kw:List (Str×Value)}:(A.under (.builtin "type.__call__" ⟨.ref C::us,kw⟩)).units=A.units+1:=by
 first|rfl|simp [Around.under,Code.cUnits,Code.frames,Code.isFrame]
theorem Room.make {k:Nat} {A:Around} (r:Room (k+1) A) (C:Addr) (us:List Value) (kw:List (Str×Value)):Room k (A.under (.builtin "type.__call__" ⟨.ref C::us,kw⟩)):=
 ⟨r.hd,by have:=r.dp;rw [Jxa];omega,by have:=r.un;rw [Jxb];omega⟩
theorem Room.depth {k:Nat} {A:Around} (r:Room k A):A.depth < recursionLimit:=by have:=r.dp;omega
theorem Room.units {k:Nat} {A:Around} (r:Room k A):A.units+64 < cLine:=by have:=r.un;omega
def Jrc:TA:=λ_ H Q=>Q [] H
def Jk9 (ta:TE) (tr:TA):TA:=λσ H Q=>ta σ H λx H1=>tr σ H1 λxs H2=>Q (x::xs) H2
section
variable {X:Cx} {e:Expr} {es:List Expr} {te:TE} {t:TA} {pos:Pos}
theorem Jja:PA X [] Jrc:=λ_ _ _ _ H Q I h=>Calls.spliced_nil ⟨[],H,I,.nil,h⟩
theorem Jj8 (ha:PE X e te) (hr:PA X es t) (hs:starEach (e::es) X.env=(false,eval e X.env)::starEach es X.env:=by rfl):PA X (e::es) (Jk9 te t):=by
 intro pos pins s σ H Q I h
 rw [hs]
 show wpAny _ _ (spliced ((false,eval e X.env)::backTo pos (starEach es X.env))) _ _ s
 refine Calls.spliced_cons (thn (ha pins s σ H _ I h) λu s1 zq=>?_)
 obtain ⟨x,H1,I1,r1,q1⟩:=zq
 exact thn (hr pos pins s1 σ H1 _ I1 q1) λus s2 ⟨xs,H2,I2,r2,q2⟩=>⟨x::xs,H2,I2,.cons r1 r2,q2⟩
def tTup (t:TA):TE:=λσ H Q=>t σ H λxs H1=>xs.length<=sizeLine/\∀p,H1 p=none->Q (.ref p) (upd H1 p (.tup xs))
def tLst (t:TA):TE:=λσ H Q=>t σ H λxs H1=>xs.length<=sizeLine/\∀p,H1 p=none->Q (.ref p) (upd H1 p (.lst xs))
theorem Jk5 {x1} (h:PA X es t):PE X (.Tuple es x1 pos) (tTup t):=by
 intro pins s σ H Q I hq
 refine wpAny_Tuple_spliced (thn (h pos pins s σ H _ I hq) λus s1 ⟨xs,H1,I1,r,z,q⟩=>⟨by rw [<-r.length];exact z,?_⟩)
 have hf:H1 s1.heap.objs.size=none:=I1.hok.fresh (yg _)
 refine ⟨.ref s1.heap.objs.size,upd H1 s1.heap.objs.size (.tup xs),I1.laid (t':=s1.toks) (λb u e=>yi _ e) (yg _) ?_,rfl,q _ hf⟩
 exact ⟨z,us,r,⟨_,yo _ rfl,rfl,_,rfl⟩⟩
theorem Jki (h:PA X es t):PE X (.List es pos) (tLst t):=by
 intro pins s σ H Q I hq
 refine wpAny_List_spliced (thn (h pos pins s σ H _ I hq) λus s1 ⟨xs,H1,I1,r,z,q⟩=>⟨by rw [<-r.length];exact z,?_⟩)
 have hf:H1 s1.heap.objs.size=none:=I1.hok.fresh (yg _)
 refine ⟨.ref s1.heap.objs.size,upd H1 s1.heap.objs.size (.lst xs),I1.laid (t':=s1.toks) (λb u e=>yi _ e) (yg _) ?_,rfl,q _ hf⟩
 exact ⟨z,us,0,r,yo _ rfl⟩
end
abbrev Sp:=List V->Hp->VK->XK->Prop
abbrev CXT:=List Env->Hp->Shared->XK->Value->Shared->Prop
structure Env0 (P:Program) (w:World) (K:PySem.W.Frag) (mg:Str->Option Value) (base:Heap) (A:Around) (outer:List Env) (s:Shared) (H:Hp):Prop where
 frames:A.frames=some outer
 mod:Mod K mg base
 bs:∀b o,base.get? b=some o->s.heap.get? b=some o/\H b=none
 bsz:base.objs.size<=s.heap.objs.size
 funs:s.heap.FunFrames base outer
 frf:∀b∈frs outer,H b=none
 hok:HOk P w H s.heap
 bare:AllBare s.gens
def CE (outer:List Env) (P:Program) (w:World) (H:Hp) (s:Shared) (Q:VK) (u:Value) (s':Shared):Prop:=
 ∃v H',s'.os=s.os/\AllBare s'.gens/\Un (frs outer) [] H H' s.heap s'.heap/\HOk P w H' s'.heap/\RelV v u/\Q v H'
def CR (CX:CXT) (outer:List Env) (P:Program) (w:World) (H:Hp) (s:Shared) (Q:VK) (E:XK) (r:Result) (s':Shared):Prop:=
 match r with
 | .ok (.ret u)=>CE outer P w H s Q u s'
 | .ok _=>False
 | .error e=>CX outer H s E e s'
structure FnOk (P:Program) (w:World) (K:PySem.W.Frag) (mg:Str->Option Value) (base:Heap) (CX:CXT) (k:Nat) (f:Addr) (fd:FuncData) (ps:List Str) (sp:Sp):Prop where
 len:∀vs H Q E,sp vs H Q E->vs.length=ps.length
 run:∀(A:Around) (outer:List Env) (s:Shared) (H:Hp) (args:Args) (us:List Value) (vs:List V) (Q:VK) (E:XK),Room k A->Env0 P w K mg base A outer s H->BindsTo s fd args (ps.zip us)->Vals vs us->sp vs H Q E->
  codeAny (model P w) A (.call (.ref f) args) (CR CX outer P w H s Q E) s
theorem Env0.make {P:Program} {w:World} {K:PySem.W.Frag} {mg:Str->Option Value} {base:Heap} {A:Around} {outer:List Env} {s:Shared} {H:Hp} (e:Env0 P w K mg base A outer s H) (C:Addr) (us:List Value) (kw:List (Str×Value)):
  Env0 P w K mg base (A.under (.builtin "type.__call__" ⟨.ref C::us,kw⟩)) outer s H:=⟨by first|exact e.frames|(simpa [Around.under,Code.envs,Code.isFrame,pushEnvs] using e.frames),e.mod,e.bs,e.bsz,e.funs,e.frf,e.hok,e.bare⟩
section
variable {X:Cx} {pins:List (Addr×Obj)} {σ:St} {H:Hp} {s s':Shared}
theorem Inv.env0 (I:Inv X pins σ H s):Env0 X.prog X.w X.K X.mg X.base X.A X.stack s H:=
 ⟨I.ok.frames,I.ok.mod,I.bs,yz I.ok.bsz I.sz,I.stack,I.stkFree,I.hok,I.bare⟩
theorem Inv.after {Q:VK} {u:Value} (I:Inv X pins σ H s) (h:CE X.stack X.prog X.w H s Q u s'):EP X pins σ Q u s':=by
 obtain ⟨v,H',os,bare,un,hok,r,q⟩:=h
 obtain ⟨hh,g,d,t,os'⟩:=s'
 obtain rfl:os'=s.os:=os
 exact ⟨v,H',I.call (h':=hh) (g':=g) (d':=d) (t':=t) (ch:=[]) un hok bare (λb z=>absurd z (by simp)),r,q⟩
end
def Jyx (sp:Sp) (dvs:List V) (E:XK) (t:TA):TE:=λσ H Q=>t σ H λvs H1=>sp (vs++dvs) H1 Q E
def tMake (C:Addr) (sp:Sp) (dvs:List V) (E:XK) (t:TA):TE:=λσ H Q=>t σ H λvs H1=>∀x dx,H1 x=none->H1 dx=none->dx≠x->
 sp (.ref x::(vs++dvs)) (upd (upd H1 dx (.own x)) x (.ins C dx [])) (λv H2=>v= .non/\Q (.ref x) H2) E
def Binds (K:PySem.W.Frag) (fd:FuncData) (ps:List Str) (ds:List Value):Prop:=
 ∀(s:Shared) (us:List Value),K.In s.heap->(us++ds).length=ps.length->BindsTo s fd ⟨us,[]⟩ (ps.zip (us++ds))
theorem Binds.all {K:PySem.W.Frag} {fd:FuncData} {ps:List Str} (h:∀us:List Value,us.length=ps.length->bindArgs fd ⟨us,[]⟩=pure (ps.zip us)):Binds K fd ps []:=λs us _ hl=>by
 rw [yax] at hl⊢
 exact .of_eq (h us hl)
def Jq6 (CX:CXT) (X:Cx) (E:XK):Prop:=∀(pins:List (Addr×Obj)) (σ:St) (H:Hp) (s:Shared) (e:Value) (s':Shared),Inv X pins σ H s->CX X.stack H s E e s'->X.xe e s'
section
variable {X:Cx} {CX:CXT} {k:Nat} {f C:Addr} {fd:FuncData} {ps:List Str} {sp:Sp} {dvs:List V} {ds:List Value} {E:XK} {x m:Str} {p pos apos:Pos} {e o:Expr} {es:List Expr} {ta:TE} {t:TA}
theorem Jv9 {pins:List (Addr×Obj)} {σ:St} {H:Hp} {s:Shared} {Q:VK} {us:List Value} {vs:List V} (F:FnOk X.prog X.w X.K X.mg X.base CX k f fd ps sp) (hr:Room k X.A) (hb:Binds X.K fd ps ds) (hd:Vals dvs ds) (hx:Jq6 CX X E)
  (I:Inv X pins σ H s) (r:Vals vs us) (h:sp (vs++dvs) H Q E):wpAny (model X.prog X.w) X.A (call (.ref f) us) (EP X pins σ Q) X.xe s:=by
 have r2:Vals (vs++dvs) (us++ds):=r.append hd
 have hl:(us++ds).length=ps.length:=by rw [<-r2.length];exact F.len _ _ _ _ h
 refine wpAny_call (codeAny_mono (F.run X.A X.stack s H ⟨us,[]⟩ (us++ds) (vs++dvs) Q E hr I.env0 (hb s us I.kIn hl) r2 h) λr s' hq=>?_)
 cases r with
 |error e=>exact hx pins σ H s e s' I hq
 |ok fl=>
  cases fl with
  |ret u=>exact I.after hq
  |next=>exact False.elim hq
  |brk=>exact False.elim hq
  |cont=>exact False.elim hq
theorem Ycr (F:FnOk X.prog X.w X.K X.mg X.base CX k f fd ps sp) (hr:Room k X.A) (hg:Gl X x) (hm:X.mg x=some (.ref f)) (hk:PySem.W.keepIn X.K (.ref f)=true) (hb:Binds X.K fd ps ds) (hd:Vals dvs ds) (hx:Jq6 CX X E)
  (ha:PA X (e::es) t) (hdb:(x==("__debug__" :Str))=false:=by decide) (he:starEach (e::es) X.env=(false,eval e X.env)::starEach es X.env:=by rfl) (hpl:(backTo pos (starEach es X.env)).any (·.1)=false:=by rfl):
  PE X (.Call (.Name x p) (e::es) [] pos) (Jyx sp dvs E t):=by
 intro pins s σ H Q I h
 refine wpAny_Call_Name_kw (Jna I hg hm ?_ hdb)
 refine PySem.W.callWith_K (h₀:=X.base) I.ok.mod.kin hk (thn (ha pos pins s σ H _ I h) λus s1 ⟨vs,H1,I1,r,q⟩=>⟨I1.kIn,?_⟩) he hpl
 exact Jv9 F hr hb hd hx I1 r q
theorem Yak (F:FnOk X.prog X.w X.K X.mg X.base CX k f fd ps sp) (hr:Room k X.A) (hg:Gl X x) (hm:X.mg x=some (.ref f)) (hk:PySem.W.keepIn X.K (.ref f)=true) (hb:Binds X.K fd ps ds) (hd:Vals dvs ds) (hx:Jq6 CX X E)
  (hdb:(x==("__debug__" :Str))=false:=by decide):PE X (.Call (.Name x p) [] [] pos) (Jyx sp dvs E Jrc):=by
 intro pins s σ H Q I h
 refine wpAny_Call_Name_kw (Jna I hg hm ?_ hdb)
 exact PySem.W.callWith_K0 I.kIn hk (Jv9 (us:=[]) F hr hb hd hx I .nil h)
structure Mk (K:PySem.W.Frag) (C f:Addr):Prop where
 makes:PySem.W.makesIn K C=true
 init:PySem.W.findIn K (.ref C) "__init__" =some (some (.ref f))
 fn:PySem.W.isFn K (.ref f)=true
 kp:PySem.W.keepIn K (.ref C)=true
theorem Yaw {pins:List (Addr×Obj)} {σ:St} {H:Hp} {s:Shared} {Q:VK} {us:List Value} {vs:List V} (M:Mk X.K C f) (F:FnOk X.prog X.w X.K X.mg X.base CX k f fd ps sp) (hr:Room (k+1) X.A) (hb:Binds X.K fd ps ds) (hd:Vals dvs ds)
  (hx:Jq6 CX X E) (I:Inv X pins σ H s) (r:Vals vs us)
  (h:∀x dx,H x=none->H dx=none->dx≠x->sp (.ref x::(vs++dvs)) (upd (upd H dx (.own x)) x (.ins C dx [])) (λv H2=>v= .non/\Q (.ref x) H2) E):
  wpAny (model X.prog X.w) X.A (call (.ref C) us) (EP X pins σ Q) X.xe s:=by
 have hq:=h (s.heap.objs.size+1) s.heap.objs.size (I.hok.fresh (Nat.le_succ _)) (I.hok.fresh (yg _)) (yq (ybq _))
 have I2:=Inv.made (C:=C) I
 have r2:Vals (V.ref (s.heap.objs.size+1)::(vs++dvs)) (Value.ref (s.heap.objs.size+1)::(us++ds)):=.cons rfl (r.append hd)
 have hl:(Value.ref (s.heap.objs.size+1)::us++ds).length=ps.length:=by
  have e:=r2.length
  rw [F.len _ _ _ _ hq] at e
  exact e.symm
 refine wpAny_call (Yae (f:=f) I.kIn M.makes M.init (beq_iff_eq.mp M.fn) (codeAny_mono (F.run _ X.stack _ _ ⟨Value.ref (s.heap.objs.size+1)::us,[]⟩ (Value.ref (s.heap.objs.size+1)::(us++ds)) _ _ E (hr.make C us [])
  (I2.env0.make C us []) (hb _ (Value.ref (s.heap.objs.size+1)::us) I2.kIn hl) r2 hq) λr s' hq'=>?_))
 cases r with
 |error e=>exact hx pins σ _ _ e s' I2 hq'
 |ok fl=>
  cases fl with
  |ret u=>
   obtain ⟨v,H',I3,rv,ev,q3⟩:=I2.after hq'
   subst ev
   exact ⟨rv,⟨V.ref (s.heap.objs.size+1),H',I3,rfl,q3⟩⟩
  |next=>exact False.elim hq'
  |brk=>exact False.elim hq'
  |cont=>exact False.elim hq'
theorem Jlw (M:Mk X.K C f) (F:FnOk X.prog X.w X.K X.mg X.base CX k f fd ps sp) (hr:Room (k+1) X.A) (hg:Gl X x) (hm:X.mg x=some (.ref C)) (hb:Binds X.K fd ps ds) (hd:Vals dvs ds) (hx:Jq6 CX X E)
  (ha:PA X (e::es) t) (hdb:(x==("__debug__" :Str))=false:=by decide) (he:starEach (e::es) X.env=(false,eval e X.env)::starEach es X.env:=by rfl) (hpl:(backTo pos (starEach es X.env)).any (·.1)=false:=by rfl):
  PE X (.Call (.Name x p) (e::es) [] pos) (tMake C sp dvs E t):=by
 intro pins s σ H Q I h
 refine wpAny_Call_Name_kw (Jna I hg hm ?_ hdb)
 refine PySem.W.callWith_K (h₀:=X.base) I.ok.mod.kin M.kp (thn (ha pos pins s σ H _ I h) λus s1 ⟨vs,H1,I1,r,q⟩=>⟨I1.kIn,?_⟩) he hpl
 exact Yaw M F hr hb hd hx I1 r q
end
section
variable {X:Cx} {CX:CXT} {k:Nat} {f C:Addr} {fd:FuncData} {ps ks:List Str} {sp:Sp} {E:XK} {x m:Str} {p pos apos kpos:Pos} {e o:Expr} {es:List Expr} {kws:List Keyword} {te ta:TE} {t tk:TA} {nm:Option Str}
structure KBinds (K:PySem.W.Frag) (fd:FuncData) (ps ks:List Str) (g:List Value->List Value->List Value) (gV:List V->List V->List V):Prop where
 to:∀(s:Shared) (us ws:List Value),K.In s.heap->(g us ws).length=ps.length->BindsTo s fd ⟨us,ks.zip ws⟩ (ps.zip (g us ws))
 rel:∀{vs:List V} {us:List Value} {zs:List V} {ws:List Value},Vals vs us->Vals zs ws->Vals (gV vs zs) (g us ws)
variable {g:List Value->List Value->List Value} {gV:List V->List V->List V}
end
structure Jjj (N P:List Str) (sc:Scope):Prop where
 kind:sc.kind= .function
 co:sc.isCoroutine=false
 gen:sc.isGenerator=false
 nd:N.Nodup
 pre:N.take P.length=P
 par:∀x∈P,sc.names.lookup x=some .local\/sc.names.lookup x=some .cell
 nofree:∀y∈sc.names,y.2≠ .free
theorem Jtg {kindOf:Str->Option NameKind} {x:Str}:∀{binds:List (Str×Value)} {m:Str->Option Value},(∀v,(x,v)∉binds)->bindL kindOf binds m x=m x
 | [],_,_=>rfl
 | (n,v) :: r,m,h=>by
  unfold bindL
  rw [Jtg λw hw=>h w (yak _ hw)]
  split
  ·have:x≠n:=by rintro rfl;exact h v yaq
   simp [this]
  ·rfl
theorem Jtf {kindOf:Str->Option NameKind} {x:Str}:∀{binds:List (Str×Value)} {m:Str->Option Value},(∀v,(x,v)∉binds)->bindC kindOf binds m x=m x
 | [],_,_=>rfl
 | (n,v) :: r,m,h=>by
  unfold bindC
  rw [Jtf λw hw=>h w (yak _ hw)]
  split
  ·rfl
  ·have:x≠n:=by rintro rfl;exact h v yaq
   simp [this]
theorem Jqa {kindOf:Str->Option NameKind} {x:Str} {v:Value}:∀{P:List Str} {vs:List Value} {i:Nat} {m:Str->Option Value},P.Nodup->P[i]?=some x->vs[i]?=some v->kindOf x=some .local->
  bindL kindOf (P.zip vs) m x=some v
 | [],_,_,_,_,h,_,_=>by simp at h
 |_::_,[],_,_,_,_,h,_=>by simp at h
 |p::P,w::vs,0,m,nd,h1,h2,hk=>by
  simp at h1 h2;subst h1;subst h2
  show bindL kindOf ((p,w)::P.zip vs) m p=_
  unfold bindL
  rw [Jtg λv hv=>(yav.mp nd).1 (List.of_mem_zip hv).1,if_pos hk]
  simp
 |p::P,w::vs,i+1,m,nd,h1,h2,hk=>by
  show bindL kindOf ((p,w)::P.zip vs) m x=_
  unfold bindL
  exact Jqa (i:=i) (yav.mp nd).2 (by simpa using h1) (by simpa using h2) hk
theorem Jq9 {kindOf:Str->Option NameKind} {x:Str} {v:Value}:∀{P:List Str} {vs:List Value} {i:Nat} {m:Str->Option Value},P.Nodup->P[i]?=some x->vs[i]?=some v->kindOf x≠some .local->
  bindC kindOf (P.zip vs) m x=some v
 | [],_,_,_,_,h,_,_=>by simp at h
 |_::_,[],_,_,_,_,h,_=>by simp at h
 |p::P,w::vs,0,m,nd,h1,h2,hk=>by
  simp at h1 h2;subst h1;subst h2
  show bindC kindOf ((p,w)::P.zip vs) m p=_
  unfold bindC
  rw [Jtf λv hv=>(yav.mp nd).1 (List.of_mem_zip hv).1,if_neg hk]
  simp
 |p::P,w::vs,i+1,m,nd,h1,h2,hk=>by
  show bindC kindOf ((p,w)::P.zip vs) m x=_
  unfold bindC
  exact Jq9 (i:=i) (yav.mp nd).2 (by simpa using h1) (by simpa using h2) hk
def start (N:List Str) (vs:List V):St:=vs.map some++yat (N.length - vs.length) none
def Juo (CX:CXT) (P:Program) (w:World) (K:PySem.W.Frag) (mg:Str->Option Value) (base:Heap) (N:List Str) (qual:Str) (scope:Scope) (f:Addr) (cd:Value) (A:Around) (outer:List Env) (s:Shared) (H:Hp) (E:XK):Cx where
 prog:=P
 w:=w
 K:=K
 mg:=mg
 base:=base
 A:=A.deeper (envOfC qual scope s.heap.objs.size f cd)
 N:=N
 s₀:=s
 H₀:=H
 env:=envOfC qual scope s.heap.objs.size f cd
 outer:=outer
 stack:=envOfC qual scope s.heap.objs.size f cd::outer
 ex:=[]
 calm:=true
 fn:=λ_=>true
 pn:=[]
 xe:=λe s'=>wpAny (model P w) (A.deeper (envOfC qual scope s.heap.objs.size f cd)) (leaving (envOfC qual scope s.heap.objs.size f cd) e) (λ_ s''=>CX outer H s E e s'') (λe' s''=>CX outer H s E e' s'') s'
theorem Jmy {sc:Scope} {n:Nat} {x:Str} (h:sc.names.lookup x=some .cell):∃c,(cellsFrom n sc.names []).lookup x=some c:=by
 have q:=PySem.W.cellsFrom_some sc.names n [] (.inl h)
 exact ycc.mp q
theorem Jto {CX:CXT} {P:Program} {w:World} {K:PySem.W.Frag} {mg:Str->Option Value} {base:Heap} {N ps:List Str} {qual:Str} {scope:Scope} {f:Addr} {cd:Value} {A:Around} {outer:List Env} {s s1:Shared} {H:Hp} {E:XK} {us:List Value} {vs:List V}
  (S:Jjj N ps scope) (hd:A.handled=none) (e0:Env0 P w K mg base A outer s H) (hl:vs.length=ps.length) (r:Vals vs us)
  (x:InCallC s s.heap.objs.size (bindL (envOfC qual scope s.heap.objs.size f cd).kindOf (ps.zip us) λ_=>none) (cellsFrom (s.heap.objs.size+1) scope.names []) (bindC (envOfC qual scope s.heap.objs.size f cd).kindOf (ps.zip us) λ_=>none) s1):
  Inv (Juo CX P w K mg base N qual scope f cd A outer s H E) [] (start N vs) H s1:=by
 have hpl:ps.length<=N.length:=by have:=congrArg List.length S.pre;rw [yaf] at this;omega
 obtain ⟨h1,tk,rfl,hk⟩:=x.done
 have noA:∀b:Addr,b∉(Juo CX P w K mg base N qual scope f cd A outer s H E).ex:=λb z=>absurd (show b∈([]:List Addr) from z) (by simp)
 refine ⟨⟨e0.mod,S.kind,rfl,rfl,yg _,λy z c h1 h2=>?_,λy hy=>?_,λy c _ h=>?_,λ_=>hd,Around.frames_deeper e0.frames,.inr ⟨rfl,rfl⟩,λb z=>absurd z (noA b),e0.bs,e0.bsz,λb _ _=>noA b,λb z=>absurd z (noA b),e0.funs,e0.frf⟩,
  rfl,e0.bare,Un.kept hk,⟨_,x.toInCall.ns,λi y v h1 h2 h3=>?_⟩,λy c h=>⟨_,x.cell y c h⟩,e0.hok.fresh (yg _),λy c h=>?_,λp hp=>absurd (show p∈([]:List (Addr×Obj)) from hp) (by simp),e0.hok.kept hk,?_⟩
 ·exact name_of_addr x.apart (PySem.mem_of_lookup h1) (PySem.mem_of_lookup h2)
 ·have hy:scope.names.lookup y=some .cell\/scope.names.lookup y=some .free:=hy
  rcases hy with hy|hy
  ·exact Jmy hy
  ·exact absurd rfl (S.nofree _ (PySem.mem_of_lookup hy))
 ·exact yap (x.above y c (PySem.mem_of_lookup h))
 ·have hi:i < vs.length:=by
   unfold start at h2
   by_cases hi:i < vs.length
   ·exact hi
   ·rw [ycj (by simpa using hi)] at h2
    rw [List.getElem?_replicate] at h2
    split at h2 <;> cases h2
  have ha:vs[i]?=some v:=by
   unfold start at h2
   rw [yck (by simpa using hi),yp] at h2
   cases e:vs[i]? with
   |none=>rw [e] at h2;cases h2
   |some a=>rw [e] at h2;cases h2;rfl
  obtain ⟨u,hu,rv⟩:=r.get ha
  have hp:ps[i]?=some y:=by
   rw [<-S.pre,List.getElem?_take_of_lt (by omega)];exact h1
  have ndP:ps.Nodup:=by rw [<-S.pre];exact S.nd.sublist (List.take_sublist _ _)
  refine ⟨u,rv,?_⟩
  rcases S.par y (yae hp) with k|k
  ·exact .inl ⟨k,Jqa ndP hp hu k⟩
  ·obtain ⟨c,e⟩:=Jmy (n:=s.heap.objs.size+1) k
   refine .inr ⟨.inl k,c,e,?_⟩
   have q:=x.cell y c e
   rw [Jq9 ndP hp hu (by show scope.names.lookup y≠_;rw [k];decide)] at q
   exact q
 ·exact .inl (e0.hok.fresh (yap (x.above y c (PySem.mem_of_lookup h))))
 ·unfold start
  show _=N.length
  rw [yay,yf,ybx]
  omega
theorem fn_of {CX:CXT} {P:Program} {w:World} {K:PySem.W.Frag} {mg:Str->Option Value} {base:Heap} {k:Nat} {f:Addr} {name qual:Str} {params:Arguments} {body:List Stmt} {scope:Scope} {dV kV doc pm cdv ct oc:Value} {an od:Option Addr}
  {osl:Array (Option Value)} {N ps:List Str} {sp:Sp} (lk:K.lookup f=some ⟨oc,od,.func (PySem.W.fnOf name qual params body scope dV kV doc pm an cdv ct),osl⟩) (hcd:PySem.W.codeIn K cdv qual=true) (S:Jjj N ps scope)
  (len:∀vs H Q E,sp vs H Q E->vs.length=ps.length)
  (hbody:∀(A:Around) (outer:List Env) (s:Shared) (H:Hp) (vs:List V) (Q:VK) (E:XK),Room k (A.deeper (envOfC qual scope s.heap.objs.size f cdv))->sp vs H Q E->
   ∃t,PSs (Juo CX P w K mg base N qual scope f cdv A outer s H E) body t/\t {nx:=λ_ H'=>Q .non H',rt:=Q} (start N vs) H):
  FnOk P w K mg base CX (k+1) f (PySem.W.fnOf name qual params body scope dV kV doc pm an cdv ct) ps sp:=by
 refine ⟨len,λA outer s H args us vs Q E hr e0 hb r hsp=>?_⟩
 have hl:=len _ _ _ _ hsp
 have KX:K.In s.heap:=e0.mod.kin.keeps λb o e=>(e0.bs b o e).1
 have lim:s.heap.NoLimit:=e0.mod.nolimit.keeps λb o e=>(e0.bs b o e).1
 have hkind:∀y∈ps.zip us,scope.names.lookup y.1=some .local\/(scope.names.lookup y.1=some .cell/\((cellsFrom (s.heap.objs.size+1) scope.names []).lookup y.1).isSome=true):=λ⟨n,v⟩ hy=>by
  rcases S.par n (List.of_mem_zip hy).1 with q|q
  ·exact .inl q
  ·exact .inr ⟨q,PySem.W.cellsFrom_some _ _ _ (.inl q)⟩
 refine codeAny_call_function hr.depth (KX _ _ lk) rfl S.co S.gen rfl (PySem.W.codeRec_of KX hcd) (hb _ _ _ _ ?_)
 refine wpAny_newFunctionEnv_cells S.kind hkind λenv he s1 x=>?_
 subst he
 refine ⟨lim.keeps x.toInCall.keep,codeAny_func ?_⟩
 obtain ⟨t,ht,hq⟩:=hbody A outer s H vs Q E (hr.deeper _) hsp
 have I:Inv (Juo CX P w K mg base N qual scope f cdv A outer s H E) [] (start N vs) H s1:=Jto S hr.hd e0 hl r x
 refine wpAny_mono (ht [] s1 (start N vs) H _ I hq) (λfl s' hs=>?_) λe s' hs=>hs
 have fin:∀{σ':St} {H':Hp} {v:V} {u:Value},Inv (Juo CX P w K mg base N qual scope f cdv A outer s H E) [] σ' H' s'->RelV v u->Q v H'->CE outer P w H s Q u s':=
  λ{σ' H' v u} J rv q=>⟨v,H',J.os,J.bare,J.base,J.hok,rv,q⟩
 cases fl with
 |ret u=>
  obtain ⟨v,σ',H',J,rv,q⟩:=hs
  exact fin J rv q
 |next=>
  obtain ⟨σ',H',J,q⟩:=hs
  exact fin (v:=V.non) (u:=Value.none) J rfl q
 |brk=>
  obtain ⟨_,_,_,q⟩:=hs
  exact False.elim q
 |cont=>
  obtain ⟨_,_,_,q⟩:=hs
  exact False.elim q
end L2
namespace L2
open PySem PySem.Spec PyProof.Rows
section
variable {X:Cx} {x:Str} {p pos:Pos} {e:Expr} {es:List Expr} {t:TA} {id T:String} {r:List V->Hp->VK->Prop}
def tCB (r:List V->Hp->VK->Prop) (t:TA):TE:=λσ H Q=>t σ H λvs H1=>r vs H1 Q
theorem Jji (hc:Jle X (.builtin id) r) (hg:Gl X x) (hm:X.mg x=none) (hv:bootBuiltins x=some (.builtin id)) (ha:PA X (e::es) t) (hn:x≠"__name__" :=by decide) (hdb:(x==("__debug__" :Str))=false:=by decide)
  (he:starEach (e::es) X.env=(false,eval e X.env)::starEach es X.env:=by rfl) (hpl:(backTo pos (starEach es X.env)).any (·.1)=false:=by rfl):PE X (.Call (.Name x p) (e::es) [] pos) (tCB r t):=by
 intro pins s σ H Q I h
 refine wpAny_Call_Name_kw (Jn9 I hg hm hv ?_ hn hdb)
 exact PyProof.Rows.callWith_builtin1 (thn (ha pos pins s σ H _ I h) λus s1 ⟨vs,H1,I1,r1,q1⟩=>hc pins s1 σ H1 vs us Q I1 r1 q1) he hpl
theorem Jk7 (hc:Jle X (.type T) r) (hg:Gl X x) (hm:X.mg x=none) (hv:bootBuiltins x=some (.type T)) (ha:PA X (e::es) t) (hn:x≠"__name__" :=by decide) (hdb:(x==("__debug__" :Str))=false:=by decide)
  (he:starEach (e::es) X.env=(false,eval e X.env)::starEach es X.env:=by rfl) (hpl:(backTo pos (starEach es X.env)).any (·.1)=false:=by rfl):PE X (.Call (.Name x p) (e::es) [] pos) (tCB r t):=by
 intro pins s σ H Q I h
 refine wpAny_Call_Name_kw (Jn9 I hg hm hv ?_ hn hdb)
 exact PyProof.Rows.callWith_type1 (thn (ha pos pins s σ H _ I h) λus s1 ⟨vs,H1,I1,r1,q1⟩=>hc pins s1 σ H1 vs us Q I1 r1 q1) he hpl
end
end L2
namespace HT
open PySem PyProof.Rows
section
open PySem.SeqAt
open PySem.AutoSeq1 (wpAny_loadPart')
open PySem.MeetsSeq PySem.MeetsSeq2 PySem.MeetsSeq3
end
section
variable {prog:Program} {w:World} {A:Around} {E:Value->Shared->Prop} {s:Shared}
def sIx (n d:Nat):Option Int->Nat
 |none=>d
 |some v=>if v < 0 then (v+(n:Int)).toNat else min v.toNat n
theorem sIx_none (n d:Nat):sIx n d none=d:=rfl
theorem sIx_nat (n d k:Nat):sIx n d (some (k:Int))=min k n:=by
 show (if (k:Int) < 0 then ((k:Int)+(n:Int)).toNat else min (k:Int).toNat n)=min k n
 rw [if_neg (by omega),ybc]
end
end HT
namespace L2
open PySem PySem.Spec PyProof.Rows
abbrev TO:=St->Hp->(Option Int->Hp->Prop)->Prop
def PO (X:Cx) (e:Option Expr) (t:TO):Prop:=
 ∀(pins:List (Addr×Obj)) (s:Shared) (σ:St) (H:Hp) (Q:Option Int->Hp->Prop),Inv X pins σ H s->t σ H Q->
  wpAny (model X.prog X.w) X.A (evalPart e X.env) (λu s'=>∃o H',Inv X pins σ H' s'/\IsPart u o/\Q o H') X.xe s
def Ydj:TO:=λ_ H Q=>Q none H
def tPart (t:TE):TO:=λσ H Q=>t σ H λx H1=>∃i,x= .int i/\Q (some i) H1
section
variable {X:Cx} {e:Expr} {te:TE} {lo hi:Option Expr} {tl th:TO} {pos p2:Pos}
theorem Jpw:PO X none Ydj:=by
 intro pins s σ H Q I h
 rw [evalPart_none]
 exact wpAny_pure ⟨none,H,I,.none,h⟩
theorem Jpx (h:PE X e te):PO X (some e) (tPart te):=by
 intro pins s σ H Q I hw
 rw [evalPart_some]
 refine thn (h pins s σ H _ I hw) λu s1 zq=>?_
 obtain ⟨x,H1,I1,r1,q1⟩:=zq
 obtain ⟨i,rfl,q⟩:=q1
 obtain ⟨t,rfl⟩:=r1
 exact ⟨some i,H1,I1,.int i t,q⟩
def SlR (X:Cx) (r:V->Option Int->Option Int->Hp->VK->Prop):Prop:=
 ∀(pins:List (Addr×Obj)) (s:Shared) (σ:St) (H:Hp) (x:V) (v vl vu:Value) (lo hi:Option Int) (sl:Addr) (Q:VK),Inv X pins σ H s->RelV x v->s.heap.IsSliceOf sl vl vu .none->IsPart vl lo->IsPart vu hi->r x lo hi H Q->
  ∃T id,typeLookup (.type T) "__getitem__" =pure (some (.builtin id))/\s.TypeIs v T/\wpAny (model X.prog X.w) X.A (getItem v (.ref sl)) (EP X pins σ Q) X.xe s
def tSl (r:V->Option Int->Option Int->Hp->VK->Prop) (te:TE) (tl th:TO):TE:=λσ H Q=>te σ H λx H1=>tl σ H1 λl H2=>th σ H2 λu H3=>r x l u H3 Q
theorem Jnz {r:V->Option Int->Option Int->Hp->VK->Prop} (hr:SlR X r) (he:PE X e te) (hl:PO X lo tl) (hu:PO X hi th):PE X (.Subscript e (.Slice lo hi none p2) pos) (tSl r te tl th):=by
 intro pins s σ H Q I h
 refine Subscript_ (thn (he pins s σ H _ I h) λv s1 zq=>?_)
 obtain ⟨x,H1,I1,r1,q1⟩:=zq
 refine wpAny_Slice (thn (hl pins s1 σ H1 _ I1 q1) λvl s2 ⟨l,H2,I2,pl,q2⟩=>thn (hu pins s2 σ H2 _ I2 q2) λvu s3 zq=>?_)
 obtain ⟨u,H3,I3,pu,q3⟩:=zq
 rw [evalPart_none]
 refine wpAny_pure ?_
 have I4:Inv X pins σ H3 {s3 with heap:=s3.heap.push {cls:=.type "slice",data:=.fields #[vl,vu,.none]}}:=I3.kept (t':=s3.toks) λb ob q=>yi _ q
 obtain ⟨T,id,hT,ht,hg⟩:=hr pins {s3 with heap:=s3.heap.push {cls:=.type "slice",data:=.fields #[vl,vu,.none]}} σ H3 x v vl vu l u s3.heap.objs.size Q I4 r1 (Heap.IsSliceOf.new ..) pl pu q3
 show wpAny (model X.prog X.w) X.A (subscriptTail e (.Slice lo hi none p2) v (.ref s3.heap.objs.size)) (EP X pins σ Q) X.xe {s3 with heap:=s3.heap.push {cls:=.type "slice",data:=.fields #[vl,vu,.none]}}
 exact tail_any (ops:=[.ref s3.heap.objs.size,v]) ht hT hg (by with_unfolding_all rfl)
def Jll (xs:List V) (lo hi:Option Int):List V:=(xs.drop (HT.sIx xs.length 0 lo)).take (HT.sIx xs.length xs.length hi - HT.sIx xs.length 0 lo)
theorem Jvp (xs:List V) (lo hi:Option Int):(Jll xs lo hi).length<=xs.length:=by
 unfold Jll
 rw [yaf,List.length_drop]
 omega
end
end L2
namespace L2
open PySem PySem.Spec PyProof.Rows
def ixN (n:Nat) (i:Int):Option Nat:=if 0<=i then (if i < n then some i.toNat else none) else if -(n:Int)<=i then some (i+n).toNat else none
def atI {α:Type} (xs:List α) (i:Int):Option α:=(ixN xs.length i).bind λj=>xs[j]?
theorem Jyk {n:Nat} {i:Int} {j:Nat} (h:ixN n i=some j):seqIndex? i n=some j/\j < n/\ -(n:Int)<=i/\i < n:=by
 unfold ixN at h
 by_cases h0:0<=i
 ·rw [if_pos h0] at h
  by_cases h1:i < n
  ·rw [if_pos h1] at h
   have e:i.toNat=j:=yy.inj h
   exact ⟨by rw [seqIndex_of h0 h1,e],by omega,by omega,h1⟩
  ·rw [if_neg h1] at h;cases h
 ·rw [if_neg h0] at h
  by_cases h1: -(n:Int)<=i
  ·rw [if_pos h1] at h
   have e:(i+n).toNat=j:=yy.inj h
   exact ⟨by rw [seqIndex_neg (by omega) h1,e],by omega,h1,by omega⟩
  ·rw [if_neg h1] at h;cases h
theorem Jue {α:Type} {xs:List α} {i:Int} {v:α} (h:atI xs i=some v):∃j,seqIndex? i xs.length=some j/\xs[j]?=some v/\j < xs.length/\ -(xs.length:Int)<=i/\i < xs.length:=by
 unfold atI at h
 cases e:ixN xs.length i with
 |none=>rw [e] at h;cases h
 |some j=>
  rw [e] at h
  obtain ⟨h1,h2,h3,h4⟩:=Jyk e
  exact ⟨j,h1,h,h2,h3,h4⟩
theorem Jl6 {α:Type} {xs:List α} {j:Nat} {v:α} (h:xs[j]?=some v):atI xs (j:Int)=some v:=by
 have hj:j < xs.length:=(yv.mp h).1
 have e:ixN xs.length (j:Int)=some j:=by
  unfold ixN
  rw [if_pos (by omega),if_pos (by omega)];simp
 unfold atI;rw [e];exact h
def Yc6 (b:Expr):Prop:=∀o i,subscripted b false o i=operate [o,i] (getItem o i)
def IxR (X:Cx) (r:R2):Prop:=
 ∀(value slice:Expr) (pins:List (Addr×Obj)) (s:Shared) (σ:St) (H:Hp) (x y:V) (v u:Value) (Q:VK),Inv X pins σ H s->RelV x v->RelV y u->r x y H Q->
  subscripted slice false v u=operate [v,u] (getItem v u)->wpAny (model X.prog X.w) X.A (subscriptTail value slice v u) (EP X pins σ Q) X.xe s
def MtR (X:Cx) (id:String) (r:V->List V->Hp->VK->Prop):Prop:=
 ∀(pins:List (Addr×Obj)) (s:Shared) (σ:St) (H:Hp) (x:V) (xs:List V) (v:Value) (us:List Value) (Q:VK),Inv X pins σ H s->RelV x v->Vals xs us->r x xs H Q->
  wpAny (model X.prog X.w) X.A (call (.builtin id) (v::us)) (EP X pins σ Q) X.xe s
section
variable {X:Cx} {a b:Expr} {ta tb:TE} {pos:Pos}
theorem Jjs {r:R2} (hr:IxR X r) (ha:PE X a ta) (hb:PE X b tb) (hs:Yc6 b):PE X (.Subscript a b pos) (tOp r ta tb):=by
 intro pins s σ H Q I h
 exact Subscript_ (binT ha hb I h λv u s2 x y H2 I2 rx ry q=>hr a b pins s2 σ H2 x y v u Q I2 rx ry q (hs _ _))
def rIxL (K:PySem.W.Frag):R2:=λx y H Q=>∃p xs i v,x= .ref p/\y= .int i/\SqL K H p xs/\atI xs i=some v/\Q v H
def rIxT (K:PySem.W.Frag):R2:=λx y H Q=>∃p xs i v,x= .ref p/\y= .int i/\SqT K H p xs/\atI xs i=some v/\Q v H
def rIxS:R2:=λx y H Q=>∃z i c,x= .str z/\y= .int i/\z.length<=sizeLine/\atI z.cps.toList i=some c/\Q (.str ⟨#[c]⟩) H
theorem Jjz:IxR X (rIxL X.K):=by
 intro value slice pins s σ H x y v u Q I rx ry h hs
 obtain ⟨p,xs,i,z,rfl,rfl,hq,he,q⟩:=h
 cases rx
 obtain ⟨t,rfl⟩:=ry
 obtain ⟨its,r,pl,hz⟩:=I.list hq
 obtain ⟨j,h1,h2,h3,h4,h5⟩:=Jue he
 obtain ⟨w,ew,rw'⟩:=r.get h2
 have hl:=r.length
 have hn:=Jqg
 have fin:EP X pins σ Q w s:=⟨z,H,I,rw',q⟩
 by_cases h0:0<=i
 ·have hj:i.toNat=j:=by
   rw [seqIndex_of h0 h5] at h1
   exact yy.inj h1
  exact item_listR pl.isList h0 (by omega) (by rw [hj];simpa using ew) fin hs
 ·have hj:(i+(its.toArray.size:Int)).toNat=j:=by
   rw [seqIndex_neg (by omega) h4] at h1
   rw [yt,<-hl]
   exact yy.inj h1
  exact subscriptTail_builtinR (x:=w) pl.isList.typeIs slot_list_getitem.lookup
   (wpAny_getItem_list_neg (Q:=λr s'=>r=w/\EP X pins σ Q r s') pl.isList (by omega) (by rw [yt] <;> omega) (by omega) (by rw [hj];simpa using ew) ⟨rfl,fin⟩) hs
theorem Jkg:IxR X (rIxT X.K):=by
 intro value slice pins s σ H x y v u Q I rx ry h hs
 obtain ⟨p,xs,i,z,rfl,rfl,hq,he,q⟩:=h
 cases rx
 obtain ⟨t,rfl⟩:=ry
 obtain ⟨its,r,pl,hz⟩:=I.tuple hq
 obtain ⟨j,h1,h2,h3,h4,h5⟩:=Jue he
 obtain ⟨w,ew,rw'⟩:=r.get h2
 have hl:=r.length
 have hn:=Jqg
 have fin:EP X pins σ Q w s:=⟨z,H,I,rw',q⟩
 exact subscriptTail_builtinR (x:=w) pl.typeIs slot_tuple_getitem.lookup
  (getItem_tuple (j:=j) (Q:=λr s'=>r=w/\EP X pins σ Q r s') pl (by omega) (by omega) (by rw [yt,<-hl];exact h1) (by simpa using ew) ⟨rfl,fin⟩) hs
theorem ix_str:IxR X rIxS:=by
 intro value slice pins s σ H x y v u Q I rx ry h hs
 obtain ⟨z,i,c,rfl,rfl,hz,he,q⟩:=h
 obtain ⟨t,rfl⟩:=rx
 obtain ⟨t',rfl⟩:=ry
 obtain ⟨j,h1,h2,h3,h4,h5⟩:=Jue he
 have hl:z.cps.toList.length=z.length:=by simp [Str.length]
 rw [hl] at h1 h4 h5
 have hn:=Jqg
 exact tail_any (typeIs_str s z t) slot_str_getitem.lookup (getItem_str (c:=c) (by
  have e1:decide (i < -(2^63:Int))=false:=decide_eq_false (by omega)
  have e2:decide (i≥2^63)=false:=decide_eq_false (by omega)
  rw [e1,e2,Bool.or_false]) (by rw [h1];simpa using h2) ⟨.str ⟨#[c]⟩,H,I.tok _,⟨_,rfl⟩,q⟩) hs
theorem Jxc (its:List Value) (n j:Nat) (u:Value):Obj.mapSeq (·.setIfInBounds j u) {cls:=.type "list",data:=.seq its.toArray n}={cls:=.type "list",data:=.seq (its.set j u).toArray n}:=by
 simp [Obj.mapSeq]
theorem Inv.lst {pins:List (Addr×Obj)} {σ:St} {H:Hp} {s:Shared} {p:Addr} {xs:List V} (I:Inv X pins σ H s) (h:H p=some (.lst xs)):
  ∃(its:List Value) (n:Nat),Vals xs its/\s.heap.get? p=some {cls:=.type "list",data:=.seq its.toArray n}/\xs.length<=sizeLine:=by
 obtain ⟨z,its,n,r,e⟩:=I.hok p _ h
 exact ⟨its,n,r,e,z⟩
theorem Inv.lstUpd {pins:List (Addr×Obj)} {σ:St} {H:Hp} {s:Shared} {p:Addr} {xs ys:List V} {its its':List Value} {n n':Nat} {f:Obj->Obj} (I:Inv X pins σ H s) (h:H p=some (.lst xs))
  (ho:s.heap.get? p=some {cls:=.type "list",data:=.seq its.toArray n}) (hf:f {cls:=.type "list",data:=.seq its.toArray n}={cls:=.type "list",data:=.seq its'.toArray n'}) (r:Vals ys its') (hz:ys.length<=sizeLine) (t:Nat):
  Inv X pins σ (upd H p (.lst ys)) {s with heap:=s.heap.update p f,toks:=t}:=by
 have e:(s.heap.update p f).get? p=some {cls:=.type "list",data:=.seq its'.toArray n'}:=by
  rw [ybm f ho (by rw [hf] <;> rfl),hf]
 refine I.write (x:=p) (e:=p) (by rw [h];trivial) (.inl rfl) (λb u hb q=>(yaz _ _ (yk hb)).trans q) ⟨_,e⟩ ?_
 exact ⟨hz,its',n',r,e⟩
def rSetL:V->V->V->Hp->(Hp->Prop)->Prop:=λo i v H Q=>∃p xs k j,o= .ref p/\i= .int k/\H p=some (.lst xs)/\ixN xs.length k=some j/\Q (upd H p (.lst (xs.set j v)))
theorem Jsj:PSet X rSetL:=by
 intro pins s σ H o i v ov iv u Q I ro ri rv h
 obtain ⟨p,xs,k,j,rfl,rfl,hp,hj,q⟩:=h
 cases ro
 obtain ⟨t,rfl⟩:=ri
 obtain ⟨its,n,r,ho,hz⟩:=I.lst hp
 obtain ⟨h1,h2,h3,h4⟩:=Jyk hj
 have hl:=r.length
 have hn:=Jqg
 have I':Inv X pins σ (upd H p (.lst (xs.set j v))) {s with heap:=s.heap.update p (Obj.mapSeq (·.setIfInBounds j u))}:=
  I.lstUpd hp ho (Jxc its n j u) (r.set rv j) (by rw [List.length_set];exact hz) s.toks
 by_cases h0:0<=k
 ·have hk:k.toNat=j:=by
   rw [seqIndex_of h0 h4] at h1
   exact yy.inj h1
  exact PySem.W.ki_setAt ho h0 (by omega) (by rw [yt,<-hl];exact h4) (by rw [hk];exact ⟨_,I',q⟩)
 ·have hk:(k+(its.toArray.size:Int)).toNat=j:=by
   rw [seqIndex_neg (by omega) h3] at h1
   rw [yt,<-hl]
   exact yy.inj h1
  exact PySem.W.ki_setBack ho (by omega) (by rw [yt,<-hl];exact h3) (by omega) (by rw [hk];exact ⟨_,I',q⟩)
theorem Jvc (lo hi:Option Int) (n:Nat):(sliceBounds lo hi none n).1=((HT.sIx n 0 lo:Nat):Int)/\(sliceBounds lo hi none n).2.1=((HT.sIx n n hi:Nat):Int)/\(sliceBounds lo hi none n).2.2=1:=by
 refine ⟨?_,?_,rfl⟩
 ·cases lo with
  |none=>simp [sliceBounds,HT.sIx]
  |some i=>
   simp only [sliceBounds,HT.sIx,Option.getD_none,show (1:Int) > 0 by decide,if_true]
   by_cases h:i < 0
   ·simp only [h,if_true] <;> omega
   ·simp only [h,if_false] <;> omega
 ·cases hi with
  |none=>simp [sliceBounds,HT.sIx]
  |some i=>
   simp only [sliceBounds,HT.sIx,Option.getD_none,show (1:Int) > 0 by decide,if_true]
   by_cases h:i < 0
   ·simp only [h,if_true] <;> omega
   ·simp only [h,if_false] <;> omega
theorem Jtd (its:List Value) (lo hi:Option Int):slicePick its.toArray lo hi none=((its.drop (HT.sIx its.length 0 lo)).take (HT.sIx its.length its.length hi - HT.sIx its.length 0 lo)).toArray:=by
 obtain ⟨h1,h2,h3⟩:=Jvc lo hi its.toArray.size
 unfold slicePick
 rw [h1,h2,h3]
 simp only [sliceRange_one,pick_run,yt] <;> rfl
def rSlL (K:PySem.W.Frag):V->Option Int->Option Int->Hp->VK->Prop:=λx lo hi H Q=>∃a xs,x= .ref a/\SqL K H a xs/\∀p,H p=none->Q (.ref p) (upd H p (.lst (Jll xs lo hi)))
theorem Jq3:SlR X (rSlL X.K):=by
 intro pins s σ H x v vl vu lo hi sl Q I rx hs pl pu h
 obtain ⟨a,xs,rfl,hx,q⟩:=h
 cases rx
 obtain ⟨its,r,ht,hz⟩:=I.list hx
 have hlen:=r.length
 refine ⟨"list",_,slot_list_getitem.lookup,ht.isList.typeIs,?_⟩
 refine wpAny_getItem_list_slice ht.isList hs pl pu .none (by simp) ?_ (by rw [yt] <;> omega)
 rw [Jtd,<-hlen]
 refine ⟨.ref s.heap.objs.size,_,I.laid (t':=s.toks) (o:=.lst (Jll xs lo hi)) (λb ob q=>yi _ q) (yg _) ?_,rfl,q _ (I.hok.fresh (yg _))⟩
 exact ⟨yz (Jvp xs lo hi) hz,_,0,(r.drop (HT.sIx xs.length 0 lo)).take (HT.sIx xs.length xs.length hi - HT.sIx xs.length 0 lo),yo _ rfl⟩
def Jm2:V->Bool
 | .non=>true
 | .bl _=>true
 | .int _=>true
 | .str _=>true
 |_=>false
def eqV:V->V->Bool
 | .non,.non=>true
 | .bl a,.bl b=>a==b
 | .bl a,.int b=>(if a then 1 else 0)==b
 | .int a,.bl b=>a==(if b then 1 else 0)
 | .int a,.int b=>a==b
 | .str a,.str b=>a==b
 |_,_=>false
theorem Ya0 {A:Around} {s:Shared} {y x:V} {u v:Value} (ry:RelV y u) (rx:RelV x v) (fy:Jm2 y=true) (fx:Jm2 x=true):SeqAt.EqAt A s u v (eqV y x):=by
 cases y with
 |non=>
  cases ry
  cases x with
  |non=>cases rx;exact SeqAt.EqAt.same _
  |bl b=>cases rx;exact SeqAt.EqAt.none_bool b
  |int b=>obtain ⟨t,rfl⟩:=rx;exact SeqAt.EqAt.none_int b t
  |str b=>obtain ⟨t,rfl⟩:=rx;exact SeqAt.EqAt.none_str b t
  |_=>exact absurd (show false=true from fx) yw
 |bl a=>
  cases ry
  cases x with
  |non=>cases rx;exact SeqAt.EqAt.bool_none a
  |bl b=>cases rx;exact SeqAt.EqAt.bool_bool a b
  |int b=>obtain ⟨t,rfl⟩:=rx;exact SeqAt.EqAt.bool_int a b t
  |str b=>obtain ⟨t,rfl⟩:=rx;exact SeqAt.EqAt.bool_str a b t
  |_=>exact absurd (show false=true from fx) yw
 |int a=>
  obtain ⟨t',rfl⟩:=ry
  cases x with
  |non=>cases rx;exact SeqAt.EqAt.int_none a t'
  |bl b=>cases rx;exact SeqAt.EqAt.int_bool a t' b
  |int b=>obtain ⟨t,rfl⟩:=rx;exact SeqAt.EqAt.int_int a t' b t
  |str b=>obtain ⟨t,rfl⟩:=rx;exact SeqAt.EqAt.int_str a t' b t
  |_=>exact absurd (show false=true from fx) yw
 |str a=>
  obtain ⟨t',rfl⟩:=ry
  cases x with
  |non=>cases rx;exact SeqAt.EqAt.str_none a t'
  |bl b=>cases rx;exact SeqAt.EqAt.str_bool a t' b
  |int b=>obtain ⟨t,rfl⟩:=rx;exact SeqAt.EqAt.str_int a t' b t
  |str b=>obtain ⟨t,rfl⟩:=rx;exact SeqAt.EqAt.str_str a t' b t
  |_=>exact absurd (show false=true from fx) yw
 |_=>exact absurd (show false=true from fy) yw
def eqU (x:V) (u:Value):Bool:=match u with
 | .none=>eqV .non x
 | .bool b=>eqV (.bl b) x
 | .int i _=>eqV (.int i) x
 | .str z _=>eqV (.str z) x
 |_=>false
theorem Ya1 {x y:V} {u:Value} (r:RelV y u) (f:Jm2 y=true):eqU x u=eqV y x:=by
 cases y with
 |non=>cases r;rfl
 |bl b=>cases r;rfl
 |int i=>obtain ⟨t,rfl⟩:=r;rfl
 |str z=>obtain ⟨t,rfl⟩:=r;rfl
 |_=>exact absurd (show false=true from f) yw
theorem Juc {x:V}:∀{xs:List V} {us:List Value},Vals xs us->xs.all Jm2=true->us.any (eqU x)=xs.any λy=>eqV y x
 |_,_,.nil,_=>rfl
 |y::xs,u::us,.cons r t,f=>by
  rw [List.all_cons,yac] at f
  rw [List.any_cons,List.any_cons,Ya1 r f.1,Juc t f.2]
theorem Jrw {A:Around} {s:Shared} {x:V} {v:Value} (rx:RelV x v) (fx:Jm2 x=true):∀{xs:List V} {us:List Value},Vals xs us->xs.all Jm2=true->∀u∈us,SeqAt.EqAt A s u v (eqU x u)
 |_,_,.nil,_=>λu hu=>by cases hu
 |y::xs,u::us,.cons r t,f=>λu' hu=>by
  rw [List.all_cons,yac] at f
  rcases ym.mp hu with rfl|hu
  ·rw [Ya1 r f.1];exact Ya0 r rx f.1 fx
  ·exact Jrw rx fx t f.2 u' hu
def inV (x:V) (xs:List V):Bool:=xs.any λy=>eqV y x
def rIn (K:PySem.W.Frag) (neg:Bool):R2:=λx y H Q=>∃p xs,y= .ref p/\(SqL K H p xs\/SqT K H p xs)/\Jm2 x=true/\xs.all Jm2=true/\Q (.bl (if neg then !inV x xs else inV x xs)) H
theorem Jtx:OpR X (compareOp .In) (rIn X.K false):=by
 intro pins s σ H x y v u Q I rx ry h
 obtain ⟨p,xs,rfl,hq,fx,fs,q⟩:=h
 cases ry
 rcases hq with hq|hq
 ·obtain ⟨its,r,pl,hz⟩:=I.list hq
  refine SeqAt.in_listAt (eqU x) pl.isList (λw hw=>Jrw rx fx r fs w (by simpa using hw)) ⟨.bl _,H,I,rfl,?_⟩
  rw [show its.toArray.any (eqU x)=its.any (eqU x) by simp,Juc r fs]
  exact q
 ·obtain ⟨its,r,pl,hz⟩:=I.tuple hq
  refine SeqAt.in_tupleAt (eqU x) pl (λw hw=>Jrw rx fx r fs w (by simpa using hw)) ⟨.bl _,H,I,rfl,?_⟩
  rw [show its.toArray.any (eqU x)=its.any (eqU x) by simp,Juc r fs]
  exact q
theorem Jjq:Jle X (.builtin "len") (λxs H Q=>∃p ys,xs= [.ref p]/\(SqL X.K H p ys\/SqT X.K H p ys)/\Q (.int ys.length) H):=by
 intro pins s σ H xs us Q I r h
 obtain ⟨p,ys,rfl,hq,q⟩:=h
 obtain ⟨u,rfl,rx⟩:=Jm0 r
 cases rx
 have hn:=Jqg
 rcases hq with hq|hq
 ·obtain ⟨its,r',pl,hz⟩:=I.list hq
  have hlen:=r'.length
  exact Calls.call_len_list pl.isList (by simp only [yt] <;> omega) ⟨.int ys.length,H,I.tok _,⟨s.toks+1,by rw [yt,hlen]⟩,q⟩
 ·obtain ⟨its,r',pl,hz⟩:=I.tuple hq
  have hlen:=r'.length
  exact len_tuple pl (by simp only [yt] <;> omega) ⟨.int ys.length,H,I.tok _,⟨s.toks+1,by rw [yt,hlen]⟩,q⟩
theorem Juk:Jle X (.builtin "len") (λxs H Q=>∃z,xs= [.str z]/\z.length<=sizeLine/\Q (.int z.length) H):=by
 intro pins s σ H xs us Q I r h
 obtain ⟨z,rfl,hz,q⟩:=h
 obtain ⟨u,rfl,t,rfl⟩:=Jm0 r
 have hn:=Jqg
 exact len_str (by omega) ⟨.int z.length,H,I.tok _,⟨_,rfl⟩,q⟩
theorem Jl2:Jle X (.type "tuple") (λxs H Q=>∃p ys,xs= [.ref p]/\((SqL X.K H p ys/\∀l,H l=none->Q (.ref l) (upd H l (.tup ys)))\/(SqT X.K H p ys/\Q (.ref p) H))):=by
 intro pins s σ H xs us Q I r h
 obtain ⟨p,ys,rfl,h⟩:=h
 obtain ⟨u,rfl,rx⟩:=Jm0 r
 cases rx
 rcases h with ⟨hq,q⟩|⟨hq,q⟩
 ·obtain ⟨its,r',pl,hz⟩:=I.list hq
  have hlen:=r'.length
  refine call_tuple_list pl.isList (λh' kp=>?_) (by simp only [yt] <;> omega)
  have I1:Inv X pins σ H {s with heap:=h'}:=I.kept (t':=s.toks) kp
  have I2:Inv X pins σ (upd H h'.objs.size (.tup ys)) {s with heap:=h'.push {cls:=.type "tuple",data:=.seq its.toArray}}:=
   I1.laid (t':=s.toks) (λb o e=>yi _ e) (yg _) (show ObjOk X.prog X.w _ _ _ (.tup ys) from ⟨hz,its,r',IsTup.new _ _⟩)
  exact ⟨.ref h'.objs.size,_,I2,rfl,q _ (I1.hok.fresh (yg _))⟩
 ·obtain ⟨its,r',pl,hz⟩:=I.tuple hq
  exact call_tuple_same pl ⟨.ref p,H,I,rfl,q⟩
def tyV (K:PySem.W.Frag) (T:String) (x:V) (H:Hp):Prop:=match x with
 | .str _=>T="str"
 | .int _=>T="int"
 | .ref p=>(T="list" /\∃xs,SqL K H p xs)\/(T="tuple" /\∃o,K.lookup p=some o/\o.cls= .type "tuple" /\o.dict=none)\/
   (T="dict" /\((∃kvs,H p=some (.dK kvs))\/∃kvs,H p=some (.dT kvs)))\/(T="set" /\∃S n,H p=some (.set S n))
 |_=>False
theorem tyV_is {pins:List (Addr×Obj)} {σ:St} {H:Hp} {s:Shared} {T:String} {x:V} {v:Value} (I:Inv X pins σ H s) (r:RelV x v) (ty:tyV X.K T x H):
  s.TypeIs v T/\∀a,v= .ref a->∃ob,s.heap.get? a=some ob/\ob.dict=none:=by
 cases x with
 |str z=>
  obtain ⟨t,rfl⟩:=r
  cases (show T="str" from ty)
  exact ⟨typeIs_str s z t,λ_ e=>nomatch e⟩
 |int i=>
  obtain ⟨t,rfl⟩:=r
  cases (show T="int" from ty)
  exact ⟨typeIs_int s i t,λ_ e=>nomatch e⟩
 |ref p=>
  cases r
  rcases ty with ⟨rfl,xs,hq⟩|⟨rfl,o,hk,hc,hd⟩|⟨rfl,hk⟩|⟨rfl,S,n,hk⟩
  ·obtain ⟨its,_,pl,_⟩:=I.list hq
   refine ⟨pl.isList.typeIs,λa e=>?_⟩
   cases e
   obtain ⟨o,n,e,c,hd,_⟩:=pl
   exact ⟨o,e,hd⟩
  ·refine ⟨⟨o,I.kIn p o hk,hc⟩,λa e=>?_⟩
   cases e
   exact ⟨o,I.kIn _ o hk,hd⟩
  ·have z:∃o,s.heap.get? p=some o/\o.ExactDict:=by
    rcases hk with ⟨kvs,hk⟩|⟨kvs,hk⟩
    ·obtain ⟨_,_,_,_,o,_,_,e,ex,_⟩:=I.hok p _ hk
     exact ⟨o,e,ex⟩
    ·obtain ⟨_,_,_,_,o,_,_,e,ex,_⟩:=I.hok p _ hk
     exact ⟨o,e,ex⟩
   obtain ⟨o,e,ex⟩:=z
   refine ⟨⟨o,e,ex.1⟩,λa e2=>?_⟩
   cases e2
   exact ⟨o,e,ex.2.1⟩
  ·obtain ⟨o,_,_,_,e,ex,_⟩:=I.hok p _ hk
   refine ⟨⟨o,e,ex.1⟩,λa e2=>?_⟩
   cases e2
   exact ⟨o,e,ex.2.1⟩
 |_=>exact False.elim ty
def tBM (K:PySem.W.Frag) (T:String) (r:V->List V->Hp->VK->Prop) (to:TE) (t:TA):TE:=λσ H Q=>to σ H λx H1=>tyV K T x H1/\t σ H1 λxs H2=>r x xs H2 Q
variable {o e:Expr} {es:List Expr} {to:TE} {t:TA} {name:Str} {apos cpos:Pos} {T id:String} {r:V->List V->Hp->VK->Prop}
theorem pe_bm (pa:PlainAttrs T) (slot:Slot T name id) (hty:typeOf (.builtin id)=pure (.type "method_descriptor")) (hm:MtR X id r) (ho:PE X o to) (ha:PA X (e::es) t)
  (hbase:attributeBase o name X.env (eval o X.env)=eval o X.env:=by rfl)
  (hfew:((backTo cpos (starEach (e::es) X.env)).all (λx=>!x.1)&&(backToKw cpos (keywordEach [] X.env)).all (λx=>x.1.isSome)
   &&decide ((e::es).length+([]:List Keyword).length+(if ([]:List Keyword).isEmpty then 0 else 1) < 30))=true:=by rfl)
  (hline:(apos.endLine==cpos.line)=true:=by rfl) (hs:starEach (e::es) X.env=(false,eval e X.env)::starEach es X.env:=by rfl) (hplain:(backTo cpos (starEach es X.env)).any (·.1)=false:=by rfl):
  PE X (.Call (.Attribute o name apos) (e::es) [] cpos) (tBM X.K T r to t):=by
 intro pins s σ H Q I h
 refine wpAny_Call_method_late hbase hfew hline rfl (thn (ho pins s σ H _ I h) λv s1 zq=>?_)
 obtain ⟨x,H1,I1,r1,ty,q1⟩:=zq
 obtain ⟨h1,h2⟩:=tyV_is I1 r1 ty
 refine ⟨T,id,pa,slot,hty,h1,h2,?_⟩
 have hA:=ha cpos pins s1 σ H1 _ I1 q1
 rw [hs] at hA⊢
 refine Calls.callWith_builtin (by show (false||(backTo cpos (starEach es X.env)).any (·.1))=false;rw [hplain] <;> rfl) (Calls.evalArgs_plain ?_)
 exact thn hA λus s2 ⟨vs,H2,I2,r2,q2⟩=>hm pins s2 σ H2 x vs v us Q I2 r1 r2 q2
end
end L2
namespace L2
open PySem PySem.Spec PyProof.Rows
def MtM (X:Cx) (id:String) (r:V->List V->Hp->VK->Prop):Prop:=
 ∀(pins:List (Addr×Obj)) (s:Shared) (σ:St) (H:Hp) (x:V) (xs:List V) (v:Value) (us:List Value) (Q:VK),Inv X pins σ H s->RelV x v->Vals xs us->r x xs H Q->
  wpAny (model X.prog X.w) X.A (call (.builtin id) (v::us)) (EP X pins σ Q) X.xe s
theorem Vals.one:∀{x:V} {us:List Value},Vals [x] us->∃u,us= [u]/\RelV x u
 |_,_,.cons r .nil=>⟨_,rfl,r⟩
section
variable {X:Cx} {pins:List (Addr×Obj)} {σ:St} {H:Hp} {s:Shared} {l b:Addr} {xs ys zs:List V}
theorem Inv.lset {its its':List Value} {n:Nat} {f:Array Value->Array Value} {t':Nat} (I:Inv X pins σ H s) (hH:H l=some (.lst xs))
  (e:s.heap.get? l=some {cls:=.type "list",data:=.seq its.toArray n}) (hf:f its.toArray=its'.toArray) (hv:Vals ys its') (hz:ys.length<=sizeLine):
  Inv X pins σ (upd H l (.lst ys)) {s with heap:=s.heap.update l (Obj.mapSeq f),toks:=t'}:=by
 have q:=PySem.IsL.update e f
 rw [hf] at q
 refine I.write (x:=l) (e:=l) (by rw [hH];exact trivial) (.inl rfl) (λb' u hb hu=>(yaz s.heap (Obj.mapSeq f) (yk hb)).trans hu) ⟨_,q⟩ ?_
 exact ⟨hz,its',_,hv,q⟩
theorem Inv.lnew {its:List Value} {t':Nat} (I:Inv X pins σ H s) (hv:Vals ys its) (hz:ys.length<=sizeLine):
  Inv X pins σ (upd H s.heap.objs.size (.lst ys)) {s with heap:=s.heap.push {cls:=.type "list",data:=.seq its.toArray},toks:=t'}:=
 I.laid (λ_ _ q=>yi _ q) (yg _) ⟨hz,its,0,hv,yo _ rfl⟩
theorem Inv.fresh (I:Inv X pins σ H s):H s.heap.objs.size=none:=I.hok.fresh (yg _)
theorem Inv.lstM (I:Inv X pins σ H s) (hH:H l=some (.lst xs)):xs.length<=sizeLine/\∃(its:List Value) (n:Nat),Vals xs its/\xs.length=its.length/\s.heap.get? l=some {cls:=.type "list",data:=.seq its.toArray n}:=by
 obtain ⟨z,its,n,r,e⟩:=I.hok l _ hH
 exact ⟨z,its,n,r,r.length,e⟩
end
section
variable {X:Cx}
def Ycv:V->List V->Hp->VK->Prop:=λx vs H Q=>∃l xs y,x= .ref l/\vs= [y]/\H l=some (.lst xs)/\xs.length < sizeLine/\Q .non (upd H l (.lst (xs++ [y])))
theorem Jtt:MtM X "list.append" Ycv:=by
 intro pins s σ H x vs v us Q I rx rv h
 obtain ⟨l,xs,y,rfl,rfl,hH,hz,q⟩:=h
 cases rx
 obtain ⟨u,rfl,ru⟩:=rv.one
 obtain ⟨z,its,n,r,hl,e⟩:=I.lstM hH
 refine call_meets F.slot_list_append ⟨_,e,rfl⟩ F.entry_list_append (F.args_list_append_2 _ _) (PySem.list_append l its.toArray n u (by rw [yt];omega)) ⟨e,?_⟩
 refine ⟨.non,_,I.lset (its':=its++ [u]) hH e (by simp) (r.append (.cons ru .nil)) ?_,rfl,q⟩
 rw [yay,List.length_singleton]
 omega
def rCat:R2:=λx y H Q=>∃l b xs zs,x= .ref l/\y= .ref b/\H l=some (.lst xs)/\H b=some (.lst zs)/\xs.length+zs.length<=sizeLine/\∀p,H p=none->Q (.ref p) (upd H p (.lst (xs++zs)))
theorem Js8:OpR X (binaryOp .Add) rCat:=by
 intro pins s σ H x y v u Q I rx ry h
 obtain ⟨l,b,xs,zs,rfl,rfl,hH,hB,hz,q⟩:=h
 cases rx
 cases ry
 obtain ⟨z,its,n,r,hl,e⟩:=I.lstM hH
 obtain ⟨z2,its2,n2,r2,hl2,e2⟩:=I.lstM hB
 refine PySem.P.add_list e e2 ?_ (by rw [yt,yt];omega)
 have ea:its.toArray++its2.toArray=(its++its2).toArray:=by simp
 rw [ea]
 exact ⟨.ref _,_,I.lnew (t':=s.toks) (r.append r2) (by rw [yay];omega),rfl,q _ I.fresh⟩
end
section
variable {prog:Program} {w:World} {A:Around} {E:Value->Shared->Prop} {s:Shared}
end
section
variable {X:Cx}
end
end L2
namespace L2
open PySem PySem.Spec PyProof.Rows
section
variable {κ:Type} [DecidableEq κ]
def Jom (kvs:List (κ×V)) (k:κ):Option V:=(kvs.find? λkv=>decide (kv.1=k)).map (·.2)
theorem Jss {p:κ×V} {r:List (κ×V)} {k:κ} (e:p.1=k):Jom (p::r) k=some p.2:=by simp [Jom,ycd,e]
theorem Jsr {p:κ×V} {r:List (κ×V)} {k:κ} (e:¬p.1=k):Jom (p::r) k=Jom r k:=by simp [Jom,ycd,e]
theorem RelO.isSome_eq {o:Option V} {u:Option Value} (r:RelO o u):o.isSome=u.isSome:=by
 cases o with
 |none=>cases u with
  |none=>rfl
  |some _=>exact (show False from r).elim
 |some _=>cases u with
  |none=>exact (show False from r).elim
  |some _=>rfl
theorem RelO.getD {o:Option V} {u:Option Value} {d:V} {d':Value} (r:RelO o u) (rd:RelV d d'):RelV (o.getD d) (u.getD d'):=by
 cases o with
 |none=>cases u with
  |none=>exact rd
  |some _=>exact (show False from r).elim
 |some _=>cases u with
  |none=>exact (show False from r).elim
  |some _=>exact r
theorem KV.val {kvs:List (κ×V)} {vs:List (κ×Value)} (r:KV kvs vs) (k:κ):RelO (Jom kvs k) (valueAt vs k):=by
 unfold KV at r
 induction r with
 |nil=>exact True.intro
 | @cons p q ps qs h t ih=>
  obtain ⟨h1,h2⟩:=h
  by_cases e:p.1=k
  ·have e':q.1=k:=h1.symm.trans e
   have b:valueAt (q::qs) k=some q.2:=by simp [valueAt,ycd,e']
   rw [Jss e,b];exact h2
  ·have e':¬q.1=k:=λz=>e (h1.trans z)
   have b:valueAt (q::qs) k=valueAt qs k:=by simp [valueAt,ycd,e']
   rw [Jsr e,b];exact ih
theorem KV.length {kvs:List (κ×V)} {vs:List (κ×Value)} (r:KV kvs vs):kvs.length=vs.length:=Paired.length r
end
theorem Jvy {P:Program} {w:World} {k:Key} {u:Value} (r:RelV (kV k) u):(Jjm P w).is k u=true:=by
 cases k with
 |inl i=>obtain ⟨t,e⟩:=(show ∃t,u=Value.int i t from r);subst e;exact Jnp P w i t
 |inr x=>obtain ⟨t,e⟩:=(show ∃t,u=Value.str x t from r);subst e;exact Jnq P w x t
theorem Jtp {P:Program} {w:World}:∀{ks:List Key} {us:List Value},Vals (ks.map kV) us->ItemsAre (Jjm P w) ks us
 | [],_,r=>by rw [List.map_nil] at r;cases r;exact .nil
 |k::ks,_,r=>by
  rw [ybb] at r
  cases r with
  |cons h t=>exact .cons (Jvy h) (Jtp t)
abbrev KT (H:Hp):List (List Key×V)->List (List Key×Addr×Value)->Prop:=Paired λp q=>p.1=q.1/\H q.2.1=some (.tup (p.1.map kV))/\RelV p.2 q.2.2
theorem KT.val {H:Hp} {kvs:List (List Key×V)} {xs:List (List Key×Addr×Value)} (r:KT H kvs xs) (k:List Key):RelO (Jom kvs k) ((atKey xs k).map (·.2)):=by
 induction r with
 |nil=>exact True.intro
 | @cons p q ps qs h t ih=>
  obtain ⟨h1,_,h2⟩:=h
  by_cases e:p.1=k
  ·have e':q.1=k:=h1.symm.trans e
   have b:atKey (q::qs) k=some q.2:=by simp [atKey,ycd,e']
   rw [Jss e,b];exact h2
  ·have e':¬q.1=k:=λz=>e (h1.trans z)
   have b:atKey (q::qs) k=atKey qs k:=by simp [atKey,ycd,e']
   rw [Jsr e,b];exact ih
section
variable {P:Program} {w:World} {H:Hp} {h:Heap} {a:Addr}
theorem rd_of {u:HO} (ok:HOk P w H h) (e:Rd H a u):ObjOk P w H h a u:=e.ok ok
theorem Jvt {kvs:List (Key×V)} (ok:HOk P w H h) (e:Rd H a (.dK kvs)):kvs.length<=sizeLine/\(a==sysModules)=false/\∃vs,KV kvs vs/\h.DictOf (Jjm P w) a vs:=
 show ObjOk P w H h a (.dK kvs) from rd_of ok e
theorem Jx7 {ks:List Key} (ok:HOk P w H h) (e:H a=some (.tup (ks.map kV))):(tupleKind (Jjm P w)).is h ks a:=by
 obtain ⟨_,its,r,o,h1,h2,n,h3⟩:=(show ObjOk P w H h a (.tup (ks.map kV)) from ok a _ e)
 exact ⟨o,its.toArray,n,h1,h2,h3,by simpa using Jtp r⟩
theorem Yy {kvs:List (List Key×V)} (ok:HOk P w H h) (e:Rd H a (.dT kvs)):kvs.length<=sizeLine/\(a==sysModules)=false/\
  ∃xs,KT H kvs xs/\h.DictOfH (tupleKind (Jjm P w)) a xs:=by
 obtain ⟨z,y,xs,r,o,es,ep,h1,h2,h3,h4,h5⟩:=(show ObjOk P w H h a (.dT kvs) from rd_of ok e)
 refine ⟨z,y,xs,r,o,es,ep,h1,h2,h3,h4,λx hx=>?_,h5⟩
 have all:∀{l:List (List Key×V)} {m:List (List Key×Addr×Value)},KT H l m->∀x∈m,(tupleKind (Jjm P w)).is h x.1 x.2.1:=by
  intro l m q
  induction q with
  |nil=>intro x hx;exact nomatch hx
  | @cons p q ps qs hq t ih=>
   intro x hx
   rcases ym.mp hx with e|hx
   ·subst e
    exact Jx7 ok (by rw [<-hq.1];exact hq.2.1)
   ·exact ih x hx
 exact all r x hx
end
def DGet (H:Hp) (a:Addr) (y:V) (r:Option V):Prop:=
 (∃kvs k,Rd H a (.dK kvs)/\y=kV k/\r=Jom kvs k)\/∃kvs k b,Rd H a (.dT kvs)/\y= .ref b/\H b=some (.tup (k.map kV))/\r=Jom kvs k
section
variable {X:Cx} {pins:List (Addr×Obj)} {σ:St} {H:Hp} {s:Shared} {a:Addr} {y v:V} {u r:Value} {o:Option V} {A:Around} {E:Value->Shared->Prop}
theorem Inv.big (I:Inv X pins σ H s):sysModules < s.heap.objs.size:=by
 have h:mainGlobals < s.heap.objs.size:=(I.mod.glob.keeps I.bk).lt
 exact ybr (by decide) h
theorem Yc9 {Q:Value->Shared->Prop} (hu:A.units+1 < cLine) (I:Inv X pins σ H s) (g:DGet H a y o) (ry:RelV y u) (h:∀s',Inv X pins σ H s'->Q (.bool (!o.isSome)) s'):
  wpAny (model X.prog X.w) A (compareOp .NotIn u (.ref a)) Q E s:=by
 rcases g with ⟨kvs,k,e,ey,l⟩|⟨kvs,k,b,e,ey,eb,l⟩
 ·subst ey
  obtain ⟨z,hd,vs,rel,dd⟩:=Jvt I.hok e
  refine wpAny_notIn_of (Jvy ry) hd dd.mapOf ?_
  rw [<-(rel.val k).isSome_eq,<-l]
  exact h _ (I.tok _)
 ·subst ey
  cases (show u=Value.ref b from ry)
  obtain ⟨z,hd,xs,rel,dd⟩:=Yy I.hok e
  refine wpAny_notIn_heap (tupleKind_room_in1 hu) (Jx7 I.hok eb) hd dd ?_
  have q:=(rel.val k).isSome_eq
  rw [Option.isSome_map] at q
  rw [<-q,<-l]
  exact h _ (I.tok _)
theorem dk_new {P:Program} {w:World} {H':Hp} {h':Heap} {kvs:List (Key×V)} {vs:List (Key×Value)} (z:kvs.length<=sizeLine) (hd:(a==sysModules)=false) (rel:KV kvs vs) (dd:h'.DictOf (Jjm P w) a vs):
  ObjOk P w H' h' a (.dK kvs):=⟨z,hd,vs,rel,dd⟩
end
section
variable {X:Cx} {pins:List (Addr×Obj)} {σ:St} {H:Hp} {s:Shared} {a:Addr} {kvs:List (Key×V)} {k:Key} {u:Value} {A:Around} {E:Value->Shared->Prop}
end
def NoSl (i:Expr):Prop:=∀ov iv,subscripted i false ov iv=operate [ov,iv] (getItem ov iv)
theorem Ydi {prog:Program} {w:World} {A:Around} {E:Value->Shared->Prop} {s:Shared} {env:Env} {value slice:Expr} {pos:Pos} {T id:String} {Q:Value->Shared->Prop}
  (hl:typeLookup (.type T) "__getitem__" =pure (some (.builtin id))) (hs:NoSl slice)
  (h:wpAny (model prog w) A (eval value env) (λo s₁=>wpAny (model prog w) A (eval slice env) (λi s₂=>s₂.TypeIs o T/\wpAny (model prog w) A (getItem o i) Q E s₂) E s₁) E s):
  wpAny (model prog w) A (eval (.Subscript value slice pos) env) Q E s:=by
 refine Subscript_ (wpAny_mono h (λo s₁ h₁=>wpAny_mono h₁ (λi s₂ h₂=>?_) λ_ _ x=>x) λ_ _ x=>x)
 obtain ⟨hT,h₂⟩:=h₂
 unfold subscriptTail
 refine wpAny_bind ?_
 rw [getitemInPython_of_ne hT.not_modules]
 refine wpAny_bind (wpAny_specialOf hT hl ?_)
 have fin:wpAny (model prog w) A (subscripted slice false o i) (λr s₃=>wpAny (model prog w) A (letTemporaryGo value o r >>=λ_=>pure r) Q E s₃) E s₂:=by
  rw [hs o i]
  exact wpAny_operating (wpAny_mono h₂ (λr s₃ h₃=>wpAny_bind (wpAny_letTemporaryGo (wpAny_pure h₃))) λ_ _ x=>x)
 first
  |exact wpAny_pure (wpAny_bind fin)
  |exact wpAny_bind (wpAny_pure (wpAny_bind fin))
  |exact wpAny_bind fin
section
variable {X:Cx} {o i e value:Expr} {pos pos' tpos:Pos} {td ty tv:TE}
end
theorem Yw {P:Program} {w:World} {H:Hp} (h:Heap) (hb:sysModules < h.objs.size):ObjOk P w H (h.push {cls:=.type "dict",data:=.dict #[]}) h.objs.size (.dK []):=
 ⟨yal _,beq_eq_false_iff_ne.mpr (yk (yq hb)),[],.nil,Heap.DictOf.new h⟩
def tDNewK:TE:=λ_ H Q=>∀p,H p=none->Q (.ref p) (upd H p (.dK []))
section
variable {X:Cx} {pos:Pos}
theorem Jwd:PE X (.Dict [] [] pos) tDNewK:=λpins s σ H Q I h=>
 wpAny_Dict_empty ⟨.ref s.heap.objs.size,_,I.laid (a:=s.heap.objs.size) (o:=.dK []) (t':=s.toks) (λ_ _ q=>yi _ q) (yg _) (Yw s.heap I.big),rfl,h _ (I.hok.fresh (yg _))⟩
end
structure M1 (X:Cx) (o:Expr) (m:Str) (apos:Pos) (e:Expr) (cpos:Pos):Prop where
 base:attributeBase o m X.env (eval o X.env)=eval o X.env
 few:((backTo cpos (starEach [e] X.env)).all (λx=>!x.1)&&(backToKw cpos (keywordEach [] X.env)).all (λx=>x.1.isSome)
  &&decide (([e]:List Expr).length+([]:List Keyword).length+(if ([]:List Keyword).isEmpty then 0 else 1) < 30))=true
 line:(apos.endLine==cpos.line)=true
 trees:backTo cpos (starEach [e] X.env)= [(false,eval e X.env)]
structure M2 (X:Cx) (o:Expr) (m:Str) (apos:Pos) (e f:Expr) (cpos:Pos):Prop where
 base:attributeBase o m X.env (eval o X.env)=eval o X.env
 few:((backTo cpos (starEach [e,f] X.env)).all (λx=>!x.1)&&(backToKw cpos (keywordEach [] X.env)).all (λx=>x.1.isSome)
  &&decide (([e,f]:List Expr).length+([]:List Keyword).length+(if ([]:List Keyword).isEmpty then 0 else 1) < 30))=true
 line:(apos.endLine==cpos.line)=true
 trees:backTo cpos (starEach [e,f] X.env)= [(false,eval e X.env),(false,eval f X.env)]
def IsD (H:Hp) (a:Addr):Prop:=(∃kvs,Rd H a (.dK kvs))\/∃kvs,Rd H a (.dT kvs)
theorem Jx6 {X:Cx} {pins:List (Addr×Obj)} {σ:St} {H:Hp} {s:Shared} {a:Addr} (I:Inv X pins σ H s) (d:IsD H a):
  s.TypeIs (.ref a) "dict" /\(∀b,Value.ref a= .ref b->∃ob,s.heap.get? b=some ob/\ob.dict=none)/\(a==sysModules)=false:=by
 rcases d with ⟨kvs,e⟩|⟨kvs,e⟩
 ·obtain ⟨_,hd,vs,_,dd⟩:=Jvt I.hok e
  refine ⟨dd.typeIs,λb q=>?_,hd⟩
  cases q
  obtain ⟨ob,_,_,h1,h2,_⟩:=dd
  exact ⟨ob,h1,h2.2.1⟩
 ·obtain ⟨_,hd,xs,_,dd⟩:=Yy I.hok e
  refine ⟨dd.typeIs,λb q=>?_,hd⟩
  cases q
  obtain ⟨ob,_,_,h1,h2,_⟩:=dd
  exact ⟨ob,h1,h2.2.1⟩
section
variable {X:Cx} {pins:List (Addr×Obj)} {σ:St} {H:Hp} {s:Shared} {a:Addr} {y d:V} {u r:Value} {o:Option V} {A:Around} {E:Value->Shared->Prop}
theorem d_get1 {Q:Value->Shared->Prop} (hu:A.units+1 < cLine) (I:Inv X pins σ H s) (g:DGet H a y o) (ry:RelV y u) (h:∀w' s',Inv X pins σ H s'->RelV (o.getD .non) w'->Q w' s'):
  wpAny (model X.prog X.w) A (call (.builtin "dict.get") [.ref a,u]) Q E s:=by
 rcases g with ⟨kvs,k,e,ey,l⟩|⟨kvs,k,b,e,ey,eb,l⟩
 ·subst ey
  obtain ⟨z,hd,vs,rel,dd⟩:=Jvt I.hok e
  refine call_meetsIn PySem.F.slot_dict_get dd.typeIs PySem.F.entry_dict_get (PySem.F.args_dict_get_2 _ _) (meets_dict_get (Jjm X.prog X.w) a (Jvy ry) hd) ⟨_,dd.mapOf,h _ _ (I.tok _) ?_⟩
  rw [l]
  exact (rel.val k).getD rfl
 ·subst ey
  cases (show u=Value.ref b from ry)
  obtain ⟨z,hd,xs,rel,dd⟩:=Yy I.hok e
  refine call_meetsIn PySem.F.slot_dict_get dd.typeIs PySem.F.entry_dict_get (PySem.F.args_dict_get_2 _ _) (meetsH_dict_get (tupleKind (Jjm X.prog X.w)) a b hd) ⟨tupleKind_room_in1 hu,k,xs,Jx7 I.hok eb,dd,h _ _ (I.tok _) ?_⟩
  rw [l]
  exact (rel.val k).getD rfl
end
def Ybo (td ty:TE):TE:=λσ H Q=>td σ H λx H1=>∃a,x= .ref a/\IsD H1 a/\ty σ H1 λy H2=>∃o,DGet H2 a y o/\Q (o.getD .non) H2
section
variable {X:Cx} {o e f:Expr} {apos cpos:Pos} {td ty tx:TE}
theorem Yal (hu:X.A.units+1 < cLine) (ho:PE X o td) (he:PE X e ty) (m:M1 X o "get" apos e cpos):PE X (.Call (.Attribute o "get" apos) [e] [] cpos) (Ybo td ty):=by
 intro pins s σ H Q I h
 refine wpAny_Call_method m.base m.few m.line PySem.F.plainAttrs_dict PySem.F.slot_dict_get PySem.F.type_dict_get (thn (ho pins s σ H _ I h) λu s1 zq=>?_)
 obtain ⟨x,H1,I1,rx,a,ex,d,q1⟩:=zq
 subst ex
 obtain rfl:u=Value.ref a:=rx
 obtain ⟨t1,t2,_⟩:=Jx6 I1 d
 refine ⟨t1,t2,?_⟩
 rw [m.trees]
 refine Calls.callWith_builtin rfl (Calls.evalArgs_plain (Calls.spliced_cons (thn (he pins s1 σ H1 _ I1 q1) λiv s2 ⟨y,H2,I2,ry,ov,g,q2⟩=>Calls.spliced_nil ?_)))
 exact d_get1 hu I2 g ry λw' s3 I3 rw'=>⟨_,H2,I3,rw',q2⟩
end
section
variable {X:Cx} {pins:List (Addr×Obj)} {σ:St} {H:Hp} {s:Shared} {a:Addr} {kvs:List (Key×V)} {A:Around} {E:Value->Shared->Prop}
end
section
variable {X:Cx} {pins:List (Addr×Obj)} {σ:St} {H:Hp} {s:Shared} {a:Addr} {y:V} {u:Value} {A:Around} {E:Value->Shared->Prop}
end
end L2
namespace Att
open PySem PySem.W PySem.Calls PyProof.Rows
theorem Jr4 {P:Params} {h:Heap}:∀(ns:List Int) (vs:List Value),WellAll P h vs (ns.map WData.int)->IntsAre vs ns:=by
 intro ns
 induction ns with
 |nil=>
  intro vs w
  rw [List.map_nil] at w
  cases w
  exact .nil
 |cons n ns ih=>
  intro vs w
  rw [ybb] at w
  cases w with
  |cons a b=>
   cases a
   exact .cons _ _ (ih _ b)
theorem Jzz {l:OpenLaw} {n:Nat} (hn:l.most=some n) {P:Params} {h:Heap} {args:List WData} {vals:List Value}
  (hpre:l.row.toRowW.claim.pre args=true) (hwl:WellAll P h vals args):
  ∃a vs ns,vals= [Value.ref a]/\args= [WData.list (ns.map WData.int)]/\h.get? a=some {cls:=.type "list",data:=.seq vs.toArray}/\IntsAre vs ns/\ns.length<=n:=by
 have hsh:WShape.hasAll [] args [.list .int]=true:=(pre_splitW hpre).1
 have hc:l.pre.holds [] {args:=args}=true:=(pre_splitW hpre).2
 obtain ⟨d,r,rfl,h1,h2⟩:=hasAllW_cons hsh
 obtain rfl:=hasAllW_nil h2
 obtain ⟨xs,rfl,h3⟩:=hasW_list h1
 obtain ⟨ns,rfl⟩:=items_int h3
 have hlen:ns.length<=n:=by
  unfold OpenLaw.pre at hc
  have h4:(WTm.not (.lt (.lit (.int (n:Int))) (.len (.arg 0)))).holds [] {args:=[.list (ns.map .int)]}=true:=by
   have h4:=(holds_andW hc).1
   rw [hn] at h4
   exact h4
  have h5:=condW_of h4 (w_not (w_lt w_lit (w_len_list (w_arg rfl))))
  rw [yf] at h5
  refine Nat.le_of_not_lt λq=>?_
  have q':(n:Int) < ((ns.length:Nat):Int):=by omega
  first
   | (rw [decide_eq_true q'] at h5; exact absurd h5 (by decide))
   | (simp at h5; omega)
 cases hwl with
 |cons w1 w2=>
  cases w2
  cases w1 with
  |list ho hall=>exact ⟨_,_,ns,rfl,rfl,ho,Jr4 ns _ hall,hlen⟩
theorem Jzw (l:OpenLaw) (args:List WData):l.row.toRowW.claim.post args (.bool true) args=true:=
 postW_of (r:=l.row.toRowW) (X:=(true==true))
  (show WShape.has [] (.bool true) .bool=true by first|rfl|decide|simp [WShape.has,WShape.arms,WShape.armsAll])
  (show (WTm.eq .res (.lit (.bool true))).value [] {args:=args,res:=some (.bool true),after:=args}=some (.bool (true==true)) from w_eq_bool (w_res rfl) w_lit) rfl
theorem attach_call {l:OpenLaw} {n:Nat} {q:Program} {loose:List Str} {XP:(Str->Option Value)->Heap->Prop} {YP:World->Heap->Prop} {d:DefRec}
  (hn:l.most=some n) (hdf:d.params.defaults= [])
  (call:∀(w:World) (s₀ s₁:Shared) (mg mb:Str->Option Value) (fa:Addr) (o:Obj) (pm cd doc:Value) (a:Addr) (vs:List Value) (ns:List Int),
   Ground q loose [] XP w s₀ mg mb s₁.heap->YP w s₁.heap->
   s₁.heap.get? fa=some o->o.data= .func (docDef d.name d.params d.body d.scope pm cd doc)->s₁.heap.CodeRec cd d.name->mg d.name=some (.ref fa)->
   s₁.heap.get? a=some {cls:=.type "list",data:=.seq vs.toArray}->IntsAre vs ns->ns.length<=n->s₁.gens= #[]->
   codeAny (model l.prog w) callerA (.call (.ref fa) ⟨[.ref a],[]⟩) (λr s'=>r= .ok (.ret (.bool true))/\OldK s₁.heap s'.heap/\s'.os=s₁.os/\AllBare s'.gens) s₁):
  WalkO q loose XP YP l.row.toRowW d [] (λf vs=>PySem.call f vs):=by
 intro w s₀ s₁ mg mb G Y fa o pm cd doc dV kV ho hd hcd hD hmg hg args vals as hpre hlay hrd hwl hlo
 obtain rfl:dV= .none:=Dflts.none hD hdf
 obtain rfl:kV= .none:=Dflts.noKw hD
 obtain ⟨a,vs,ns,rfl,rfl,hobj,hints,hlen⟩:=Jzz hn hpre hwl
 refine enter_call (codeAny_mono (call w s₀ s₁ mg mb fa o pm cd doc a vs ns G Y ho (fd_plain hd) hcd hmg hobj hints hlen hg) λr s' hq=>?_)
 obtain ⟨rfl,h2,h3,h4⟩:=hq
 exact ⟨.inl ⟨.bool true,.bool true,[],rfl,λ_=>rfl,.bool true,Jzw l _,λ_=>⟨yby.nil,λ_ hm=>(nomatch hm)⟩⟩,h2,h3,h4⟩
section
variable {prog:Program} {w:World} {A:Around} {E:Value->Shared->Prop} {s:Shared} {K:Frag}
end
end Att
namespace L2
open PySem PySem.Spec PyProof.Rows
theorem Ju9:∀{vs:List Value} {ns:List Int},IntsAre vs ns->Vals (ns.map V.int) vs
 |_,_,.nil=>.nil
 |_,_,.cons n t h=>.cons ⟨t,rfl⟩ (Ju9 h)
end L2
namespace L2
open PySem PySem.Spec PyProof.Rows
abbrev KOf {K:PySem.W.Frag} {h:Heap} (_:K.In h):PySem.W.Frag:=K
end L2
namespace L2
open PySem PySem.Spec PyProof.Rows
def Jjr (s:Stmt) (j:Nat):Stmt:=match s with
 | .ClassDef _ _ _ body _ _ _ _ _ _ _=>body.getD j (.Pass ⟨0,0,0,0⟩)
 |_=>.Pass ⟨0,0,0,0⟩
def Jkj (s:Stmt):Arguments:=match s with
 | .FunctionDef _ a _ _ _ _ _ _ _ _=>a
 |_=>{posonlyargs:=[],args:=[],vararg:=none,kwonlyargs:=[],kw_defaults:=[],kwarg:=none,defaults:=[]}
def Jkb (s:Stmt):List Stmt:=match s with
 | .FunctionDef _ _ b _ _ _ _ _ _ _=>b
 |_=>[]
def Jje (s:Stmt):Scope:=match s with
 | .FunctionDef _ _ _ _ _ _ sc _ _ _=>sc
 |_=>{kind:=.function,names:=[],isGenerator:=false,isCoroutine:=false}
abbrev CX0:CXT:=λ_ _ _ _ _ _=>False
abbrev E0:XK:=λ_ _ _=>False
theorem Jmm {X:Cx}:Jq6 CX0 X E0:=λ_ _ _ _ _ _ _ h=>h.elim
structure Fun (K:PySem.W.Frag) (x qual:Str) (st:Stmt) (f:Addr) (fd:FuncData):Prop where
 ex:∃(oc:Value) (od:Option Addr) (kV doc pm:Value) (an:Option Addr) (cdv ct:Value) (osl:Array (Option Value)),
  fd=PySem.W.fnOf x qual (Jkj st) (Jkb st) (Jje st) .none kV doc pm an cdv ct/\K.lookup f=some ⟨oc,od,.func fd,osl⟩/\PySem.W.codeIn K cdv qual=true
 kp:PySem.W.keepIn K (.ref f)=true
section
variable {P:Program} {w:World} {K:PySem.W.Frag} {mg:Str->Option Value} {base:Heap}
theorem Fun.ok {x qual:Str} {st:Stmt} {f:Addr} {fd:FuncData} {N ps:List Str} {k:Nat} {sp:Sp} (F:Fun K x qual st f fd) (S:Jjj N ps (Jje st)) (len:∀vs H Q E,sp vs H Q E->vs.length=ps.length)
  (hbody:∀(cdv:Value) (A:Around) (outer:List Env) (s:Shared) (H:Hp) (vs:List V) (Q:VK) (E:XK),Room k (A.deeper (envOfC qual (Jje st) s.heap.objs.size f cdv))->sp vs H Q E->
   ∃t,PSs (Juo CX0 P w K mg base N qual (Jje st) f cdv A outer s H E).nox (Jkb st) t/\t {nx:=λ_ H'=>Q .non H',rt:=Q} (start N vs) H):FnOk P w K mg base CX0 (k+1) f fd ps sp:=by
 obtain ⟨oc,od,kV,doc,pm,an,cdv,ct,osl,rfl,lk,hcd⟩:=F.ex
 refine fn_of lk hcd S len λA outer s H vs Q E hr hsp=>?_
 obtain ⟨t,h,q⟩:=hbody cdv A outer s H vs Q E hr hsp
 exact ⟨t,h.nox,q⟩
theorem Fun.binds {x qual:Str} {st:Stmt} {f:Addr} {fd:FuncData} {ps:List Str} (F:Fun K x qual st f fd)
  (h:∀(kV doc pm:Value) (an:Option Addr) (cdv ct:Value) (us:List Value),us.length=ps.length->bindArgs (PySem.W.fnOf x qual (Jkj st) (Jkb st) (Jje st) .none kV doc pm an cdv ct) ⟨us,[]⟩=pure (ps.zip us)):Binds K fd ps []:=by
 obtain ⟨oc,od,kV,doc,pm,an,cdv,ct,osl,rfl,lk,hcd⟩:=F.ex
 exact .all (h kV doc pm an cdv ct)
theorem Juq {x qual:Str} {st:Stmt} {f:Addr} {oc:Value} {od an:Option Addr} {osl:Array (Option Value)} {kV doc pm cdv ct:Value} (l:K.lookup f=some ⟨oc,od,.func (PySem.W.fnOf x qual (Jkj st) (Jkb st) (Jje st) .none kV doc pm an cdv ct),osl⟩)
  (c:PySem.W.codeIn K cdv qual=true) (k:PySem.W.keepIn K (.ref f)=true):Fun K x qual st f (PySem.W.fnOf x qual (Jkj st) (Jkb st) (Jje st) .none kV doc pm an cdv ct):=⟨⟨oc,od,kV,doc,pm,an,cdv,ct,osl,rfl,l,c⟩,k⟩
end
section
variable {X:Cx}
theorem pv (i:Nat) {x:Str} {pos:Pos} (hN:X.N[i]?=some x:=by rfl) (hv:Vis X.env.scope x:=by first|exact ye rfl|exact yad (ye rfl)|exact yad (yad rfl)) (hd:(x==("__debug__" :Str))=false:=by decide)
  (hcd:(x==("__classdict__" :Str))=false:=by decide):PE X (.Name x pos) (tVar i):=Yao hN hv hd hcd
end
theorem Jkp {A B:Prop} (h:B):if false=true then A else B:=by
 rw [if_neg yw]
 exact h
theorem Jl4 {A B:Prop} (h:A):if true=true then A else B:=by
 rw [if_pos rfl]
 exact h
theorem Jog {c A B:Prop} [Decidable c] (h1:c->A) (h2:¬c->B):if c then A else B:=by
 by_cases h:c
 ·rw [if_pos h]
  exact h1 h
 ·rw [if_neg h]
  exact h2 h
def Same (H H':Hp):Prop:=∀b o,H b=some o->H' b=some o
theorem Same.refl (H:Hp):Same H H:=λ_ _ h=>h
theorem Same.trans {H H1 H2:Hp} (a:Same H H1) (b:Same H1 H2):Same H H2:=λc o h=>b c o (a c o h)
theorem Same.seq {K:PySem.W.Frag} {H H':Hp} {a:Addr} {xs:List V} (e:Same H H') (h:SqL K H a xs):SqL K H' a xs:=by
 rcases h with (h|⟨o,h⟩)|h
 ·exact .inl (.inl (e _ _ h))
 ·exact .inl (.inr ⟨o,e _ _ h⟩)
 ·exact .inr h
section
variable {κ:Type} [DecidableEq κ]
end
end L2
set_option Elab.async false
set_option linter.all false
set_option maxRecDepth 100000
set_option maxHeartbeats 4000000
namespace L2
open PySem PySem.Spec PyProof.Rows
def Jlh (cells:List (Str×Addr)):List (Str×NameKind)->List (Str×Addr)->List (Str×Addr)
 | [],acc=>acc
 | (n,k) :: r,acc=>if (k == NameKind.free) = true then (match cells.lookup n with | some c=>Jlh cells r ((n,c) :: acc) | none=>Jlh cells r acc) else Jlh cells r acc
theorem Jmb {cells:List (Str×Addr)}:∀(ns:List (Str×NameKind)) (acc:List (Str×Addr)),(∀x c,acc.lookup x=some c->cells.lookup x=some c)->∀x c,(Jlh cells ns acc).lookup x=some c->cells.lookup x=some c
 | [],_,h,x,c,e=>h x c e
 | (n,k) :: r,acc,h,x,c,e=>by
  unfold Jlh at e
  by_cases hk:(k==NameKind.free)=true
  ·rw [if_pos hk] at e
   cases hc:cells.lookup n with
   |none=>rw [hc] at e;exact Jmb r acc h x c e
   |some d=>
    rw [hc] at e
    refine Jmb r ((n,d)::acc) (λy b q=>?_) x c e
    rw [yaw] at q
    by_cases hy:(y==n)=true
    ·rw [hy] at q
     have hy':y=n:=beq_iff_eq.mp hy
     rw [hy',hc]
     exact q
    ·have hy':(y==n)=false:=by simpa using hy
     rw [hy'] at q
     exact h y b q
  ·rw [if_neg hk] at e
   exact Jmb r acc h x c e
theorem Jn7 {cells:List (Str×Addr)}:∀(ns:List (Str×NameKind)) (acc:List (Str×Addr)) (x:Str),(acc.lookup x).isSome=true->((Jlh cells ns acc).lookup x).isSome=true
 | [],_,_,h=>h
 | (n,k) :: r,acc,x,h=>by
  unfold Jlh
  by_cases hk:(k==NameKind.free)=true
  ·rw [if_pos hk]
   cases hc:cells.lookup n with
   |none=>exact Jn7 r acc x h
   |some d=>
    refine Jn7 r ((n,d)::acc) x ?_
    rw [yaw]
    cases hy:x==n with
    |true=>rfl
    |false=>exact h
  ·rw [if_neg hk]
   exact Jn7 r acc x h
theorem Jlr {cells:List (Str×Addr)} {x:Str}:∀(ns:List (Str×NameKind)) (acc:List (Str×Addr)),(x,NameKind.free)∈ns->(∃c,cells.lookup x=some c)->((Jlh cells ns acc).lookup x).isSome=true
 | [],_,h,_=>by simp at h
 | (n,k) :: r,acc,h,hc=>by
  unfold Jlh
  rcases ym.mp h with e|e
  ·cases e
   obtain ⟨c,hc⟩:=hc
   rw [if_pos (by decide),hc]
   exact Jn7 r _ x (by rw [yaw,beq_self_eq_true];rfl)
  ·by_cases hk:(k==NameKind.free)=true
   ·rw [if_pos hk]
    cases hd:cells.lookup n with
    |none=>exact Jlr r acc e hc
    |some d=>exact Jlr r _ e hc
   ·rw [if_neg hk]
    exact Jlr r acc e hc
theorem Joq {sc:Scope} {env:Env} (h:∀y∈sc.names,y.2= .free->∃c,env.cells.lookup y.1=some c):closureFor sc env=pure (Jlh env.cells sc.names []):=by
 have key:∀(ns:List (Str×NameKind)) (acc:List (Str×Addr)),(∀y∈ns,y.2= .free->∃c,env.cells.lookup y.1=some c)->
   (forIn ns acc λ(x:Str×NameKind) (r:List (Str×Addr))=>if (x.2==NameKind.free)=true then (cellOf env x.1 >>=λc=>pure (ForInStep.yield ((x.1,c)::r)):Sem _) else pure (ForInStep.yield r))=(pure (Jlh env.cells ns acc):Sem _):=by
  intro ns
  induction ns with
  |nil=>intro acc _;rfl
  |cons y r ih=>
   intro acc hy
   obtain ⟨n,k⟩:=y
   rw [yce]
   unfold Jlh
   by_cases hk:(k==NameKind.free)=true
   ·have hk':k= .free:=by simpa using hk
    obtain ⟨c,hc⟩:=hy (n,k) yaq hk'
    have hc':env.cells.lookup n=some c:=hc
    simp only [hk,if_true]
    have e1:cellOf env n=pure c:=by unfold cellOf;rw [hc']
    rw [e1,hc']
    exact ih _ λz hz=>hy z (yak _ hz)
   ·simp only [hk,if_false]
    exact ih _ λz hz=>hy z (yak _ hz)
 have k0:=key sc.names [] h
 unfold closureFor
 first
  |exact k0
  | (refine Eq.trans ?_ (congrArg (λm : Sem (List (Str × Addr))=>m >>= λr=>pure r) k0); rfl)
def blk (X:Cx) (sc:Scope) (N:List Str) (C:Addr) (s:Shared) (H:Hp) (fp:List Addr) (pn:List (Addr×Obj)):Cx:=
 {X with N:=N,s₀:=s,H₀:=H,env:=compEnvC sc (Jlh X.env.cells sc.names []) C X.env,outer:=X.stack,ex:=fp,fn:=λ_=>false,pn:=pn,xe:=λ_ _=>False}
def Jza (ini:List (Option Nat)) (σ:St):St:=ini.map λo=>match o with|none=>none|some j=>(σ[j]?).join
def scB (sc:Scope):Bool:=decide (sc.kind= .function)&&sc.names.all (λy=>decide (y.2≠ .cell))&&sc.names.all (λy=>!decide (y.2= .local)||decide (sc.names.lookup y.1=some .local))
def frB (outer:List (Str×NameKind)) (sc:Scope):Bool:=sc.names.all λy=>!decide (y.2= .free)||(decide (outer.lookup y.1=some .cell)||decide (outer.lookup y.1=some .free))
def iniB (No N:List Str) (ini:List (Option Nat)) (outer:List (Str×NameKind)) (sc:Scope):Bool:=
 (N.zip ini).all λy=>match y.2 with|none=>true|some j=>decide (No[j]?=some y.1)&&decide (sc.names.lookup y.1=some .free)&&(decide (outer.lookup y.1=some .cell)||decide (outer.lookup y.1=some .free))
def PIf (X:Cx) (ifs:List Expr) (t:TT):Prop:=
 ∀(pins:List (Addr×Obj)) (s:Shared) (σ:St) (H:Hp) (Q:Bool->Hp->Prop),Inv X pins σ H s->t σ H Q->
  wpAny (model X.prog X.w) X.A (forIn ifs true λc r=>if r=true then do let ok<-isTrue c X.env (eval c X.env);pure (ForInStep.yield ok) else pure (ForInStep.yield r)) (TP X pins σ Q) X.xe s
def Y5:TT:=λ_ H Q=>Q true H
theorem Jk0 {X:Cx}:PIf X [] Y5:=λ_ _ _ H _ I h=>wpAny_tests_nil ⟨H,I,h⟩
theorem Jnd {X:Cx} {c:Expr} {t:TT} (h:PT X c t):PIf X [c] t:=λpins s σ H Q I q=>wpAny_tests_one (h pins s σ H Q I q)
def Ybn (wi:TI) (ini:List (Option Nat)) (g:TG) (tt:TT) (te:TE):TE:=λσ H Q=>wi σ H λJ H1=>∀D,H1 D=none->∃W:Nat->Nat->St->Hp->Prop,(∃m,W 0 m (Jza ini σ) (upd H1 D (.lst [])))/\
 ∀i m σ' H',W i m σ' H'->(J.stop i H'/\Q (.ref D) H')\/(J.go i H'/\∃N:St->Hp->Prop,(∀σ2 H2,N σ2 H2->∃m',m' < m/\W (i+1) m' σ2 H2)/\
  ∀x H2,J.yld i H' x H2->g x σ' H2 λσ3 H3=>tt σ3 H3 λb H4=>if b=true then te σ3 H4 (λv H5=>∃ys,H5 D=some (.lst ys)/\ys.length < sizeLine/\N σ3 (upd H5 D (.lst (ys++ [v])))) else N σ3 H4)
section
variable {prog:Program} {w:World} {A:Around} {R:Result->Shared->Prop} {s:Shared}
theorem Jun {elt target iter:Expr} {ifs:List Expr} {scope:Scope} {pos:Pos} {it acc:Value} {env:Env} (I:Nat->Shared->Prop)
  (turn:∀n s,I n s->wpAny (model prog w) A (pyNext it) (λr s1=>match r with
   |none=>R (.ok .next) s1
   |some v=>wpAny (model prog w) A (letOwnedTupleGo target it v) (λ_ s1'=>wpAny (model prog w) A (assign target env v) (λ_ s2=>
     wpAny (model prog w) A (forIn ifs true λc r=>if r=true then do let ok<-isTrue c env (eval c env);pure (ForInStep.yield ok) else pure (ForInStep.yield r)) (λok s3=>
      if ok=true then wpAny (model prog w) A (eval elt env) (λx s4=>
       wpAny (model prog w) A (call (.builtin "list.append") [acc,x]) (λ_ s5=>∃m,m < n/\I m s5) (λ_ _=>False) s4) (λ_ _=>False) s3
      else ∃m,m < n/\I m s3) (λ_ _=>False) s2) (λ_ _=>False) s1') (λ_ _=>False) s1) (λ_ _=>False) s)
  (n:Nat) (h:I n s):codeAny (model prog w) A (.compLoop (.ListComp elt [⟨target,iter,ifs,0⟩] scope pos) 0 it acc env) R s:=by
 refine codeAny_loop rfl I (λn s hI=>?_) n h
 show wpAny _ A ((compTurn (.ListComp elt [⟨target,iter,ifs,0⟩] scope pos) 0 it acc env).onRaise (λx=>do noteFrame x env;theTreesLotGoes x)) _ _ s
 refine wpAny_noted (wpAny_noRaise ?_)
 rw [compTurn_list]
 refine wpAny_bind (wpAny_standAt (wpAny_bind (wpAny_mono (turn n s hI) (λr s1 h1=>?_) λ_ _ h'=>h')))
 cases r with
 |none=>exact wpAny_pure h1
 |some v=>
  refine wpAny_bind (wpAny_mono h1 (λ_ s1' h1'=>?_) λ_ _ h'=>h')
  refine wpAny_bind (wpAny_mono h1' (λ_ s2 h2=>wpAny_bind (wpAny_mono h2 (λok s3 h3=>?_) λ_ _ h'=>h')) λ_ _ h'=>h')
  cases ok with
  |false=>exact wpAny_pure ⟨rfl,h3⟩
  |true=>
   exact wpAny_bind (wpAny_bind (wpAny_mono h3 (λx s4 h4=>wpAny_bind (wpAny_mono h4 (λ_ s5 h5=>wpAny_pure (wpAny_pure ⟨rfl,h5⟩)) λ_ _ h'=>h')) λ_ _ h'=>h'))
end
section
variable {X:Cx} {pins:List (Addr×Obj)} {σ:St} {H:Hp} {s:Shared}
theorem blk_ok {sc:Scope} {N:List Str} {C:Addr} {fp:List Addr} {pn:List (Addr×Obj)} (I:Inv X pins σ H s) (hk:sc.kind= .function) (hcell:∀y∈sc.names,y.2≠ .cell)
  (hfr:∀y∈sc.names,y.2= .free->X.env.kindOf y.1=some .cell\/X.env.kindOf y.1=some .free) (hC:C=s.heap.objs.size) (hf:∀b∈fp,Jq5 X pins H b/\b < s.heap.objs.size):(blk X sc N C s H fp pn).Ok:=by
 have hin:∀x c,(Jlh X.env.cells sc.names []).lookup x=some c->X.env.cells.lookup x=some c:=Jmb sc.names [] (λx c e=>by simp at e)
 refine ⟨I.ok.mod,hk,I.ok.glob,I.ok.blt,ybw hC.symm,λx y c h1 h2=>I.ok.inj x y c (hin _ _ h1) (hin _ _ h2),λx hx=>?_,λx c h _=>(by cases h),I.ok.hd,I.ok.frames,.inl rfl,λb hb=>?_,I.bs,yz I.ok.bsz I.sz,λb o e hb=>?_,λb hb z=>?_,I.stack,I.stkFree⟩
 ·have hx':(relabel sc X.env).names.lookup x=some .cell\/(relabel sc X.env).names.lookup x=some .free:=hx
  have hm:(x,NameKind.free)∈sc.names:=by
   have:∀k,(relabel sc X.env).names.lookup x=some k->(k= .cell\/k= .free)->(x,NameKind.free)∈sc.names:=λk e hkk=>by
    have m:=PySem.mem_of_lookup e
    obtain ⟨⟨n',k'⟩,m1,m2⟩:=ybd.mp m
    dsimp only at m2
    by_cases hc:(k'==NameKind.free&&X.env.scope.kind== .function&&X.env.kindOf n'==some .cell)=true
    ·rw [if_pos hc] at m2
     have e1:n'=x:=congrArg Prod.fst m2
     have e2:k'=NameKind.free:=by simp at hc;exact hc.1.1
     rw [<-e1,<-e2]
     exact m1
    ·rw [if_neg hc] at m2
     have e1:n'=x:=congrArg Prod.fst m2
     have e2:k'=k:=congrArg Prod.snd m2
     rcases hkk with z|z
     ·exact absurd (e2.trans z) (hcell _ m1)
     ·rw [<-e1,<-z,<-e2];exact m1
   rcases hx' with e|e
   ·exact this _ e (.inl rfl)
   ·exact this _ e (.inr rfl)
  have hh:=Jlr (cells:=X.env.cells) sc.names [] hm (I.ok.has x (hfr _ hm rfl))
  exact ycc.mp hh
 ·obtain ⟨⟨f0,f1,f2,f3,f4,f5⟩,lt⟩:=hf b hb
  exact ⟨λz=>yq lt (z.trans hC),λx c e=>f4 x c (hin _ _ e)⟩
 ·obtain ⟨⟨f0,f1,f2,f3,f4,f5⟩,lt⟩:=hf b hb
  rcases f3 with z|z
  ·exact I.ok.noex b o e z
  ·exact absurd (yah (yj (I.ok.bs b o e).1) z) (yba _)
 ·obtain ⟨⟨f0,f1,f2,f3,f4,f5⟩,lt⟩:=hf b hb
  rcases ym.mp (I.stkSub b z) with e|e
  ·exact f1 e
  ·exact f2 e
theorem Yc7 {sc:Scope} {N:List Str} {ini:List (Option Nat)} {fp:List Addr} {h1:Heap} {t':Nat} (I:Inv X pins σ H s) (hk:sc.kind= .function) (hcell:∀y∈sc.names,y.2≠ .cell)
  (hfr:∀y∈sc.names,y.2= .free->X.env.kindOf y.1=some .cell\/X.env.kindOf y.1=some .free) (hf:∀b∈fp,Jq5 X pins H b/\b < s.heap.objs.size) (hlen:N.length=ini.length)
  (hini:∀(i:Nat) (x:Str) (j:Nat),N[i]?=some x->ini[i]?=some (some j)->X.N[j]?=some x/\sc.names.lookup x=some .free/\(X.env.kindOf x=some .cell\/X.env.kindOf x=some .free))
  (hn:h1.Ns s.heap.objs.size (λ_=>none)) (kp:∀b o,s.heap.get? b=some o->h1.get? b=some o):
  Inv (blk X sc N s.heap.objs.size s H fp (X.pn++pins)) [] (Jza ini σ) H {s with heap:=h1,toks:=t'}:=by
 have hin:∀x c,(Jlh X.env.cells sc.names []).lookup x=some c->X.env.cells.lookup x=some c:=Jmb sc.names [] (λx c e=>by simp at e)
 refine ⟨blk_ok I hk hcell hfr rfl hf,rfl,I.bare,Un.kept kp,⟨_,hn,λi x v e1 e2 e3=>?_⟩,λx c e=>?_,I.hok.fresh (yg _),λx c e=>(I.freeC x c (hin _ _ e)).imp id λz=>⟨rfl,z.2⟩,λp hp=>?_,I.hok.kept kp,?_⟩
 ·have e1':N[i]?=some x:=e1
  have e2':(Jza ini σ)[i]?=some (some v):=e2
  unfold Jza at e2'
  rw [yp] at e2'
  cases hi:ini[i]? with
  |none=>rw [hi] at e2';cases e2'
  |some o=>
   rw [hi] at e2'
   cases o with
   |none=>cases e2'
   |some j=>
    have e4:(σ[j]?).join=some v:=yy.inj e2'
    have e5:σ[j]?=some (some v):=by
     cases q:σ[j]? with
     |none=>rw [q] at e4;cases e4
     |some z=>rw [q] at e4;exact congrArg some e4
    obtain ⟨a1,a2,a3⟩:=hini i x j e1' hi
    obtain ⟨m,hm,hl⟩:=I.loc
    have hvis:Vis X.env.scope x:=by
     rcases a3 with z|z
     ·exact .inr (.inl z)
     ·exact .inr (.inr z)
    obtain ⟨u,r,l⟩:=hl j x v a1 e5 hvis
    refine ⟨u,r,.inr ⟨?_,?_⟩⟩
    ·have hm2:=PySem.mem_of_lookup a2
     have e3':Vis (relabel sc X.env) x:=e3
     rcases e3' with z|z|z
     ·exfalso
      have m1:=PySem.mem_of_lookup z
      obtain ⟨⟨n',k'⟩,m2,m3⟩:=ybd.mp m1
      dsimp only at m3
      have key:∀{ns:List (Str×NameKind)},ns.lookup x=some .free->(ns.map λ(n,k)=>if (k==NameKind.free&&X.env.scope.kind== .function&&X.env.kindOf n==some .cell) then (n,NameKind.cell) else (n,k)).lookup x≠some .local:=by
       intro ns
       induction ns with
       |nil=>intro q;simp at q
       |cons y r ih=>
        obtain ⟨n,k⟩:=y
        intro q
        rw [yaw] at q
        rw [ybb]
        dsimp only
        cases hx:x==n with
        |true=>
         rw [hx] at q
         have q':k= .free:=yy.inj q
         subst q'
         split
         ·rw [yaw,hx];intro z;cases z
         ·rw [yaw,hx];intro z;cases z
        |false=>
         rw [hx] at q
         split
         ·rw [yaw,hx];exact ih q
         ·rw [yaw,hx];exact ih q
      exact key a2 z
     ·exact .inl z
     ·exact .inr z
    ·rcases l with ⟨k1,_⟩|⟨_,c,hc,hcl⟩
     ·exfalso
      rcases a3 with z|z
      ·rw [z] at k1;cases k1
      ·rw [z] at k1;cases k1
     ·have hh:=Jlr (cells:=X.env.cells) sc.names [] (PySem.mem_of_lookup a2) ⟨c,hc⟩
      obtain ⟨c',hc'⟩:=ycc.mp hh
      have:c'=c:=by
       have q:=hin _ _ hc'
       rw [hc] at q
       exact (yy.inj q).symm
      subst this
      obtain ⟨oc,hoc,hod⟩:=hcl
      exact ⟨c',hc',oc,kp _ _ hoc,hod⟩
 ·obtain ⟨v,oc,hoc,hod⟩:=I.cell x c (hin _ _ e)
  exact ⟨v,oc,kp _ _ hoc,hod⟩
 ·have hp':p∈X.pn++pins:=by simpa [blk] using hp
  obtain ⟨e,n,ne,nf,d⟩:=I.pin p hp'
  refine ⟨kp _ _ e,n,yq (yj e),λz=>?_,d⟩
  rcases ym.mp (I.stkSub p.1 z) with q|q
  ·exact ne q
  ·exact nf q
 ·unfold Jza
  show (ini.map _).length=N.length
  rw [yf]
  exact hlen.symm
end
end L2
namespace L2
open PySem PySem.Spec PyProof.Rows
section
variable {X:Cx} {elt iter tg:Expr} {ifs:List Expr} {sc:Scope} {pos:Pos} {N:List Str} {ini:List (Option Nat)} {wi:TI} {g:TG} {tt:TT} {te:TE}
theorem Jtj {pins:List (Addr×Obj)} {σ:St} {H:Hp} {s:Shared} {Q:VK} {use:Option (Value->Sem Unit)} {Q':Value->Shared->Prop} {p:Pos} (hc:X.calm=true) (hi:PI X tg iter wi)
  (hsc:scB sc=true) (hfr:frB X.env.scope.names sc=true) (hlen:N.length=ini.length) (hini:iniB X.N N ini X.env.scope.names sc=true)
  (hg:∀C s H fp pn,PG (blk X sc N C s H fp pn) tg g) (ht:∀C s H fp pn,PIf (blk X sc N C s H fp pn) ifs tt) (he:∀C s H fp pn,PE (blk X sc N C s H fp pn) elt te)
  (hs:∀x,foldedSetIterable iter X.env x=pure x) (I:Inv X pins σ H s) (h:Ybn wi ini g tt te σ H Q)
  (hfin:∀(D:Addr) (H':Hp) (s':Shared) (C:Addr) (m:Str->Option Value),Inv X pins σ H' s'->Jq5 X pins H' C->s'.heap.Ns C m->Q (.ref D) H'->compPost (model X.prog X.w) X.A X.xe use Q' (.ref D) C (.ok .next) s'):
  wpAny (model X.prog X.w) X.A (comprehension (.ListComp elt [⟨tg,iter,ifs,0⟩] sc pos) sc X.env p (newList []) false (eval iter X.env) use) Q' X.xe s:=by
 have hsc':=hsc
 unfold scB at hsc'
 rw [yac,yac] at hsc'
 obtain ⟨⟨hk0,hcell0⟩,hnames0⟩:=hsc'
 have hk:sc.kind= .function:=of_decide_eq_true hk0
 have hcell:∀y∈sc.names,y.2≠ .cell:=λy hy=>of_decide_eq_true (yar.mp hcell0 y hy)
 have hnames:∀y∈sc.names,y.2= .local->sc.names.lookup y.1=some .local:=λy hy hl=>by
  have q:=yar.mp hnames0 y hy
  rw [decide_eq_true hl] at q
  exact of_decide_eq_true (by simpa using q)
 have hfrP:∀y∈sc.names,y.2= .free->X.env.kindOf y.1=some .cell\/X.env.kindOf y.1=some .free:=λy hy hl=>by
  have q:=yar.mp hfr y hy
  rw [decide_eq_true hl] at q
  have q2:decide (X.env.scope.names.lookup y.1=some .cell)=true\/decide (X.env.scope.names.lookup y.1=some .free)=true:=by simpa using q
  rcases q2 with z|z
  ·exact .inl (of_decide_eq_true z)
  ·exact .inr (of_decide_eq_true z)
 have hiniP:∀(i:Nat) (x:Str) (j:Nat),N[i]?=some x->ini[i]?=some (some j)->X.N[j]?=some x/\sc.names.lookup x=some .free/\(X.env.kindOf x=some .cell\/X.env.kindOf x=some .free):=λi x j e1 e2=>by
  have hm:(x,some j)∈N.zip ini:=by
   refine yae (i:=i) ?_
   rw [ycr]
   exact ⟨e1,e2⟩
  have q:=yar.mp hini _ hm
  dsimp only at q
  rw [yac,yac,Bool.or_eq_true] at q
  obtain ⟨⟨q1,q2⟩,q3⟩:=q
  refine ⟨of_decide_eq_true q1,of_decide_eq_true q2,?_⟩
  rcases q3 with z|z
  ·exact .inl (of_decide_eq_true z)
  ·exact .inr (of_decide_eq_true z)
 refine wpAny_comprehension_free (use:=use) rfl hs (Joq λy hy hl=>I.ok.has y.1 (hfrP y hy hl)) hk hnames ?_
 refine thn (hi pins s σ H _ I h) λv s1 h1=>thn h1 λitv s2 h2=>?_
 obtain ⟨it,fp,tn,J,H2,e,I2,T,st2,f2,step⟩:=h2
 subst e
 refine wpAny_newObj_type (wpAny_newFunctionEnv hcell (by intro y hy;simp at hy) (λh1 hns1 hsb1=>?_) hk)
 dsimp only at hns1 hsb1⊢
 have hD:H2 s2.heap.objs.size=none:=I2.hok.fresh (yg _)
 have kp3:∀b o,s2.heap.get? b=some o->(s2.heap.push {cls:=.type "list",dict:=none,data:=.seq ([]:List Value).toArray}).get? b=some o:=λb o e=>yi _ e
 have I3:Inv X pins σ (upd H2 s2.heap.objs.size (.lst [])) {s2 with heap:=s2.heap.push {cls:=.type "list",dict:=none,data:=.seq ([]:List Value).toArray}}:=
  I2.laid (t':=s2.toks) kp3 (yg _) ⟨yal _,[],0,.nil,yo _ rfl⟩
 obtain ⟨W,⟨m0,w0⟩,turn⟩:=step s2.heap.objs.size hD
 generalize hs3:({s2 with heap:=s2.heap.push {cls:=.type "list",dict:=none,data:=.seq ([]:List Value).toArray}}:Shared)=s3 at I3
 have e3h:s3.heap=s2.heap.push {cls:=.type "list",dict:=none,data:=.seq ([]:List Value).toArray}:=by rw [<-hs3]
 rw [<-e3h] at hns1 hsb1 kp3⊢
 have sz3:s2.heap.objs.size < s3.heap.objs.size:=by rw [e3h,yaa];exact ybq _
 have hf3:∀b∈fp,Jq5 X pins (upd H2 s2.heap.objs.size (.lst [])) b/\b < s3.heap.objs.size:=λb hb=>by
  obtain ⟨o,eo,_⟩:=T.obj 0 _ st2 b hb
  have lt:=yj eo
  obtain ⟨f0,fr⟩:=f2 b hb
  exact ⟨⟨by rw [Jjg (yq lt)];exact f0,fr⟩,ybr lt sz3⟩
 have kp4:∀b o,s3.heap.get? b=some o->h1.get? b=some o:=λb o e=>(hsb1.2 b (yq (yj e))).trans (yi _ e)
 have I4:Inv (blk X sc N s3.heap.objs.size s3 (upd H2 s2.heap.objs.size (.lst [])) fp (X.pn++pins)) [] (Jza ini σ) (upd H2 s2.heap.objs.size (.lst [])) {s3 with heap:=h1,toks:=s3.toks+([]:List (Str×Value)).length}:=
  Yc7 I3 hk hcell hfrP hf3 hlen hiniP hns1 kp4
 have st4:tn 0 h1:=T.keep 0 _ _ st2 λb hb o e=>kp4 b o (kp3 b o e)
 have e4s:({s2 with heap:=h1,toks:=s2.toks+([]:List (Str×Value)).length}:Shared)={s3 with heap:=h1,toks:=s3.toks+([]:List (Str×Value)).length}:=by rw [<-hs3]
 have stat:∀{H':Hp},(∀b∈fp,H' b=none)->∀b∈fp,Jq5 (blk X sc N s3.heap.objs.size s3 (upd H2 s2.heap.objs.size (.lst [])) fp (X.pn++pins)) [] H' b:=λ{H'} hn b hb=>by
  obtain ⟨⟨f0,f1,f2',f3,f4,f5⟩,lt⟩:=hf3 b hb
  refine ⟨hn b hb,yq lt,λz=>?_,.inl hb,λx c e=>f4 x c (Jmb sc.names [] (λx c e=>by simp at e) x c e),λp hp=>f5 p (by simpa [blk] using hp)⟩
  rcases ym.mp (I3.stkSub b z) with q|q
  ·exact f1 q
  ·exact f2' q
 have loop:∀s4:Shared,s4={s3 with heap:=h1,toks:=s3.toks+([]:List (Str×Value)).length}->codeAny (model X.prog X.w) X.A (.compLoop (.ListComp elt [⟨tg,iter,ifs,0⟩] sc pos) 0 (.ref it) (.ref s2.heap.objs.size) (compEnvC sc (Jlh X.env.cells sc.names []) s3.heap.objs.size X.env))
   (compPost (model X.prog X.w) X.A X.xe use Q' (.ref s2.heap.objs.size) s3.heap.objs.size) s4:=by
  rintro s4 rfl
  refine Jun (λn s'=>∃i σ' H',Inv (blk X sc N s3.heap.objs.size s3 (upd H2 s2.heap.objs.size (.lst [])) fp (X.pn++pins)) [] σ' H' s'/\tn i s'.heap/\(∀b∈fp,H' b=none)/\W i n σ' H') ?_ m0
   ⟨0,_,_,I4,st4,λb hb=>(hf3 b hb).1.1,w0⟩
  rintro n s5 ⟨i,σ5,H5,I5,st5,fr5,w5⟩
  rcases turn i n σ5 H5 w5 with ⟨stop,q⟩|⟨go,N',hN',step'⟩
  ·refine thn (T.done (blk X sc N s3.heap.objs.size s3 (upd H2 s2.heap.objs.size (.lst [])) fp (X.pn++pins)) rfl rfl rfl hc i [] s5 σ5 H5 _ I5 (stat fr5) st5 stop) λr s6 ⟨hr,I6⟩=>?_
   subst hr
   have un:Un (frs X.stack) fp H2 H5 s2.heap s6.heap:=(Un.laid (fs:=frs X.stack) (ex:=fp) kp3 (yg _) hD).trans I6.base
   have os6:s6.os=s2.os:=I6.os.trans (show s3.os=s2.os by rw [<-hs3])
   have IX:Inv X pins σ H5 s6:=I2.call' (ch:=fp) os6 un I6.hok I6.bare λb hb=>by
    obtain ⟨⟨f0,f1,f2',f3,f4,f5⟩,lt⟩:=hf3 b hb
    exact ⟨f3,f1,f4,f5⟩
   obtain ⟨m,hm,_⟩:=I6.loc
   exact hfin _ H5 s6 s3.heap.objs.size m IX (I2.fpOk (yap sz3) I6.free) hm q
  ·refine thn (T.item (blk X sc N s3.heap.objs.size s3 (upd H2 s2.heap.objs.size (.lst [])) fp (X.pn++pins)) rfl rfl rfl hc i [] s5 σ5 H5 _ I5 (stat fr5) st5 go) λr s6 ⟨u,hr,h6⟩=>?_
   subst hr
   refine thn h6 λ_ s7 zq=>?_
   obtain ⟨x,H7,I7,r7,y7,st7,fr7⟩:=zq
   have I7':=I7.pinned (stat fr7) (T.obj _ _ st7)
   refine thn (hg _ _ _ _ _ _ s7 σ5 H7 x u _ I7' r7 (step' x H7 y7)) λ_ s8 zq=>?_
   obtain ⟨σ8,H8,I8,q8⟩:=zq
   refine thn (ht _ _ _ _ _ _ s8 σ8 H8 _ I8 q8) λok s9 zq=>?_
   obtain ⟨H9,I9,q9⟩:=zq
   have again:∀{σ':St} {H':Hp} {s':Shared},Inv (blk X sc N s3.heap.objs.size s3 (upd H2 s2.heap.objs.size (.lst [])) fp (X.pn++pins)) ([]++Jsd fp s7.heap) σ' H' s'->N' σ' H'->
     ∃m,m < n/\∃i σ' H',Inv (blk X sc N s3.heap.objs.size s3 (upd H2 s2.heap.objs.size (.lst [])) fp (X.pn++pins)) [] σ' H' s'/\tn i s'.heap/\(∀b∈fp,H' b=none)/\W i m σ' H':=λ{σ' H' s'} J n'=>by
    obtain ⟨m',hm,w'⟩:=hN' σ' H' n'
    refine ⟨m',hm,i+1,σ',H',J.unpinned,T.keep _ _ _ st7 λb hb o e=>(J.pin (b,o) (ybh _ (ybh _ (Jnb hb e)))).1,λb hb=>?_,w'⟩
    obtain ⟨o,e,d⟩:=T.obj _ _ st7 b hb
    exact (J.pin (b,o) (ybh _ (ybh _ (Jnb hb e)))).2.1
   cases ok with
   |false=>
    rw [if_neg yw] at q9⊢
    exact again I9 q9
   |true=>
    rw [if_pos rfl] at q9⊢
    refine thn (he _ _ _ _ _ _ s9 σ8 H9 _ I9 q9) λv10 s10 zq=>?_
    obtain ⟨x10,H10,I10,r10,ys,hys,hyl,q10⟩:=zq
    refine thn (Jtt _ s10 σ8 H10 (.ref s2.heap.objs.size) [x10] _ [v10] (λ_ H'=>N' σ8 H') I10 rfl (.cons r10 .nil) ⟨_,ys,x10,rfl,rfl,hys,hyl,q10⟩) λ_ s11 zq=>?_
    obtain ⟨_,H11,I11,_,q11⟩:=zq
    exact again I11 q11
 have fin:=codeAny_compStart_list (R:=compPost (model X.prog X.w) X.A X.xe use Q' (.ref s2.heap.objs.size) s3.heap.objs.size) (loop _ rfl) (T.self X.A 0 {s3 with heap:=h1,toks:=s3.toks+([]:List (Str×Value)).length} _ _ st4 (loop _ rfl))
 rw [<-e4s] at fin
 exact fin
theorem Jk3 (hc:X.calm=true) (hi:PI X tg iter wi) (hg:∀C s H fp pn,PG (blk X sc N C s H fp pn) tg g) (ht:∀C s H fp pn,PIf (blk X sc N C s H fp pn) ifs tt) (he:∀C s H fp pn,PE (blk X sc N C s H fp pn) elt te)
  (hsc:scB sc=true:=by rfl) (hfr:frB X.env.scope.names sc=true:=by rfl) (hlen:N.length=ini.length:=by rfl) (hini:iniB X.N N ini X.env.scope.names sc=true:=by rfl)
  (hs:∀x,foldedSetIterable iter X.env x=pure x:=by intro _;rfl):PE X (.ListComp elt [⟨tg,iter,ifs,0⟩] sc pos) (Ybn wi ini g tt te):=by
 intro pins s σ H Q I h
 rw [eval_ListComp]
 refine Jtj (use:=none) hc hi hsc hfr hlen hini hg ht he hs I h λD H' s' C m I' f hn q=>?_
 obtain ⟨f0,f1,f2,f3,f4,f5⟩:=f
 exact ⟨m,hn,λh' sb=>⟨.ref D,H',I'.turned (it:=C) (t':=s'.toks) (λb o hb e=>(sb.2 b hb).trans e) f0 f1 f3 f4 f5,rfl,q⟩⟩
def tSetC (i:Nat) (te:TE):TS:=λD σ H=>te σ H λv H1=>D.nx (σ.set i (some v)) H1
theorem Jm6 {i:Nat} {y:Str} {py spos:Pos} (hN:X.N.Nodup) (hiy:X.N[i]?=some y) (hx:Loc X.env.scope y) (hc:X.calm=true) (hi:PI X tg iter wi) (hg:∀C s H fp pn,PG (blk X sc N C s H fp pn) tg g) (ht:∀C s H fp pn,PIf (blk X sc N C s H fp pn) ifs tt) (he:∀C s H fp pn,PE (blk X sc N C s H fp pn) elt te)
  (hf:X.fn y=true\/X.env.scope.names.lookup y=some .local:=by first|exact .inl rfl|exact .inr rfl|assumption)
  (hsw:swapsWith (.ListComp elt [⟨tg,iter,ifs,0⟩] sc pos) (some (.Name y py)) spos.line X.env=pure true:=by rfl)
  (hsc:scB sc=true:=by rfl) (hfr:frB X.env.scope.names sc=true:=by rfl) (hlen:N.length=ini.length:=by rfl) (hini:iniB X.N N ini X.env.scope.names sc=true:=by rfl)
  (hs:∀x,foldedSetIterable iter X.env x=pure x:=by intro _;rfl):PS X (.Assign [.Name y py] (.ListComp elt [⟨tg,iter,ifs,0⟩] sc pos) spos) (tSetC i (Ybn wi ini g tt te)):=by
 intro pins s σ H D I h
 rw [exec_Assign_Name_used _ _ _ _ hsw]
 refine wpAny_bind (wpAny_standAt (wpAny_bind ?_))
 show wpAny _ X.A (do let _<-comprehension (.ListComp elt [⟨tg,iter,ifs,0⟩] sc pos) sc X.env _ (newList []) false (eval iter X.env) (some (assign (.Name y py) X.env))) _ _ s
 refine wpAny_bind (wpAny_mono (Jtj (use:=some (assign (.Name y py) X.env)) (Q':=λ_ s'=>SP X pins D .next s') hc hi hsc hfr hlen hini hg ht he hs I h λD' H' s' C m I' f hn q=>?_) (λ_ s' hq=>wpAny_pure (wpAny_pure hq)) λ_ _ e=>e)
 obtain ⟨f0,f1,f2,f3,f4,f5⟩:=f
 show wpAny _ X.A (assign (.Name y py) X.env (.ref D')) _ _ _
 refine wpAny_assign_Name (Ju7 I' hN hiy hx (v:=.ref D') rfl (λs'' I'' sb=>?_) hf)
 obtain ⟨a,sb,ha⟩:=sb
 have hCa:C≠a:=by
  rcases ha with z|z
  ·rw [z];exact f1
  ·exact λe=>f4 y a z e.symm
 refine ⟨m,hn.sameBut sb hCa,λh' sb'=>⟨_,H',I''.turned (it:=C) (t':=s''.toks) (λb o hb e=>(sb'.2 b hb).trans e) f0 f1 f3 f4 f5,q⟩⟩
end
section
variable {g:TG} {tt:TT} {te:TE} {H:Hp} {D:Addr} {σ:St} {R:Hp->Prop}
theorem Jld {lo:Int} {n:Nat} (Pv:Nat->St->Hp->Prop) (h0:Pv 0 σ H)
  (hs:∀i σ H,i < n->Pv i σ H->g (.int (lo+i)) σ H λσ3 H3=>tt σ3 H3 λb H4=>if b=true then te σ3 H4 (λv H5=>∃ys,H5 D=some (.lst ys)/\ys.length < sizeLine/\Pv (i+1) σ3 (upd H5 D (.lst (ys++ [v])))) else Pv (i+1) σ3 H4)
  (hd:∀σ H,Pv n σ H->R H):
  ∃W:Nat->Nat->St->Hp->Prop,(∃m,W 0 m σ H)/\∀i m σ' H',W i m σ' H'->((Itr lo n).stop i H'/\R H')\/((Itr lo n).go i H'/\∃N:St->Hp->Prop,(∀σ2 H2,N σ2 H2->∃m',m' < m/\W (i+1) m' σ2 H2)/\
   ∀x H2,(Itr lo n).yld i H' x H2->g x σ' H2 λσ3 H3=>tt σ3 H3 λb H4=>if b=true then te σ3 H4 (λv H5=>∃ys,H5 D=some (.lst ys)/\ys.length < sizeLine/\N σ3 (upd H5 D (.lst (ys++ [v])))) else N σ3 H4):=by
 refine ⟨λi m σ H=>m=n - i/\i<=n/\Pv i σ H,⟨n,by simp,yal _,h0⟩,?_⟩
 rintro i m σ H ⟨rfl,hi,p⟩
 by_cases hlt:i < n
 ·refine .inr ⟨hlt,Pv (i+1),λσ' H' p'=>⟨n - (i+1),by omega,rfl,hlt,p'⟩,λx H' y=>?_⟩
  obtain ⟨e,y⟩:=y
  subst e y
  exact hs i σ _ hlt p
 ·have e:i=n:=by omega
  subst e
  exact .inl ⟨yg _,hd σ H p⟩
theorem Jkw {K:PySem.W.Frag} {a:Addr} {xs:List V} (Pv:Nat->St->Hp->Prop) (h0:Pv 0 σ H) (hl:∀i σ H,i<=xs.length->Pv i σ H->SqL K H a xs)
  (hs:∀i x σ H,xs[i]?=some x->Pv i σ H->g x σ H λσ3 H3=>tt σ3 H3 λb H4=>if b=true then te σ3 H4 (λv H5=>∃ys,H5 D=some (.lst ys)/\ys.length < sizeLine/\Pv (i+1) σ3 (upd H5 D (.lst (ys++ [v])))) else Pv (i+1) σ3 H4)
  (hd:∀σ H,Pv xs.length σ H->R H):
  ∃W:Nat->Nat->St->Hp->Prop,(∃m,W 0 m σ H)/\∀i m σ' H',W i m σ' H'->((Itl K a).stop i H'/\R H')\/((Itl K a).go i H'/\∃N:St->Hp->Prop,(∀σ2 H2,N σ2 H2->∃m',m' < m/\W (i+1) m' σ2 H2)/\
   ∀x H2,(Itl K a).yld i H' x H2->g x σ' H2 λσ3 H3=>tt σ3 H3 λb H4=>if b=true then te σ3 H4 (λv H5=>∃ys,H5 D=some (.lst ys)/\ys.length < sizeLine/\N σ3 (upd H5 D (.lst (ys++ [v])))) else N σ3 H4):=by
 refine ⟨λi m σ H=>m=xs.length - i/\i<=xs.length/\Pv i σ H,⟨xs.length,by simp,yal _,h0⟩,?_⟩
 rintro i m σ H ⟨rfl,hi,p⟩
 have q:=hl i σ H hi p
 by_cases hlt:i < xs.length
 ·refine .inr ⟨⟨xs,xs[i],q,by simp [hlt]⟩,Pv (i+1),λσ' H' p'=>⟨xs.length - (i+1),by omega,rfl,hlt,p'⟩,λx H' y=>?_⟩
  obtain ⟨e,y⟩:=y
  subst e
  exact hs i x σ _ (y xs q) p
 ·have e:i=xs.length:=by omega
  subst e
  exact .inl ⟨⟨xs,q,yg _⟩,hd σ H p⟩
end
theorem Jkf {i:Nat} {v:V} {σ:St} {H:Hp} {A B:St->Hp->Prop} (h:A (σ.set i (some v)) H):Jnf i v σ H λσ3 H3=>Y5 σ3 H3 λb H4=>if b=true then A σ3 H4 else B σ3 H4:=by
 show if true=true then A (σ.set i (some v)) H else B (σ.set i (some v)) H
 rw [if_pos rfl]
 exact h
def sgn (c:Nat):V:=.str ⟨#[c]⟩
def Its (z:Str):It:=⟨λi _=>i < z.cps.size,λi H x H'=>H'=H/\∃c,z.cps[i]?=some c/\x=sgn c,λi _=>z.cps.size=i⟩
def iStr (tl:TE):TI:=λσ H R=>tl σ H λx H1=>∃z,x= .str z/\R (Its z) H1
theorem Jwr {P:Program} {w:World} {K:PySem.W.Frag} {tg:Expr} {z:Str} {it:Addr} {n:String} {fl:Nat->Array Value} {St:Nat->Heap->Prop}
  (Wk:∀A':Around,A'.handled=none->Walks P w A' it [it] [it] z.cps.size (SignAt z) St) (hst:∀i h,St i h->∃o,h.get? it=some o/\o.cls= .type n/\∃a,o.data= .fields a)
  (hn: ["enumerate","zip","dict_itemiterator","dict_reverseitemiterator","odict_iterator","itertools.zip_longest","itertools.pairwise"].contains n=false)
  (hself:∀(A:Around) (i:Nat) (s:Shared) (Q:Value->Shared->Prop) (E:Value->Shared->Prop),St i s.heap->Q (.ref it) s->wpAny (model P w) A (pyIter (.ref it)) Q E s):Jq7 P w K tg (Its z) [it] it St where
 mem:=by simp
 obj:=λi h st b hb=>by
  have e:b=it:=by simpa using hb
  subst e
  obtain ⟨o,e,_,a,d⟩:=hst i h st
  exact ⟨o,e,λv z=>by rw [d] at z;cases z⟩
 keep:=λi h h' st k=>by
  have W0:=Wk callerA rfl
  exact W0.frame i h h' st λb hb o e=>k b hb o e
 item:=by
  intro X hP hw hK hc i pins s σ H E I hf st hg
  subst hP hw hK
  obtain ⟨f0,f1,f2,f3,f4,f5⟩:=hf it (by simp)
  have W:=Wk X.A (I.ok.hd hc)
  refine W.item i s _ _ hg st λv h' tk hv st' kk=>?_
  obtain ⟨c,u,hcp,rfl⟩:=hv
  have I1:Inv X pins σ H {s with heap:=h',toks:=tk}:=I.turned (λb o hb e=>kk b o (by simpa using hb) e) f0 f1 f3 f4 f5
  obtain ⟨o,e,cl,a,d⟩:=hst _ _ st'
  exact ⟨_,rfl,Jvw (s:={s with heap:=h',toks:=tk}) e cl d hn ⟨sgn c,H,I1,⟨u,rfl⟩,⟨rfl,c,hcp,rfl⟩,st',λb hb=>(hf b hb).1⟩⟩
 done:=by
  intro X hP hw hK hc i pins s σ H E I hf st hg
  subst hP hw hK
  obtain ⟨f0,f1,f2,f3,f4,f5⟩:=hf it (by simp)
  have W:=Wk X.A (I.ok.hd hc)
  have hg':z.cps.size=i:=hg
  subst hg'
  exact W.done s _ _ st λh' tk kk=>⟨rfl,I.turned (λb o hb e=>kk b o (by simpa using hb) e) f0 f1 f3 f4 f5⟩
 self:=hself
theorem pi_str {X:Cx} {tg l:Expr} {tl:TE} (hl:PE X l tl):PI X tg l (iStr tl):=by
 intro pins s σ H R I h
 refine thn (hl pins s σ H _ I h) λv s1 zq=>?_
 obtain ⟨x,H1,I1,r1,z,e,q⟩:=zq
 subst e
 obtain ⟨t,rfl⟩:=r1
 have fin:∀(o:Obj) (St:Nat->Heap->Prop) (n:String),Jq7 X.prog X.w X.K tg (Its z) [s1.heap.objs.size] s1.heap.objs.size St->St 0 (s1.heap.push o)->PIE X pins σ tg R (.ref s1.heap.objs.size) {s1 with heap:=s1.heap.push o}:=λo St n T st0=>by
  refine ⟨s1.heap.objs.size,[s1.heap.objs.size],St,Its z,H1,rfl,I1.kept (t':=s1.toks) λb o e=>yi _ e,T,st0,λb hb=>?_,q⟩
  have e:b=s1.heap.objs.size:=by simpa using hb
  subst e
  exact I1.fpOk (yg _) (I1.hok.fresh (yg _))
 cases ha:z.cps.all (· < 128)
 ·refine wpAny_pyIter_wide ha (fin _ (λi h=>h.IsStrIter s1.heap.objs.size "str_iterator" z t i) "str_iterator" (Jwr (n:="str_iterator") (fl:=λ_=>#[]) (λA' hA=>Walks.strWide hA _ z t) (λi h st=>?_) (by decide) (λA i s Q E st q=>wpAny_pyIter_striter_wide st q)) ⟨_,yo _ rfl,rfl,rfl⟩)
  obtain ⟨o,e,c,d⟩:=st
  exact ⟨o,e,c,_,d⟩
 ·refine wpAny_pyIter_ascii ha (fin _ (λi h=>h.IsStrIter s1.heap.objs.size "str_ascii_iterator" z t i) "str_ascii_iterator" (Jwr (n:="str_ascii_iterator") (fl:=λ_=>#[]) (λA' hA=>Walks.strAscii hA _ z t) (λi h st=>?_) (by decide) (λA i s Q E st q=>wpAny_pyIter_striter_ascii st q)) ⟨_,yo _ rfl,rfl,rfl⟩)
  obtain ⟨o,e,c,d⟩:=st
  exact ⟨o,e,c,_,d⟩
theorem Ys {z:Str} {g:TG} {tt:TT} {te:TE} {H:Hp} {D:Addr} {σ:St} {R:Hp->Prop} (Pv:Nat->St->Hp->Prop) (h0:Pv 0 σ H)
  (hs:∀i c σ H,z.cps[i]?=some c->Pv i σ H->g (sgn c) σ H λσ3 H3=>tt σ3 H3 λb H4=>if b=true then te σ3 H4 (λv H5=>∃ys,H5 D=some (.lst ys)/\ys.length < sizeLine/\Pv (i+1) σ3 (upd H5 D (.lst (ys++ [v])))) else Pv (i+1) σ3 H4)
  (hd:∀σ H,Pv z.cps.size σ H->R H):
  ∃W:Nat->Nat->St->Hp->Prop,(∃m,W 0 m σ H)/\∀i m σ' H',W i m σ' H'->((Its z).stop i H'/\R H')\/((Its z).go i H'/\∃N:St->Hp->Prop,(∀σ2 H2,N σ2 H2->∃m',m' < m/\W (i+1) m' σ2 H2)/\
   ∀x H2,(Its z).yld i H' x H2->g x σ' H2 λσ3 H3=>tt σ3 H3 λb H4=>if b=true then te σ3 H4 (λv H5=>∃ys,H5 D=some (.lst ys)/\ys.length < sizeLine/\N σ3 (upd H5 D (.lst (ys++ [v])))) else N σ3 H4):=by
 refine ⟨λi m σ H=>m=z.cps.size - i/\i<=z.cps.size/\Pv i σ H,⟨z.cps.size,by simp,yal _,h0⟩,?_⟩
 rintro i m σ H ⟨rfl,hi,p⟩
 by_cases hlt:i < z.cps.size
 ·refine .inr ⟨hlt,Pv (i+1),λσ' H' p'=>⟨z.cps.size - (i+1),by omega,rfl,hlt,p'⟩,λx H' y=>?_⟩
  obtain ⟨e,c,hcp,y⟩:=y
  subst e y
  exact hs i c σ _ hcp p
 ·have e:i=z.cps.size:=by omega
  subst e
  exact .inl ⟨rfl,hd σ H p⟩
end L2
namespace L2
open PySem PySem.Spec PyProof.Rows
section
variable {X:Cx}
theorem Jpv {x:V} {v:Value} (r:RelV x v) (b:Bool):plainIs v (.bool b)=true/\(v==Value.bool b)=decide (x= .bl b):=by
 cases x with
 |non=>cases r;exact ⟨rfl,by simp⟩
 |bl c=>
  cases r
  refine ⟨rfl,?_⟩
  cases b <;> cases c <;> rfl
 |int i=>obtain ⟨t,rfl⟩:=r;exact ⟨rfl,by simp⟩
 |str i=>obtain ⟨t,rfl⟩:=r;exact ⟨rfl,by simp⟩
 |byt i=>obtain ⟨t,rfl⟩:=r;exact ⟨rfl,by simp⟩
 |flt i=>obtain ⟨t,rfl⟩:=r;exact ⟨rfl,by simp⟩
 |ref i=>cases r;exact ⟨rfl,by simp⟩
 |ty i=>cases r;exact ⟨rfl,by simp⟩
theorem op_isB:OpR X (compareOp .Is) (λx y H Q=>∃b,y= .bl b/\Q (.bl (decide (x= .bl b))) H):=by
 intro pins s σ H x y v u Q I rx ry h
 obtain ⟨b,rfl,q⟩:=h
 cases ry
 obtain ⟨p1,p2⟩:=Jpv rx b
 exact wpAny_is_plain p1 (by rw [p2];exact Jk4 I q rfl)
theorem Ycq:OpR X (compareOp .IsNot) (λx y H Q=>∃b,y= .bl b/\Q (.bl (!decide (x= .bl b))) H):=by
 intro pins s σ H x y v u Q I rx ry h
 obtain ⟨b,rfl,q⟩:=h
 cases ry
 obtain ⟨p1,p2⟩:=Jpv rx b
 exact wpAny_isNot_plain p1 (by rw [p2];exact Jk4 I q rfl)
theorem Js9:OpR X (binaryOp .FloorDiv) (rI (λ_ j=>0 < j/\j.natAbs.log2 < 9000) λi j=>.int (i/j)):=opI λi j _ _ _ _ _ hc q=>by
 have h1:(0:Int) < j:=hc.1
 exact floordiv_int (by omega) (by rw [Int.fdiv_eq_ediv_of_nonneg i (by omega)];exact q) (.inl (PyProof.noPylong_of_log2 hc.2))
def clsV:V->Option Value
 | .ty n=>some (.type n)
 | .ref a=>some (.ref a)
 |_=>none
def rAll (K:PySem.W.Frag):List V->Hp->VK->Prop:=λxs H Q=>∃(a:Addr) (bs:List Bool),xs= [.ref a]/\SqL K H a (bs.map V.bl)/\Q (.bl (bs.all id)) H
theorem Jlk (hc:X.calm=true):Jle X (.builtin "all") (rAll X.K):=by
 intro pins s σ H xs us Q I r h
 obtain ⟨a,bs,rfl,hq,q⟩:=h
 obtain ⟨u,rfl,ru⟩:=Jm0 r
 cases ru
 obtain ⟨its,rv,pl,hz⟩:=I.list hq
 have hlen:=rv.length
 refine call_all_walk (wpAny_pyIter_list pl.isList ⟨s.heap.objs.size,[s.heap.objs.size,a],[s.heap.objs.size],its.toArray.size,_,_,λi=>bs.getD i true,rfl,Walks.list (prog:=X.prog) (w:=X.w) (A:=X.A.in1) (show X.A.in1.handled=none from I.ok.hd hc) s.heap.objs.size a ?_ its.toArray,⟨⟨_,yo _ rfl,rfl,rfl⟩,pl.isList.at λo e=>yi _ e⟩,?_,λh' tk k=>?_⟩)
 ·obtain ⟨o,_,e,_⟩:=pl
  exact yq (yj e)
 ·intro i v s' Q' E' hv hq'
  have hv':its[i]?=some v:=by simpa using hv
  have hi:i < its.length:=(yv.mp hv').1
  have hb:i < bs.length:=by rw [yf] at hlen;omega
  obtain ⟨u',hu',ru'⟩:=rv.get (i:=i) (x:=V.bl bs[i]) (by rw [yp,yn hb];rfl)
  rw [hv'] at hu'
  cases hu'
  cases ru'
  refine wpAny_truthy_bool ?_
  have:bs.getD i true=bs[i]:=by rw [yao,yn hb];rfl
  rw [<-this]
  exact hq'
 ·have e:((yu its.toArray.size).all λi=>bs.getD i true)=bs.all id:=by
   have hl2:its.toArray.size=bs.length:=by rw [yf] at hlen;rw [yt];exact hlen.symm
   rw [hl2,ybi,yar,yar]
   constructor
   ·intro hh b hb
    obtain ⟨i,hi,rfl⟩:=ycl hb
    have:=hh i (yaj.mpr hi)
    rw [yao,yn hi] at this
    exact this
   ·intro hh i hi
    have hi':=yaj.mp hi
    rw [yao,yn hi']
    exact hh _ (ybn hi')
  rw [e]
  exact ⟨.bl _,H,I.kept λb o e=>k b o (λz=>by
   have z':b=s.heap.objs.size:=by simpa using z
   exact absurd (yj e) (by rw [z'];exact yba _)) (yi _ e),rfl,q⟩
end
mutual
inductive DatV (K:PySem.W.Frag) (H:Hp):V->PyData->Prop
 |non:DatV K H .non .none
 |bl (b:Bool):DatV K H (.bl b) (.bool b)
 |int (i:Int):DatV K H (.int i) (.int i)
 |str (z:Str):DatV K H (.str z) (.str z)
 |lst {a:Addr} {xs:List V} {ds:List PyData}:SqL K H a xs->DatVs K H xs ds->DatV K H (.ref a) (.list ds)
 |tup {a:Addr} {xs:List V} {ds:List PyData}:SqT K H a xs->DatVs K H xs ds->DatV K H (.ref a) (.tuple ds)
inductive DatVs (K:PySem.W.Frag) (H:Hp):List V->List PyData->Prop
 |nil:DatVs K H [] []
 |cons {x:V} {d:PyData} {xs:List V} {ds:List PyData}:DatV K H x d->DatVs K H xs ds->DatVs K H (x::xs) (d::ds)
end
section
variable {X:Cx} {pins:List (Addr×Obj)} {σ:St} {H:Hp} {s:Shared}
mutual
theorem DatV.reads (I:Inv X pins σ H s):∀{x:V} {d:PyData},DatV X.K H x d->∀{v:Value},RelV x v->∃as,Reads s.heap v d as
 |_,_,.non,_,r=>by cases r;exact ⟨_,.none⟩
 |_,_,.bl b,_,r=>by cases r;exact ⟨_,.bool b⟩
 |_,_,.int i,_,r=>by obtain ⟨t,rfl⟩:=r;exact ⟨_,.int i t⟩
 |_,_,.str z,_,r=>by obtain ⟨t,rfl⟩:=r;exact ⟨_,.str z t⟩
 |_,_,.lst (a:=a) hq hd,_,r=>by
  cases r
  obtain ⟨its,rv,⟨o,n,e,c,dd,dt⟩,_⟩:=I.list hq
  obtain ⟨as,ra⟩:=DatVs.reads I hd rv
  exact ⟨_,.list e c dt (by simpa using ra)⟩
 |_,_,.tup (a:=a) hq hd,_,r=>by
  cases r
  obtain ⟨its,rv,⟨o,e,c,n,dt⟩,_⟩:=I.tuple hq
  obtain ⟨as,ra⟩:=DatVs.reads I hd rv
  exact ⟨_,.tuple e c dt (by simpa using ra)⟩
theorem DatVs.reads (I:Inv X pins σ H s):∀{xs:List V} {ds:List PyData},DatVs X.K H xs ds->∀{us:List Value},Vals xs us->∃as,ReadsAll s.heap us ds as
 |_,_,.nil,_,r=>by cases r;exact ⟨_,.nil⟩
 |_,_,.cons h t,_,r=>by
  cases r with
  |cons r1 r2=>
   obtain ⟨as,ra⟩:=DatV.reads I h r1
   obtain ⟨bs,rb⟩:=DatVs.reads I t r2
   exact ⟨_,.cons ra rb⟩
end
def rEqD (K:PySem.W.Frag) (neg:Bool):R2:=λx y H Q=>∃d e,DatV K H x d/\DatV K H y e/\SeqAt.shaped d=true/\SeqAt.shaped e=true/\Q (.bl (if neg then !PyData.eqv d e else PyData.eqv d e)) H
theorem op_eqD (hu:X.A.units+64 < cLine):OpR X (compareOp .Eq) (rEqD X.K false):=by
 intro pins s σ H x y v u Q I rx ry h
 obtain ⟨d,e,hd,he,sd,se,q⟩:=h
 obtain ⟨as,ra⟩:=hd.reads I rx
 obtain ⟨bs,rb⟩:=he.reads I ry
 exact eq_dataH ra rb sd se hu (Jk4 I q rfl)
end
end L2
namespace L2
open PySem PySem.Spec PyProof.Rows
theorem Jjp:bootBuiltins "isinstance" =some (.builtin "isinstance"):=by decide +kernel
theorem Jko:bootBuiltins "len" =some (.builtin "len"):=by decide +kernel
theorem Juj:bootBuiltins "max" =some (.builtin "max"):=by decide +kernel
theorem Yl:bootBuiltins "min" =some (.builtin "min"):=by decide +kernel
theorem Jn4:bootBuiltins "all" =some (.builtin "all"):=by decide +kernel
theorem Jui:bootBuiltins "int" =some (.type "int"):=by decide +kernel
theorem Yo:bootBuiltins "str" =some (.type "str"):=by decide +kernel
theorem Jug:bootBuiltins "bool" =some (.type "bool"):=by decide +kernel
theorem Jn5:bootBuiltins "list" =some (.type "list"):=by decide +kernel
theorem Jky:bootBuiltins "tuple" =some (.type "tuple"):=by decide +kernel
structure FT (K:PySem.W.Frag) (mg:Str->Option Value) (x:Str) (st:Stmt) (ps:List Str) (f:Addr) (fd:FuncData):Prop where
 mgx:mg x=some (.ref f)
 fn:Fun K x x st f fd
 bd:Binds K fd ps []
section
variable {X:Cx} {x:Str} {st:Stmt} {ps:List Str} {f:Addr} {fd:FuncData} {sp:Sp} {k j:Nat} {p pos:Pos} {e:Expr} {es:List Expr} {t:TA}
theorem Jjf (F:FT X.K X.mg x st ps f fd) (G:FnOk X.prog X.w X.K X.mg X.base CX0 k f fd ps sp) (hr:Room j X.A) (hk:k<=j) (ha:PA X (e::es) t) (hg:Gl X x:=by rfl) (hdb:(x==("__debug__" :Str))=false:=by decide)
  (he:starEach (e::es) X.env=(false,eval e X.env)::starEach es X.env:=by rfl) (hpl:(backTo pos (starEach es X.env)).any (·.1)=false:=by rfl):PE X (.Call (.Name x p) (e::es) [] pos) (Jyx sp [] E0 t):=
 Ycr G (hr.mono hk) hg F.mgx F.fn.kp F.bd .nil Jmm ha hdb he hpl
theorem Jzs (F:FT X.K X.mg x st ps f fd) (G:FnOk X.prog X.w X.K X.mg X.base CX0 k f fd ps sp) (hr:Room j X.A) (hk:k<=j) (hg:Gl X x:=by rfl) (hdb:(x==("__debug__" :Str))=false:=by decide):
  PE X (.Call (.Name x p) [] [] pos) (Jyx sp [] E0 Jrc):=Yak G (hr.mono hk) hg F.mgx F.fn.kp F.bd .nil Jmm hdb
end
theorem Same.upd {H:Hp} {D:Addr} {o:HO} (h:H D=none):Same H (upd H D o):=λb u e=>by rw [Jjg (Jjh e h)];exact e
def Strm (H:Hp) (p:Addr):Prop:=∃a b c:Int,H p=some (.lst [.int a,.int b,.int c])
def But (p:Addr) (H H':Hp):Prop:=(∀b o,b≠p->H b=some o->H' b=some o)/\Strm H' p
theorem But.trans {p:Addr} {H H1 H2:Hp} (a:But p H H1) (b:But p H1 H2):But p H H2:=⟨λc o n e=>b.1 c o n (a.1 c o n e),b.2⟩
theorem But.refl {p:Addr} {H:Hp} (s:Strm H p):But p H H:=⟨λ_ _ _ e=>e,s⟩
theorem But.same {p:Addr} {H H1 H2:Hp} (a:But p H H1) (b:Same H1 H2):But p H H2:=⟨λc o n e=>b c o (a.1 c o n e),let ⟨x,y,z,e⟩:=a.2;⟨x,y,z,b p _ e⟩⟩
theorem Strm.same {p:Addr} {H H1:Hp} (a:Strm H p) (b:Same H H1):Strm H1 p:=by obtain ⟨x,y,z,e⟩:=a;exact ⟨x,y,z,b p _ e⟩
theorem But.of {p:Addr} {H H1:Hp} (a:Strm H p) (b:Same H H1):But p H H1:=(But.refl a).same b
theorem But.free {p:Addr} {H H':Hp} (s:Strm H p) (b:But p H H') {D:Addr} (h:H' D=none):H D=none:=by
 by_cases e:D=p
 ·obtain ⟨x,y,z,q⟩:=b.2
  rw [e,q] at h
  cases h
 ·cases q:H D with
  |none=>rfl
  |some o=>
   rw [b.1 D o e q] at h
   cases h
theorem But.updD {p D:Addr} {H H':Hp} {o:HO} (b:But p H H') (hD:H D=none) (ne:D≠p):But p H (upd H' D o):=by
 refine ⟨λc u n e=>?_,?_⟩
 ·rw [Jjg (Jjh e hD)]
  exact b.1 c u n e
 ·obtain ⟨x,y,z,q⟩:=b.2
  exact ⟨x,y,z,by rw [Jjg (yk ne)];exact q⟩
theorem Strm.ne {p D:Addr} {H:Hp} (s:Strm H p) (hD:H D=none):D≠p:=by
 obtain ⟨x,y,z,q⟩:=s
 exact (Jjh q hD).symm
theorem Jpr {p:Addr} {H:Hp} {a:Addr} {o:HO} (s:Strm H p) (h:H a=some o) (hn:∀x y z:Int,o≠ .lst [.int x,.int y,.int z]):a≠p:=by
 intro e
 obtain ⟨x,y,z,q⟩:=s
 rw [e,q] at h
 exact hn x y z (yy.inj h).symm
def spTake:Sp:=λvs H Q _=>∃(p:Addr) (m:Int),vs= [.ref p,.int m]/\Strm H p/\0 < m/\m.natAbs.log2 < 9000/\∀(r:Int) (H':Hp),0<=r->r < m->But p H H'->Q (.int r) H'
def Ybj:Sp:=λvs H Q _=>∃c:Int,vs= [.int c]/\∀(p:Addr) (H':Hp),H p=none->Same H H'->Strm H' p->Q (.ref p) H'
def spCell (K:PySem.W.Frag):Sp:=λvs H Q _=>∃(a:Addr) (ns:List Int) (k:Nat),vs= [.ref a,.int k]/\SqL K H a (ns.map V.int)/\∀n:Int,Q (.int n) H
theorem Jyj {ns:List Int} {k:Nat} (h:k < ns.length):atI (ns.map V.int) (k:Int)=some (.int ns[k]):=Jl6 (by rw [yp,yn h];rfl)
theorem Jre {A:Around} {k:Nat} (hr:Room k A):A.units+64 < cLine:=hr.units
end L2
namespace L2
open PySem PySem.Spec PyProof.Rows Builtin Builtin.ObjectAttr
abbrev VEm:List Value:=[.type "ValueError",.type "Exception",.type "BaseException",.type "object"]
def xcB (K:PySem.W.Frag) (C fI:Addr):Bool:=
 PySem.W.findIn K (.ref C) "__getattribute__" ==some (some (.builtin "BaseException.__getattribute__"))&&PySem.W.findIn K (.ref C) "__getattr__" ==some none&&PySem.W.findIn K (.ref C) "__setattr__" ==some (some (.builtin "object.__setattr__"))&&
 PySem.W.findIn K (.ref C) "__init__" ==some (some (.ref fI))&&PySem.W.typeIn K (.ref fI)==some (.type "function")&&PySem.W.keepIn K (.ref C)&&PySem.W.hasDictIn K C&&PySem.W.mroIn K C (.type "BaseException")==some true&&PySem.W.mroIn K C (.type "object")==some true&&
 PySem.W.findIn K (.ref C) "__class__" ==some (some (.builtin "object.__class__"))&&PySem.W.specialIn K (.builtin "object.__class__") "__get__" ==some (some (.builtin "getset_descriptor.__get__"))&&PySem.W.takesIn K (.builtin "object.__class__")==some true
structure XCls (K:PySem.W.Frag) (C W fI:Addr):Prop where
 obj:∃(nm q:Str) (N:Addr) (bs:List Value) (sn:List Str) (sub:List Value) (ab:Bool) (col:Option Bool) (dd:Option Addr) (k0 k1 k2 k3 k5:Option Value),
  K.lookup C=some (excClassObj nm q C N bs (.ref W::VEm) true sn sub ab col dd k0 k1 k2 k3 k5 "ValueError.__new__")
 tl:PySem.W.tailIn K VEm (.ref W::VEm)=true
 all:xcB K C fI=true
theorem Jkx {K:PySem.W.Frag} {C fI:Addr} (h:xcB K C fI=true):
  (PySem.W.findIn K (.ref C) "__getattribute__" =some (some (.builtin "BaseException.__getattribute__"))/\PySem.W.findIn K (.ref C) "__getattr__" =some none/\PySem.W.findIn K (.ref C) "__setattr__" =some (some (.builtin "object.__setattr__")))/\
  (PySem.W.findIn K (.ref C) "__init__" =some (some (.ref fI))/\PySem.W.typeIn K (.ref fI)=some (.type "function")/\PySem.W.keepIn K (.ref C)=true/\PySem.W.hasDictIn K C=true)/\PySem.W.mroIn K C (.type "BaseException")=some true/\PySem.W.mroIn K C (.type "object")=some true/\
  PySem.W.findIn K (.ref C) "__class__" =some (some (.builtin "object.__class__"))/\PySem.W.specialIn K (.builtin "object.__class__") "__get__" =some (some (.builtin "getset_descriptor.__get__"))/\PySem.W.takesIn K (.builtin "object.__class__")=some true:=by
 unfold xcB at h
 simp only [yac,beq_iff_eq] at h
 obtain ⟨⟨⟨⟨⟨⟨⟨⟨⟨⟨⟨a,b⟩,c⟩,d⟩,e⟩,f⟩,g⟩,i⟩,j⟩,k⟩,l⟩,m⟩:=h
 exact ⟨⟨a,b,c⟩,⟨d,e,f,g⟩,i,j,k,l,m⟩
section
variable {K:PySem.W.Frag} {C W fI:Addr} (c:XCls K C W fI)
include c
theorem XCls.ga:PySem.W.findIn K (.ref C) "__getattribute__" =some (some (.builtin "BaseException.__getattribute__")):=(Jkx c.all).1.1
theorem XCls.gh:PySem.W.findIn K (.ref C) "__getattr__" =some none:=(Jkx c.all).1.2.1
theorem XCls.sa:PySem.W.findIn K (.ref C) "__setattr__" =some (some (.builtin "object.__setattr__")):=(Jkx c.all).1.2.2
theorem XCls.ini:PySem.W.findIn K (.ref C) "__init__" =some (some (.ref fI)):=(Jkx c.all).2.1.1
theorem XCls.fn:PySem.W.typeIn K (.ref fI)=some (.type "function"):=(Jkx c.all).2.1.2.1
theorem XCls.kp:PySem.W.keepIn K (.ref C)=true:=(Jkx c.all).2.1.2.2.1
theorem XCls.hd:PySem.W.hasDictIn K C=true:=(Jkx c.all).2.1.2.2.2
theorem XCls.mb:PySem.W.mroIn K C (.type "BaseException")=some true:=(Jkx c.all).2.2.1
theorem XCls.mo:PySem.W.mroIn K C (.type "object")=some true:=(Jkx c.all).2.2.2.1
theorem XCls.cl:PySem.W.findIn K (.ref C) "__class__" =some (some (.builtin "object.__class__")):=(Jkx c.all).2.2.2.2.1
theorem XCls.cg:PySem.W.specialIn K (.builtin "object.__class__") "__get__" =some (some (.builtin "getset_descriptor.__get__")):=(Jkx c.all).2.2.2.2.2.1
theorem XCls.ct:PySem.W.takesIn K (.builtin "object.__class__")=some true:=(Jkx c.all).2.2.2.2.2.2
end
theorem Yd (self:Value) (C W:Addr):refuseLoop self "__setattr__" (.ref C:: .ref W::VEm)=pure ():=by
 rw [refuseLoop_ref,refuseLoop_ref]
 exact PySem.F.store_ValueError.passes self
theorem XCls.mro {K:PySem.W.Frag} {C W fI:Addr} (c:XCls K C W fI):∃cd,PySem.W.clsIn K C=some cd/\cd.mro= .ref C:: .ref W::VEm/\cd.hasDict=true:=by
 obtain ⟨nm,q,N,bs,sn,sub,ab,col,dd,k0,k1,k2,k3,k5,l⟩:=c.obj
 unfold PySem.W.clsIn
 rw [l]
 exact ⟨_,rfl,rfl,rfl⟩
section
variable {prog:Program} {w:World} {A:Around} {E:Value->Shared->Prop} {s:Shared} {K:PySem.W.Frag} {x C W fI:Addr} {ox:Obj} {od:Option Obj} {name:Str}
theorem Ydm:builtinKind "BaseException.__getattribute__" =some .slot:=by decide +kernel
theorem Yc0:splitId "BaseException.__getattribute__" =some ("BaseException","__getattribute__"):=by decide +kernel
theorem Jz1 {r:Found} {tk:Tok} {R:Result->Shared->Prop} (c:XCls K C W fI) (X:K.In s.heap) (I:PySem.W.InstAt s.heap x ox C od) (hf:PySem.W.findObj K C od name=some r)
  (h:wpAny (model prog w) A.in1 (match r with| .value v=>ret v| .bind g b=>bindTo g b (.ref x) (.ref C)| .missing=>unsupported "none")
   (λfin s'=>match fin with| .done f=>R (.ok f) s'| .again c'=>c'.quiet=true/\codeAny (model prog w) A c' R s') (λe s'=>R (.error e) s') s) (hr:r≠ .missing):
  codeAny (model prog w) A (.call (.builtin "BaseException.__getattribute__") ⟨[.ref x,.str name tk],[]⟩) R s:=by
 have T0:=I.type (M:=model prog w)
 have T3:=PySem.W.looks_find (M:=model prog w) X I hf
 have T4:PySem.W.Looks (model prog w) s.heap (isInstance (.ref x) (.type "BaseException")) true:=T0.andThen (PySem.W.looks_mroIn X c.mb)
 have ck:∀{Q':Unit->Shared->Prop} {E':Value->Shared->Prop} {A':Around},Q' () s->wpAny (model prog w) A' (checkBuiltinCall "BaseException.__getattribute__" ⟨[.ref x,.str name tk],[]⟩) Q' E' s:=λ{Q' E' A'} q=>
  @PySem.W.check_slot (model prog w) A' E' s "BaseException.__getattribute__" "BaseException" "__getattribute__" (.ref x) [.str name tk] [] Q' Ydm Yc0 T4 (F.args_bexc_ga (.ref x) (.str name tk)) q
 refine codeAny_call_builtin F.excAttr_ValueError.ga.plain F.entry_bexc_ga (ck ?_)
 unfold Builtin.«object.__getattribute__»
 refine wpAny_bind (wpAny_pure (wpAny_bind (wpAny_pure (wpAny_bind (T0.here (wpAny_bind (T3.here ?_)))))))
 cases r with
 |missing=>exact absurd rfl hr
 |value v=>exact h
 |bind gg b=>exact h
theorem xc_get {v:Value} {expr:Bool} {Q:Value->Shared->Prop} (c:XCls K C W fI) (X:K.In s.heap) (I:PySem.W.InstAt s.heap x ox C od) (hf:PySem.W.findObj K C od name=some (.value v)) (hh:PySem.W.handedIn v=true)
  (q:Q v {s with toks:=s.toks+1}):wpAny (model prog w) A (getAttr (.ref x) name expr) Q E s:=by
 obtain ⟨hp,g,d,t,os⟩:=s
 have T0:=I.type (M:=model prog w)
 have T1:=PySem.W.looks_findIn (M:=model prog w) X c.ga
 have T2:=PySem.W.looks_findIn (M:=model prog w) X c.gh
 unfold getAttr getAttrBy
 refine wpAny_bind (wpAny_mkText (wpAny_holding (wpAny_bind (T0.at (wpAny_bind (T1.at ?_))))))
 show wpAny _ _ (getAttrByItsOwn (.ref x) _ (.ref C) _ _ _) _ _ _
 unfold getAttrByItsOwn
 refine wpAny_bind (show wpAny _ _ (typeLookup (.ref C) "__getattr__") _ _ _ from T2.at ?_)
 have e0:callGetattribute (.ref x) (.str name t) (.builtin "BaseException.__getattribute__") expr=boundAndCalled (.builtin "BaseException.__getattribute__") (.ref x) (.str name t):=by cases expr <;> rfl
 rw [e0]
 unfold boundAndCalled
 rw [F.excAttr_ValueError.ga.bind]
 refine wpAny_bind (wpAny_attempt (wpAny_holding (wpAny_bind (wpAny_pure (wpAny_call (Jz1 (s:=⟨hp,g,d,t+1,os⟩) (r:=.value v) c X I hf ?_ (λz=>nomatch z)))))))
 refine wpAny_pure ?_
 show wpAny _ _ (handedOut v) _ _ _
 rw [PySem.W.handedOut_of hh]
 exact wpAny_pure q
end
end L2
namespace L2
open PySem PySem.Spec PyProof.Rows Builtin Builtin.ObjectAttr
section
variable {prog:Program} {w:World} {A:Around} {E:Value->Shared->Prop} {s:Shared} {K:PySem.W.Frag} {x C W fI:Addr} {ox:Obj} {od:Option Obj} {name:Str} {v:Value}
theorem xc_osa {tk:Tok} {R:Result->Shared->Prop} (c:XCls K C W fI) (X:K.In s.heap) (I:PySem.W.InstAt s.heap x ox C od) (hn:PySem.W.findIn K (.ref C) name=some none)
  (h:wpAny (model prog w) A.in1 (storeInOwnDict (.ref x) (.ref C) (.str name tk) name v false)
   (λfin s'=>match fin with| .done f=>R (.ok f) s'| .again c'=>c'.quiet=true/\codeAny (model prog w) A c' R s') (λe s'=>R (.error e) s') s):
  codeAny (model prog w) A (.call (.builtin "object.__setattr__") ⟨[.ref x,.str name tk,v],[]⟩) R s:=by
 have SF:=PySem.F.store_object
 obtain ⟨cd,hc,hm,_⟩:=c.mro
 have T0:=I.type (M:=model prog w)
 have sub:PySem.W.Looks (model prog w) s.heap (isInstance (.ref x) (.type "object")) true:=T0.andThen (PySem.W.looks_mroIn X c.mo)
 have hmr:PySem.W.Looks (model prog w) s.heap (mroOf (.ref C)) cd.mro:=(PySem.W.looks_clsIn X hc).andThen .now
 have T2:=PySem.W.looks_findIn (M:=model prog w) X hn
 refine codeAny_call_builtin SF.slot.plain SF.entry (@PySem.W.check_slot (model prog w) _ _ s "object.__setattr__" "object" "__setattr__" (.ref x) [.str name tk,v] [] _ SF.kind SF.split sub (SF.args (.ref x) (.str name tk) v) ?_)
 rw [PySem.W.osa_eq,refuse_eq]
 refine wpAny_bind (wpAny_bind (T0.here (wpAny_bind (hmr.here ?_))))
 rw [hm,Yd]
 exact wpAny_pure (wpAny_bind (T0.here (wpAny_bind (T2.here (wpAny_bind (wpAny_pure h))))))
theorem Jyb {vs:Array Value} {Q:Unit->Shared->Prop} (c:XCls K C W fI) (X:K.In s.heap) (hx:s.heap.get? x=some ox) (hcl:ox.cls= .ref C) (hdi:ox.dict=none) (hd:ox.data= .fields vs) (hn:PySem.W.findIn K (.ref C) name=some none)
  (h:∀h',(∀b u,b≠x->s.heap.get? b=some u->h'.get? b=some u)->h'.get? x=some {ox with dict:=some s.heap.objs.size}->h'.Ns1 s.heap.objs.size (λy=>if y=name then some v else none)->Q () {s with heap:=h',toks:=s.toks+2}):
  wpAny (model prog w) A (setAttr (.ref x) name v) Q E s:=by
 have I:PySem.W.InstAt s.heap x ox C none:=⟨hx,hcl,by unfold PySem.W.notCls;rw [hd],by rw [hdi];trivial⟩
 obtain ⟨cd,hc,_,hdct⟩:=c.mro
 refine PySem.W.set_plain X I c.sa (xc_osa (s:={s with toks:=s.toks+1}) c X I hn ?_)
 obtain ⟨oc,odi,oda,osl⟩:=ox
 dsimp only at hcl hdi hd
 subst hcl hdi hd
 refine wpAny_bind (wpAny_pure (wpAny_bind (wpAny_bind (wpAny_loadPart hx (wpAny_bind (PySem.W.Looks.here (s:={s with toks:=s.toks+1}) (PySem.W.looks_clsIn X hc) ?_))))))
 rw [hdct]
 dsimp only
 simp only [Bool.not_true,Bool.false_eq_true,if_false,typeHasDict,Bool.or_false]
 have e1:(s.heap.push {cls:=.type "dict",data:=.dict #[]}).get? x=some ⟨.ref C,none,.fields vs,osl⟩:=yi _ hx
 have nx:s.heap.objs.size≠x:=yau (yj hx)
 have n0:(s.heap.push {cls:=.type "dict",data:=.dict #[]}).Ns s.heap.objs.size (λ_=>none):=⟨_,#[],_,yo s.heap rfl,rfl,(λe he=>absurd he (by simp)),λ_=>rfl⟩
 refine wpAny_bind (wpAny_alloc (wpAny_bind (wpAny_update e1 ?_)))
 have e2:=ybm (λo=>{o with dict:=some s.heap.objs.size}) e1 rfl
 have n1:((s.heap.push {cls:=.type "dict",data:=.dict #[]}).update x λo=>{o with dict:=some s.heap.objs.size}).Ns1 s.heap.objs.size (λ_=>none):=
  (Heap.Ns1.of_empty n0).at λo q=>by rw [yaz _ _ (yk nx)];exact q
 refine wpAny_pure (wpAny_bind (wpAny_pure (wpAny_bind ?_)))
 refine wpAny_nsSet1 n1 λh' n2 sb=>?_
 obtain ⟨oD,esD,epD,hoD,hdD,hcD⟩:=n2.count (PySem.Within.cons name v PySem.Within.nil)
 refine wpAny_bind (wpAny_lookBehind hoD (by rw [hdD];exact pastItsLine_dict (yz hcD (Nat.le_add_left 1 sizeLine))) ?_)
 refine wpAny_pure (h h' (λb u hb q=>?_) ((sb.2 _ (yk nx)).trans e2) n2)
 have nb:b≠s.heap.objs.size:=yq (yj q)
 rw [sb.2 b nb,yaz _ _ (yk hb)]
 exact yi _ q
end
abbrev Yf (us:List Value):Obj:={cls:=.type "tuple",data:=.seq us.toArray}
abbrev xObj (C:Addr) (t:Addr):Obj:={cls:=.ref C,data:=.fields #[.ref t,.none,.none,.none,.bool false,.none]}
section
variable {prog:Program} {w:World} {A:Around} {E:Value->Shared->Prop} {K:PySem.W.Frag} {C W fI:Addr} {us:List Value} {hp:Heap} {g:Array GenState} {d:Drawn} {t:Nat} {os:OsState}
theorem Yc1 {Q:PySem.Fin->Shared->Prop} (c:XCls K C W fI) (X:K.In hp) (hz:us.length<=sizeLine)
  (h:wpAny (model prog w) A (call (.ref fI) (.ref (hp.objs.size+1)::us)) (λr s'=>r= .none/\Q (.done (.ret (.ref (hp.objs.size+1)))) s') E ⟨(hp.push (Yf us)).push (xObj C hp.objs.size),g,d,t,os⟩):
  wpAny (model prog w) A (Builtin.«type.__call__» ⟨.ref C::us,[]⟩) Q E ⟨hp,g,d,t,os⟩:=by
 obtain ⟨nm,q,N,bs,sn,sub,ab,col,dd,k0,k1,k2,k3,k5,l⟩:=c.obj
 have FV:=F.excBase_ValueError
 have kC:=X _ _ l
 have TL:OwnTail hp VEm (.ref W::VEm):=PySem.W.tail_of_in X c.tl
 have up:∀b o,hp.get? b=some o->((hp.push (Yf us)).push (xObj C hp.objs.size)).get? b=some o:=λb o e=>yi _ (yi _ e)
 have gE:((hp.push (Yf us)).push (xObj C hp.objs.size)).get? (hp.objs.size+1)=some ({cls:=.ref C,data:=.fields #[.ref hp.objs.size,.none,.none,.none,.bool false,.none]}:Obj):=Heap.get?_push_at (by simp only [yaa]) rfl
 have X2:=X.keeps up
 have kC2:=X2 _ _ l
 have hcC:(Value.ref C:: .ref W::VEm).contains (.ref C)=true:=by simp
 repeat (first|with_reducible refine wpAny_loadPart_at kC ?_|with_reducible refine wpAny_madeBy_exc kC ?_|wp_step)
 refine codeAny_call_builtin_code (Code.quiet_builtin _ FV.quiet) (wpAny_check_new_subT FV TL kC (codeAny_exc_new_subT FV TL kC ?_ hz))
 show wpAny _ _ _ _ _ _
 unfold isInstance
 repeat (first|with_reducible refine wpAny_loadPart_at gE ?_|(with_reducible refine wpAny_isSubtype_exc kC2 ?_;rw [hcC])|wp_step)
 show wpAny _ _ (typeLookup (.ref C) _) _ _ _
 refine (PySem.W.looks_findIn X2 c.ini).at (wpAny_holding (wpAny_bind ((PySem.W.bind_fn X2 _ c.fn).at ?_)))
 refine wpAny_bind (wpAny_mono h (λr s' hr=>?_) λ_ _ z=>z)
 obtain ⟨rfl,hQ⟩:=hr
 wp_walk
 exact hQ
theorem Ydn {s:Shared} {Q:Value->Shared->Prop} (c:XCls K C W fI) (X:K.In s.heap) (hz:us.length<=sizeLine)
  (h:wpAny (model prog w) (A.under (.builtin "type.__call__" ⟨.ref C::us,[]⟩)) (call (.ref fI) (.ref (s.heap.objs.size+1)::us)) (λr s'=>r= .none/\Q (.ref (s.heap.objs.size+1)) s') E {s with heap:=(s.heap.push (Yf us)).push (xObj C s.heap.objs.size)}):
  wpAny (model prog w) A (call (.ref C) us) Q E s:=by
 obtain ⟨hp,g,d,t,os⟩:=s
 obtain ⟨nm,q,N,bs,sn,sub,ab,col,dd,k0,k1,k2,k3,k5,l⟩:=c.obj
 have kC:=X _ _ l
 have v1:=tc_lookup
 have v2:=tc_bind (.ref C)
 have hT:(⟨hp,g,d,t,os⟩:Shared).TypeIs (.ref C) "type" :=⟨_,kC,rfl⟩
 refine wpAny_call (codeAny_of_tree ?_)
 show wpAny _ _ (callAny (.ref C) _) _ _ _
 repeat (any_goals (first|assumption|with_reducible refine wpAny_loadPart_at kC ?_|wp_step))
 exact ⟨rfl,codeAny_call_builtin_at (Code.quiet_builtin _ (by decide +kernel)) entry_typeCall (wpAny_check_type_call_sub kC (Yc1 c X hz h))⟩
end
end L2
namespace L2
open PySem PySem.Spec PyProof.Rows
def XO (e C:Addr) (dx:Option Addr) (fr:Bool):HO:=.ext λh=>∃o vs,h.get? e=some o/\o.cls= .ref C/\o.dict=dx/\o.data= .fields vs/\(∃t,vs[0]?=some (.ref t))/\∃y,vs[1]?=some y/\(fr=true->y= .none)
def XD (dx:Addr) (fs:List (Str×V)):HO:=.ext λh=>∃mA,h.Ns1 dx mA/\(∀f,RelO (fs.lookup f) (mA f))/\PySem.Within mA (fs.map (·.1))/\fs.length<=1000
section
variable {P:Program} {w:World} {H:Hp} {h:Heap} {e C dx:Addr} {od:Option Addr} {fr:Bool} {fs:List (Str×V)}
theorem Yc2 {o:Obj} {vs:Array Value} (he:h.get? e=some o) (h1:o.cls= .ref C) (h2:o.dict=od) (h3:o.data= .fields vs) (h4:∃t,vs[0]?=some (.ref t)) (h5:∃y,vs[1]?=some y/\(fr=true->y= .none)):ObjOk P w H h e (XO e C od fr):=
 ⟨⟨o,vs,he,h1,h2,h3,h4,h5⟩,⟨o,he⟩,λ_ _ ⟨o,vs,a,r⟩ k=>⟨o,vs,k o a,r⟩⟩
theorem Jst (hok:HOk P w H h) (q:H e=some (XO e C od fr)):∃o vs,h.get? e=some o/\o.cls= .ref C/\o.dict=od/\o.data= .fields vs/\(∃t,vs[0]?=some (.ref t))/\∃y,vs[1]?=some y/\(fr=true->y= .none):=(hok e _ q).1
theorem xd_ok {mA:Str->Option Value} (n:h.Ns1 dx mA) (r:∀f,RelO (fs.lookup f) (mA f)) (w':PySem.Within mA (fs.map (·.1))) (z:fs.length<=1000):ObjOk P w H h dx (XD dx fs):=
 ⟨⟨mA,n,r,w',z⟩,(let ⟨o,_,_,q,_⟩:=n;⟨o,q⟩),λ_ _ ⟨m,a,r⟩ k=>⟨m,a.at k,r⟩⟩
theorem xd_get (hok:HOk P w H h) (q:H dx=some (XD dx fs)):∃mA,h.Ns1 dx mA/\(∀f,RelO (fs.lookup f) (mA f))/\PySem.Within mA (fs.map (·.1))/\fs.length<=1000:=(hok dx _ q).1
theorem Jz2 (hok:HOk P w H h) (q:H e=some (XO e C (some dx) fr)) (qd:H dx=some (XD dx fs)):∃(ox oD:Obj) (mA:Str->Option Value),PySem.W.InstAt h e ox C (some oD)/\(∀n,PySem.W.lookIn n oD=some (mA n))/\∀f,RelO (fs.lookup f) (mA f):=by
 obtain ⟨o,vs,he,hc,hd,hf,_⟩:=Jst hok q
 obtain ⟨mA,n1,r,_⟩:=xd_get hok qd
 obtain ⟨oD,hD,hl⟩:=Jtq n1
 exact ⟨o,oD,mA,⟨he,hc,by unfold PySem.W.notCls;rw [hf],by rw [hd];exact hD⟩,hl,r⟩
end
section
variable {X:Cx} {pins:List (Addr×Obj)} {σ:St} {H:Hp} {s:Shared} {e C W fI dx:Addr} {fs:List (Str×V)} {fr:Bool} {f:Str} {v:V} {A:Around} {E:Value->Shared->Prop}
theorem Jww {b:Bool} {Q:Value->Shared->Prop} (I:Inv X pins σ H s) (q:H e=some (XO e C (some dx) fr)) (qd:H dx=some (XD dx fs)) (c:XCls X.K C W fI) (n:NoAttr X.K C f) (l:fs.lookup f=some v)
  (h:∀u s',Inv X pins σ H s'->RelV v u->Q u s'):wpAny (model X.prog X.w) A (getAttr (.ref e) f b) Q E s:=by
 obtain ⟨ox,oD,mA,J,hl,r⟩:=Jz2 I.hok q qd
 obtain ⟨u,hu,ru⟩:=RelO.some_of (v:=v) (o:=mA f) (by rw [<-l];exact r f)
 exact xc_get c I.kIn J (PySem.W.findObj_own c.hd n rfl (by rw [hl,hu])) (Jtn ru) (h u _ (I.tok _) ru)
theorem Yc3 {y:V} {u:Value} {Q:Unit->Shared->Prop} (I:Inv X pins σ H s) (q:H e=some (XO e C none fr)) (c:XCls X.K C W fI) (n:NoAttr X.K C f) (ry:RelV y u)
  (h:∀dx s',H dx=none->dx≠e->Inv X pins σ (upd (upd H dx (XD dx [(f,y)])) e (XO e C (some dx) fr)) s'->Q () s'):wpAny (model X.prog X.w) A (setAttr (.ref e) f u) Q E s:=by
 obtain ⟨o,vs,he,hc,hd,hf,h0,h1⟩:=Jst I.hok q
 have ne:s.heap.objs.size≠e:=yau (yj he)
 have hn:H s.heap.objs.size=none:=I.hok.fresh (yg _)
 refine Jyb c I.kIn he hc hd hf n λh' kp ke n1=>h s.heap.objs.size _ hn ne ?_
 have hD:h'.get? s.heap.objs.size≠none:=by obtain ⟨oD,_,_,q1,_⟩:=n1;rw [q1];exact λz=>nomatch z
 have qd:∀m:Hp,ObjOk X.prog X.w m h' s.heap.objs.size (XD s.heap.objs.size [(f,y)]):=λm=>xd_ok n1 (λg=>by
  by_cases z:g=f
  ·have zb:(g==f)=true:=beq_iff_eq.mpr z
   simp only [ybp,zb,if_pos z];exact ry
  ·have zb:(g==f)=false:=beq_eq_false_iff_ne.mpr z
   simp only [ybp,zb,if_neg z];exact True.intro) (λg hg=>by
  by_cases z:g=f
  ·rw [z];simp
  ·exact absurd (if_neg z) hg) (by simp)
 have un1:Un X.fs [] H (upd (upd H s.heap.objs.size (XD s.heap.objs.size [(f,y)])) e (XO e C (some s.heap.objs.size) fr)) s.heap h':=by
  have nb:∀b ob,s.heap.get? b=some ob->b≠s.heap.objs.size:=λb ob z=>yq (yj z)
  have sm:∀b u',H b=some u'->u'≠XO e C none fr->upd (upd H s.heap.objs.size (XD s.heap.objs.size [(f,y)])) e (XO e C (some s.heap.objs.size) fr) b=some u':=λb u' z d=>by
   rw [Jjg (λw':b=e=>d (by rw [w',q] at z;exact (yy.inj z).symm)),Jjg (Jjh z hn)];exact z
  refine ⟨λb ob z n _ _=>kp b ob (λw'=>by rw [w',q] at n;cases n) z,λb ob z n _ _=>⟨ob.slots,kp b ob (λw'=>by rw [w',q] at n;cases n) z⟩,λb ob z n _=>?_,λb ob z _=>?_,λb xs z=>sm b _ z (λw'=>by cases w'),λb ob u' z=>sm b _ z (λw'=>by cases w'),λb ps z=>⟨#[],by rw [sm b _ z (λw'=>by cases w')];simp⟩⟩
  ·rw [Jjg (λw'=>by rw [w',q] at n;cases n),Jjg (nb b ob z)];exact n
  ·by_cases w':b=e
   ·exact ⟨_,by rw [w'];exact ke⟩
   ·exact ⟨ob,kp b ob w' z⟩
 refine I.un (t':=s.toks+2) un1 λb ob z=>?_
 by_cases w1:b=e
 ·subst w1
  rw [Jj9] at z;cases z
  exact Yc2 ke hc rfl hf h0 h1
 ·rw [Jjg w1] at z
  by_cases w2:b=s.heap.objs.size
  ·subst w2
   rw [Jj9] at z;cases z
   exact qd _
  ·rw [Jjg w2] at z
   have keep:∀c' u',H c'=some u'->u'≠XO e C none fr->upd (upd H s.heap.objs.size (XD s.heap.objs.size [(f,y)])) e (XO e C (some s.heap.objs.size) fr) c'=some u':=λc' u' zz d=>by
    rw [Jjg (λw':c'=e=>d (by rw [w',q] at zz;exact (yy.inj zz).symm)),Jjg (Jjh zz hn)];exact zz
   refine (I.hok b ob z).stay (λc' v' hc' zz=>kp c' v' ?_ zz) (λc' zz=>keep c' _ zz (λw'=>by cases w')) (λc' xs zz=>keep c' _ zz (λw'=>by cases w')) λc' xs zz=>keep c' _ zz (λw'=>by cases w')
   rcases hc' with rfl|hc'
   ·exact w1
   ·rintro rfl;rw [q] at hc';cases hc'
theorem Inv.xmade {us:List Value} (I:Inv X pins σ H s):Inv X pins σ (upd H (s.heap.objs.size+1) (XO (s.heap.objs.size+1) C none true)) {s with heap:=(s.heap.push (Yf us)).push (xObj C s.heap.objs.size)}:=by
 have I1:=I.kept (h':=s.heap.push (Yf us)) (t':=s.toks) λb u q=>yi _ q
 refine I1.laid (a:=s.heap.objs.size+1) (t':=s.toks) (λb u q=>yi _ q) (ybw (yaa _ _)) ?_
 exact Yc2 (Heap.get?_push_at (by simp only [yaa]) rfl) rfl rfl rfl ⟨_,rfl⟩ ⟨_,rfl,λ_=>rfl⟩
end
def tFldX (K:PySem.W.Frag) (ta:TE) (f:Str):TE:=λσ H Q=>ta σ H λx H1=>∃e C W fI dx fs v fr,x= .ref e/\H1 e=some (XO e C (some dx) fr)/\H1 dx=some (XD dx fs)/\XCls K C W fI/\NoAttr K C f/\fs.lookup f=some v/\Q v H1
def sFldN (K:PySem.W.Frag) (ta tv:TE) (f:Str):TS:=λD σ H=>tv σ H λy H1=>ta σ H1 λx H2=>∃e C W fI fr,x= .ref e/\H2 e=some (XO e C none fr)/\XCls K C W fI/\NoAttr K C f/\∀dx,H2 dx=none->dx≠e->
 D.nx σ (upd (upd H2 dx (XD dx [(f,y)])) e (XO e C (some dx) fr))
def tExc (C:Addr) (sp:Sp) (t:TA):TE:=λσ H Q=>t σ H λvs H1=>vs.length<=1000/\∀e,H1 e=none->sp (.ref e::vs) (upd H1 e (XO e C none true)) (λv H2=>v= .non/\Q (.ref e) H2) E0
section
variable {X:Cx} {o e value:Expr} {f:Str} {pos pos' tpos p:Pos} {ta tv:TE} {C W fI:Addr} {fd:FuncData} {ps:List Str} {sp:Sp} {k j:Nat} {x:Str} {es:List Expr} {t:TA}
theorem Jyp (he:PE X e ta) (hb:attributeBase e f X.env (eval e X.env)=eval e X.env):PE X (.Attribute e f pos) (tFldX X.K ta f):=by
 intro pins s σ H Q I h
 refine Jyd hb (thn (he pins s σ H _ I h) λu s1 zq=>?_)
 obtain ⟨x,H1,I1,rx,a,C,W,fI,dx,fs,v,fr,ex,q,qd,c,n,l,k⟩:=zq
 subst ex
 obtain rfl:u=Value.ref a:=rx
 exact Jww I1 q qd c n l λu' s2 I2 ru=>⟨v,H1,I2,ru,k⟩
theorem Jmo (ha:PE X o ta) (hv:PE X value tv) (hs:swapsWith value (some (.Attribute o f pos')) pos.line X.env=pure false):PS X (.Assign [.Attribute o f pos'] value pos) (sFldN X.K ta tv f):=by
 intro pins s σ H D I h
 refine plainObj_wpAny_Assign_Attribute (thn (hv pins s σ H _ I h) λu s1 ⟨y,H1,I1,ry,q⟩=>thn (ha pins s1 σ H1 _ I1 q) λov s2 zq=>?_) hs
 obtain ⟨x,H2,I2,rx,a,C,W,fI,fr,ex,ea,c,n,q2⟩:=zq
 subst ex
 obtain rfl:ov=Value.ref a:=rx
 exact Yc3 I2 ea c n ry λdx s3 h1 h2 I3=>⟨σ,_,I3,q2 dx h1 h2⟩
theorem Ycw {pins:List (Addr×Obj)} {σ:St} {H:Hp} {s:Shared} {Q:VK} {us:List Value} {vs:List V} (c:XCls X.K C W fI) (G:FnOk X.prog X.w X.K X.mg X.base CX0 k fI fd ps sp) (hr:Room (k+1) X.A) (hb:Binds X.K fd ps []) (I:Inv X pins σ H s) (r:Vals vs us) (hz:vs.length<=1000)
  (h:∀e,H e=none->sp (.ref e::vs) (upd H e (XO e C none true)) (λv H2=>v= .non/\Q (.ref e) H2) E0):wpAny (model X.prog X.w) X.A (call (.ref C) us) (EP X pins σ Q) X.xe s:=by
 have hq:=h (s.heap.objs.size+1) (I.hok.fresh (Nat.le_succ _))
 have I2:=Inv.xmade (C:=C) (us:=us) I
 have r2:Vals (V.ref (s.heap.objs.size+1)::vs) (Value.ref (s.heap.objs.size+1)::us):=.cons rfl r
 have hl:(Value.ref (s.heap.objs.size+1)::us++ []).length=ps.length:=by
  rw [yax,<-r2.length,G.len _ _ _ _ hq]
 refine Ydn c I.kIn (by rw [<-r.length];exact yz hz (by decide)) (wpAny_call (codeAny_mono (G.run _ X.stack _ _ ⟨Value.ref (s.heap.objs.size+1)::us,[]⟩ (Value.ref (s.heap.objs.size+1)::us) _ _ E0 (hr.make C us [])
  (I2.env0.make C us []) (by have:=hb _ (Value.ref (s.heap.objs.size+1)::us) I2.kIn hl;rw [yax] at this;exact this) r2 hq) λr s' hq'=>?_))
 cases r with
 |error e=>exact False.elim hq'
 |ok fl=>
  cases fl with
  |ret u=>
   obtain ⟨v,H',I3,rv,ev,q3⟩:=I2.after hq'
   subst ev
   exact ⟨rv,⟨V.ref (s.heap.objs.size+1),H',I3,rfl,q3⟩⟩
  |next=>exact False.elim hq'
  |brk=>exact False.elim hq'
  |cont=>exact False.elim hq'
theorem Jla (c:XCls X.K C W fI) (G:FnOk X.prog X.w X.K X.mg X.base CX0 k fI fd ps sp) (hr:Room j X.A) (hk:k+1<=j) (hb:Binds X.K fd ps []) (hm:X.mg x=some (.ref C)) (ha:PA X (e::es) t) (hg:Gl X x:=by rfl)
  (hdb:(x==("__debug__" :Str))=false:=by decide) (he:starEach (e::es) X.env=(false,eval e X.env)::starEach es X.env:=by rfl) (hpl:(backTo pos (starEach es X.env)).any (·.1)=false:=by rfl):
  PE X (.Call (.Name x p) (e::es) [] pos) (tExc C sp t):=by
 intro pins s σ H Q I h
 refine wpAny_Call_Name_kw (Jna I hg hm ?_ hdb)
 refine PySem.W.callWith_K (h₀:=X.base) I.ok.mod.kin c.kp (thn (ha pos pins s σ H _ I h) λus s1 ⟨vs,H1,I1,r,z,q⟩=>⟨I1.kIn,?_⟩) he hpl
 exact Ycw c G (hr.mono hk) hb I1 r z q
end
section
variable {K:PySem.W.Frag} {C W fI:Addr} {x:Addr}
theorem xkit (c:XCls K C W fI):PySem.W.KitX K (.ref x) (.ref C) (λh=>∃ox od,PySem.W.InstAt h x ox C (some od)) where
 ty:=λ_ _ _ ⟨_,_,I⟩=>I.type
 it:=λ_ _ X _=>by
  obtain ⟨nm,q,N,bs,sn,sub,ab,col,dd,k0,k1,k2,k3,k5,l⟩:=c.obj
  intro A' Q' E' s' k q
  unfold isType loadHead
  exact wpAny_bind (wpAny_loadPart (k _ _ (X _ _ l)) (wpAny_pure q))
 ne:=λh tp dd its n sl X htp=>by
  obtain ⟨nm,q,N,bs,sn,sub,ab,col,dd,k0,k1,k2,k3,k5,l⟩:=c.obj
  refine Bool.eq_false_iff.mpr λz=>?_
  have e:C=tp:=Value.ref.inj (beq_iff_eq.mp z)
  subst e
  have z:=congrArg (Option.map (·.cls)) ((X _ _ l).symm.trans htp)
  simp at z
 ca:=λ{prog w A E Q s} X ⟨ox,od,I⟩ kq=>by
  have hf:PySem.W.findObj K C (some od) "__class__" =some (.bind (.builtin "getset_descriptor.__get__") (.builtin "object.__class__")):=PySem.W.findObj_data (by obtain ⟨cd,hc,_⟩:=c.mro;rw [hc];rfl) c.cl c.cg c.ct
  obtain ⟨hp,g,d,t,os⟩:=s
  have T0:=I.type (M:=model prog w)
  have T1:=PySem.W.looks_findIn (M:=model prog w) X c.ga
  have T2:=PySem.W.looks_findIn (M:=model prog w) X c.gh
  unfold getAttr? getAttrBy? getAttrBy
  refine wpAny_bind (wpAny_mkText (wpAny_bind (wpAny_attempt (wpAny_holding (wpAny_bind (T0.at (wpAny_bind (T1.at ?_))))))))
  show wpAny _ _ (getAttrByItsOwn (.ref x) _ (.ref C) _ _ _) _ _ _
  unfold getAttrByItsOwn
  refine wpAny_bind (show wpAny _ _ (typeLookup (.ref C) "__getattr__") _ _ _ from T2.at ?_)
  show wpAny _ _ ((holding _ (boundAndCalled (.builtin "BaseException.__getattribute__") (.ref x) (.str "__class__" t))).attempt >>=_) _ _ _
  unfold boundAndCalled
  rw [F.excAttr_ValueError.ga.bind]
  refine wpAny_bind (wpAny_attempt (wpAny_holding (wpAny_bind (wpAny_pure (wpAny_call (Jz1 (s:=⟨hp,g,d,t+1,os⟩) c X I hf ?_ (λz=>nomatch z)))))))
  show wpAny _ _ (holding [_] (call _ [_,.ref x,.ref C]) >>=ret) _ _ _
  refine wpAny_bind (wpAny_holding (wpAny_call (PySem.W.class_get (s:=⟨hp,g,d,t+1,os⟩) X I c.mo (wpAny_pure ?_))))
  show wpAny _ _ (handedOut (.ref C)) _ _ _
  rw [PySem.W.handedOut_of rfl]
  exact wpAny_pure (wpAny_pure kq)
end
end L2
namespace L2
open PySem PySem.Spec PyProof.Rows
section
variable {M:Model} {A:Around} {E:Value->Shared->Prop} {s:Shared} {env:Env} {outer:List Env} {base:Heap} {L e T:Addr} {oe oT:Obj} {vs ts:Array Value} {Q:Unit->Shared->Prop}
theorem Jtw {head:Value} {hadNext:Bool} (hfr:A.frames=some (env::outer)) (hl:s.heap.FunFrames base (env::outer)) (hf:env.frame=some L) (he:s.heap.get? e=some oe) (hd:oe.data= .fields vs) (hz:1 < vs.size)
  (hQ:∀h' T,(∀b o,s.heap.get? b=some o->b∉frs (env::outer)->b≠e->h'.get? b=some o)->(∀b o,s.heap.get? b=some o->b≠e->∃sl,h'.get? b=some {o with slots:=sl})->s.heap.objs.size<=T->
   h'.get? e=some (oe.mapFields (·.setIfInBounds 1 (.ref T)))->(∃oT ts,h'.get? T=some oT/\oT.data= .fields ts/\ts[3]?=some (rawInt L))->Q () {s with heap:=h'}):
  wpAny M A (do let a<-frameOf env;let pl<-entryPlaceOf L hadNext;let b<-EntryCells.newEntry head a .none (rawInt L) .none pl;setField (.ref e) 1 b) Q E s:=by
 have hen:e∉frs (env::outer):=λz=>by
  obtain ⟨_,o,ho,nf⟩:=hl.mem z
  rw [he] at ho
  cases ho
  exact nf vs hd
 refine wpAny_bind (wpAny_frameOf_fun hfr hl hf λh1 sl1=>wpAny_bind (wpAny_entryPlaceOf λpl hpl=>?_))
 unfold EntryCells.newEntry newFields
 have he1:h1.get? e=some oe:=(sl1.2.1 e hen).trans he
 have nT:h1.objs.size≠e:=yau (yj he1)
 refine wpAny_bind (wpAny_newObj_type (wpAny_setField (yi _ he1) hd hz (hQ _ h1.objs.size (λb o hb hn ne=>?_) (λb o hb ne=>?_) (ybw sl1.1.symm) (ybm _ (yi _ he1) (Obj.isFreed_of_fields (Obj.data_mapFields hd _))) ?_)) (hpl.sizeOk5 _ _ _ _ _))
 ·rw [yaz _ _ (yk ne)]
  exact yi _ ((sl1.2.1 b hn).trans hb)
 ·obtain ⟨sl,q⟩:=sl1.2.2 b o hb
  exact ⟨sl,by rw [yaz _ _ (yk ne)];exact yi _ q⟩
 ·refine ⟨_,_,(yaz _ _ (yk nT)).trans (yo h1 rfl),rfl,?_⟩
  first|(simp;done)|(rcases hpl with rfl|⟨_,_,_,_,_,_,_,rfl⟩ <;> simp)
theorem Jxh (hfr:A.frames=some (env::outer)) (hl:s.heap.FunFrames base (env::outer)) (hf:env.frame=some L) (he:s.heap.get? e=some oe) (hd:oe.data= .fields vs) (h1:vs[1]?=some .none)
  (hQ:∀h' T,(∀b o,s.heap.get? b=some o->b∉frs (env::outer)->b≠e->h'.get? b=some o)->(∀b o,s.heap.get? b=some o->b≠e->∃sl,h'.get? b=some {o with slots:=sl})->s.heap.objs.size<=T->
   h'.get? e=some (oe.mapFields (·.setIfInBounds 1 (.ref T)))->(∃oT ts,h'.get? T=some oT/\oT.data= .fields ts/\ts[3]?=some (rawInt L))->Q () {s with heap:=h'}):
  wpAny M A (noteFrame (.ref e) env) Q E s:=by
 unfold noteFrame
 simp only [hf]
 refine wpAny_bind (wpAny_field he hd h1 ?_)
 rw [if_neg (by decide:¬(Value.none !=Value.none)=true)]
 exact Jtw hfr hl hf he hd (ybz.mp h1).1 hQ
theorem Jzn (hfr:A.frames=some (env::outer)) (hl:s.heap.FunFrames base (env::outer)) (hf:env.frame=some L) (he:s.heap.get? e=some oe) (hd:oe.data= .fields vs) (h1:vs[1]?=some (.ref T))
  (hT:s.heap.get? T=some oT) (hdT:oT.data= .fields ts) (h3:ts[3]?=some .none) (ne:T≠e)
  (hQ:∀h' T',(∀b o,s.heap.get? b=some o->b∉frs (env::outer)->b≠e->b≠T->h'.get? b=some o)->(∀b o,s.heap.get? b=some o->b≠e->b≠T->∃sl,h'.get? b=some {o with slots:=sl})->s.heap.objs.size<=T'->
   h'.get? e=some (oe.mapFields (·.setIfInBounds 1 (.ref T')))->(∃oT ts,h'.get? T'=some oT/\oT.data= .fields ts/\ts[3]?=some (rawInt L))->Q () {s with heap:=h'}):
  wpAny M A (noteFrame (.ref e) env) Q E s:=by
 unfold noteFrame
 simp only [hf]
 refine wpAny_bind (wpAny_field he hd h1 ?_)
 rw [if_pos (by simp:(Value.ref T !=Value.none)=true)]
 refine wpAny_bind (wpAny_field hT hdT h3 ?_)
 rw [if_neg (by simp [rawInt]:¬(Value.none==rawInt L)=true)]
 have ot:∀b,b≠T->(s.heap.update T (Obj.mapFields (·.setIfInBounds 3 Value.none))).get? b=s.heap.get? b:=λb hb=>yaz _ _ (yk hb)
 have nr:∀b o,s.heap.get? b=some o->(∀ws,o.data≠ .fields ws)->b≠T:=λb o hb nf z=>by
  rw [z,hT] at hb
  cases hb
  exact nf ts hdT
 refine wpAny_bind (wpAny_setField hT hdT (ybz.mp h3).1 ?_)
 refine Jtw (s:={s with heap:=s.heap.update T (Obj.mapFields (·.setIfInBounds 3 Value.none))}) hfr (hl.of_keeps λb o hb nf=>⟨o,(ot b (nr b o hb nf)).trans hb,rfl⟩) hf ((ot e (yk ne)).trans he) hd (ybz.mp h1).1 λh' T' k1 k2 k3 k4 k5=>?_
 refine hQ h' T' (λb o hb hn h1 h2=>k1 b o ((ot b h2).trans hb) hn h1) (λb o hb h1 h2=>k2 b o ((ot b h2).trans hb) h1) ?_ k4 k5
 have z:(s.heap.update T (Obj.mapFields (·.setIfInBounds 3 Value.none))).objs.size=s.heap.objs.size:=Heap.size_after_update ..
 rw [<-z];exact k3
end
def Flt (X:Cx) (pins:List (Addr×Obj)) (H:Hp) (h:Heap) (e:Addr) (fl:Value):Prop:=
 ∃oe vs T oT ts,h.get? e=some oe/\oe.data= .fields vs/\vs[1]?=some (.ref T)/\H T=none/\h.get? T=some oT/\oT.data= .fields ts/\ts[3]?=some fl/\X.s₀.heap.objs.size<=T/\∀p∈X.pn++pins,p.1≠T
def Jyc (X:Cx):Prop:=X.stack=X.env::X.outer/\X.env.frame=some X.env.locals
section
variable {X:Cx} {pins:List (Addr×Obj)} {σ:St} {H:Hp} {s:Shared} {e C:Addr} {od:Option Addr} {fr fr':Bool} {A:Around} {M:Model} {E:Value->Shared->Prop} {Q:Unit->Shared->Prop} {fl:Value} {h':Heap}
theorem Inv.freeOf (I:Inv X pins σ H s) {b:Addr} {o:Obj} {ts:Array Value} (hb:s.heap.get? b=some o) (hd:o.data= .fields ts):b≠X.env.locals/\∀x c,X.env.cells.lookup x=some c->c≠b:=by
 refine ⟨λz=>?_,λx c e z=>?_⟩
 ·obtain ⟨m,⟨o',es,ep,ho',hd',_⟩,_⟩:=I.loc
  rw [z,ho'] at hb;cases hb;rw [hd'] at hd;cases hd
 ·obtain ⟨v,o',ho',hd'⟩:=I.cell x c e
  rw [z,hb] at ho';cases ho';rw [hd] at hd';cases hd'
theorem Inv.fly {ch:List Addr} (I:Inv X pins σ H s) (q:H e=some (XO e C od fr)) (hch:∀b∈ch,X.s₀.heap.objs.size<=b/\H b=none/\(∃o ts,s.heap.get? b=some o/\o.data= .fields ts)/\∀p∈X.pn++pins,p.1≠b)
  (k:∀b o,s.heap.get? b=some o->b∉frs X.stack->b≠e->b∉ch->h'.get? b=some o) (ks:∀b o,s.heap.get? b=some o->b≠e->b∉ch->∃sl,h'.get? b=some {o with slots:=sl})
  (new:ObjOk X.prog X.w (upd H e (XO e C od fr')) h' e (XO e C od fr')):Inv X pins σ (upd H e (XO e C od fr')) {s with heap:=h'}:=by
 have ne:∀b u,H b=some u->u≠XO e C od fr->b≠e:=λb u z d w'=>d (by rw [w',q] at z;exact (yy.inj z).symm)
 have nn:∀b,H b=none->b≠e:=λb z w'=>by rw [w',q] at z;cases z
 have u:Un (frs X.stack) ch H (upd H e (XO e C od fr')) s.heap h':=by
  refine ⟨λb o hb n hs hc=>k b o hb hs (nn b n) hc,λb o hb n _ hc=>ks b o hb (nn b n) hc,λb o _ n _=>by rw [Jjg (nn b n)];exact n,λb o hb hc=>?_,λb xs z=>?_,λb o u z=>?_,λb ps z=>⟨#[],?_⟩⟩
  ·by_cases w':b=e
   ·rw [w'];exact new.2.1
   ·obtain ⟨sl,z⟩:=ks b o hb w' hc
    exact ⟨_,z⟩
  ·rw [Jjg (ne b _ z (λw'=>by cases w'))];exact z
  ·rw [Jjg (ne b _ z (λw'=>by cases w'))];exact z
  ·rw [Jjg (ne b _ z (λw'=>by cases w')),z];simp
 refine I.call (g':=s.gens) (d':=s.drawn) (t':=s.toks) (ch:=ch) u (λb o z=>?_) I.bare λb hb=>?_
 ·by_cases w':b=e
  ·subst w'
   rw [Jj9] at z;cases z
   exact new
  ·rw [Jjg w'] at z
   refine (I.hok b o z).stay (λc v hc zz=>k c v zz ?_ ?_ ?_) (λc zz=>by rw [Jjg (ne c _ zz (λw'=>by cases w'))];exact zz) (λc xs zz=>by rw [Jjg (ne c _ zz (λw'=>by cases w'))];exact zz) λc xs zz=>by rw [Jjg (ne c _ zz (λw'=>by cases w'))];exact zz
   ·intro hs
    have:=I.stkFree c hs
    rcases hc with rfl|hc
    ·rw [this] at z;cases z
    ·rw [this] at hc;cases hc
   ·rcases hc with rfl|hc
    ·exact w'
    ·exact ne c _ hc (λw'=>by cases w')
   ·intro hb
    have:=(hch c hb).2.1
    rcases hc with rfl|hc
    ·rw [this] at z;cases z
    ·rw [this] at hc;cases hc
 ·obtain ⟨h1,_,⟨o,ts,ho,hd⟩,h4⟩:=hch b hb
  exact ⟨.inr h1,(I.freeOf ho hd).1,(I.freeOf ho hd).2,h4⟩
theorem Juz (I:Inv X pins σ H s) (hs:Jyc X) (hA:A.frames=some X.stack) (q:H e=some (XO e C od fr)) (hfl:fr=true\/Flt X pins H s.heap e .none)
  (h:∀s',Inv X pins σ (upd H e (XO e C od false)) s'->Flt X pins (upd H e (XO e C od false)) s'.heap e (rawInt X.env.locals)->Q () s'):wpAny M A (noteFrame (.ref e) X.env) Q E s:=by
 obtain ⟨o,vs,he,hc,hd,hf,⟨t0,h0⟩,y,h1,hy⟩:=Jst I.hok q
 have hA':A.frames=some (X.env::X.outer):=by rw [hA,hs.1]
 have FF:s.heap.FunFrames X.base (X.env::X.outer):=by rw [<-hs.1];exact I.stack
 have sub:∀b,b∉frs X.stack->b∉frs (X.env::X.outer):=λb z w'=>z (by rw [hs.1];exact w')
 have new:∀{h':Heap} {T:Addr},h'.get? e=some (o.mapFields (·.setIfInBounds 1 (.ref T)))->ObjOk X.prog X.w (upd H e (XO e C od false)) h' e (XO e C od false):=λ{h' T} z=>by
  have hz:1 < vs.size:=(ybz.mp h1).1
  refine Yc2 z ((Obj.cls_mapFields _ _).trans hc) ?_ (Obj.data_mapFields hf _) ⟨t0,by rw [Array.getElem?_setIfInBounds_ne (by decide)];exact h0⟩ ⟨.ref T,by simp [hz],λz=>nomatch z⟩
  obtain ⟨_,_,dt,_⟩:=o
  cases dt <;> first|exact hd|cases hf
 have fin:∀{h':Heap} {T:Addr},Inv X pins σ (upd H e (XO e C od false)) {s with heap:=h'}->s.heap.objs.size<=T->h'.get? e=some (o.mapFields (·.setIfInBounds 1 (.ref T)))->(∃oT ts,h'.get? T=some oT/\oT.data= .fields ts/\ts[3]?=some (rawInt X.env.locals))->Q () {s with heap:=h'}:=λ{h' T} J k3 k4 ⟨oT,ts,k5,k6,k7⟩=>by
  have hz:1 < vs.size:=(ybz.mp h1).1
  refine h _ J ⟨_,_,T,oT,ts,k4,Obj.data_mapFields hf _,by simp [hz],?_,k5,k6,k7,yz I.sz k3,λp hp z=>?_⟩
  ·rw [Jjg (λz=>absurd (yj he) (by rw [<-z];exact yas.mpr k3))]
   exact I.hok.fresh k3
  ·obtain ⟨z1,_⟩:=I.pin p hp
   exact absurd (yj z1) (by rw [z];exact yas.mpr k3)
 by_cases hfr:y= .none
 ·subst hfr
  refine Jxh hA' FF hs.2 he hf h1 λh' T k1 k2 k3 k4 k5=>fin (I.fly (ch:=[]) q (λb z=>absurd z (by simp)) (λb o hb hn ne _=>k1 b o hb (sub b hn) ne) (λb o hb ne _=>k2 b o hb ne) (new k4)) k3 k4 k5
 ·rcases hfl with z|⟨oe,ws,T,oT,ts,z1,z2,z3,z4,z5,z6,z7,z8,z9⟩
  ·exact absurd (hy z) hfr
  ·rw [he] at z1;cases z1
   rw [hf] at z2;cases z2
   have ne:T≠e:=λw'=>by rw [w',q] at z4;cases z4
   refine Jzn hA' FF hs.2 he hf z3 z5 z6 z7 ne λh' T' k1 k2 k3 k4 k5=>fin (I.fly (ch:=[T]) q (λb hb=>?_) (λb o hb hn ne hc=>k1 b o hb (sub b hn) ne (by simpa using hc)) (λb o hb ne hc=>k2 b o hb ne (by simpa using hc)) (new k4)) k3 k4 k5
   obtain rfl:b=T:=by simpa using hb
   exact ⟨z8,z4,⟨oT,ts,z5,z6⟩,z9⟩
theorem Joc (I:Inv X pins σ H s) (q:H e=some (XO e C od fr)) (hfl:Flt X pins H s.heap e fl) (h:∀s',Inv X pins σ H s'->Flt X pins H s'.heap e .none->Q () s'):wpAny M A (setFlight (.ref e) none) Q E s:=by
 obtain ⟨oe,vs,T,oT,ts,z1,z2,z3,z4,z5,z6,z7,z8,z9⟩:=hfl
 have hz:3 < ts.size:=(ybz.mp z7).1
 have ne:T≠e:=λw'=>by rw [w',q] at z4;cases z4
 have ot:∀b,b≠T->(s.heap.update T (Obj.mapFields (·.setIfInBounds 3 Value.none))).get? b=s.heap.get? b:=λb hb=>yaz _ _ (yk hb)
 refine wpAny_setFlight_none z1 z2 z3 z5 z6 hz (h _ (I.turned (it:=T) (t':=s.toks) (λb o hb z=>(ot b hb).trans z) z4 (I.freeOf z5 z6).1 (.inr z8) (I.freeOf z5 z6).2 z9) ?_)
 exact ⟨oe,vs,T,_,_,(ot e (yk ne)).trans z1,z2,z3,z4,ybm _ z5 (Obj.isFreed_of_fields (Obj.data_mapFields z6 _)),Obj.data_mapFields z6 _,by simp [hz],z8,z9⟩
end
def CXX (P:Program) (w:World):CXT:=λouter H s E ev s'=>∃e C dx H',ev= .ref e/\s'.os=s.os/\AllBare s'.gens/\Un (frs outer) [] H H' s.heap s'.heap/\HOk P w H' s'.heap/\H' e=some (XO e C (some dx) false)/\
 (∃oe vs T oT ts,s'.heap.get? e=some oe/\oe.data= .fields vs/\vs[1]?=some (.ref T)/\H' T=none/\s'.heap.get? T=some oT/\oT.data= .fields ts/\ts[3]?=some .none/\s.heap.objs.size<=T)/\E (.ref C) (some e) H'
def Jpk (X:Cx) (R:St->XK):Prop:=∀pins σ H s e C dx fr,Inv X pins σ H s->H e=some (XO e C (some dx) fr)->(fr=true\/Flt X pins H s.heap e .none)->R σ (.ref C) (some e) (upd H e (XO e C (some dx) false))->X.xe (.ref e) s
theorem Jkc {P:Program} {w:World} {K:PySem.W.Frag} {mg:Str->Option Value} {base:Heap} {N:List Str} {qual:Str} {scope:Scope} {f:Addr} {cd:Value} {A:Around} {outer:List Env} {s:Shared} {H:Hp} {E:XK}:
  Jpk (Juo (CXX P w) P w K mg base N qual scope f cd A outer s H E) (λ_=>E):=by
 intro pins σ H1 s1 e C dx fr I q hfl hE
 show wpAny _ _ (leaving _ _) _ _ _
 unfold leaving
 refine wpAny_bind (Juz I ⟨rfl,rfl⟩ I.ok.frames q hfl λs2 I2 f2=>Joc I2 Jj9 f2 λs3 I3 f3=>?_)
 obtain ⟨oe,vs,T,oT,ts,z1,z2,z3,z4,z5,z6,z7,z8,_⟩:=f3
 exact ⟨e,C,dx,_,rfl,I3.os,I3.bare,I3.base,I3.hok,Jj9,⟨oe,vs,T,oT,ts,z1,z2,z3,z4,z5,z6,z7,z8⟩,hE⟩
theorem upd_id {H:Hp} {a:Addr} {o:HO} (h:H a=some o):upd H a o=H:=by
 funext b
 unfold upd
 split
 ·rename_i z;rw [z,h]
 ·rfl
section
variable {X:Cx} {pins:List (Addr×Obj)} {σ:St} {H:Hp} {s s':Shared} {R:St->XK} {ev:Value}
theorem Jz3 (hw:Jpk X R) (I:Inv X pins σ H s) (h:CXX X.prog X.w X.stack H s (R σ) ev s'):X.xe ev s':=by
 obtain ⟨e,C,dx,H',rfl,ho,hg,un,hok,q,⟨oe,vs,T,oT,ts,z1,z2,z3,z4,z5,z6,z7,z8⟩,hR⟩:=h
 have I':Inv X pins σ H' s':=I.call' (ch:=[]) ho un hok hg λb z=>absurd z (by simp)
 refine hw pins σ H' s' e C dx false I' q (.inr ⟨oe,vs,T,oT,ts,z1,z2,z3,z4,z5,z6,z7,yz I.sz z8,λp hp z=>?_⟩) (by rw [upd_id q];exact hR)
 obtain ⟨y1,_⟩:=I.pin p hp
 exact absurd (yj y1) (by rw [z];exact yas.mpr z8)
end
theorem FnOk.calm {P:Program} {w:World} {K:PySem.W.Frag} {mg:Str->Option Value} {base:Heap} {k:Nat} {f:Addr} {fd:FuncData} {ps:List Str} {sp:Sp} (G:FnOk P w K mg base (CXX P w) k f fd ps sp):FnOk P w K mg base CX0 k f fd ps (λvs H Q _=>sp vs H Q E0):=
 ⟨λvs H Q _ h=>G.len vs H Q E0 h,λA outer s H args us vs Q E hr he hb hv hs=>codeAny_mono (G.run A outer s H args us vs Q E0 hr he hb hv hs) λr s' hq=>by
  cases r with
  |error e=>obtain ⟨_,_,_,_,_,_,_,_,_,_,_,z⟩:=hq;exact z.elim
  |ok fl=>cases fl <;> exact hq⟩
theorem Fun.okX {P:Program} {w:World} {K:PySem.W.Frag} {mg:Str->Option Value} {base:Heap} {x qual:Str} {st:Stmt} {f:Addr} {fd:FuncData} {N ps:List Str} {k:Nat} {sp:Sp} (F:Fun K x qual st f fd) (S:Jjj N ps (Jje st)) (len:∀vs H Q E,sp vs H Q E->vs.length=ps.length)
  (hbody:∀(cdv:Value) (A:Around) (outer:List Env) (s:Shared) (H:Hp) (vs:List V) (Q:VK) (E:XK),Room k (A.deeper (envOfC qual (Jje st) s.heap.objs.size f cdv))->sp vs H Q E->
   ∃t,PSs (Juo (CXX P w) P w K mg base N qual (Jje st) f cdv A outer s H E) (Jkb st) t/\t {nx:=λ_ H'=>Q .non H',rt:=Q} (start N vs) H):FnOk P w K mg base (CXX P w) (k+1) f fd ps sp:=by
 obtain ⟨oc,od,kV,doc,pm,an,cdv,ct,osl,rfl,lk,hcd⟩:=F.ex
 exact fn_of lk hcd S len λA outer s H vs Q E hr hsp=>hbody cdv A outer s H vs Q E hr hsp
def tCallX (sp:Sp) (R:St->XK) (t:TA):TE:=λσ H Q=>t σ H λvs H1=>sp vs H1 Q (R σ)
section
variable {X:Cx} {k j:Nat} {f C:Addr} {fd:FuncData} {ps:List Str} {sp:Sp} {R:St->XK} {x m:Str} {p pos apos:Pos} {e o:Expr} {es:List Expr} {ta:TE} {t:TA}
theorem Ycx {pins:List (Addr×Obj)} {σ:St} {H:Hp} {s:Shared} {Q:VK} {us:List Value} {vs:List V} (G:FnOk X.prog X.w X.K X.mg X.base (CXX X.prog X.w) k f fd ps sp) (hw:Jpk X R) (hr:Room k X.A) (hb:Binds X.K fd ps [])
  (I:Inv X pins σ H s) (r:Vals vs us) (h:sp vs H Q (R σ)):wpAny (model X.prog X.w) X.A (call (.ref f) us) (EP X pins σ Q) X.xe s:=by
 have hl:(us++ []).length=ps.length:=by rw [yax,<-r.length,G.len _ _ _ _ h]
 have hb':=hb s us I.kIn hl
 rw [yax] at hb'
 refine wpAny_call (codeAny_mono (G.run X.A X.stack s H ⟨us,[]⟩ us vs Q (R σ) hr I.env0 hb' r h) λr s' hq=>?_)
 cases r with
 |error e=>exact Jz3 hw I hq
 |ok fl=>
  cases fl with
  |ret u=>exact I.after hq
  |next=>exact False.elim hq
  |brk=>exact False.elim hq
  |cont=>exact False.elim hq
theorem Jkd {st:Stmt} (F:FT X.K X.mg x st ps f fd) (G:FnOk X.prog X.w X.K X.mg X.base (CXX X.prog X.w) k f fd ps sp) (hw:Jpk X R) (hr:Room j X.A) (hk:k<=j) (ha:PA X (e::es) t) (hg:Gl X x:=by rfl)
  (hdb:(x==("__debug__" :Str))=false:=by decide) (he:starEach (e::es) X.env=(false,eval e X.env)::starEach es X.env:=by rfl) (hpl:(backTo pos (starEach es X.env)).any (·.1)=false:=by rfl):
  PE X (.Call (.Name x p) (e::es) [] pos) (tCallX sp R t):=by
 intro pins s σ H Q I h
 refine wpAny_Call_Name_kw (Jna I hg F.mgx ?_ hdb)
 refine PySem.W.callWith_K (h₀:=X.base) I.ok.mod.kin F.fn.kp (thn (ha pos pins s σ H _ I h) λus s1 ⟨vs,H1,I1,r,q⟩=>⟨I1.kIn,?_⟩) he hpl
 exact Ycx G hw (hr.mono hk) F.bd I1 r q
end
end L2
namespace L2
open PySem PySem.Spec PyProof.Rows
def Yax (K:PySem.W.Frag) (R:St->XK) (te:TE):TS:=λ_ σ H=>te σ H λv H1=>∃e C W fI dx,v= .ref e/\H1 e=some (XO e C (some dx) true)/\XCls K C W fI/\R σ (.ref C) (some e) (upd H1 e (XO e C (some dx) false))
section
variable {X:Cx} {R:St->XK} {x:Expr} {pos:Pos} {te:TE}
theorem Jke (hw:Jpk X R) (hc:X.calm=true) (hx:PE X x te):PS X (.Raise (some x) none pos) (Yax X.K R te):=by
 intro pins s σ H D I h
 rw [arm_exec_Raise]
 refine wpAny_bind (wpAny_standAt ?_)
 show wpAny _ _ (raiseStmt X.env (some (do let v<-eval x X.env;standAt pos;pure v)) none) _ _ _
 unfold raiseStmt
 refine wpAny_bind (wpAny_bind (thn (hx pins s σ H _ I h) λu s1 ⟨y,H1,I1,ry,e,C,W,fI,dx,ey,q,c,k⟩=>wpAny_bind (wpAny_standAt (wpAny_pure ?_))))
 subst ey
 obtain rfl:u=Value.ref e:=ry
 obtain ⟨o,vs,he,hcl,hd,hf,h0,y,h1,hy⟩:=Jst I1.hok q
 have hy':=hy rfl
 subst hy'
 have fin:X.xe (.ref e) s1:=hw pins σ H1 s1 e C dx true I1 q (.inl rfl) k
 have hh:X.A.handled=none:=I.ok.hd hc
 obtain ⟨nm,qn,N,bs,sn,sub,ab,col,dd,k0,k1,k2,k3,k5,l⟩:=c.obj
 have kC:=I1.kIn _ _ l
 have hcB:(Value.ref C:: .ref W::VEm).contains (.type "BaseException")=true:=by simp
 obtain ⟨oc,odi,oda,osl⟩:=o
 dsimp only at hcl hd hf
 subst hcl hd hf
 obtain ⟨hp,g,d,tk,os⟩:=s1
 repeat (first|with_reducible refine wpAny_loadPart_at he ?_|with_reducible refine wpAny_loadPart_at kC ?_|(with_reducible refine wpAny_isSubtype_exc kC ?_;rw [hcB])|with_reducible refine wpAny_field he rfl h1 ?_|wp_step)
 exact wpAny_raiseNew_none hh fin
end
structure ECls (K:PySem.W.Frag) (C:Addr):Prop where
 obj:∃(dd:Option Addr) (cd:ClassData) (sl:Array (Option Value)),K.lookup C=some ⟨.type "type",dd,.cls cd,sl⟩
 mb:PySem.W.mroIn K C (.type "BaseException")=some true
section
variable {prog:Program} {w:World} {A:Around} {E:Value->Shared->Prop} {s:Shared} {K:PySem.W.Frag} {e C C0:Addr} {oe:Obj} {b:Bool}
theorem Jxe {Q:Bool->Shared->Prop} (X:K.In s.heap) (c0:ECls K C0) (he:s.heap.get? e=some oe) (hc:oe.cls= .ref C) (hm:PySem.W.mroIn K C (.ref C0)=some b) (q:Q b s):wpAny (model prog w) A (excMatches (.ref e) (.ref C0)) Q E s:=by
 obtain ⟨dd,cd,sl,l⟩:=c0.obj
 have k0:=X _ _ l
 have f0:=tc_notTuple
 have m1:=PySem.W.looks_mroIn (M:=model prog w) X c0.mb
 have m2:=PySem.W.looks_mroIn (M:=model prog w) X hm
 obtain ⟨oc,odi,oda,osl⟩:=oe
 dsimp only at hc
 subst hc
 obtain ⟨hp,g,d,tk,os⟩:=s
 unfold excMatches
 repeat (first|with_reducible refine wpAny_loadPart_at he ?_|with_reducible refine wpAny_loadPart_at k0 ?_|with_reducible refine m1.at ?_|with_reducible refine m2.at ?_|wp_step)
 cases b <;> (repeat wp_step) <;> exact q
end
def Cx.caught (X:Cx) (e:Addr):Cx:={X with A:=X.A.mark (some (.ref e)),calm:=false,xe:=λ_ _=>False}
def Cx.tried (X:Cx) (pins:List (Addr×Obj)) (R:St->XK):Cx:=
 {X with pn:=X.pn++pins,xe:=λev s'=>∃σ H e C dx fr,ev= .ref e/\Inv X pins σ H s'/\H e=some (XO e C (some dx) fr)/\(fr=true\/Flt X pins H s'.heap e .none)/\R σ (.ref C) (some e) (upd H e (XO e C (some dx) false))}
section
variable {X:Cx} {pins pins':List (Addr×Obj)} {σ:St} {H:Hp} {s:Shared} {R:St->XK} {e:Addr}
theorem Inv.caught (I:Inv X pins σ H s) (e:Addr):Inv (X.caught e) pins σ H s:=
 ⟨⟨I.ok.mod,I.ok.kind,I.ok.glob,I.ok.blt,I.ok.above,I.ok.inj,I.ok.has,I.ok.cab,(λz=>nomatch z),I.ok.frames,I.ok.stk,I.ok.exf,I.ok.bs,I.ok.bsz,I.ok.noex,I.ok.exfs,I.ok.funs,I.ok.frf⟩,I.os,I.bare,I.base,I.loc,I.cell,I.free,I.freeC,I.pin,I.hok,I.len⟩
theorem Inv.uncaught (ok:X.Ok) (I:Inv (X.caught e) pins σ H s):Inv X pins σ H s:=⟨ok,I.os,I.bare,I.base,I.loc,I.cell,I.free,I.freeC,I.pin,I.hok,I.len⟩
theorem Inv.tried (I:Inv X pins σ H s) (R:St->XK):Inv (X.tried pins R) [] σ H s:=
 ⟨⟨I.ok.mod,I.ok.kind,I.ok.glob,I.ok.blt,I.ok.above,I.ok.inj,I.ok.has,I.ok.cab,I.ok.hd,I.ok.frames,I.ok.stk,I.ok.exf,I.ok.bs,I.ok.bsz,I.ok.noex,I.ok.exfs,I.ok.funs,I.ok.frf⟩,I.os,I.bare,I.base,I.loc,I.cell,I.free,I.freeC,(λp hp=>I.pin p (by rw [yax] at hp;exact hp)),I.hok,I.len⟩
theorem Inv.untried (I:Inv (X.tried pins R) pins' σ H s):Inv X pins σ H s:=
 ⟨⟨I.ok.mod,I.ok.kind,I.ok.glob,I.ok.blt,I.ok.above,I.ok.inj,I.ok.has,I.ok.cab,I.ok.hd,I.ok.frames,I.ok.stk,I.ok.exf,I.ok.bs,I.ok.bsz,I.ok.noex,I.ok.exfs,I.ok.funs,I.ok.frf⟩,I.os,I.bare,I.base,I.loc,I.cell,I.free,I.freeC,(λp hp=>I.pin p (yci _ hp)),I.hok,I.len⟩
theorem xw_try:Jpk (X.tried pins R) R:=λpins' σ H s e C dx fr I q hfl hR=>⟨σ,H,e,C,dx,fr,rfl,I.untried,q,hfl.imp id λ⟨oe,vs,T,oT,ts,z1,z2,z3,z4,z5,z6,z7,z8,z9⟩=>⟨oe,vs,T,oT,ts,z1,z2,z3,z4,z5,z6,z7,z8,λp hp=>z9 p (yci _ hp)⟩,hR⟩
theorem SP.map {X Y:Cx} {pl pm:List (Addr×Obj)} {D:Ends} {f:Flow} {s':Shared} (hI:∀σ H,Inv X pl σ H s'->Inv Y pm σ H s') (h:SP X pl D f s'):SP Y pm D f s':=by
 cases f with
 |next=>obtain ⟨σ',H',I,q⟩:=h;exact ⟨σ',H',hI _ _ I,q⟩
 |brk=>obtain ⟨σ',H',I,q⟩:=h;exact ⟨σ',H',hI _ _ I,q⟩
 |cont=>obtain ⟨σ',H',I,q⟩:=h;exact ⟨σ',H',hI _ _ I,q⟩
 |ret u=>obtain ⟨v,σ',H',I,r,q⟩:=h;exact ⟨v,σ',H',hI _ _ I,r,q⟩
theorem Yb {M:Model} {A:Around} {E:Value->Shared->Prop} {i:Nat} {n:Str} {pos:Pos} {Q:Unit->Shared->Prop} (I:Inv X pins σ H s) (hN:X.N.Nodup) (hi:X.N[i]?=some n) (hk:X.env.scope.names.lookup n=some .local)
  (h:∀s',Inv X pins (σ.set i none) H s'->Q () s'):wpAny M A (do bindName X.env n .none;unbindBehindTheSuite X.env n pos) Q E s:=by
 obtain ⟨m,hn,hl⟩:=id I.loc
 have hcls:(X.env.scope.kind== .class||(X.env.scope.kind== .module&&X.env.locals !=X.env.globals))=false:=by rw [I.ok.kind];rfl
 have cne:=I.cne
 refine wpAny_nameGoes_keeps hk hn hcls λh' v hn' sb=>h _ ?_
 obtain ⟨oL,_,_,hoL,_⟩:=id hn
 have lo:∀b o,X.s₀.heap.get? b=some o->b≠X.env.locals:=λb o z=>yq (yah (yj z) I.ok.above)
 refine ⟨I.ok,I.os,I.bare,⟨λb o z n hb hx=>(sb.2 b (lo b o z)).trans (I.base.keep b o z n hb hx),λb o z n hb hx=>?_,I.base.free,λb o z hx=>?_,I.base.tups,I.base.frzs,I.base.tbls⟩,⟨_,hn',λj y v' e1 e2 e3=>?_⟩,λy c z=>?_,I.free,I.freeC,λp hp=>?_,λb ob z=>?_,by simpa using I.len⟩
 ·obtain ⟨sl,z1⟩:=I.base.slot b o z n hb hx
  exact ⟨sl,(sb.2 b (lo b o z)).trans z1⟩
 ·obtain ⟨o',z1⟩:=I.base.there b o z hx
  exact ⟨o',(sb.2 b (lo b o z)).trans z1⟩
 ·have hj:j≠i:=λz=>by
   subst z
   have:j < σ.length:=by rw [I.len];exact (yv.mp hi).1
   rw [List.getElem?_set_self this] at e2
   cases e2
  rw [List.getElem?_set_ne (yk hj)] at e2
  obtain ⟨u',r',q⟩:=hl j y v' e1 e2 e3
  refine ⟨u',r',?_⟩
  rcases q with ⟨k,z⟩|⟨k,c,z,zz⟩
  ·refine .inl ⟨k,?_⟩
   have:y≠n:=λz=>hj (Js1 hN e1 (z▸hi))
   show (if y=n then v else m y)=some u'
   rw [if_neg this];exact z
  ·exact .inr ⟨k,c,z,zz.sameBut sb (cne y c z)⟩
 ·obtain ⟨w',zz⟩:=I.cell y c z
  exact ⟨w',zz.sameBut sb (cne y c z)⟩
 ·obtain ⟨z,n,ne,nf,d⟩:=I.pin p hp
  exact ⟨(sb.2 p.1 ne).trans z,n,ne,nf,d⟩
 ·refine (I.hok b ob z).stay (λc w' hc q=>(sb.2 c ?_).trans q) (λ_ q=>q) (λ_ _ q=>q) λ_ _ q=>q
  rintro rfl
  rcases hc with rfl|hc
  ·rw [I.free] at z;cases z
  ·rw [I.free] at hc;cases hc
end
abbrev TH:=Ends->St->Value->Option Addr->Hp->Prop
def PH (X:Cx) (hs:List ExceptHandler) (th:TH):Prop:=
 ∀(pins:List (Addr×Obj)) (s:Shared) (σ:St) (H:Hp) (D:Ends) (e C dx:Addr),Inv X pins σ H s->H e=some (XO e C (some dx) false)->Flt X pins H s.heap e .none->th D σ (.ref C) (some e) H->
  wpAny (model X.prog X.w) X.A (handleBy (.ref e) X.env hs) (SP X pins D) X.xe s
def hNil:TH:=λ_ _ _ _ _=>False
theorem Yaq {X:Cx}:PH X [] hNil:=λ_ _ _ _ _ _ _ _ _ _ _ h=>h.elim
def Ends.less (D:Ends) (i:Nat):Ends:=⟨λσ H=>D.nx (σ.set i none) H,D.rt,λσ H=>D.bk (σ.set i none) H,λσ H=>D.ct (σ.set i none) H⟩
def hAs (K:PySem.W.Frag) (C0:Addr) (i:Nat) (ts:Addr->TS) (th:TH):TH:=λD σ c eo H=>∃e C b,c= .ref C/\eo=some e/\PySem.W.mroIn K C (.ref C0)=some b/\if b=true then ts e (D.less i) (σ.set i (some (.ref e))) H else th D σ c eo H
section
variable {X:Cx} {x n:Str} {np pos:Pos} {C0:Addr} {i:Nat} {b₀:Stmt} {suite:List Stmt} {rest:List ExceptHandler} {ts:Addr->TS} {th:TH}
theorem ph_as (c0:ECls X.K C0) (hm:X.mg x=some (.ref C0)) (hN:X.N.Nodup) (hi:X.N[i]?=some n) (hl:X.env.scope.names.lookup n=some .local) (hsu:∀e,PSs (X.caught e) (b₀::suite) (ts e)) (hr:PH X rest th) (hg:Gl X x:=by rfl)
  (hdb:(x==("__debug__" :Str))=false:=by decide):PH X (.ExceptHandler (some (.Name x np)) (some n) (b₀::suite) pos::rest) (hAs X.K C0 i ts th):=by
 rintro pins s σ H D e C dx I q hfl ⟨e',C',b,hC,he,hmr,h⟩
 cases hC
 cases he
 obtain ⟨o,vs,go,gc,_⟩:=Jst I.hok q
 refine wpAny_handleBy_cons (codeAny_handlers_test (Jna (X:=X.caught e) (I.caught e) hg hm (Jxe I.kIn c0 go gc hmr ?_) hdb)) (λz=>by cases z)
 cases b with
 |false=>exact hr pins s σ H D e C dx I q hfl h
 |true=>
  refine codeAny_handlers_suite_as (Joc I q hfl λs1 I1 f1=>Jo9 (v:=.ref e) I1 hN hi (.inl hl) rfl (λs2 I2=>?_) (.inr hl))
  refine wpAny_mono (hsu e pins s2 _ H (D.less i) (I2.caught e) h) (λf s3 hf=>?_) λ_ _ z=>False.elim z
  have go:∀{f:Flow} {σ':St} {H':Hp},Inv (X.caught e) pins σ' H' s3->(∀s',Inv X pins (σ'.set i none) H' s'->SP X pins D f s')->wpAny (model X.prog X.w) X.A (do bindName X.env n .none;unbindBehindTheSuite X.env n pos) (λ_ s'=>SP X pins D f s') X.xe s3:=
   λ{f σ' H'} I3 k=>Yb (Inv.uncaught I.ok I3) hN hi hl k
  cases f with
  |next=>obtain ⟨σ',H',I3,k⟩:=hf;exact go I3 λs' I'=>⟨_,H',I',k⟩
  |brk=>obtain ⟨σ',H',I3,k⟩:=hf;exact go I3 λs' I'=>⟨_,H',I',k⟩
  |cont=>obtain ⟨σ',H',I3,k⟩:=hf;exact go I3 λs' I'=>⟨_,H',I',k⟩
  |ret u=>obtain ⟨v,σ',H',I3,r,k⟩:=hf;exact go I3 λs' I'=>⟨v,_,H',I',r,k⟩
end
def tTry (tb:List (Addr×Obj)->(St->XK)->TS) (th:TH):TS:=λD σ H=>∀pins,tb pins (λσ' c e H'=>th D σ' c e H') D σ H
theorem Yau {X:Cx} {body:List Stmt} {h₀:ExceptHandler} {hs:List ExceptHandler} {pos:Pos} {tb:List (Addr×Obj)->(St->XK)->TS} {th:TH} (hst:Jyc X) (hb:∀pins R,Jpk (X.tried pins R) R->PSs (X.tried pins R) body (tb pins R)) (hh:PH X (h₀::hs) th):
  PS X (.Try body (h₀::hs) [] [] pos) (tTry tb th):=by
 intro pins s σ H D I h
 refine wpAny_Try_except (wpAny_mono (hb pins (λσ' c e H'=>th D σ' c e H') xw_try [] s σ H D (I.tried _) (h pins)) (λf s1 hf=>?_) λev s1 hx=>?_)
 ·have hf':SP X pins D f s1:=hf.map λ_ _ J=>J.untried
  cases f with
  |next=>exact wpAny_execs_nil hf'
  |brk=>exact hf'
  |cont=>exact hf'
  |ret u=>exact hf'
 ·obtain ⟨σ',H',e,C,dx,fr,rfl,I',q,hfl,hR⟩:=hx
  exact Juz I' hst I'.ok.frames q hfl λs2 I2 f2=>Joc I2 Jj9 f2 λs3 I3 f3=>hh pins s3 σ' _ D e C dx I3 Jj9 f3 hR
end L2
namespace L2
open PySem PySem.Spec PyProof.Rows
structure FM (K:PySem.W.Frag) (x qual:Str) (st:Stmt) (ps:List Str) (f:Addr) (fd:FuncData):Prop where
 fn:Fun K x qual st f fd
 bd:Binds K fd ps []
structure YCls (K:PySem.W.Frag) (C:Addr):Prop where
 ya:PySem.W.findIn K (.ref C) "__class__" =some (some (.builtin "object.__class__"))
 yb:PySem.W.specialIn K (.builtin "object.__class__") "__get__" =some (some (.builtin "getset_descriptor.__get__"))
 yc:PySem.W.takesIn K (.builtin "object.__class__")=some true
 yd:PySem.W.mroIn K C (.type "object")=some true
theorem YCls.ty {K:PySem.W.Frag} {C a dx:Addr} {H:Hp} {fs:List (Str×V)} (y:YCls K C) (c:Cls K C) (e:H a=some (.ins C dx fs)):Jq8 K H (.ref a) (.ref C):=.ins e c y.ya y.yb y.yc y.yd
def Jmw (K:PySem.W.Frag) (f:Str):Sp:=λvs H Q _=>∃e C W fI y,vs= [.ref e,y]/\H e=some (XO e C none true)/\XCls K C W fI/\NoAttr K C f/\∀dx,H dx=none->dx≠e->Q .non (upd (upd H dx (XD dx [(f,y)])) e (XO e C (some dx) true))
theorem Jzf {K:PySem.W.Frag} {C W fI:Addr} {f:Str} {y:V} {H:Hp} {Q:VK} (c:XCls K C W fI) (n:NoAttr K C f) (k:∀e dx,H e=none->H dx=none->dx≠e->Q (.ref e) (upd (upd H dx (XD dx [(f,y)])) e (XO e C (some dx) true))):
  [y].length<=1000/\∀e,H e=none->Jmw K f (.ref e:: [y]) (upd H e (XO e C none true)) (λv H2=>v= .non/\Q (.ref e) H2) E0:=by
 refine ⟨by simp,λe he=>⟨e,C,W,fI,y,rfl,Jj9,c,n,λdx h1 h2=>⟨rfl,?_⟩⟩⟩
 have z:=k e dx he (by rw [Jjg h2] at h1;exact h1) h2
 have e2:upd (upd (upd H e (XO e C none true)) dx (XD dx [(f,y)])) e (XO e C (some dx) true)=upd (upd H dx (XD dx [(f,y)])) e (XO e C (some dx) true):=by
  funext b
  unfold upd
  split
  ·rfl
  ·split <;> rfl
 rw [e2]
 exact z
end L2
namespace L2
open PySem PySem.Spec PyProof.Rows
section
variable {X:Cx} {pins:List (Addr×Obj)} {σ:St} {H:Hp} {s:Shared}
theorem Inv.turnTup {ch:List Addr} {T:Addr} {xs:List V} {h':Heap} {t':Nat} (I:Inv X pins σ H s) (hch:∀b∈ch,Jq5 X pins H b) (k:∀b o,b∉ch->s.heap.get? b=some o->h'.get? b=some o) (hT:s.heap.objs.size<=T)
  (new:ObjOk X.prog X.w (upd H T (.tup xs)) h' T (.tup xs)):Inv X pins σ (upd H T (.tup xs)) {s with heap:=h',toks:=t'}:=by
 have hn:H T=none:=I.hok.fresh hT
 have nb:∀b o,s.heap.get? b=some o->b≠T:=λb o z w'=>absurd (yj z) (by rw [w'];exact yas.mpr hT)
 have nt:∀b u,H b=some u->b≠T:=λb u z=>Jjh z hn
 have nc:∀b u,H b=some u->b∉ch:=λb u z w'=>by rw [(hch b w').1] at z;cases z
 have u:Un (frs X.stack) ch H (upd H T (.tup xs)) s.heap h':=by
  refine ⟨λb o hb n hs hc=>k b o hc hb,λb o hb n _ hc=>⟨o.slots,k b o hc hb⟩,λb o hb n _=>by rw [Jjg (nb b o hb)];exact n,λb o hb hc=>⟨o,k b o hc hb⟩,λb ys z=>by rw [Jjg (nt b _ z)];exact z,λb o v z=>by rw [Jjg (nt b _ z)];exact z,λb ps z=>⟨#[],by rw [Jjg (nt b _ z),z];simp⟩⟩
 refine I.call (g':=s.gens) (d':=s.drawn) (ch:=ch) u (λb o z=>?_) I.bare λb hb=>?_
 ·by_cases w':b=T
  ·subst w'
   rw [Jj9] at z;cases z
   exact new
  ·rw [Jjg w'] at z
   refine (I.hok b o z).stay (λc v hc zz=>k c v ?_ zz) (λc zz=>by rw [Jjg (nt c _ zz)];exact zz) (λc ys zz=>by rw [Jjg (nt c _ zz)];exact zz) λc ys zz=>by rw [Jjg (nt c _ zz)];exact zz
   rcases hc with rfl|hc
   ·exact nc c o z
   ·exact nc c _ hc
 ·obtain ⟨_,h1,_,h3,h4,h5⟩:=hch b hb
  exact ⟨h3,h1,h4,h5⟩
theorem Inv.turnMany {ch:List Addr} {h':Heap} {t':Nat} (I:Inv X pins σ H s) (hch:∀b∈ch,Jq5 X pins H b) (k:∀b o,b∉ch->s.heap.get? b=some o->h'.get? b=some o):Inv X pins σ H {s with heap:=h',toks:=t'}:=by
 have nc:∀b u,H b=some u->b∉ch:=λb u z w'=>by rw [(hch b w').1] at z;cases z
 have u:Un (frs X.stack) ch H H s.heap h':=
  ⟨λb o hb n hs hc=>k b o hc hb,λb o hb n _ hc=>⟨o.slots,k b o hc hb⟩,λb o hb n _=>n,λb o hb hc=>⟨o,k b o hc hb⟩,λb ys z=>z,λb o v z=>z,λb ps z=>⟨#[],by rw [z];simp⟩⟩
 refine I.call (g':=s.gens) (d':=s.drawn) (ch:=ch) u (λb o z=>(I.hok b o z).stay (λc v hc zz=>k c v ?_ zz) (λ_ zz=>zz) (λ_ _ zz=>zz) λ_ _ zz=>zz) I.bare λb hb=>?_
 ·rcases hc with rfl|hc
  ·exact nc c o z
  ·exact nc c _ hc
 ·obtain ⟨_,h1,_,h3,h4,h5⟩:=hch b hb
  exact ⟨h3,h1,h4,h5⟩
end
theorem Yp:bootBuiltins "zip" =some (.type "zip"):=by decide +kernel
end L2
namespace L2
open PySem PySem.Spec PyProof.Rows
section
variable {X:Cx} {pins:List (Addr×Obj)} {σ:St} {H:Hp} {s:Shared}
inductive TyX (K:PySem.W.Frag) (H:Hp):V->Value->Prop where
 |of {x:V} {t:Value}:Jq8 K H x t->TyX K H x t
 |exc {e C W fI dx:Addr} {fs:List (Str×V)} {fr:Bool}:H e=some (XO e C (some dx) fr)->H dx=some (XD dx fs)->XCls K C W fI->TyX K H (.ref e) (.ref C)
theorem TyX.kit {x:V} {u t:Value} (I:Inv X pins σ H s) (rx:RelV x u) (ty:TyX X.K H x t):u≠ .builtin "__main__.__loader__#opaque" /\∃Hh,PySem.W.KitX X.K u t Hh/\Hh s.heap:=by
 cases ty with
 |exc q qd c=>
  obtain rfl:u=Value.ref _:=rx
  obtain ⟨ox,oD,mA,J,_,_⟩:=Jz2 I.hok q qd
  exact ⟨(λz=>nomatch z),_,xkit c,ox,oD,J⟩
 |of ty=>
  cases ty with
  |non=>cases (show u=Value.none from rx);exact ⟨(λz=>nomatch z),_,PySem.W.kitx_none,trivial⟩
  |bl y=>cases (show u=Value.bool y from rx);exact ⟨(λz=>nomatch z),_,PySem.W.kitx_bool,trivial⟩
  |int i=>obtain ⟨t,q⟩:=(show ∃t,u=Value.int i t from rx);cases q;exact ⟨(λz=>nomatch z),_,PySem.W.kitx_int,trivial⟩
  |str y=>obtain ⟨t,q⟩:=(show ∃t,u=Value.str y t from rx);cases q;exact ⟨(λz=>nomatch z),_,PySem.W.kitx_str,trivial⟩
  |flt y=>obtain ⟨t,q⟩:=(show ∃t,u=Value.float y t from rx);cases q;exact ⟨(λz=>nomatch z),_,PySem.W.kitx_float,trivial⟩
  | @lst a xs ea=>
   cases (show u=Value.ref a from rx)
   obtain ⟨_,_,n,_,h1⟩:=(show ObjOk X.prog X.w H s.heap a (.lst xs) from I.hok a _ ea)
   exact ⟨(λz=>nomatch z),_,PySem.W.kitx_list,_,h1,rfl⟩
  | @frz a ob xs ea=>
   cases (show u=Value.ref a from rx)
   obtain ⟨_,_,_,n,_,h1⟩:=(show ObjOk X.prog X.w H s.heap a (.frz ob (.lst xs)) from I.hok a _ ea)
   exact ⟨(λz=>nomatch z),_,PySem.W.kitx_list,_,h1,rfl⟩
  | @tup a xs ea=>
   cases (show u=Value.ref a from rx)
   obtain ⟨_,_,_,o,h1,h2,_⟩:=(show ObjOk X.prog X.w H s.heap a (.tup xs) from I.hok a _ ea)
   exact ⟨(λz=>nomatch z),_,PySem.W.kitx_tuple,o,h1,h2⟩
  | @dK a kvs ea=>
   cases (show u=Value.ref a from rx)
   obtain ⟨_,_,vs,_,o,es,ep,h1,h2,_⟩:=(show ObjOk X.prog X.w H s.heap a (.dK kvs) from I.hok a _ ea)
   exact ⟨(λz=>nomatch z),_,PySem.W.kitx_dict,o,h1,h2.1⟩
  | @dT a kvs ea=>
   cases (show u=Value.ref a from rx)
   obtain ⟨_,_,xs,_,o,es,ep,h1,h2,_⟩:=(show ObjOk X.prog X.w H s.heap a (.dT kvs) from I.hok a _ ea)
   exact ⟨(λz=>nomatch z),_,PySem.W.kitx_dict,o,h1,h2.1⟩
  | @ins a C dx fs ea cl ha hn htk hm=>
   cases (show u=Value.ref a from rx)
   obtain ⟨mA,O,_⟩:=Jrf I.hok ea
   obtain ⟨od,J,_⟩:=O.look
   exact ⟨(λz=>nomatch z),_,PySem.W.kitx_own (cl.get _) cl.hd ha hn htk hm,J⟩
def rIsA (K:PySem.W.Frag):List V->Hp->VK->Prop:=λxs H Q=>∃x c u t b,xs= [x,c]/\clsV c=some u/\TyX K H x t/\PySem.W.kitOne K t u=some b/\Q (.bl b) H
theorem Jkr:Jle X (.builtin "isinstance") (rIsA X.K):=by
 rintro pins s σ H vs us Q I r ⟨x,c,u,t,b,rfl,hc,ty,ek,k⟩
 obtain ⟨v,w',rfl,r1,r2⟩:=Jwv r
 have e2:w'=u:=by
  cases c with
  |ty n=>cases hc;cases r2;rfl
  |ref a=>cases hc;cases r2;rfl
  |_=>cases hc
 subst e2
 obtain ⟨hx,Hh,Z,p⟩:=ty.kit I r1
 exact PySem.W.kia_one Z I.kIn p ek hx λtk=>⟨.bl b,H,I.tok _,rfl,k⟩
theorem Jvo:∀{cs:List V} {us ws:List Value},cs.mapM clsV=some us->Vals cs ws->ws=us
 | [],us,_,e,.nil=>by cases e;rfl
 |c::cs,us,_,e,.cons r t=>by
  rw [List.mapM_cons] at e
  simp only [Option.bind_eq_bind,Option.bind_eq_some_iff,Option.pure_def,yy.injEq] at e
  obtain ⟨u,hu,us',hus,rfl⟩:=e
  rw [Jvo hus t]
  cases c with
  |ty n=>cases hu;cases r;rfl
  |ref a=>cases hu;cases r;rfl
  |_=>cases hu
def rIsT (K:PySem.W.Frag):List V->Hp->VK->Prop:=λxs H Q=>∃x p cs us t b,xs= [x,.ref p]/\H p=some (.tup cs)/\cs.mapM clsV=some us/\TyX K H x t/\PySem.W.kitAny K t us=some b/\Q (.bl b) H
theorem Jnm:Jle X (.builtin "isinstance") (rIsT X.K):=by
 rintro pins s σ H vs us Q I r ⟨x,p,cs,us',t,b,rfl,hp,hc,ty,ek,k⟩
 obtain ⟨v,w',rfl,r1,r2⟩:=Jwv r
 obtain rfl:w'=Value.ref p:=r2
 obtain ⟨hx,Hh,Z,q⟩:=ty.kit I r1
 obtain ⟨_,its,rv,o,h1,h2,n,h3⟩:=(show ObjOk X.prog X.w H s.heap p (.tup cs) from I.hok p _ hp)
 have e:=Jvo hc rv
 subst e
 obtain ⟨oc,odi,oda,osl⟩:=o
 dsimp only at h2 h3
 subst h2 h3
 exact PySem.W.kia_tup Z I.kIn q h1 ek hx λtk=>⟨.bl b,H,I.tok _,rfl,k⟩
def iSeq (K:PySem.W.Frag) (tl:TE):TI:=λσ H R=>tl σ H λx H1=>∃a,x= .ref a/\(((∃xs,SqL K H1 a xs)/\R (Itl K a) H1)\/((∃xs,SqT K H1 a xs)/\R (Itt K a) H1))
theorem pi_seq {tg l:Expr} {tl:TE} (hl:PE X l tl):PI X tg l (iSeq X.K tl):=by
 intro pins s σ H R I h
 refine thn (hl pins s σ H _ I h) λv s1 zq=>?_
 obtain ⟨x,H1,I1,r1,a,e,q1⟩:=zq
 subst e
 cases r1
 have fin:∀{J:It} {tn:Nat->Heap->Prop} {o:Obj},Jq7 X.prog X.w X.K tg J [s1.heap.objs.size] s1.heap.objs.size tn->tn 0 (s1.heap.push o)->R J H1->PIE X pins σ tg R (.ref s1.heap.objs.size) {s1 with heap:=s1.heap.push o}:=λ{J tn o} T st q=>by
  refine ⟨s1.heap.objs.size,[s1.heap.objs.size],tn,J,H1,rfl,I1.kept (t':=s1.toks) λb o e=>yi _ e,T,st,λb hb=>?_,q⟩
  have e:b=s1.heap.objs.size:=by simpa using hb
  subst e
  exact I1.fpOk (yg _) (I1.hok.fresh (yg _))
 rcases q1 with ⟨⟨xs,hq⟩,q⟩|⟨⟨xs,hq⟩,q⟩
 ·obtain ⟨its,rv,p,hz⟩:=I1.list hq
  exact wpAny_pyIter_list p.isList (fin (Ju8 a _) ⟨_,yo _ rfl,rfl,rfl⟩ q)
 ·obtain ⟨its,rv,p,hz⟩:=I1.tuple hq
  exact wpAny_pyIter_tuple (show s1.heap.IsTuple a its.toArray from p) (fin (Jso a _) ⟨_,yo _ rfl,rfl,rfl⟩ q)
def SameOr (x y:V) (b:Bool):Prop:=(∃a,x= .ref a/\y= .ref a/\b=true)\/(Jm2 x=true/\Jm2 y=true/\eqV x y=b)
theorem Ya2 {x:V} (h:Jm2 x=true):eqV x x=true:=by
 cases x <;> first|rfl|(simp [eqV];done)|cases h
theorem SameOr.self {x:V} (h:Jm2 x=true\/∃a,x= .ref a):SameOr x x true:=by
 rcases h with h|⟨a,rfl⟩
 ·exact .inr ⟨h,h,Ya2 h⟩
 ·exact .inl ⟨a,rfl,rfl,rfl⟩
theorem SameOr.at {A:Around} {x y:V} {b:Bool} {u v:Value} (h:SameOr x y b) (rx:RelV x u) (ry:RelV y v):SeqAt.EqAt A s u v b:=by
 rcases h with ⟨a,rfl,rfl,rfl⟩|⟨f1,f2,rfl⟩
 ·cases rx;cases ry;exact SeqAt.EqAt.same _
 ·exact Ya0 rx ry f1 f2
end
def Jy3 (P:Program) (w:World) (K:PySem.W.Frag) (mg:Str->Option Value) (base:Heap) (j:Nat) (m:Str) (ta:TE) (t:TA):TE:=λσ H Q=>ta σ H λx H1=>∃a C dx fs f fd ps sp k,x= .ref a/\H1 a=some (.ins C dx fs)/\fs.lookup m=none/\Cls K C/\Jof K C m f/\FnOk P w K mg base CX0 k f fd ps sp/\k<=j/\Binds K fd ps []/\
 t σ H1 λvs H2=>sp (x::vs) H2 Q E0
section
variable {X:Cx} {j:Nat} {m:Str} {apos pos:Pos} {e o:Expr} {es:List Expr} {ta:TE} {t:TA} {R:St->XK}
theorem Jsb {pl:Sem Bool} (he:PE X o ta) (hr:Room j X.A) (ha:PA X (e::es) t)
  (hst:starEach (e::es) X.env=(false,eval e X.env)::starEach es X.env:=by rfl) (hpl:(backTo pos (starEach es X.env)).any (·.1)=false:=by rfl)
  (ht:eval (.Call (.Attribute o m apos) (e::es) [] pos) X.env=(do
   let ov<-eval o X.env
   standAt apos.atName
   let (f,first)<-holding [ov] (getMethod ov m pl)
   callWith pos f first (backTo pos (starEach (e::es) X.env)) (backToKw pos (keywordEach [] X.env))):=by rfl):
  PE X (.Call (.Attribute o m apos) (e::es) [] pos) (Jy3 X.prog X.w X.K X.mg X.base j m ta t):=by
 intro pins s σ H Q I h
 refine PySem.W.methodCall_KW (pl:=pl) (thn (he pins s σ H _ I h) λu s1 zq=>?_) ht
 obtain ⟨x,H1,I1,rx,a,C,dx,fs,f,fd,ps,sp,k,ex,ea,l,c,hm,G,hk,hb,q⟩:=zq
 subst ex
 obtain rfl:u=Value.ref a:=rx
 refine Jro I1 ea c hm l ?_
 refine PySem.W.callWith_K (first:=[.ref a]) (h₀:=X.base) I.ok.mod.kin hm.kp (thn (ha pos pins s1 σ H1 _ I1 q) λus s2 ⟨vs,H2,I2,r,q2⟩=>⟨I2.kIn,?_⟩) hst hpl
 exact Jv9 (us:=.ref a::us) (vs:=.ref a::vs) (dvs:=[]) (ds:=[]) G (hr.mono hk) hb .nil Jmm I2 (.cons rfl r) (by rw [yax];exact q2)
theorem Jm9 {pl:Sem Bool} (he:PE X o ta) (hr:Room j X.A)
  (ht:eval (.Call (.Attribute o m apos) [] [] pos) X.env=(do
   let ov<-eval o X.env
   standAt apos.atName
   let (f,first)<-holding [ov] (getMethod ov m pl)
   callWith pos f first (backTo pos (starEach [] X.env)) (backToKw pos (keywordEach [] X.env))):=by rfl):
  PE X (.Call (.Attribute o m apos) [] [] pos) (Jy3 X.prog X.w X.K X.mg X.base j m ta Jrc):=by
 intro pins s σ H Q I h
 refine PySem.W.methodCall_KW (pl:=pl) (thn (he pins s σ H _ I h) λu s1 zq=>?_) ht
 obtain ⟨x,H1,I1,rx,a,C,dx,fs,f,fd,ps,sp,k,ex,ea,l,c,hm,G,hk,hb,q⟩:=zq
 subst ex
 obtain rfl:u=Value.ref a:=rx
 refine Jro I1 ea c hm l ?_
 exact PySem.W.callWith_K0 (first:=[.ref a]) I1.kIn hm.kp (Jv9 (us:=[.ref a]) (vs:=[.ref a]) (dvs:=[]) (ds:=[]) G (hr.mono hk) hb .nil Jmm I1 (.cons rfl .nil) q)
end
end L2
namespace L2
open PySem PySem.Spec PyProof.Rows
theorem Jjx {n:Nat} (h:n<=2000):n < sizeLine:=ycf h (by decide)
theorem Jqp (n:Nat) (h:n<=2000):n<=sizeLine:=yap (Jjx h)
def tpB (t:Value):Bool:=[Value.type "bool",.type "str",.type "NoneType",.type "list",.type "tuple",.type "dict"].contains t
def Tm (K:PySem.W.Frag) (H:Hp) (x:V):Prop:=(∃i:Int,x= .int i)\/∃t,TyX K H x t/\tpB t=true
def Jjo:V->Int->Int->Bool
 | .int i,lo,hi=>decide (lo<=i)&&decide (i<=hi)
 |_,_,_=>false
theorem Ybq {K:PySem.W.Frag} {t:Value} (h:tpB t=true):PySem.W.kitOne K t (.type "int")=some (t== .type "bool")/\PySem.W.kitOne K t (.type "bool")=some (t== .type "bool"):=by
 unfold tpB at h
 simp only [List.contains_cons,List.contains_nil,Bool.or_false,Bool.or_eq_true,beq_iff_eq] at h
 rcases h with rfl|rfl|rfl|rfl|rfl|rfl <;> exact ⟨rfl,rfl⟩
theorem Ycl {K:PySem.W.Frag} {H:Hp} {x:V} {t:Value} (ty:TyX K H x t) (h:tpB t=true):∀lo hi,Jjo x lo hi=false:=by
 intro lo hi
 cases ty with
 |exc=>rfl
 |of ty=>
  cases ty <;> first|rfl|(exfalso;revert h;decide)
def Ydg (K:PySem.W.Frag):Sp:=λvs H Q _=>∃(x:V) (lo hi:Int),vs= [x,.int lo,.int hi]/\Tm K H x/\Q (.bl (Jjo x lo hi)) H
theorem TyX.same {K:PySem.W.Frag} {H H':Hp} {x:V} {t:Value} (s:∀b o,x= .ref b->H b=some o->H' b=some o) (sx:∀b fs,H b=some (XD b fs)->H' b=some (XD b fs)) (ty:TyX K H x t):TyX K H' x t:=by
 cases ty with
 |exc q qd c=>exact .exc (s _ _ rfl q) (sx _ _ qd) c
 |of ty=>
  refine .of ?_
  cases ty with
  |non=>exact .non
  |bl b=>exact .bl b
  |int i=>exact .int i
  |str z=>exact .str z
  |flt z=>exact .flt z
  |lst e=>exact .lst (s _ _ rfl e)
  |frz e=>exact .frz (s _ _ rfl e)
  |tup e=>exact .tup (s _ _ rfl e)
  |dK e=>exact .dK (s _ _ rfl e)
  |dT e=>exact .dT (s _ _ rfl e)
  |ins e a b c d f=>exact .ins (s _ _ rfl e) a b c d f
theorem Tm.same {K:PySem.W.Frag} {H H':Hp} {x:V} (s:Same H H') (h:Tm K H x):Tm K H' x:=by
 rcases h with h|⟨t,ty,e⟩
 ·exact .inl h
 ·exact .inr ⟨t,ty.same (λb o _ q=>s b o q) (λb fs q=>s b _ q),e⟩
theorem Ycd {K:PySem.W.Frag} {q:Addr} {xs:List V} {g:TG} {tb:TS} {D:Ends} {σ:St} {H:Hp} (Pv:Nat->St->Hp->Prop) (h0:Pv 0 σ H) (hl:(∀i σ H,i<=xs.length->Pv i σ H->SqL K H q xs)\/(∀i σ H,i<=xs.length->Pv i σ H->SqT K H q xs))
  (hs:∀i x σ H,xs[i]?=some x->Pv i σ H->g x σ H λσ2 H2=>tb {D with nx:=Pv (i+1),ct:=Pv (i+1),bk:=D.nx} σ2 H2) (hd:∀σ H,Pv xs.length σ H->D.nx σ H):
  ((∃xs,SqL K H q xs)/\∃W:Nat->Nat->St->Hp->Prop,(∃m,W 0 m σ H)/\∀i m σ H,W i m σ H->
   ((Itl K q).stop i H/\D.nx σ H)\/((Itl K q).go i H/\∃N:St->Hp->Prop,(∀σ' H',N σ' H'->∃m',m' < m/\W (i+1) m' σ' H')/\∀x H',(Itl K q).yld i H x H'->g x σ H' λσ2 H2=>tb {D with nx:=N,ct:=N,bk:=D.nx} σ2 H2))\/
  ((∃xs,SqT K H q xs)/\∃W:Nat->Nat->St->Hp->Prop,(∃m,W 0 m σ H)/\∀i m σ H,W i m σ H->
   ((Itt K q).stop i H/\D.nx σ H)\/((Itt K q).go i H/\∃N:St->Hp->Prop,(∀σ' H',N σ' H'->∃m',m' < m/\W (i+1) m' σ' H')/\∀x H',(Itt K q).yld i H x H'->g x σ H' λσ2 H2=>tb {D with nx:=N,ct:=N,bk:=D.nx} σ2 H2)):=by
 rcases hl with hl|hl
 ·exact .inl ⟨⟨xs,hl 0 σ H (yal _) h0⟩,Jvv Pv h0 hl hs hd⟩
 ·exact .inr ⟨⟨xs,hl 0 σ H (yal _) h0⟩,Yce Pv h0 hl hs hd⟩
theorem Jlg {K:PySem.W.Frag} {R:L2.St->XK} {C W fI:Addr} {f:Str} {i:Nat} {y:V} {σ:L2.St} {H:Hp} {D:Ends} (c:XCls K C W fI) (n:NoAttr K C f) (hi:σ[i]?=some (some y))
  (k:∀e dx,H e=none->H dx=none->dx≠e->R σ (.ref C) (some e) (upd (upd (upd H dx (XD dx [(f,y)])) e (XO e C (some dx) true)) e (XO e C (some dx) false))):Yax K R (tExc C (Jmw K f) (Jk9 (tVar i) Jrc)) D σ H:=by
 refine ⟨y,hi,?_⟩
 exact Jzf (Q:=λv H1=>∃e C W fI dx,v= .ref e/\H1 e=some (XO e C (some dx) true)/\XCls K C W fI/\R σ (.ref C) (some e) (upd H1 e (XO e C (some dx) false))) c n λe dx h1 h2 h3=>⟨e,C,W,fI,dx,rfl,Jj9,c,k e dx h1 h2 h3⟩
theorem iteD {c A B:Prop} [Decidable c] (hc:c) (h:A):if decide c=true then A else B:=by
 rw [decide_eq_true hc]
 exact Jl4 h
theorem iteN {c A B:Prop} [Decidable c] (hc:¬c) (h:B):if decide c=true then A else B:=by
 rw [decide_eq_false hc]
 exact Jkp h
def Jjv:Expr->Bool
 | .Starred _ _=>true
 |_=>false
theorem Y3 (e:Expr) (es:List Expr) (env:Env) (h:Jjv e=false):starEach (e::es) env=(false,eval e env)::starEach es env:=by
 cases e <;> first|rfl|cases h
theorem Jl5 {X:Cx} {e:Expr} {es:List Expr} {te:TE} {t:TA} (ha:PE X e te) (hr:PA X es t) (hs:Jjv e=false:=by rfl):PA X (e::es) (Jk9 te t):=Jj8 ha hr (Y3 e es X.env hs)
theorem pa4 {X:Cx} {e0:Expr} {t0:TE} {e1:Expr} {t1:TE} {e2:Expr} {t2:TE} {e3:Expr} {t3:TE} (h0:PE X e0 t0) (h1:PE X e1 t1) (h2:PE X e2 t2) (h3:PE X e3 t3) (s0:Jjv e0=false:=by rfl) (s1:Jjv e1=false:=by rfl) (s2:Jjv e2=false:=by rfl) (s3:Jjv e3=false:=by rfl):PA X [e0,e1,e2,e3] (Jk9 t0 (Jk9 t1 (Jk9 t2 (Jk9 t3 (Jrc))))):=Jl5 h0 (Jl5 h1 (Jl5 h2 (Jl5 h3 (Jja) s3) s2) s1) s0
theorem pa5 {X:Cx} {e0:Expr} {t0:TE} {e1:Expr} {t1:TE} {e2:Expr} {t2:TE} {e3:Expr} {t3:TE} {e4:Expr} {t4:TE} (h0:PE X e0 t0) (h1:PE X e1 t1) (h2:PE X e2 t2) (h3:PE X e3 t3) (h4:PE X e4 t4) (s0:Jjv e0=false:=by rfl) (s1:Jjv e1=false:=by rfl) (s2:Jjv e2=false:=by rfl) (s3:Jjv e3=false:=by rfl) (s4:Jjv e4=false:=by rfl):PA X [e0,e1,e2,e3,e4] (Jk9 t0 (Jk9 t1 (Jk9 t2 (Jk9 t3 (Jk9 t4 (Jrc)))))):=Jl5 h0 (Jl5 h1 (Jl5 h2 (Jl5 h3 (Jl5 h4 (Jja) s4) s3) s2) s1) s0
theorem pa6 {X:Cx} {e0:Expr} {t0:TE} {e1:Expr} {t1:TE} {e2:Expr} {t2:TE} {e3:Expr} {t3:TE} {e4:Expr} {t4:TE} {e5:Expr} {t5:TE} (h0:PE X e0 t0) (h1:PE X e1 t1) (h2:PE X e2 t2) (h3:PE X e3 t3) (h4:PE X e4 t4) (h5:PE X e5 t5) (s0:Jjv e0=false:=by rfl) (s1:Jjv e1=false:=by rfl) (s2:Jjv e2=false:=by rfl) (s3:Jjv e3=false:=by rfl) (s4:Jjv e4=false:=by rfl) (s5:Jjv e5=false:=by rfl):PA X [e0,e1,e2,e3,e4,e5] (Jk9 t0 (Jk9 t1 (Jk9 t2 (Jk9 t3 (Jk9 t4 (Jk9 t5 (Jrc))))))):=Jl5 h0 (Jl5 h1 (Jl5 h2 (Jl5 h3 (Jl5 h4 (Jl5 h5 (Jja) s5) s4) s3) s2) s1) s0
theorem pa7 {X:Cx} {e0:Expr} {t0:TE} {e1:Expr} {t1:TE} {e2:Expr} {t2:TE} {e3:Expr} {t3:TE} {e4:Expr} {t4:TE} {e5:Expr} {t5:TE} {e6:Expr} {t6:TE} (h0:PE X e0 t0) (h1:PE X e1 t1) (h2:PE X e2 t2) (h3:PE X e3 t3) (h4:PE X e4 t4) (h5:PE X e5 t5) (h6:PE X e6 t6) (s0:Jjv e0=false:=by rfl) (s1:Jjv e1=false:=by rfl) (s2:Jjv e2=false:=by rfl) (s3:Jjv e3=false:=by rfl) (s4:Jjv e4=false:=by rfl) (s5:Jjv e5=false:=by rfl) (s6:Jjv e6=false:=by rfl):PA X [e0,e1,e2,e3,e4,e5,e6] (Jk9 t0 (Jk9 t1 (Jk9 t2 (Jk9 t3 (Jk9 t4 (Jk9 t5 (Jk9 t6 (Jrc)))))))):=Jl5 h0 (Jl5 h1 (Jl5 h2 (Jl5 h3 (Jl5 h4 (Jl5 h5 (Jl5 h6 (Jja) s6) s5) s4) s3) s2) s1) s0
theorem pa9 {X:Cx} {e0:Expr} {t0:TE} {e1:Expr} {t1:TE} {e2:Expr} {t2:TE} {e3:Expr} {t3:TE} {e4:Expr} {t4:TE} {e5:Expr} {t5:TE} {e6:Expr} {t6:TE} {e7:Expr} {t7:TE} {e8:Expr} {t8:TE} (h0:PE X e0 t0) (h1:PE X e1 t1) (h2:PE X e2 t2) (h3:PE X e3 t3) (h4:PE X e4 t4) (h5:PE X e5 t5) (h6:PE X e6 t6) (h7:PE X e7 t7) (h8:PE X e8 t8) (s0:Jjv e0=false:=by rfl) (s1:Jjv e1=false:=by rfl) (s2:Jjv e2=false:=by rfl) (s3:Jjv e3=false:=by rfl) (s4:Jjv e4=false:=by rfl) (s5:Jjv e5=false:=by rfl) (s6:Jjv e6=false:=by rfl) (s7:Jjv e7=false:=by rfl) (s8:Jjv e8=false:=by rfl):PA X [e0,e1,e2,e3,e4,e5,e6,e7,e8] (Jk9 t0 (Jk9 t1 (Jk9 t2 (Jk9 t3 (Jk9 t4 (Jk9 t5 (Jk9 t6 (Jk9 t7 (Jk9 t8 (Jrc)))))))))):=Jl5 h0 (Jl5 h1 (Jl5 h2 (Jl5 h3 (Jl5 h4 (Jl5 h5 (Jl5 h6 (Jl5 h7 (Jl5 h8 (Jja) s8) s7) s6) s5) s4) s3) s2) s1) s0
theorem pa11 {X:Cx} {e0:Expr} {t0:TE} {e1:Expr} {t1:TE} {e2:Expr} {t2:TE} {e3:Expr} {t3:TE} {e4:Expr} {t4:TE} {e5:Expr} {t5:TE} {e6:Expr} {t6:TE} {e7:Expr} {t7:TE} {e8:Expr} {t8:TE} {e9:Expr} {t9:TE} {e10:Expr} {t10:TE} (h0:PE X e0 t0) (h1:PE X e1 t1) (h2:PE X e2 t2) (h3:PE X e3 t3) (h4:PE X e4 t4) (h5:PE X e5 t5) (h6:PE X e6 t6) (h7:PE X e7 t7) (h8:PE X e8 t8) (h9:PE X e9 t9) (h10:PE X e10 t10) (s0:Jjv e0=false:=by rfl) (s1:Jjv e1=false:=by rfl) (s2:Jjv e2=false:=by rfl) (s3:Jjv e3=false:=by rfl) (s4:Jjv e4=false:=by rfl) (s5:Jjv e5=false:=by rfl) (s6:Jjv e6=false:=by rfl) (s7:Jjv e7=false:=by rfl) (s8:Jjv e8=false:=by rfl) (s9:Jjv e9=false:=by rfl) (s10:Jjv e10=false:=by rfl):PA X [e0,e1,e2,e3,e4,e5,e6,e7,e8,e9,e10] (Jk9 t0 (Jk9 t1 (Jk9 t2 (Jk9 t3 (Jk9 t4 (Jk9 t5 (Jk9 t6 (Jk9 t7 (Jk9 t8 (Jk9 t9 (Jk9 t10 (Jrc)))))))))))):=Jl5 h0 (Jl5 h1 (Jl5 h2 (Jl5 h3 (Jl5 h4 (Jl5 h5 (Jl5 h6 (Jl5 h7 (Jl5 h8 (Jl5 h9 (Jl5 h10 (Jja) s10) s9) s8) s7) s6) s5) s4) s3) s2) s1) s0
end L2
namespace L2
open PySem PySem.Spec PyProof.Rows PySem.W
section
variable {X:Cx}
theorem Jlz {K:PySem.W.Frag} (h:X.K=K):IxR X (rIxL K):=by subst h;exact Jjz
theorem Jth {K:PySem.W.Frag} (h:X.K=K):Jle X (.builtin "isinstance") (rIsA K):=by subst h;exact Jkr
end
end L2
namespace L2
open PySem PySem.Spec PyProof.Rows PySem.W
section
variable {prog:Program} {w:World} {A:Around} {E:Value->Shared->Prop} {s:Shared}
end
section
variable {X:Cx} {pos:Pos}
end
end L2
namespace L2
open PySem PySem.Spec PyProof.Rows PySem.W
structure FnOkC (P:Program) (w:World) (K:PySem.W.Frag) (mg:Str->Option Value) (base:Heap) (k:Nat) (f:Addr) (fd:FuncData) (ps:List Str) (sp:Sp):Prop where
 len:∀vs H Q E,sp vs H Q E->vs.length=ps.length
 run:∀(e:Addr) (A:Around) (outer:List Env) (s:Shared) (H:Hp) (args:Args) (us:List Value) (vs:List V) (Q:VK) (E:XK),Room k A->Env0 P w K mg base A outer s H->BindsTo s fd args (ps.zip us)->Vals vs us->sp vs H Q E->
  codeAny (model P w) (A.mark (some (.ref e))) (.call (.ref f) args) (CR CX0 outer P w H s Q E) s
section
variable {P:Program} {w:World} {K:PySem.W.Frag} {mg:Str->Option Value} {base:Heap}
end
section
variable {X:Cx} {x:Str} {st:Stmt} {ps:List Str} {f:Addr} {fd:FuncData} {sp:Sp} {k j:Nat} {p pos:Pos} {e:Expr} {es:List Expr} {t:TA} {er:Addr}
end
end L2
namespace L2
open PySem PySem.Spec PyProof.Rows PySem.W
def stU (acc:List Str) (z:Str):List Str:=if acc.contains z=true then acc else acc++ [z]
def uq (zs:List Str):List Str:=zs.foldl stU []
def inU (zs:List Str):Key->Bool
 | .inl _=>false
 | .inr z=>(uq zs).contains z
theorem Jyz (zs:List Str) (z:Str):uq (zs++ [z])=stU (uq zs) z:=by unfold uq;rw [List.foldl_append];rfl
theorem uq_len (zs:List Str):(uq zs).length<=zs.length:=by
 have h:∀(l acc:List Str),(l.foldl stU acc).length<=acc.length+l.length:=by
  intro l
  induction l with
  |nil=>intro acc;simp
  |cons z r ih=>
   intro acc
   rw [List.foldl_cons]
   have h1:=ih (stU acc z)
   have h2:(stU acc z).length<=acc.length+1:=by unfold stU;split <;> simp
   rw [ybj]
   omega
 simpa [uq] using h zs []
theorem Jwu {zs:List Str} (h:zs.Nodup):uq zs=zs:=by
 have g:∀(l acc:List Str),(acc++l).Nodup->l.foldl stU acc=acc++l:=by
  intro l
  induction l with
  |nil=>intro acc _;simp
  |cons z r ih=>
   intro acc hn
   rw [List.foldl_cons]
   have hz:acc.contains z=false:=by
    cases e:acc.contains z with
    |false=>rfl
    |true=>
     have hm:z∈acc:=ycm.mp e
     exact absurd rfl ((List.nodup_append.mp hn).2.2 z hm z yaq)
   have e:stU acc z=acc++ [z]:=by unfold stU;rw [hz];rfl
   rw [e,ih (acc++ [z]) (by simpa using hn)]
   simp
 simpa [uq] using g zs [] (by simpa using h)
theorem Yaa (zs:List Str) (z:Str) (k:Key):inU (zs++ [z]) k=(inU zs k||decide (k= .inr z)):=by
 cases k with
 |inl i=>simp [inU]
 |inr y=>
  show (uq (zs++ [z])).contains y=((uq zs).contains y||decide ((.inr y:Key)= .inr z))
  have e:decide ((.inr y:Key)= .inr z)=decide (y=z):=by
   by_cases h:y=z
   ·subst h;simp
   ·rw [decide_eq_false h,decide_eq_false (λq=>h (Sum.inr.inj q))]
  rw [Jyz,e]
  unfold stU
  split
  ·rename_i hc
   by_cases h:y=z
   ·subst h;rw [hc];simp
   ·simp [h]
  ·rw [ybi]
   simp [ycm]
theorem Ydl (zs:List Str) (z:Str):(uq (zs++ [z])).length=if inU zs (.inr z)=true then (uq zs).length else (uq zs).length+1:=by
 rw [Jyz]
 show (stU (uq zs) z).length=if (uq zs).contains z=true then _ else _
 unfold stU
 split <;> simp
section
variable {prog:Program} {w:World} {A:Around} {R:Result->Shared->Prop} {I:Addr} {fp wr:List Addr} {n:Nat} {P:Nat->Value->Prop} {St:Nat->Heap->Prop}
theorem Jq2 {h h':Heap} {a:Addr} {S T:Key->Bool} {m m':Nat} (hS:h.SetOf (Jjm prog w) a S m) (k:∀o,h.get? a=some o->h'.get? a=some o) (e:∀x,S x=T x) (en:m=m'):h'.SetOf (Jjm prog w) a T m':=by
 obtain rfl:S=T:=funext e
 subst en
 obtain ⟨o,es,ep,t,ho,rest⟩:=hS
 exact ⟨o,es,ep,t,k o ho,rest⟩
theorem Jy4 (W:Walks prog w A.in1 I fp wr n P St) (S:Addr) (hSf:S∉fp) (zs:List Str) (hn:zs.length=n) (hP:∀i v,P i v->∃z t,zs[i]?=some z/\v= .str z t) (hb:n+1 < scanBound):
  ∀(k i:Nat) (s:Shared),n - i=k->i<=n->St i s.heap->s.heap.SetOf (Jjm prog w) S (inU (zs.take i)) (uq (zs.take i)).length->
   (∀h' tk,(∀b o,b≠S->b∉wr->s.heap.get? b=some o->h'.get? b=some o)->h'.SetOf (Jjm prog w) S (inU zs) (uq zs).length->R (.ok (.ret .none)) {s with heap:=h',toks:=tk})->
   codeAny (model prog w) A (.builtin "set.update.loop" ⟨[.ref S,.ref I],[]⟩) R s:=by
 have hSw:S∉wr:=λh=>hSf (W.sub _ h)
 intro k
 induction k with
 |zero=>
  intro i s hk hi hst hS hR
  obtain rfl:i=n:=by omega
  refine codeAny_builtin PyProof.Rows.F.entry_set_update_loop ?_
  rw [Around.under_plainId PyProof.Rows.F.plain_set_update_loop _]
  refine wpAny_bind (W.done s _ _ hst λh' tk km=>?_)
  refine wpAny_pure (hR h' tk (λb o _ nb e=>km b o nb e) (Jq2 hS (λo e=>km S o hSw e) (λx=>?_) ?_))
  ·rw [yam (by omega)]
  ·rw [yam (by omega)]
 |succ k ih=>
  intro i s hk hi hst hS hR
  have hlt:i < n:=by omega
  refine codeAny_builtin PyProof.Rows.F.entry_set_update_loop ?_
  rw [Around.under_plainId PyProof.Rows.F.plain_set_update_loop _]
  refine wpAny_bind (W.item i s _ _ hlt hst λv h1 tk hv hst1 km=>?_)
  obtain ⟨z,t,hz,rfl⟩:=hP i v hv
  have et:zs.take (i+1)=zs.take i++ [z]:=by rw [yan,hz];rfl
  have hS1:h1.SetOf (Jjm prog w) S (inU (zs.take i)) (uq (zs.take i)).length:=Jq2 hS (λo e=>km S o hSw e) (λ_=>rfl) rfl
  have room:(uq (zs.take i)).length+1 < scanBound:=by
   have h1:=uq_len (zs.take i)
   rw [yaf] at h1
   omega
  refine wpAny_bind (wpAny_holding ?_)
  unfold setAdd
  refine wpAny_holding (wpAny_bind ((Jjm prog w).pyHash (k:=.inr z) (Jnq _ _ _ _) ?_))
  refine wpAny_setAddHashed_of (knd:=Jjm prog w) (k:=.inr z) (Jnq _ _ _ _) rfl hS1 room λh2 sb hS2=>?_
  refine wpAny_pure ⟨plainId_quiet PyProof.Rows.F.plain_set_update_loop _,ih (i+1) _ (by omega) hlt (W.frame _ _ _ hst1 λb hbf o e=>?_) (Jq2 hS2 (λo e=>e) (λx=>?_) ?_) λh3 tk3 k3 hS3=>?_⟩
  ·show h2.get? b=some o
   rw [sb.2 b (λq=>hSf (by rw [<-q];exact hbf))]
   exact e
  ·rw [et,Yaa]
  ·rw [et,Ydl]
  ·exact hR h3 tk3 (λb o nS nw e=>k3 b o nS nw (by show h2.get? b=some o;rw [sb.2 b nS];exact km b o nw e)) hS3
end
section
variable {prog:Program} {w:World} {A:Around} {E:Value->Shared->Prop} {s:Shared}
set_option maxRecDepth 100000 in
set_option maxHeartbeats 3200000 in
theorem Y0 {l:Addr} {items:Array Value} {zs:List Str} {Q:Value->Shared->Prop} (hh:A.handled=none) (hl:s.heap.IsList l items) (hz:zs.length=items.size) (hi:∀(i:Nat) (v:Value),items[i]?=some v->∃z t,zs[i]?=some z/\v= .str z t) (hb:items.size+1 < scanBound)
  (h:∀(h':Heap) (tk:Nat),h'.SetOf (Jjm prog w) s.heap.objs.size (inU zs) (uq zs).length->(∀b o,s.heap.get? b=some o->h'.get? b=some o)->Q (.ref s.heap.objs.size) {s with heap:=h',toks:=tk}):wpAny (model prog w) A (call (.type "set") [.ref l]) Q E s:=by
 obtain ⟨cc,tl,hmro⟩:=F.called_set.mro
 have hmade:=F.called_set.made
 have hsub:=F.called_set.sub
 refine wpAny_call (codeAny_of_tree ?_)
 show wpAny _ _ (callAny (.type "set") _) _ _ _
 refine wpAny_pure ⟨Code.quiet_builtin _ (by decide +kernel),codeAny_builtin F.entry_type_call ?_⟩
 rw [Around.under_plain (weight_type_call_type "set" [.ref l] []) rfl]
 have g1:=F.called_set.notType
 have g2:=F.called_set.canCreate
 have g3:=F.typeCall_set_1 (.ref l)
 repeat (any_goals (first|assumption|wp_step))
 refine codeAny_mono (code_set_new_1 (.ref l) (E:=E) (Q₁:=λobj s1=>∃led:Bool,obj= .ref s.heap.objs.size/\s1={s with heap:=s.heap.push {cls:=.type "set",dict:=none,data:=.set #[] 0 (.fresh 0 0 led)}}) λled=>⟨led,rfl,rfl⟩) λr s1 hr=>?_
 cases r with
 |error e=>exact hr
 |ok fl=>
  cases fl with
  |ret obj=>
   obtain ⟨led,rfl,rfl⟩:=hr
   have hS:(s.heap.push {cls:=.type "set",dict:=none,data:=.set #[] 0 (.fresh 0 0 led)}).get? s.heap.objs.size=some {cls:=.type "set",dict:=none,data:=.set #[] 0 (.fresh 0 0 led)}:=yo _ rfl
   have hT:Shared.TypeIs {s with heap:=s.heap.push {cls:=.type "set",dict:=none,data:=.set #[] 0 (.fresh 0 0 led)}} (.ref s.heap.objs.size) "set" :=⟨_,hS,rfl⟩
   have g4:=F.called_set.init.lookup
   have g5:=F.called_set.init.bind (.ref s.heap.objs.size)
   repeat (any_goals (first|assumption|wp_step))
   refine codeAny_mono (codeAny_call_builtin (R:=wants (λr s2=>r= .none/\∃h' tk,s2={s with heap:=h',toks:=tk}/\h'.SetOf (Jjm prog w) s.heap.objs.size (inU zs) (uq zs).length/\(∀b o,s.heap.get? b=some o->h'.get? b=some o)) E) F.called_set.init.plain F.entry_set_init (check_set_init_1 hT ?_)) λr2 s2 hr2=>?_
   ·obtain ⟨⟨oc,od,oda,osl⟩,hol,hcl,nl,hdl⟩:=hl
    simp only at hcl hdl
    subst hcl hdl
    have hol':(s.heap.push {cls:=.type "set",dict:=none,data:=.set #[] 0 (.fresh 0 0 led)}).get? l=some {cls:=.type "list",dict:=od,data:=.seq items nl,slots:=osl}:=yi _ hol
    have g6:=F.sub_list_set
    have g7:=F.sub_list_frozenset
    have g8:(Value.type "list" ==Value.type "dict")=false:=by decide
    have hl1:(s.heap.push {cls:=.type "set",dict:=none,data:=.set #[] 0 (.fresh 0 0 led)}).IsList l items:=⟨_,hol',rfl,nl,rfl⟩
    unfold Builtin.«set.__init__» noKeywords Builtin.Frozenset.updateFrom
    generalize hPI:pyIter=PI
    wp_walk
    subst hPI
    refine wpAny_pyIter_list hl1 (wpAny_bind (wpAny_runValue ?_))
    have lS:l < s.heap.objs.size:=yj hol
    have h3:A.in1.in1.in1.handled=none:=by simp [hh]
    have nI:l≠(s.heap.push {cls:=.type "set",dict:=none,data:=.set #[] 0 (.fresh 0 0 led)}).objs.size:=by rw [yaa];exact yq (ybs lS)
    have nS:s.heap.objs.size∉ [(s.heap.push {cls:=.type "set",dict:=none,data:=.set #[] 0 (.fresh 0 0 led)}).objs.size,l]:=by
     rw [yaa]
     simp only [ym,yr,or_false,not_or]
     exact ⟨yq (ybq _),yau lS⟩
    refine Jy4 (Walks.list h3 _ l nI items) s.heap.objs.size nS zs hz hi hb (items.size - 0) 0 _ (by omega) (yal _) ⟨⟨_,yo _ rfl,rfl,rfl⟩,hl1.push _⟩ ?S0 ?R0
    case S0=>
     have q:((s.heap.push {cls:=.type "set",dict:=none,data:=.set #[] 0 (.fresh 0 0 led)}).push {cls:=.type "list_iterator",data:=.fields #[.ref l,.int 0 0]}).get? s.heap.objs.size=some {cls:=.type "set",dict:=none,data:=.set #[] 0 (.fresh 0 0 led)}:=yi _ hS
     refine ⟨_,#[],0,_,q,⟨rfl,rfl,rfl⟩,rfl,λe he=>by simp at he,λx=>?_,by decide,by rfl,rfl⟩
     cases x <;> simp [inU,uq]
    case R0=>
     intro h' tk km hS'
     show wpAny _ _ _ _ _ _
     refine wpAny_pure ?_
     show wpAny _ _ (ret Value.none) _ _ _
     refine wpAny_pure ⟨rfl,h',tk,rfl,hS',λb o e=>?_⟩
     have lb:b < s.heap.objs.size:=yj e
     refine km b o (yq lb) ?_ (yi _ (yi _ e))
     rw [yaa]
     simp only [ym,yr,or_false]
     exact yq (ybs lb)
   ·cases r2 with
    |error e=>exact hr2
    |ok fl2=>
     cases fl2 with
     |ret r=>
      obtain ⟨rfl,h',tk,rfl,hS',hk'⟩:=hr2
      repeat (any_goals (first|assumption|wp_step))
      exact h _ _ hS' hk'
     |_=>exact hr2.elim
  |_=>exact hr.elim
end
def TxS (P:Program) (w:World) (a:Addr) (zs:List Str):HO:=.ext λh=>h.SetOf (Jjm P w) a (inU zs) (uq zs).length
theorem txs_ok {P:Program} {w:World} {H:Hp} {h:Heap} {a:Addr} {zs:List Str} (hS:h.SetOf (Jjm P w) a (inU zs) (uq zs).length):ObjOk P w H h a (TxS P w a zs):=
 ⟨hS,(let ⟨o,_,_,_,ho,_⟩:=hS;⟨o,ho⟩),λ_ _ p k=>Jq2 p k (λ_=>rfl) rfl⟩
section
variable {X:Cx}
theorem Jrk (hc:X.calm=true):Jle X (.type "set") (λxs H Q=>∃(l:Addr) (zs:List Str),xs= [.ref l]/\SqL X.K H l (zs.map V.str)/\zs.length<=2000/\∀a,H a=none->Q (.ref a) (upd H a (TxS X.prog X.w a zs))):=by
 intro pins s σ H xs us Q I r h
 obtain ⟨l,zs,rfl,hq,hz,q⟩:=h
 obtain ⟨u,rfl,ru⟩:=Jm0 r
 obtain rfl:u=Value.ref l:=ru
 obtain ⟨its,rv,pl,_⟩:=I.list hq
 have hlen:=rv.length
 rw [yf] at hlen
 refine Y0 (zs:=zs) (I.ok.hd hc) pl.isList (by simpa using hlen) (λi v hv=>?_) (by simp only [yt];unfold scanBound;omega) λh' tk hS kk=>⟨.ref s.heap.objs.size,_,I.laid (a:=s.heap.objs.size) (o:=TxS X.prog X.w s.heap.objs.size zs) (t':=tk) kk (yg _) (txs_ok hS),rfl,q _ (I.hok.fresh (yg _))⟩
 ·have hv':its[i]?=some v:=by simpa using hv
  have hlt:i < zs.length:=by have:=(yv.mp hv').1;omega
  obtain ⟨u,hu,ru⟩:=rv.get (i:=i) (x:=V.str zs[i]) (by rw [yp,yn hlt];rfl)
  rw [hv'] at hu
  cases hu
  obtain ⟨t,rfl⟩:=ru
  exact ⟨zs[i],t,yn hlt,rfl⟩
theorem Jrj:Jle X (.builtin "len") (λxs H Q=>∃(a:Addr) (zs:List Str),xs= [.ref a]/\H a=some (TxS X.prog X.w a zs)/\Q (.int (uq zs).length) H):=by
 intro pins s σ H xs us Q I r h
 obtain ⟨a,zs,rfl,ha,q⟩:=h
 obtain ⟨u,rfl,ru⟩:=Jm0 r
 obtain rfl:u=Value.ref a:=ru
 obtain ⟨o,es,ep,t,ho,hex,hd,_,_,hb,hf,hn⟩:=(I.hok a _ ha).1
 refine call_len_set ho hex hd hf (by unfold scanBound at hb;omega) ?_
 rw [hn]
 exact ⟨.int _,H,I.tok _,⟨_,rfl⟩,q⟩
end
end L2
namespace L2
open PySem PySem.Spec PyProof.Rows PySem.W
theorem Yn:bootBuiltins "set" =some (.type "set"):=by decide +kernel
theorem Jpm:bootBuiltins "enumerate" =some (.type "enumerate"):=by decide +kernel
section
variable {X:Cx}
end
end L2
namespace L2
open PySem PySem.Spec PyProof.Rows PySem.W
def ItE (K:PySem.W.Frag) (a:Addr):It:=⟨λi H=>∃xs x,SqL K H a xs/\xs[i]?=some x,
 λi H x H'=>∃T u,H T=none/\x= .ref T/\(∀xs,SqL K H a xs->xs[i]?=some u)/\H'=upd H T (.tup [.int i,u]),
 λi H=>∃xs,SqL K H a xs/\i=xs.length⟩
def EnuSt (e it l:Addr) (i:Nat) (h:Heap):Prop:=(∃old,IsEnum h e it i old)/\h.IsListIter it l i
theorem EnuSt.obj {e it l:Addr} {i:Nat} {h:Heap} (st:EnuSt e it l i h):∀b∈ [e,it],∃o,h.get? b=some o/\∀v,o.data≠ .cell v:=λb hb=>by
 obtain ⟨⟨old,h1⟩,⟨o4,h4,_,d4⟩⟩:=st
 simp only [ym,yr,or_false] at hb
 rcases hb with rfl|rfl
 ·exact ⟨_,h1,λv z=>by cases z⟩
 ·exact ⟨o4,h4,λv z=>by rw [d4] at z;cases z⟩
theorem Ybt {P:Program} {w:World} {K:PySem.W.Frag} {elts:List Expr} {kt:Nat} {pt:Pos} (e it l:Addr) (n1:e≠it) (n2:l≠e) (n3:l≠it):
  Jq7 P w K (.Tuple elts kt pt) (ItE K l) [e,it] e (EnuSt e it l) where
 mem:=by simp
 obj:=λi h st=>st.obj
 keep:=λi h h' st k=>by
  obtain ⟨⟨old,h1⟩,h2⟩:=st
  exact ⟨⟨old,k e (by simp) _ h1⟩,h2.at λo q=>k it (by simp) o q⟩
 item:=by
  intro X hP hw hK hc i pins s σ H E I hf st hg
  subst hP hw hK
  obtain ⟨xs,x,q1,hx⟩:=hg
  obtain ⟨its,rv,p1,_⟩:=I.list q1
  obtain ⟨u,hu,ru⟩:=rv.get hx
  have W:=WalksT.enumerate (prog:=X.prog) (w:=X.w) (I.ok.hd hc) e it l n1 n2 n3 its.toArray
  obtain ⟨s1,s2⟩:=st
  have li:i < its.length:=(yv.mp hu).1
  refine W.item i s _ _ (by simp only [yt];omega) ⟨s1,s2,p1.isList⟩ λT vals h' tk hP fT tT mid kk=>?_
  refine ⟨_,rfl,W.go elts kt pt i T _ _ _ mid λh'' st'' kk2=>?_⟩
  obtain ⟨t,a,ha,rfl⟩:=hP
  have ea:a=u:=by simpa [hu] using ha.symm
  subst ea
  obtain ⟨t1,t2,_⟩:=st''
  have kT:h''.IsTuple T #[.int i t,a]:=by
   obtain ⟨o,q,r⟩:=tT
   exact ⟨o,kk2 T o (W.apart i T h' mid) q,r⟩
  refine ⟨.ref T,upd H T (.tup [.int i,x]),I.turnTup (ch:=[e,it]) (t':=tk) hf (λc o hc q=>kk2 c o hc (kk c o hc q)) fT ⟨(show 2<=sizeLine by decide),[.int i t,a],.cons ⟨t,rfl⟩ (.cons ru .nil),kT⟩,rfl,⟨T,x,I.hok.fresh fT,rfl,λxs' hq=>by rw [I.list_inj hq q1];exact hx,rfl⟩,⟨t1,t2⟩,λc hc=>?_⟩
  have hcn:=(hf c hc).1
  rw [Jjg (λw'=>?_)]
  ·exact hcn
  ·subst w'
   obtain ⟨o,q,_⟩:=EnuSt.obj (show EnuSt e it l i s.heap from ⟨s1,s2⟩) c hc
   exact absurd (yj q) (yas.mpr fT)
 done:=by
  intro X hP hw hK hc i pins s σ H E I hf st hg
  subst hP hw hK
  obtain ⟨xs,q1,hi⟩:=hg
  obtain ⟨its,rv,p1,_⟩:=I.list q1
  have W:=WalksT.enumerate (prog:=X.prog) (w:=X.w) (I.ok.hd hc) e it l n1 n2 n3 its.toArray
  obtain ⟨s1,s2⟩:=st
  have e1:=rv.length
  have ei:i=its.toArray.size:=by simp only [yt];omega
  subst ei
  refine W.done s _ _ ⟨s1,s2,p1.isList⟩ λh' tk kk=>⟨rfl,?_⟩
  exact I.turnMany (ch:=[e,it]) hf λc o hc q=>kk c o hc q
 self:=λ_ _ _ _ _ st h=>let ⟨_,q⟩:=st.1;wpAny_pyIter_enum q h
def iEnu (K:PySem.W.Frag) (ta:TA):TI:=λσ H R=>ta σ H λvs H1=>∃a,vs= [.ref a]/\(∃xs,SqL K H1 a xs)/\R (ItE K a) H1
theorem Jyq {X:Cx} {elts:List Expr} {kt:Nat} {pt:Pos} {a:Expr} {ta:TA} {p pos:Pos} (hg:Gl X "enumerate") (hm:X.mg "enumerate" =none) (ha:PA X [a] ta) (hs:starEach [a] X.env= [(false,eval a X.env)]:=by rfl):
  PI X (.Tuple elts kt pt) (.Call (.Name "enumerate" p) [a] [] pos) (iEnu X.K ta):=by
 intro pins s σ H R I h
 refine Call_ (Jn9 I hg hm Jpm (PyProof.Rows.callWith_type1 (thn (ha pos pins s σ H _ I h) λus s1 zq=>?_) (by rw [hs];rfl) rfl))
 obtain ⟨vs,H1,I1,r1,q1⟩:=zq
 obtain ⟨l,rfl,⟨xs,q1⟩,q⟩:=q1
 obtain ⟨u,rfl,r2⟩:=Jm0 r1
 obtain rfl:u=Value.ref l:=r2
 obtain ⟨its,rv,p1,_⟩:=I1.list q1
 have a1:l < s1.heap.objs.size:=by obtain ⟨o,n,e,_⟩:=p1;exact yj e
 refine call_enumerate_list p1.isList λh' z1 z2 z3 kk=>?_
 have I2:Inv X pins σ H1 {s1 with heap:=h'}:=I1.kept (t':=s1.toks) kk
 refine wpAny_pyIter_enum z1 ⟨_,_,_,_,H1,rfl,I2,Ybt (s1.heap.objs.size+1) s1.heap.objs.size l (Nat.succ_ne_self _) (yq (ybs a1)) (yq a1),⟨⟨_,z1⟩,z2⟩,λc hc=>?_,q⟩
 have hc':s1.heap.objs.size<=c:=by
  simp only [ym,yr,or_false] at hc
  rcases hc with rfl|rfl
  ·exact Nat.le_succ _
  ·exact yg _
 exact I1.fpOk hc' (I1.hok.fresh hc')
end L2
namespace L2
open PySem PySem.Spec PyProof.Rows PySem.W
section
variable {prog:Program} {w:World} {A:Around} {E:Value->Shared->Prop} {s:Shared}
theorem Jvg {it t:Addr} {i:Nat} {items:Array Value} {x:Value} {Q:Value->Shared->Prop} (hit:s.heap.IsTupleIter it t i) (ht:s.heap.IsTuple t items) (hx:items[i]?=some x)
  (hQ:∀h',h'.IsTupleIter it t (i+1)->yai it s.heap h'->Q x {s with heap:=h'}):wpAny (model prog w) A (Builtin.SmallTypes.nextOf (.ref it)) Q E s:=by
 obtain ⟨o,ho,hc,hd⟩:=id hit
 obtain ⟨ol,hol,_,nl,hdl⟩:=ht
 have hT:s.TypeIs (.ref it) "tuple_iterator" :=⟨o,ho,hc⟩
 unfold Builtin.SmallTypes.nextOf
 refine wpAny_bind (wpAny_callSpecial?_slot (name:=Str.ofString "__next__") hT slot_tupleiter_next (wpAny_call_entry slot_tupleiter_next hT entry_tupleiter_next ?_ (args_tupleiter_next _)))
 refine wpAny_bind (m:=field (.ref it) 0) (wpAny_field ho hd (x:=.ref t) rfl ?_)
 show wpAny _ _ (if (Value.ref t==Value.none)=true then _ else _) _ _ s
 rw [if_neg (show ¬((Value.ref t==Value.none)=true) from yw)]
 refine wpAny_bind (m:=field (.ref it) 1) (wpAny_field ho hd (x:=.int i 0) rfl ?_)
 refine wpAny_bind (m:=seqItems? (.ref t)) (wpAny_seqItems hol hdl ?_)
 simp only [ybc,hx]
 refine wpAny_bind (wpAny_setField ho hd (by simp) (wpAny_pure ⟨x,rfl,wpAny_pure (hQ _ ⟨_,ybm _ ho (Obj.isFreed_of_fields (Obj.data_mapFields hd _)),(Obj.cls_mapFields ..).trans hc,?_⟩ (yai.update ..))⟩))
 rw [Obj.data_mapFields hd]
 simp [rawInt]
theorem Jwq {it t:Addr} {i:Nat} {items:Array Value} {Q:Value->Shared->Prop} (hh:A.handled=none) (hit:s.heap.IsTupleIter it t i) (ht:s.heap.IsTuple t items) (hx:items[i]?=none)
  (hE:∀h' e,Heap.ExtBut it s.heap h'->(∃o,h'.get? e=some o/\o.cls= .type "StopIteration")->E (.ref e) {s with heap:=h'}):wpAny (model prog w) A (Builtin.SmallTypes.nextOf (.ref it)) Q E s:=by
 obtain ⟨o,ho,hc,hd⟩:=id hit
 obtain ⟨ol,hol,_,nl,hdl⟩:=ht
 have hT:s.TypeIs (.ref it) "tuple_iterator" :=⟨o,ho,hc⟩
 unfold Builtin.SmallTypes.nextOf
 refine wpAny_bind (wpAny_callSpecial?_slot (name:=Str.ofString "__next__") hT slot_tupleiter_next (wpAny_call_entry slot_tupleiter_next hT entry_tupleiter_next ?_ (args_tupleiter_next _)))
 refine wpAny_bind (m:=field (.ref it) 0) (wpAny_field ho hd (x:=.ref t) rfl ?_)
 show wpAny _ _ (if (Value.ref t==Value.none)=true then _ else _) _ _ s
 rw [if_neg (show ¬((Value.ref t==Value.none)=true) from yw)]
 refine wpAny_bind (m:=field (.ref it) 1) (wpAny_field ho hd (x:=.int i 0) rfl ?_)
 refine wpAny_bind (m:=seqItems? (.ref t)) (wpAny_seqItems hol hdl ?_)
 simp only [ybc,hx]
 refine wpAny_bind (wpAny_rule (wpAny_bind (wpAny_setField ho hd (by simp) ?_)))
 refine wpAny_bind (m:=newExc (.type "StopIteration") []) ?_
 simp only [newExc,newTuple]
 refine wpAny_bind (wpAny_newObj_type (wpAny_bind (m:=firstArgMember _ _) (wpAny_of_eq (a:=Value.none) (by first|rfl|(simp only [firstArgMember];rfl)) (wpAny_newObj_type ?_ (by size_fits)))) (by size_fits))
 simp only [raiseNew]
 refine wpAny_bind (wpAny_handled ?_)
 first|rw [show A.in1.handled=none from hh]|rw [hh]
 exact wpAny_bind (wpAny_pure (wpAny_throw (hE _ _ (((yai.update ..).extBut.push _).push _) ⟨_,yo _ rfl,rfl⟩)))
end
theorem Jqe {prog:Program} {w:World} {A:Around} (hh:A.handled=none) (it l:Addr) (hne:l≠it) (items:Array Value):
  Draws prog w A it [it,l] items.size (λi v=>items[i]?=some v) (λi h=>h.IsTupleIter it l i/\h.IsTuple l items) where
 live:=λ_ _ st=>let ⟨o,ho,_⟩:=st.1;⟨o,ho⟩
 frame:=λ_ _ _ st hk=>⟨st.1.at λo e=>hk it (by simp) o e,st.2.at λo e=>hk l (by simp) o e⟩
 item:=λi s Q E hi st hQ=>Jvg st.1 st.2 (x:=items[i]) (by simp [hi]) λh' hit' hs'=>hQ _ h' s.toks (by simp [hi]) ⟨hit',st.2.extBut hs'.extBut hne⟩ hs'
 done:=λs Q E st hE=>Jwq hh st.1 st.2 (by simp) hE
end L2
namespace L2
open PySem PySem.Spec PyProof.Rows PySem.W
set_option maxRecDepth 100000 in
set_option maxHeartbeats 2000000 in
theorem Yz (l:Addr) (items:Array Value) (n:Nat) (dct:Option Addr) (sl:Array (Option Value)):
  Meets (Builtin.«enumerate.__new__» ⟨[.type "enumerate",.ref l],[]⟩) (λ_ R s=>s.heap.get? l=some {cls:=.type "tuple",dict:=dct,data:=.seq items n,slots:=sl}/\
   R (.ok (.ret (.ref (s.heap.push {cls:=.type "tuple_iterator",data:=.fields #[.ref l,.int 0 0]}).objs.size)))
    {s with heap:=(s.heap.push {cls:=.type "tuple_iterator",data:=.fields #[.ref l,.int 0 0]}).push {cls:=.type "enumerate",data:=.fields #[.none,.bool false,.ref s.heap.objs.size,rawInt 0,.none,.none]}}):=
 .of_wp λprog w A R s h=>by
  obtain ⟨hp,g,d,tk,os⟩:=s
  obtain ⟨hl,h⟩:=h
  have e1:=sub_enumerate
  have e2:Heap.IsTuple (Shared.heap ⟨hp,g,d,tk,os⟩) l items:=⟨_,hl,rfl,n,rfl⟩
  wp_walk using AutoSeq1.wpAny_loadPart' hl
  refine wpAny_stack_any λst=>wpAny_pure ?_
  split
  ·rename_i c _ _ _ _ _
   cases (c==Value.type "enumerate")
   ·wp_walk using AutoSeq1.wpAny_loadPart' hl,wpAny_pyIter_tuple e2
    exact ⟨_,rfl,h⟩
   ·wp_walk using AutoSeq1.wpAny_loadPart' hl,wpAny_pyIter_tuple e2
    exact ⟨_,rfl,h⟩
  ·wp_walk using AutoSeq1.wpAny_loadPart' hl,wpAny_pyIter_tuple e2
   exact ⟨_,rfl,h⟩
section
variable {prog:Program} {w:World} {A:Around} {E:Value->Shared->Prop} {s:Shared}
theorem Jz6 {l:Addr} {items:Array Value} {Q:Value->Shared->Prop} (hL:s.heap.IsTuple l items)
  (h:∀h',IsEnum h' (s.heap.objs.size+1) s.heap.objs.size 0 .none->h'.IsTupleIter s.heap.objs.size l 0->(∀b o,s.heap.get? b=some o->h'.get? b=some o)->Q (.ref (s.heap.objs.size+1)) {s with heap:=h'}):
  wpAny (model prog w) A (call (.type "enumerate") [.ref l]) Q E s:=by
 obtain ⟨⟨c,dct,dt,sl⟩,hl,hc,n,hd⟩:=hL
 replace hc:c= .type "tuple" :=hc
 replace hd:dt= .seq items n:=hd
 subst hc hd
 refine callType_new F.called_enumerate (by decide) (F.typeCall_enumerate_1 _) (F.newCall_enumerate_1 _) (λobj=>F.args_object_init_2 obj _) F.entry_enumerate_new (Yz l items n dct sl) ⟨hl,?_⟩
 have hz:(s.heap.push {cls:=.type "tuple_iterator",data:=.fields #[.ref l,.int 0 0]}).objs.size=s.heap.objs.size+1:=yaa ..
 show _/\_
 rw [hz]
 have he:IsEnum ((s.heap.push {cls:=.type "tuple_iterator",data:=.fields #[.ref l,.int 0 0]}).push {cls:=.type "enumerate",data:=.fields #[.none,.bool false,.ref s.heap.objs.size,rawInt 0,.none,.none]}) (s.heap.objs.size+1) s.heap.objs.size 0 .none:=by
  have q:=yo (s.heap.push {cls:=.type "tuple_iterator",data:=.fields #[.ref l,.int 0 0]}) (o:={cls:=.type "enumerate",data:=.fields #[.none,.bool false,.ref s.heap.objs.size,rawInt 0,.none,.none]}) rfl
  rw [hz] at q
  exact q
 exact ⟨⟨_,he,rfl⟩,h _ he ⟨_,yi _ (yo _ rfl),rfl,rfl⟩ λb o x=>yi _ (yi _ x)⟩
end
def ItU (K:PySem.W.Frag) (a:Addr):It:=⟨λi H=>∃xs x,SqT K H a xs/\xs[i]?=some x,
 λi H x H'=>∃T u,H T=none/\x= .ref T/\(∀xs,SqT K H a xs->xs[i]?=some u)/\H'=upd H T (.tup [.int i,u]),
 λi H=>∃xs,SqT K H a xs/\i=xs.length⟩
def EnuTt (e it l:Addr) (i:Nat) (h:Heap):Prop:=(∃old,IsEnum h e it i old)/\h.IsTupleIter it l i
theorem EnuTt.obj {e it l:Addr} {i:Nat} {h:Heap} (st:EnuTt e it l i h):∀b∈ [e,it],∃o,h.get? b=some o/\∀v,o.data≠ .cell v:=λb hb=>by
 obtain ⟨⟨old,h1⟩,⟨o4,h4,_,d4⟩⟩:=st
 simp only [ym,yr,or_false] at hb
 rcases hb with rfl|rfl
 ·exact ⟨_,h1,λv z=>by cases z⟩
 ·exact ⟨o4,h4,λv z=>by rw [d4] at z;cases z⟩
theorem Y7 {P:Program} {w:World} {K:PySem.W.Frag} {elts:List Expr} {kt:Nat} {pt:Pos} (e it l:Addr) (n1:e≠it) (n2:l≠e) (n3:l≠it):
  Jq7 P w K (.Tuple elts kt pt) (ItU K l) [e,it] e (EnuTt e it l) where
 mem:=by simp
 obj:=λi h st=>st.obj
 keep:=λi h h' st k=>by
  obtain ⟨⟨old,h1⟩,h2⟩:=st
  exact ⟨⟨old,k e (by simp) _ h1⟩,h2.at λo q=>k it (by simp) o q⟩
 item:=by
  intro X hP hw hK hc i pins s σ H E I hf st hg
  subst hP hw hK
  obtain ⟨xs,x,q1,hx⟩:=hg
  obtain ⟨its,rv,p1,_⟩:=I.tuple q1
  obtain ⟨u,hu,ru⟩:=rv.get hx
  have hh:X.A.in1.handled=none:=I.ok.hd hc
  have W:=WalksT.enumerateD (prog:=X.prog) (w:=X.w) (A:=X.A) (Jqe hh it l n3 its.toArray) e n1 (by simp [n1,yk n2]) (by simp)
  obtain ⟨s1,s2⟩:=st
  have li:i < its.length:=(yv.mp hu).1
  refine W.item i s _ _ (by simp only [yt];omega) ⟨s1,s2,p1⟩ λT vals h' tk hP fT tT mid kk=>?_
  refine ⟨_,rfl,W.go elts kt pt i T _ _ _ mid λh'' st'' kk2=>?_⟩
  obtain ⟨t,a,ha,rfl⟩:=hP
  have ea:a=u:=by simpa [hu] using ha.symm
  subst ea
  obtain ⟨t1,t2,_⟩:=st''
  have kT:h''.IsTuple T #[.int i t,a]:=by
   obtain ⟨o,q,r⟩:=tT
   exact ⟨o,kk2 T o (W.apart i T h' mid) q,r⟩
  refine ⟨.ref T,upd H T (.tup [.int i,x]),I.turnTup (ch:=[e,it]) (t':=tk) hf (λc o hc q=>kk2 c o hc (kk c o hc q)) fT ⟨(show 2<=sizeLine by decide),[.int i t,a],.cons ⟨t,rfl⟩ (.cons ru .nil),kT⟩,rfl,⟨T,x,I.hok.fresh fT,rfl,λxs' hq=>by rw [I.tuple_inj hq q1];exact hx,rfl⟩,⟨t1,t2⟩,λc hc=>?_⟩
  have hcn:=(hf c hc).1
  rw [Jjg (λw'=>?_)]
  ·exact hcn
  ·subst w'
   obtain ⟨o,q,_⟩:=EnuTt.obj (show EnuTt e it l i s.heap from ⟨s1,s2⟩) c hc
   exact absurd (yj q) (yas.mpr fT)
 done:=by
  intro X hP hw hK hc i pins s σ H E I hf st hg
  subst hP hw hK
  obtain ⟨xs,q1,hi⟩:=hg
  obtain ⟨its,rv,p1,_⟩:=I.tuple q1
  have hh:X.A.in1.handled=none:=I.ok.hd hc
  have W:=WalksT.enumerateD (prog:=X.prog) (w:=X.w) (A:=X.A) (Jqe hh it l n3 its.toArray) e n1 (by simp [n1,yk n2]) (by simp)
  obtain ⟨s1,s2⟩:=st
  have e1:=rv.length
  have ei:i=its.toArray.size:=by simp only [yt];omega
  subst ei
  refine W.done s _ _ ⟨s1,s2,p1⟩ λh' tk kk=>⟨rfl,?_⟩
  exact I.turnMany (ch:=[e,it]) hf λc o hc q=>kk c o hc q
 self:=λ_ _ _ _ _ st h=>let ⟨_,q⟩:=st.1;wpAny_pyIter_enum q h
def iEnuT (K:PySem.W.Frag) (ta:TA):TI:=λσ H R=>ta σ H λvs H1=>∃a,vs= [.ref a]/\(∃xs,SqT K H1 a xs)/\R (ItU K a) H1
theorem Yar {X:Cx} {elts:List Expr} {kt:Nat} {pt:Pos} {a:Expr} {ta:TA} {p pos:Pos} (hg:Gl X "enumerate") (hm:X.mg "enumerate" =none) (ha:PA X [a] ta) (hs:starEach [a] X.env= [(false,eval a X.env)]:=by rfl):
  PI X (.Tuple elts kt pt) (.Call (.Name "enumerate" p) [a] [] pos) (iEnuT X.K ta):=by
 intro pins s σ H R I h
 refine Call_ (Jn9 I hg hm Jpm (PyProof.Rows.callWith_type1 (thn (ha pos pins s σ H _ I h) λus s1 zq=>?_) (by rw [hs];rfl) rfl))
 obtain ⟨vs,H1,I1,r1,q1⟩:=zq
 obtain ⟨l,rfl,⟨xs,q1⟩,q⟩:=q1
 obtain ⟨u,rfl,r2⟩:=Jm0 r1
 obtain rfl:u=Value.ref l:=r2
 obtain ⟨its,rv,p1,_⟩:=I1.tuple q1
 have a1:l < s1.heap.objs.size:=by obtain ⟨o,e,_⟩:=p1;exact yj e
 refine Jz6 (show s1.heap.IsTuple l its.toArray from p1) λh' z1 z2 kk=>?_
 have I2:Inv X pins σ H1 {s1 with heap:=h'}:=I1.kept (t':=s1.toks) kk
 refine wpAny_pyIter_enum z1 ⟨_,_,_,_,H1,rfl,I2,Y7 (s1.heap.objs.size+1) s1.heap.objs.size l (Nat.succ_ne_self _) (yq (ybs a1)) (yq a1),⟨⟨_,z1⟩,z2⟩,λc hc=>?_,q⟩
 have hc':s1.heap.objs.size<=c:=by
  simp only [ym,yr,or_false] at hc
  rcases hc with rfl|rfl
  ·exact Nat.le_succ _
  ·exact yg _
 exact I1.fpOk hc' (I1.hok.fresh hc')
end L2
namespace L2
open PySem PySem.Spec PyProof.Rows PySem.W
abbrev Jlf (h:Heap) (T:Addr) (a b c:Value):Prop:=h.get? T=some {cls:=.type "tuple",data:=.seq #[a,b,c]}
abbrev DrA (prog:Program) (w:World) (i l:Addr) (n:Nat) (P:Nat->Value->Prop) (St:Nat->Heap->Prop):Prop:=∀A:Around,A.handled=none->Draws prog w A i [i,l] n P St
structure Z3 (z TI TO i1 i2 i3 l1 l2 l3:Addr):Prop where
 nd: [z,TI,TO,i1,i2,i3].Nodup
 m1:l1∉ [z,TI,TO,i1,i2,i3]
 m2:l2∉ [z,TI,TO,i1,i2,i3]
 m3:l3∉ [z,TI,TO,i1,i2,i3]
section
variable {prog:Program} {w:World} {A:Around} {E:Value->Shared->Prop} {s:Shared}
theorem Jy7 {T:Addr} {a b c x:Value} {k:Nat} {Q:Unit->Shared->Prop} (hT:Jlf s.heap T a b c)
  (h:∀h',h'.get? T=some {cls:=.type "tuple",data:=.seq ((#[a,b,c]:Array Value).setIfInBounds k x)}->yai T s.heap h'->Q () {s with heap:=h'}):wpAny (model prog w) A (updateSeq T (·.setIfInBounds k x)) Q E s:=by
 refine wpAny_updateSeq hT rfl (h _ ?_ (yai.update ..))
 rw [ybm _ hT rfl]
 simp [Obj.mapSeq]
variable {z TI TO i1 i2 i3 l1 l2 l3:Addr} {n k:Nat} {P1 P2 P3:Nat->Value->Prop} {S1 S2 S3:Nat->Heap->Prop} {a b c:Value}
theorem Ydp {n2:Nat} {Q:Value->Shared->Prop} (Z:Z3 z TI TO i1 i2 i3 l1 l2 l3) (hz:IsZip s.heap z TI TO .none) (hTI:Jlf s.heap TI (.ref i1) (.ref i2) (.ref i3)) (hTO:Jlf s.heap TO a b c)
  (hh:A.handled=none) (D1:DrA prog w i1 l1 n P1 S1) (D2:DrA prog w i2 l2 n2 P2 S2) (D3:DrA prog w i3 l3 n P3 S3) (hk:k < n) (hk2:k < n2) (t1:S1 k s.heap) (t2:S2 k s.heap) (t3:S3 k s.heap)
  (hQ:∀x y u h' tk,P1 k x->P2 k y->P3 k u->IsZip h' z TI TO (rawInt s.heap.objs.size)->Jlf h' TO x y u->S1 (k+1) h'->S2 (k+1) h'->S3 (k+1) h'->Jlf h' s.heap.objs.size x y u->
   (∀d o,d≠z->d≠TO->d≠i1->d≠i2->d≠i3->s.heap.get? d=some o->h'.get? d=some o)->Q (.ref s.heap.objs.size) {s with heap:=h',toks:=tk}):
  wpAny (model prog w) A (Builtin.«zip.__next__» ⟨[.ref z],[]⟩) (λfin s'=>∃v,fin= .done (.ret v)/\Q v s') E s:=by
 obtain ⟨nd,m1,m2,m3⟩:=Z
 simp only [yav,ym,yr,or_false,not_or,ybk,and_true,not_false_eq_true] at nd m1 m2 m3
 obtain ⟨⟨zTI,zTO,z1,z2,z3⟩,⟨TITO,TI1,TI2,TI3⟩,⟨TO1,TO2,TO3⟩,⟨n12,n13⟩,n23⟩:=nd
 obtain ⟨l1z,l1TI,l1TO,l11,l12,l13⟩:=m1
 obtain ⟨l2z,l2TI,l2TO,l21,l22,l23⟩:=m2
 obtain ⟨l3z,l3TI,l3TO,l31,l32,l33⟩:=m3
 have fr:∀{S:Nat->Heap->Prop} {P:Nat->Value->Prop} {i l b:Addr} {m n':Nat} {h h':Heap},DrA prog w i l n' P S->i≠b->l≠b->yai b h h'->S m h->S m h':=λD e1 e2 sb st=>
  (D A hh).frame _ _ _ st λd hd o e=>by
   simp only [ym,yr,or_false] at hd
   rcases hd with rfl|rfl
   ·exact sb.extBut _ _ e1 e
   ·exact sb.extBut _ _ e2 e
 show wpAny _ _ (field (.ref z) 2 >>=_) _ _ _
 refine wpAny_bind (wpAny_field hz rfl (x:=.bool false) rfl ?_)
 refine wpAny_bind (m:=field (.ref z) 3) (wpAny_field hz rfl (x:=.ref TI) rfl ?_)
 refine wpAny_bind (wpAny_seqItems hTI rfl ?_)
 refine wpAny_bind (m:=Builtin.SmallTypes.ownedTupleIsFree (.ref z)) ?_
 unfold Builtin.SmallTypes.ownedTupleIsFree
 refine wpAny_bind (wpAny_field hz rfl (x:=.none) rfl (wpAny_pure ?_))
 simp only [if_true]
 refine wpAny_bind (wpAny_rule (wpAny_bind (wpAny_field hz rfl (x:=.ref TO) rfl (wpAny_bind (wpAny_setField_rec hz (by simp) λh1 hz1 s1=>?_)))))
 replace hz1:IsZip h1 z TI TO .ellipsis:=hz1
 refine wpAny_bind ?_
 simp only [List.zipIdx_cons,List.zipIdx_nil,yce,List.forIn_nil]
 refine wpAny_bind (wpAny_bind (wpAny_onRaise ?_))
 refine wpAny_bind (m:=Builtin.SmallTypes.nextOf (.ref i1)) ((D1 A hh).item k _ _ _ hk (fr D1 (yk z1) l1z s1 t1) λx h2 k2 px u1 s2=>wpAny_pure ?_)
 have o2:Jlf h2 TO a b c:=s2.extBut _ _ TO1 (s1.extBut _ _ (yk zTO) hTO)
 refine wpAny_bind (wpAny_seqItems o2 rfl (wpAny_bind (Jy7 o2 λh3 o3 s3=>wpAny_bind (wpAny_letGo (wpAny_pure ?_)))))
 replace o3:Jlf h3 TO x b c:=o3
 refine wpAny_bind (wpAny_bind (wpAny_onRaise ?_))
 refine wpAny_bind (m:=Builtin.SmallTypes.nextOf (.ref i2)) ((D2 A hh).item k _ _ _ hk2 (fr D2 (yk TO2) l2TO s3 (fr D2 (yk n12) l21 s2 (fr D2 (yk z2) l2z s1 t2))) λy h4 k4 py u2 s4=>wpAny_pure ?_)
 have o4:Jlf h4 TO x b c:=s4.extBut _ _ TO2 o3
 refine wpAny_bind (wpAny_seqItems o4 rfl (wpAny_bind (Jy7 o4 λh5 o5 s5=>wpAny_bind (wpAny_letGo (wpAny_pure ?_)))))
 replace o5:Jlf h5 TO x y c:=o5
 refine wpAny_bind (wpAny_bind (wpAny_onRaise ?_))
 refine wpAny_bind (m:=Builtin.SmallTypes.nextOf (.ref i3)) ((D3 A hh).item k _ _ _ hk (fr D3 (yk TO3) l3TO s5 (fr D3 (yk n23) l32 s4 (fr D3 (yk TO3) l3TO s3 (fr D3 (yk n13) l31 s2 (fr D3 (yk z3) l3z s1 t3))))) λu h6 k6 pu u3 s6=>wpAny_pure ?_)
 have o6:Jlf h6 TO x y c:=s6.extBut _ _ TO3 o5
 refine wpAny_bind (wpAny_seqItems o6 rfl (wpAny_bind (Jy7 o6 λh7 o7 s7=>wpAny_bind (wpAny_letGo (wpAny_pure (wpAny_pure ?_))))))
 replace o7:Jlf h7 TO x y u:=o7
 refine wpAny_bind (wpAny_seqItems o7 rfl (wpAny_bind (wpAny_newTuple ?_)))
 have sz:h7.objs.size=s.heap.objs.size:=by rw [s7.1,s6.1,s5.1,s4.1,s3.1,s2.1,s1.1]
 have zz:IsZip h7 z TI TO .ellipsis:=s7.extBut _ _ zTO (s6.extBut _ _ z3 (s5.extBut _ _ zTO (s4.extBut _ _ z2 (s3.extBut _ _ zTO (s2.extBut _ _ z1 hz1)))))
 have kk:∀d o,d≠z->d≠TO->d≠i1->d≠i2->d≠i3->s.heap.get? d=some o->h7.get? d=some o:=λd o c1 c2 c3 c4 c5 e=>
  s7.extBut _ _ c2 (s6.extBut _ _ c5 (s5.extBut _ _ c2 (s4.extBut _ _ c4 (s3.extBut _ _ c2 (s2.extBut _ _ c3 (s1.extBut _ _ c1 e))))))
 have w1:S1 (k+1) h7:=fr D1 (yk TO1) l1TO s7 (fr D1 n13 l13 s6 (fr D1 (yk TO1) l1TO s5 (fr D1 n12 l12 s4 (fr D1 (yk TO1) l1TO s3 u1))))
 have w2:S2 (k+1) h7:=fr D2 (yk TO2) l2TO s7 (fr D2 n23 l23 s6 (fr D2 (yk TO2) l2TO s5 u2))
 have w3:S3 (k+1) h7:=fr D3 (yk TO3) l3TO s7 u3
 have zlt:z < h7.objs.size:=yj zz
 refine wpAny_bind (m:=Builtin.SmallTypes.ownedTupleHandOut (.ref z) (.ref h7.objs.size)) ?_
 unfold Builtin.SmallTypes.ownedTupleHandOut
 have zp:IsZip (h7.push {cls:=.type "tuple",data:=.seq #[x,y,u]}) z TI TO .ellipsis:=yi _ zz
 refine wpAny_bind (wpAny_setField_rec zp (by simp) λh8 hz8 s8=>?_)
 replace hz8:IsZip h8 z TI TO (rawInt h7.objs.size):=hz8
 refine wpAny_setField_rec hz8 (by simp) λh9 hz9 s9=>?_
 replace hz9:IsZip h9 z TI TO (rawInt h7.objs.size):=hz9
 have up:∀d o,d≠z->h7.get? d=some o->h9.get? d=some o:=λd o c1 e=>s9.extBut _ _ c1 (s8.extBut _ _ c1 (yi _ e))
 have nw:Jlf h9 h7.objs.size x y u:=s9.extBut _ _ (yau zlt) (s8.extBut _ _ (yau zlt) (yo _ rfl))
 have fz:∀{S:Nat->Heap->Prop} {P:Nat->Value->Prop} {i l:Addr} {m n':Nat},DrA prog w i l n' P S->i≠z->l≠z->S m h7->S m h9:=λD e1 e2 st=>(D A hh).frame _ _ _ st λd hd o e=>by
  simp only [ym,yr,or_false] at hd
  rcases hd with rfl|rfl
  ·exact up _ _ e1 e
  ·exact up _ _ e2 e
 rw [sz] at hz9 nw
 refine wpAny_pure ⟨_,rfl,?_⟩
 show Q (.ref h7.objs.size) _
 rw [sz]
 exact hQ x y u h9 _ px py pu hz9 (up _ _ (yk zTO) o7) (fz D1 (yk z1) l1z w1) (fz D2 (yk z2) l2z w2) (fz D3 (yk z3) l3z w3) nw λd o c1 c2 c3 c4 c5 e=>up d o c1 (kk d o c1 c2 c3 c4 c5 e)
theorem z3_end {Q:Fin->Shared->Prop} (Z:Z3 z TI TO i1 i2 i3 l1 l2 l3) (hz:IsZip s.heap z TI TO .none) (hTI:Jlf s.heap TI (.ref i1) (.ref i2) (.ref i3))
  (hh:A.handled=none) (D1:DrA prog w i1 l1 n P1 S1) (t1:S1 n s.heap)
  (hE:∀h' e,(∀d o,d≠z->d≠i1->s.heap.get? d=some o->h'.get? d=some o)->(∃o,h'.get? e=some o/\o.cls= .type "StopIteration")->E (.ref e) {s with heap:=h'}):
  wpAny (model prog w) A (Builtin.«zip.__next__» ⟨[.ref z],[]⟩) Q E s:=by
 obtain ⟨nd,m1,_,_⟩:=Z
 simp only [yav,ym,yr,or_false,not_or,ybk,and_true,not_false_eq_true] at nd m1
 obtain ⟨⟨zTI,zTO,z1,z2,z3⟩,_⟩:=nd
 obtain ⟨l1z,l1TI,l1TO,l11,l12,l13⟩:=m1
 show wpAny _ _ (field (.ref z) 2 >>=_) _ _ _
 refine wpAny_bind (wpAny_field hz rfl (x:=.bool false) rfl ?_)
 refine wpAny_bind (m:=field (.ref z) 3) (wpAny_field hz rfl (x:=.ref TI) rfl ?_)
 refine wpAny_bind (wpAny_seqItems hTI rfl ?_)
 refine wpAny_bind (m:=Builtin.SmallTypes.ownedTupleIsFree (.ref z)) ?_
 unfold Builtin.SmallTypes.ownedTupleIsFree
 refine wpAny_bind (wpAny_field hz rfl (x:=.none) rfl (wpAny_pure ?_))
 simp only [if_true]
 refine wpAny_bind (wpAny_rule (wpAny_bind (wpAny_field hz rfl (x:=.ref TO) rfl (wpAny_bind (wpAny_setField_rec hz (by simp) λh1 hz1 s1=>?_)))))
 replace hz1:IsZip h1 z TI TO .ellipsis:=hz1
 refine wpAny_bind ?_
 simp only [List.zipIdx_cons,List.zipIdx_nil,yce,List.forIn_nil]
 refine wpAny_bind (wpAny_bind (wpAny_onRaise ?_))
 refine wpAny_bind (m:=Builtin.SmallTypes.nextOf (.ref i1)) ((D1 A hh).done _ _ _ ((D1 A hh).frame _ _ _ t1 λd hd o e=>?_) λh2 e s2 he=>?_)
 ·simp only [ym,yr,or_false] at hd
  rcases hd with rfl|rfl
  ·exact s1.extBut _ _ (yk z1) e
  ·exact s1.extBut _ _ l1z e
 ·obtain ⟨oe,hoe,hce⟩:=he
  have hz2:IsZip h2 z TI TO .ellipsis:=s2 _ _ z1 hz1
  have ez:e≠z:=λq=>by subst q;rw [hz2] at hoe;cases hoe;simp at hce
  exact wpAny_setField_rec hz2 (by simp) λh3 _ s3=>hE h3 e (λd o c1 c2 q=>s3.extBut _ _ c1 (s2 _ _ c2 (s1.extBut _ _ c1 q))) ⟨oe,s3.extBut _ _ ez hoe,hce⟩
end
end L2
namespace L2
open PySem PySem.Spec PyProof.Rows PySem.W
def Z3St (z TI TO i1 i2 i3:Addr) (S1 S2 S3:Nat->Heap->Prop) (i:Nat) (h:Heap):Prop:=IsZip h z TI TO .none/\Jlf h TI (.ref i1) (.ref i2) (.ref i3)/\(∃a b c,Jlf h TO a b c)/\S1 i h/\S2 i h/\S3 i h
section
variable {prog:Program} {w:World} {z TI TO i1 i2 i3 l1 l2 l3:Addr} {n:Nat} {P1 P2 P3:Nat->Value->Prop} {S1 S2 S3:Nat->Heap->Prop}
theorem Ybx {n2:Nat} {A:Around} (hh:A.handled=none) (Z:Z3 z TI TO i1 i2 i3 l1 l2 l3) (D1:DrA prog w i1 l1 n P1 S1) (hn:n<=n2) (D2:DrA prog w i2 l2 n2 P2 S2) (D3:DrA prog w i3 l3 n P3 S3):
  WalksT prog w A z [z,TI,TO,i1,i2,i3,l1,l2,l3] [z,TO,i1,i2,i3] n (λi vals=>∃x y u,P1 i x/\P2 i y/\P3 i u/\vals= #[x,y,u]) (Z3St z TI TO i1 i2 i3 S1 S2 S3)
   (λi T h=>IsZip h z TI TO (rawInt T)/\Jlf h TI (.ref i1) (.ref i2) (.ref i3)/\(∃a b c,Jlf h TO a b c)/\S1 (i+1) h/\S2 (i+1) h/\S3 (i+1) h/\T∉ [z,TO,i1,i2,i3]) where
 sub:=λc hc=>by simp at hc⊢;rcases hc with rfl|rfl|rfl|rfl|rfl <;> simp
 frame:=λi h h' hst hk=>by
  obtain ⟨hz,hTI,⟨a,b,c,hTO⟩,h1,h2,h3⟩:=hst
  exact ⟨hk z (by simp) _ hz,hk TI (by simp) _ hTI,⟨a,b,c,hk TO (by simp) _ hTO⟩,(D1 A hh).frame _ _ _ h1 λd hd o e=>hk d (by simp at hd;rcases hd with rfl|rfl <;> simp) o e,
   (D2 A hh).frame _ _ _ h2 λd hd o e=>hk d (by simp at hd;rcases hd with rfl|rfl <;> simp) o e,(D3 A hh).frame _ _ _ h3 λd hd o e=>hk d (by simp at hd;rcases hd with rfl|rfl <;> simp) o e⟩
 item:=λi s Q E hi hst hQ=>by
  obtain ⟨hz,hTI,⟨a,b,c,hTO⟩,h1,h2,h3⟩:=hst
  have hT:s.TypeIs (.ref z) "zip" :=⟨_,hz,rfl⟩
  have nd:=Z.nd
  simp only [yav,ym,yr,or_false,not_or,ybk,and_true,not_false_eq_true] at nd
  obtain ⟨⟨zTI,_⟩,⟨TITO,TI1,TI2,TI3⟩,_⟩:=nd
  obtain ⟨e1,g1⟩:=(D1 A hh).live _ _ h1
  obtain ⟨e2,g2⟩:=(D2 A hh).live _ _ h2
  obtain ⟨e3,g3⟩:=(D3 A hh).live _ _ h3
  unfold pyNext
  refine wpAny_bind (wpAny_attempt (wpAny_callSpecial?_slot (name:=Str.ofString "__next__") hT F.slot_zip_next (wpAny_call_entry F.slot_zip_next hT F.entry_zip_next
   (Ydp (A:=A.in1) Z hz hTI hTO hh D1 D2 D3 hi (yah hi hn) h1 h2 h3 λx y u h' tk px py pu a1 a2 a3 a4 a5 a6 hk=>wpAny_pure ?_) (F.args_zip_next_1 _))))
  refine hQ s.heap.objs.size #[x,y,u] h' tk ⟨x,y,u,px,py,pu,rfl⟩ (yg _) ⟨_,a6,rfl,_,rfl⟩ ⟨a1,hk _ _ (yk zTI) TITO TI1 TI2 TI3 hTI,⟨_,_,_,a2⟩,a3,a4,a5,?_⟩ λd o hd e=>hk d o (λq=>hd (by simp [q])) (λq=>hd (by simp [q])) (λq=>hd (by simp [q])) (λq=>hd (by simp [q])) (λq=>hd (by simp [q])) e
  have lt:∀{d o},s.heap.get? d=some o->s.heap.objs.size≠d:=λe=>yau (yj e)
  simp only [ym,yr,or_false,not_or]
  exact ⟨lt hz,lt hTO,lt g1,lt g2,lt g3⟩
 go:=λelts k pos i T s Q E hm hQ=>by
  obtain ⟨hz,hTI,⟨a,b,c,hTO⟩,h1,h2,h3,_⟩:=hm
  have nd:=Z.nd
  have m1:=Z.m1
  have m2:=Z.m2
  have m3:=Z.m3
  simp only [yav,ym,yr,or_false,not_or,ybk,and_true,not_false_eq_true] at nd m1 m2 m3
  obtain ⟨⟨zTI,zTO,z1,z2,z3⟩,_⟩:=nd
  have fz:∀{S:Nat->Heap->Prop} {P:Nat->Value->Prop} {j l:Addr} {m n':Nat} {h':Heap},DrA prog w j l n' P S->j≠z->l≠z->yai z s.heap h'->S m s.heap->S m h':=λD e1 e2 sb st=>(D A hh).frame _ _ _ st λd hd o e=>by
   simp only [ym,yr,or_false] at hd
   rcases hd with rfl|rfl
   ·exact sb.extBut _ _ e1 e
   ·exact sb.extBut _ _ e2 e
  exact wpAny_letOwnedTupleGo_zip hz λh' hz' sb=>hQ h' ⟨hz',sb.extBut _ _ (yk zTI) hTI,⟨a,b,c,sb.extBut _ _ (yk zTO) hTO⟩,fz D1 (yk z1) m1.1 sb h1,fz D2 (yk z2) m2.1 sb h2,fz D3 (yk z3) m3.1 sb h3⟩ λd o hd e=>sb.extBut _ _ (λq=>hd (by simp [q])) e
 apart:=λi T h hm hT=>hm.2.2.2.2.2.2 hT
 done:=λs Q E hst hQ=>by
  obtain ⟨hz,hTI,_,h1,h2,h3⟩:=hst
  have hT:s.TypeIs (.ref z) "zip" :=⟨_,hz,rfl⟩
  unfold pyNext
  refine wpAny_bind (wpAny_attempt (wpAny_callSpecial?_slot (name:=Str.ofString "__next__") hT F.slot_zip_next (wpAny_call_entry F.slot_zip_next hT F.entry_zip_next
   (z3_end (A:=A.in1) Z hz hTI hh D1 h1 λh' e hk he=>?_) (F.args_zip_next_1 _))))
  obtain ⟨o,ho,hc⟩:=he
  refine wpAny_bind (wpAny_isInstance (T:="StopIteration") (b:=true) ⟨o,ho,hc⟩ isSubtype_stop (wpAny_pure ?_))
  exact hQ h' s.toks λd o' hd e'=>hk d o' (λq=>hd (by simp [q])) (λq=>hd (by simp [q])) e'
 self:=λi s Q E hst hQ=>wpAny_pyIter_zip hst.1 hQ
end
end L2
namespace L2
open PySem PySem.Spec PyProof.Rows PySem.W
def SqB (K:PySem.W.Frag) (H:Hp) (l:Addr):Bool->List V->Prop
 |false,xs=>SqL K H l xs
 |true,xs=>SqT K H l xs
def IsB (h:Heap) (l:Addr):Bool->Array Value->Prop
 |false,items=>h.IsList l items
 |true,items=>h.IsTuple l items
def IS (it l:Addr):Bool->Nat->Heap->Prop
 |false,i,h=>h.IsListIter it l i
 |true,i,h=>h.IsTupleIter it l i
def itO (l:Addr):Bool->Obj
 |false=>{cls:=.type "list_iterator",data:=.fields #[.ref l,.int 0 0]}
 |true=>{cls:=.type "tuple_iterator",data:=.fields #[.ref l,.int 0 0]}
theorem IS.at {it l:Addr} {b:Bool} {i:Nat} {h h':Heap} (x:IS it l b i h) (k:∀o,h.get? it=some o->h'.get? it=some o):IS it l b i h':=by
 cases b
 ·exact Heap.IsListIter.at x k
 ·exact Heap.IsTupleIter.at x k
theorem IS.obj {it l:Addr} {b:Bool} {i:Nat} {h:Heap} (x:IS it l b i h):∃o,h.get? it=some o/\∀v,o.data≠ .cell v:=by
 cases b
 ·obtain ⟨o,e,_,d⟩:=x
  exact ⟨o,e,λv z=>by rw [d] at z;cases z⟩
 ·obtain ⟨o,e,_,d⟩:=x
  exact ⟨o,e,λv z=>by rw [d] at z;cases z⟩
theorem drA {prog:Program} {w:World} {it l:Addr} (b:Bool) (ne:l≠it) (items:Array Value):DrA prog w it l items.size (λi v=>items[i]?=some v) (λi h=>IS it l b i h/\IsB h l b items):=λA hh=>by
 cases b
 ·exact Draws.list hh it l ne items
 ·exact Jqe hh it l ne items
section
variable {prog:Program} {w:World} {A:Around} {E:Value->Shared->Prop} {s:Shared}
theorem IsB.push {h:Heap} {l:Addr} {b:Bool} {items:Array Value} (x:IsB h l b items) (o:Obj):IsB (h.push o) l b items:=by
 cases b
 ·exact Heap.IsList.push x o
 ·exact Heap.IsTuple.push x o
theorem IsB.lt {h:Heap} {l:Addr} {b:Bool} {items:Array Value} (x:IsB h l b items):l < h.objs.size:=by
 cases b
 ·obtain ⟨o,e,_⟩:=x;exact yj e
 ·obtain ⟨o,e,_⟩:=x;exact yj e
theorem Jvx {l:Addr} {b:Bool} {items:Array Value} {Q:Value->Shared->Prop} (x:IsB s.heap l b items) (hQ:Q (.ref s.heap.objs.size) {s with heap:=s.heap.push (itO l b)}):wpAny (model prog w) A (pyIter (.ref l)) Q E s:=by
 cases b
 ·exact wpAny_pyIter_list x hQ
 ·exact wpAny_pyIter_tuple x hQ
end
abbrev zA (h:Heap) (l1:Addr) (b1:Bool):Heap:=h.push (itO l1 b1)
abbrev zB (h:Heap) (l1 l2:Addr) (b1 b2:Bool):Heap:=(zA h l1 b1).push (itO l2 b2)
abbrev zC (h:Heap) (l1 l2 l3:Addr) (b1 b2 b3:Bool):Heap:=(zB h l1 l2 b1 b2).push (itO l3 b3)
abbrev zD (h:Heap) (l1 l2 l3:Addr) (b1 b2 b3:Bool):Heap:=(zC h l1 l2 l3 b1 b2 b3).push {cls:=.type "tuple",data:=.seq #[.ref h.objs.size,.ref (zA h l1 b1).objs.size,.ref (zB h l1 l2 b1 b2).objs.size]}
abbrev zE (h:Heap) (l1 l2 l3:Addr) (b1 b2 b3:Bool):Heap:=(zD h l1 l2 l3 b1 b2 b3).push {cls:=.type "tuple",data:=.seq #[.none,.none,.none]}
abbrev zF (h:Heap) (l1 l2 l3:Addr) (b1 b2 b3:Bool):Heap:=(zE h l1 l2 l3 b1 b2 b3).push {cls:=.type "zip",data:=.fields #[.none,.bool false,.bool false,.ref (zC h l1 l2 l3 b1 b2 b3).objs.size,.ref (zD h l1 l2 l3 b1 b2 b3).objs.size]}
set_option maxRecDepth 100000 in
set_option maxHeartbeats 2000000 in
theorem Yc5 (l1 l2 l3:Addr) (b1 b2 b3:Bool) (xs ys us:Array Value):
  Meets (Builtin.«zip.__new__» ⟨[.type "zip",.ref l1,.ref l2,.ref l3],[]⟩) (λ_ R s=>IsB s.heap l1 b1 xs/\IsB s.heap l2 b2 ys/\IsB s.heap l3 b3 us/\
   R (.ok (.ret (.ref (zE s.heap l1 l2 l3 b1 b2 b3).objs.size))) {s with heap:=zF s.heap l1 l2 l3 b1 b2 b3}):=
 .of_wp λprog w A R s h=>by
  obtain ⟨hp,g,d,tk,os⟩:=s
  obtain ⟨hl1,hl2,hl3,h⟩:=h
  have e0:=sub_zip
  have e1:IsB (Shared.heap ⟨hp,g,d,tk,os⟩) l1 b1 xs:=hl1
  have e2:IsB (Shared.heap ⟨hp.push (itO l1 b1),g,d,tk,os⟩) l2 b2 ys:=IsB.push hl2 _
  have e3:IsB (Shared.heap ⟨(hp.push (itO l1 b1)).push (itO l2 b2),g,d,tk,os⟩) l3 b3 us:=IsB.push (IsB.push hl3 _) _
  wp_walk using Jvx e1,Jvx e2,Jvx e3
  exact ⟨_,rfl,h⟩
theorem Jsp (a b c:Value):checkTypeCall "zip" ⟨[a,b,c],[]⟩=pure ():=by kernel_rfl
theorem Jsy (a b c:Value):checkBuiltinCall "zip.__new__" ⟨[.type "zip",a,b,c],[]⟩=pure ():=by kernel_rfl
end L2
namespace L2
open PySem PySem.Spec PyProof.Rows PySem.W
theorem Jvm (a b c d:Value):argsOk "object.__init__" ⟨[a,b,c,d],[]⟩:=by
 unfold argsOk;rw [signature?_of (id:="object.__init__") (n:=['_','_','t','i','n','i','_','_']) (o:=['t','c','e','j','b','o']) (by kernel_rfl) F.owner_object];kernel_rfl
section
variable {prog:Program} {w:World} {A:Around} {E:Value->Shared->Prop} {s:Shared}
theorem Jz9 {l1 l2 l3:Addr} {b1 b2 b3:Bool} {xs ys us:Array Value} {Q:Value->Shared->Prop} (h1:IsB s.heap l1 b1 xs) (h2:IsB s.heap l2 b2 ys) (h3:IsB s.heap l3 b3 us)
  (h:∀h',IsZip h' (s.heap.objs.size+5) (s.heap.objs.size+3) (s.heap.objs.size+4) .none->Jlf h' (s.heap.objs.size+3) (.ref s.heap.objs.size) (.ref (s.heap.objs.size+1)) (.ref (s.heap.objs.size+2))->
   Jlf h' (s.heap.objs.size+4) .none .none .none->IS s.heap.objs.size l1 b1 0 h'->IS (s.heap.objs.size+1) l2 b2 0 h'->IS (s.heap.objs.size+2) l3 b3 0 h'->
   (∀c o,s.heap.get? c=some o->h'.get? c=some o)->Q (.ref (s.heap.objs.size+5)) {s with heap:=h'}):
  wpAny (model prog w) A (call (.type "zip") [.ref l1,.ref l2,.ref l3]) Q E s:=by
 refine callType_new F.called_zip (by decide) (Jsp _ _ _) (Jsy _ _ _) (λobj=>Jvm obj _ _ _) F.entry_zip_new (Yc5 l1 l2 l3 b1 b2 b3 xs ys us) ⟨h1,h2,h3,?_⟩
 have z1:(zA s.heap l1 b1).objs.size=s.heap.objs.size+1:=yaa ..
 have z2:(zB s.heap l1 l2 b1 b2).objs.size=s.heap.objs.size+2:=by rw [yaa,z1]
 have z3:(zC s.heap l1 l2 l3 b1 b2 b3).objs.size=s.heap.objs.size+3:=by rw [yaa,z2]
 have z4:(zD s.heap l1 l2 l3 b1 b2 b3).objs.size=s.heap.objs.size+4:=by rw [yaa,z3]
 have z5:(zE s.heap l1 l2 l3 b1 b2 b3).objs.size=s.heap.objs.size+5:=by rw [yaa,z4]
 have p:∀{h:Heap} {c:Addr} {o q:Obj},h.get? c=some o->(h.push q).get? c=some o:=λe=>yi _ e
 have g6:(zF s.heap l1 l2 l3 b1 b2 b3).get? (zE s.heap l1 l2 l3 b1 b2 b3).objs.size=some _:=yo _ rfl
 have g5:(zF s.heap l1 l2 l3 b1 b2 b3).get? (zD s.heap l1 l2 l3 b1 b2 b3).objs.size=some _:=p (yo _ rfl)
 have g4:(zF s.heap l1 l2 l3 b1 b2 b3).get? (zC s.heap l1 l2 l3 b1 b2 b3).objs.size=some _:=p (p (yo _ rfl))
 have fr:∀(l:Addr) (b:Bool),(itO l b).isFreed=false:=λl b=>by cases b <;> rfl
 have g3:(zF s.heap l1 l2 l3 b1 b2 b3).get? (zB s.heap l1 l2 b1 b2).objs.size=some (itO l3 b3):=p (p (p (yo _ (fr _ _))))
 have g2:(zF s.heap l1 l2 l3 b1 b2 b3).get? (zA s.heap l1 b1).objs.size=some (itO l2 b2):=p (p (p (p (yo _ (fr _ _)))))
 have g1:(zF s.heap l1 l2 l3 b1 b2 b3).get? s.heap.objs.size=some (itO l1 b1):=p (p (p (p (p (yo _ (fr _ _))))))
 have is:∀{it l:Addr} {b:Bool} {h:Heap},h.get? it=some (itO l b)->IS it l b 0 h:=λ{it l b h} e=>by
  cases b
  ·exact ⟨_,e,rfl,rfl⟩
  ·exact ⟨_,e,rfl,rfl⟩
 show _/\_
 rw [z3,z4,z5] at g6
 rw [z1,z2,z3] at g4
 rw [z4] at g5
 rw [z2] at g3
 rw [z1] at g2
 rw [z5]
 exact ⟨⟨_,g6,rfl⟩,h _ g6 g4 g5 (is g1) (is g2) (is g3) λc o x=>p (p (p (p (p (p x)))))⟩
end
end L2
namespace L2
open PySem PySem.Spec PyProof.Rows PySem.W
section
variable {X:Cx} {pins:List (Addr×Obj)} {σ:St} {H:Hp} {s:Shared}
theorem Inv.seqB {l:Addr} {b:Bool} {xs:List V} (I:Inv X pins σ H s) (h:SqB X.K H l b xs):∃its,Vals xs its/\IsB s.heap l b its.toArray:=by
 cases b
 ·obtain ⟨its,rv,p,_⟩:=I.list h
  exact ⟨its,rv,p.isList⟩
 ·obtain ⟨its,rv,p,_⟩:=I.tuple h
  exact ⟨its,rv,p⟩
theorem Inv.seqB_inj {l:Addr} {b:Bool} {xs ys:List V} (I:Inv X pins σ H s) (h:SqB X.K H l b xs) (h':SqB X.K H l b ys):xs=ys:=by
 cases b
 ·exact I.list_inj h h'
 ·exact I.tuple_inj h h'
end
def Jvk (K:PySem.W.Frag) (l1 l2 l3:Addr) (b1 b2 b3:Bool):It:=
 ⟨λi H=>∃xs ys us,SqB K H l1 b1 xs/\SqB K H l2 b2 ys/\SqB K H l3 b3 us/\xs.length<=ys.length/\xs.length=us.length/\i < xs.length,
  λi H x H'=>∃T p q r,H T=none/\x= .ref T/\(∀xs,SqB K H l1 b1 xs->xs[i]?=some p)/\(∀ys,SqB K H l2 b2 ys->ys[i]?=some q)/\(∀us,SqB K H l3 b3 us->us[i]?=some r)/\H'=upd H T (.tup [p,q,r]),
  λi H=>∃xs ys us,SqB K H l1 b1 xs/\SqB K H l2 b2 ys/\SqB K H l3 b3 us/\xs.length<=ys.length/\xs.length=us.length/\i=xs.length⟩
def Z3T (z TI TO i1 i2 i3 l1 l2 l3:Addr) (b1 b2 b3:Bool) (i:Nat) (h:Heap):Prop:=IsZip h z TI TO .none/\Jlf h TI (.ref i1) (.ref i2) (.ref i3)/\(∃a b c,Jlf h TO a b c)/\IS i1 l1 b1 i h/\IS i2 l2 b2 i h/\IS i3 l3 b3 i h
theorem Z3T.obj {z TI TO i1 i2 i3 l1 l2 l3:Addr} {b1 b2 b3:Bool} {i:Nat} {h:Heap} (st:Z3T z TI TO i1 i2 i3 l1 l2 l3 b1 b2 b3 i h):∀b∈ [z,TI,TO,i1,i2,i3],∃o,h.get? b=some o/\∀v,o.data≠ .cell v:=λb hb=>by
 obtain ⟨h1,h2,⟨x,y,u,h3⟩,h4,h5,h6⟩:=st
 simp only [ym,yr,or_false] at hb
 rcases hb with rfl|rfl|rfl|rfl|rfl|rfl
 ·exact ⟨_,h1,λv z=>by cases z⟩
 ·exact ⟨_,h2,λv z=>by cases z⟩
 ·exact ⟨_,h3,λv z=>by cases z⟩
 ·exact h4.obj
 ·exact h5.obj
 ·exact h6.obj
theorem Z3.ne {z TI TO i1 i2 i3 l1 l2 l3:Addr} (Z:Z3 z TI TO i1 i2 i3 l1 l2 l3):l1≠i1/\l2≠i2/\l3≠i3:=by
 obtain ⟨_,m1,m2,m3⟩:=Z
 simp only [ym,yr,or_false,not_or] at m1 m2 m3
 exact ⟨m1.2.2.2.1,m2.2.2.2.2.1,m3.2.2.2.2.2⟩
theorem Ya {P:Program} {w:World} {K:PySem.W.Frag} {elts:List Expr} {kt:Nat} {pt:Pos} (z TI TO i1 i2 i3 l1 l2 l3:Addr) (b1 b2 b3:Bool) (Z:Z3 z TI TO i1 i2 i3 l1 l2 l3):
  Jq7 P w K (.Tuple elts kt pt) (Jvk K l1 l2 l3 b1 b2 b3) [z,TI,TO,i1,i2,i3] z (Z3T z TI TO i1 i2 i3 l1 l2 l3 b1 b2 b3) where
 mem:=by simp
 obj:=λi h st=>st.obj
 keep:=λi h h' st k=>by
  obtain ⟨h1,h2,⟨a,c,d,h3⟩,h4,h5,h6⟩:=st
  exact ⟨k z (by simp) _ h1,k TI (by simp) _ h2,⟨a,c,d,k TO (by simp) _ h3⟩,h4.at λo e=>k i1 (by simp) o e,h5.at λo e=>k i2 (by simp) o e,h6.at λo e=>k i3 (by simp) o e⟩
 item:=by
  intro X hP hw hK hc i pins s σ H E I hf st hg
  subst hP hw hK
  obtain ⟨xs,ys,us,q1,q2,q3,e12,e13,hi⟩:=hg
  obtain ⟨its,rv,p1⟩:=I.seqB q1
  obtain ⟨jts,rv2,p2⟩:=I.seqB q2
  obtain ⟨kts,rv3,p3⟩:=I.seqB q3
  have a1:=rv.length
  have a2:=rv2.length
  have a3:=rv3.length
  obtain ⟨n1,n2,n3⟩:=Z.ne
  have D1:=drA (prog:=X.prog) (w:=X.w) b1 n1 its.toArray
  have D2:=drA (prog:=X.prog) (w:=X.w) b2 n2 jts.toArray
  have D3:=drA (prog:=X.prog) (w:=X.w) b3 n3 kts.toArray
  rw [show kts.toArray.size=its.toArray.size by simp only [yt];omega] at D3
  have W:=Ybx (I.ok.hd hc) Z D1 (by simp only [yt];omega) D2 D3
  have st0:=st
  obtain ⟨s1,s2,s3,s4,s5,s6⟩:=st
  refine W.item i s _ _ (by simp only [yt];omega) ⟨s1,s2,s3,⟨s4,p1⟩,⟨s5,p2⟩,⟨s6,p3⟩⟩ λT vals h' tk hP fT tT mid kk=>?_
  refine ⟨_,rfl,W.go elts kt pt i T _ _ _ mid λh'' st'' kk2=>?_⟩
  obtain ⟨x,y,u,hx,hy,hu,rfl⟩:=hP
  obtain ⟨u1,hu1,r1⟩:=rv.get (i:=i) (x:=xs[i]) (yn hi)
  obtain ⟨u2,hu2,r2⟩:=rv2.get (i:=i) (x:=ys[i]'(by omega)) (yn (by omega))
  obtain ⟨u3,hu3,r3⟩:=rv3.get (i:=i) (x:=us[i]'(by omega)) (yn (by omega))
  obtain rfl:x=u1:=by simpa [hu1] using hx.symm
  obtain rfl:y=u2:=by simpa [hu2] using hy.symm
  obtain rfl:u=u3:=by simpa [hu3] using hu.symm
  obtain ⟨t1,t2,t3,t4,t5,t6⟩:=st''
  have kT:h''.IsTuple T #[x,y,u]:=by
   obtain ⟨o,q,r⟩:=tT
   exact ⟨o,kk2 T o (W.apart i T h' mid) q,r⟩
  have cht:∀c,c∈ [z,TO,i1,i2,i3]->c∈ [z,TI,TO,i1,i2,i3]:=λc hc=>by simp at hc⊢;rcases hc with rfl|rfl|rfl|rfl|rfl <;> simp
  refine ⟨.ref T,upd H T (.tup [xs[i],ys[i]'(by omega),us[i]'(by omega)]),I.turnTup (ch:=[z,TO,i1,i2,i3]) (t':=tk) (λc hc=>hf c (cht c hc)) (λc o hc e=>kk2 c o hc (kk c o hc e)) fT ⟨(show 3<=sizeLine by decide),[x,y,u],.cons r1 (.cons r2 (.cons r3 .nil)),kT⟩,rfl,
   ⟨T,_,_,_,I.hok.fresh fT,rfl,λxs' hq=>by rw [I.seqB_inj hq q1];exact yn hi,λys' hq=>by rw [I.seqB_inj hq q2];exact yn (by omega),λus' hq=>by rw [I.seqB_inj hq q3];exact yn (by omega),rfl⟩,⟨t1,t2,t3,t4.1,t5.1,t6.1⟩,λc hc=>?_⟩
  have hcn:=(hf c hc).1
  rw [Jjg (λw'=>?_)]
  ·exact hcn
  ·subst w'
   obtain ⟨o,e,_⟩:=Z3T.obj st0 c hc
   exact absurd (yj e) (yas.mpr fT)
 done:=by
  intro X hP hw hK hc i pins s σ H E I hf st hg
  subst hP hw hK
  obtain ⟨xs,ys,us,q1,q2,q3,e12,e13,hi⟩:=hg
  obtain ⟨its,rv,p1⟩:=I.seqB q1
  obtain ⟨jts,rv2,p2⟩:=I.seqB q2
  obtain ⟨kts,rv3,p3⟩:=I.seqB q3
  have a1:=rv.length
  have a2:=rv2.length
  have a3:=rv3.length
  obtain ⟨n1,n2,n3⟩:=Z.ne
  have D1:=drA (prog:=X.prog) (w:=X.w) b1 n1 its.toArray
  have D2:=drA (prog:=X.prog) (w:=X.w) b2 n2 jts.toArray
  have D3:=drA (prog:=X.prog) (w:=X.w) b3 n3 kts.toArray
  rw [show kts.toArray.size=its.toArray.size by simp only [yt];omega] at D3
  have W:=Ybx (I.ok.hd hc) Z D1 (by simp only [yt];omega) D2 D3
  obtain ⟨s1,s2,s3,s4,s5,s6⟩:=st
  have ei:i=its.toArray.size:=by simp only [yt];omega
  subst ei
  refine W.done s _ _ ⟨s1,s2,s3,⟨s4,p1⟩,⟨s5,p2⟩,⟨s6,p3⟩⟩ λh' tk kk=>⟨rfl,?_⟩
  exact I.turnMany (ch:=[z,TO,i1,i2,i3]) (λc hc=>hf c (by simp at hc⊢;rcases hc with rfl|rfl|rfl|rfl|rfl <;> simp)) λc o hc e=>kk c o hc e
 self:=λ_ _ _ _ _ st h=>wpAny_pyIter_zip st.1 h
def iZip3 (K:PySem.W.Frag) (b1 b2 b3:Bool) (ta:TA):TI:=λσ H R=>ta σ H λvs H1=>∃a b c,vs= [.ref a,.ref b,.ref c]/\(∃xs,SqB K H1 a b1 xs)/\(∃ys,SqB K H1 b b2 ys)/\(∃us,SqB K H1 c b3 us)/\R (Jvk K a b c b1 b2 b3) H1
theorem Jv8 {X:Cx} {elts:List Expr} {kt:Nat} {pt:Pos} {a b c:Expr} {ta:TA} {p pos:Pos} (b1 b2 b3:Bool) (hg:Gl X "zip") (hm:X.mg "zip" =none) (ha:PA X [a,b,c] ta) (hs:starEach [a,b,c] X.env= [(false,eval a X.env),(false,eval b X.env),(false,eval c X.env)]:=by rfl) (hs2:starEach [b,c] X.env= [(false,eval b X.env),(false,eval c X.env)]:=by rfl):
  PI X (.Tuple elts kt pt) (.Call (.Name "zip" p) [a,b,c] [] pos) (iZip3 X.K b1 b2 b3 ta):=by
 intro pins s σ H R I h
 refine Call_ (Jn9 I hg hm Yp (PyProof.Rows.callWith_type1 (thn (ha pos pins s σ H _ I h) λus s1 zq=>?_) (by rw [hs,hs2]) (by rw [hs2];rfl)))
 obtain ⟨vs,H1,I1,r1,q1⟩:=zq
 obtain ⟨l1,l2,l3,rfl,⟨xs,q1⟩,⟨ys,q2⟩,⟨zs,q3⟩,q⟩:=q1
 obtain ⟨u,v,y,rfl,r1,r2,r3⟩:∃u v y,us= [u,v,y]/\RelV (.ref l1) u/\RelV (.ref l2) v/\RelV (.ref l3) y:=by
  cases r1 with
  |cons a1 t1=>
   cases t1 with
   |cons a2 t2=>
    cases t2 with
    |cons a3 t3=>
     cases t3
     exact ⟨_,_,_,rfl,a1,a2,a3⟩
 obtain rfl:u=Value.ref l1:=r1
 obtain rfl:v=Value.ref l2:=r2
 obtain rfl:y=Value.ref l3:=r3
 obtain ⟨its,rv,p1⟩:=I1.seqB q1
 obtain ⟨jts,rv2,p2⟩:=I1.seqB q2
 obtain ⟨kts,rv3,p3⟩:=I1.seqB q3
 have a1:=p1.lt
 have a2:=p2.lt
 have a3:=p3.lt
 refine Jz9 p1 p2 p3 λh' z1 z2 z3 z4 z5 z6 kk=>?_
 have I2:Inv X pins σ H1 {s1 with heap:=h'}:=I1.kept (t':=s1.toks) kk
 have ap:Z3 (s1.heap.objs.size+5) (s1.heap.objs.size+3) (s1.heap.objs.size+4) s1.heap.objs.size (s1.heap.objs.size+1) (s1.heap.objs.size+2) l1 l2 l3:=by
  generalize hN:s1.heap.objs.size=N at*
  have big:∀l:Addr,l < N->l∉ [N+5,N+3,N+4,N,N+1,N+2]:=λl hl hm=>by
   simp only [ym,yr,or_false] at hm
   have le:N<=l:=by rcases hm with rfl|rfl|rfl|rfl|rfl|rfl <;> first|exact yg _|exact Nat.le_add_right _ _
   exact yas.mpr le hl
  exact ⟨by simp,big _ a1,big _ a2,big _ a3⟩
 refine wpAny_pyIter_zip z1 ⟨_,_,_,_,H1,rfl,I2,Ya _ _ _ _ _ _ l1 l2 l3 b1 b2 b3 ap,⟨z1,z2,⟨_,_,_,z3⟩,z4,z5,z6⟩,λd hd=>?_,q⟩
 have hd':s1.heap.objs.size<=d:=by
  simp only [ym,yr,or_false] at hd
  rcases hd with rfl|rfl|rfl|rfl|rfl|rfl <;> omega
 exact I1.fpOk hd' (I1.hok.fresh hd')
section
variable {K:PySem.W.Frag} {g:TG} {σ:St} {H:Hp}
theorem Jx3 {l1 l2 l3 D:Addr} {b1 b2 b3:Bool} {xs ys us:List V} {tt:TT} {te:TE} {R:Hp->Prop} (Pv:Nat->St->Hp->Prop) (h0:Pv 0 σ H) (hl:∀i σ H,i<=xs.length->Pv i σ H->SqB K H l1 b1 xs/\SqB K H l2 b2 ys/\SqB K H l3 b3 us) (e1:xs.length<=ys.length) (e2:xs.length=us.length)
  (hs:∀i x y u σ H T,xs[i]?=some x->ys[i]?=some y->us[i]?=some u->Pv i σ H->H T=none->g (.ref T) σ (upd H T (.tup [x,y,u])) λσ3 H3=>tt σ3 H3 λb H4=>if b=true then te σ3 H4 (λv H5=>∃vs,H5 D=some (.lst vs)/\vs.length < sizeLine/\Pv (i+1) σ3 (upd H5 D (.lst (vs++ [v])))) else Pv (i+1) σ3 H4)
  (hd:∀σ H,Pv xs.length σ H->R H):
  ∃W:Nat->Nat->St->Hp->Prop,(∃m,W 0 m σ H)/\∀i m σ' H',W i m σ' H'->((Jvk K l1 l2 l3 b1 b2 b3).stop i H'/\R H')\/((Jvk K l1 l2 l3 b1 b2 b3).go i H'/\∃N:St->Hp->Prop,(∀σ2 H2,N σ2 H2->∃m',m' < m/\W (i+1) m' σ2 H2)/\
   ∀x H2,(Jvk K l1 l2 l3 b1 b2 b3).yld i H' x H2->g x σ' H2 λσ3 H3=>tt σ3 H3 λb H4=>if b=true then te σ3 H4 (λv H5=>∃vs,H5 D=some (.lst vs)/\vs.length < sizeLine/\N σ3 (upd H5 D (.lst (vs++ [v])))) else N σ3 H4):=by
 refine ⟨λi m σ H=>m=xs.length - i/\i<=xs.length/\Pv i σ H,⟨xs.length,by simp,yal _,h0⟩,?_⟩
 rintro i m σ H ⟨rfl,hi,p⟩
 obtain ⟨q1,q2,q3⟩:=hl i σ H hi p
 by_cases hlt:i < xs.length
 ·refine .inr ⟨⟨xs,ys,us,q1,q2,q3,e1,e2,hlt⟩,Pv (i+1),λσ' H' p'=>⟨xs.length - (i+1),by omega,rfl,hlt,p'⟩,λx H' y=>?_⟩
  obtain ⟨T,u,v,w',hT,rfl,hu,hv,hw,rfl⟩:=y
  exact hs i u v w' σ _ T (hu xs q1) (hv ys q2) (hw us q3) p hT
 ·have e:i=xs.length:=by omega
  subst e
  exact .inl ⟨⟨xs,ys,us,q1,q2,q3,e1,e2,rfl⟩,hd σ H p⟩
theorem Jqd {l1 l2 l3 D:Addr} {b1 b2 b3:Bool} {xs ys us:List V} {tt:TT} {te:TE} {R:Hp->Prop} (Pv:Nat->St->Hp->Prop) (h0:Pv 0 σ H) (hl:∀i σ H,i<=xs.length->Pv i σ H->SqB K H l1 b1 xs/\SqB K H l2 b2 ys/\SqB K H l3 b3 us) (e1:xs.length=ys.length) (e2:xs.length=us.length)
  (hs:∀i x y u σ H T,xs[i]?=some x->ys[i]?=some y->us[i]?=some u->Pv i σ H->H T=none->g (.ref T) σ (upd H T (.tup [x,y,u])) λσ3 H3=>tt σ3 H3 λb H4=>if b=true then te σ3 H4 (λv H5=>∃vs,H5 D=some (.lst vs)/\vs.length < sizeLine/\Pv (i+1) σ3 (upd H5 D (.lst (vs++ [v])))) else Pv (i+1) σ3 H4)
  (hd:∀σ H,Pv xs.length σ H->R H):
  ∃W:Nat->Nat->St->Hp->Prop,(∃m,W 0 m σ H)/\∀i m σ' H',W i m σ' H'->((Jvk K l1 l2 l3 b1 b2 b3).stop i H'/\R H')\/((Jvk K l1 l2 l3 b1 b2 b3).go i H'/\∃N:St->Hp->Prop,(∀σ2 H2,N σ2 H2->∃m',m' < m/\W (i+1) m' σ2 H2)/\
   ∀x H2,(Jvk K l1 l2 l3 b1 b2 b3).yld i H' x H2->g x σ' H2 λσ3 H3=>tt σ3 H3 λb H4=>if b=true then te σ3 H4 (λv H5=>∃vs,H5 D=some (.lst vs)/\vs.length < sizeLine/\N σ3 (upd H5 D (.lst (vs++ [v])))) else N σ3 H4):=Jx3 Pv h0 hl (ybw e1) e2 hs hd
theorem Ya4 {a:Addr} {xs:List V} {tb:TS} {D:Ends} (Pv:Nat->St->Hp->Prop) (h0:Pv 0 σ H) (hl:∀i σ H,i<=xs.length->Pv i σ H->SqT K H a xs)
  (hs:∀i x σ H T,xs[i]?=some x->Pv i σ H->H T=none->g (.ref T) σ (upd H T (.tup [.int i,x])) λσ2 H2=>tb {D with nx:=Pv (i+1),ct:=Pv (i+1),bk:=D.nx} σ2 H2) (hd:∀σ H,Pv xs.length σ H->D.nx σ H):
  ∃W:Nat->Nat->St->Hp->Prop,(∃m,W 0 m σ H)/\∀i m σ H,W i m σ H->
   ((ItU K a).stop i H/\D.nx σ H)\/((ItU K a).go i H/\∃N:St->Hp->Prop,(∀σ' H',N σ' H'->∃m',m' < m/\W (i+1) m' σ' H')/\∀x H',(ItU K a).yld i H x H'->g x σ H' λσ2 H2=>tb {D with nx:=N,ct:=N,bk:=D.nx} σ2 H2):=by
 refine ⟨λi m σ H=>m=xs.length - i/\i<=xs.length/\Pv i σ H,⟨xs.length,by simp,yal _,h0⟩,?_⟩
 rintro i m σ H ⟨rfl,hi,p⟩
 have q:=hl i σ H hi p
 by_cases hlt:i < xs.length
 ·refine .inr ⟨⟨xs,xs[i],q,by simp [hlt]⟩,Pv (i+1),λσ' H' p'=>⟨xs.length - (i+1),by omega,rfl,hlt,p'⟩,λx H' y=>?_⟩
  obtain ⟨T,u,hT,rfl,hu,rfl⟩:=y
  exact hs i u σ _ T (hu xs q) p hT
 ·have e:i=xs.length:=by omega
  subst e
  exact .inl ⟨⟨xs,q,rfl⟩,hd σ H p⟩
end
end L2
namespace L2
open PySem PySem.Spec PyProof.Rows PySem.W
section
variable {X:Cx}
theorem Jxo {K:PySem.W.Frag} (h:X.K=K):OpR X (compareOp .In) (rIn K false):=by subst h;exact Jtx
theorem Jlb {K:PySem.W.Frag} {e:Expr} {f:Str} {ta:TE} {pos:Pos} (h:X.K=K) (he:PE X e ta) (hb:attributeBase e f X.env (eval e X.env)=eval e X.env):PE X (.Attribute e f pos) (tFld K ta f):=by subst h;exact Jkh he hb
end
end L2
namespace L2
open PySem PySem.Spec PyProof.Rows PySem.W
section
variable {X:Cx} {pos:Pos}
theorem Jmn {K:PySem.W.Frag} {es:List Expr} {k:Nat} {t:TGs} {n:Nat} (h1:X.K=K) (hc:X.calm=true) (h:PGs X es t)
  (hn:(assignEach es X.env).length=n:=by rfl) (hst:(assignEach es X.env).findIdx? (·.1)=none:=by rfl):PG X (.Tuple es k pos) (gTup K n t):=by
 subst h1
 exact Yap hc h hn hst
end
section
variable {g:TG} {tt:TT} {te:TE} {H:Hp} {D:Addr} {σ:St} {R:Hp->Prop}
theorem Yt {K:PySem.W.Frag} {a:Addr} {xs:List V} (Pv:Nat->St->Hp->Prop) (h0:Pv 0 σ H) (hl:∀i σ H,i<=xs.length->Pv i σ H->SqT K H a xs)
  (hs:∀i x σ H,xs[i]?=some x->Pv i σ H->g x σ H λσ3 H3=>tt σ3 H3 λb H4=>if b=true then te σ3 H4 (λv H5=>∃ys,H5 D=some (.lst ys)/\ys.length < sizeLine/\Pv (i+1) σ3 (upd H5 D (.lst (ys++ [v])))) else Pv (i+1) σ3 H4)
  (hd:∀σ H,Pv xs.length σ H->R H):
  ∃W:Nat->Nat->St->Hp->Prop,(∃m,W 0 m σ H)/\∀i m σ' H',W i m σ' H'->((Itt K a).stop i H'/\R H')\/((Itt K a).go i H'/\∃N:St->Hp->Prop,(∀σ2 H2,N σ2 H2->∃m',m' < m/\W (i+1) m' σ2 H2)/\
   ∀x H2,(Itt K a).yld i H' x H2->g x σ' H2 λσ3 H3=>tt σ3 H3 λb H4=>if b=true then te σ3 H4 (λv H5=>∃ys,H5 D=some (.lst ys)/\ys.length < sizeLine/\N σ3 (upd H5 D (.lst (ys++ [v])))) else N σ3 H4):=by
 refine ⟨λi m σ H=>m=xs.length - i/\i<=xs.length/\Pv i σ H,⟨xs.length,by simp,yal _,h0⟩,?_⟩
 rintro i m σ H ⟨rfl,hi,p⟩
 have q:=hl i σ H hi p
 by_cases hlt:i < xs.length
 ·refine .inr ⟨⟨xs,xs[i],q,by simp [hlt]⟩,Pv (i+1),λσ' H' p'=>⟨xs.length - (i+1),by omega,rfl,hlt,p'⟩,λx H' y=>?_⟩
  obtain ⟨e,y⟩:=y
  subst e
  exact hs i x σ _ (y xs q) p
 ·have e:i=xs.length:=by omega
  subst e
  exact .inl ⟨⟨xs,q,yg _⟩,hd σ H p⟩
end
theorem Jn8 {K:PySem.W.Frag} {a D:Addr} {xs:List V} {te:TE} {R:Hp->Prop} {H:Hp} {o:Option V} {rest:List (Option V)} (ys:List V) (hD:H D=none) (el:ys.length=xs.length) (sz:xs.length<=2000) (hq:H a=some (.lst xs))
  (he:∀(i:Nat) (x y:V) (H':Hp) (Q:VK),xs[i]?=some x->ys[i]?=some y->Same H H'->(∀H5,Same H' H5->Q y H5)->te (some x::rest) H' Q) (hd:∀H',Same H H'->H' D=some (.lst ys)->R H'):
  ∃W:Nat->Nat->St->Hp->Prop,(∃m,W 0 m (o::rest) (upd H D (.lst [])))/\∀i m σ' H',W i m σ' H'->((Itl K a).stop i H'/\R H')\/((Itl K a).go i H'/\∃N:St->Hp->Prop,(∀σ2 H2,N σ2 H2->∃m',m' < m/\W (i+1) m' σ2 H2)/\
   ∀x H2,(Itl K a).yld i H' x H2->Jnf 0 x σ' H2 λσ3 H3=>Y5 σ3 H3 λb H4=>if b=true then te σ3 H4 (λv H5=>∃ys,H5 D=some (.lst ys)/\ys.length < sizeLine/\N σ3 (upd H5 D (.lst (ys++ [v])))) else N σ3 H4):=by
 refine Jkw (λi σ H'=>(∃o,σ=o::rest)/\H' D=some (.lst (ys.take i))/\Same H H') ⟨⟨_,rfl⟩,Jj9,Same.upd hD⟩ (λi σ H' _ ⟨_,_,sm⟩=>SqL.of (sm _ _ hq)) ?_ ?_
 ·rintro i x σ H' hx ⟨⟨o,rfl⟩,hDs,sm⟩
  have hi:i < ys.length:=by rw [el];exact (yv.mp hx).1
  refine Jkf (he i x ys[i] H' _ hx (yn hi) sm λH5 s5=>⟨_,s5 _ _ hDs,?_,⟨_,rfl⟩,?_,λc u z=>?_⟩)
  ·rw [yaf]
   exact Jjx (by omega)
  ·rw [Jj9,yan,yn hi]
   rfl
  ·rw [Jjg (Jjh z hD)]
   exact s5 _ _ (sm _ _ z)
 ·rintro σ H' ⟨_,hDs,sm⟩
  rw [yam (by omega)] at hDs
  exact hd H' sm hDs
theorem Jmz {K:PySem.W.Frag} {a D:Addr} {xs:List V} {te:TE} {R:Hp->Prop} {H:Hp} {o:Option V} {rest:List (Option V)} (ys:List V) (hD:H D=none) (el:ys.length=xs.length) (sz:xs.length<=2000) (hq:H a=some (.tup xs))
  (he:∀(i:Nat) (x y:V) (H':Hp) (Q:VK),xs[i]?=some x->ys[i]?=some y->Same H H'->(∀H5,Same H' H5->Q y H5)->te (some x::rest) H' Q) (hd:∀H',Same H H'->H' D=some (.lst ys)->R H'):
  ∃W:Nat->Nat->St->Hp->Prop,(∃m,W 0 m (o::rest) (upd H D (.lst [])))/\∀i m σ' H',W i m σ' H'->((Itt K a).stop i H'/\R H')\/((Itt K a).go i H'/\∃N:St->Hp->Prop,(∀σ2 H2,N σ2 H2->∃m',m' < m/\W (i+1) m' σ2 H2)/\
   ∀x H2,(Itt K a).yld i H' x H2->Jnf 0 x σ' H2 λσ3 H3=>Y5 σ3 H3 λb H4=>if b=true then te σ3 H4 (λv H5=>∃ys,H5 D=some (.lst ys)/\ys.length < sizeLine/\N σ3 (upd H5 D (.lst (ys++ [v])))) else N σ3 H4):=by
 refine Yt (λi σ H'=>(∃o,σ=o::rest)/\H' D=some (.lst (ys.take i))/\Same H H') ⟨⟨_,rfl⟩,Jj9,Same.upd hD⟩ (λi σ H' _ ⟨_,_,sm⟩=>SqT.of (sm _ _ hq)) ?_ ?_
 ·rintro i x σ H' hx ⟨⟨o,rfl⟩,hDs,sm⟩
  have hi:i < ys.length:=by rw [el];exact (yv.mp hx).1
  refine Jkf (he i x ys[i] H' _ hx (yn hi) sm λH5 s5=>⟨_,s5 _ _ hDs,?_,⟨_,rfl⟩,?_,λc u z=>?_⟩)
  ·rw [yaf]
   exact Jjx (by omega)
  ·rw [Jj9,yan,yn hi]
   rfl
  ·rw [Jjg (Jjh z hD)]
   exact s5 _ _ (sm _ _ z)
 ·rintro σ H' ⟨_,hDs,sm⟩
  rw [yam (by omega)] at hDs
  exact hd H' sm hDs
end L2
namespace L2
open PySem PySem.Spec PyProof.Rows PySem.W
section
variable {X:Cx}
end
end L2
namespace L2
open PySem PySem.Spec PyProof.Rows PySem.W
section
variable {X:Cx}
def Js0 (x:V):Prop:=Jm2 x=true\/∃a,x= .ref a
end
end L2
namespace L2
open PySem PySem.Spec PyProof.Rows PySem.W
end L2
namespace L2
open PySem PySem.Spec PyProof.Rows PySem.W
theorem Jy2 {es:List Expr} {p:Pos} {t:Option Expr} {l:Nat} {env:Env}:swapsWith (.List es p) t l env=pure false:=rfl
end L2
namespace L2
open PySem PySem.Spec PyProof.Rows PySem.W
structure Z4 (z TI TO i1 i2 i3 i4 l1 l2 l3 l4:Addr):Prop where
 nd: [z,TI,TO,i1,i2,i3,i4].Nodup
 m1:l1∉ [z,TI,TO,i1,i2,i3,i4]
 m2:l2∉ [z,TI,TO,i1,i2,i3,i4]
 m3:l3∉ [z,TI,TO,i1,i2,i3,i4]
 m4:l4∉ [z,TI,TO,i1,i2,i3,i4]
section
variable {prog:Program} {w:World} {A:Around} {E:Value->Shared->Prop} {s:Shared}
variable {z TI TO i1 i2 i3 i4 l1 l2 l3 l4:Addr} {n k:Nat} {P1 P2 P3 P4:Nat->Value->Prop} {S1 S2 S3 S4:Nat->Heap->Prop} {a b c d0:Value}
end
section
variable {prog:Program} {w:World} {z TI TO i1 i2 i3 i4 l1 l2 l3 l4:Addr} {n:Nat} {P1 P2 P3 P4:Nat->Value->Prop} {S1 S2 S3 S4:Nat->Heap->Prop}
end
end L2
namespace L2
open PySem PySem.Spec PyProof.Rows PySem.W
section
variable {prog:Program} {w:World} {A:Around} {E:Value->Shared->Prop} {s:Shared}
end
section
variable {K:PySem.W.Frag} {g:TG} {σ:St} {H:Hp}
end
end L2
namespace L2
open PySem PySem.Spec PyProof.Rows PySem.W
theorem Jzu {X:Cx} {P:Program} {w:World} {K:PySem.W.Frag} {mg:Str->Option Value} {base:Heap} {o e:Expr} {es:List Expr} {m:Str} {ta:TE} {t:TA} {apos pos:Pos} {j:Nat} {pl:Sem Bool} (h1:X.prog=P) (h2:X.w=w) (h3:X.K=K) (h4:X.mg=mg) (h5:X.base=base) (he:PE X o ta) (hr:Room j X.A) (ha:PA X (e::es) t)
  (hst:starEach (e::es) X.env=(false,eval e X.env)::starEach es X.env:=by rfl) (hpl:(backTo pos (starEach es X.env)).any (·.1)=false:=by rfl)
  (ht:eval (.Call (.Attribute o m apos) (e::es) [] pos) X.env=(do
   let ov<-eval o X.env
   standAt apos.atName
   let (f,first)<-holding [ov] (getMethod ov m pl)
   callWith pos f first (backTo pos (starEach (e::es) X.env)) (backToKw pos (keywordEach [] X.env))):=by rfl):
  PE X (.Call (.Attribute o m apos) (e::es) [] pos) (Jy3 P w K mg base j m ta t):=by
 subst h1 h2 h3 h4 h5
 exact Jsb (pl:=pl) he hr ha hst hpl ht
end L2
namespace L2
open PySem PySem.Spec PyProof.Rows PySem.W
end L2
namespace L2
open PySem PySem.Spec PyProof.Rows PySem.W
def SameD (K:PySem.W.Frag) (H:Hp) (x y:V) (b:Bool):Prop:=SameOr x y b\/∃d e,DatV K H x d/\DatV K H y e/\SeqAt.shaped d=true/\SeqAt.shaped e=true/\PyData.eqv d e=b
def rEqTD (K:PySem.W.Frag):R2:=λx y H Q=>∃(p q:Addr) (xs ys:List V) (bs:List Bool),x= .ref p/\y= .ref q/\SqT K H p xs/\SqT K H q ys/\xs.length=ys.length/\bs.length=xs.length/\
 (∀(i:Nat) x y b,xs[i]?=some x->ys[i]?=some y->bs[i]?=some b->SameD K H x y b)/\Q (.bl (bs.all id)) H
section
variable {X:Cx}
theorem Ya9 {A:Around} {k:Nat} (hr:Room k A):A.units+100 < cLine:=by have:=hr.un;omega
theorem Ycp (hu:X.A.units+100 < cLine):OpR X (compareOp .Eq) (rEqTD X.K):=by
 rintro pins s σ H x y v u Q I rx ry ⟨p,q,xs,ys,bs,rfl,rfl,h1,h2,l1,l2,hs,k⟩
 obtain rfl:v=Value.ref p:=rx
 obtain rfl:u=Value.ref q:=ry
 obtain ⟨its,r1,p1,_⟩:=I.tuple h1
 obtain ⟨jts,r2,p2,_⟩:=I.tuple h2
 have hu':X.A.in1.units+64 < cLine:=by show X.A.units+1+64 < cLine;omega
 have e1:=r1.length
 have e2:=r2.length
 refine SeqAt.eq_tupleAt (e:=λj=>bs.getD j false) p1 p2 (by omega) (λj j1 j2=>?_) ⟨.bl _,H,I,rfl,?_⟩
 ·simp only [yt] at j1 j2
  have a1:xs[j]?=some xs[j]:=yn (by omega)
  have a2:ys[j]?=some ys[j]:=yn (by omega)
  have a3:bs[j]?=some bs[j]:=yn (by omega)
  obtain ⟨u,hu1,ru⟩:=r1.get a1
  obtain ⟨w',hw1,rw'⟩:=r2.get a2
  have b1:its.toArray[j]=u:=by simpa [yn j1] using hu1
  have b2:jts.toArray[j]=w':=by simpa [yn j2] using hw1
  have b3:bs.getD j false=bs[j]:=by simp [List.getD,a3]
  rw [b1,b2,b3]
  rcases hs j _ _ _ a1 a2 a3 with h|⟨d,e,hd,he,sd,se,eb⟩
  ·exact h.at ru rw'
  ·obtain ⟨as,ra⟩:=hd.reads I ru
   obtain ⟨cs,rb⟩:=he.reads I rw'
   rw [<-eb]
   exact keq_at ra rb sd se hu'
 ·have e:((yu its.toArray.size).all λj=>bs.getD j false)=bs.all id:=by
   simp only [yt]
   rw [show its.length=bs.length by omega,ybi,yar,yar]
   constructor
   ·intro h b hb
    obtain ⟨j,hj,rfl⟩:=ycl hb
    have:=h j (yaj.mpr hj)
    simpa [List.getD,yn hj] using this
   ·intro h j hj
    have hj':=yaj.mp hj
    have:=h bs[j] (ybn hj')
    simpa [List.getD,yn hj'] using this
  have e3:((yu (min its.toArray.size jts.toArray.size)).all (λj=>bs.getD j false)&&its.toArray.size==jts.toArray.size)=bs.all id:=by
   rw [show min its.toArray.size jts.toArray.size=its.toArray.size by simp only [yt];omega,e,show (its.toArray.size==jts.toArray.size)=true by simp only [yt,beq_iff_eq];omega,Bool.and_true]
  rw [e3]
  exact k
end
end L2
namespace L2
open PySem PySem.Spec PyProof.Rows PySem.W
section
variable {X:Cx}
end
end L2
namespace L2
open PySem PySem.Spec PyProof.Rows PySem.W
theorem ft_mk {K:PySem.W.Frag} {h:Heap} {mg:Str->Option Value} (X:K.In h) (G:h.Ns mainGlobals mg) {q:Str} {st:Stmt} {ps:List Str} {f:Addr} {od an:Option Addr} {sl:Array (Option Value)} {oc kV dc pm cd ct:Value} (a:PySem.W.nsIn K mainGlobals q=some (some (.ref f)))
  (l:K.lookup f=some ⟨oc,od,.func (PySem.W.fnOf q q (Jkj st) (Jkb st) (Jje st) .none kV dc pm an cd ct),sl⟩) (c:PySem.W.codeIn K cd q=true) (k:PySem.W.keepIn K (.ref f)=true)
  (hb:∀(kV doc pm:Value) (an:Option Addr) (cdv ct:Value) (us:List Value),us.length=ps.length->bindArgs (PySem.W.fnOf q q (Jkj st) (Jkb st) (Jje st) .none kV doc pm an cdv ct) ⟨us,[]⟩=pure (ps.zip us)):FT K mg q st ps f (PySem.W.fnOf q q (Jkj st) (Jkb st) (Jje st) .none kV dc pm an cd ct):=
 ⟨PySem.W.mg_of X G a,Juq (st:=st) l c k,(Juq (st:=st) l c k).binds hb⟩
theorem fm_mk {K:PySem.W.Frag} {n q:Str} {st:Stmt} {ps:List Str} {f:Addr} {od an:Option Addr} {sl:Array (Option Value)} {oc kV dc pm cd ct:Value}
  (l:K.lookup f=some ⟨oc,od,.func (PySem.W.fnOf n q (Jkj st) (Jkb st) (Jje st) .none kV dc pm an cd ct),sl⟩) (c:PySem.W.codeIn K cd q=true) (k:PySem.W.keepIn K (.ref f)=true)
  (hb:∀(kV doc pm:Value) (an:Option Addr) (cdv ct:Value) (us:List Value),us.length=ps.length->bindArgs (PySem.W.fnOf n q (Jkj st) (Jkb st) (Jje st) .none kV doc pm an cdv ct) ⟨us,[]⟩=pure (ps.zip us)):FM K n q st ps f (PySem.W.fnOf n q (Jkj st) (Jkb st) (Jje st) .none kV dc pm an cd ct):=
 ⟨Juq (st:=st) l c k,(Juq (st:=st) l c k).binds hb⟩
theorem xc_mk {K:PySem.W.Frag} {C W fI:Addr} {nm q:Str} {N:Addr} {bs:List Value} {sn:List Str} {sub:List Value} {ab:Bool} {col:Option Bool} {dd:Option Addr} {u v w x y:Option Value}
  (l:K.lookup C=some (excClassObj nm q C N bs (.ref W::VEm) true sn sub ab col dd u v w x y "ValueError.__new__")) (t:PySem.W.tailIn K VEm (.ref W::VEm)=true) (a:xcB K C fI=true):XCls K C W fI:=⟨⟨_,_,_,_,_,_,_,_,_,_,_,_,_,_,l⟩,t,a⟩
theorem ec_mk {K:PySem.W.Frag} {C:Addr} {dd:Option Addr} {cl:ClassData} {s:Array (Option Value)} (l:K.lookup C=some ⟨.type "type",dd,.cls cl,s⟩) (m:PySem.W.mroIn K C (.type "BaseException")=some true):ECls K C:=⟨⟨_,_,_,l⟩,m⟩
end L2
namespace L2
open PySem PySem.Spec PyProof.Rows PySem.W
section
variable {K:PySem.W.Frag} {g:TG} {σ:St} {H:Hp}
theorem Yr {a D:Addr} {xs:List V} {tt:TT} {te:TE} {R:Hp->Prop} (Pv:Nat->St->Hp->Prop) (h0:Pv 0 σ H) (hl:∀i σ H,i<=xs.length->Pv i σ H->SqL K H a xs)
  (hs:∀i x σ H T,xs[i]?=some x->Pv i σ H->H T=none->g (.ref T) σ (upd H T (.tup [.int i,x])) λσ3 H3=>tt σ3 H3 λb H4=>if b=true then te σ3 H4 (λv H5=>∃vs,H5 D=some (.lst vs)/\vs.length < sizeLine/\Pv (i+1) σ3 (upd H5 D (.lst (vs++ [v])))) else Pv (i+1) σ3 H4)
  (hd:∀σ H,Pv xs.length σ H->R H):
  ∃W:Nat->Nat->St->Hp->Prop,(∃m,W 0 m σ H)/\∀i m σ' H',W i m σ' H'->((ItE K a).stop i H'/\R H')\/((ItE K a).go i H'/\∃N:St->Hp->Prop,(∀σ2 H2,N σ2 H2->∃m',m' < m/\W (i+1) m' σ2 H2)/\
   ∀x H2,(ItE K a).yld i H' x H2->g x σ' H2 λσ3 H3=>tt σ3 H3 λb H4=>if b=true then te σ3 H4 (λv H5=>∃vs,H5 D=some (.lst vs)/\vs.length < sizeLine/\N σ3 (upd H5 D (.lst (vs++ [v])))) else N σ3 H4):=by
 refine ⟨λi m σ H=>m=xs.length - i/\i<=xs.length/\Pv i σ H,⟨xs.length,by simp,yal _,h0⟩,?_⟩
 rintro i m σ H ⟨rfl,hi,p⟩
 have q:=hl i σ H hi p
 by_cases hlt:i < xs.length
 ·refine .inr ⟨⟨xs,xs[i],q,by simp [hlt]⟩,Pv (i+1),λσ' H' p'=>⟨xs.length - (i+1),by omega,rfl,hlt,p'⟩,λx H' y=>?_⟩
  obtain ⟨T,u,hT,rfl,hu,rfl⟩:=y
  exact hs i u σ _ T (hu xs q) p hT
 ·have e:i=xs.length:=by omega
  subst e
  exact .inl ⟨⟨xs,q,rfl⟩,hd σ H p⟩
end
end L2
namespace L2
open PySem PySem.Spec PyProof.Rows PySem.W
abbrev Jlj (h:Heap) (T:Addr) (a b:Value):Prop:=h.get? T=some {cls:=.type "tuple",data:=.seq #[a,b]}
structure Z2 (z TI TO i1 i2 l1 l2:Addr):Prop where
 nd: [z,TI,TO,i1,i2].Nodup
 m1:l1∉ [z,TI,TO,i1,i2]
 m2:l2∉ [z,TI,TO,i1,i2]
section
variable {prog:Program} {w:World} {A:Around} {E:Value->Shared->Prop} {s:Shared}
theorem Ybu {T:Addr} {a b x:Value} {k:Nat} {Q:Unit->Shared->Prop} (hT:Jlj s.heap T a b)
  (h:∀h',h'.get? T=some {cls:=.type "tuple",data:=.seq ((#[a,b]:Array Value).setIfInBounds k x)}->yai T s.heap h'->Q () {s with heap:=h'}):wpAny (model prog w) A (updateSeq T (·.setIfInBounds k x)) Q E s:=by
 refine wpAny_updateSeq hT rfl (h _ ?_ (yai.update ..))
 rw [ybm _ hT rfl]
 simp [Obj.mapSeq]
variable {z TI TO i1 i2 l1 l2:Addr} {n k:Nat} {P1 P2:Nat->Value->Prop} {S1 S2:Nat->Heap->Prop} {a b:Value}
theorem Ydo {Q:Value->Shared->Prop} (Z:Z2 z TI TO i1 i2 l1 l2) (hz:IsZip s.heap z TI TO .none) (hTI:Jlj s.heap TI (.ref i1) (.ref i2)) (hTO:Jlj s.heap TO a b)
  (hh:A.handled=none) (D1:DrA prog w i1 l1 n P1 S1) (D2:DrA prog w i2 l2 n P2 S2) (hk:k < n) (t1:S1 k s.heap) (t2:S2 k s.heap)
  (hQ:∀x y h' tk,P1 k x->P2 k y->IsZip h' z TI TO (rawInt s.heap.objs.size)->Jlj h' TO x y->S1 (k+1) h'->S2 (k+1) h'->Jlj h' s.heap.objs.size x y->
   (∀d o,d≠z->d≠TO->d≠i1->d≠i2->s.heap.get? d=some o->h'.get? d=some o)->Q (.ref s.heap.objs.size) {s with heap:=h',toks:=tk}):
  wpAny (model prog w) A (Builtin.«zip.__next__» ⟨[.ref z],[]⟩) (λfin s'=>∃v,fin= .done (.ret v)/\Q v s') E s:=by
 obtain ⟨nd,m1,m2⟩:=Z
 simp only [yav,ym,yr,or_false,not_or,ybk,and_true,not_false_eq_true] at nd m1 m2
 obtain ⟨⟨zTI,zTO,z1,z2⟩,⟨TITO,TI1,TI2⟩,⟨TO1,TO2⟩,n12⟩:=nd
 obtain ⟨l1z,l1TI,l1TO,l11,l12⟩:=m1
 obtain ⟨l2z,l2TI,l2TO,l21,l22⟩:=m2
 have fr:∀{S:Nat->Heap->Prop} {P:Nat->Value->Prop} {i l b:Addr} {m:Nat} {h h':Heap},DrA prog w i l n P S->i≠b->l≠b->yai b h h'->S m h->S m h':=λD e1 e2 sb st=>
  (D A hh).frame _ _ _ st λd hd o e=>by
   simp only [ym,yr,or_false] at hd
   rcases hd with rfl|rfl
   ·exact sb.extBut _ _ e1 e
   ·exact sb.extBut _ _ e2 e
 show wpAny _ _ (field (.ref z) 2 >>=_) _ _ _
 refine wpAny_bind (wpAny_field hz rfl (x:=.bool false) rfl ?_)
 refine wpAny_bind (m:=field (.ref z) 3) (wpAny_field hz rfl (x:=.ref TI) rfl ?_)
 refine wpAny_bind (wpAny_seqItems hTI rfl ?_)
 refine wpAny_bind (m:=Builtin.SmallTypes.ownedTupleIsFree (.ref z)) ?_
 unfold Builtin.SmallTypes.ownedTupleIsFree
 refine wpAny_bind (wpAny_field hz rfl (x:=.none) rfl (wpAny_pure ?_))
 simp only [if_true]
 refine wpAny_bind (wpAny_rule (wpAny_bind (wpAny_field hz rfl (x:=.ref TO) rfl (wpAny_bind (wpAny_setField_rec hz (by simp) λh1 hz1 s1=>?_)))))
 replace hz1:IsZip h1 z TI TO .ellipsis:=hz1
 refine wpAny_bind ?_
 simp only [List.zipIdx_cons,List.zipIdx_nil,yce,List.forIn_nil]
 refine wpAny_bind (wpAny_bind (wpAny_onRaise ?_))
 refine wpAny_bind (m:=Builtin.SmallTypes.nextOf (.ref i1)) ((D1 A hh).item k _ _ _ hk (fr D1 (yk z1) l1z s1 t1) λx h2 k2 px u1 s2=>wpAny_pure ?_)
 have o2:Jlj h2 TO a b:=s2.extBut _ _ TO1 (s1.extBut _ _ (yk zTO) hTO)
 refine wpAny_bind (wpAny_seqItems o2 rfl (wpAny_bind (Ybu o2 λh3 o3 s3=>wpAny_bind (wpAny_letGo (wpAny_pure ?_)))))
 replace o3:Jlj h3 TO x b:=o3
 refine wpAny_bind (wpAny_bind (wpAny_onRaise ?_))
 refine wpAny_bind (m:=Builtin.SmallTypes.nextOf (.ref i2)) ((D2 A hh).item k _ _ _ hk (fr D2 (yk TO2) l2TO s3 (fr D2 (yk n12) l21 s2 (fr D2 (yk z2) l2z s1 t2))) λy h4 k4 py u2 s4=>wpAny_pure ?_)
 have o4:Jlj h4 TO x b:=s4.extBut _ _ TO2 o3
 refine wpAny_bind (wpAny_seqItems o4 rfl (wpAny_bind (Ybu o4 λh5 o5 s5=>wpAny_bind (wpAny_letGo (wpAny_pure (wpAny_pure ?_))))))
 replace o5:Jlj h5 TO x y:=o5
 refine wpAny_bind (wpAny_seqItems o5 rfl (wpAny_bind (wpAny_newTuple ?_)))
 have sz:h5.objs.size=s.heap.objs.size:=by rw [s5.1,s4.1,s3.1,s2.1,s1.1]
 have zz:IsZip h5 z TI TO .ellipsis:=s5.extBut _ _ zTO (s4.extBut _ _ z2 (s3.extBut _ _ zTO (s2.extBut _ _ z1 hz1)))
 have kk:∀d o,d≠z->d≠TO->d≠i1->d≠i2->s.heap.get? d=some o->h5.get? d=some o:=λd o c1 c2 c3 c4 e=>
  s5.extBut _ _ c2 (s4.extBut _ _ c4 (s3.extBut _ _ c2 (s2.extBut _ _ c3 (s1.extBut _ _ c1 e))))
 have w1:S1 (k+1) h5:=fr D1 (yk TO1) l1TO s5 (fr D1 n12 l12 s4 (fr D1 (yk TO1) l1TO s3 u1))
 have w2:S2 (k+1) h5:=fr D2 (yk TO2) l2TO s5 u2
 have zlt:z < h5.objs.size:=yj zz
 refine wpAny_bind (m:=Builtin.SmallTypes.ownedTupleHandOut (.ref z) (.ref h5.objs.size)) ?_
 unfold Builtin.SmallTypes.ownedTupleHandOut
 have zp:IsZip (h5.push {cls:=.type "tuple",data:=.seq #[x,y]}) z TI TO .ellipsis:=yi _ zz
 refine wpAny_bind (wpAny_setField_rec zp (by simp) λh8 hz8 s8=>?_)
 replace hz8:IsZip h8 z TI TO (rawInt h5.objs.size):=hz8
 refine wpAny_setField_rec hz8 (by simp) λh9 hz9 s9=>?_
 replace hz9:IsZip h9 z TI TO (rawInt h5.objs.size):=hz9
 have up:∀d o,d≠z->h5.get? d=some o->h9.get? d=some o:=λd o c1 e=>s9.extBut _ _ c1 (s8.extBut _ _ c1 (yi _ e))
 have nw:Jlj h9 h5.objs.size x y:=s9.extBut _ _ (yau zlt) (s8.extBut _ _ (yau zlt) (yo _ rfl))
 have fz:∀{S:Nat->Heap->Prop} {P:Nat->Value->Prop} {i l:Addr} {m:Nat},DrA prog w i l n P S->i≠z->l≠z->S m h5->S m h9:=λD e1 e2 st=>(D A hh).frame _ _ _ st λd hd o e=>by
  simp only [ym,yr,or_false] at hd
  rcases hd with rfl|rfl
  ·exact up _ _ e1 e
  ·exact up _ _ e2 e
 rw [sz] at hz9 nw
 refine wpAny_pure ⟨_,rfl,?_⟩
 show Q (.ref h5.objs.size) _
 rw [sz]
 exact hQ x y h9 _ px py hz9 (up _ _ (yk zTO) o5) (fz D1 (yk z1) l1z w1) (fz D2 (yk z2) l2z w2) nw λd o c1 c2 c3 c4 e=>up d o c1 (kk d o c1 c2 c3 c4 e)
theorem z2_end {Q:Fin->Shared->Prop} (Z:Z2 z TI TO i1 i2 l1 l2) (hz:IsZip s.heap z TI TO .none) (hTI:Jlj s.heap TI (.ref i1) (.ref i2))
  (hh:A.handled=none) (D1:DrA prog w i1 l1 n P1 S1) (t1:S1 n s.heap)
  (hE:∀h' e,(∀d o,d≠z->d≠i1->s.heap.get? d=some o->h'.get? d=some o)->(∃o,h'.get? e=some o/\o.cls= .type "StopIteration")->E (.ref e) {s with heap:=h'}):
  wpAny (model prog w) A (Builtin.«zip.__next__» ⟨[.ref z],[]⟩) Q E s:=by
 obtain ⟨nd,m1,_⟩:=Z
 simp only [yav,ym,yr,or_false,not_or,ybk,and_true,not_false_eq_true] at nd m1
 obtain ⟨⟨zTI,zTO,z1,z2⟩,_⟩:=nd
 obtain ⟨l1z,l1TI,l1TO,l11,l12⟩:=m1
 show wpAny _ _ (field (.ref z) 2 >>=_) _ _ _
 refine wpAny_bind (wpAny_field hz rfl (x:=.bool false) rfl ?_)
 refine wpAny_bind (m:=field (.ref z) 3) (wpAny_field hz rfl (x:=.ref TI) rfl ?_)
 refine wpAny_bind (wpAny_seqItems hTI rfl ?_)
 refine wpAny_bind (m:=Builtin.SmallTypes.ownedTupleIsFree (.ref z)) ?_
 unfold Builtin.SmallTypes.ownedTupleIsFree
 refine wpAny_bind (wpAny_field hz rfl (x:=.none) rfl (wpAny_pure ?_))
 simp only [if_true]
 refine wpAny_bind (wpAny_rule (wpAny_bind (wpAny_field hz rfl (x:=.ref TO) rfl (wpAny_bind (wpAny_setField_rec hz (by simp) λh1 hz1 s1=>?_)))))
 replace hz1:IsZip h1 z TI TO .ellipsis:=hz1
 refine wpAny_bind ?_
 simp only [List.zipIdx_cons,List.zipIdx_nil,yce,List.forIn_nil]
 refine wpAny_bind (wpAny_bind (wpAny_onRaise ?_))
 refine wpAny_bind (m:=Builtin.SmallTypes.nextOf (.ref i1)) ((D1 A hh).done _ _ _ ((D1 A hh).frame _ _ _ t1 λd hd o e=>?_) λh2 e s2 he=>?_)
 ·simp only [ym,yr,or_false] at hd
  rcases hd with rfl|rfl
  ·exact s1.extBut _ _ (yk z1) e
  ·exact s1.extBut _ _ l1z e
 ·obtain ⟨oe,hoe,hce⟩:=he
  have hz2:IsZip h2 z TI TO .ellipsis:=s2 _ _ z1 hz1
  have ez:e≠z:=λq=>by subst q;rw [hz2] at hoe;cases hoe;simp at hce
  exact wpAny_setField_rec hz2 (by simp) λh3 _ s3=>hE h3 e (λd o c1 c2 q=>s3.extBut _ _ c1 (s2 _ _ c2 (s1.extBut _ _ c1 q))) ⟨oe,s3.extBut _ _ ez hoe,hce⟩
end
def Z2St (z TI TO i1 i2:Addr) (S1 S2:Nat->Heap->Prop) (i:Nat) (h:Heap):Prop:=IsZip h z TI TO .none/\Jlj h TI (.ref i1) (.ref i2)/\(∃a b,Jlj h TO a b)/\S1 i h/\S2 i h
section
variable {prog:Program} {w:World} {z TI TO i1 i2 l1 l2:Addr} {n:Nat} {P1 P2:Nat->Value->Prop} {S1 S2:Nat->Heap->Prop}
theorem Ybw {A:Around} (hh:A.handled=none) (Z:Z2 z TI TO i1 i2 l1 l2) (D1:DrA prog w i1 l1 n P1 S1) (D2:DrA prog w i2 l2 n P2 S2):
  WalksT prog w A z [z,TI,TO,i1,i2,l1,l2] [z,TO,i1,i2] n (λi vals=>∃x y,P1 i x/\P2 i y/\vals= #[x,y]) (Z2St z TI TO i1 i2 S1 S2)
   (λi T h=>IsZip h z TI TO (rawInt T)/\Jlj h TI (.ref i1) (.ref i2)/\(∃a b,Jlj h TO a b)/\S1 (i+1) h/\S2 (i+1) h/\T∉ [z,TO,i1,i2]) where
 sub:=λc hc=>by simp at hc⊢;rcases hc with rfl|rfl|rfl|rfl <;> simp
 frame:=λi h h' hst hk=>by
  obtain ⟨hz,hTI,⟨a,b,hTO⟩,h1,h2⟩:=hst
  exact ⟨hk z (by simp) _ hz,hk TI (by simp) _ hTI,⟨a,b,hk TO (by simp) _ hTO⟩,(D1 A hh).frame _ _ _ h1 λd hd o e=>hk d (by simp at hd;rcases hd with rfl|rfl <;> simp) o e,
   (D2 A hh).frame _ _ _ h2 λd hd o e=>hk d (by simp at hd;rcases hd with rfl|rfl <;> simp) o e⟩
 item:=λi s Q E hi hst hQ=>by
  obtain ⟨hz,hTI,⟨a,b,hTO⟩,h1,h2⟩:=hst
  have hT:s.TypeIs (.ref z) "zip" :=⟨_,hz,rfl⟩
  have nd:=Z.nd
  simp only [yav,ym,yr,or_false,not_or,ybk,and_true,not_false_eq_true] at nd
  obtain ⟨⟨zTI,_⟩,⟨TITO,TI1,TI2⟩,_⟩:=nd
  obtain ⟨e1,g1⟩:=(D1 A hh).live _ _ h1
  obtain ⟨e2,g2⟩:=(D2 A hh).live _ _ h2
  unfold pyNext
  refine wpAny_bind (wpAny_attempt (wpAny_callSpecial?_slot (name:=Str.ofString "__next__") hT F.slot_zip_next (wpAny_call_entry F.slot_zip_next hT F.entry_zip_next
   (Ydo (A:=A.in1) Z hz hTI hTO hh D1 D2 hi h1 h2 λx y h' tk px py a1 a2 a3 a4 a6 hk=>wpAny_pure ?_) (F.args_zip_next_1 _))))
  refine hQ s.heap.objs.size #[x,y] h' tk ⟨x,y,px,py,rfl⟩ (yg _) ⟨_,a6,rfl,_,rfl⟩ ⟨a1,hk _ _ (yk zTI) TITO TI1 TI2 hTI,⟨_,_,a2⟩,a3,a4,?_⟩ λd o hd e=>hk d o (λq=>hd (by simp [q])) (λq=>hd (by simp [q])) (λq=>hd (by simp [q])) (λq=>hd (by simp [q])) e
  have lt:∀{d o},s.heap.get? d=some o->s.heap.objs.size≠d:=λe=>yau (yj e)
  simp only [ym,yr,or_false,not_or]
  exact ⟨lt hz,lt hTO,lt g1,lt g2⟩
 go:=λelts k pos i T s Q E hm hQ=>by
  obtain ⟨hz,hTI,⟨a,b,hTO⟩,h1,h2,_⟩:=hm
  have nd:=Z.nd
  have m1:=Z.m1
  have m2:=Z.m2
  simp only [yav,ym,yr,or_false,not_or,ybk,and_true,not_false_eq_true] at nd m1 m2
  obtain ⟨⟨zTI,zTO,z1,z2⟩,_⟩:=nd
  have fz:∀{S:Nat->Heap->Prop} {P:Nat->Value->Prop} {j l:Addr} {m:Nat} {h':Heap},DrA prog w j l n P S->j≠z->l≠z->yai z s.heap h'->S m s.heap->S m h':=λD e1 e2 sb st=>(D A hh).frame _ _ _ st λd hd o e=>by
   simp only [ym,yr,or_false] at hd
   rcases hd with rfl|rfl
   ·exact sb.extBut _ _ e1 e
   ·exact sb.extBut _ _ e2 e
  exact wpAny_letOwnedTupleGo_zip hz λh' hz' sb=>hQ h' ⟨hz',sb.extBut _ _ (yk zTI) hTI,⟨a,b,sb.extBut _ _ (yk zTO) hTO⟩,fz D1 (yk z1) m1.1 sb h1,fz D2 (yk z2) m2.1 sb h2⟩ λd o hd e=>sb.extBut _ _ (λq=>hd (by simp [q])) e
 apart:=λi T h hm hT=>hm.2.2.2.2.2 hT
 done:=λs Q E hst hQ=>by
  obtain ⟨hz,hTI,_,h1,h2⟩:=hst
  have hT:s.TypeIs (.ref z) "zip" :=⟨_,hz,rfl⟩
  unfold pyNext
  refine wpAny_bind (wpAny_attempt (wpAny_callSpecial?_slot (name:=Str.ofString "__next__") hT F.slot_zip_next (wpAny_call_entry F.slot_zip_next hT F.entry_zip_next
   (z2_end (A:=A.in1) Z hz hTI hh D1 h1 λh' e hk he=>?_) (F.args_zip_next_1 _))))
  obtain ⟨o,ho,hc⟩:=he
  refine wpAny_bind (wpAny_isInstance (T:="StopIteration") (b:=true) ⟨o,ho,hc⟩ isSubtype_stop (wpAny_pure ?_))
  exact hQ h' s.toks λd o' hd e'=>hk d o' (λq=>hd (by simp [q])) (λq=>hd (by simp [q])) e'
 self:=λi s Q E hst hQ=>wpAny_pyIter_zip hst.1 hQ
end
abbrev xD (h:Heap) (l1 l2:Addr) (b1 b2:Bool):Heap:=(zB h l1 l2 b1 b2).push {cls:=.type "tuple",data:=.seq #[.ref h.objs.size,.ref (zA h l1 b1).objs.size]}
abbrev xE (h:Heap) (l1 l2:Addr) (b1 b2:Bool):Heap:=(xD h l1 l2 b1 b2).push {cls:=.type "tuple",data:=.seq #[.none,.none]}
abbrev xF (h:Heap) (l1 l2:Addr) (b1 b2:Bool):Heap:=(xE h l1 l2 b1 b2).push {cls:=.type "zip",data:=.fields #[.none,.bool false,.bool false,.ref (zB h l1 l2 b1 b2).objs.size,.ref (xD h l1 l2 b1 b2).objs.size]}
set_option maxRecDepth 100000 in
set_option maxHeartbeats 2000000 in
theorem Yc4 (l1 l2:Addr) (b1 b2:Bool) (xs ys:Array Value):
  Meets (Builtin.«zip.__new__» ⟨[.type "zip",.ref l1,.ref l2],[]⟩) (λ_ R s=>IsB s.heap l1 b1 xs/\IsB s.heap l2 b2 ys/\
   R (.ok (.ret (.ref (xE s.heap l1 l2 b1 b2).objs.size))) {s with heap:=xF s.heap l1 l2 b1 b2}):=
 .of_wp λprog w A R s h=>by
  obtain ⟨hp,g,d,tk,os⟩:=s
  obtain ⟨hl1,hl2,h⟩:=h
  have e0:=sub_zip
  have e1:IsB (Shared.heap ⟨hp,g,d,tk,os⟩) l1 b1 xs:=hl1
  have e2:IsB (Shared.heap ⟨hp.push (itO l1 b1),g,d,tk,os⟩) l2 b2 ys:=IsB.push hl2 _
  wp_walk using Jvx e1,Jvx e2
  exact ⟨_,rfl,h⟩
theorem Jrd (a b:Value):checkTypeCall "zip" ⟨[a,b],[]⟩=pure ():=by kernel_rfl
theorem Jry (a b:Value):checkBuiltinCall "zip.__new__" ⟨[.type "zip",a,b],[]⟩=pure ():=by kernel_rfl
theorem Jud (a b c:Value):argsOk "object.__init__" ⟨[a,b,c],[]⟩:=by
 unfold argsOk;rw [signature?_of (id:="object.__init__") (n:=['_','_','t','i','n','i','_','_']) (o:=['t','c','e','j','b','o']) (by kernel_rfl) F.owner_object];kernel_rfl
section
variable {prog:Program} {w:World} {A:Around} {E:Value->Shared->Prop} {s:Shared}
theorem Jz8 {l1 l2:Addr} {b1 b2:Bool} {xs ys:Array Value} {Q:Value->Shared->Prop} (h1:IsB s.heap l1 b1 xs) (h2:IsB s.heap l2 b2 ys)
  (h:∀h',IsZip h' (s.heap.objs.size+4) (s.heap.objs.size+2) (s.heap.objs.size+3) .none->Jlj h' (s.heap.objs.size+2) (.ref s.heap.objs.size) (.ref (s.heap.objs.size+1))->
   Jlj h' (s.heap.objs.size+3) .none .none->IS s.heap.objs.size l1 b1 0 h'->IS (s.heap.objs.size+1) l2 b2 0 h'->
   (∀c o,s.heap.get? c=some o->h'.get? c=some o)->Q (.ref (s.heap.objs.size+4)) {s with heap:=h'}):
  wpAny (model prog w) A (call (.type "zip") [.ref l1,.ref l2]) Q E s:=by
 refine callType_new F.called_zip (by decide) (Jrd _ _) (Jry _ _) (λobj=>Jud obj _ _) F.entry_zip_new (Yc4 l1 l2 b1 b2 xs ys) ⟨h1,h2,?_⟩
 have z1:(zA s.heap l1 b1).objs.size=s.heap.objs.size+1:=yaa ..
 have z2:(zB s.heap l1 l2 b1 b2).objs.size=s.heap.objs.size+2:=by rw [yaa,z1]
 have z3:(xD s.heap l1 l2 b1 b2).objs.size=s.heap.objs.size+3:=by rw [yaa,z2]
 have z4:(xE s.heap l1 l2 b1 b2).objs.size=s.heap.objs.size+4:=by rw [yaa,z3]
 have p:∀{h:Heap} {c:Addr} {o q:Obj},h.get? c=some o->(h.push q).get? c=some o:=λe=>yi _ e
 have g5:(xF s.heap l1 l2 b1 b2).get? (xE s.heap l1 l2 b1 b2).objs.size=some _:=yo _ rfl
 have g4:(xF s.heap l1 l2 b1 b2).get? (xD s.heap l1 l2 b1 b2).objs.size=some _:=p (yo _ rfl)
 have g3:(xF s.heap l1 l2 b1 b2).get? (zB s.heap l1 l2 b1 b2).objs.size=some _:=p (p (yo _ rfl))
 have fr:∀(l:Addr) (b:Bool),(itO l b).isFreed=false:=λl b=>by cases b <;> rfl
 have g2:(xF s.heap l1 l2 b1 b2).get? (zA s.heap l1 b1).objs.size=some (itO l2 b2):=p (p (p (yo _ (fr _ _))))
 have g1:(xF s.heap l1 l2 b1 b2).get? s.heap.objs.size=some (itO l1 b1):=p (p (p (p (yo _ (fr _ _)))))
 have is:∀{it l:Addr} {b:Bool} {h:Heap},h.get? it=some (itO l b)->IS it l b 0 h:=λ{it l b h} e=>by
  cases b
  ·exact ⟨_,e,rfl,rfl⟩
  ·exact ⟨_,e,rfl,rfl⟩
 show _/\_
 rw [z2,z3,z4] at g5
 rw [z1,z2] at g3
 rw [z3] at g4
 rw [z1] at g2
 rw [z4]
 exact ⟨⟨_,g5,rfl⟩,h _ g5 g3 g4 (is g1) (is g2) λc o x=>p (p (p (p (p x))))⟩
end
def ItZ2 (K:PySem.W.Frag) (l1 l2:Addr) (b1 b2:Bool):It:=
 ⟨λi H=>∃xs ys,SqB K H l1 b1 xs/\SqB K H l2 b2 ys/\xs.length=ys.length/\i < xs.length,
  λi H x H'=>∃T p q,H T=none/\x= .ref T/\(∀xs,SqB K H l1 b1 xs->xs[i]?=some p)/\(∀ys,SqB K H l2 b2 ys->ys[i]?=some q)/\H'=upd H T (.tup [p,q]),
  λi H=>∃xs ys,SqB K H l1 b1 xs/\SqB K H l2 b2 ys/\xs.length=ys.length/\i=xs.length⟩
def Z2T (z TI TO i1 i2 l1 l2:Addr) (b1 b2:Bool) (i:Nat) (h:Heap):Prop:=IsZip h z TI TO .none/\Jlj h TI (.ref i1) (.ref i2)/\(∃a b,Jlj h TO a b)/\IS i1 l1 b1 i h/\IS i2 l2 b2 i h
theorem Z2T.obj {z TI TO i1 i2 l1 l2:Addr} {b1 b2:Bool} {i:Nat} {h:Heap} (st:Z2T z TI TO i1 i2 l1 l2 b1 b2 i h):∀b∈ [z,TI,TO,i1,i2],∃o,h.get? b=some o/\∀v,o.data≠ .cell v:=λb hb=>by
 obtain ⟨h1,h2,⟨x,y,h3⟩,h4,h5⟩:=st
 simp only [ym,yr,or_false] at hb
 rcases hb with rfl|rfl|rfl|rfl|rfl
 ·exact ⟨_,h1,λv z=>by cases z⟩
 ·exact ⟨_,h2,λv z=>by cases z⟩
 ·exact ⟨_,h3,λv z=>by cases z⟩
 ·exact h4.obj
 ·exact h5.obj
theorem Z2.ne {z TI TO i1 i2 l1 l2:Addr} (Z:Z2 z TI TO i1 i2 l1 l2):l1≠i1/\l2≠i2:=by
 obtain ⟨_,m1,m2⟩:=Z
 simp only [ym,yr,or_false,not_or] at m1 m2
 exact ⟨m1.2.2.2.1,m2.2.2.2.2⟩
theorem Y9 {P:Program} {w:World} {K:PySem.W.Frag} {elts:List Expr} {kt:Nat} {pt:Pos} (z TI TO i1 i2 l1 l2:Addr) (b1 b2:Bool) (Z:Z2 z TI TO i1 i2 l1 l2):
  Jq7 P w K (.Tuple elts kt pt) (ItZ2 K l1 l2 b1 b2) [z,TI,TO,i1,i2] z (Z2T z TI TO i1 i2 l1 l2 b1 b2) where
 mem:=by simp
 obj:=λi h st=>st.obj
 keep:=λi h h' st k=>by
  obtain ⟨h1,h2,⟨a,c,h3⟩,h4,h5⟩:=st
  exact ⟨k z (by simp) _ h1,k TI (by simp) _ h2,⟨a,c,k TO (by simp) _ h3⟩,h4.at λo e=>k i1 (by simp) o e,h5.at λo e=>k i2 (by simp) o e⟩
 item:=by
  intro X hP hw hK hc i pins s σ H E I hf st hg
  subst hP hw hK
  obtain ⟨xs,ys,q1,q2,e12,hi⟩:=hg
  obtain ⟨its,rv,p1⟩:=I.seqB q1
  obtain ⟨jts,rv2,p2⟩:=I.seqB q2
  have a1:=rv.length
  have a2:=rv2.length
  obtain ⟨n1,n2⟩:=Z.ne
  have D1:=drA (prog:=X.prog) (w:=X.w) b1 n1 its.toArray
  have D2:=drA (prog:=X.prog) (w:=X.w) b2 n2 jts.toArray
  rw [show jts.toArray.size=its.toArray.size by simp only [yt];omega] at D2
  have W:=Ybw (I.ok.hd hc) Z D1 D2
  have st0:=st
  obtain ⟨s1,s2,s3,s4,s5⟩:=st
  refine W.item i s _ _ (by simp only [yt];omega) ⟨s1,s2,s3,⟨s4,p1⟩,⟨s5,p2⟩⟩ λT vals h' tk hP fT tT mid kk=>?_
  refine ⟨_,rfl,W.go elts kt pt i T _ _ _ mid λh'' st'' kk2=>?_⟩
  obtain ⟨x,y,hx,hy,rfl⟩:=hP
  obtain ⟨u1,hu1,r1⟩:=rv.get (i:=i) (x:=xs[i]) (yn hi)
  obtain ⟨u2,hu2,r2⟩:=rv2.get (i:=i) (x:=ys[i]'(by omega)) (yn (by omega))
  obtain rfl:x=u1:=by simpa [hu1] using hx.symm
  obtain rfl:y=u2:=by simpa [hu2] using hy.symm
  obtain ⟨t1,t2,t3,t4,t5⟩:=st''
  have kT:h''.IsTuple T #[x,y]:=by
   obtain ⟨o,q,r⟩:=tT
   exact ⟨o,kk2 T o (W.apart i T h' mid) q,r⟩
  have cht:∀c,c∈ [z,TO,i1,i2]->c∈ [z,TI,TO,i1,i2]:=λc hc=>by simp at hc⊢;rcases hc with rfl|rfl|rfl|rfl <;> simp
  refine ⟨.ref T,upd H T (.tup [xs[i],ys[i]'(by omega)]),I.turnTup (ch:=[z,TO,i1,i2]) (t':=tk) (λc hc=>hf c (cht c hc)) (λc o hc e=>kk2 c o hc (kk c o hc e)) fT ⟨(show 2<=sizeLine by decide),[x,y],.cons r1 (.cons r2 .nil),kT⟩,rfl,
   ⟨T,_,_,I.hok.fresh fT,rfl,λxs' hq=>by rw [I.seqB_inj hq q1];exact yn hi,λys' hq=>by rw [I.seqB_inj hq q2];exact yn (by omega),rfl⟩,⟨t1,t2,t3,t4.1,t5.1⟩,λc hc=>?_⟩
  have hcn:=(hf c hc).1
  rw [Jjg (λw'=>?_)]
  ·exact hcn
  ·subst w'
   obtain ⟨o,e,_⟩:=Z2T.obj st0 c hc
   exact absurd (yj e) (yas.mpr fT)
 done:=by
  intro X hP hw hK hc i pins s σ H E I hf st hg
  subst hP hw hK
  obtain ⟨xs,ys,q1,q2,e12,hi⟩:=hg
  obtain ⟨its,rv,p1⟩:=I.seqB q1
  obtain ⟨jts,rv2,p2⟩:=I.seqB q2
  have a1:=rv.length
  have a2:=rv2.length
  obtain ⟨n1,n2⟩:=Z.ne
  have D1:=drA (prog:=X.prog) (w:=X.w) b1 n1 its.toArray
  have D2:=drA (prog:=X.prog) (w:=X.w) b2 n2 jts.toArray
  rw [show jts.toArray.size=its.toArray.size by simp only [yt];omega] at D2
  have W:=Ybw (I.ok.hd hc) Z D1 D2
  obtain ⟨s1,s2,s3,s4,s5⟩:=st
  have ei:i=its.toArray.size:=by simp only [yt];omega
  subst ei
  refine W.done s _ _ ⟨s1,s2,s3,⟨s4,p1⟩,⟨s5,p2⟩⟩ λh' tk kk=>⟨rfl,?_⟩
  exact I.turnMany (ch:=[z,TO,i1,i2]) (λc hc=>hf c (by simp at hc⊢;rcases hc with rfl|rfl|rfl|rfl <;> simp)) λc o hc e=>kk c o hc e
 self:=λ_ _ _ _ _ st h=>wpAny_pyIter_zip st.1 h
def iZip2 (K:PySem.W.Frag) (b1 b2:Bool) (ta:TA):TI:=λσ H R=>ta σ H λvs H1=>∃a b,vs= [.ref a,.ref b]/\(∃xs,SqB K H1 a b1 xs)/\(∃ys,SqB K H1 b b2 ys)/\R (ItZ2 K a b b1 b2) H1
theorem Jyr {X:Cx} {elts:List Expr} {kt:Nat} {pt:Pos} {a b:Expr} {ta:TA} {p pos:Pos} (b1 b2:Bool) (hg:Gl X "zip") (hm:X.mg "zip" =none) (ha:PA X [a,b] ta) (hs:starEach [a,b] X.env= [(false,eval a X.env),(false,eval b X.env)]:=by rfl) (hs2:starEach [b] X.env= [(false,eval b X.env)]:=by rfl):
  PI X (.Tuple elts kt pt) (.Call (.Name "zip" p) [a,b] [] pos) (iZip2 X.K b1 b2 ta):=by
 intro pins s σ H R I h
 refine Call_ (Jn9 I hg hm Yp (PyProof.Rows.callWith_type1 (thn (ha pos pins s σ H _ I h) λus s1 zq=>?_) (by rw [hs,hs2]) (by rw [hs2];rfl)))
 obtain ⟨vs,H1,I1,r1,q1⟩:=zq
 obtain ⟨l1,l2,rfl,⟨xs,q1⟩,⟨ys,q2⟩,q⟩:=q1
 obtain ⟨u,v,rfl,r1,r2⟩:=Jwv r1
 obtain rfl:u=Value.ref l1:=r1
 obtain rfl:v=Value.ref l2:=r2
 obtain ⟨its,rv,p1⟩:=I1.seqB q1
 obtain ⟨jts,rv2,p2⟩:=I1.seqB q2
 have a1:=p1.lt
 have a2:=p2.lt
 refine Jz8 p1 p2 λh' z1 z2 z3 z4 z5 kk=>?_
 have I2:Inv X pins σ H1 {s1 with heap:=h'}:=I1.kept (t':=s1.toks) kk
 have ap:Z2 (s1.heap.objs.size+4) (s1.heap.objs.size+2) (s1.heap.objs.size+3) s1.heap.objs.size (s1.heap.objs.size+1) l1 l2:=by
  generalize hN:s1.heap.objs.size=N at*
  have big:∀l:Addr,l < N->l∉ [N+4,N+2,N+3,N,N+1]:=λl hl hm=>by
   simp only [ym,yr,or_false] at hm
   have le:N<=l:=by rcases hm with rfl|rfl|rfl|rfl|rfl <;> first|exact yg _|exact Nat.le_add_right _ _
   exact yas.mpr le hl
  exact ⟨by simp,big _ a1,big _ a2⟩
 refine wpAny_pyIter_zip z1 ⟨_,_,_,_,H1,rfl,I2,Y9 _ _ _ _ _ l1 l2 b1 b2 ap,⟨z1,z2,⟨_,_,z3⟩,z4,z5⟩,λd hd=>?_,q⟩
 have hd':s1.heap.objs.size<=d:=by
  simp only [ym,yr,or_false] at hd
  rcases hd with rfl|rfl|rfl|rfl|rfl <;> omega
 exact I1.fpOk hd' (I1.hok.fresh hd')
section
variable {K:PySem.W.Frag} {g:TG} {σ:St} {H:Hp}
theorem Jzc {l1 l2 D:Addr} {b1 b2:Bool} {xs ys:List V} {tt:TT} {te:TE} {R:Hp->Prop} (Pv:Nat->St->Hp->Prop) (h0:Pv 0 σ H) (hl:∀i σ H,i<=xs.length->Pv i σ H->SqB K H l1 b1 xs/\SqB K H l2 b2 ys) (e1:xs.length=ys.length)
  (hs:∀i x y σ H T,xs[i]?=some x->ys[i]?=some y->Pv i σ H->H T=none->g (.ref T) σ (upd H T (.tup [x,y])) λσ3 H3=>tt σ3 H3 λb H4=>if b=true then te σ3 H4 (λv H5=>∃vs,H5 D=some (.lst vs)/\vs.length < sizeLine/\Pv (i+1) σ3 (upd H5 D (.lst (vs++ [v])))) else Pv (i+1) σ3 H4)
  (hd:∀σ H,Pv xs.length σ H->R H):
  ∃W:Nat->Nat->St->Hp->Prop,(∃m,W 0 m σ H)/\∀i m σ' H',W i m σ' H'->((ItZ2 K l1 l2 b1 b2).stop i H'/\R H')\/((ItZ2 K l1 l2 b1 b2).go i H'/\∃N:St->Hp->Prop,(∀σ2 H2,N σ2 H2->∃m',m' < m/\W (i+1) m' σ2 H2)/\
   ∀x H2,(ItZ2 K l1 l2 b1 b2).yld i H' x H2->g x σ' H2 λσ3 H3=>tt σ3 H3 λb H4=>if b=true then te σ3 H4 (λv H5=>∃vs,H5 D=some (.lst vs)/\vs.length < sizeLine/\N σ3 (upd H5 D (.lst (vs++ [v])))) else N σ3 H4):=by
 refine ⟨λi m σ H=>m=xs.length - i/\i<=xs.length/\Pv i σ H,⟨xs.length,by simp,yal _,h0⟩,?_⟩
 rintro i m σ H ⟨rfl,hi,p⟩
 obtain ⟨q1,q2⟩:=hl i σ H hi p
 by_cases hlt:i < xs.length
 ·refine .inr ⟨⟨xs,ys,q1,q2,e1,hlt⟩,Pv (i+1),λσ' H' p'=>⟨xs.length - (i+1),by omega,rfl,hlt,p'⟩,λx H' y=>?_⟩
  obtain ⟨T,u,v,hT,rfl,hu,hv,rfl⟩:=y
  exact hs i u v σ _ T (hu xs q1) (hv ys q2) p hT
 ·have e:i=xs.length:=by omega
  subst e
  exact .inl ⟨⟨xs,ys,q1,q2,e1,rfl⟩,hd σ H p⟩
theorem turn2 {i j:Nat} {T:Addr} {x y:V} {σ:L2.St} {H:Hp} {A B:L2.St->Hp->Prop} (hT:SqT K H T [x,y]) (h:A ((σ.set i (some x)).set j (some y)) H):
  gTup K 2 (Jtm (Jnf i) (Jtm (Jnf j) gNil)) (.ref T) σ H λσ3 H3=>Y5 σ3 H3 λb H4=>if b=true then A σ3 H4 else B σ3 H4:=by
 refine ⟨T,_,rfl,hT,rfl,_,_,rfl,_,_,rfl,rfl,?_⟩
 show if true=true then A ((σ.set i (some x)).set j (some y)) H else B ((σ.set i (some x)).set j (some y)) H
 rw [if_pos rfl]
 exact h
end
end L2
namespace L2
open PySem PySem.Spec PyProof.Rows PySem.W
section
variable {X:Cx}
theorem Yh {bs:List Bool} {n:Nat} (e:n=bs.length):((yu n).all λj=>bs.getD j false)=bs.all id:=by
 subst e
 rw [ybi,yar,yar]
 constructor
 ·intro h b hb
  obtain ⟨j,hj,rfl⟩:=ycl hb
  have:=h j (yaj.mpr hj)
  simpa [List.getD,yn hj] using this
 ·intro h j hj
  have hj':=yaj.mp hj
  have:=h bs[j] (ybn hj')
  simpa [List.getD,yn hj'] using this
theorem Ycy {s:Shared} {A:Around} {xs ys:List V} {bs:List Bool} {its jts:List Value} (r1:Vals xs its) (r2:Vals ys jts) (l1:xs.length=ys.length) (l2:bs.length=xs.length)
  (hs:∀(i:Nat) x y b,xs[i]?=some x->ys[i]?=some y->bs[i]?=some b->SameOr x y b):∀j (h1:j < its.toArray.size) (h2:j < jts.toArray.size),SeqAt.EqAt A s its.toArray[j] jts.toArray[j] (bs.getD j false):=by
 intro j j1 j2
 have e1:=r1.length
 have e2:=r2.length
 simp only [yt] at j1 j2
 have a1:xs[j]?=some xs[j]:=yn (by omega)
 have a2:ys[j]?=some ys[j]:=yn (by omega)
 have a3:bs[j]?=some bs[j]:=yn (by omega)
 obtain ⟨u,hu1,ru⟩:=r1.get a1
 obtain ⟨w',hw1,rw'⟩:=r2.get a2
 have b1:its.toArray[j]=u:=by simpa [yn j1] using hu1
 have b2:jts.toArray[j]=w':=by simpa [yn j2] using hw1
 have b3:bs.getD j false=bs[j]:=by simp [List.getD,a3]
 rw [b1,b2,b3]
 exact (hs j _ _ _ a1 a2 a3).at ru rw'
def rNeT (K:PySem.W.Frag):R2:=λx y H Q=>∃(p q:Addr) (xs ys:List V) (bs:List Bool),x= .ref p/\y= .ref q/\SqT K H p xs/\SqT K H q ys/\xs.length=ys.length/\bs.length=xs.length/\
 (∀(i:Nat) x y b,xs[i]?=some x->ys[i]?=some y->bs[i]?=some b->SameOr x y b)/\Q (.bl (!bs.all id)) H
theorem op_neT (hu:X.A.units+64 < cLine):OpR X (compareOp .NotEq) (rNeT X.K):=by
 rintro pins s σ H x y v u Q I rx ry ⟨p,q,xs,ys,bs,rfl,rfl,h1,h2,l1,l2,hs,k⟩
 obtain rfl:v=Value.ref p:=rx
 obtain rfl:u=Value.ref q:=ry
 obtain ⟨its,r1,p1,_⟩:=I.tuple h1
 obtain ⟨jts,r2,p2,_⟩:=I.tuple h2
 have e1:=r1.length
 have e2:=r2.length
 refine SeqAt.RcNeAt.tuples (e:=λj=>bs.getD j false) (show s.heap.IsTuple p its.toArray from p1) (show s.heap.IsTuple q jts.toArray from p2) (by omega) (Ycy r1 r2 l1 l2 hs) _ _ _ _ ⟨.bl _,H,I,rfl,?_⟩
 rw [show min its.toArray.size jts.toArray.size=its.toArray.size by simp only [yt];omega,Yh (by simp only [yt];omega),show (its.toArray.size==jts.toArray.size)=true by simp only [yt,beq_iff_eq];omega,Bool.and_true]
 exact k
structure ECmp (K:PySem.W.Frag) (C:Addr):Prop where
 e:PySem.W.findIn K (.ref C) "__eq__" =some (some (.builtin "object.__eq__"))
 s:PySem.W.mroIn K C (.type "str")=some false
 o:PySem.W.mroIn K C (.type "object")=some true
end
end L2
namespace L2
open PySem PySem.Spec PyProof.Rows PySem.W
inductive Oth (K:PySem.W.Frag) (H:Hp):V->Prop where
 |flat {y:V}:Jm2 y=true->Oth K H y
 |lst {p:Addr} {xs:List V}:H p=some (.lst xs)->Oth K H (.ref p)
 |tup {p:Addr} {xs:List V}:H p=some (.tup xs)->Oth K H (.ref p)
 |dct {p:Addr} {kvs:List (Key×V)}:H p=some (.dK kvs)->Oth K H (.ref p)
 |ins {p C dx:Addr} {fs:List (Str×V)}:H p=some (.ins C dx fs)->ECmp K C->Oth K H (.ref p)
section
variable {X:Cx}
end
end L2
namespace L2
open PySem PySem.Spec PyProof.Rows PySem.W
section
variable {X:Cx}
end
end L2
namespace L2
open PySem PySem.Spec PyProof.Rows
section
variable {H:Hp} {lb:Array (Nat×Nat×Str)}
theorem TrOk.triples {l:List Value} (x:TrOk H lb l):TriplesOk l:=by
 fun_induction TrOk H lb l with
 |case1=>exact True.intro
 |case2 l _ c _ v r ih=>exact ih x.2
 |case3=>exact x.elim
theorem TrOk.hit {pos:Pos} {v:Value} {l:List Value} (x:TrOk H lb l) (h:codeAmong pos l=some v):∃(q:Str) (a:Addr),(pos.line,pos.col,q)∈lb/\v= .ref a/\H a=some (.cod q):=by
 fun_induction TrOk H lb l with
 |case1=>cases h
 |case2 l _ c _ v' r ih=>
  obtain ⟨⟨n,m,q,a,h1,h2,h3,h4,h5⟩,h6⟩:=x
  unfold codeAmong at h
  split at h
  ·rename_i hc
   cases h
   simp only [yac,beq_iff_eq] at hc
   have e1:n=pos.line:=by omega
   have e2:m=pos.col:=by omega
   rw [e1,e2] at h1
   exact ⟨q,a,h1,h4,h5⟩
  ·exact ih h6 h
 |case3=>exact x.elim
theorem TrOk.snoc {pos:Pos} {q:Str} {a:Addr} (hm:(pos.line,pos.col,q)∈lb) (ha:H a=some (.cod q)) {l:List Value} (x:TrOk H lb l):TrOk H lb (l++ [rawInt pos.line,rawInt pos.col,.ref a]):=by
 fun_induction TrOk H lb l with
 |case1=>exact ⟨⟨_,_,q,a,hm,rfl,rfl,rfl,ha⟩,True.intro⟩
 |case2 l _ c _ v r ih=>exact ⟨x.1,ih x.2⟩
 |case3=>exact x.elim
end
def cdfB (vs:Array Value) (c P:Addr):Bool:=
 (match (vs[11]?:Option Value) with|some (.ref p)=>p==P|_=>false)&&(match vs.getD 11 .none with| .ref p=>p==P|_=>false)&&(match vs.getD 18 .none with| .str _ _=>true|_=>false)&&(match vs.getD 7 .none with| .int _ _=>true|_=>false)&&
 (match vs.getD 9 .none with| .bool _=>true|_=>false)&&(match vs.getD 10 .none with| .int _ _=>true|_=>false)&&!(c==P)
structure Nst (K:PySem.W.Frag) (f c P:Addr):Prop where
 fn:∃(oc:Value) (od:Option Addr) (fd:FuncData) (sl:Array (Option Value)),K.lookup f=some ⟨oc,od,.func fd,sl⟩/\fd.code= .ref c
 hd:∃(od:Option Addr) (vs:Array Value) (sl:Array (Option Value)),K.lookup c=some ⟨.type "code",od,.fields vs,sl⟩/\cdfB vs c P=true
theorem Nst.code {K:PySem.W.Frag} {f c P:Addr} {h:Heap} (n:Nst K f c P) (X:K.In h):PySem.W.CodeHd h c P:=by
 obtain ⟨od,vs,sl,lk,b⟩:=n.hd
 unfold cdfB at b
 simp only [yac] at b
 obtain ⟨⟨⟨⟨⟨⟨b1,b2⟩,b3⟩,b4⟩,b5⟩,b6⟩,b7⟩:=b
 have e1:vs[11]?=some (.ref P):=by
  split at b1
  ·rename_i p e;rw [e,beq_iff_eq.mp b1]
  ·cases b1
 have e2:vs.getD 11 .none= .ref P:=by
  split at b2
  ·rename_i p e;rw [e,beq_iff_eq.mp b2]
  ·cases b2
 have e3:∃x t,vs.getD 18 .none= .str x t:=by
  split at b3
  ·rename_i x t e;exact ⟨x,t,e⟩
  ·cases b3
 have e4:∃x t,vs.getD 7 .none= .int x t:=by
  split at b4
  ·rename_i x t e;exact ⟨x,t,e⟩
  ·cases b4
 have e5:∃x,vs.getD 9 .none= .bool x:=by
  split at b5
  ·rename_i x e;exact ⟨x,e⟩
  ·cases b5
 have e6:∃x t,vs.getD 10 .none= .int x t:=by
  split at b6
  ·rename_i x t e;exact ⟨x,t,e⟩
  ·cases b6
 obtain ⟨f1,t1,e3⟩:=e3
 obtain ⟨f2,t2,e4⟩:=e4
 obtain ⟨f3,e5⟩:=e5
 obtain ⟨f4,t4,e6⟩:=e6
 exact ⟨_,vs,f1,t1,f2,t2,f3,f4,t4,X _ _ lk,rfl,rfl,e1,e2,e3,e4,e5,e6,by simpa using b7⟩
def Bmn (mg:Str->Option Value) (base:Heap):Prop:=∃bm ob,mg "__builtins__" =some (.ref bm)/\bm≠builtinsNs/\base.get? bm=some ob/\ob.cls= .type "module" /\ob.dict=some builtinsNs/\ob.data= .plain
def Clo (f:Addr) (name qual:Str) (st:Stmt) (clos:List (Str×Addr)) (c:Addr):HO:=
 .ext λh=>∃doc pm ct:Value,h.get? f=some {cls:=.type "function",data:=.func (PySem.W.fnX name qual (Jkj st) (Jkb st) (Jje st) clos .none .none doc pm none (.ref c) ct)}
theorem Jvn {P:Program} {w:World} {H:Hp} {h:Heap} {f:Addr} {name qual:Str} {st:Stmt} {clos:List (Str×Addr)} {c:Addr} {doc pm ct:Value}
  (e:h.get? f=some {cls:=.type "function",data:=.func (PySem.W.fnX name qual (Jkj st) (Jkb st) (Jje st) clos .none .none doc pm none (.ref c) ct)}):ObjOk P w H h f (Clo f name qual st clos c):=
 ⟨⟨doc,pm,ct,e⟩,⟨_,e⟩,λ_ _ ⟨d,p,t,z⟩ k=>⟨d,p,t,k _ z⟩⟩
section
variable {X:Cx} {pins:List (Addr×Obj)} {σ:St} {H:Hp} {s:Shared} {M:Model} {A:Around} {E:Value->Shared->Prop} {name qual:Str} {st:Stmt} {pos:Pos} {firstLine:Nat} {c P:Addr} {lb:Array (Nat×Nat×Str)} {clos:List (Str×Addr)} {Q:Value->Shared->Prop}
theorem Yv (I:Inv X pins σ H s) (hcd:X.env.code= .ref c) (C:PySem.W.CodeHd X.base c P) (B:Bmn X.mg X.base) (ht:H P=some (.tbl lb)) (hm:(pos.line,pos.col,qual)∈lb) (hu:∀q,(pos.line,pos.col,q)∈lb->q=qual)
  (hcl:closureFor (Jje st) X.env=pure clos)
  (h:∀s' f c' H',Inv X pins σ H' s'->Same H H'->H f=none->H' f=some (Clo f name qual st clos c')->H' c'=some (.cod qual)->Q (.ref f) s'):
  wpAny M A (makeFunction name qual (Jkj st) (.stmts (Jkb st)) (Jje st) X.env [] [] [] pos firstLine) Q E s:=by
 obtain ⟨ts,eP,tr⟩:=I.hok P _ ht
 have hg:s.heap.Ns mainGlobals X.mg:=I.mod.glob.keeps I.bk
 have CH:=C.keeps I.bk
 have hgP:mainGlobals≠P:=λz=>by
  obtain ⟨o,es,ep,e1,e2,_⟩:=hg
  rw [z,eP] at e1;cases e1;cases e2
 have BA:s.heap.BuiltinsAt X.mg P:=by
  obtain ⟨bm,ob,b1,b2,b3,b4,b5,b6⟩:=B
  have b3':=I.bk _ _ b3
  refine ⟨bm,ob,b1,b2,λz=>?_,λz=>?_,b3',b4,b5,b6⟩
  ·obtain ⟨o,es,ep,e1,e2,_⟩:=hg
   rw [<-z,b3'] at e1;cases e1;rw [b6] at e2;cases e2
  ·rw [z,eP] at b3';cases b3';cases b4
 cases hq:codeAmong pos ts.toList with
 |some v=>
  obtain ⟨q,a,m1,rfl,m2⟩:=tr.hit hq
  obtain rfl:=hu q m1
  refine PySem.W.makeFunction_hit (P:=P) (ps:=ts) hcl I.ok.glob hg hcd CH eP tr.triples hq BA λctv doc h' tk hk hsz=>?_
  have hf:H h'.objs.size=none:=I.hok.fresh hsz
  have J:=I.laid (a:=h'.objs.size) (o:=Clo h'.objs.size name q st clos a) (t':=tk) (h':=h'.push {cls:=.type "function",data:=.func (PySem.W.fnX name q (Jkj st) (Jkb st) (Jje st) clos .none .none doc ((X.mg "__name__").getD .none) none (.ref a) ctv)})
   (λb u z=>yi _ (hk b u z)) hsz (Jvn (yo _ rfl))
  exact h _ _ a _ J (Same.upd hf) hf Jj9 (by rw [Jjg (Jjh m2 hf)];exact m2)
 |none=>
  refine PySem.W.makeFunction_K (P:=P) (ps:=ts) hcl I.ok.glob hg hcd CH eP tr.triples hq hgP BA λc' ctv doc h' tk hx hge hlt hrec htb=>?_
  have hc':H c'=none:=I.hok.fresh hge
  have hf:H h'.objs.size=none:=I.hok.fresh (yz hge (yap hlt))
  have nfc:h'.objs.size≠c':=yau hlt
  have nP:∀b,H b=none->b≠P:=λb z w'=>by rw [w',ht] at z;cases z
  let H':Hp:=upd (upd H c' (.cod qual)) h'.objs.size (Clo h'.objs.size name qual st clos c')
  let o':Obj:={cls:=.type "function",data:=.func (PySem.W.fnX name qual (Jkj st) (Jkb st) (Jje st) clos .none .none doc ((X.mg "__name__").getD .none) none (.ref c') ctv)}
  have hS:Same H H':=(Same.upd hc').trans (Same.upd (by rw [Jjg nfc];exact hf))
  have hkp:∀b o,b≠P->s.heap.get? b=some o->(h'.push o').get? b=some o:=λb o n z=>yi _ (hx b o n z)
  have hc1:H' c'=some (.cod qual):=by show upd (upd H c' _) _ _ c'=_;rw [Jjg (yk nfc),Jj9]
  have bl:∀b o,s.heap.get? b=some o->b≠c'/\b≠h'.objs.size:=λb o z=>by
   have q:=yah (yj z) hge
   exact ⟨yq q,yq (ybr q hlt)⟩
  have J:Inv X pins σ H' {s with heap:=h'.push o',toks:=tk}:=by
   refine I.un (t':=tk) ⟨λb o z n _ _=>hkp b o (nP b n) z,λb o z n _ _=>⟨o.slots,hkp b o (nP b n) z⟩,λb o z n _=>?_,λb o z _=>?_,λb xs z=>hS _ _ z,λb o u z=>hS _ _ z,λb ps z=>⟨#[],by rw [hS _ _ z];simp⟩⟩ λb u z=>?_
   ·show upd (upd H c' _) _ _ b=none
    rw [Jjg (bl b o z).2,Jjg (bl b o z).1];exact n
   ·by_cases w':b=P
    ·exact ⟨_,by rw [w'];exact yi _ htb⟩
    ·exact ⟨o,hkp b o w' z⟩
   ·by_cases w1:b=h'.objs.size
    ·have z':H' b=some (Clo h'.objs.size name qual st clos c'):=by rw [w1];exact Jj9
     rw [z'] at z;cases z
     rw [w1]
     exact Jvn (yo _ rfl)
    ·by_cases w2:b=c'
     ·rw [w2,hc1] at z;cases z
      rw [w2]
      exact hrec.keeps λ_ _ z=>yi _ z
     ·have z':H b=some u:=by
       have:H' b=H b:=by show upd (upd H c' _) _ _ b=_;rw [Jjg w1,Jjg w2]
       rw [<-this];exact z
      by_cases w3:b=P
      ·rw [w3,ht] at z';cases z'
       refine ⟨_,by rw [w3];exact yi _ htb,?_⟩
       rw [Array.toList_append]
       exact TrOk.snoc hm hc1 (tr.mono λb q z=>hS _ _ z)
      ·refine (I.hok b u z').stay (λc v hc zz=>hkp c v ?_ zz) (λc zz=>hS _ _ zz) (λc xs zz=>hS _ _ zz) λc q zz=>hS _ _ zz
       rcases hc with rfl|hc
       ·exact w3
       ·intro w';rw [w',ht] at hc;cases hc
  exact h _ _ c' H' J hS hf Jj9 hc1
end
end L2
namespace L2
open PySem PySem.Spec PyProof.Rows
def CelAt (H:Hp) (c:Addr) (v:V):Prop:=∃o u,H c=some (celF o)/\o.data= .cell (some u)/\RelV v u
theorem CelAt.same {H H':Hp} {c:Addr} {v:V} (s:Same H H') (h:CelAt H c v):CelAt H' c v:=by obtain ⟨o,u,a,b,d⟩:=h;exact ⟨o,u,s _ _ a,b,d⟩
def CloAt (H:Hp) (f:Addr) (name qual:Str) (st:Stmt) (caps:List (Str×V)):Prop:=
 ∃(clos:List (Str×Addr)) (c:Addr),H f=some (Clo f name qual st clos c)/\H c=some (.cod qual)/\(∀x y b,clos.lookup x=some b->clos.lookup y=some b->x=y)/\(∀y∈(Jje st).names,y.2= .free->∃b,clos.lookup y.1=some b)/\
  (∀x b,clos.lookup x=some b->∃v,CelAt H b v)/\∀x v,(x,v)∈caps->∃b,clos.lookup x=some b/\CelAt H b v
theorem CloAt.same {H H':Hp} {f:Addr} {name qual:Str} {st:Stmt} {caps:List (Str×V)} (s:Same H H') (h:CloAt H f name qual st caps):CloAt H' f name qual st caps:=
 let ⟨clos,c,a,b,d,e,g,k⟩:=h
 ⟨clos,c,s _ _ a,s _ _ b,d,e,λx b z=>let ⟨v,q⟩:=g x b z;⟨v,q.same s⟩,λx v z=>let ⟨b,q1,q2⟩:=k x v z;⟨b,q1,q2.same s⟩⟩
def IsF (H:Hp) (f:Addr):Prop:=∃name qual st clos c,H f=some (Clo f name qual st clos c)
theorem CloAt.isf {H:Hp} {f:Addr} {name qual:Str} {st:Stmt} {caps:List (Str×V)} (h:CloAt H f name qual st caps):IsF H f:=by obtain ⟨clos,c,a,_⟩:=h;exact ⟨name,qual,st,clos,c,a⟩
def Cx.fix (X:Cx) (cn:Str->Bool):Cx:={X with fn:=λx=>X.fn x&&!cn x}
open Classical in
noncomputable def Jqq (X:Cx) (cn:Str->Bool) (h:Heap) (H:Hp):Hp:=λb=>if ∃x,cn x=true/\X.fn x=true/\X.env.cells.lookup x=some b then (h.get? b).map celF else H b
section
variable {X:Cx} {pins:List (Addr×Obj)} {σ:St} {H:Hp} {s:Shared} {cn:Str->Bool}
theorem Jvf {h:Heap} {b:Addr} {o:Obj} {x:Str} (h1:cn x=true) (h2:X.fn x=true) (h3:X.env.cells.lookup x=some b) (e:h.get? b=some o):Jqq X cn h H b=some (celF o):=by
 unfold Jqq
 rw [if_pos ⟨x,h1,h2,h3⟩,e]
 rfl
theorem Jq4 {h:Heap} {b:Addr} (n:¬∃x,cn x=true/\X.fn x=true/\X.env.cells.lookup x=some b):Jqq X cn h H b=H b:=by
 unfold Jqq
 rw [if_neg n]
theorem Ybr (I:Inv X pins σ H s) {b:Addr} {o:HO} (e:H b=some o):Jqq X cn s.heap H b=some o:=by
 rw [Jq4]
 ·exact e
 ·rintro ⟨x,_,h2,h3⟩
  rcases I.freeC x b h3 with n|⟨f,_⟩
  ·rw [n] at e;cases e
  ·rw [h2] at f;cases f
theorem Inv.fix (I:Inv X pins σ H s) (cn:Str->Bool):Inv (X.fix cn) pins σ (Jqq X cn s.heap H) s/\Same H (Jqq X cn s.heap H):=by
 have hS:Same H (Jqq X cn s.heap H):=λb o e=>Ybr I e
 have hn:∀b,H b=none->(∀x,cn x=true->X.fn x=true->X.env.cells.lookup x≠some b)->Jqq X cn s.heap H b=none:=λb e n=>by
  rw [Jq4]
  ·exact e
  ·rintro ⟨x,h1,h2,h3⟩;exact n x h1 h2 h3
 refine ⟨⟨⟨I.ok.mod,I.ok.kind,I.ok.glob,I.ok.blt,I.ok.above,I.ok.inj,I.ok.has,λx c hx hc=>I.ok.cab x c ?_ hc,I.ok.hd,I.ok.frames,I.ok.stk,I.ok.exf,I.ok.bs,I.ok.bsz,I.ok.noex,I.ok.exfs,I.ok.funs,I.ok.frf⟩,I.os,I.bare,
  ⟨I.base.keep,I.base.slot,λb o e n hx=>?_,I.base.there,λb xs e=>hS _ _ (I.base.tups b xs e),λb o u e=>hS _ _ (I.base.frzs b o u e),λb ps e=>?_⟩,I.loc,I.cell,?_,λx c e=>?_,λp hp=>?_,λb u e=>?_,I.len⟩,hS⟩
 ·have hx':(X.fn x&&!cn x)=true:=hx
  rw [yac] at hx'
  exact hx'.1
 ·exact hn b (I.base.free b o e n hx) λx _ h2 h3=>absurd (yah (yj e) (I.ok.cab x b h2 h3)) (yba _)
 ·obtain ⟨m,q⟩:=I.base.tbls b ps e
  exact ⟨m,hS _ _ q⟩
 ·exact hn _ I.free λx _ _ h3=>I.cne x _ h3 rfl
 ·have e':X.env.cells.lookup x=some c:=e
  by_cases hc:cn x=true/\X.fn x=true
  ·obtain ⟨v,o,ho,hd⟩:=I.cell x c e'
   refine .inr ⟨?_,o,Jvf hc.1 hc.2 e' ho⟩
   show (X.fn x&&!cn x)=false
   rw [hc.1];simp
  ·have out:Jqq X cn s.heap H c=H c:=Jq4 λ⟨y,h1,h2,h3⟩=>hc (by rw [I.ok.inj x y c e' h3];exact ⟨h1,h2⟩)
   rcases I.freeC x c e' with n|⟨f,o,q⟩
   ·exact .inl (out.trans n)
   ·refine .inr ⟨?_,o,out.trans q⟩
    show (X.fn x&&!cn x)=false
    rw [f];rfl
 ·obtain ⟨e,n,ne,nf,d⟩:=I.pin p hp
  refine ⟨e,hn _ n λx _ _ h3=>?_,ne,nf,d⟩
  obtain ⟨v,o,ho,hd⟩:=I.cell x _ h3
  rw [e] at ho;cases ho
  exact d v hd
 ·by_cases hb:∃x,cn x=true/\X.fn x=true/\X.env.cells.lookup x=some b
  ·obtain ⟨x,h1,h2,h3⟩:=hb
   obtain ⟨v,o,ho,hd⟩:=I.cell x b h3
   rw [Jvf h1 h2 h3 ho] at e
   cases e
   exact ⟨ho,True.intro,⟨o,ho⟩,λ_ _ _ _=>True.intro⟩
  ·rw [Jq4 hb] at e
   exact (I.hok b u e).stay (λ_ _ _ q=>q) (λ_ q=>hS _ _ q) (λ_ _ q=>hS _ _ q) λ_ _ q=>hS _ _ q
theorem Inv.celAt (I:Inv X pins σ H s) (J:Inv (X.fix cn) pins σ (Jqq X cn s.heap H) s) {j:Nat} {x:Str} {v:V} (h1:X.N[j]?=some x) (h2:σ[j]?=some (some v)) (hv:X.env.kindOf x=some .cell\/X.env.kindOf x=some .free) (hc:cn x=true) (hf:X.fn x=true):
  ∃b,X.env.cells.lookup x=some b/\CelAt (Jqq X cn s.heap H) b v:=by
 obtain ⟨m,_,hl⟩:=I.loc
 have hvis:Vis X.env.scope x:=hv.elim (λz=>.inr (.inl z)) λz=>.inr (.inr z)
 obtain ⟨u,r,l⟩:=hl j x v h1 h2 hvis
 rcases l with ⟨k,_⟩|⟨k,b,e,o,ho,hd⟩
 ·rcases hv with z|z
  ·rw [k] at z;cases z
  ·rw [k] at z;cases z
 ·exact ⟨b,e,o,u,Jvf hc hf e ho,hd,r⟩
end
def Fin (X:Cx) (H:Hp) (s:Shared):Prop:=s.os=X.s₀.os/\AllBare s.gens/\Un X.fs X.ex X.H₀ H X.s₀.heap s.heap/\HOk X.prog X.w H s.heap
theorem Inv.fin {X:Cx} {pins:List (Addr×Obj)} {σ:St} {H:Hp} {s:Shared} (I:Inv X pins σ H s):Fin X H s:=⟨I.os,I.bare,I.base,I.hok⟩
def SB (X:Cx) (D:Ends) (f:Flow) (s':Shared):Prop:=
 match f with
 | .next=>∃σ' H',Fin X H' s'/\D.nx σ' H'
 | .brk=>∃σ' H',Fin X H' s'/\D.bk σ' H'
 | .cont=>∃σ' H',Fin X H' s'/\D.ct σ' H'
 | .ret u=>∃v H',Fin X H' s'/\RelV v u/\D.rt v H'
theorem SP.sb {X:Cx} {pins:List (Addr×Obj)} {D:Ends} {f:Flow} {s':Shared} (h:SP X pins D f s'):SB X D f s':=by
 cases f with
 |next=>obtain ⟨σ',H',I,q⟩:=h;exact ⟨σ',H',I.fin,q⟩
 |brk=>obtain ⟨σ',H',I,q⟩:=h;exact ⟨σ',H',I.fin,q⟩
 |cont=>obtain ⟨σ',H',I,q⟩:=h;exact ⟨σ',H',I.fin,q⟩
 |ret u=>obtain ⟨v,σ',H',I,r,q⟩:=h;exact ⟨v,H',I.fin,r,q⟩
def PB (X:Cx) (st:List Stmt) (t:TS):Prop:=
 ∀(pins:List (Addr×Obj)) (s:Shared) (σ:St) (H:Hp) (D:Ends),Inv X pins σ H s->t D σ H->wpAny (model X.prog X.w) X.A (execs st X.env) (SB X D) X.xe s
section
variable {X:Cx} {st:Stmt} {rest:List Stmt} {t u:TS}
theorem PSs.pb {l:List Stmt} (h:PSs X l t):PB X l t:=λpins s σ H D I q=>thn (h pins s σ H D I q) λ_ _ z=>z.sb
theorem Joe (h1:PS X st t) (h2:PB X rest u):PB X (st::rest) (tSeq t u):=by
 intro pins s σ H D I h
 refine wpAny_execs_cons (thn (h1 pins s σ H {D with nx:=u D} I h) λf s1 q=>?_)
 cases f with
 |next=>
  obtain ⟨σ',H',I',q⟩:=q
  exact h2 pins s1 σ' H' D I' q
 |ret v=>exact SP.sb (D:=D) q
 |brk=>exact SP.sb (D:=D) q
 |cont=>exact SP.sb (D:=D) q
end
theorem Jmk {cells:List (Str×Addr)} {x:Str} {b:Addr}:∀(ns:List (Str×NameKind)) (acc:List (Str×Addr)),(Jlh cells ns acc).lookup x=some b->acc.lookup x=none->(x,NameKind.free)∈ns
 | [],_,e,n=>by unfold Jlh at e;rw [n] at e;cases e
 | (y,k) :: r,acc,e,n=>by
  unfold Jlh at e
  by_cases hk:(k==NameKind.free)=true
  ·rw [if_pos hk] at e
   have hk':k= .free:=by simpa using hk
   subst hk'
   by_cases hx:x=y
   ·subst hx;exact yaq
   ·cases hc:cells.lookup y with
    |none=>rw [hc] at e;exact yak _ (Jmk r acc e n)
    |some d=>
     rw [hc] at e
     refine yak _ (Jmk r _ e ?_)
     rw [yaw,beq_eq_false_iff_ne.mpr hx]
     exact n
  ·rw [if_neg hk] at e
   exact yak _ (Jmk r acc e n)
def Jpy (s:Stmt):Pos:=match s with
 | .FunctionDef _ _ _ _ _ _ _ _ _ p=>p
 |_=>⟨0,0,0,0⟩
def tDef (P:Addr) (lb:Array (Nat×Nat×Str)) (i:Nat) (name qual:Str) (st:Stmt) (caps:List (Str×Nat)) (t:TS):TS:=λD σ H=>H P=some (.tbl lb)/\∃vs:List V,(∀y∈caps.zip vs,σ[y.1.2]?=some (some y.2))/\caps.length=vs.length/\
 ∀f H',Same H H'->H f=none->CloAt H' f name qual st ((caps.map (·.1)).zip vs)->t D (σ.set i (some (.ref f))) H'
section
variable {X:Cx} {rest:List Stmt} {t:TS} {st:Stmt} {name qual:Str} {i:Nat} {c P:Addr} {lb:Array (Nat×Nat×Str)} {caps:List (Str×Nat)}
theorem Jxp {f₀:Addr} (n:Nst X.K f₀ c P) (B:Bmn X.mg X.base) (hcd:X.env.code= .ref c) (hst:st= .FunctionDef name (Jkj st) (Jkb st) [] none [] (Jje st) none name (Jpy st))
  (hd:(Jkj st).defaults= []) (hk:(Jkj st).kw_defaults= []) (ha:annTrees (Jkj st) none X.env= []) (hq:qualnameIn X.env name name=qual) (hm:((Jpy st).line,(Jpy st).col,qual)∈lb) (hu:∀q,((Jpy st).line,(Jpy st).col,q)∈lb->q=qual)
  (hN:X.N.Nodup) (hi:X.N[i]?=some name) (hx:X.env.scope.names.lookup name=some .local)
  (hcap:∀y∈caps,X.N[y.2]?=some y.1/\y.2≠i/\(Jje st).names.lookup y.1=some .free/\X.fn y.1=true/\X.env.scope.names.lookup y.1=some .cell)
  (hall:∀y∈(Jje st).names,y.2= .free->y.1∈caps.map (·.1))
  (hr:PB (X.fix λx=>(caps.map (·.1)).contains x) rest t):PB X (st::rest) (tDef P lb i name qual st caps t):=by
 intro pins s σ H D I h
 obtain ⟨ht,vs,hvs,hlen,h⟩:=h
 have hcel:∀y∈caps,X.env.scope.names.lookup y.1=some .cell:=λy hy=>(hcap y hy).2.2.2.2
 have hfr:∀y∈(Jje st).names,y.2= .free->∃b,X.env.cells.lookup y.1=some b:=λy hy hyf=>by
  obtain ⟨z,hz,ez⟩:=ybd.mp (hall y hy hyf)
  rw [<-ez]
  exact I.ok.has z.1 (.inl (hcel z hz))
 have hcl:=Joq (env:=X.env) hfr
 refine wpAny_execs_cons ?_
 rw [hst]
 refine PySem.W.nestDef_K hd hk ha ?_
 rw [hq]
 refine Yv I hcd (n.code I.mod.kin) B ht hm hu hcl λs1 f c' H1 I1 s01 hf hclo hcod=>?_
 refine Jo9 I1 hN hi (.inl hx) (v:=.ref f) rfl (λs2 I2=>?_) (.inr hx)
 obtain ⟨J,sJ⟩:=I2.fix (λx=>(caps.map (·.1)).contains x)
 have hS:=s01.trans sJ
 have hin:∀x b,(Jlh X.env.cells (Jje st).names []).lookup x=some b->X.env.cells.lookup x=some b:=λx b e=>Jmb (cells:=X.env.cells) _ [] (λx c e=>by simp at e) x b e
 have cel:∀(k:Nat) (y:Str×Nat) (v:V),caps[k]?=some y->vs[k]?=some v->∃b,X.env.cells.lookup y.1=some b/\CelAt (Jqq X (λx=>(caps.map (·.1)).contains x) s2.heap H1) b v:=λk y v e1 e2=>by
  have hy:=yae e1
  obtain ⟨c1,c2,c3,c4,_⟩:=hcap y hy
  have hσ:σ[y.2]?=some (some v):=hvs (y,v) (yae (i:=k) (by rw [ycr];exact ⟨e1,e2⟩))
  refine I2.celAt J c1 (by rw [List.getElem?_set_ne (yk c2)];exact hσ) (.inl (hcel y hy)) ?_ c4
  exact ycm.mpr (List.mem_map_of_mem hy)
 refine hr pins s2 _ _ D J (h f _ hS hf ⟨_,c',sJ _ _ hclo,sJ _ _ hcod,λx y b h1 h2=>I.ok.inj x y b ?_ ?_,λy hy hyf=>?_,λx b e=>?_,λx v e=>?_⟩)
 ·exact hin x b h1
 ·exact hin y b h2
 ·have hh:=Jlr (cells:=X.env.cells) (x:=y.1) (Jje st).names [] (by rw [<-hyf];exact hy) (hfr y hy hyf)
  exact ycc.mp hh
 ·obtain ⟨y,hy,rfl⟩:=ybd.mp (hall (x,.free) (Jmk (Jje st).names [] e (by simp)) rfl)
  obtain ⟨k,hk⟩:=List.getElem?_of_mem hy
  have hk':k < vs.length:=by rw [<-hlen];exact (yv.mp hk).1
  obtain ⟨b',e1,e2⟩:=cel k y vs[k] hk (yn hk')
  have e3:=hin _ _ e
  rw [e1] at e3;cases e3
  exact ⟨_,e2⟩
 ·obtain ⟨k,hk⟩:=List.getElem?_of_mem e
  rw [ycr,yp] at hk
  obtain ⟨k1,k2⟩:=hk
  cases hy:caps[k]? with
  |none=>rw [hy] at k1;cases k1
  |some y=>
   rw [hy] at k1
   cases k1
   obtain ⟨b,e1,e2⟩:=cel k y v hy k2
   have hm:=yae hy
   have hh:=Jlr (cells:=X.env.cells) (x:=y.1) (Jje st).names [] (PySem.mem_of_lookup (hcap y hm).2.2.1) ⟨b,e1⟩
   obtain ⟨b',e3⟩:=ycc.mp hh
   have e4:=hin _ _ e3
   rw [e1] at e4;cases e4
   exact ⟨_,e3,e2⟩
end
end L2
namespace L2
open PySem PySem.Spec PyProof.Rows
theorem Fun.okN {CX:CXT} {P:Program} {w:World} {K:PySem.W.Frag} {mg:Str->Option Value} {base:Heap} {x qual:Str} {st:Stmt} {f c T:Addr} {fd:FuncData} {N ps:List Str} {k:Nat} {sp:Sp} (F:Fun K x qual st f fd) (n:Nst K f c T) (S:Jjj N ps (Jje st)) (len:∀vs H Q E,sp vs H Q E->vs.length=ps.length)
  (hbody:∀(A:Around) (outer:List Env) (s:Shared) (H:Hp) (vs:List V) (Q:VK) (E:XK),Room k (A.deeper (envOfC qual (Jje st) s.heap.objs.size f (.ref c)))->sp vs H Q E->
   ∃t,PB (Juo CX P w K mg base N qual (Jje st) f (.ref c) A outer s H E) (Jkb st) t/\t {nx:=λ_ H'=>Q .non H',rt:=Q} (start N vs) H):FnOk P w K mg base CX (k+1) f fd ps sp:=by
 obtain ⟨oc,od,kV,doc,pm,an,cdv,ct,osl,rfl,lk,hcd⟩:=F.ex
 have ec:cdv= .ref c:=by
  obtain ⟨oc',od',fd',sl',l',e'⟩:=n.fn
  rw [lk] at l';cases l'
  exact e'
 subst ec
 refine ⟨len,λA outer s H args us vs Q E hr e0 hb r hsp=>?_⟩
 have hl:=len _ _ _ _ hsp
 have KX:K.In s.heap:=e0.mod.kin.keeps λb o e=>(e0.bs b o e).1
 have lim:s.heap.NoLimit:=e0.mod.nolimit.keeps λb o e=>(e0.bs b o e).1
 refine codeAny_call_function hr.depth (KX _ _ lk) rfl S.co S.gen rfl (PySem.W.codeRec_of KX hcd) (hb _ _ _ _ ?_)
 refine wpAny_newFunctionEnv_cells S.kind (λ⟨y,v⟩ hy=>?_) λenv he s1 z=>?_
 ·exact (S.par y (List.of_mem_zip hy).1).imp id λq=>⟨q,PySem.W.cellsFrom_some _ _ _ (.inl q)⟩
 subst he
 refine ⟨lim.keeps z.toInCall.keep,codeAny_func ?_⟩
 obtain ⟨t,ht,hq⟩:=hbody A outer s H vs Q E (hr.deeper _) hsp
 refine wpAny_mono (ht [] s1 (start N vs) H _ (Jto S hr.hd e0 hl r z) hq) (λfl s' hs=>?_) λe s' hs=>hs
 cases fl with
 |ret u=>
  obtain ⟨v,H',⟨a1,a2,a3,a4⟩,rv,q⟩:=hs
  exact ⟨v,H',a1,a2,a3,a4,rv,q⟩
 |next=>
  obtain ⟨σ',H',⟨a1,a2,a3,a4⟩,q⟩:=hs
  exact ⟨.non,H',a1,a2,a3,a4,rfl,q⟩
 |brk=>
  obtain ⟨_,_,_,q⟩:=hs
  exact False.elim q
 |cont=>
  obtain ⟨_,_,_,q⟩:=hs
  exact False.elim q
theorem Jlv:∀(ns:List (Str×NameKind)) (n:Nat) (acc:List (Str×Addr)),cellsFrom n ns acc=cellsFrom n ns []++acc
 | [],_,_=>rfl
 | (x,k) :: r,n,acc=>by
  unfold cellsFrom
  split
  ·rw [Jlv r (n+1) ((x,n)::acc),Jlv r (n+1) [(x,n)],List.append_assoc]
   rfl
  ·exact Jlv r n acc
theorem Jn6 {x:Str} {b:Addr}:∀(ns:List (Str×NameKind)) (n:Nat) (acc:List (Str×Addr)),(cellsFrom n ns acc).lookup x=some b->acc.lookup x=none->(x,NameKind.cell)∈ns
 | [],_,_,e,m=>by unfold cellsFrom at e;rw [m] at e;cases e
 | (y,k) :: r,n,acc,e,m=>by
  unfold cellsFrom at e
  split at e
  ·rename_i hk
   have hk':k= .cell:=by simpa using hk
   subst hk'
   by_cases hx:x=y
   ·subst hx;exact yaq
   ·refine yak _ (Jn6 r _ _ e ?_)
    rw [yaw,beq_eq_false_iff_ne.mpr hx]
    exact m
  ·exact yak _ (Jn6 r _ _ e m)
theorem Jls {α β:Type} [BEq α] {x:α}:∀(l m:List (α×β)),(l++m).lookup x=(l.lookup x).or (m.lookup x)
 | [],_=>rfl
 | (y,v) :: r,m=>by
  rw [List.cons_append,yaw,yaw]
  split
  ·rfl
  ·exact Jls r m
section
variable {M:Model} {A:Around} {E:Value->Shared->Prop} {s₀ s:Shared} {m cm:Str->Option Value} {env:Env} {cs:List (Str×Addr)}
theorem Jwz (f:Str×Value->PUnit->Sem (ForInStep PUnit)) (hf:∀n v u,f (n,v) u=(do storeName env n v;pure (.yield ⟨⟩))) (hk:env.scope.kind= .function) (sub:∀n c,cs.lookup n=some c->env.cells.lookup n=some c):
  ∀(bs:List (Str×Value)) (m cm:Str->Option Value) (s:Shared) (Q:PUnit->Shared->Prop),InCallC s₀ env.locals m cs cm s->(∀x∈bs,env.kindOf x.1=some .local\/(env.kindOf x.1=some .cell/\(cs.lookup x.1).isSome=true))->
   (∀s',InCallC s₀ env.locals (bindL env.kindOf bs m) cs (bindC env.kindOf bs cm) s'->Q ⟨⟩ s')->wpAny M A (forIn bs ⟨⟩ f) Q E s
 | [],m,cm,s,Q,x,_,h=>by rw [List.forIn_nil];exact wpAny_pure (h s x)
 | (n,v) :: r,m,cm,s,Q,x,hb,h=>by
  rw [yce,hf]
  have hr:=λy hy=>hb y (yak (n,v) hy)
  obtain ⟨h0,t0,e0⟩:=x.toInCall.same
  rcases hb (n,v) yaq with hl|⟨hl,hc⟩
  ·refine wpAny_bind (wpAny_bind (wpAny_storeName_local hl x.toInCall.ns (λh' hn hs=>wpAny_pure (Jwz f hf hk sub r (λy=>if y=n then some v else m y) cm _ Q ⟨⟨?_,hn,λb o z=>?_,x.toInCall.fresh⟩,λk c z=>?_,x.apart,x.above⟩ hr λs'' x''=>h s'' ?_)) (by rw [hk];rfl)))
   ·rw [e0];exact ⟨h',_,rfl⟩
   ·exact hs.extBut b o (yq (yah (yj z) x.toInCall.fresh)) (x.toInCall.keep b o z)
   ·exact (x.cell k c z).sameBut hs (yau (x.above k c (mem_of_lookup z)))
   ·unfold bindL bindC;rw [if_pos hl,if_pos hl];exact x''
  ·obtain ⟨c,hc⟩:=ycc.mp hc
   have hnl:¬env.kindOf n=some .local:=by rw [hl];decide
   have hL:=x.above n c (mem_of_lookup hc)
   refine wpAny_bind (wpAny_bind (wpAny_storeName_cell hk hl (sub n c hc) (x.cell n c hc) λh' hn hs=>wpAny_pure (Jwz f hf hk sub r m (λy=>if y=n then some v else cm y) _ Q ⟨⟨?_,x.toInCall.ns.sameBut hs (yq hL),λb o z=>?_,x.toInCall.fresh⟩,λk c' z=>?_,x.apart,x.above⟩ hr λs'' x''=>h s'' ?_)))
   ·rw [e0];exact ⟨h',_,rfl⟩
   ·exact hs.extBut b o (yq (ybr (yah (yj z) x.toInCall.fresh) hL)) (x.toInCall.keep b o z)
   ·by_cases w':k=n
    ·subst w'
     rw [hc] at z;cases z
     simpa using hn
    ·rw [if_neg w']
     exact (x.cell k c' z).sameBut hs λe=>w' (name_of_addr x.apart (mem_of_lookup z) (e▸mem_of_lookup hc))
   ·unfold bindL bindC;rw [if_neg hnl,if_neg hnl];exact x''
theorem Yci {scope:Scope} {globals:Addr} {clos:List (Str×Addr)} {bs:List (Str×Value)} {qual:Str} {func:Option Addr} {code:Value} {builtins:Addr} {Q:Env->Shared->Prop} (hk:scope.kind= .function)
  (hb:∀x∈bs,scope.names.lookup x.1=some .local\/(scope.names.lookup x.1=some .cell/\((cellsFrom (s.heap.objs.size+1) scope.names []).lookup x.1).isSome=true))
  (hQ:∀env,env=newEnv scope s.heap.objs.size globals (cellsFrom (s.heap.objs.size+1) scope.names []++clos) qual func code none builtins->
   ∀s',InCallC s env.locals (bindL env.kindOf bs λ_=>none) (cellsFrom (s.heap.objs.size+1) scope.names []) (bindC env.kindOf bs λ_=>none) s'->Q env s'):
  wpAny M A (newFunctionEnv scope globals clos bs qual func code none builtins) Q E s:=by
 simp only [newFunctionEnv,Option.isSome_none,Bool.false_eq_true,if_false]
 refine wpAny_bind (wpAny_alloc (wpAny_bind (wpAny_layCells _ (λn kd cl=>by cases h:kd==NameKind.cell <;> simp [h]) _ _ _ _ ?_)))
 have z:({s with heap:=s.heap.push {cls:=.type "frame",data:=.dict #[]}}:Shared).heap.objs.size=s.heap.objs.size+1:=yaa ..
 rw [z,Jlv]
 have ok:=cellsFrom_ok scope.names (s.heap.push {cls:=.type "frame",data:=.dict #[]}) (s.heap.objs.size+1) [] ⟨λ_ _ hm=>(nomatch hm),.nil⟩ (ybw z.symm)
 rw [show (s.heap.push {cls:=.type "frame",data:=.dict #[]}).objs.size=s.heap.objs.size+1 from yaa ..] at ok
 refine wpAny_bind (Jwz (s₀:=s) (cs:=cellsFrom (s.heap.objs.size+1) scope.names []) (env:=newEnv scope s.heap.objs.size globals (cellsFrom (s.heap.objs.size+1) scope.names []++clos) qual func code none builtins) _ (λ_ _ _=>rfl) hk (λn c e=>?_) bs (λ_=>none) (λ_=>none) _ _ ?_ hb λs' x=>wpAny_pure (hQ _ rfl s' x))
 ·show (cellsFrom (s.heap.objs.size+1) scope.names []++clos).lookup n=some c
  rw [Jls,e];rfl
 ·exact ⟨⟨⟨_,_,rfl⟩,(Heap.Ns.new s.heap (.type "frame")).keeps (pushCells_keeps _ _),λb o e=>pushCells_keeps _ _ b o (yi _ e),yg _⟩,λn c hc=>(ok.empty n c (mem_of_lookup hc)).1,ok.apart,λn c hm=>(ok.empty n c hm).2⟩
end
end L2
namespace L2
open PySem PySem.Spec PyProof.Rows
structure Jnl (N ps fr:List Str) (sc:Scope):Prop where
 kind:sc.kind= .function
 co:sc.isCoroutine=false
 gen:sc.isGenerator=false
 nd:N.Nodup
 pre:N.take (ps.length+fr.length)=ps++fr
 par:∀x∈ps,sc.names.lookup x=some .local\/sc.names.lookup x=some .cell
 frs:∀x∈fr,sc.names.lookup x=some .free
 nof:∀y∈sc.names,y.2= .cell->sc.names.lookup y.1=some .cell
def Jvr (CX:CXT) (P:Program) (w:World) (K:PySem.W.Frag) (mg:Str->Option Value) (base:Heap) (N:List Str) (qual:Str) (scope:Scope) (clos:List (Str×Addr)) (f:Addr) (cd:Value) (A:Around) (outer:List Env) (s:Shared) (H:Hp) (E:XK):Cx where
 prog:=P
 w:=w
 K:=K
 mg:=mg
 base:=base
 A:=A.deeper (PySem.W.envX qual scope s.heap.objs.size f cd (cellsFrom (s.heap.objs.size+1) scope.names []++clos))
 N:=N
 s₀:=s
 H₀:=H
 env:=PySem.W.envX qual scope s.heap.objs.size f cd (cellsFrom (s.heap.objs.size+1) scope.names []++clos)
 outer:=outer
 stack:=PySem.W.envX qual scope s.heap.objs.size f cd (cellsFrom (s.heap.objs.size+1) scope.names []++clos)::outer
 ex:=[]
 calm:=true
 fn:=λx=>decide (scope.names.lookup x=some .cell)
 pn:=[]
 xe:=λe s'=>wpAny (model P w) (A.deeper (PySem.W.envX qual scope s.heap.objs.size f cd (cellsFrom (s.heap.objs.size+1) scope.names []++clos))) (leaving (PySem.W.envX qual scope s.heap.objs.size f cd (cellsFrom (s.heap.objs.size+1) scope.names []++clos)) e) (λ_ s''=>CX outer H s E e s'') (λe' s''=>CX outer H s E e' s'') s'
theorem Y4 {N:List Str} {vs:List V} {i:Nat} {v:V} (h:(start N vs)[i]?=some (some v)):vs[i]?=some v:=by
 unfold start at h
 by_cases hi:i < vs.length
 ·rw [yck (by simpa using hi),yp] at h
  cases e:vs[i]? with
  |none=>rw [e] at h;cases h
  |some a=>rw [e] at h;cases h;rfl
 ·rw [ycj (by simpa using hi),List.getElem?_replicate] at h
  split at h <;> cases h
theorem Jx5 {CX:CXT} {P:Program} {w:World} {K:PySem.W.Frag} {mg:Str->Option Value} {base:Heap} {N ps fr:List Str} {qual:Str} {scope:Scope} {clos:List (Str×Addr)} {f:Addr} {cd:Value} {A:Around} {outer:List Env} {s s1:Shared} {H:Hp} {E:XK} {us:List Value} {vs cs:List V}
  (S:Jnl N ps fr scope) (hd:A.handled=none) (e0:Env0 P w K mg base A outer s H) (hl:vs.length=ps.length) (hlc:cs.length=fr.length) (r:Vals vs us)
  (inj:∀x y b,clos.lookup x=some b->clos.lookup y=some b->x=y) (has:∀y∈scope.names,y.2= .free->∃b,clos.lookup y.1=some b) (cel:∀x b,clos.lookup x=some b->∃v,CelAt H b v) (cap:∀x v,(x,v)∈fr.zip cs->∃b,clos.lookup x=some b/\CelAt H b v)
  (x:InCallC s s.heap.objs.size (bindL (PySem.W.envX qual scope s.heap.objs.size f cd (cellsFrom (s.heap.objs.size+1) scope.names []++clos)).kindOf (ps.zip us) λ_=>none) (cellsFrom (s.heap.objs.size+1) scope.names []) (bindC (PySem.W.envX qual scope s.heap.objs.size f cd (cellsFrom (s.heap.objs.size+1) scope.names []++clos)).kindOf (ps.zip us) λ_=>none) s1):
  Inv (Jvr CX P w K mg base N qual scope clos f cd A outer s H E) [] (start N (vs++cs)) H s1:=by
 have hpl:ps.length+fr.length<=N.length:=by have:=congrArg List.length S.pre;rw [yaf,yay] at this;omega
 obtain ⟨h1,tk,rfl,hk⟩:=x.done
 have noA:∀b:Addr,b∉(Jvr CX P w K mg base N qual scope clos f cd A outer s H E).ex:=λb z=>absurd (show b∈([]:List Addr) from z) (by simp)
 have cobj:∀b v,CelAt H b v->∃o u,H b=some (celF o)/\s.heap.get? b=some o/\o.data= .cell (some u)/\RelV v u:=λb v ⟨o,u,q1,q2,q3⟩=>⟨o,u,q1,(e0.hok b _ q1).1,q2,q3⟩
 have two:∀y b,(cellsFrom (s.heap.objs.size+1) scope.names []++clos).lookup y=some b->(cellsFrom (s.heap.objs.size+1) scope.names []).lookup y=some b\/((cellsFrom (s.heap.objs.size+1) scope.names []).lookup y=none/\clos.lookup y=some b):=λy b e=>by
  rw [Jls] at e
  cases q:(cellsFrom (s.heap.objs.size+1) scope.names []).lookup y with
  |none=>rw [q] at e;exact .inr ⟨rfl,e⟩
  |some d=>rw [q] at e;exact .inl e
 have low:∀y b,clos.lookup y=some b->b < s.heap.objs.size:=λy b e=>by
  obtain ⟨v,q⟩:=cel y b e
  obtain ⟨o,u,_,q2,_⟩:=cobj b v q
  exact yj q2
 have high:∀y b,(cellsFrom (s.heap.objs.size+1) scope.names []).lookup y=some b->s.heap.objs.size < b:=λy b e=>x.above y b (PySem.mem_of_lookup e)
 refine ⟨⟨e0.mod,S.kind,rfl,rfl,yg _,λy z c h1 h2=>?_,λy hy=>?_,λy c hy h=>?_,λ_=>hd,Around.frames_deeper e0.frames,.inr ⟨rfl,rfl⟩,λb z=>absurd z (noA b),e0.bs,e0.bsz,λb _ _=>noA b,λb z=>absurd z (noA b),e0.funs,e0.frf⟩,
  rfl,e0.bare,Un.kept hk,⟨_,x.toInCall.ns,λi y v h1 h2 h3=>?_⟩,λy c h=>?_,e0.hok.fresh (yg _),λy c h=>?_,λp hp=>absurd (show p∈([]:List (Addr×Obj)) from hp) (by simp),e0.hok.kept hk,?_⟩
 ·rcases two y c h1 with a|⟨_,a⟩
  ·rcases two z c h2 with b|⟨_,b⟩
   ·exact name_of_addr x.apart (PySem.mem_of_lookup a) (PySem.mem_of_lookup b)
   ·exact absurd (ybr (high y c a) (low z c b)) (yba _)
  ·rcases two z c h2 with b|⟨_,b⟩
   ·exact absurd (ybr (high z c b) (low y c a)) (yba _)
   ·exact inj y z c a b
 ·have hy:scope.names.lookup y=some .cell\/scope.names.lookup y=some .free:=hy
  show ∃c,(cellsFrom (s.heap.objs.size+1) scope.names []++clos).lookup y=some c
  rw [Jls]
  cases q:(cellsFrom (s.heap.objs.size+1) scope.names []).lookup y with
  |some d=>exact ⟨d,rfl⟩
  |none=>
   rcases hy with hy|hy
   ·obtain ⟨c,e⟩:=Jmy (n:=s.heap.objs.size+1) hy
    rw [q] at e;cases e
   ·exact has _ (PySem.mem_of_lookup hy) rfl
 ·rcases two y c h with a|⟨a,_⟩
  ·exact yap (high y c a)
  ·have hy':decide (scope.names.lookup y=some .cell)=true:=hy
   obtain ⟨c',e⟩:=Jmy (n:=s.heap.objs.size+1) (of_decide_eq_true hy')
   rw [a] at e;cases e
 ·have ha:=Y4 h2
  have h1:N[i]?=some y:=h1
  have hi:i < vs.length+cs.length:=by have:=(yv.mp ha).1;rw [yay] at this;exact this
  have hp:(ps++fr)[i]?=some y:=by rw [<-S.pre,List.getElem?_take_of_lt (by omega)];exact h1
  by_cases hv:i < vs.length
  ·rw [yck hv] at ha
   rw [yck (by omega)] at hp
   obtain ⟨u,hu,rv⟩:=r.get ha
   have ndP:ps.Nodup:=(List.nodup_append.mp (by rw [<-S.pre];exact S.nd.sublist (List.take_sublist _ _))).1
   refine ⟨u,rv,?_⟩
   rcases S.par y (yae hp) with k|k
   ·exact .inl ⟨k,Jqa ndP hp hu k⟩
   ·obtain ⟨c,e⟩:=Jmy (n:=s.heap.objs.size+1) k
    refine .inr ⟨.inl k,c,?_,?_⟩
    ·show (cellsFrom (s.heap.objs.size+1) scope.names []++clos).lookup y=some c
     rw [Jls,e];rfl
    ·have q:=x.cell y c e
     rw [Jq9 ndP hp hu (by show scope.names.lookup y≠_;rw [k];decide)] at q
     exact q
  ·rw [ycj (by omega)] at ha
   rw [ycj (by omega)] at hp
   obtain ⟨b,e1,e2⟩:=cap y v (yae (i:=i - vs.length) (by rw [ycr];exact ⟨by rw [hl];exact hp,ha⟩))
   have kf:=S.frs y (yae hp)
   obtain ⟨o,u,_,q2,q3,q4⟩:=cobj b v e2
   refine ⟨u,q4,.inr ⟨.inr kf,b,?_,o,hk _ _ q2,q3⟩⟩
   show (cellsFrom (s.heap.objs.size+1) scope.names []++clos).lookup y=some b
   rw [Jls]
   cases q:(cellsFrom (s.heap.objs.size+1) scope.names []).lookup y with
   |none=>exact e1
   |some d=>
    have:=S.nof _ (Jn6 scope.names _ [] q rfl) rfl
    rw [kf] at this;cases this
 ·rcases two y c h with a|⟨_,a⟩
  ·exact ⟨_,x.cell y c a⟩
  ·obtain ⟨v,q⟩:=cel y c a
   obtain ⟨o,u,_,q2,q3,_⟩:=cobj c v q
   exact ⟨_,o,hk _ _ q2,q3⟩
 ·rcases two y c h with a|⟨a1,a⟩
  ·exact .inl (e0.hok.fresh (yap (high y c a)))
  ·obtain ⟨v,q⟩:=cel y c a
   obtain ⟨o,u,q1,_⟩:=cobj c v q
   refine .inr ⟨decide_eq_false λz=>?_,o,q1⟩
   obtain ⟨c',e⟩:=Jmy (n:=s.heap.objs.size+1) z
   rw [a1] at e;cases e
 ·unfold start
  show _=N.length
  rw [yay,yf,ybx,yay]
  omega
structure CloOk (P:Program) (w:World) (K:PySem.W.Frag) (mg:Str->Option Value) (base:Heap) (CX:CXT) (k:Nat) (f:Addr) (sp:Sp):Prop where
 isf:∀vs H Q E,sp vs H Q E->IsF H f
 run:∀(A:Around) (outer:List Env) (s:Shared) (H:Hp) (us:List Value) (vs:List V) (Q:VK) (E:XK),Room k A->Env0 P w K mg base A outer s H->Vals vs us->sp vs H Q E->codeAny (model P w) A (.call (.ref f) ⟨us,[]⟩) (CR CX outer P w H s Q E) s
def Jwp (name qual:Str) (st:Stmt) (fr:List Str) (sp:List V->Sp) (f:Addr):Sp:=λvs H Q E=>∃cs,CloAt H f name qual st (fr.zip cs)/\sp cs vs H Q E
theorem Jx1 {CX:CXT} {P:Program} {w:World} {K:PySem.W.Frag} {mg:Str->Option Value} {base:Heap} {k:Nat} {name qual:Str} {st:Stmt} {N ps fr:List Str} {sp:List V->Sp} (S:Jnl N ps fr (Jje st))
  (hb:∀(clos:List (Str×Addr)) (doc pm:Value) (c:Addr) (ct:Value) (us:List Value),us.length=ps.length->bindArgs (PySem.W.fnX name qual (Jkj st) (Jkb st) (Jje st) clos .none .none doc pm none (.ref c) ct) ⟨us,[]⟩=pure (ps.zip us))
  (len:∀cs vs H Q E,sp cs vs H Q E->vs.length=ps.length/\cs.length=fr.length)
  (hbody:∀(f c:Addr) (clos:List (Str×Addr)) (A:Around) (outer:List Env) (s:Shared) (H:Hp) (vs cs:List V) (Q:VK) (E:XK),Room k (A.deeper (PySem.W.envX qual (Jje st) s.heap.objs.size f (.ref c) (cellsFrom (s.heap.objs.size+1) (Jje st).names []++clos)))->sp cs vs H Q E->
   ∃t,PSs (Jvr CX P w K mg base N qual (Jje st) clos f (.ref c) A outer s H E) (Jkb st) t/\t {nx:=λ_ H'=>Q .non H',rt:=Q} (start N (vs++cs)) H) (f:Addr):
  CloOk P w K mg base CX (k+1) f (Jwp name qual st fr sp f):=by
 refine ⟨λvs H Q E ⟨cs,h,_⟩=>h.isf,λA outer s H us vs Q E hr e0 r zq=>?_⟩
 obtain ⟨cs,⟨clos,c,h1,h2,h3,h4,h5,h6⟩,hsp⟩:=zq
 obtain ⟨hl,hlc⟩:=len _ _ _ _ _ hsp
 have hlu:us.length=ps.length:=by rw [<-r.length];exact hl
 have lim:s.heap.NoLimit:=e0.mod.nolimit.keeps λb o e=>(e0.bs b o e).1
 obtain ⟨⟨doc,pm,ct,ho⟩,_⟩:=e0.hok f _ h1
 refine codeAny_call_function hr.depth ho rfl S.co S.gen rfl (show s.heap.CodeRec (.ref c) qual from e0.hok c _ h2) ?_
 rw [hb clos doc pm c ct us hlu]
 refine wpAny_pure (Yci S.kind (λ⟨y,v⟩ hy=>?_) λenv he s1 z=>?_)
 ·exact (S.par y (List.of_mem_zip hy).1).imp id λq=>⟨q,PySem.W.cellsFrom_some _ _ _ (.inl q)⟩
 subst he
 refine ⟨lim.keeps z.toInCall.keep,codeAny_func ?_⟩
 obtain ⟨t,ht,hq⟩:=hbody f c clos A outer s H vs cs Q E (hr.deeper _) hsp
 refine wpAny_mono (ht [] s1 (start N (vs++cs)) H _ (Jx5 S hr.hd e0 hl hlc r h3 h4 h5 h6 z) hq) (λfl s' hs=>?_) λe s' hs=>hs
 cases fl with
 |ret u=>
  obtain ⟨v,σ',H',J,rv,q⟩:=hs
  exact ⟨v,H',J.os,J.bare,J.base,J.hok,rv,q⟩
 |next=>
  obtain ⟨σ',H',J,q⟩:=hs
  exact ⟨.non,H',J.os,J.bare,J.base,J.hok,rfl,q⟩
 |brk=>
  obtain ⟨_,_,_,q⟩:=hs
  exact False.elim q
 |cont=>
  obtain ⟨_,_,_,q⟩:=hs
  exact False.elim q
theorem Jvj {P:Program} {w:World} {K:PySem.W.Frag} {mg:Str->Option Value} {base:Heap} {N:List Str} {qual:Str} {scope:Scope} {clos:List (Str×Addr)} {f:Addr} {cd:Value} {A:Around} {outer:List Env} {s:Shared} {H:Hp} {E:XK}:
  Jpk (Jvr (CXX P w) P w K mg base N qual scope clos f cd A outer s H E) (λ_=>E):=by
 intro pins σ H1 s1 e C dx fr I q hfl hE
 show wpAny _ _ (leaving _ _) _ _ _
 unfold leaving
 refine wpAny_bind (Juz I ⟨rfl,rfl⟩ I.ok.frames q hfl λs2 I2 f2=>Joc I2 Jj9 f2 λs3 I3 f3=>?_)
 obtain ⟨oe,vs,T,oT,ts,z1,z2,z3,z4,z5,z6,z7,z8,_⟩:=f3
 exact ⟨e,C,dx,_,rfl,I3.os,I3.bare,I3.base,I3.hok,Jj9,⟨oe,vs,T,oT,ts,z1,z2,z3,z4,z5,z6,z7,z8⟩,hE⟩
def Jve (i:Nat) (sp:Addr->Sp) (R:St->XK) (t:TA):TE:=λσ H Q=>∃f,σ[i]?=some (some (.ref f))/\t σ H λvs H1=>sp f vs H1 Q (R σ)
section
variable {X:Cx} {CX:CXT} {k j i:Nat} {sp:Addr->Sp} {x:Str} {p pos:Pos} {e:Expr} {es:List Expr} {t:TA} {R:St->XK}
theorem Jou (G:∀f,CloOk X.prog X.w X.K X.mg X.base CX k f (sp f)) (hr:Room j X.A) (hk:k<=j) (hx:∀pins σ H s e s',Inv X pins σ H s->CX X.stack H s (R σ) e s'->X.xe e s') (ha:PA X (e::es) t) (hN:X.N[i]?=some x) (hv:Vis X.env.scope x)
  (hd:(x==("__debug__" :Str))=false) (hcd:(x==("__classdict__" :Str))=false) (he:starEach (e::es) X.env=(false,eval e X.env)::starEach es X.env) (hpl:(backTo pos (starEach es X.env)).any (·.1)=false):
  PE X (.Call (.Name x p) (e::es) [] pos) (Jve i sp R t):=by
 intro pins s σ H Q I h
 obtain ⟨f,hf,h⟩:=h
 refine wpAny_Call_Name_kw (thn (Yao hN hv hd hcd pins s σ H (λv H'=>v= .ref f/\H'=H) I ⟨_,hf,rfl,rfl⟩) λu s1 zq=>?_)
 obtain ⟨v,H',I1,r,e1,e2⟩:=zq
 subst e1 e2
 cases r
 have hat:∀{s2:Shared} {H2:Hp},Inv X pins σ H2 s2->IsF H2 f->PySem.W.FnAt f s2.heap:=λJ ⟨name,qual,st,clos,c,z⟩=>by
  obtain ⟨⟨doc,pm,ct,q⟩,_⟩:=J.hok f _ z
  exact ⟨_,_,_,_,q⟩
 rw [he]
 refine PySem.W.callWith_of (P:=PySem.W.FnAt f) (by show ((false||(backTo pos (starEach es X.env)).any (·.1))||false)=false;rw [hpl];rfl) PySem.W.keeps_F (Calls.evalArgs_plain ?_)
 have ha':=ha pos pins s1 σ H' _ I1 h
 rw [he] at ha'
 refine thn ha' λus s2 ⟨vs,H2,I2,r2,q2⟩=>⟨hat I2 ((G f).isf _ _ _ _ q2),?_⟩
 refine wpAny_call (codeAny_mono ((G f).run X.A X.stack s2 H2 us vs Q (R σ) (hr.mono hk) I2.env0 r2 q2) λr s' hq=>?_)
 cases r with
 |error e=>exact hx pins σ H2 s2 e s' I2 hq
 |ok fl=>
  cases fl with
  |ret u=>exact I2.after hq
  |next=>exact False.elim hq
  |brk=>exact False.elim hq
  |cont=>exact False.elim hq
theorem Jwb (G:∀f,CloOk X.prog X.w X.K X.mg X.base CX0 k f (sp f)) (hr:Room j X.A) (hk:k<=j) (i:Nat) (ha:PA X (e::es) t) (hN:X.N[i]?=some x:=by rfl) (hv:Vis X.env.scope x:=by first|exact ye rfl|exact yad (ye rfl)|exact yad (yad rfl))
  (hd:(x==("__debug__" :Str))=false:=by decide) (hcd:(x==("__classdict__" :Str))=false:=by decide) (he:starEach (e::es) X.env=(false,eval e X.env)::starEach es X.env:=by rfl) (hpl:(backTo pos (starEach es X.env)).any (·.1)=false:=by rfl):
  PE X (.Call (.Name x p) (e::es) [] pos) (Jve i sp (λ_=>E0) t):=Jou G hr hk (λ_ _ _ _ _ _ _ z=>z.elim) ha hN hv hd hcd he hpl
theorem Jzt (hw:Jpk X R) (G:∀f,CloOk X.prog X.w X.K X.mg X.base (CXX X.prog X.w) k f (sp f)) (hr:Room j X.A) (hk:k<=j) (i:Nat) (ha:PA X (e::es) t) (hN:X.N[i]?=some x:=by rfl) (hv:Vis X.env.scope x:=by first|exact ye rfl|exact yad (ye rfl)|exact yad (yad rfl))
  (hd:(x==("__debug__" :Str))=false:=by decide) (hcd:(x==("__classdict__" :Str))=false:=by decide) (he:starEach (e::es) X.env=(false,eval e X.env)::starEach es X.env:=by rfl) (hpl:(backTo pos (starEach es X.env)).any (·.1)=false:=by rfl):
  PE X (.Call (.Name x p) (e::es) [] pos) (Jve i sp R t):=Jou G hr hk (λ_ _ _ _ _ _ I z=>Jz3 hw I z) ha hN hv hd hcd he hpl
end
end L2
namespace L2
open PySem PySem.Spec PyProof.Rows
theorem nst_mk {K:PySem.W.Frag} {f c P:Addr} {oc:Value} {od od':Option Addr} {fd:FuncData} {sl sl':Array (Option Value)} {vs:Array Value} (l:K.lookup f=some ⟨oc,od,.func fd,sl⟩) (e:fd.code= .ref c)
  (lc:K.lookup c=some ⟨.type "code",od', .fields vs,sl'⟩) (_:vs[11]?=some (.ref P)) (hb:cdfB vs c P=true):Nst K f c P:=⟨⟨oc,od,fd,sl,l,e⟩,⟨od',vs,sl',lc,hb⟩⟩
theorem Jtr {β:Type}:∀{l:List (Addr×β)},(l.map (·.1)).Nodup->∀p∈l,l.lookup p.1=some p.2
 |q::r,h,p,hp=>by
  have h':(q.1::r.map (·.1)).Nodup:=h
  obtain ⟨h1,h2⟩:=yav.mp h'
  rw [yaw]
  rcases ym.mp hp with rfl|hp
  ·rw [beq_self_eq_true]
  ·have ne:(p.1==q.1)=false:=beq_eq_false_iff_ne.mpr λz=>h1 (by rw [<-z];exact List.mem_map_of_mem hp)
   rw [ne]
   exact Jtr h2 p hp
theorem Jrx {β:Type}:∀{l:List (Addr×β)} {a:Addr} {v:β},l.lookup a=some v->(a,v)∈l
 | (b,x) :: r,a,v,e=>by
  rw [yaw] at e
  cases hb:a==b with
  |true=>rw [hb] at e;cases e;rw [eq_of_beq hb];exact .head _
  |false=>rw [hb] at e;exact .tail _ (Jrx e)
theorem Jzl {P:Program} {w:World} {K:PySem.W.Frag} {mg mb:Str->Option Value} {CX:CXT} {k:Nat} {fa a:Addr} {fd:FuncData} {x:Str} {sp:Sp} {s₁:Shared} {vs:List Value} {ns:List Int} {tabs:List (Addr×Array (Nat×Nat×Str))}
  (KX:K.In s₁.heap) (hns:s₁.heap.Ns mainGlobals mg) (hb:s₁.heap.Ns builtinsNs mb) (hbb:∀x:Str,x≠"__name__" ->mb x=bootBuiltins x) (hlim:s₁.heap.NoLimit) (hg:s₁.gens= #[])
  (ha:s₁.heap.get? a=some {cls:=.type "list",data:=.seq vs.toArray}) (hi:IntsAre vs ns) (hl:ns.length<=sizeLine) (hr:Room k callerA)
  (hT:∀p∈tabs,isCodeTable s₁.heap p.1/\s₁.heap.get? p.1=some (PySem.W.tabObj #[])) (hnd:(tabs.map (·.1)).Nodup) (hK:PySem.W.noTabs K=true) (hbm:Bmn mg s₁.heap)
  (F:∀base:Heap,K.In base->base.Ns mainGlobals mg->Bmn mg base->FnOk P w K mg base CX k fa fd [x] sp) (hbind:∀(s:Shared) (u:Value),BindsTo s fd ⟨[u],[]⟩ [(x,u)])
  (hsp:∀H:Hp,(∀p∈tabs,H p.1=some (.tbl p.2))->SqL K H a (ns.map V.int)->sp [.ref a] H (λv _=>v= .bl true) λ_ _ _=>False)
  (hCX:∀H e s',CX [] H s₁ (λ_ _ _=>False) e s'->False):
  codeAny (model P w) callerA (.call (.ref fa) ⟨[.ref a],[]⟩) (λr s'=>r= .ok (.ret (.bool true))/\OldK s₁.heap s'.heap/\s'.os=s₁.os/\AllBare s'.gens) s₁:=by
 have rv:=Ju9 hi
 have lenV:=hi.length
 let so:Obj:={cls:=.type "list",data:=.seq vs.toArray}
 let H:Hp:=λb=>if b=a/\K.lookup a=none then some (.frz so (.lst (ns.map V.int))) else (tabs.lookup b).map HO.tbl
 have three:∀b,H b=none\/(b=a/\K.lookup a=none/\H b=some (.frz so (.lst (ns.map V.int))))\/∃lb,(b,lb)∈tabs/\H b=some (.tbl lb):=λb=>by
  by_cases h:b=a/\K.lookup a=none
  ·exact .inr (.inl ⟨h.1,h.2,if_pos h⟩)
  ·have e:H b=(tabs.lookup b).map HO.tbl:=if_neg h
   cases q:tabs.lookup b with
   |none=>exact .inl (by rw [e,q];rfl)
   |some lb=>exact .inr (.inr ⟨lb,Jrx q,by rw [e,q];rfl⟩)
 have hnon:∀b o,s₁.heap.get? b=some o->(∀xs n,o.data≠ .seq xs n)->(∀xs,o.data≠ .fields xs)->H b=none:=λb o e n1 n2=>by
  rcases three b with z|⟨rfl,_,_⟩|⟨lb,m,_⟩
  ·exact z
  ·rw [ha] at e;cases e;exact absurd rfl (n1 _ _)
  ·rw [(hT _ m).2] at e;cases e;exact absurd rfl (n2 _)
 have htb:∀p∈tabs,H p.1=some (.tbl p.2):=λp hp=>by
  have n:¬(p.1=a/\K.lookup a=none):=λz=>by
   have e:=(hT p hp).2
   rw [z.1,ha] at e;cases e
  show (if p.1=a/\K.lookup a=none then _ else _)=_
  rw [if_neg n,Jtr hnd p hp]
  rfl
 have hok:HOk P w H s₁.heap:=λb u z=>by
  rcases three b with e|⟨rfl,_,e⟩|⟨lb,m,e⟩
  ·rw [e] at z;cases z
  ·rw [e] at z;cases z
   exact ⟨ha,by rw [yf];exact hl,vs,_,rv,ha⟩
  ·rw [e] at z;cases z
   exact ⟨#[],(hT _ m).2,True.intro⟩
 have hS:SqL K H a (ns.map V.int):=by
  cases hk:K.lookup a with
  |some o=>
   have e:=KX a o hk
   rw [ha] at e;cases e
   exact .inr ⟨_,vs.toArray,_,hk,rfl,rfl,rfl,by rw [yt,lenV];exact hl,by simpa using rv⟩
  |none=>exact .inl (.inr ⟨so,if_pos ⟨rfl,hk⟩⟩)
 have nsK:∀{b:Addr} {m:Str->Option Value},s₁.heap.Ns b m->(Jur s₁.heap H).Ns b m:=λ{b m} ⟨o,es,ep,e,d,r⟩=>⟨o,es,ep,Jrq e (hnon b o e (λxs n z=>by rw [d] at z;cases z) λxs z=>by rw [d] at z;cases z),d,r⟩
 have hKb:K.In (Jur s₁.heap H):=λb o e=>Jrq (KX b o e) (by
  rcases three b with z|⟨rfl,z,_⟩|⟨lb,m,_⟩
  ·exact z
  ·rw [z] at e;cases e
  ·exfalso
   have q:=KX b o e
   rw [(hT _ m).2] at q
   cases q
   have h2:=yar.mp hK (b,_) (PySem.W.mem_of_lookupK e)
   exact absurd (show false=true from h2) yw)
 have hBb:Bmn mg (Jur s₁.heap H):=by
  obtain ⟨bm,ob,b1,b2,b3,b4,b5,b6⟩:=hbm
  exact ⟨bm,ob,b1,b2,Jrq b3 (hnon bm ob b3 (λxs n z=>by rw [b6] at z;cases z) λxs z=>by rw [b6] at z;cases z),b4,b5,b6⟩
 have hM:Mod K mg (Jur s₁.heap H):=⟨hKb,nsK hns,⟨mb,nsK hb,hbb⟩,let ⟨mc,h1,h2⟩:=hlim;⟨mc,nsK h1,h2⟩⟩
 have e0:Env0 P w K mg (Jur s₁.heap H) callerA [] s₁ H:=⟨rfl,hM,λb o e=>Yco e,ybw (Jze _ _),trivial,λb hb=>absurd (show b∈([]:List Addr) from hb) (by simp),hok,.of_eq hg⟩
 refine codeAny_mono ((F _ hKb (nsK hns) hBb).run callerA [] s₁ H ⟨[.ref a],[]⟩ [.ref a] [.ref a] _ _ hr e0 (hbind s₁ (.ref a)) (.cons rfl .nil) (hsp H htb hS)) λr s' h=>?_
 cases r with
 |error e=>exact (hCX H e s' h).elim
 |ok fl=>
  cases fl with
  |next=>exact False.elim h
  |brk=>exact False.elim h
  |cont=>exact False.elim h
  |ret u=>
   obtain ⟨v,H',os,bare,un,hok',r',q⟩:=h
   have q':v= .bl true:=q
   subst q'
   obtain rfl:u=Value.bool true:=r'
   have all:∀b o,s₁.heap.get? b=some o->s'.heap.get? b=some o\/(isCodeTable s₁.heap b/\o=PySem.W.tabObj #[]/\∃ts,s'.heap.get? b=some (PySem.W.tabObj ts)):=λb o e=>by
    rcases three b with z|⟨rfl,_,z⟩|⟨lb,m,z⟩
    ·exact .inl (un.keep b o e z (by intro y;exact absurd (show b∈([]:List Addr) from y) (by simp)) (by simp))
    ·obtain ⟨e2,_⟩:=hok' _ _ (un.frzs _ _ _ z)
     rw [ha] at e;cases e
     exact .inl e2
    ·obtain ⟨more,z2⟩:=un.tbls b lb z
     obtain ⟨ts,e2,_⟩:=hok' b _ z2
     have e3:=(hT _ m).2
     rw [e] at e3;cases e3
     exact .inr ⟨(hT _ m).1,rfl,ts,e2⟩
   refine ⟨rfl,⟨λb o e=>?_,λb o e=>?_⟩,os,bare⟩
   ·rcases all b o e with z|⟨t,rfl,ts,z⟩
    ·exact .inl z
    ·exact .inr (.inl ⟨t,rfl,#[],ts,rfl,by rw [Array.empty_append];exact z⟩)
   ·rcases all b o e with z|⟨t,rfl,ts,z⟩
    ·exact ⟨o,z⟩
    ·exact ⟨_,z⟩
def Yg (q:Program) (K:PySem.W.Frag) (h:Heap):Prop:=∀(y:Str) (d:DefRec) (c P:Addr),(recsOf q).find? (λe=>e.name==y)=some d->PySem.W.tabIn K y=some (c,P)->PySem.W.CodeHd h c P/\h.get? P=some (PySem.W.tabObj #[])
theorem walk_ofT {l:PySem.W.OpenLaw} {n k:Nat} {q:Program} {loose:List Str} {XP:(Str->Option Value)->Heap->Prop} {YP:World->Heap->Prop} {d:DefRec} {K:Params->PySem.W.Frag} {CX:CXT} {x:Str}
  (hn:l.most=some n) (hn2:n<=sizeLine) (hdf:d.params.defaults= []) (hr:Room k callerA) (hY:∀(w:World) (h:Heap),YP w h->(K w.params).In h) (hK:∀w:World,PySem.W.noTabs (K w.params)=true)
  (F:∀(w:World) (mg:Str->Option Value) (fa:Addr) (h:Heap),(K w.params).In h->h.Ns mainGlobals mg->Yg q (K w.params) h->mg d.name=some (.ref fa)->
   ∃(fd:FuncData) (sp:Sp) (tabs:List (Addr×Array (Nat×Nat×Str))),(∀(s:Shared) (u:Value),BindsTo s fd ⟨[u],[]⟩ [(x,u)])/\(∀p∈tabs,isCodeTable h p.1/\h.get? p.1=some (PySem.W.tabObj #[]))/\(tabs.map (·.1)).Nodup/\
    (∀base:Heap,(K w.params).In base->base.Ns mainGlobals mg->Bmn mg base->FnOk l.prog w (K w.params) mg base CX k fa fd [x] sp)/\
    ∀(H:Hp) (a:Addr) (ns:List Int),ns.length<=n->(∀p∈tabs,H p.1=some (.tbl p.2))->SqL (K w.params) H a (ns.map V.int)->sp [.ref a] H (λv _=>v= .bl true) λ_ _ _=>False)
  (hCX:∀(H:Hp) (s:Shared) (e:Value) (s':Shared),CX [] H s (λ_ _ _=>False) e s'->False):
  PySem.W.WalkO q loose XP YP l.row.toRowW d [] (λf vs=>PySem.call f vs):=by
 refine Att.attach_call hn hdf λw s₀ s₁ mg mb fa o pm cd doc a vs ns G Y ho hd hcd hmg hobj hints hlen hg=>?_
 have KX:=hY w _ Y
 obtain ⟨fd,sp,tabs,hb,hT,hnd,hF,hsp⟩:=F w mg fa _ KX G.T.g (λy d c P e1 e2=>PySem.W.tab_of G.T KX e1 e2) hmg
 exact Jzl KX G.T.g G.T.b G.T.builtins G.T.nolimit hg hobj hints (yz hlen hn2) hr hT hnd (hK w) G.T.bmain hF hb (λH h1 h2=>hsp H a ns hlen h1 h2) λH e s'=>hCX H s₁ e s'
theorem tab_kn {q:Program} {K:PySem.W.Frag} {h:Heap} {c P:Addr} {y:Str} {d:DefRec} (T:Yg q K h) (e1:(recsOf q).find? (λe=>e.name==y)=some d) (e2:PySem.W.tabIn K y=some (c,P)):isCodeTable h P/\h.get? P=some (PySem.W.tabObj #[]):=
 let ⟨a,b⟩:=T y d c P e1 e2
 ⟨(a.tab b).isCodeTable,b⟩
end L2
namespace L2
open PySem PySem.Spec PyProof.Rows PySem.W
theorem Yc8 {P:Program} {w:World} {K:PySem.W.Frag} {mg:Str->Option Value} {base:Heap} {k:Nat} {name qual:Str} {st:Stmt} {N ps fr:List Str} {sp:List V->Sp} (S:Jnl N ps fr (Jje st))
  (hb:∀(clos:List (Str×Addr)) (doc pm:Value) (c:Addr) (ct:Value) (us:List Value),us.length=ps.length->bindArgs (PySem.W.fnX name qual (Jkj st) (Jkb st) (Jje st) clos .none .none doc pm none (.ref c) ct) ⟨us,[]⟩=pure (ps.zip us))
  (len:∀cs vs H Q E,sp cs vs H Q E->vs.length=ps.length/\cs.length=fr.length)
  (hbody:∀(f c:Addr) (clos:List (Str×Addr)) (A:Around) (outer:List Env) (s:Shared) (H:Hp) (vs cs:List V) (Q:VK) (E:XK),Room k (A.deeper (PySem.W.envX qual (Jje st) s.heap.objs.size f (.ref c) (cellsFrom (s.heap.objs.size+1) (Jje st).names []++clos)))->sp cs vs H Q E->
   ∃t,PSs (Jvr CX0 P w K mg base N qual (Jje st) clos f (.ref c) A outer s H E).nox (Jkb st) t/\t {nx:=λ_ H'=>Q .non H',rt:=Q} (start N (vs++cs)) H) (f:Addr):CloOk P w K mg base CX0 (k+1) f (Jwp name qual st fr sp f):=
 Jx1 S hb len (λf c clos A outer s H vs cs Q E hr h=>let ⟨t,h1,h2⟩:=hbody f c clos A outer s H vs cs Q E hr h;⟨t,h1.nox,h2⟩) f
theorem Jx8 {l c:Nat} {q:Str}:(l,c,q)∈ #[(l,c,q)]:=by simp
theorem Jut {l c:Nat} {q q':Str} (h:(l,c,q')∈ #[(l,c,q)]):q'=q:=by simpa using h
def nst (s:Stmt) (j:Nat):Stmt:=(Jkb s).getD j (.Pass ⟨0,0,0,0⟩)
end L2
namespace L2
open PySem PySem.Spec PyProof.Rows PySem.W
theorem KV.get {kvs:List (Key×V)} {vs:List (Key×Value)} (r:KV kvs vs):∀{i:Nat} {k:Key} {x:V},kvs[i]?=some (k,x)->∃u,vs[i]?=some (k,u)/\RelV x u:=by
 induction r with
 |nil=>intro i k x h;simp at h
 | @cons a b l1 l2 h t ih=>
  intro i k x e
  cases i with
  |zero=>
   obtain rfl:a=(k,x):=by simpa using e
   obtain ⟨k',u⟩:=b
   obtain ⟨e1,e2⟩:=h
   cases e1
   exact ⟨u,rfl,e2⟩
  |succ j=>exact ih (by simpa using e)
theorem Jxs {P:Program} {w:World} {k:Key} {u:Value} (h:(Jjm P w).is k u=true):RelV (kV k) u:=by
 rw [Jxf] at h
 cases k with
 |inl i=>
  cases u <;> simp [Jqt,Value.isInt] at h
  subst h
  exact ⟨_,rfl⟩
 |inr x=>
  obtain ⟨t,e⟩:=Value.isStrOf_shape (x:=x) (v:=u) h
  exact ⟨t,e⟩
section
variable {X:Cx} {pins:List (Addr×Obj)} {σ:St} {H:Hp} {s:Shared}
theorem Inv.frz {a:Addr} {o:Obj} {kvs:List (Key×V)} (I:Inv X pins σ H s) (e:H a=some (.dK kvs)) (ho:s.heap.get? a=some o):Inv X pins σ (upd H a (.frz o (.dK kvs))) s:=by
 have mu:Mut (H a):=by rw [e];trivial
 exact I.un (t':=s.toks) (Un.write mu (.inl rfl) (λb u _ q=>q) ⟨o,ho⟩) (HOk.write I.hok mu (.inl rfl) (λb u _ q=>q) ⟨o,ho⟩ ⟨ho,I.hok a _ e⟩)
theorem Jrn {a:Addr} {o:Obj} {kvs:List (Key×V)} (I:Inv X pins σ H s) (ea:H a=some (.frz o (.dK kvs))):
  kvs.length<=sizeLine/\(a==sysModules)=false/\∃vs es ep,KV kvs vs/\o.data= .dict es ep/\s.heap.DictAt (Jjm X.prog X.w) a vs ep:=by
 obtain ⟨e1,z,hd,vs,rel,o',es,ep,e2,x,d,r⟩:=(show ObjOk X.prog X.w H s.heap a (.frz o (.dK kvs)) from I.hok a _ ea)
 rw [e1] at e2;cases e2
 exact ⟨z,hd,vs,es,ep,rel,d,o,es,e1,x,d,r⟩
end
def Itv (a:Addr) (o:Obj) (kvs:List (Key×V)):It:=
 ⟨λi H=>H a=some (.frz o (.dK kvs))/\i < kvs.length,λi H x H'=>H'=H/\∃k,kvs[i]?=some (k,x),λi H=>H a=some (.frz o (.dK kvs))/\kvs.length<=i⟩
def VSt (it a:Addr) (o:Obj) (n i:Nat) (h:Heap):Prop:=∃es ep,o.data= .dict es ep/\h.IsValIter it a i n ep
theorem Y8 {P:Program} {w:World} {K:PySem.W.Frag} {tg:Expr} (a it:Addr) (o:Obj) (kvs:List (Key×V)):Jq7 P w K tg (Itv a o kvs) [it] it (VSt it a o kvs.length) where
 mem:=by simp
 obj:=λi h st b hb=>by
  have e:b=it:=by simpa using hb
  subst e
  obtain ⟨es,ep,_,o',e,c,d⟩:=st
  exact ⟨o',e,λv z=>by rw [d] at z;cases z⟩
 keep:=λi h h' st k=>by
  obtain ⟨es,ep,q,o',e,c,d⟩:=st
  exact ⟨es,ep,q,o',k it (by simp) o' e,c,d⟩
 item:=by
  intro X hP hw hK hc i pins s σ H E I hf st hg
  subst hP hw hK
  obtain ⟨ea,hi⟩:=hg
  obtain ⟨es,ep,ed,st⟩:=st
  obtain ⟨_,_,vs,es',ep',rel,ed',da⟩:=Jrn I ea
  rw [ed] at ed';cases ed'
  have hl:=rel.length
  have hx:kvs[i]?=some (kvs[i].1,kvs[i].2):=by simp [hi]
  obtain ⟨u,hu,ru⟩:=rel.get hx
  obtain ⟨f0,f1,f2,f3,f4,f5⟩:=hf it (by simp)
  rw [hl] at st
  refine wpAny_pyNext_values_item st da hu λh' st' sb=>?_
  have I1:Inv X pins σ H {s with heap:=h'}:=I.turned (t':=s.toks) (λb o hb e=>(sb.2 b hb).trans e) f0 f1 f3 f4 f5
  obtain ⟨o',e,c,d⟩:=id st'
  exact ⟨u,rfl,Jvw (s:={s with heap:=h'}) e c d (by decide) ⟨_,H,I1,ru,⟨rfl,_,hx⟩,⟨es,ep,ed,by rw [hl];exact st'⟩,λb hb=>(hf b hb).1⟩⟩
 done:=by
  intro X hP hw hK hc i pins s σ H E I hf st hg
  subst hP hw hK
  obtain ⟨ea,hi⟩:=hg
  obtain ⟨es,ep,ed,st⟩:=st
  obtain ⟨_,_,vs,es',ep',rel,ed',da⟩:=Jrn I ea
  rw [ed] at ed';cases ed'
  have hl:=rel.length
  obtain ⟨f0,f1,f2,f3,f4,f5⟩:=hf it (by simp)
  rw [hl] at st
  exact wpAny_pyNext_values_end (I.ok.hd hc) st da (by simp;omega) λh' eb=>⟨rfl,I.turned (t':=s.toks) (λb o hb e=>eb b o hb e) f0 f1 f3 f4 f5⟩
 self:=λ_ _ _ _ _ st h=>let ⟨_,_,_,q⟩:=st;wpAny_pyIter_valiter q h
def iVals (td:TE):TI:=λσ H R=>td σ H λx H1=>∃a o kvs,x= .ref a/\H1 a=some (.frz o (.dK kvs))/\R (Itv a o kvs) H1
theorem Ycs {X:Cx} {tg o:Expr} {td:TE} {apos cpos:Pos} (ho:PE X o td) (hbase:attributeBase o "values" X.env (eval o X.env)=eval o X.env:=by rfl) (hline:(apos.endLine==cpos.line)=true:=by rfl):
  PI X tg (.Call (.Attribute o "values" apos) [] [] cpos) (iVals td):=by
 intro pins s σ H R I h
 refine wpAny_Call_method0_late hbase hline (thn (ho pins s σ H _ I h) λv s1 zq=>?_)
 obtain ⟨x,H1,I1,r1,q1⟩:=zq
 obtain ⟨a,ob,kvs,rfl,ea,q⟩:=q1
 obtain rfl:v=Value.ref a:=r1
 obtain ⟨t1,t2,_⟩:=Jx6 I1 (.inl ⟨kvs,.inr ⟨ob,ea⟩⟩)
 refine ⟨"dict","dict.values",PySem.F.plainAttrs_dict,PySem.F.slot_dict_values,PySem.F.type_dict_values,t1,t2,Calls.callWith_builtin rfl (PySem.evalArgs_none ?_)⟩
 obtain ⟨z,hd,vs,es,ep,rel,ed,da⟩:=Jrn I1 ea
 refine call_meetsIn PySem.F.slot_dict_values da.dictOf.typeIs PySem.F.entry_dict_values (PySem.F.args_dict_values_1 _) (meets_dict_values (Jjm X.prog X.w) a hd) ⟨⟨vs,da.dictOf⟩,?_⟩
 refine wpAny_pyIter_values (knd:=Jjm X.prog X.w) (d:=a) (kvs:=vs) (ep:=ep) ⟨_,yo _ rfl,rfl,rfl⟩ (da.keep λb o e=>yi _ e) ?_
 refine ⟨_,[_],_,_,H1,rfl,I1.kept (t':=s1.toks) λb o e=>yi _ (yi _ e),Y8 a _ ob kvs,⟨es,ep,ed,_,yo _ rfl,rfl,by rw [rel.length];rfl⟩,λb hb=>?_,q⟩
 have le:s1.heap.objs.size<=b:=by
  rw [ybe.mp hb]
  simp [Heap.push]
 exact I1.fpOk le (I1.hok.fresh le)
def Iti (a:Addr) (o:Obj) (kvs:List (Key×V)):It:=
 ⟨λi H=>H a=some (.frz o (.dK kvs))/\i < kvs.length,λi H x H'=>∃T k u,H T=none/\x= .ref T/\kvs[i]?=some (k,u)/\H'=upd H T (.tup [kV k,u]),λi H=>H a=some (.frz o (.dK kvs))/\kvs.length<=i⟩
def ISt (it a:Addr) (o:Obj) (n i:Nat) (h:Heap):Prop:=∃es ep,o.data= .dict es ep/\∃ok ov,IsItemIter h it a i n ep ok ov
theorem Jy5 {P:Program} {w:World} {K:PySem.W.Frag} {elts:List Expr} {kt:Nat} {pt:Pos} (a it:Addr) (o:Obj) (kvs:List (Key×V)):Jq7 P w K (.Tuple elts kt pt) (Iti a o kvs) [it] it (ISt it a o kvs.length) where
 mem:=by simp
 obj:=λi h st b hb=>by
  have e:b=it:=by simpa using hb
  subst e
  obtain ⟨es,ep,_,ok,ov,e⟩:=st
  exact ⟨_,e,λv z=>by cases z⟩
 keep:=λi h h' st k=>by
  obtain ⟨es,ep,q,ok,ov,e⟩:=st
  exact ⟨es,ep,q,ok,ov,k it (by simp) _ e⟩
 item:=by
  intro X hP hw hK hc i pins s σ H E I hf st hg
  subst hP hw hK
  obtain ⟨ea,hi⟩:=hg
  obtain ⟨es,ep,ed,ok,ov,st⟩:=st
  obtain ⟨_,_,vs,es',ep',rel,ed',da⟩:=Jrn I ea
  rw [ed] at ed';cases ed'
  have hl:=rel.length
  have hx:kvs[i]?=some (kvs[i].1,kvs[i].2):=by simp [hi]
  obtain ⟨u,hu,ru⟩:=rel.get hx
  rw [hl] at st
  refine wpAny_pyNext_items_item st da hu λkey h' hk st' tT sz kk=>?_
  refine ⟨_,rfl,wpAny_letOwnedTupleGo_items (s:={s with heap:=h'}) st' λh'' st'' sb=>?_⟩
  have ne:s.heap.objs.size≠it:=λw'=>absurd (yj st) (by rw [<-w'];exact yba _)
  have tT2:h''.get? s.heap.objs.size=some {cls:=.type "tuple",data:=.seq #[key,u]}:=(sb.2 _ ne).trans tT
  refine ⟨.ref s.heap.objs.size,upd H s.heap.objs.size (.tup [kV kvs[i].1,kvs[i].2]),I.turnTup (ch:=[it]) (t':=s.toks) hf (λc o hc q=>(sb.2 c (by simpa using hc)).trans (kk c o (by simpa using hc) q)) (yg _)
   ⟨(show 2<=sizeLine by decide),[key,u],.cons (Jxs hk) (.cons ru .nil),⟨_,tT2,rfl,_,rfl⟩⟩,rfl,⟨_,_,_,I.hok.fresh (yg _),rfl,hx,rfl⟩,⟨es,ep,ed,_,_,by rw [hl];exact st''⟩,λc hc=>?_⟩
  have e:c=it:=by simpa using hc
  subst e
  rw [Jjg (yk ne)]
  exact (hf c hc).1
 done:=by
  intro X hP hw hK hc i pins s σ H E I hf st hg
  subst hP hw hK
  obtain ⟨ea,hi⟩:=hg
  obtain ⟨es,ep,ed,ok,ov,st⟩:=st
  obtain ⟨_,_,vs,es',ep',rel,ed',da⟩:=Jrn I ea
  rw [ed] at ed';cases ed'
  have hl:=rel.length
  obtain ⟨f0,f1,f2,f3,f4,f5⟩:=hf it (by simp)
  rw [hl] at st
  exact wpAny_pyNext_items_end (I.ok.hd hc) st da (by simp;omega) λh' eb=>⟨rfl,I.turned (t':=s.toks) (λb o hb e=>eb b o hb e) f0 f1 f3 f4 f5⟩
 self:=λ_ _ _ _ _ st h=>let ⟨_,_,_,_,_,q⟩:=st;kcp_self q h
def iItems (td:TE):TI:=λσ H R=>td σ H λx H1=>∃a o kvs,x= .ref a/\H1 a=some (.frz o (.dK kvs))/\R (Iti a o kvs) H1
theorem Yas {X:Cx} {elts:List Expr} {kt:Nat} {pt:Pos} {o:Expr} {td:TE} {apos cpos:Pos} (ho:PE X o td) (hbase:attributeBase o "items" X.env (eval o X.env)=eval o X.env:=by rfl) (hline:(apos.endLine==cpos.line)=true:=by rfl):
  PI X (.Tuple elts kt pt) (.Call (.Attribute o "items" apos) [] [] cpos) (iItems td):=by
 intro pins s σ H R I h
 refine wpAny_Call_method0_late hbase hline (thn (ho pins s σ H _ I h) λv s1 zq=>?_)
 obtain ⟨x,H1,I1,r1,q1⟩:=zq
 obtain ⟨a,ob,kvs,rfl,ea,q⟩:=q1
 obtain rfl:v=Value.ref a:=r1
 obtain ⟨t1,t2,_⟩:=Jx6 I1 (.inl ⟨kvs,.inr ⟨ob,ea⟩⟩)
 refine ⟨"dict","dict.items",PySem.F.plainAttrs_dict,PySem.F.slot_dict_items,PySem.F.type_dict_items,t1,t2,Calls.callWith_builtin rfl (PySem.evalArgs_none ?_)⟩
 obtain ⟨z,hd,vs,es,ep,rel,ed,da⟩:=Jrn I1 ea
 refine call_meetsIn PySem.F.slot_dict_items da.dictOf.typeIs PySem.F.entry_dict_items (PySem.F.args_dict_items_1 _) (meets_dict_items (Jjm X.prog X.w) a hd) ⟨⟨vs,da.dictOf⟩,?_⟩
 refine wpAny_pyIter_items (knd:=Jjm X.prog X.w) (d:=a) (kvs:=vs) (ep:=ep) ⟨_,yo _ rfl,rfl,rfl⟩ (da.keep λb o e=>yi _ e) ?_
 refine ⟨_,[_],_,_,H1,rfl,I1.kept (t':=s1.toks) λb o e=>yi _ (yi _ e),Jy5 a _ ob kvs,⟨es,ep,ed,.none,.none,by rw [rel.length];exact yo _ rfl⟩,λb hb=>?_,q⟩
 have le:s1.heap.objs.size<=b:=by
  rw [ybe.mp hb]
  simp [Heap.push]
 exact I1.fpOk le (I1.hok.fresh le)
section
variable {g:TG} {tt:TT} {te:TE} {H:Hp} {D:Addr} {σ:St} {R:Hp->Prop}
theorem Jzb {a:Addr} {o:Obj} {kvs:List (Key×V)} (Pv:Nat->St->Hp->Prop) (h0:Pv 0 σ H) (hl:∀i σ H,i<=kvs.length->Pv i σ H->H a=some (.frz o (.dK kvs)))
  (hs:∀i k x σ H,kvs[i]?=some (k,x)->Pv i σ H->g x σ H λσ3 H3=>tt σ3 H3 λb H4=>if b=true then te σ3 H4 (λv H5=>∃ys,H5 D=some (.lst ys)/\ys.length < sizeLine/\Pv (i+1) σ3 (upd H5 D (.lst (ys++ [v])))) else Pv (i+1) σ3 H4)
  (hd:∀σ H,Pv kvs.length σ H->R H):
  ∃W:Nat->Nat->St->Hp->Prop,(∃m,W 0 m σ H)/\∀i m σ' H',W i m σ' H'->((Itv a o kvs).stop i H'/\R H')\/((Itv a o kvs).go i H'/\∃N:St->Hp->Prop,(∀σ2 H2,N σ2 H2->∃m',m' < m/\W (i+1) m' σ2 H2)/\
   ∀x H2,(Itv a o kvs).yld i H' x H2->g x σ' H2 λσ3 H3=>tt σ3 H3 λb H4=>if b=true then te σ3 H4 (λv H5=>∃ys,H5 D=some (.lst ys)/\ys.length < sizeLine/\N σ3 (upd H5 D (.lst (ys++ [v])))) else N σ3 H4):=by
 refine ⟨λi m σ H=>m=kvs.length - i/\i<=kvs.length/\Pv i σ H,⟨kvs.length,by simp,yal _,h0⟩,?_⟩
 rintro i m σ H ⟨rfl,hi,p⟩
 have q:=hl i σ H hi p
 by_cases hlt:i < kvs.length
 ·refine .inr ⟨⟨q,hlt⟩,Pv (i+1),λσ' H' p'=>⟨kvs.length - (i+1),by omega,rfl,hlt,p'⟩,λx H' y=>?_⟩
  obtain ⟨e,k,y⟩:=y
  subst e
  exact hs i k x σ _ y p
 ·have e:i=kvs.length:=by omega
  subst e
  exact .inl ⟨⟨q,yg _⟩,hd σ H p⟩
theorem Jx2 {a:Addr} {o:Obj} {kvs:List (Key×V)} (Pv:Nat->St->Hp->Prop) (h0:Pv 0 σ H) (hl:∀i σ H,i<=kvs.length->Pv i σ H->H a=some (.frz o (.dK kvs)))
  (hs:∀i k x σ H T,kvs[i]?=some (k,x)->Pv i σ H->H T=none->g (.ref T) σ (upd H T (.tup [kV k,x])) λσ3 H3=>tt σ3 H3 λb H4=>if b=true then te σ3 H4 (λv H5=>∃ys,H5 D=some (.lst ys)/\ys.length < sizeLine/\Pv (i+1) σ3 (upd H5 D (.lst (ys++ [v])))) else Pv (i+1) σ3 H4)
  (hd:∀σ H,Pv kvs.length σ H->R H):
  ∃W:Nat->Nat->St->Hp->Prop,(∃m,W 0 m σ H)/\∀i m σ' H',W i m σ' H'->((Iti a o kvs).stop i H'/\R H')\/((Iti a o kvs).go i H'/\∃N:St->Hp->Prop,(∀σ2 H2,N σ2 H2->∃m',m' < m/\W (i+1) m' σ2 H2)/\
   ∀x H2,(Iti a o kvs).yld i H' x H2->g x σ' H2 λσ3 H3=>tt σ3 H3 λb H4=>if b=true then te σ3 H4 (λv H5=>∃ys,H5 D=some (.lst ys)/\ys.length < sizeLine/\N σ3 (upd H5 D (.lst (ys++ [v])))) else N σ3 H4):=by
 refine ⟨λi m σ H=>m=kvs.length - i/\i<=kvs.length/\Pv i σ H,⟨kvs.length,by simp,yal _,h0⟩,?_⟩
 rintro i m σ H ⟨rfl,hi,p⟩
 have q:=hl i σ H hi p
 by_cases hlt:i < kvs.length
 ·refine .inr ⟨⟨q,hlt⟩,Pv (i+1),λσ' H' p'=>⟨kvs.length - (i+1),by omega,rfl,hlt,p'⟩,λx H' y=>?_⟩
  obtain ⟨T,k,u,hT,rfl,y,rfl⟩:=y
  exact hs i k u σ _ T y p hT
 ·have e:i=kvs.length:=by omega
  subst e
  exact .inl ⟨⟨q,yg _⟩,hd σ H p⟩
end
end L2
namespace L2
open PySem PySem.Spec PyProof.Rows PySem.W
theorem Juu:typeLookup (.type "list") "keys" =pure none:=by rw [typeLookup_type,builtinLookup_eq_fast];kernel_rfl
section
variable {prog:Program} {w:World} {A:Around} {E:Value->Shared->Prop} {s:Shared} {a:Addr} {its:Array Value} {n:Nat}
theorem Jrs {Q:Option Value->Shared->Prop} (hx:s.heap.get? a=some {cls:=.type "list",data:=.seq its n}) (hA:A.handled=none)
  (h:∀h' tk,(∀b o,s.heap.get? b=some o->h'.get? b=some o)->Q none {s with heap:=h',toks:=tk}):
  wpAny (model prog w) A (getAttr? (.ref a) "keys") Q E s:=by
 obtain ⟨hp,g,d,tk,os⟩:=s
 have hT:∀tk',(⟨hp,g,d,tk',os⟩:Shared).TypeIs (.ref a) "list" :=λ_=>⟨_,hx,rfl⟩
 have f1:=sub_AttributeError
 have f3:=PySem.F.slot_list_getattribute.lookup
 have f4:=PySem.F.slot_list_getattribute.bind (.ref a)
 have f5:=am_list_getattr_none
 unfold getAttr? getAttrBy? getAttrBy
 repeat (any_goals (first|assumption|exact hT _|((with_reducible show wpAny _ _ (call (Value.builtin "list.__getattribute__") _ _) _ _ _);refine call_meets PySem.F.slot_list_getattribute (hT _) am_entry_list_getattribute (PySem.F.args_list_getattribute_2 _ _) (meets_getattribute_miss_list a its n #[] "keys" _ Juu (by decide) (by size_fits)) ⟨hx,hA,λh' tk' e hx'=>?_⟩)|wp_step))
 obtain ⟨t',u',he⟩:=hx'.there
 show wpAny _ _ (getattributeRaised _ _ _ _ _ _ _) _ _ _
 unfold getattributeRaised
 repeat (any_goals (first|assumption|wp_step))
 exact h _ _ hx'.keeps
end
theorem Jtk:entryFor table "dict.update.loop" =some Builtin.«dict.update.loop»:=entryFor_of_tree (by kernel_rfl)
section
variable {prog:Program} {w:World} {K:Type} [DecidableEq K] {knd:KeyKind prog w K} {A:Around}
theorem Y6 {α:Type} {l:List α} {i:Nat} {x:α} (h:l[i]?=some x):l.take (i+1)=l.take i++ [x]:=by
 rw [yan,h];rfl
theorem Jvi {vs:List (K×Value)} {i:Nat} {k:K} {v:Value} (nd:(vs.map (·.1)).Nodup) (h:vs[i]?=some (k,v)):valueAt (vs.take i) k=none:=by
 unfold valueAt
 rw [List.find?_eq_none.mpr]
 ·rfl
 ·intro p hp
  obtain ⟨j,hj,rfl⟩:=List.mem_take_iff_getElem.mp hp
  simp only [decide_eq_true_eq]
  intro e
  have hi:=(yv.mp h).1
  have ev:vs[i]=(k,v):=(yv.mp h).2
  have q:=List.pairwise_iff_getElem.mp nd j i (by simp;omega) (by simp;omega) (by omega)
  exact q (by simp [e,ev])
theorem dul {s₀:Shared} {its:Array Value} {L n it:Addr} {vs:List (K×Value)} {R:Result->Shared->Prop} (hh:A.handled=none) (nd:(vs.map (·.1)).Nodup) (hz:vs.length<=sizeLine) (hi:its.size=vs.length) (hL:s₀.heap.IsList L its)
  (hp:∀(i:Nat) (k:K) (v:Value),vs[i]?=some (k,v)->∃T key o m,its[i]?=some (Value.ref T)/\s₀.heap.get? T=some o/\o.cls= .type "tuple" /\o.data= .seq #[key,v] m/\knd.is k key=true)
  (hn:s₀.heap.objs.size<=n) (hit:s₀.heap.objs.size<=it) (ne:n≠it)
  (hR:∀h' tk,(∀b o,s₀.heap.get? b=some o->h'.get? b=some o)->h'.DictOf knd n vs->R (.ok (.ret .none)) {s₀ with heap:=h',toks:=tk}):
  ∀(j i:Nat) (h:Heap) (tk:Nat),i+j=vs.length->(∀b o,s₀.heap.get? b=some o->h.get? b=some o)->h.DictOf knd n (vs.take i)->h.IsListIter it L i->
   codeAny (model prog w) A (.builtin "dict.update.loop" ⟨[.ref n,.ref it,rawInt i,.none],[]⟩) R {s₀ with heap:=h,toks:=tk}:=by
 intro j
 induction j with
 |zero=>
  intro i h tk e keep hd st
  have ei:i=vs.length:=by omega
  subst ei
  rw [List.take_length] at hd
  refine codeAny_builtin Jtk ?_
  unfold Builtin.«dict.update.loop»
  refine wpAny_bind (wpAny_pyNext_list_end (s:={s₀ with heap:=h,toks:=tk}) hh st (items:=its) ?_ (by simp;omega) λh' eb=>?_)
  ·obtain ⟨o,q,r⟩:=hL
   exact ⟨o,keep _ _ q,r⟩
  ·show wpAny _ _ (Builtin.Dict.addKeywords n [] >>=λ_=>ret .none) _ _ _
   refine wpAny_bind (wpAny_pure (wpAny_pure ?_))
   have kk:∀b o,s₀.heap.get? b=some o->h'.get? b=some o:=λb o q=>eb b o (λz=>absurd (yj q) (by rw [z];exact yas.mpr hit)) (keep b o q)
   exact hR h' tk kk (hd.extBut eb ne)
 |succ j ih=>
  intro i h tk e keep hd st
  refine codeAny_builtin Jtk ?_
  unfold Builtin.«dict.update.loop»
  have hi':i < vs.length:=by omega
  have hx:vs[i]?=some (vs[i].1,vs[i].2):=by simp [hi']
  obtain ⟨T,key,o,m,hT,ho,hc,hdt,hk⟩:=hp i _ _ hx
  have kT:∀b o,s₀.heap.get? b=some o->b≠it:=λb o q z=>absurd (yj q) (by rw [z];exact yas.mpr hit)
  refine wpAny_bind (wpAny_pyNext_list_item (s:={s₀ with heap:=h,toks:=tk}) st (items:=its) ?_ hT λh' st' sb=>?_)
  ·obtain ⟨o,q,r⟩:=hL
   exact ⟨o,keep _ _ q,r⟩
  have keep1:∀b o,s₀.heap.get? b=some o->h'.get? b=some o:=λb o q=>(sb.2 b (kT b o q)).trans (keep b o q)
  have tyT:Shared.TypeIs {s₀ with heap:=h',toks:=tk} (.ref T) "tuple" :=⟨o,keep1 _ _ ho,hc⟩
  refine wpAny_bind (wpAny_holding (wpAny_bind (wpAny_tryCatch ?_)))
  unfold Builtin.Dict.pairItems
  refine wpAny_bind (wpAny_typeOf tyT ?_)
  rw [if_pos (by decide)]
  refine wpAny_bind (wpAny_seqItems (keep1 _ _ ho) hdt (wpAny_pure ?_))
  show wpAny _ _ (holding [key,vs[i].2] (dictSet n key vs[i].2)) _ _ _
  refine wpAny_holding (wpAny_dictSet_pairs (s:={s₀ with heap:=h',toks:=tk}) hk (hd.sameBut sb ne) (hsz:=by rw [yaf];omega) λh2 hd2 sb2=>?_)
  refine wpAny_pure ⟨Code.quiet_builtin _ (by decide +kernel),?_⟩
  rw [stored_absent (Jvi nd hx),<-Y6 hx] at hd2
  refine ih (i+1) h2 (tk+1) (by omega) (λb o q=>(sb2.2 b (λz=>absurd (yj q) (by rw [z];exact yas.mpr hn))).trans (keep1 b o q)) hd2 ?_
  obtain ⟨o',q,r⟩:=st'
  exact ⟨o',(sb2.2 it (yk ne)).trans q,r⟩
end
def Jub (H:Hp):List V->List (Key×V)->Prop:=Paired λx p=>∃T,x= .ref T/\H T=some (.tup [kV p.1,p.2])
theorem Joz {X:Cx} (hc:X.calm=true):Jle X (.type "dict") (λxs H Q=>∃L ts kvs,xs= [V.ref L]/\H L=some (.lst ts)/\Jub H ts kvs/\kvs.length<=1000/\(kvs.map (·.1)).Nodup/\
  ∀p o,H p=none->Q (.ref p) (upd H p (.frz o (.dK kvs)))):=by
 intro pins s σ H xs us Q I r h
 obtain ⟨L,ts,kvs,rfl,eL,pr,z,nd,q⟩:=h
 obtain ⟨u,rfl,r2⟩:=Jm0 r
 obtain rfl:u=Value.ref L:=r2
 obtain ⟨zL,its,m,rv,hL⟩:=(show ObjOk X.prog X.w H s.heap L (.lst ts) from I.hok L _ eL)
 have szL:(1000:Nat)<=sizeLine:=by rw [sizeLine_eq];decide
 have ex:∃vs:List (Key×Value),KV kvs vs/\∀(i:Nat) (k:Key) (v:Value),vs[i]?=some (k,v)->∃T key o m,its.toArray[i]?=some (Value.ref T)/\s.heap.get? T=some o/\o.cls= .type "tuple" /\o.data= .seq #[key,v] m/\(Jjm X.prog X.w).is k key=true:=by
  have one:∀(x:V) (p:Key×V),(∃T,x= .ref T/\H T=some (.tup [kV p.1,p.2]))->∀w',RelV x w'->∃v:Value,RelV p.2 v/\∃T key o m,w'=Value.ref T/\s.heap.get? T=some o/\o.cls= .type "tuple" /\o.data= .seq #[key,v] m/\(Jjm X.prog X.w).is p.1 key=true:=by
   rintro x p ⟨T,rfl,eT⟩ w' rw'
   obtain rfl:w'=Value.ref T:=rw'
   obtain ⟨_,jts,rj,o,e1,e2,m,e3⟩:=(show ObjOk X.prog X.w H s.heap T (.tup _) from I.hok T _ eT)
   cases rj with
   | @cons _ key _ _ k1 rj=>
    cases rj with
    | @cons _ v _ _ k2 rj=>
     cases rj
     exact ⟨v,k2,T,key,o,m,rfl,e1,e2,e3,Jvy k1⟩
  clear hL eL r z nd q zL
  induction pr generalizing its with
  |nil=>cases rv;exact ⟨[],.nil,λi k v e=>by simp at e⟩
  | @cons x p l1 l2 hx t ih=>
   cases rv with
   | @cons _ w' _ its' k1 k2=>
    obtain ⟨vs,a1,a2⟩:=ih _ k2
    obtain ⟨v,b1,T,key,o,m,b2,b3⟩:=one x p hx w' k1
    refine ⟨(p.1,v)::vs,.cons ⟨rfl,b1⟩ a1,λi k v' e=>?_⟩
    cases i with
    |zero=>
     simp at e
     obtain ⟨rfl,rfl⟩:=e
     exact ⟨T,key,o,m,by simp [b2],b3⟩
    |succ j=>
     obtain ⟨T,key,o,m,c1,c2⟩:=a2 j k v' (by simpa using e)
     exact ⟨T,key,o,m,by simpa using c1,c2⟩
 obtain ⟨vs,rel,hp⟩:=ex
 have el:its.toArray.size=vs.length:=by
  have e1:=rv.length
  have e2:=Paired.length pr
  have e3:=rel.length
  simp;omega
 have ndv:(vs.map (·.1)).Nodup:=by
  have e:∀{a:List (Key×V)} {b:List (Key×Value)},KV a b->a.map (·.1)=b.map (·.1):=by
   intro a b h
   induction h with
   |nil=>rfl
   |cons h t ih=>rw [ybb,ybb,ih,h.1]
  rw [<-e rel];exact nd
 refine callType_codes (Q₁:=λobj s₁=>obj= .ref s.heap.objs.size/\s₁={s with heap:=s.heap.push {cls:=.type "dict",data:=.dict #[]}}) PySem.F.kt_called_dict (PySem.F.kt_typeCall_dict_1 _) PySem.F.entry_dict_init (kt_code_dict_new _ ⟨rfl,rfl⟩) ?_
 rintro obj s₁ ⟨rfl,rfl⟩
 have hnew:(s.heap.push {cls:=.type "dict",data:=.dict #[]}).DictOf (Jjm X.prog X.w) s.heap.objs.size []:=Heap.DictOf.new s.heap
 have hL1:(s.heap.push {cls:=.type "dict",data:=.dict #[]}).get? L=some {cls:=.type "list",data:=.seq its.toArray m}:=yi _ hL
 refine ⟨hnew.typeIs,PySem.F.args_dict_init_2 _ _,?_⟩
 unfold Builtin.«dict.__init__»
 refine wpAny_bind ?_
 unfold Builtin.Dict.selfAndRest
 refine wpAny_bind (wpAny_notOrdered_dict hnew.typeIs ?_)
 show wpAny _ _ (pure (s.heap.objs.size,[Value.ref L])) _ _ _
 refine wpAny_pure ?_
 show wpAny _ _ (Builtin.Dict.updateFrom "dict.__init__" s.heap.objs.size (.ref L) [] .none) _ _ _
 unfold Builtin.Dict.updateFrom
 refine wpAny_bind (wpAny_typeOf (T:="list") ⟨_,hL1,rfl⟩ ?_)
 rw [if_pos (by decide)]
 refine wpAny_bind (Jrs hL1 (I.ok.hd hc) λh1 tk1 kp1=>?_)
 show wpAny _ _ (rule _ >>=_) _ _ _
 refine wpAny_bind (wpAny_rule ?_)
 have hL2:h1.IsList L its.toArray:=⟨_,kp1 _ _ hL1,rfl,_,rfl⟩
 refine wpAny_bind (wpAny_pyIter_list hL2 ?_)
 refine wpAny_pure ⟨Code.quiet_builtin _ (by decide +kernel),?_⟩
 have sz1:s.heap.objs.size < h1.objs.size:=yj (kp1 s.heap.objs.size _ (yo _ rfl))
 refine dul (A:=X.A.in1) (s₀:=s) (its:=its.toArray) (L:=L) (n:=s.heap.objs.size) (it:=h1.objs.size) (vs:=vs) (knd:=Jjm X.prog X.w) (I.ok.hd hc) ndv (by have:=rel.length;omega) el ⟨_,hL,rfl,_,rfl⟩ hp (yg _) (yap sz1) (yq sz1) (λh' tk kp dd=>?_) vs.length 0 (h1.push {cls:=.type "list_iterator",data:=.fields #[.ref L,.int 0 0]}) tk1 (Nat.zero_add _)
  (λb o e=>yi _ (kp1 b o (yi _ e))) ?_ ?_
 ·refine ⟨rfl,?_⟩
  have I2:Inv X pins σ (upd H s.heap.objs.size (.dK kvs)) {s with heap:=h',toks:=tk}:=I.laid (a:=s.heap.objs.size) (o:=.dK kvs) (t':=tk) kp (yg _) (dk_new (by omega) (beq_eq_false_iff_ne.mpr (yk (yq I.big))) rel dd)
  obtain ⟨o,es,ep,e,_⟩:=id dd
  have I3:=I2.frz (Jj9 ..) e
  refine ⟨.ref s.heap.objs.size,_,I3,rfl,?_⟩
  have eu:upd (upd H s.heap.objs.size (.dK kvs)) s.heap.objs.size (.frz o (.dK kvs))=upd H s.heap.objs.size (.frz o (.dK kvs)):=by
   funext b
   unfold upd
   split <;> rfl
  rw [eu]
  exact q _ o (I.hok.fresh (yg _))
 ·obtain ⟨o,es,ep,e,r⟩:=hnew
  exact ⟨o,es,ep,yi _ (kp1 _ _ e),r⟩
 ·exact ⟨_,yo _ rfl,rfl,rfl⟩
end L2
namespace L2
open PySem PySem.Spec PyProof.Rows PySem.W
def rAny (K:PySem.W.Frag):List V->Hp->VK->Prop:=λxs H Q=>∃(a:Addr) (bs:List Bool),xs= [.ref a]/\SqL K H a (bs.map V.bl)/\Q (.bl (bs.any id)) H
theorem Yq {X:Cx} {K:PySem.W.Frag} (hK:X.K=K) (hc:X.calm=true):Jle X (.builtin "any") (rAny K):=by
 subst hK
 intro pins s σ H xs us Q I r h
 obtain ⟨a,bs,rfl,hq,q⟩:=h
 obtain ⟨u,rfl,ru⟩:=Jm0 r
 cases ru
 obtain ⟨its,rv,pl,hz⟩:=I.list hq
 have hlen:=rv.length
 refine call_any_walk (wpAny_pyIter_list pl.isList ⟨s.heap.objs.size,[s.heap.objs.size,a],[s.heap.objs.size],its.toArray.size,_,_,λi=>bs.getD i false,rfl,Walks.list (prog:=X.prog) (w:=X.w) (A:=X.A.in1) (show X.A.in1.handled=none from I.ok.hd hc) s.heap.objs.size a ?_ its.toArray,⟨⟨_,yo _ rfl,rfl,rfl⟩,pl.isList.at λo e=>yi _ e⟩,?_,λh' tk k=>?_⟩)
 ·obtain ⟨o,_,e,_⟩:=pl
  exact yq (yj e)
 ·intro i v s' Q' E' hv hq'
  have hv':its[i]?=some v:=by simpa using hv
  have hi:i < its.length:=(yv.mp hv').1
  have hb:i < bs.length:=by rw [yf] at hlen;omega
  obtain ⟨u',hu',ru'⟩:=rv.get (i:=i) (x:=V.bl bs[i]) (by rw [yp,yn hb];rfl)
  rw [hv'] at hu'
  cases hu'
  cases ru'
  refine wpAny_truthy_bool ?_
  have:bs.getD i false=bs[i]:=by rw [yao,yn hb];rfl
  rw [<-this]
  exact hq'
 ·have e:((yu its.toArray.size).any λi=>bs.getD i false)=bs.any id:=by
   have hl2:its.toArray.size=bs.length:=by rw [yf] at hlen;rw [yt];exact hlen.symm
   rw [hl2,ybi,List.any_eq_true,List.any_eq_true]
   constructor
   ·rintro ⟨i,hi,hh⟩
    have hi':=yaj.mp hi
    rw [yao,yn hi'] at hh
    exact ⟨_,ybn hi',hh⟩
   ·rintro ⟨b,hb,hh⟩
    obtain ⟨i,hi,rfl⟩:=ycl hb
    refine ⟨i,yaj.mpr hi,?_⟩
    rw [yao,yn hi]
    exact hh
  rw [e]
  exact ⟨.bl _,H,I.kept λb o e=>k b o (λz=>by
   have z':b=s.heap.objs.size:=by simpa using z
   exact absurd (yj e) (by rw [z'];exact yba _)) (yi _ e),rfl,q⟩
theorem Jz7 {X:Cx}:Jle X (.type "range") (λxs H Q=>∃i j,xs= [V.int i,V.int j]/\∀p,H p=none->Q (.ref p) (upd H p (.rng i j))):=by
 intro pins s σ H xs us Q I r h
 obtain ⟨i,j,rfl,q⟩:=h
 cases r with
 |cons r1 r=>
  cases r with
  |cons r2 r=>
   cases r
   obtain ⟨t1,rfl⟩:=r1
   obtain ⟨t2,rfl⟩:=r2
   refine call_range_2 ⟨.ref s.heap.objs.size,_,I.laid (a:=s.heap.objs.size) (o:=.rng i j) (λb o e=>yi _ e) (yg _) ⟨_,_,_,yo _ rfl⟩,rfl,q _ (I.hok.fresh (yg _))⟩
theorem Jz0 {xs:List V} {acc:Array Value} {n:Nat} {P:Nat->Value->Prop} (e:xs.length=n) (h:ItemsOf P acc n) (hP:∀(i:Nat) (v:Value),i < n->P i v->∃x,xs[i]?=some x/\RelV x v):Vals xs acc.toList:=by
 obtain ⟨h1,h2⟩:=h
 have go:∀(xs:List V) (l:List Value),xs.length=l.length->(∀(i:Nat) (v:Value),l[i]?=some v->∃x,xs[i]?=some x/\RelV x v)->Vals xs l:=by
  intro xs
  induction xs with
  |nil=>
   intro l e _
   cases l with
   |nil=>exact .nil
   |cons _ _=>simp at e
  |cons x xs ih=>
   intro l e hl
   cases l with
   |nil=>simp at e
   |cons v l=>
    obtain ⟨y,e1,r1⟩:=hl 0 v rfl
    simp at e1
    subst e1
    exact .cons r1 (ih l (by simpa using e) λi v' e'=>by simpa using hl (i+1) v' (by simpa using e'))
 refine go xs acc.toList (by simp only [ybg];exact e.trans h1.symm) λi v e'=>?_
 have e2:acc[i]?=some v:=by rw [<-Array.getElem?_toList];exact e'
 exact hP i v (by have:=(ybz.mp e2).1;omega) (h2 i v e2)
theorem Jsv {X:Cx} (hc:X.calm=true):Jle X (.type "list") (λxs H Q=>∃p i j,xs= [V.ref p]/\H p=some (.rng i j)/\ -1000<=i/\i<=1000/\ -1000<=j/\j<=1000/\
  ∀l,H l=none->Q (.ref l) (upd H l (.lst ((yu (j - i).toNat).map λk:Nat=>V.int (i+k))))):=by
 intro pins s σ H xs us Q I r h
 obtain ⟨p,i,j,rfl,hp,h1,h2,h3,h4,q⟩:=h
 obtain ⟨u,rfl,r2⟩:=Jm0 r
 obtain rfl:u=Value.ref p:=r2
 obtain ⟨t,u,v,e⟩:=(show ObjOk X.prog X.w H s.heap p (.rng i j) from I.hok p _ hp)
 refine call_list_range (n:=(j - i).toNat) (I.ok.hd hc) e (small_one (by omega) (by omega) (by omega) (by omega)) (by rw [rangeSize_one];split <;> omega) (by omega) λh' tk acc c kp hl hI=>?_
 have rv:Vals ((yu (j - i).toNat).map λk:Nat=>V.int (i+k)) acc.toList:=by
  refine Jz0 (n:=(j - i).toNat) (by simp) hI λk w' lt hw=>?_
  obtain ⟨t,rfl⟩:=hw
  exact ⟨.int (i+k),by simp [lt],t,by simp⟩
 refine ⟨.ref s.heap.objs.size,_,I.laid (a:=s.heap.objs.size) (o:=.lst _) (t':=tk) kp (yg _) ⟨?_,acc.toList,c,rv,by simpa using hl⟩,rfl,q _ (I.hok.fresh (yg _))⟩
 rw [sizeLine_eq,yf,ybf]
 omega
theorem Jul {X:Cx} (hc:X.calm=true):Jle X (.type "list") (λxs H Q=>∃p o kvs,xs= [V.ref p]/\H p=some (.frz o (.dK kvs))/\∀l,H l=none->Q (.ref l) (upd H l (.lst (kvs.map λkv=>kV kv.1)))):=by
 intro pins s σ H xs us Q I r h
 obtain ⟨p,o,kvs,rfl,hp,q⟩:=h
 obtain ⟨u,rfl,r2⟩:=Jm0 r
 obtain rfl:u=Value.ref p:=r2
 obtain ⟨z,hd,vs,es,ep,rel,ed,da⟩:=Jrn I hp
 refine kdl_call (kdl_dict (knd:=Jjm X.prog X.w) (kvs:=vs) (ep:=ep) hd) (I.ok.hd hc) da (by rw [<-rel.length];exact z) λh' tk acc c kp hl hI=>?_
 have rv:Vals (kvs.map λkv=>kV kv.1) acc.toList:=by
  refine Jz0 (n:=vs.length) (by rw [yf];exact rel.length) hI λk w' lt hw=>?_
  obtain ⟨key,x,e1,e2⟩:=hw
  have lk:k < kvs.length:=by rw [rel.length];exact lt
  obtain ⟨u,e3,_⟩:=rel.get (i:=k) (k:=kvs[k].1) (x:=kvs[k].2) (by simp [lk])
  rw [e1] at e3
  cases e3
  exact ⟨kV kvs[k].1,by simp [lk],Jxs e2⟩
 refine ⟨.ref s.heap.objs.size,_,I.laid (a:=s.heap.objs.size) (o:=.lst _) (t':=tk) kp (yg _) ⟨?_,acc.toList,c,rv,by simpa using hl⟩,rfl,q _ (I.hok.fresh (yg _))⟩
 rw [yf]
 exact z
end L2
namespace L2
open PySem PySem.Spec PyProof.Rows PySem.W
def Joy (xs:Array Nat):Prop:=∀i k,i < k->k < xs.size->xs.getD i 0 < xs.getD k 0
theorem Jys {xs:Array Nat} (h:Joy xs) {i k:Nat} (ik:i<=k) (hk:k < xs.size):xs.getD i 0<=xs.getD k 0:=by
 rcases Nat.lt_or_eq_of_le ik with q|q
 ·exact yap (h i k q hk)
 ·rw [q];exact yg _
theorem Ya6 {xs:Array Nat} {i:Nat} (h:i < xs.size) (a b:Nat):xs.getD i a=xs.getD i b:=by simp [ybo,h]
theorem Yj {xs:Array Nat} {j:Nat} (rs:Joy xs):∀(fuel lo hi:Nat),hi - lo<=fuel->lo<=hi->hi<=xs.size->(∀i,i < lo->xs.getD i 0 < j)->(∀i,hi<=i->i < xs.size->j<=xs.getD i 0)->
  SetTable.below.go xs j fuel lo hi<=xs.size/\(∀i,i < SetTable.below.go xs j fuel lo hi->xs.getD i 0 < j)/\∀i,SetTable.below.go xs j fuel lo hi<=i->i < xs.size->j<=xs.getD i 0:=by
 intro fuel
 induction fuel with
 |zero=>
  intro lo hi h1 h2 h3 h4 h5
  have e:lo=hi:=by omega
  subst e
  exact ⟨h3,h4,h5⟩
 |succ fuel ih=>
  intro lo hi h1 h2 h3 h4 h5
  unfold SetTable.below.go
  by_cases lt:lo < hi
  ·rw [if_pos lt]
   have hm:(lo+hi)/2 < xs.size:=by omega
   dsimp only
   rw [Ya6 hm j 0]
   by_cases c:xs.getD ((lo+hi)/2) 0 < j
   ·rw [if_pos c]
    refine ih ((lo+hi)/2+1) hi (by omega) (by omega) h3 (λi hi'=>?_) h5
    exact ycf (Jys rs (by omega) hm) c
   ·rw [if_neg c]
    refine ih lo ((lo+hi)/2) (by omega) (by omega) (by omega) h4 λi hi' hs=>?_
    exact yz (Nat.le_of_not_lt c) (Jys rs hi' hs)
  ·rw [if_neg lt]
   have e:lo=hi:=by omega
   subst e
   exact ⟨h3,h4,h5⟩
theorem Jpl {xs:Array Nat} (rs:Joy xs) (j:Nat):SetTable.below xs j<=xs.size/\(∀i,i < SetTable.below xs j->xs.getD i 0 < j)/\∀i,SetTable.below xs j<=i->i < xs.size->j<=xs.getD i 0:=
 Yj rs xs.size 0 xs.size (by omega) (by omega) (yg _) (λi h=>absurd h (Nat.not_lt_zero _)) λi h1 h2=>absurd h2 (yas.mpr h1)
theorem Jwx {xs:Array Nat} (rs:Joy xs) {i:Nat} (hi:i < xs.size):SetTable.below xs (xs.getD i 0+1)=i+1:=by
 obtain ⟨h1,h2,h3⟩:=Jpl rs (xs.getD i 0+1)
 generalize SetTable.below xs (xs.getD i 0+1)=k at*
 by_cases lt:k<=i
 ·have:=h3 i lt hi
  omega
 ·by_cases gt:i+1 < k
  ·have q:=h2 (i+1) gt
   have q2:=rs i (i+1) (ybq _) (by omega)
   omega
  ·omega
theorem Jwy {xs:Array Nat} (rs:Joy xs):SetTable.below xs 0=0:=by
 obtain ⟨h1,h2,h3⟩:=Jpl rs 0
 generalize SetTable.below xs 0=k at*
 by_cases lt:0 < k
 ·exact absurd (h2 0 lt) (Nat.not_lt_zero _)
 ·omega
theorem Jsx {α:Type} (xs:Array α) (p:Nat) (x:α) (hp:p<=xs.size):(SetTable.insertAt xs p x).toList=xs.toList.take p++x::xs.toList.drop p:=by
 unfold SetTable.insertAt
 simp [Array.toList_extract,yam]
theorem risA_iff {xs:Array Nat}:Joy xs↔xs.toList.Pairwise (· < ·):=by
 rw [List.pairwise_iff_getElem]
 constructor
 ·intro h i k hi hk ik
  have:=h i k ik (by simpa using hk)
  simp at hi hk
  simpa [ybo,hi,hk] using this
 ·intro h i k ik hk
  have hi:i < xs.size:=ybr ik hk
  have:=h i k (by simpa using hi) (by simpa using hk) ik
  simpa [ybo,hi,hk] using this
theorem Jzy {t:SetTable} {j:Nat} (rs:Joy t.place) (nj:j∉t.place.toList):Joy (t.put j).1.place:=by
 show Joy (SetTable.insertAt t.place (SetTable.below t.place j) j)
 obtain ⟨h1,h2,h3⟩:=Jpl rs j
 generalize SetTable.below t.place j=k at*
 rw [risA_iff,Jsx _ _ _ h1]
 have pw:=risA_iff.mp rs
 have get:∀x∈t.place.toList.take k,x < j:=λx hx=>by
  obtain ⟨i,hi,rfl⟩:=List.mem_take_iff_getElem.mp hx
  have lt:i < t.place.size:=by simp at hi;omega
  have:=h2 i (by omega)
  simpa [ybo,lt] using this
 have get2:∀x∈t.place.toList.drop k,j < x:=λx hx=>by
  obtain ⟨i,hi,rfl⟩:=List.mem_drop_iff_getElem.mp hx
  have lt:k+i < t.place.size:=by simp at hi;omega
  have:=h3 (k+i) (by omega) lt
  have e:t.place.getD (k+i) 0=t.place.toList[k+i]'(by simpa using lt):=by simp [ybo,lt]
  rw [e] at this
  refine Nat.lt_of_le_of_ne this λq=>nj ?_
  rw [q]
  exact ybn _
 rw [List.pairwise_append,List.pairwise_cons]
 refine ⟨pw.sublist (List.take_sublist _ _),⟨get2,pw.sublist (List.drop_sublist _ _)⟩,λa ha b hb=>?_⟩
 rcases ym.mp hb with rfl|hb
 ·exact get a ha
 ·exact ybr (get a ha) (get2 b hb)
theorem Yb6 {t:SetTable} {j:Nat} (rs:Joy t.place) (h:∀i,t.slot j≠ .live i):j∉t.place.toList:=λhm=>by
 obtain ⟨i,hi,e⟩:=ycl hm
 obtain ⟨h1,h2,h3⟩:=Jpl rs j
 have lt:i < t.place.size:=by simpa using hi
 have ei:t.place.getD i 0=j:=by simpa [ybo,lt] using e
 have ek:SetTable.below t.place j=i:=by
  rcases Nat.lt_trichotomy (SetTable.below t.place j) i with q|q|q
  ·have:=h3 _ (yg _) (ybr q lt)
   have:=rs _ i q lt
   omega
  ·exact q
  ·have:=h2 i q
   omega
 refine h i ?_
 unfold SetTable.slot
 dsimp only
 rw [ek,if_pos]
 have:t.place[i]?=some j:=by
  rw [ycg lt]
  simp [ybo,lt] at ei
  rw [ei]
 rw [this]
 simp
theorem Jop (t:SetTable) (p:SetTable.Probe):(t.advance p).dummy=p.dummy:=by
 unfold SetTable.advance
 split <;> rfl
theorem Yat {t:SetTable} {f:Nat->Int} {h:Int}:∀(fuel:Nat) (p:SetTable.Probe) (j:Nat) (d:Option Nat),(∀x,p.dummy=some x->t.slot x= .dummy)->SetTable.probe.go t f h fuel p=some (.empty j d)->
  t.slot j= .empty/\∀x,d=some x->t.slot x= .dummy:=by
 intro fuel
 induction fuel with
 |zero=>intro p j d _ e;simp [SetTable.probe.go] at e
 |succ fuel ih=>
  intro p j d hd e
  unfold SetTable.probe.go at e
  split at e
  ·rename_i es
   simp at e
   obtain ⟨rfl,rfl⟩:=e
   exact ⟨es,hd⟩
  ·rename_i es
   refine ih _ j d ?_ e
   intro x hx
   rw [Jop] at hx
   simp at hx
   rw [<-hx]
   exact es
  ·split at e
   ·simp at e
   ·refine ih _ j d ?_ e
    intro x hx
    rw [Jop] at hx
    exact hd x hx
theorem Ya5 {t:SetTable} {h:Int} {j:Nat} {b:Bool} (rs:Joy t.place) (e:t.freeSlot h=some (j,b)):j∉t.place.toList:=by
 unfold SetTable.freeSlot at e
 split at e
 ·rename_i jj d ep
  unfold SetTable.probe at ep
  obtain ⟨q1,q2⟩:=Yat _ _ _ _ (λx hx=>by simp [SetTable.probeStart] at hx) ep
  simp at e
  obtain ⟨e1,_⟩:=e
  refine Yb6 rs λi z=>?_
  cases d with
  |none=>
   simp at e1
   rw [<-e1,q1] at z
   cases z
  |some x=>
   simp at e1
   have:=q2 x rfl
   rw [<-e1,this] at z
   cases z
 ·simp at e
def Jon (b:Bool) (t:SetTable):Prop:=(t.plain=true->Joy t.place)/\t.led=b
theorem Jm7 {b:Bool} {t:SetTable} (n:Nat) (h:t.led=b):Jon b (t.standIn n):=⟨λz=>by simp [SetTable.standIn] at z,h⟩
theorem Jw0 {b:Bool} {t:SetTable} (es:Array (Int×Value)) (h:Int) (x:Value) (g:Jon b t):Jon b (layNew t es h x).2.1:=by
 unfold layNew
 split
 ·rename_i j wd e
  dsimp only
  unfold SetTable.orStandIn
  split
  ·exact ⟨λz=>Jzy (g.1 z) (Ya5 (g.1 z) e),g.2⟩
  ·exact Jm7 _ g.2
 ·exact Jm7 _ g.2
theorem Yac {α:Type} (f:Nat->Option α):∀l:List Nat,((l.filterMap λj=>(f j).map (j,·)).map (·.1)).Sublist l:=by
 intro l
 induction l with
 |nil=>exact List.Sublist.refl _
 |cons a l ih=>
  rw [ych]
  cases f a with
  |none=>exact ih.trans (List.sublist_cons_self _ _)
  |some y=>exact ih.cons₂ a
theorem Jxt {b:Bool} {t:SetTable} (es:Array (Int×Value)) (n:Nat) (g:Jon b t):Jon b (relayAll t es n).2.1:=by
 unfold relayAll
 split
 ·rename_i t' order e
  dsimp only
  split
  ·unfold SetTable.relaid SetTable.laid at e
   obtain ⟨owner,_,e⟩:=Option.bind_eq_some_iff.mp e
   simp only [Option.pure_def,yy.injEq,Prod.mk.injEq] at e
   obtain ⟨e1,_⟩:=e
   subst e1
   exact ⟨λ_=>risA_iff.mpr (List.pairwise_lt_range.sublist (Yac (λj=>owner.getD j none) _)),g.2⟩
  ·exact Jm7 _ g.2
 ·exact Jm7 _ g.2
end L2
namespace L2
open PySem PySem.Spec PyProof.Rows PySem.W
section
variable {prog:Program} {w:World} {K:Type} [DecidableEq K] {knd:KeyKind prog w K} {A:Around} {E:Value->Shared->Prop} {s:Shared} {b:Bool}
variable (knd) in
def Apart (l:List (Int×Value)):Prop:=l.Pairwise λe e'=>∀k,knd.is k e.2=true->knd.is k e'.2=true->False
theorem Apart.perm {l l':List (Int×Value)} (h:Apart knd l) (p:l'.Perm l):Apart knd l':=(p.pairwise_iff λ{x y} q k a b=>q k b a).mpr h
variable (knd) (b) in
def SetG (h:Heap) (a:Addr) (S:K->Bool) (n:Nat):Prop:=
 ∃o es ep t,h.get? a=some o/\o.ExactSet/\o.data= .set es ep t/\ElemsOf knd es.toList/\(∀k,S k=true↔∃e∈es.toList,knd.is k e.2=true)/\es.size < scanBound/\t.fits es.size=true/\es.size<=n/\Jon b t/\Apart knd es.toList
theorem Jwm {h:Heap} {a:Addr} {o:Obj} {es:Array (Int×Value)} {ep:Nat} {t:SetTable} (ho:h.get? a=some o) (hd:o.data= .set es ep t) (es':Array (Int×Value)) (t':SetTable):
  (h.update a (Obj.putSet es' t')).get? a=some {o with data:=.set es' (ep+1) t'}:=by
 have:=ybm (Obj.putSet es' t') ho (by rw [putSet_of es' t' hd];rfl)
 rw [putSet_of es' t' hd] at this
 exact this
theorem Ju4 {g:Bool->Sem Unit} (hg:∀(c:Bool) (s₁:Shared) (Q':Unit->Shared->Prop),Q' () s₁->wpAny (model prog w) A (g c) Q' E s₁)
  {a:Addr} {o:Obj} {es:Array (Int×Value)} {ep:Nat} {t:SetTable} (ho:s.heap.get? a=some o) (hex:o.ExactSet) (hd:o.data= .set es ep t)
  {es1:Array (Int×Value)} {t2:SetTable} {S':K->Bool} (hel1:ElemsOf knd es1.toList) (hmem1:∀k',S' k'=true↔∃e∈es1.toList,knd.is k' e.2=true)
  (hb1:es1.size < scanBound) (hf2:t2.fits es1.size=true) (hg2:Jon b t2) (hap:Apart knd es1.toList) {wasDummy:Bool} {R:Option Bool->Shared->Prop}
  (h:∀h',yai a s.heap h'->SetG knd b h' a S' es1.size->R (some true) {s with heap:=h'}):
  wpAny (model prog w) A (do
    storeSet a es1 t2
    if (!wasDummy&&t2.tooFull)=true then do
      g (relayAll t2 es1 (SetTable.grown es1.size)).2.2
      storeSet a (relayAll t2 es1 (SetTable.grown es1.size)).1 (relayAll t2 es1 (SetTable.grown es1.size)).2.1
      pure (some true)
     else pure (some true)) R E s:=by
 refine wpAny_bind (wpAny_storeSet_of ho hd ?_ (fits_of_scanBound hb1))
 have ho1:=Jwm ho hd es1 t2
 have hsb1:=yai.update s.heap a (Obj.putSet es1 t2)
 split
 ·have hp:=relayAll_perm t2 es1 (SetTable.grown es1.size)
  have hfr:=relayAll_fits t2 es1 (SetTable.grown es1.size)
  have hgr:=Jxt es1 (SetTable.grown es1.size) hg2
  generalize relayAll t2 es1 (SetTable.grown es1.size)=Rl at hp hfr hgr⊢
  obtain ⟨es2,t3,gave2⟩:=Rl
  dsimp only at hp hfr hgr⊢
  have hsz:es2.size=es1.size:=by rw [<-ybg,hp.length_eq,ybg]
  refine wpAny_bind (hg _ _ _ ?_)
  refine wpAny_bind (wpAny_storeSet_of ho1 rfl ?_ (fits_of_scanBound (by rw [hsz];exact hb1)))
  refine wpAny_pure (h _ (hsb1.trans (yai.update _ a _)) ?_)
  rw [<-hsz]
  exact ⟨_,es2,_,t3,Jwm ho1 rfl es2 t3,hex,rfl,hel1.perm hp,λk'=>(hmem1 k').trans ⟨λ⟨e,he,q⟩=>⟨e,hp.mem_iff.mpr he,q⟩,λ⟨e,he,q⟩=>⟨e,hp.mem_iff.mp he,q⟩⟩,by rw [hsz];exact hb1,hfr,yg _,hgr,hap.perm hp⟩
 ·exact wpAny_pure (h _ hsb1 ⟨_,es1,_,t2,ho1,hex,rfl,hel1,hmem1,hb1,hf2,yg _,hg2,hap⟩)
theorem Ya8 {t:SetTable} (g:Jon b t):Jon b {t with plain:=false}:=⟨λz=>(by cases z),g.2⟩
theorem SetG.le {h:Heap} {a:Addr} {S:K->Bool} {n m:Nat} (x:SetG knd b h a S n) (nm:n<=m):SetG knd b h a S m:=by
 obtain ⟨o,es,ep,t,h1,h2,h3,h4,h5,h6,h7,h8,h9⟩:=x
 exact ⟨o,es,ep,t,h1,h2,h3,h4,h5,h6,h7,yz h8 nm,h9⟩
theorem SetG.at {h h':Heap} {a:Addr} {S S':K->Bool} {n:Nat} (x:SetG knd b h a S n) (k:∀o,h.get? a=some o->h'.get? a=some o) (e:∀k,S k=S' k):SetG knd b h' a S' n:=by
 obtain rfl:S=S':=funext e
 obtain ⟨o,es,ep,t,h1,r⟩:=x
 exact ⟨o,es,ep,t,k o h1,r⟩
theorem Yb0 {a:Addr} {S:K->Bool} {n:Nat} {k:K} {x:Value} {Q:Bool->Shared->Prop} (hkey:knd.is k x=true) (hsc:x.scannable=true) (hS:SetG knd b s.heap a S n) (hroom:n+1 < scanBound)
  (h:∀h' c,yai a s.heap h'->SetG knd b h' a (λk'=>S k'||decide (k'=k)) (n+1)->Q c {s with heap:=h'}):wpAny (model prog w) A (setAddHashed a x (knd.hash k)) Q E s:=by
 obtain ⟨o,es,ep,t,ho,hex,hd,hel,hmem,hb,hf,hn,hG,hap⟩:=hS
 unfold setAddHashed setAddHashedIn
 refine wpAny_holding (wpAny_bind (wpAny_setState_of ho hd hf ?_))
 dsimp only
 rw [byScan_of hsc hb hel,if_pos rfl]
 unfold setAddByScan
 refine wpAny_bind (wpAny_bind (wpAny_rule (wpAny_bind (wpAny_setScan_of hkey ho hd hf hel ?_))))
 cases hr:List.findIdx? (λe=>knd.is k e.2) es.toList with
 |some j=>
  dsimp only
  obtain ⟨hj,hpj,_⟩:=List.findIdx?_eq_some_iff_getElem.mp hr
  have hSk:S k=true:=(hmem k).mpr ⟨es.toList[j],ybn hj,hpj⟩
  refine wpAny_pure (wpAny_pure ?_)
  have e:s={s with heap:=s.heap}:=by cases s;rfl
  rw [e]
  exact h s.heap _ (yai.refl a s.heap) ⟨o,es,ep,t,ho,hex,hd,hel,λk'=>by
   rw [Bool.or_eq_true,decide_eq_true_eq,<-hmem k']
   exact ⟨λhk=>hk.elim id (λe=>e▸hSk),.inl⟩,hb,hf,Nat.le_succ_of_le hn,hG,hap⟩
 |none=>
  dsimp only
  have none':∀e∈es.toList,knd.is k e.2=false:=λe he=>by simpa using List.findIdx?_eq_none_iff.mp hr e he
  have hgw:∀(c:Bool) (s₁:Shared) (Q':Unit->Shared->Prop),Q' () s₁->wpAny (model prog w) A (match c with|true=>rule "set.scan.the-table-gave-way" |false=>pure ()) Q' E s₁:=
   λc s₁ Q' hq=>by cases c <;> first|exact wpAny_pure hq|exact wpAny_rule hq
  have hperm:=layNew_perm t es (knd.hash k) x
  have hfits:=layNew_fits t es (knd.hash k) x
  have hgood:=Jw0 es (knd.hash k) x hG
  generalize layNew t es (knd.hash k) x=L at hperm hfits hgood⊢
  obtain ⟨es1,t1,wasDummy,gave⟩:=L
  dsimp only at hperm hfits hgood⊢
  rw [Array.toList_push] at hperm
  have hsz1:es1.size=es.size+1:=by rw [<-ybg,hperm.length_eq,yay,ybg];rfl
  have hel1:ElemsOf knd es1.toList:=(hel.push hkey hsc).perm hperm
  have hmem1:∀k',(S k'||decide (k'=k))=true↔∃e∈es1.toList,knd.is k' e.2=true:=mem_push_iff hkey hmem hperm
  have hap1:Apart knd es1.toList:=by
   refine Apart.perm ?_ hperm
   refine List.pairwise_append.mpr ⟨hap,List.pairwise_singleton _ _,λe he e' he' k' q1 q2=>?_⟩
   obtain rfl:e'=(knd.hash k,x):=by simpa using he'
   have ek:k'=k:=knd.inj x k' k q2 hkey
   rw [ek,none' e he] at q1
   cases q1
  refine wpAny_bind (hgw _ _ _ ?_)
  have hend:∀h',yai a s.heap h'->SetG knd b h' a (λk'=>S k'||decide (k'=k)) es1.size->Q true {s with heap:=h'}:=λh' hsb hS'=>h h' true hsb (hS'.le (by rw [hsz1];exact Nat.succ_le_succ hn))
  have hb1:es1.size < scanBound:=by rw [hsz1];omega
  split
  ·refine wpAny_bind ?_
   rw [hashByValue_scannable 8 hsc]
   refine wpAny_pure ?_
   refine Ju4 (b:=b) hgw ho hex hd hel1 hmem1 hb1 ?_ ?_ hap1 ?_
   ·split
    ·exact hfits
    ·exact SetTable.fits_plain_off hfits
   ·split
    ·exact hgood
    ·exact Ya8 hgood
   ·intro h' hsb hS'
    exact wpAny_pure (hend h' hsb hS')
  ·refine wpAny_bind (wpAny_pure ?_)
   rw [if_pos rfl]
   refine Ju4 (b:=b) hgw ho hex hd hel1 hmem1 hb1 hfits hgood hap1 ?_
   intro h' hsb hS'
   exact wpAny_pure (hend h' hsb hS')
end
end L2
namespace L2
open PySem PySem.Spec PyProof.Rows PySem.W
def Jmr (w:World):Bool:=!w.params.followText "set-order"
def inZ (ns:List Int):Key->Bool
 | .inl i=>ns.contains i
 | .inr _=>false
theorem Yab (zs:List Int) (z:Int) (k:Key):(inZ zs k||decide (k= .inl z))=inZ (zs++ [z]) k:=by
 cases k with
 |inr y=>simp [inZ]
 |inl y=>
  show (zs.contains y||decide ((.inl y:Key)= .inl z))=(zs++ [z]).contains y
  rw [ybi]
  simp [ycm]
section
variable {prog:Program} {w:World} {A:Around} {R:Result->Shared->Prop} {I:Addr} {fp wr:List Addr} {n:Nat} {P:Nat->Value->Prop} {St:Nat->Heap->Prop}
theorem Jzg (W:Walks prog w A.in1 I fp wr n P St) (S:Addr) (hSf:S∉fp) (zs:List Int) (hn:zs.length=n) (hP:∀i v,P i v->∃z t,zs[i]?=some z/\v= .int z t) (hb:n+1 < scanBound):
  ∀(k i:Nat) (s:Shared),n - i=k->i<=n->St i s.heap->SetG (Jjm prog w) (Jmr w) s.heap S (inZ (zs.take i)) i->
   (∀h' tk,(∀b o,b≠S->b∉wr->s.heap.get? b=some o->h'.get? b=some o)->SetG (Jjm prog w) (Jmr w) h' S (inZ zs) n->R (.ok (.ret .none)) {s with heap:=h',toks:=tk})->
   codeAny (model prog w) A (.builtin "set.update.loop" ⟨[.ref S,.ref I],[]⟩) R s:=by
 have hSw:S∉wr:=λh=>hSf (W.sub _ h)
 intro k
 induction k with
 |zero=>
  intro i s hk hi hst hS hR
  obtain rfl:i=n:=by omega
  refine codeAny_builtin PyProof.Rows.F.entry_set_update_loop ?_
  rw [Around.under_plainId PyProof.Rows.F.plain_set_update_loop _]
  refine wpAny_bind (W.done s _ _ hst λh' tk km=>?_)
  refine wpAny_pure (hR h' tk (λb o _ nb e=>km b o nb e) (hS.at (λo e=>km S o hSw e) λx=>?_))
  rw [yam (by omega)]
 |succ k ih=>
  intro i s hk hi hst hS hR
  have hlt:i < n:=by omega
  refine codeAny_builtin PyProof.Rows.F.entry_set_update_loop ?_
  rw [Around.under_plainId PyProof.Rows.F.plain_set_update_loop _]
  refine wpAny_bind (W.item i s _ _ hlt hst λv h1 tk hv hst1 km=>?_)
  obtain ⟨z,t,hz,rfl⟩:=hP i v hv
  have et:zs.take (i+1)=zs.take i++ [z]:=by rw [yan,hz];rfl
  have hS1:SetG (Jjm prog w) (Jmr w) h1 S (inZ (zs.take i)) i:=hS.at (λo e=>km S o hSw e) λ_=>rfl
  refine wpAny_bind (wpAny_holding ?_)
  unfold setAdd
  refine wpAny_holding (wpAny_bind ((Jjm prog w).pyHash (k:=.inl z) (Jnp _ _ _ _) ?_))
  refine Yb0 (knd:=Jjm prog w) (k:=.inl z) (Jnp _ _ _ _) rfl hS1 (by omega) λh2 _ sb hS2=>?_
  refine wpAny_pure ⟨plainId_quiet PyProof.Rows.F.plain_set_update_loop _,ih (i+1) _ (by omega) hlt (W.frame _ _ _ hst1 λb hbf o e=>?_) (hS2.at (λo e=>e) λx=>?_) λh3 tk3 k3 hS3=>?_⟩
  ·show h2.get? b=some o
   rw [sb.2 b (λq=>hSf (by rw [<-q];exact hbf))]
   exact e
  ·rw [et,Yab]
  ·exact hR h3 tk3 (λb o nS nw e=>k3 b o nS nw (by show h2.get? b=some o;rw [sb.2 b nS];exact km b o nw e)) hS3
end
section
variable {prog:Program} {w:World} {A:Around} {E:Value->Shared->Prop} {s:Shared}
theorem Yb4 (a:Value) {Q₁:Value->Shared->Prop} (h:Q₁ (.ref s.heap.objs.size) {s with heap:=s.heap.push {cls:=.type "set",dict:=none,data:=.set #[] 0 (.fresh 0 0 (Jmr w))}}):
  codeAny (model prog w) A (.call (.builtin "set.__new__") ⟨[.type "set",a],[]⟩) (wants Q₁ E) s:=by
 refine codeAny_of_tree ?_
 show wpAny _ A.in1 (do checkBuiltinCall "set.__new__" ⟨[.type "set",a],[]⟩;again (.builtin "set.__new__" ⟨[.type "set",a],[]⟩)) _ _ s
 refine wpAny_bind (wpAny_of_eq (F.newCall_set_1 a) (wpAny_pure ⟨plainId_quiet F.plain_set_new _,codeAny_builtin F.entry_set_new ?_⟩))
 rw [Around.under_plainId F.plain_set_new _]
 unfold Builtin.«set.__new__» Builtin.Frozenset.newClass
 have hsub:=sub_set_self
 obtain ⟨hp,g,d,tk,os⟩:=s
 dsimp only
 wp_walk
 refine wpAny_askSetting (wpAny_pure ?_)
 dsimp only
 simp only [newObj]
 exact wpAny_bind (wpAny_alloc (wpAny_pure (wpAny_pure h)))
end
section
variable {prog:Program} {w:World} {A:Around} {E:Value->Shared->Prop} {s:Shared}
set_option maxRecDepth 100000 in
set_option maxHeartbeats 3200000 in
theorem Yb2 {l:Addr} {items:Array Value} {zs:List Int} {Q:Value->Shared->Prop} (hh:A.handled=none) (hl:s.heap.IsList l items) (hz:zs.length=items.size) (hi:∀(i:Nat) (v:Value),items[i]?=some v->∃z t,zs[i]?=some z/\v= .int z t) (hb:items.size+1 < scanBound)
  (h:∀(h':Heap) (tk:Nat),SetG (Jjm prog w) (Jmr w) h' s.heap.objs.size (inZ zs) zs.length->(∀b o,s.heap.get? b=some o->h'.get? b=some o)->Q (.ref s.heap.objs.size) {s with heap:=h',toks:=tk}):wpAny (model prog w) A (call (.type "set") [.ref l]) Q E s:=by
 obtain ⟨cc,tl,hmro⟩:=F.called_set.mro
 have hmade:=F.called_set.made
 have hsub:=F.called_set.sub
 refine wpAny_call (codeAny_of_tree ?_)
 show wpAny _ _ (callAny (.type "set") _) _ _ _
 refine wpAny_pure ⟨Code.quiet_builtin _ (by decide +kernel),codeAny_builtin F.entry_type_call ?_⟩
 rw [Around.under_plain (weight_type_call_type "set" [.ref l] []) rfl]
 have g1:=F.called_set.notType
 have g2:=F.called_set.canCreate
 have g3:=F.typeCall_set_1 (.ref l)
 repeat (any_goals (first|assumption|wp_step))
 refine codeAny_mono (Yb4 (.ref l) (E:=E) (Q₁:=λobj s1=>obj= .ref s.heap.objs.size/\s1={s with heap:=s.heap.push {cls:=.type "set",dict:=none,data:=.set #[] 0 (.fresh 0 0 (Jmr w))}}) ⟨rfl,rfl⟩) λr s1 hr=>?_
 cases r with
 |error e=>exact hr
 |ok fl=>
  cases fl with
  |ret obj=>
   obtain ⟨rfl,rfl⟩:=hr
   have hS:(s.heap.push {cls:=.type "set",dict:=none,data:=.set #[] 0 (.fresh 0 0 (Jmr w))}).get? s.heap.objs.size=some {cls:=.type "set",dict:=none,data:=.set #[] 0 (.fresh 0 0 (Jmr w))}:=yo _ rfl
   have hT:Shared.TypeIs {s with heap:=s.heap.push {cls:=.type "set",dict:=none,data:=.set #[] 0 (.fresh 0 0 (Jmr w))}} (.ref s.heap.objs.size) "set" :=⟨_,hS,rfl⟩
   have g4:=F.called_set.init.lookup
   have g5:=F.called_set.init.bind (.ref s.heap.objs.size)
   repeat (any_goals (first|assumption|wp_step))
   refine codeAny_mono (codeAny_call_builtin (R:=wants (λr s2=>r= .none/\∃h' tk,s2={s with heap:=h',toks:=tk}/\SetG (Jjm prog w) (Jmr w) h' s.heap.objs.size (inZ zs) zs.length/\(∀b o,s.heap.get? b=some o->h'.get? b=some o)) E) F.called_set.init.plain F.entry_set_init (check_set_init_1 hT ?_)) λr2 s2 hr2=>?_
   ·obtain ⟨⟨oc,od,oda,osl⟩,hol,hcl,nl,hdl⟩:=hl
    simp only at hcl hdl
    subst hcl hdl
    have hol':(s.heap.push {cls:=.type "set",dict:=none,data:=.set #[] 0 (.fresh 0 0 (Jmr w))}).get? l=some {cls:=.type "list",dict:=od,data:=.seq items nl,slots:=osl}:=yi _ hol
    have g6:=F.sub_list_set
    have g7:=F.sub_list_frozenset
    have g8:(Value.type "list" ==Value.type "dict")=false:=by decide
    have hl1:(s.heap.push {cls:=.type "set",dict:=none,data:=.set #[] 0 (.fresh 0 0 (Jmr w))}).IsList l items:=⟨_,hol',rfl,nl,rfl⟩
    unfold Builtin.«set.__init__» noKeywords Builtin.Frozenset.updateFrom
    generalize hPI:pyIter=PI
    wp_walk
    subst hPI
    refine wpAny_pyIter_list hl1 (wpAny_bind (wpAny_runValue ?_))
    have lS:l < s.heap.objs.size:=yj hol
    have h3:A.in1.in1.in1.handled=none:=by simp [hh]
    have nI:l≠(s.heap.push {cls:=.type "set",dict:=none,data:=.set #[] 0 (.fresh 0 0 (Jmr w))}).objs.size:=by rw [yaa];exact yq (ybs lS)
    have nS:s.heap.objs.size∉ [(s.heap.push {cls:=.type "set",dict:=none,data:=.set #[] 0 (.fresh 0 0 (Jmr w))}).objs.size,l]:=by
     rw [yaa]
     simp only [ym,yr,or_false,not_or]
     exact ⟨yq (ybq _),yau lS⟩
    refine Jzg (Walks.list h3 _ l nI items) s.heap.objs.size nS zs hz hi hb (items.size - 0) 0 _ (by omega) (yal _) ⟨⟨_,yo _ rfl,rfl,rfl⟩,hl1.push _⟩ ?S0 ?R0
    case S0=>
     have q:((s.heap.push {cls:=.type "set",dict:=none,data:=.set #[] 0 (.fresh 0 0 (Jmr w))}).push {cls:=.type "list_iterator",data:=.fields #[.ref l,.int 0 0]}).get? s.heap.objs.size=some {cls:=.type "set",dict:=none,data:=.set #[] 0 (.fresh 0 0 (Jmr w))}:=yi _ hS
     refine ⟨_,#[],0,_,q,⟨rfl,rfl,rfl⟩,rfl,λe he=>by simp at he,λx=>?_,by decide,by rfl,yg _,⟨λ_ i k _ hk=>by simp [SetTable.fresh] at hk,rfl⟩,yby.nil⟩
     cases x <;> simp [inZ]
    case R0=>
     intro h' tk km hS'
     show wpAny _ _ _ _ _ _
     refine wpAny_pure ?_
     show wpAny _ _ (ret Value.none) _ _ _
     refine wpAny_pure ⟨rfl,h',tk,rfl,by rw [hz];exact hS',λb o e=>?_⟩
     have lb:b < s.heap.objs.size:=yj e
     refine km b o (yq lb) ?_ (yi _ (yi _ e))
     rw [yaa]
     simp only [ym,yr,or_false]
     exact yq (ybs lb)
   ·cases r2 with
    |error e=>exact hr2
    |ok fl2=>
     cases fl2 with
     |ret r=>
      obtain ⟨rfl,h',tk,rfl,hS',hk'⟩:=hr2
      repeat (any_goals (first|assumption|wp_step))
      exact h _ _ hS' hk'
     |_=>exact hr2.elim
  |_=>exact hr.elim
end
end L2
namespace L2
open PySem PySem.Spec PyProof.Rows PySem.W
theorem sit_slot_next:Slot "set_iterator" "__next__" "set_iterator.__next__" :=
 .of (owner:="set_iterator") (n:="__next__") (by rw [typeLookup_type,builtinLookup_eq_fast];kernel_rfl) (by decide +kernel) (by decide +kernel) (by decide +kernel)
  (by first|exact .inl (by decide +kernel)|exact .inr (by decide +kernel)) (by rw [isSubtype_type];kernel_rfl)
theorem Jlp:entryFor table "set_iterator.__next__" =some Builtin.«set_iterator.__next__»:=entryFor_of_tree (by kernel_rfl)
theorem Ju6:Manifest.owners.lookup (String.ofList ['r','o','t','a','r','e','t','i','_','t','e','s'].reverse)=some Manifest.sig_set_iterator:=by kernel_rfl
theorem Jlx (a:Value):argsOk "set_iterator.__next__" ⟨[a],[]⟩:=by
 unfold argsOk;rw [signature?_of (id:="set_iterator.__next__") (n:=['_','_','t','x','e','n','_','_']) (o:=['r','o','t','a','r','e','t','i','_','t','e','s']) (by kernel_rfl) Ju6];kernel_rfl
theorem Jsl:entryFor table "set.__iter__" =some Builtin.«frozenset.__iter__»:=
 entryFor_alias (id':="frozenset.__iter__") (by kernel_rfl) (by first|rfl|decide +kernel) (by decide +kernel) (by kernel_rfl)
section
variable {M:Model} {A:Around} {E:Value->Shared->Prop} {s:Shared}
theorem Jp0 {α:Type}:∀{l:List α} {i:Nat} (h:i < l.length),(l[i]::l.eraseIdx i).Perm l
 | [],_,h=>absurd h (Nat.not_lt_zero _)
 |_::_,0,_=>List.Perm.refl _
 |a::l,i+1,h=>by
  have ih:=Jp0 (l:=l) (i:=i) (by simpa using h)
  show (l[i]'(by simpa using h)::a::l.eraseIdx i).Perm (a::l)
  exact (List.Perm.swap _ _ _).trans (ih.cons a)
theorem Jx0 {src:Source} {n:Nat} {Q:Nat->Shared->Prop} (hn:n≠0) (h:∀i d,i < n->Q i {s with drawn:=d}):wpAny M A (choose src n) Q E s:=
 λ_ _ _=>⟨hn,h _ _ (Nat.mod_lt _ (Nat.pos_of_ne_zero hn))⟩
theorem Yx {α:Type}:∀(n:Nat) (xs:List α) (s:Shared) (Q:List α->Shared->Prop),xs.length=n->(∀ys d,ys.Perm xs->Q ys {s with drawn:=d})->wpAny M A (drawOrder n xs) Q E s:=by
 intro n
 induction n with
 |zero=>
  intro xs s Q e h
  have:xs= []:=List.length_eq_zero_iff.mp e
  subst this
  unfold drawOrder
  exact wpAny_pure (h [] s.drawn (List.Perm.refl _))
 |succ n ih=>
  intro xs s Q e h
  cases xs with
  |nil=>simp at e
  |cons x xs=>
   unfold drawOrder
   refine wpAny_bind (Jx0 (by simp) λi d hi=>?_)
   have ei:(x::xs)[i]?=some (x::xs)[i]:=yn hi
   rw [ei]
   refine wpAny_bind (ih ((x::xs).eraseIdx i) _ _ (by rw [List.length_eraseIdx_of_lt hi];omega) λys d2 p=>wpAny_pure ?_)
   exact h _ d2 ((p.cons _).trans (Jp0 hi))
end
theorem Yct {α:Type} (next:Nat->Nat):∀(fuel k:Nat) (left:List α) (out:Array α),left.length=fuel->(pickOrder.go next fuel k left out).toList.Perm (out.toList++left):=by
 intro fuel
 induction fuel with
 |zero=>
  intro k left out e
  have:left= []:=List.length_eq_zero_iff.mp e
  subst this
  unfold pickOrder.go
  simp
 |succ fuel ih=>
  intro k left out e
  unfold pickOrder.go
  have lt:next k%left.length < left.length:=Nat.mod_lt _ (by omega)
  rw [yn lt]
  dsimp only
  refine (ih _ _ _ (by rw [List.length_eraseIdx_of_lt lt];omega)).trans ?_
  rw [Array.toList_push,List.append_assoc]
  exact List.Perm.append_left _ (Jp0 lt)
theorem Jqo {α:Type} (next:Nat->Nat) (xs:Array α):(pickOrder next xs).toList.Perm xs.toList:=by
 have:=Yct next xs.size 0 xs.toList #[] (by simp)
 unfold pickOrder
 simpa using this
section
variable {prog:Program} {w:World} {A:Around} {E:Value->Shared->Prop} {s:Shared} {it a T:Addr} {i ep slot next p m:Nat} {x:Value} {h0:Int} {tk:Tok} {o oT:Obj} {es:Array (Int×Value)} {t:SetTable} {ps:Array Value} {Q:Option Value->Shared->Prop}
abbrev Joo (h:Heap) (it a:Addr) (first:Value) (i n ep:Nat):Prop:=h.get? it=some {cls:=.type "set_iterator",dict:=none,data:=.fields #[first,.int i 0,.ref a,.int n 0,.int ep 0],slots:=#[]}
theorem Ju5 (hit:Joo s.heap it a (rawInt slot) i es.size ep) (ho:s.heap.get? a=some o) (hd:o.data= .set es ep t) (hf:t.fits es.size=true)
  (hp:∀(A:Around) (Q:Option (Value×Nat)->Shared->Prop) (E:Value->Shared->Prop),Q (some (x,next)) s->wpAny (model prog w) A (setNext a slot i ep) Q E s)
  (hQ:∀h',Joo h' it a (rawInt next) (i+1) es.size ep->(∀b o,b≠it->s.heap.get? b=some o->h'.get? b=some o)->Q (some x) {s with heap:=h'}):
  wpAny (model prog w) A (pyNext (.ref it)) Q E s:=by
 have hT:s.TypeIs (.ref it) "set_iterator" :=⟨_,hit,rfl⟩
 unfold pyNext
 refine wpAny_bind (wpAny_attempt (wpAny_callSpecial?_slot (name:=Str.ofString "__next__") hT sit_slot_next (wpAny_call_entry sit_slot_next hT Jlp ?_ (Jlx _))))
 unfold Builtin.«set_iterator.__next__»
 refine wpAny_bind (wpAny_pure (wpAny_bind (wpAny_fieldsOf hit rfl ?_)))
 show wpAny _ _ (setEntries a >>=_) _ _ _
 refine wpAny_bind (wpAny_setEntries_of ho hd hf ?_)
 rw [if_neg (by simp)]
 show wpAny _ _ (setNext a slot i ep >>=_) _ _ _
 refine wpAny_bind (hp _ _ _ ?_)
 show wpAny _ _ (setField (.ref it) 0 (rawInt next) >>=_) _ _ _
 refine wpAny_bind (wpAny_setField_rec hit (by simp) λh1 he1 sb1=>?_)
 refine wpAny_bind (wpAny_setField_rec (s:={s with heap:=h1}) he1 (by simp) λh2 he2 sb2=>?_)
 refine wpAny_pure ⟨_,rfl,wpAny_pure (hQ h2 ?_ λb o hb e=>(sb2.2 b hb).trans ((sb1.2 b hb).trans e))⟩
 simp [rawInt] at he2
 exact he2
theorem Jwo (hh:A.handled=none) (hit:Joo s.heap it a (rawInt slot) i es.size ep) (ho:s.heap.get? a=some o) (hd:o.data= .set es ep t) (hf:t.fits es.size=true)
  (hp:∀(A:Around) (Q:Option (Value×Nat)->Shared->Prop) (E:Value->Shared->Prop),Q none s->wpAny (model prog w) A (setNext a slot i ep) Q E s)
  (hQ:∀h',Heap.ExtBut it s.heap h'->Q none {s with heap:=h'}):wpAny (model prog w) A (pyNext (.ref it)) Q E s:=by
 have hT:s.TypeIs (.ref it) "set_iterator" :=⟨_,hit,rfl⟩
 unfold pyNext
 refine wpAny_bind (wpAny_attempt (wpAny_callSpecial?_slot (name:=Str.ofString "__next__") hT sit_slot_next (wpAny_call_entry sit_slot_next hT Jlp ?_ (Jlx _))))
 unfold Builtin.«set_iterator.__next__»
 refine wpAny_bind (wpAny_pure (wpAny_bind (wpAny_fieldsOf hit rfl ?_)))
 show wpAny _ _ (setEntries a >>=_) _ _ _
 refine wpAny_bind (wpAny_setEntries_of ho hd hf ?_)
 rw [if_neg (by simp)]
 show wpAny _ _ (setNext a slot i ep >>=_) _ _ _
 refine wpAny_bind (hp _ _ _ ?_)
 show wpAny _ _ (setField (.ref it) 2 .none >>=_) _ _ _
 refine wpAny_bind (wpAny_setField hit rfl (by simp) ?_)
 show wpAny _ _ (newExc (.type "StopIteration") [] >>=_) _ _ _
 refine wpAny_bind ?_
 simp only [newExc,newTuple]
 refine wpAny_bind (wpAny_newObj_type ?_ (by size_fits))
 refine wpAny_bind (m:=firstArgMember _ _) (wpAny_of_eq (a:=Value.none) (by first|rfl|(simp only [firstArgMember];rfl)) ?_)
 refine wpAny_newObj_type ?_ (by size_fits)
 simp only [raiseNew]
 refine wpAny_bind (wpAny_handled ?_)
 rw [show A.in1.handled=none from hh]
 refine wpAny_bind (wpAny_pure (wpAny_throw ?_))
 refine wpAny_bind (wpAny_isInstance (T:="StopIteration") (b:=true) ⟨_,yo _ rfl,rfl⟩ isSubtype_stop ?_)
 exact wpAny_pure (hQ _ (((yai.update ..).extBut.push _).push _))
theorem Y1 (hit:Joo s.heap it a (.ref T) i es.size ep) (ho:s.heap.get? a=some o) (hd:o.data= .set es ep t) (hf:t.fits es.size=true) (hT:s.heap.get? T=some oT) (dT:oT.data= .seq ps m)
  (hp:ps[i]?=some (rawInt p)) (hx:es[p]?=some (h0,x)) (hQ:∀h',Joo h' it a (.ref T) (i+1) es.size ep->(∀b o,b≠it->s.heap.get? b=some o->h'.get? b=some o)->Q (some x) {s with heap:=h'}):
  wpAny (model prog w) A (pyNext (.ref it)) Q E s:=by
 have hTy:s.TypeIs (.ref it) "set_iterator" :=⟨_,hit,rfl⟩
 unfold pyNext
 refine wpAny_bind (wpAny_attempt (wpAny_callSpecial?_slot (name:=Str.ofString "__next__") hTy sit_slot_next (wpAny_call_entry sit_slot_next hTy Jlp ?_ (Jlx _))))
 unfold Builtin.«set_iterator.__next__»
 refine wpAny_bind (wpAny_pure (wpAny_bind (wpAny_fieldsOf hit rfl ?_)))
 show wpAny _ _ (setEntries a >>=_) _ _ _
 refine wpAny_bind (wpAny_setEntries_of ho hd hf ?_)
 rw [if_neg (by simp)]
 show wpAny _ _ (seqItems? (.ref T) >>=_) _ _ _
 refine wpAny_bind (wpAny_seqItems hT dT ?_)
 dsimp only
 rw [show ((i:Nat):Int).toNat=i from ybc i,hp]
 show wpAny _ _ (setNextDrawn a p ep >>=_) _ _ _
 unfold setNextDrawn
 refine wpAny_bind (wpAny_bind (wpAny_setState_of ho hd hf ?_))
 dsimp only
 rw [if_neg (by simp),hx]
 refine wpAny_pure ?_
 show wpAny _ _ (setField (.ref it) 1 (rawInt ((i:Int)+1)) >>=_) _ _ _
 refine wpAny_bind (wpAny_setField_rec hit (by simp) λh1 he1 sb1=>?_)
 refine wpAny_pure ⟨_,rfl,wpAny_pure (hQ h1 ?_ λb o hb e=>(sb1.2 b hb).trans e)⟩
 simp [rawInt] at he1
 exact he1
theorem Yb5 (hh:A.handled=none) (hit:Joo s.heap it a (.ref T) i es.size ep) (ho:s.heap.get? a=some o) (hd:o.data= .set es ep t) (hf:t.fits es.size=true) (hT:s.heap.get? T=some oT) (dT:oT.data= .seq ps m)
  (hp:ps[i]?=none) (hQ:∀h',Heap.ExtBut it s.heap h'->Q none {s with heap:=h'}):wpAny (model prog w) A (pyNext (.ref it)) Q E s:=by
 have hTy:s.TypeIs (.ref it) "set_iterator" :=⟨_,hit,rfl⟩
 unfold pyNext
 refine wpAny_bind (wpAny_attempt (wpAny_callSpecial?_slot (name:=Str.ofString "__next__") hTy sit_slot_next (wpAny_call_entry sit_slot_next hTy Jlp ?_ (Jlx _))))
 unfold Builtin.«set_iterator.__next__»
 refine wpAny_bind (wpAny_pure (wpAny_bind (wpAny_fieldsOf hit rfl ?_)))
 show wpAny _ _ (setEntries a >>=_) _ _ _
 refine wpAny_bind (wpAny_setEntries_of ho hd hf ?_)
 rw [if_neg (by simp)]
 show wpAny _ _ (seqItems? (.ref T) >>=_) _ _ _
 refine wpAny_bind (wpAny_seqItems hT dT ?_)
 dsimp only
 rw [show ((i:Nat):Int).toNat=i from ybc i,hp]
 show wpAny _ _ (setField (.ref it) 0 (rawInt 0) >>=_) _ _ _
 refine wpAny_bind (wpAny_setField_rec hit (by simp) λh1 he1 sb1=>?_)
 refine wpAny_bind (wpAny_setField (s:={s with heap:=h1}) he1 rfl (by simp) ?_)
 show wpAny _ _ (newExc (.type "StopIteration") [] >>=_) _ _ _
 refine wpAny_bind ?_
 simp only [newExc,newTuple]
 refine wpAny_bind (wpAny_newObj_type ?_ (by size_fits))
 refine wpAny_bind (m:=firstArgMember _ _) (wpAny_of_eq (a:=Value.none) (by first|rfl|(simp only [firstArgMember];rfl)) ?_)
 refine wpAny_newObj_type ?_ (by size_fits)
 simp only [raiseNew]
 refine wpAny_bind (wpAny_handled ?_)
 rw [show A.in1.handled=none from hh]
 refine wpAny_bind (wpAny_pure (wpAny_throw ?_))
 refine wpAny_bind (wpAny_isInstance (T:="StopIteration") (b:=true) ⟨_,yo _ rfl,rfl⟩ isSubtype_stop ?_)
 exact wpAny_pure (hQ _ (((sb1.trans (yai.update ..)).extBut.push _).push _))
end
end L2
namespace L2
open PySem PySem.Spec PyProof.Rows PySem.W
section
variable {prog:Program} {w:World} {A:Around} {E:Value->Shared->Prop} {s:Shared} {it a:Addr} {i ep slot:Nat} {o:Obj} {es:Array (Int×Value)} {t:SetTable}
theorem Joa {Q:Bool->Shared->Prop} (h:Q (w.params.followText "set-order") s):wpAny (model prog w) A setsByText Q E s:=by
 unfold setsByText
 exact wpAny_bind (wpAny_askSetting (wpAny_pure h))
theorem Jtv {Q:Option (Value×Nat)->Shared->Prop} (hb:w.params.followText "set-order" =true) (ho:s.heap.get? a=some o) (hd:o.data= .set es ep t) (hf:t.fits es.size=true)
  (h:Q (((pickOrder (w.params.setOrder a ep) es)[i]?).map λe=>(e.2,slot)) s):wpAny (model prog w) A (setNext a slot i ep) Q E s:=by
 unfold setNext
 refine wpAny_bind (wpAny_setState_of ho hd hf ?_)
 dsimp only
 refine wpAny_bind (Joa ?_)
 rw [hb,if_pos rfl,if_neg (by simp)]
 unfold setWalk
 refine wpAny_bind (wpAny_bind (wpAny_setState_of ho hd hf ?_))
 dsimp only
 refine wpAny_bind (Joa ?_)
 rw [hb,if_pos rfl]
 exact wpAny_bind (wpAny_askSetting (wpAny_pure (wpAny_pure h)))
theorem Jrz {Q:Option (Value×Nat)->Shared->Prop} (hb:w.params.followText "set-order" =false) (ho:s.heap.get? a=some o) (hd:o.data= .set es ep t) (hf:t.fits es.size=true) (hl:t.led=true) (hp:(!t.plain&&decide (es.size > 1))=false)
  (h:Q (match es[SetTable.below t.place slot]?,t.place[SetTable.below t.place slot]? with|some (_,x),some j=>some (x,j+1)|_,_=>none) s):wpAny (model prog w) A (setNext a slot i ep) Q E s:=by
 unfold setNext
 refine wpAny_bind (wpAny_setState_of ho hd hf ?_)
 dsimp only
 refine wpAny_bind (Joa ?_)
 rw [hb,if_neg (by simp)]
 refine wpAny_ite_split (λhab=>?_) (λ_=>?_)
 ·have q:(!t.plain&&decide (es.size > 1))=true:=hab
  rw [hp] at q
  cases q
 refine wpAny_bind ?_
 refine wpAny_ite_split (λhab=>?_) (λ_=>wpAny_pure (wpAny_pure h))
 have q:(!t.led&&!es.isEmpty)=true:=hab
 rw [hl] at q
 cases q
end
theorem Jox:Slot "set_iterator" "__iter__" "set_iterator.__iter__" :=
 .of (owner:="set_iterator") (n:="__iter__") (by rw [typeLookup_type,builtinLookup_eq_fast];kernel_rfl) (by decide +kernel) (by decide +kernel) (by decide +kernel)
  (by first|exact .inl (by decide +kernel)|exact .inr (by decide +kernel)) (by rw [isSubtype_type];kernel_rfl)
theorem Jsm:entryFor table "set_iterator.__iter__" =some Builtin.«dict_keyiterator.__iter__»:=
 entryFor_alias (id':="dict_keyiterator.__iter__") (by kernel_rfl) (by first|rfl|decide +kernel) (by decide +kernel) (by kernel_rfl)
theorem Jtc (a:Value):argsOk "set_iterator.__iter__" ⟨[a],[]⟩:=by
 unfold argsOk;rw [signature?_of (id:="set_iterator.__iter__") (n:=['_','_','r','e','t','i','_','_']) (o:=['r','o','t','a','r','e','t','i','_','t','e','s']) (by kernel_rfl) Ju6];kernel_rfl
section
variable {prog:Program} {w:World} {A:Around} {E:Value->Shared->Prop} {s:Shared} {it a:Addr}
theorem Jsn {first:Value} {i n ep:Nat} {Q:Value->Shared->Prop} (hit:Joo s.heap it a first i n ep) (h:Q (.ref it) s):wpAny (model prog w) A (pyIter (.ref it)) Q E s:=by
 have hT:s.TypeIs (.ref it) "set_iterator" :=⟨_,hit,rfl⟩
 refine wpAny_pyIter_slot hT Jox (wpAny_call_entry Jox hT Jsm ?_ (Jtc _))
 show wpAny _ _ (ret (.ref it)) _ _ s
 exact wpAny_pure ⟨_,rfl,"set_iterator",_,hT,sit_slot_next.lookup,h⟩
end
end L2
namespace L2
open PySem PySem.Spec PyProof.Rows PySem.W
section
variable {prog:Program} {w:World} {A:Around} {it a T:Addr} {ep m:Nat} {o oT:Obj} {es:Array (Int×Value)} {t:SetTable} {ps:Array Value}
structure Jrh (w:World) (o:Obj) (es:Array (Int×Value)) (ep:Nat) (t:SetTable):Prop where
 data:o.data= .set es ep t
 fits:t.fits es.size=true
 good:Jon (Jmr w) t
def atV (l:List (Int×Value)) (i:Nat) (v:Value):Prop:=(l.map (·.2))[i]?=some v
theorem Ye (hh:A.handled=none) (hb:w.params.followText "set-order" =true) (S:Jrh w o es ep t) (ne:a≠it):
  Walks prog w A it [it,a] [it] es.size (atV (pickOrder (w.params.setOrder a ep) es).toList) (λi h=>h.get? a=some o/\Joo h it a (rawInt (0:Nat)) i es.size ep) where
 sub:=λb hb=>by simp at hb;simp [hb]
 frame:=λi h h' st k=>⟨k a (by simp) _ st.1,k it (by simp) _ st.2⟩
 item:=λi s Q E hi st hQ=>by
  have hl:(pickOrder (w.params.setOrder a ep) es).toList.length=es.size:=(Jqo _ es).length_eq.trans (by simp)
  have hs:i < (pickOrder (w.params.setOrder a ep) es).size:=by simpa [<-hl] using hi
  refine Ju5 (x:=(pickOrder (w.params.setOrder a ep) es)[i].2) (next:=0) st.2 st.1 S.data S.fits (λA Q E h=>Jtv hb st.1 S.data S.fits (by rw [ycg hs];exact h)) λh' e1 k1=>?_
  exact hQ _ h' s.toks (by show ((pickOrder (w.params.setOrder a ep) es).toList.map (·.2))[i]?=_;simp [hs]) ⟨k1 a _ ne st.1,e1⟩ λb o' hb' q=>k1 b o' (by simpa using hb') q
 done:=λs Q E st hQ=>by
  have hl:(pickOrder (w.params.setOrder a ep) es).toList.length=es.size:=(Jqo _ es).length_eq.trans (by simp)
  refine Jwo hh st.2 st.1 S.data S.fits (λA Q E h=>Jtv hb st.1 S.data S.fits (by rw [Array.getElem?_eq_none (by rw [<-hl];simp)];exact h)) λh' eb=>?_
  exact hQ h' s.toks λb o' hb' q=>eb b o' (by simpa using hb') q
 self:=λi s Q E st h=>Jsn st.2 h
def nxt (t:SetTable) (i:Nat):Nat:=if i=0 then 0 else t.place.getD (i - 1) 0+1
theorem Jte {i:Nat} (rs:Joy t.place) (hi:i<=t.place.size):SetTable.below t.place (nxt t i)=i:=by
 unfold nxt
 by_cases z:i=0
 ·rw [if_pos z,z]
  exact Jwy rs
 ·rw [if_neg z,Jwx rs (by omega)]
  omega
theorem Jy9 (hh:A.handled=none) (hb:w.params.followText "set-order" =false) (S:Jrh w o es ep t) (hp:(!t.plain&&decide (es.size > 1))=false) (ne:a≠it):
  Walks prog w A it [it,a] [it] es.size (atV es.toList) (λi h=>h.get? a=some o/\Joo h it a (rawInt (nxt t i)) i es.size ep) where
 sub:=λb hb=>by simp at hb;simp [hb]
 frame:=λi h h' st k=>⟨k a (by simp) _ st.1,k it (by simp) _ st.2⟩
 item:=λi s Q E hi st hQ=>by
  have sz:t.place.size=es.size:=by have:=S.fits;simp [SetTable.fits] at this;exact this.1
  have rs:Joy t.place:=by
   cases hpl:t.plain with
   |true=>exact S.good.1 hpl
   |false=>
    rw [hpl] at hp
    simp at hp
    exact λi k ik hk=>by omega
  have led:t.led=true:=by rw [S.good.2];unfold Jmr;rw [hb];rfl
  have hi':i < t.place.size:=by rw [sz];exact hi
  refine Ju5 (x:=es[i].2) (next:=nxt t (i+1)) st.2 st.1 S.data S.fits (λA Q E h=>Jrz hb st.1 S.data S.fits led hp ?_) λh' e1 k1=>?_
  ·rw [Jte rs (yap hi'),ycg hi,ycg hi']
   have e:nxt t (i+1)=t.place[i]+1:=by unfold nxt;rw [if_neg (Nat.succ_ne_zero _)];simp [ybo,hi']
   rw [e] at h
   exact h
  ·exact hQ _ h' s.toks (by show (es.toList.map (·.2))[i]?=_;simp [hi]) ⟨k1 a _ ne st.1,e1⟩ λb o' hb' q=>k1 b o' (by simpa using hb') q
 done:=λs Q E st hQ=>by
  have sz:t.place.size=es.size:=by have:=S.fits;simp [SetTable.fits] at this;exact this.1
  have rs:Joy t.place:=by
   cases hpl:t.plain with
   |true=>exact S.good.1 hpl
   |false=>
    rw [hpl] at hp
    simp at hp
    exact λi k ik hk=>by omega
  have led:t.led=true:=by rw [S.good.2];unfold Jmr;rw [hb];rfl
  refine Jwo hh st.2 st.1 S.data S.fits (λA Q E h=>Jrz hb st.1 S.data S.fits led hp ?_) λh' eb=>?_
  ·rw [Jte rs (by omega),Array.getElem?_eq_none (yg _)]
   exact h
  ·exact hQ h' s.toks λb o' hb' q=>eb b o' (by simpa using hb') q
 self:=λi s Q E st h=>Jsn st.2 h
theorem Jy8 (hh:A.handled=none) (S:Jrh w o es ep t) {ns:List Nat} (pm:ns.Perm (yu es.size)) (dT:oT.data= .seq (ns.map λi:Nat=>rawInt i).toArray m) (ne:a≠it) (nT:T≠it):
  Walks prog w A it [it,a,T] [it] es.size (atV (ns.filterMap (es[·]?))) (λi h=>h.get? a=some o/\h.get? T=some oT/\Joo h it a (.ref T) i es.size ep) where
 sub:=λb hb=>by simp at hb;simp [hb]
 frame:=λi h h' st k=>⟨k a (by simp) _ st.1,k T (by simp) _ st.2.1,k it (by simp) _ st.2.2⟩
 item:=λi s Q E hi st hQ=>by
  have hl:ns.length=es.size:=by rw [pm.length_eq,ybf]
  have hi':i < ns.length:=by rw [hl];exact hi
  have hm:ns[i] < es.size:=yaj.mp (pm.mem_iff.mp (ybn hi'))
  refine Y1 (p:=ns[i]) (x:=es[ns[i]].2) (h0:=es[ns[i]].1) st.2.2 st.1 S.data S.fits st.2.1 dT (by simp [hi']) (by rw [ycg hm]) λh' e1 k1=>?_
  refine hQ _ h' s.toks ?_ ⟨k1 a _ ne st.1,k1 T _ nT st.2.1,e1⟩ λb o' hb' q=>k1 b o' (by simpa using hb') q
  show ((ns.filterMap (es[·]?)).map (·.2))[i]?=_
  have all:∀(l:List Nat),(∀x∈l,x < es.size)->(l.filterMap (es[·]?)).map (·.2)=l.map λx=>(es.getD x (0,.none)).2:=by
   intro l
   induction l with
   |nil=>intro _;rfl
   |cons x l ih=>
    intro hx
    have lx:=hx x (yaq ..)
    rw [ych,ycg lx,ybb,ybb,ih λy hy=>hx y (yak _ hy)]
    simp [ybo,lx]
  rw [all ns λx hx=>yaj.mp (pm.mem_iff.mp hx)]
  simp [hi',ybo,hm]
 done:=λs Q E st hQ=>by
  have hl:ns.length=es.size:=by rw [pm.length_eq,ybf]
  refine Yb5 hh st.2.2 st.1 S.data S.fits st.2.1 dT (by simp [hl]) λh' eb=>?_
  exact hQ h' s.toks λb o' hb' q=>eb b o' (by simpa using hb') q
 self:=λi s Q E st h=>Jsn st.2.2 h
end
end L2
namespace L2
open PySem PySem.Spec PyProof.Rows PySem.W
section
variable {prog:Program} {w:World} {A:Around} {E:Value->Shared->Prop} {s:Shared} {a:Addr} {ep:Nat} {o:Obj} {es:Array (Int×Value)} {t:SetTable}
theorem Yb3 {A':Around} (hh:A'.handled=none) (ho:s.heap.get? a=some o) (hex:o.ExactSet) (S:Jrh w o es ep t) (hz:es.size<=sizeLine) {Q:Value->Shared->Prop}
  (h:∀(h1:Heap) (d1:Drawn) (it:Addr) (fp:List Addr) (ord:List (Int×Value)) (St:Nat->Heap->Prop),ord.Perm es.toList->(∀b o,s.heap.get? b=some o->h1.get? b=some o)->s.heap.objs.size<=it->(∀b∈fp,b=a\/s.heap.objs.size<=b)->
   Walks prog w A' it fp [it] es.size (atV ord) St->St 0 h1->Q (.ref it) {s with heap:=h1,drawn:=d1}):
  wpAny (model prog w) A (pyIter (.ref a)) Q E s:=by
 have hT:s.TypeIs (.ref a) "set" :=⟨o,ho,hex.1⟩
 refine wpAny_pyIter_slot hT PySem.F.slot_set_iter (wpAny_call_entry PySem.F.slot_set_iter hT Jsl ?_ (PySem.F.args_set_iter_1 _))
 unfold Builtin.«frozenset.__iter__»
 refine wpAny_bind ?_
 unfold Builtin.Frozenset.slot0
 refine wpAny_bind (wpAny_pure (wpAny_pure ?_))
 refine wpAny_bind ?_
 unfold Builtin.Frozenset.sizeOf
 refine wpAny_bind (wpAny_setEntries_of ho S.data S.fits (wpAny_pure ?_))
 refine wpAny_bind ?_
 unfold setDrawn
 refine wpAny_bind (wpAny_setState_of ho S.data S.fits ?_)
 dsimp only
 refine wpAny_bind (Joa (wpAny_pure ?_))
 have lt:a < s.heap.objs.size:=yj ho
 refine wpAny_ite_split (λhab=>?_) (λhab=>?_)
 ·have q:(!w.params.followText "set-order" &&(!t.plain&&decide (es.size > 1)))=true:=hab
  refine wpAny_bind (Yx es.size (yu es.size) _ _ (by simp) λns d pm=>?_)
  have hl:ns.length=es.size:=by rw [pm.length_eq,ybf]
  unfold newTuple
  refine wpAny_bind (wpAny_newObj_type ?_ (show (ns.map λi:Nat=>rawInt i).toArray.size<=sizeLine by simp;omega))
  refine wpAny_bind (wpAny_setEpoch_of (yi _ ho) S.data S.fits ?_)
  unfold newFields
  refine wpAny_bind (wpAny_newObj_type ?_ (by size_fits))
  refine wpAny_pure ⟨_,rfl,"set_iterator",_,⟨_,yo _ rfl,rfl⟩,sit_slot_next.lookup,?_⟩
  refine h _ d _ _ (ns.filterMap (es[·]?)) _ ?_ (λb o e=>yi _ (yi _ e)) ?_ ?_ (Jy8 (T:=s.heap.objs.size) hh S pm rfl ?_ ?_) ⟨yi _ (yi _ ho),yi _ (yo _ rfl),yo _ rfl⟩
  ·have e:(yu es.size).filterMap (es[·]?)=es.toList:=by
    refine List.ext_getElem? λi=>?_
    have all:∀(n:Nat),n<=es.size->(yu n).filterMap (es[·]?)=es.toList.take n:=by
     intro n
     induction n with
     |zero=>intro _;rfl
     |succ n ih=>
      intro hn
      rw [yca,List.filterMap_append,ih (by omega),yan]
      simp [show n < es.size by omega]
    rw [all es.size (yg _),yam (by simp)]
   rw [<-e]
   exact pm.filterMap _
  ·simp
  ·intro b hb
   simp at hb
   rcases hb with rfl|rfl|rfl
   ·right;simp
   ·left;rfl
   ·right;exact yg _
  ·rw [yaa]
   exact yq (ybs lt)
  ·rw [yaa]
   exact yq (ybq _)
 ·have q:¬((!w.params.followText "set-order" &&(!t.plain&&decide (es.size > 1)))=true):=hab
  refine wpAny_bind (wpAny_pure (wpAny_bind (wpAny_setEpoch_of ho S.data S.fits ?_)))
  unfold newFields
  refine wpAny_bind (wpAny_newObj_type ?_ (by size_fits))
  refine wpAny_pure ⟨_,rfl,"set_iterator",_,⟨_,yo _ rfl,rfl⟩,sit_slot_next.lookup,?_⟩
  have fpk:∀b∈ [s.heap.objs.size,a],b=a\/s.heap.objs.size<=b:=λb hb=>by
   simp at hb
   rcases hb with rfl|rfl
   ·right;exact yg _
   ·left;rfl
  cases hb:w.params.followText "set-order" with
  |true=>exact h _ s.drawn _ _ _ _ (Jqo _ es) (λb o e=>yi _ e) (yg _) fpk (Ye hh hb S (yq lt)) ⟨yi _ ho,yo _ rfl⟩
  |false=>
   rw [hb] at q
   exact h _ s.drawn _ _ _ _ (List.Perm.refl _) (λb o e=>yi _ e) (yg _) fpk (Jy9 hh hb S (by simpa using q) (yq lt)) ⟨yi _ ho,yo _ rfl⟩
end
end L2
namespace L2
open PySem PySem.Spec PyProof.Rows PySem.W PySem.Calls
section
variable {prog:Program} {w:World} {A:Around} {E:Value->Shared->Prop} {s:Shared} {a:Addr} {ep:Nat} {o:Obj} {es:Array (Int×Value)} {t:SetTable}
theorem Yb1 {Q:Bool->Shared->Prop} (hT:s.TypeIs (.ref a) "set") (h:Q false s):wpAny (model prog w) A (Builtin.List.listLengthHint (.ref a)) Q E s:=by
 unfold Builtin.List.listLengthHint
 refine wpAny_bind (wpAny_specialOf hT PySem.F.slot_set_len.lookup ?_)
 generalize hid:("set.__len__" :String)=id0
 wp_delta
 rw [show splitId id0=some ("set","__len__") from by subst hid;decide +kernel]
 subst hid
 refine wpAny_bind (wpAny_isInstance (T:="set") (b:=true) hT (by rw [isSubtype_type];kernel_rfl) ?_)
 refine wpAny_ite_split (λhab=>absurd hab (by decide)) (λ_=>?_)
 refine wpAny_ite_split (λ_=>?_) (λhab=>absurd (by decide +kernel) hab)
 refine wpAny_bind (wpAny_typeOf hT ?_)
 exact wpAny_pure h
theorem Jxy {R:Result->Shared->Prop} (hh:A.handled=none) (ho:s.heap.get? a=some o) (hex:o.ExactSet) (S:Jrh w o es ep t) (hz:es.size<=sizeLine) (L:Addr) (hLa:L≠a) (res:Value) (hL:s.heap.get? L=some {cls:=.type "list",data:=.seq #[]})
  (hR:∀h' d tk acc c ord,ord.Perm es.toList->(∀b o,b≠L->s.heap.get? b=some o->h'.get? b=some o)->h'.get? L=some {cls:=.type "list",dict:=none,data:=.seq acc c,slots:=#[]}->ItemsOf (atV ord) acc es.size->R (.ok (.ret res)) {s with heap:=h',toks:=tk,drawn:=d}):
  wpAny (model prog w) A.in1 (Builtin.List.listExtendWith (.ref L) (.ref a) res)
   (λfin s'=>match fin with| .done f=>R (.ok f) s'| .again c'=>c'.quiet=true/\codeAny (model prog w) A c' R s') (λe s'=>R (.error e) s') s:=by
 have hT:s.TypeIs (.ref a) "set" :=⟨o,ho,hex.1⟩
 unfold Builtin.List.listExtendWith
 refine wpAny_bind (wpAny_typeOf hT ?_)
 have h1:Builtin.List.listSameRef (.ref L) (.ref a)=false:=by simp [Builtin.List.listSameRef,hLa]
 rw [if_neg (by rw [h1];decide)]
 refine wpAny_bind (Yb3 (A':=A.in1) hh ho hex S hz λh1 d1 it fp ord St pm kp li hfp W st=>?_)
 have lL:L < s.heap.objs.size:=yj hL
 have hLf:L∉fp:=λq=>(hfp L q).elim hLa λz=>absurd lL (yas.mpr z)
 have key:∀(h:Heap) (c:Nat),St 0 h->(∀b o,b≠L->s.heap.get? b=some o->h.get? b=some o)->h.get? L=some {cls:=.type "list",data:=.seq #[] c}->
   codeAny (model prog w) A (.builtin "list.extend.loop" ⟨[.ref L,.ref it,res],[]⟩) R {s with heap:=h,drawn:=d1}:=by
  intro h c hst hk hL1
  refine codeAny_extend_loopS W.toS hz L hLf res es.size 0 _ #[] c rfl (yal _) hst hL1 (ItemsOf.nil _) λs' acc' c' hm hS' hacc=>?_
  rw [Moved.eq_with hm]
  refine hR s'.heap d1 s'.toks acc' c' ord pm (λb o hb e=>hm.heap b o (λhmem=>?_) (hk b o hb e)) hS' hacc
  rcases ym.mp hmem with e'|hmem
  ·exact hb e'
  ·exact absurd (yj e) (by rw [ybe.mp hmem];exact yas.mpr li)
 have hL1:=kp L _ hL
 refine wpAny_bind (wpAny_holding (Yb1 ⟨o,kp _ _ ho,hex.1⟩ ?_))
 refine wpAny_ite_split (λ_=>?_) (λ_=>wpAny_pure ⟨plainId_quiet PySem.F.plain_extend_loop _,key _ 0 st (λb o _ e=>kp b o e) hL1⟩)
 refine wpAny_bind (wpAny_rule ?_)
 refine wpAny_bind ?_
 show wpAny _ _ (updateSeq L (·.push .none) >>=λ_=>updateSeq L (·.pop)) _ _ _
 refine wpAny_bind (wpAny_updateSeq hL1 rfl ?_)
 have hS₂:=ybm (Obj.mapSeq (·.push Value.none)) hL1 rfl
 refine wpAny_updateSeq (hz:=by seq_fits) hS₂ rfl ?_
 have hS₃:=ybm (Obj.mapSeq (·.pop)) hS₂ rfl
 refine wpAny_pure ⟨plainId_quiet PySem.F.plain_extend_loop _,key _ _ ?_ (λb o hb e=>?_) hS₃⟩
 ·refine W.frame 0 _ _ st λb hb o e=>?_
  have hbS:b≠L:=λh=>hLf (h▸hb)
  exact (yaz _ _ (yk hbS)).trans ((yaz _ _ (yk hbS)).trans e)
 ·exact (yaz _ _ (yk hb)).trans ((yaz _ _ (yk hb)).trans (kp b o e))
theorem Jwn {R:List Value->Shared->Prop} (hh:A.handled=none) (ho:s.heap.get? a=some o) (hex:o.ExactSet) (S:Jrh w o es ep t) (hz:es.size<=sizeLine)
  (h:∀h' d tk acc ord,ord.Perm es.toList->(∀b o,s.heap.get? b=some o->h'.get? b=some o)->s.heap.objs.size < h'.objs.size->ItemsOf (atV ord) acc es.size->R acc.toList {s with heap:=h',toks:=tk,drawn:=d}):wpAny (model prog w) A (collect (.ref a)) R E s:=by
 have lt:a < s.heap.objs.size:=yj ho
 unfold collect
 refine wpAny_bind (wpAny_runValue (codeAny_builtin entry_proto_collect' ?_))
 rw [Around.under_plainId PySem.F.plain_proto_collect _]
 show wpAny _ A.in1 (newList [] >>=λl=>again (.builtin "list.__iadd__" ⟨[l,.ref a],[]⟩)) _ _ s
 refine wpAny_bind (wpAny_newObj_type ?_)
 refine wpAny_pure ⟨plainId_quiet PySem.F.plain_list_iadd _,codeAny_builtin entry_list_iadd' ?_⟩
 rw [Around.under_plainId PySem.F.plain_list_iadd _]
 show wpAny _ A.in1 (Builtin.List.listExtendWith (.ref s.heap.objs.size) (.ref a) (.ref s.heap.objs.size)) _ _ _
 have key:=Jxy (prog:=prog) (A:=A) (s:={s with heap:=s.heap.push {cls:=.type "list",data:=.seq ([]:List Value).toArray}})
  (R:=λ(q:Result) (s':Shared)=>∃(h':Heap) (d:Drawn) (tk:Nat) (acc:Array Value) (c:Nat) (ord:List (Int×Value)),q= .ok (.ret (.ref s.heap.objs.size))/\s'={s with heap:=h',toks:=tk,drawn:=d}/\ord.Perm es.toList/\
   (∀b o,s.heap.get? b=some o->h'.get? b=some o)/\h'.get? s.heap.objs.size=some {cls:=.type "list",dict:=none,data:=.seq acc c,slots:=#[]}/\ItemsOf (atV ord) acc es.size)
  hh (yi _ ho) hex S hz s.heap.objs.size (yau lt) (.ref s.heap.objs.size) (yo _ rfl)
  (λh' d tk acc c ord pm hk hS' hacc=>⟨h',d,tk,acc,c,ord,rfl,rfl,pm,λb o e=>hk b o (yq (yj e)) (yi _ e),hS',hacc⟩)
 refine wpAny_mono key (λfin s' x=>?_) λe s' x=>?_
 ·cases fin with
  |done f=>
   obtain ⟨h',d,tk,acc,c,ord,e,rfl,pm,hk,hS',hacc⟩:=x
   cases e
   show wpAny _ A (load s.heap.objs.size >>=_) _ _ _
   refine wpAny_bind (wpAny_load hS' ?_)
   exact wpAny_pure (h h' d tk acc ord pm hk (yj hS') hacc)
  |again c₁=>
   refine ⟨x.1,codeAny_mono x.2 λq s₂ y=>?_⟩
   obtain ⟨h',d,tk,acc,c,ord,rfl,rfl,pm,hk,hS',hacc⟩:=y
   show wpAny _ A (load s.heap.objs.size >>=_) _ _ _
   refine wpAny_bind (wpAny_load hS' ?_)
   exact wpAny_pure (h h' d tk acc ord pm hk (yj hS') hacc)
 ·obtain ⟨_,_,_,_,_,_,e',_⟩:=x
  cases e'
theorem Jzh {l l':List Value} (p:l.Perm l'):∀{ns:List Int},IntsAre l' ns->∃ns1,IntsAre l ns1/\ns1.Perm ns:=by
 induction p with
 |nil=>intro ns h;cases h;exact ⟨[],.nil,.nil⟩
 |cons x _ ih=>
  intro ns h
  cases h with
  |cons n t h=>
   obtain ⟨ns1,a1,a2⟩:=ih h
   exact ⟨n::ns1,.cons n t a1,a2.cons n⟩
 |swap x y l=>
  intro ns h
  cases h with
  |cons n t h=>
   cases h with
   |cons m u h=>exact ⟨_,.cons m u (.cons n t h),List.Perm.swap ..⟩
 |trans _ _ ih1 ih2=>
  intro ns h
  obtain ⟨n2,a1,a2⟩:=ih2 h
  obtain ⟨n1,b1,b2⟩:=ih1 a1
  exact ⟨n1,b1,b2.trans a2⟩
theorem Jy0 {ns:List Int} {Q:Value->Shared->Prop} (hh:A.handled=none) (ho:s.heap.get? a=some o) (hex:o.ExactSet) (S:Jrh w o es ep t) (h64:es.size < 64) (hI:IntsAre (es.toList.map (·.2)) ns)
  (h:∀h' d tk D c (out:Array Value) (ns':List Int),(∀b o,s.heap.get? b=some o->h'.get? b=some o)->s.heap.objs.size<=D->h'.get? D=some {cls:=.type "list",data:=.seq out c}->IntsAre out.toList ns'->ns'.Perm ns->ns'.Pairwise (·<=·)->
   Q (.ref D) {s with heap:=h',toks:=tk,drawn:=d}):wpAny (model prog w) A (call (.builtin "sorted") [.ref a]) Q E s:=by
 have hz:es.size<=sizeLine:=by rw [sizeLine_eq];omega
 refine Calls.call_function_entry kind_sorted plain_sorted entry_sorted (args_sorted1 _) ?_
 unfold Builtin.«sorted»
 refine wpAny_bind (m:=checkCount "sorted" 1 1 _) (wpAny_pure ?_)
 refine wpAny_bind (Jwn (A:=A.in1) hh ho hex S hz λh1 d tk acc ord pm kp lt hI1=>?_)
 have hl:acc.toList.length=es.size:=by rw [ybg];exact hI1.1
 have ea:acc.toList=ord.map (·.2):=by
  refine List.ext_getElem? λi=>?_
  by_cases lt:i < acc.toList.length
  ·have e1:acc.toList[i]?=some acc.toList[i]:=yn lt
   have e2:acc[i]?=some acc.toList[i]:=by rw [<-Array.getElem?_toList];exact e1
   rw [e1]
   exact (hI1.2 i _ e2).symm
  ·rw [List.getElem?_eq_none (yas.mp lt),List.getElem?_eq_none]
   rw [yf,pm.length_eq,ybg]
   omega
 obtain ⟨ns1,hI2,p2⟩:∃ns1,IntsAre acc.toList ns1/\ns1.Perm ns:=by
  rw [ea]
  exact Jzh (pm.map (·.2)) hI
 refine wpAny_bind (wpAny_newList ?_ (by rw [hl];exact hz))
 have hoL:(h1.push (seqObj "list" acc.toList.toArray 0)).get? h1.objs.size=some (seqObj "list" acc.toList.toArray 0):=yo _ rfl
 refine wpAny_bind (wpAny_holding (wpAny_call_entry slot_list_sort ⟨_,hoL,rfl⟩ entry_list_sort (list_sort_tree hoL hI2 (by rw [hl];exact h64) λout ns' a1 a2 a3=>⟨_,rfl,?_⟩) (args_list_sort _)))
 refine wpAny_pure ⟨_,rfl,?_⟩
 obtain ⟨c,e⟩:=sortedHeap_at (h:=h1.push (seqObj "list" acc.toList.toArray 0)) (vs:=acc.toList) (out:=out) (n:=0) hoL
 exact h _ d tk h1.objs.size c out ns' (λb o q=>by
  have lb:b < h1.objs.size:=yj (kp b o q)
  rw [sortedHeap_old (yq lb) (by rw [size_push'];exact ybs lb),Heap.get?_push_ne _ _ _ (yq lb)]
  exact kp b o q) (yap lt) e a1 (a2.trans p2) a3
end
end L2
namespace L2
open PySem PySem.Spec PyProof.Rows PySem.W
def ZS (P:Program) (w:World) (a:Addr) (zs:List Int):HO:=.ext λh=>SetG (Jjm P w) (Jmr w) h a (inZ zs) zs.length
theorem zs_ok {P:Program} {w:World} {H:Hp} {h:Heap} {a:Addr} {zs:List Int} (hS:SetG (Jjm P w) (Jmr w) h a (inZ zs) zs.length):ObjOk P w H h a (ZS P w a zs):=
 ⟨hS,(let ⟨o,_,_,_,ho,_⟩:=hS;⟨o,ho⟩),λ_ _ p k=>p.at k λ_=>rfl⟩
theorem Inv.drew {X:Cx} {pins:List (Addr×Obj)} {σ:St} {H:Hp} {s:Shared} (d:Drawn) (I:Inv X pins σ H s):Inv X pins σ H {s with drawn:=d}:=
 ⟨I.ok,I.os,I.bare,I.base,I.loc,I.cell,I.free,I.freeC,I.pin,I.hok,I.len⟩
section
variable {X:Cx}
theorem Jsw {K:PySem.W.Frag} (hK:X.K=K) (hc:X.calm=true):Jle X (.type "set") (λxs H Q=>∃(l:Addr) (zs:List Int),xs= [.ref l]/\SqL K H l (zs.map V.int)/\zs.length<=50/\∀a,H a=none->Q (.ref a) (upd H a (ZS X.prog X.w a zs))):=by
 subst hK
 intro pins s σ H xs us Q I r h
 obtain ⟨l,zs,rfl,hq,hz,q⟩:=h
 obtain ⟨u,rfl,ru⟩:=Jm0 r
 obtain rfl:u=Value.ref l:=ru
 obtain ⟨its,rv,pl,_⟩:=I.list hq
 have hlen:=rv.length
 rw [yf] at hlen
 refine Yb2 (zs:=zs) (I.ok.hd hc) pl.isList (by simpa using hlen) (λi v hv=>?_) (by simp only [yt];unfold scanBound;omega) λh' tk hS kk=>
  ⟨.ref s.heap.objs.size,_,I.laid (a:=s.heap.objs.size) (o:=ZS X.prog X.w s.heap.objs.size zs) (t':=tk) kk (yg _) (zs_ok hS),rfl,q _ (I.hok.fresh (yg _))⟩
 have hv':its[i]?=some v:=by simpa using hv
 have hlt:i < zs.length:=by have:=(yv.mp hv').1;omega
 obtain ⟨u,hu,ru⟩:=rv.get (i:=i) (x:=V.int zs[i]) (by rw [yp,yn hlt];rfl)
 rw [hv'] at hu
 cases hu
 obtain ⟨t,rfl⟩:=ru
 exact ⟨zs[i],t,yn hlt,rfl⟩
theorem Ycg {P:Program} {w:World} {zs:List Int}:∀{l:List (Int×Value)},ElemsOf (Jjm P w) l->(∀e∈l,∀k,(Jjm P w).is k e.2=true->inZ zs k=true)->Apart (Jjm P w) l->
  ∃ns:List Int,IntsAre (l.map (·.2)) ns/\ns.Nodup/\∀n,n∈ns↔∃e∈l,(Jjm P w).is (.inl n) e.2=true:=by
 intro l
 induction l with
 |nil=>intro _ _ _;exact ⟨[],.nil,ybk,λn=>by simp⟩
 |cons e l ih=>
  intro h1 h2 h3
  obtain ⟨ns,a1,a2,a3⟩:=ih h1.tail (λe' he=>h2 e' (yak _ he)) (List.pairwise_cons.mp h3).2
  obtain ⟨⟨k,hk,_⟩,_⟩:=h1.head
  have hz:=h2 e (yaq ..) k hk
  cases k with
  |inr y=>cases hz
  |inl n=>
   obtain ⟨t,et⟩:=(show ∃t,e.2=Value.int n t from Jxs hk)
   refine ⟨n::ns,by rw [ybb,et];exact .cons n t a1,yav.mpr ⟨λhm=>?_,a2⟩,λm=>?_⟩
   ·obtain ⟨e',he',q⟩:=(a3 n).mp hm
    exact (List.pairwise_cons.mp h3).1 e' he' _ hk q
   ·rw [ym,a3 m]
    constructor
    ·rintro (rfl|⟨e',he',q⟩)
     ·exact ⟨e,yaq ..,hk⟩
     ·exact ⟨e',yak _ he',q⟩
    ·rintro ⟨e',he',q⟩
     rcases ym.mp he' with rfl|he'
     ·left
      have:=(Jjm P w).inj e'.2 _ _ q hk
      exact yx.inj this
     ·exact .inr ⟨e',he',q⟩
theorem Jzi {vs:List Value} {ns:List Int} (h:IntsAre vs ns):Vals (ns.map V.int) vs:=by
 induction h with
 |nil=>exact .nil
 |cons n t _ ih=>exact .cons ⟨t,rfl⟩ ih
theorem Jrl (hc:X.calm=true):Jle X (.builtin "sorted") (λxs H Q=>∃(a:Addr) (zs:List Int),xs= [.ref a]/\H a=some (ZS X.prog X.w a zs)/\zs.length<=50/\
  ∀l (ns:List Int),H l=none->ns.Pairwise (· < ·)->(∀n,n∈ns↔n∈zs)->Q (.ref l) (upd H l (.lst (ns.map V.int)))):=by
 intro pins s σ H xs us Q I r h
 obtain ⟨a,zs,rfl,ha,hz,q⟩:=h
 obtain ⟨u,rfl,ru⟩:=Jm0 r
 obtain rfl:u=Value.ref a:=ru
 obtain ⟨hS,_,_⟩:=(show ObjOk X.prog X.w H s.heap a (ZS X.prog X.w a zs) from I.hok a _ ha)
 obtain ⟨o,es,ep,t,ho,hex,hd,hel,hmem,hb,hf,hn,hG,hap⟩:=hS
 obtain ⟨ns,hI,nd,mem⟩:=Ycg (zs:=zs) hel (λe he k hk=>(hmem k).mpr ⟨e,he,hk⟩) hap
 refine Jy0 (ns:=ns) (I.ok.hd hc) ho hex ⟨hd,hf,hG⟩ (by omega) hI λh' d tk D c out ns' kp hD eD hI' pm pw=>?_
 have nd':ns'.Nodup:=pm.nodup_iff.mpr nd
 have lt:ns'.Pairwise (· < ·):=by
  refine (pw.and nd').imp ?_
  intro x y ⟨h1,h2⟩
  exact Int.lt_iff_le_and_ne.mpr ⟨h1,h2⟩
 have mm:∀n,n∈ns'↔n∈zs:=λn=>by
  rw [pm.mem_iff,mem n,<-hmem (.inl n)]
  show zs.contains n=true↔_
  exact ycm
 have len:ns'.length<=50:=by
  have e1:=pm.length_eq
  have e2:∀{vs:List Value} {ms:List Int},IntsAre vs ms->vs.length=ms.length:=by
   intro vs ms hh
   induction hh with
   |nil=>rfl
   |cons _ _ _ ih=>simp [ih]
  have e3:=e2 hI
  rw [yf,ybg] at e3
  omega
 refine ⟨.ref D,_,(I.laid (a:=D) (o:=.lst (ns'.map V.int)) (t':=tk) kp hD ⟨by rw [yf,sizeLine_eq];omega,out.toList,c,Jzi hI',by simpa using eD⟩).drew d,rfl,q D ns' (I.hok.fresh hD) lt mm⟩
end
end L2
namespace L2
open PySem PySem.Spec PyProof.Rows PySem.W
theorem bt_any:bootBuiltins "any" =some (.builtin "any"):=by decide +kernel
theorem Jz5:bootBuiltins "sorted" =some (.builtin "sorted"):=by decide +kernel
theorem Juh:bootBuiltins "dict" =some (.type "dict"):=by decide +kernel
theorem Ym:bootBuiltins "range" =some (.type "range"):=by decide +kernel
section
variable {X:Cx}
theorem Jt5 (hu:X.A.units+64 < cLine):OpR X (compareOp .NotIn) (λy x H Q=>∃a o,x= .ref a/\DGet H a y o/\Q (.bl (!o.isSome)) H):=by
 intro pins s σ H y x v u Q I ry rx h
 obtain ⟨a,o,rfl,g,q⟩:=h
 obtain rfl:u=Value.ref a:=rx
 exact Yc9 (by omega) I g ry λs3 I3=>⟨.bl (!o.isSome),H,I3,rfl,q⟩
theorem Ju0 {o e:Expr} {apos cpos:Pos} {td ty:TE} (hu:X.A.units+64 < cLine) (ho:PE X o td) (he:PE X e ty) (m:M1 X o "get" apos e cpos):PE X (.Call (.Attribute o "get" apos) [e] [] cpos) (Ybo td ty):=Yal (by omega) ho he m
end
end L2
namespace L2
open PySem PySem.Spec PyProof.Rows PySem.W
section
variable {X:Cx} {CX:CXT} {k j i:Nat} {sp:Addr->Sp} {x:Str} {p pos:Pos} {e:Expr} {es:List Expr} {t:TA} {R:St->XK}
theorem Jtz {P:Program} {w:World} {K:PySem.W.Frag} {mg:Str->Option Value} {base:Heap} (eP:X.prog=P) (ew:X.w=w) (eK:X.K=K) (em:X.mg=mg) (eb:X.base=base) (G:∀f,CloOk P w K mg base CX0 k f (sp f)) (hr:Room j X.A) (hk:k<=j) (i:Nat) (ha:PA X (e::es) t) (hN:X.N[i]?=some x:=by rfl) (hv:Vis X.env.scope x:=by first|exact ye rfl|exact yad (ye rfl)|exact yad (yad rfl))
  (hd:(x==("__debug__" :Str))=false:=by decide) (hcd:(x==("__classdict__" :Str))=false:=by decide) (he:starEach (e::es) X.env=(false,eval e X.env)::starEach es X.env:=by rfl) (hpl:(backTo pos (starEach es X.env)).any (·.1)=false:=by rfl):
  PE X (.Call (.Name x p) (e::es) [] pos) (Jve i sp (λ_=>E0) t):=by
 subst eP ew eK em eb
 exact Jwb G hr hk i ha hN hv hd hcd he hpl
end
end L2
namespace L2
open PySem PySem.Spec PyProof.Rows PySem.W
section
variable {X:Cx} {o i value:Expr} {pos pos':Pos} {td ty tv:TE}
end
end L2
namespace L2
open PySem PySem.Spec PyProof.Rows PySem.W
def DX (P:Program) (w:World) (a:Addr) (o:Obj) (kvs:List (Key×V)):HO:=
 .ext λh=>h.get? a=some o/\kvs.length<=sizeLine/\(a==sysModules)=false/\∃vs es ep,KV kvs vs/\o.data= .dict es ep/\h.DictAt (Jjm P w) a vs ep
def DK (P:Program) (w:World) (H:Hp) (a:Addr) (kvs:List (Key×V)):Prop:=H a=some (.dK kvs)\/(∃o,H a=some (.frz o (.dK kvs)))\/∃o,H a=some (DX P w a o kvs)
section
variable {P:Program} {w:World} {H H':Hp} {h:Heap} {a:Addr} {o:Obj} {kvs:List (Key×V)}
theorem dk_at (ok:HOk P w H h) (d:DK P w H a kvs):kvs.length<=sizeLine/\(a==sysModules)=false/\∃vs,KV kvs vs/\h.DictOf (Jjm P w) a vs:=by
 rcases d with e|⟨o,e⟩|⟨o,e⟩
 ·exact Jvt ok (.inl e)
 ·exact Jvt ok (.inr ⟨o,e⟩)
 ·obtain ⟨⟨_,z,hd,vs,es,ep,rel,d,da⟩,_⟩:=(show ObjOk P w H h a (DX P w a o kvs) from ok a _ e)
  exact ⟨z,hd,vs,rel,da.dictOf⟩
end
section
variable {X:Cx} {pins:List (Addr×Obj)} {σ:St} {H:Hp} {s:Shared} {a:Addr} {o:Obj} {kvs:List (Key×V)}
def Ybp (P:Program) (w:World) (td ty:TE):TE:=λσ H Q=>td σ H λx H1=>ty σ H1 λy H2=>∃a kvs k v,x= .ref a/\DK P w H2 a kvs/\y=kV k/\Jom kvs k=some v/\Q v H2
theorem Yam {o i:Expr} {pos:Pos} {td ty:TE} (ho:PE X o td) (hi:PE X i ty) (hs:NoSl i):PE X (.Subscript o i pos) (Ybp X.prog X.w td ty):=by
 intro pins s σ H Q I h
 refine Ydi PySem.F.slot_dict_getitem.lookup hs (thn (ho pins s σ H _ I h) λu s1 ⟨x,H1,I1,rx,q1⟩=>thn (hi pins s1 σ H1 _ I1 q1) λiv s2 zq=>?_)
 obtain ⟨y,H2,I2,ry,a,kvs,k,v,ex,g,ey,l,q2⟩:=zq
 subst ex ey
 obtain rfl:u=Value.ref a:=rx
 obtain ⟨z,hd,vs,rel,dd⟩:=dk_at I2.hok g
 obtain ⟨w',hw,rw'⟩:=RelO.some_of (v:=v) (o:=valueAt vs k) (by rw [<-l];exact rel.val k)
 exact ⟨dd.typeIs,wpAny_getItem_of (Jvy ry) dd.mapOf hw ⟨v,H2,I2.tok _,rw',q2⟩⟩
end
end L2
namespace L2
open PySem PySem.Spec PyProof.Rows PySem.W
section
variable {prog:Program} {w:World} {A:Around} {E:Value->Shared->Prop} {s:Shared}
end
section
variable {X:Cx}
end
end L2
namespace L2
open PySem PySem.Spec PyProof.Rows PySem.W
section
variable {X:Cx}
theorem Ju1 {P:Program} {w:World} {o i:Expr} {pos:Pos} {td ty:TE} (hP:X.prog=P) (hw:X.w=w) (ho:PE X o td) (hi:PE X i ty) (hs:NoSl i):PE X (.Subscript o i pos) (Ybp P w td ty):=by
 subst hP hw
 exact Yam ho hi hs
end
end L2
namespace L2
open PySem PySem.Spec PyProof.Rows PySem.W
section
variable {X:Cx}
end
end L2
namespace L2
open PySem PySem.Spec PyProof.Rows PySem.W
theorem CloOk.calm {P:Program} {w:World} {K:PySem.W.Frag} {mg:Str->Option Value} {base:Heap} {k:Nat} {f:Addr} {sp:Sp} (G:CloOk P w K mg base (CXX P w) k f sp):CloOk P w K mg base CX0 k f (λvs H Q _=>sp vs H Q E0):=
 ⟨λvs H Q _ h=>G.isf vs H Q E0 h,λA outer s H us vs Q E hr he hv hs=>codeAny_mono (G.run A outer s H us vs Q E0 hr he hv hs) λr s' hq=>by
  cases r with
  |error e=>obtain ⟨_,_,_,_,_,_,_,_,_,_,_,z⟩:=hq;exact z.elim
  |ok fl=>cases fl <;> exact hq⟩
end L2
namespace L2
open PySem PySem.Spec PyProof.Rows PySem.W
section
variable {X:Cx} {x:Str} {np pos:Pos} {C0:Addr} {b₀:Stmt} {suite:List Stmt} {rest:List ExceptHandler} {ts:Addr->TS} {th:TH}
end
end L2

namespace K73
open PySem L2 PyProof.Rows PySem.NumText
def top (i:Nat):Stmt:=PySem.Challenge.pw_weirwatch_k73_promises_refused.main.body.getD i (.Pass ⟨0,0,0,0⟩)
set_option genInjectivity false in
structure Ad where
 Jem:Addr
 Jen:FuncData
 Jeo:Addr
 Jep:FuncData
 Jeq:Addr
 Jer:FuncData
 Jes:Addr
 Jet:FuncData
 Jeu:Addr
 Jev:FuncData
 Jew:Addr
 Jex:FuncData
 Jey:Addr
 Jez:FuncData
 Jf0:Addr
 Jf1:FuncData
 Jf2:Addr
 Jf3:FuncData
 Jf4:Addr
 Jf5:FuncData
 Jf6:Addr
 Jf7:FuncData
 Jf8:Addr
 Jf9:FuncData
 Jfa:Addr
 Jfb:FuncData
 Jfc:Addr
 Jfd:FuncData
 Jfe:Addr
 Jff:FuncData
 Jfg:Addr
 Jfh:FuncData
 Jfi:Addr
 Jfj:FuncData
 Jfk:Addr
 Jfl:FuncData
 Jfm:Addr
 Jfn:FuncData
 Jfo:Addr
 Jfp:FuncData
 Jfq:Addr
 Jfr:FuncData
 Jfs:Addr
 Jft:FuncData
 Jfu:Addr
 Jfv:FuncData
 Jfw:Addr
 Jfx:FuncData
 Jfy:Addr
 Jfz:FuncData
 Jg0:Addr
 Jg1:FuncData
 Jg2:Addr
 Jg3:FuncData
 Jg4:Addr
 Jg5:FuncData
 Jg6:Addr
 Jg7:FuncData
 Jg8:Addr
 Jg9:FuncData
 Jga:Addr
 Jgb:FuncData
 Jgc:Addr
 Jgd:FuncData
 Jge:Addr
 Jgf:FuncData
 Jgg:Addr
 Jgh:FuncData
 Jgi:Addr
 Jgj:FuncData
 Jgk:Addr
 Jgl:FuncData
 Jgm:Addr
 Jgn:FuncData
 Jgo:Addr
 Jgp:FuncData
 Jgq:Addr
 Jgr:FuncData
 Jgs:Addr
 Jgt:FuncData
 Jgu:Addr
 Jgv:FuncData
 Jgw:Addr
 Jgx:FuncData
 Jgy:Addr
 Jgz:FuncData
 Jh0:Addr
 Jh1:FuncData
 Jh2:Addr
 Jh3:FuncData
 Jh4:Addr
 Jh5:FuncData
 Jh6:Addr
 Jh7:FuncData
 Jh8:Addr
 Jh9:FuncData
 Jha:Addr
 Jhb:FuncData
 Jhc:Addr
 Jhd:FuncData
 Jhe:Addr
 Jhf:FuncData
 Jhg:Addr
 Jhh:FuncData
 Jhi:Addr
 Jhj:FuncData
 Jhk:Addr
 Jhl:FuncData
 Jhm:Addr
 Jhn:FuncData
 Jho:Addr
 Jhp:FuncData
 Jhq:Addr
 Jhr:FuncData
 Jhs:Addr
 Jht:FuncData
 Jhu:Addr
 Jhv:FuncData
 Jhw:Addr
 Jhx:FuncData
 Jhy:Addr
 Jhz:FuncData
 Ji0:Addr
 Ji1:FuncData
 Ji2:Addr
 Ji3:FuncData
 Ji4:Addr
 Ji5:FuncData
 Ji6:Addr
 Ji7:FuncData
 Ji8:Addr
 Ji9:FuncData
 Jia:Addr
 Jib:FuncData
 a_law:Addr
 d_law:FuncData
 Jic:Tok
 Jid:Tok
 Jie:Tok
 Jif:Tok
 Jig:Tok
 Jih:Tok
 Jii:Tok
 Jij:Tok
 Jik:Tok
 Jil:Tok
 Jim:Tok
 Jin:Addr
 Jio:Addr
 Jip:Addr
 Jiq:Addr
 Jir:Addr
 Jis:Addr
 Jit:Addr
 Jiu:Addr
 Jiv:Addr
 Jiw:Addr
 Jix:Addr
 Jiy:Addr
 Jiz:Addr
 Jj0:Addr
 Jj1:Addr
 Jj2:Addr
 Jj3:Addr
 Jj4:Addr
 Jj5:Addr
 Jj6:Addr
 Jj7:Addr
structure Tx (K:W.Frag) (mg:Str->Option Value) (a:Ad):Prop where
 J0:FT K mg "is_whole" (top 15) ["thing","low","high"] a.Jf2 a.Jf3
 J1:FT K mg "is_made_of" (top 16) ["text","signs"] a.Jf4 a.Jf5
 J2:FT K mg "is_name" (top 17) ["thing"] a.Jf6 a.Jf7
 J3:FT K mg "is_row" (top 19) ["thing","lows","highs"] a.Jf8 a.Jf9
 J4:FT K mg "is_pair" (top 20) ["thing"] a.Jfa a.Jfb
 J5:FT K mg "is_standing" (top 21) ["river","thing"] a.Jfc a.Jfd
 J6:FT K mg "found_by_rounds" (top 23) ["many","comes"] a.Jfe a.Jff
 J7:FT K mg "is_safe" (top 24) ["ends","lost"] a.Jfg a.Jfh
 J8:FT K mg "is_promised" (top 27) ["thing"] a.Jfi a.Jfj
 J9:FT K mg "refuse_no_bounds" (top 28) ["up","hi"] a.Jfk a.Jfl
 Ja:FT K mg "levels_of" (top 29) ["basin"] a.Jfm a.Jfn
 Jb:FT K mg "ends_alone" (top 30) ["basin","up","level","setting"] a.Jfo a.Jfp
 Jc:FT K mg "ends_by_setting" (top 31) ["basin","up","hi","level"] a.Jfq a.Jfr
 Jd:FT K mg "lost_alone" (top 32) ["ways"] a.Jfs a.Jft
 Je:FT K mg "settings_alone" (top 33) ["basin","up","hi"] a.Jfu a.Jfv
 Jf:FT K mg "first_safe" (top 34) ["by_setting","lost"] a.Jfw a.Jfx
 Jg:FT K mg "lone_levels" (top 35) ["basin","up","hi"] a.Jfy a.Jfz
 Jh:FT K mg "lone_setting" (top 36) ["basin","up","hi","level"] a.Jg0 a.Jg1
 Ji:FT K mg "lone_lost" (top 37) ["basin","up","hi"] a.Jg2 a.Jg3
 Jj:FT K mg "bad_by_setting" (top 38) ["basin","ways","lost","number"] a.Jg4 a.Jg5
 Jk:FT K mg "are_numbers" (top 40) ["river","thing"] a.Jg6 a.Jg7
 Jl:FT K mg "settings_by" (top 41) ["river","numbers"] a.Jg8 a.Jg9
 Jm:FT K mg "first_lost" (top 42) ["levels","by_basin"] a.Jga a.Jgb
 Jn:FT K mg "are_promises" (top 43) ["river","numbers"] a.Jgc a.Jgd
 Jo:FT K mg "refuse_lost" (top 44) ["levels","by_basin"] a.Jge a.Jgf
 Jp:FT K mg "local_keeper" (top 45) ["river","numbers"] a.Jgg a.Jgh
 Jq:FT K mg "are_marks" (top 50) ["thing","lowest"] a.Jgi a.Jgj
 Jr:FT K mg "kept_marks" (top 51) ["marks","lowest"] a.Jgk a.Jgl
 Js:FT K mg "refuse_no_level" (top 64) ["thing","low","high"] a.Jh6 a.Jh7
 Jt:FT K mg "are_unlike" (top 67) ["names"] a.Jha a.Jhb
 Ju:FT K mg "are_basins" (top 68) ["thing"] a.Jhc a.Jhd
 Jv:FT K mg "are_towns" (top 69) ["thing","basins"] a.Jhe a.Jhf
 Jw:FT K mg "_law_cell" (top 72) ["_law_script","_law_k"] a.Jhk a.Jhl
 Jx:FT K mg "_law_stream" (top 73) ["_law_cell_here"] a.Jhm a.Jhn
 Jy:FT K mg "_law_take" (top 74) ["_law_stream_here","_law_many"] a.Jho a.Jhp
 Jz:FT K mg "_law_marks" (top 75) ["_law_stream_here","_law_least"] a.Jhq a.Jhr
 Ja0:FT K mg "_law_basin" (top 76) ["_law_stream_here","_law_name"] a.Jhs a.Jht
 Ja1:FT K mg "_law_gate" (top 77) ["_law_kind","_law_marks_here"] a.Jhu a.Jhv
 Ja2:FT K mg "_law_made" (top 78) ["_law_told"] a.Jhw a.Jhx
 Ja3:FT K mg "_law_odd" (top 80) ["_law_stream_here","_law_low","_law_high"] a.Jhy a.Jhz
 Ja4:FT K mg "_law_refused" (top 81) ["_law_way","_law_one","_law_up","_law_hi","_law_level"] a.Ji0 a.Ji1
 Ja5:FT K mg "_law_same" (top 82) ["_law_found","_law_thing"] a.Ji2 a.Ji3
 Ja6:FT K mg "_law_lone_right" (top 83) ["_law_stream_here","_law_basin_here","_law_told"] a.Ji4 a.Ji5
 Ja7:FT K mg "_law_no_list" (top 84) ["_law_stream_here","_law_good"] a.Ji6 a.Ji7
 Ja8:FT K mg "_law_asked_odd" (top 85) ["_law_keeper","_law_thing"] a.Ji8 a.Ji9
 Ja9:FT K mg "_law_safe_river" (top 86) [] a.Jia a.Jib
 f_law:FT K mg "law" (top 87) ["_law_script"] a.a_law a.d_law
 Jaa:mg "LETTERS" =some (.str "abcdefghijklmnopqrstuvwxyz" a.Jic)
 Jab:mg "MOST_LETTERS" =some (.int 8 a.Jid)
 Jac:mg "MOST_PROMISED" =some (.int 12 a.Jie)
 Jad:mg "MOST_SETTINGS" =some (.int 4 a.Jif)
 Jae:mg "HIGHEST_MARK" =some (.int 12 a.Jig)
 Jaf:mg "HIGHEST_LEVEL" =some (.int 1000 a.Jih)
 Jag:mg "HIGHEST" =some (.int 12 a.Jii)
 Jah:mg "MOST_RAIN" =some (.int 6 a.Jij)
 Jai:mg "MOST_CLOUD" =some (.int 12 a.Jik)
 Jaj:mg "MOST_BASINS" =some (.int 16 a.Jil)
 Jak:mg "MOST_TOWNS" =some (.int 3 a.Jim)
 Jal:mg "all" =none
 Jam:mg "any" =none
 Jan:mg "bool" =none
 Jao:mg "dict" =none
 Jap:mg "enumerate" =none
 Jaq:mg "int" =none
 Jar:mg "isinstance" =none
 Jas:mg "len" =none
 Jat:mg "list" =none
 Jau:mg "max" =none
 Jav:mg "min" =none
 Jaw:mg "range" =none
 Jax:mg "set" =none
 Jay:mg "sorted" =none
 Jaz:mg "str" =none
 Jb0:mg "tuple" =none
 Jb1:mg "zip" =none
 Jb2:mg "WeirError" =some (.ref a.Jin)
 Jb3:mg "NoName" =some (.ref a.Jio)
 Jb4:mg "NoGate" =some (.ref a.Jip)
 Jb5:mg "NoBasin" =some (.ref a.Jiq)
 q79:mg "NoTown" =some (.ref a.Jir)
 Jb6:mg "NoCloud" =some (.ref a.Jis)
 Jb7:mg "NoRiver" =some (.ref a.Jit)
 Jb8:mg "NoStanding" =some (.ref a.Jiu)
 Jb9:mg "NoNumber" =some (.ref a.Jiv)
 Jba:mg "NoPromise" =some (.ref a.Jiw)
 Jbb:mg "Gate" =some (.ref a.Jix)
 Jbc:mg "StepGate" =some (.ref a.Jiy)
 Jbd:mg "FlapGate" =some (.ref a.Jiz)
 Jbe:mg "PartGate" =some (.ref a.Jj0)
 Jbf:mg "Basin" =some (.ref a.Jj1)
 Jbg:mg "Town" =some (.ref a.Jj2)
 Jbh:mg "River" =some (.ref a.Jj3)
 q92:W.findIn K (.ref a.Jio) "__init__" =some (some (.ref a.Jem))
 q93:W.findIn K (.ref a.Jip) "__init__" =some (some (.ref a.Jeo))
 q94:W.findIn K (.ref a.Jiq) "__init__" =some (some (.ref a.Jeq))
 q95:W.findIn K (.ref a.Jis) "__init__" =some (some (.ref a.Jes))
 q96:W.findIn K (.ref a.Jit) "__init__" =some (some (.ref a.Jeu))
 q97:W.findIn K (.ref a.Jiu) "__init__" =some (some (.ref a.Jew))
 q98:W.findIn K (.ref a.Jiv) "__init__" =some (some (.ref a.Jey))
 q99:W.findIn K (.ref a.Jiw) "__init__" =some (some (.ref a.Jf0))
 Jbi:W.findIn K (.ref a.Jix) "lets" =some (some (.ref a.Jgm))
 Jbj:W.findIn K (.ref a.Jiy) "__init__" =some (some (.ref a.Jgo))
 Jbk:W.findIn K (.ref a.Jiy) "settings" =some (some (.ref a.Jgq))
 Jbl:W.findIn K (.ref a.Jiy) "passes" =some (some (.ref a.Jgs))
 Jbm:W.findIn K (.ref a.Jiz) "__init__" =some (some (.ref a.Jgu))
 Jbn:W.findIn K (.ref a.Jiz) "settings" =some (some (.ref a.Jgw))
 Jbo:W.findIn K (.ref a.Jiz) "passes" =some (some (.ref a.Jgy))
 Jbp:W.findIn K (.ref a.Jj0) "__init__" =some (some (.ref a.Jh0))
 Jbq:W.findIn K (.ref a.Jj0) "settings" =some (some (.ref a.Jh2))
 Jbr:W.findIn K (.ref a.Jj0) "passes" =some (some (.ref a.Jh4))
 Jbs:W.findIn K (.ref a.Jj1) "__init__" =some (some (.ref a.Jh8))
 Jbt:W.findIn K (.ref a.Jj3) "__init__" =some (some (.ref a.Jhg))
 Jbu:W.findIn K (.ref a.Jj3) "beginning" =some (some (.ref a.Jhi))
 Jbv:FM K "__init__" "NoName.__init__" (Jjr (top 3) 0) ["self","thing"] a.Jem a.Jen
 Jbw:FM K "__init__" "NoGate.__init__" (Jjr (top 4) 0) ["self","thing"] a.Jeo a.Jep
 Jbx:FM K "__init__" "NoBasin.__init__" (Jjr (top 5) 0) ["self","thing"] a.Jeq a.Jer
 Jby:FM K "__init__" "NoCloud.__init__" (Jjr (top 7) 0) ["self","thing"] a.Jes a.Jet
 Jbz:FM K "__init__" "NoRiver.__init__" (Jjr (top 8) 0) ["self","thing"] a.Jeu a.Jev
 Jc0:FM K "__init__" "NoStanding.__init__" (Jjr (top 9) 0) ["self","thing"] a.Jew a.Jex
 Jc1:FM K "__init__" "NoNumber.__init__" (Jjr (top 10) 0) ["self","thing"] a.Jey a.Jez
 Jc2:FM K "__init__" "NoPromise.__init__" (Jjr (top 11) 0) ["self","basin"] a.Jf0 a.Jf1
 Jc3:FM K "lets" "Gate.lets" (Jjr (top 53) 0) ["self","setting","level"] a.Jgm a.Jgn
 Jc4:FM K "__init__" "StepGate.__init__" (Jjr (top 54) 0) ["self","marks"] a.Jgo a.Jgp
 Jc5:FM K "settings" "StepGate.settings" (Jjr (top 54) 1) ["self"] a.Jgq a.Jgr
 Jc6:FM K "passes" "StepGate.passes" (Jjr (top 54) 2) ["self","setting","level"] a.Jgs a.Jgt
 Jc7:FM K "__init__" "FlapGate.__init__" (Jjr (top 55) 0) ["self","marks"] a.Jgu a.Jgv
 Jc8:FM K "settings" "FlapGate.settings" (Jjr (top 55) 1) ["self"] a.Jgw a.Jgx
 Jc9:FM K "passes" "FlapGate.passes" (Jjr (top 55) 2) ["self","setting","level"] a.Jgy a.Jgz
 Jca:FM K "__init__" "PartGate.__init__" (Jjr (top 56) 0) ["self","marks"] a.Jh0 a.Jh1
 Jcb:FM K "settings" "PartGate.settings" (Jjr (top 56) 1) ["self"] a.Jh2 a.Jh3
 Jcc:FM K "passes" "PartGate.passes" (Jjr (top 56) 2) ["self","setting","level"] a.Jh4 a.Jh5
 Jcd:FM K "__init__" "Basin.__init__" (Jjr (top 65) 0) ["self","name","low","high","start","rain","gate"] a.Jh8 a.Jh9
 Jce:FM K "__init__" "River.__init__" (Jjr (top 70) 0) ["self","cloud","gain","basins","towns"] a.Jhg a.Jhh
 Jcf:FM K "beginning" "River.beginning" (Jjr (top 70) 2) ["self"] a.Jhi a.Jhj
 Jcg:XCls K a.Jio a.Jin a.Jem
 Jch:XCls K a.Jip a.Jin a.Jeo
 Jci:XCls K a.Jiq a.Jin a.Jeq
 Jcj:XCls K a.Jis a.Jin a.Jes
 Jck:XCls K a.Jit a.Jin a.Jeu
 Jcl:XCls K a.Jiu a.Jin a.Jew
 Jcm:ECls K a.Jiu
 Jcn:XCls K a.Jiv a.Jin a.Jey
 Jco:ECls K a.Jiv
 Jcp:XCls K a.Jiw a.Jin a.Jf0
 Jcq:Cls K a.Jiy
 Jcr:YCls K a.Jiy
 Jcs:Mk K a.Jiy a.Jgo
 Jct:Jof K a.Jiy "lets" a.Jgm
 Jcu:Jof K a.Jiy "settings" a.Jgq
 Jcv:Jof K a.Jiy "passes" a.Jgs
 Jcw:Cls K a.Jiz
 Jcx:YCls K a.Jiz
 Jcy:Mk K a.Jiz a.Jgu
 Jcz:Jof K a.Jiz "lets" a.Jgm
 Jd0:Jof K a.Jiz "settings" a.Jgw
 Jd1:Jof K a.Jiz "passes" a.Jgy
 Jd2:Cls K a.Jj0
 Jd3:YCls K a.Jj0
 Jd4:Mk K a.Jj0 a.Jh0
 Jd5:Jof K a.Jj0 "lets" a.Jgm
 Jd6:Jof K a.Jj0 "settings" a.Jh2
 Jd7:Jof K a.Jj0 "passes" a.Jh4
 Jd8:Cls K a.Jj1
 Jd9:YCls K a.Jj1
 Jda:Mk K a.Jj1 a.Jh8
 Jdb:Cls K a.Jj2
 Jdc:YCls K a.Jj2
 Jdd:Cls K a.Jj3
 Jde:Mk K a.Jj3 a.Jhg
 Jdf:Jof K a.Jj3 "beginning" a.Jhi
 Jdg:NoAttr K a.Jio "thing"
 Jdh:NoAttr K a.Jip "thing"
 Jdi:NoAttr K a.Jiq "thing"
 Jdj:NoAttr K a.Jiu "thing"
 Jdk:NoAttr K a.Jiv "thing"
 Jdl:NoAttr K a.Jiw "basin"
 Jdm:NoAttr K a.Jiy "marks"
 Jdn:NoAttr K a.Jiz "marks"
 Jdo:NoAttr K a.Jj0 "marks"
 Jdp:NoAttr K a.Jj1 "name"
 Jdq:NoAttr K a.Jj1 "low"
 Jdr:NoAttr K a.Jj1 "high"
 Jds:NoAttr K a.Jj1 "start"
 Jdt:NoAttr K a.Jj1 "rain"
 Jdu:NoAttr K a.Jj1 "gate"
 Jdv:NoAttr K a.Jj2 "name"
 Jdw:NoAttr K a.Jj2 "basin"
 Jdx:NoAttr K a.Jj3 "cloud"
 Jdy:NoAttr K a.Jj3 "gain"
 Jdz:NoAttr K a.Jj3 "basins"
 Je0:NoAttr K a.Jj3 "towns"
 Je1:Nst K a.Jfs a.Jj4 a.Jj5
 Je2:W.tabIn K "lost_alone" =some (a.Jj4,a.Jj5)
 Je3:Nst K a.Jgg a.Jj6 a.Jj7
 Je4:W.tabIn K "local_keeper" =some (a.Jj6,a.Jj7)
 tnd: [a.Jj5,a.Jj7].Nodup
 Je5:W.kitOne K (.ref a.Jiy) (.ref a.Jix)=some true
 Je6:W.kitOne K (.ref a.Jiz) (.ref a.Jix)=some true
 Je7:W.kitOne K (.ref a.Jj0) (.ref a.Jix)=some true
 Je8:W.kitOne K (.ref a.Jj1) (.ref a.Jj1)=some true
 Je9:W.kitOne K (.ref a.Jj2) (.ref a.Jj2)=some true
 Jea:W.kitOne K (.ref a.Jiy) (.type "bool")=some false
 Jeb:W.kitOne K (.ref a.Jiz) (.type "bool")=some false
 Jec:W.kitOne K (.ref a.Jj0) (.type "bool")=some false
 Jed:W.kitAny K (.ref a.Jiy) [.ref a.Jiy,.ref a.Jiz,.ref a.Jj0]=some true
 Jee:W.kitAny K (.ref a.Jiz) [.ref a.Jiy,.ref a.Jiz,.ref a.Jj0]=some true
 Jef:W.kitAny K (.ref a.Jj0) [.ref a.Jiy,.ref a.Jiz,.ref a.Jj0]=some true
 Jeg:W.mroIn K a.Jiv (.ref a.Jiv)=some true
 Jeh:W.mroIn K a.Jiu (.ref a.Jiu)=some true
 Jei:W.kitOne K (.ref a.Jiv) (.ref a.Jin)=some true
 Jej:W.kitOne K (.ref a.Jiu) (.ref a.Jin)=some true
 Jek:W.kitAny K (.ref a.Jiv) [.ref a.Jiw,.ref a.Jiu]=some false
 Jel:W.kitAny K (.ref a.Jiu) [.ref a.Jiw,.ref a.Jiv]=some false
def Jkm:Int->List V->Bool
 |_,[]=>true
 |lo,.int i::r=>(decide (lo<=i)&&decide (i<=12))&&Jkm (i+1) r
 |_,_::_=>false
def Jma (lo:Int) (xs:List V):Bool:=decide (1<=xs.length/\xs.length<=4)&&Jkm lo xs
theorem Jqw (lo:Int) (x:V) (r:List V):Jkm lo (x::r)=(Jjo x lo 12&&match x with| .int i=>Jkm (i+1) r|_=>false):=by
 cases x <;> simp [Jkm,Jjo]
inductive Sq (H:Hp):V->List V->Prop where
 |lst {p:Addr} {xs:List V}:H p=some (.lst xs)->Sq H (.ref p) xs
 |tup {p:Addr} {xs:List V}:H p=some (.tup xs)->Sq H (.ref p) xs
theorem Sq.same {H H':Hp} {x:V} {xs:List V} (s:Same H H') (h:Sq H x xs):Sq H' x xs:=by
 cases h with
 |lst e=>exact .lst (s _ _ e)
 |tup e=>exact .tup (s _ _ e)
theorem Sq.ty {K:W.Frag} {H:Hp} {x:V} {xs:List V} (h:Sq H x xs):∃t,TyX K H x t/\tpB t=true/\W.kitAny K t [.type "list",.type "tuple"]=some true:=by
 cases h with
 |lst e=>exact ⟨_,.of (.lst e),rfl,rfl⟩
 |tup e=>exact ⟨_,.of (.tup e),rfl,rfl⟩
inductive Shp (K:W.Frag) (H:Hp) (lo:Int):V->Bool->Prop where
 |seq {x:V} {xs:List V}:Sq H x xs->(∀y∈xs,Tm K H y)->Shp K H lo x (Jma lo xs)
 |non {x:V} {t:Value}:TyX K H x t->W.kitAny K t [.type "list",.type "tuple"]=some false->Shp K H lo x false
def spAre (K:W.Frag):Sp:=λvs H Q _=>∃(x:V) (lo:Int) (b:Bool),vs= [x,.int lo]/\Shp K H lo x b/\∀H',Same H H'->Q (.bl b) H'
def Rf (a:Ad) (H H':Hp) (x:V) (c:Value) (eo:Option Addr):Prop:=∃e dx,c= .ref a.Jip/\eo=some e/\Same H H'/\H' e=some (XO e a.Jip (some dx) false)/\H' dx=some (XD dx [("thing",x)])
theorem Rf.of {a:Ad} {H H1 H':Hp} {x:V} {c:Value} {eo:Option Addr} (s:Same H H1) (h:Rf a H1 H' x c eo):Rf a H H' x c eo:=by
 obtain ⟨e,dx,h1,h2,h3,h4,h5⟩:=h
 exact ⟨e,dx,h1,h2,s.trans h3,h4,h5⟩
theorem Rf.new {a:Ad} {H:Hp} {x:V} {e dx:Addr} (h1:H e=none) (h2:H dx=none) (ne:dx≠e):Rf a H (upd (upd (upd H dx (XD dx [("thing",x)])) e (XO e a.Jip (some dx) true)) e (XO e a.Jip (some dx) false)) x (.ref a.Jip) (some e):=by
 refine ⟨e,dx,rfl,rfl,?_,Jj9,?_⟩
 ·rw [Jmq]
  intro b o q
  rw [Jjg (Jjh q h1),Jjg (Jjh q h2)]
  exact q
 ·rw [Jjg ne,Jjg ne,Jj9]
def spKept (K:W.Frag) (a:Ad):Sp:=λvs H Q E=>∃(x:V) (lo:Int),vs= [x,.int lo]/\
 ((∃xs,Sq H x xs/\(∀y∈xs,Tm K H y)/\Jma lo xs=true/\∀t H',Same H H'->H' t=some (.tup xs)->Q (.ref t) H')\/(Shp K H lo x false/\∀c eo H',Rf a H H' x c eo->E c eo H'))
def IsC (a:Ad) (C:Addr):Prop:=C=a.Jiy\/C=a.Jiz\/C=a.Jj0
def GateAt (C:Addr) (H:Hp) (g:Addr) (xs:List V):Prop:=∃dx t,H g=some (.ins C dx [("marks",.ref t)])/\H t=some (.tup xs)
theorem GateAt.same {C:Addr} {H H':Hp} {g:Addr} {xs:List V} (s:Same H H') (h:GateAt C H g xs):GateAt C H' g xs:=by obtain ⟨dx,t,h1,h2⟩:=h;exact ⟨dx,t,s _ _ h1,s _ _ h2⟩
def Jvd (K:W.Frag) (a:Ad) (lo:Int):Sp:=λvs H Q E=>∃(p C dx:Addr) (x:V),vs= [.ref p,x]/\H p=some (.ins C dx [])/\Cls K C/\NoAttr K C "marks" /\
 ((∃xs,Sq H x xs/\(∀y∈xs,Tm K H y)/\Jma lo xs=true/\∀t H',Same H H'->H' t=some (.tup xs)->Q .non (upd H' p (.ins C dx [("marks",.ref t)])))\/(Shp K H lo x false/\∀c eo H',Rf a H H' x c eo->E c eo H'))
def Ybf (C:Addr):Sp:=λvs H Q _=>∃(p:Addr) (xs:List V),vs= [.ref p]/\GateAt C H p xs/\Q (.int xs.length) H
inductive GS (K:W.Frag) (a:Ad) (H:Hp):V->Nat->Prop where
 |plain {g C:Addr} {xs:List V}:IsC a C->GateAt C H g xs->xs.length<=4->GS K a H (.ref g) xs.length
theorem GS.same {K:W.Frag} {a:Ad} {H H':Hp} {x:V} {n:Nat} (s:Same H H') (h:GS K a H x n):GS K a H' x n:=by
 cases h with
 |plain i g l=>exact .plain i (g.same s) l
def Knd (z:Str):Prop:=z=("step" :Str)\/z=("flap" :Str)\/z=("part" :Str)
def Jms (z:Str):Int:=if z=("part" :Str) then 1 else 0
def cOf (a:Ad) (z:Str):Addr:=if z=("step" :Str) then a.Jiy else if z=("flap" :Str) then a.Jiz else a.Jj0
theorem cOf_is {a:Ad} {z:Str}:IsC a (cOf a z):=by
 unfold cOf
 split
 ·exact .inl rfl
 ·split
  ·exact .inr (.inl rfl)
  ·exact .inr (.inr rfl)
theorem Jw4:¬(("part" :Str)="step"):=by decide +kernel
theorem Jw3:¬(("part" :Str)="flap"):=by decide +kernel
theorem Jtu:¬(("flap" :Str)="step"):=by decide +kernel
theorem ne_fp:¬(("flap" :Str)="part"):=by decide +kernel
theorem ne_sp:¬(("step" :Str)="part"):=by decide +kernel
theorem strN {x y:Str} (h:¬x=y):¬V.str x=V.str y:=λe=>h (V.str.inj e)
def LET:Str:="abcdefghijklmnopqrstuvwxyz"
def Jvl (g z:Str):Bool:=z.cps.toList.all λc=>decide (c∈g.cps.toList)
def Jqz (z:Str):Bool:=decide (1<=z.length/\z.length<=8)&&Jvl LET z
structure Wd (n:Nat) (z:Str):Prop where
 len:z.length<=n
 low:∀c∈z.cps.toList,c < 128
theorem Ych (z:Str):z.cps.toList.length=z.length:=ybg
theorem Jya {z:Str} {n:Nat} (h:(decide (z.length<=n)&&z.cps.toList.all (λc=>decide (c < 128)))=true):Wd n z:=by
 rw [yac] at h
 exact ⟨of_decide_eq_true h.1,λc hc=>of_decide_eq_true (yar.mp h.2 c hc)⟩
def Jm3:V->Bool
 | .str z=>Jqz z
 |_=>false
def Nmd (K:W.Frag) (H:Hp) (x:V):Prop:=Tm K H x/\∀z,x= .str z->Wd 50 z
def spMade:Sp:=λvs H Q _=>∃z g:Str,vs= [.str z,.str g]/\z.length<=2000/\∀H',Same H H'->Q (.bl (Jvl g z)) H'
def spName (K:W.Frag):Sp:=λvs H Q _=>∃x:V,vs= [x]/\Nmd K H x/\∀H',Same H H'->Q (.bl (Jm3 x)) H'
def RfC (C:Addr) (H H':Hp) (x:V) (c:Value) (eo:Option Addr):Prop:=∃e dx,c= .ref C/\eo=some e/\Same H H'/\H' e=some (XO e C (some dx) false)/\H' dx=some (XD dx [("thing",x)])
theorem RfC.of {C:Addr} {H H1 H':Hp} {x:V} {c:Value} {eo:Option Addr} (s:Same H H1) (h:RfC C H1 H' x c eo):RfC C H H' x c eo:=by
 obtain ⟨e,dx,h1,h2,h3,h4,h5⟩:=h
 exact ⟨e,dx,h1,h2,s.trans h3,h4,h5⟩
theorem RfC.new {C:Addr} {H:Hp} {x:V} {e dx:Addr} (h1:H e=none) (h2:H dx=none) (ne:dx≠e):RfC C H (upd (upd (upd H dx (XD dx [("thing",x)])) e (XO e C (some dx) true)) e (XO e C (some dx) false)) x (.ref C) (some e):=by
 refine ⟨e,dx,rfl,rfl,?_,Jj9,?_⟩
 ·rw [Jmq]
  intro b o q
  rw [Jjg (Jjh q h1),Jjg (Jjh q h2)]
  exact q
 ·rw [Jjg ne,Jjg ne,Jj9]
def Y2 (K:W.Frag) (a:Ad):Sp:=λvs H Q E=>∃(x:V) (lo hi:Int),vs= [x,.int lo,.int hi]/\Tm K H x/\((Jjo x lo hi=true/\Q .non H)\/(Jjo x lo hi=false/\∀c eo H',RfC a.Jiq H H' x c eo->E c eo H'))
inductive Due (n lo hi st rn g:V) (gb:Bool):Option (Nat×V)->Prop
 |name:Jm3 n=false->Due n lo hi st rn g gb (some (0,n))
 |low:Jm3 n=true->Jjo lo 0 12=false->Due n lo hi st rn g gb (some (1,lo))
 |high (l:Int):Jm3 n=true->lo= .int l->Jjo lo 0 12=true->Jjo hi l 12=false->Due n lo hi st rn g gb (some (1,hi))
 |start (l h:Int):Jm3 n=true->lo= .int l->hi= .int h->Jjo lo 0 12=true->Jjo hi l 12=true->Jjo st l h=false->Due n lo hi st rn g gb (some (1,st))
 |rain (l h:Int):Jm3 n=true->lo= .int l->hi= .int h->Jjo lo 0 12=true->Jjo hi l 12=true->Jjo st l h=true->Jjo rn 0 6=false->Due n lo hi st rn g gb (some (1,rn))
 |gate (l h:Int):Jm3 n=true->lo= .int l->hi= .int h->Jjo lo 0 12=true->Jjo hi l 12=true->Jjo st l h=true->Jjo rn 0 6=true->gb=false->Due n lo hi st rn g gb (some (2,g))
 |good (l h:Int):Jm3 n=true->lo= .int l->hi= .int h->Jjo lo 0 12=true->Jjo hi l 12=true->Jjo st l h=true->Jjo rn 0 6=true->gb=true->Due n lo hi st rn g gb none
inductive DueT (n b wt:V):Option (Nat×V)->Prop
 |name:Jm3 n=false->DueT n b wt (some (0,n))
 |basin:Jm3 n=true->Jm3 b=false->DueT n b wt (some (0,b))
 |want:Jm3 n=true->Jm3 b=true->Jjo wt 1 6=false->DueT n b wt (some (3,wt))
 |good:Jm3 n=true->Jm3 b=true->Jjo wt 1 6=true->DueT n b wt none
def clsK (a:Ad):Nat->Addr
 |0=>a.Jio
 |1=>a.Jiq
 |2=>a.Jip
 |_=>a.Jir
def GtI (K:W.Frag) (a:Ad) (H:Hp) (g:V) (gb:Bool):Prop:=∃t,TyX K H g t/\W.kitOne K t (.ref a.Jix)=some gb/\W.kitAny K t [.ref a.Jiy,.ref a.Jiz,.ref a.Jj0]=some gb/\
 ∃b,W.kitOne K t (.type "bool")=some b/\(gb=true->b=false)/\t≠ .type "float"
def Jsu (n lo hi st rn g:V):List (Str×V):=[("name",n),("low",lo),("high",hi),("start",st),("rain",rn),("gate",g)]
def twnF (n b wt:V):List (Str×V):=[("name",n),("basin",b),("want",wt)]
def Ends1 (a:Ad) (d:Option (Nat×V)) (H:Hp) (E:XK) (G:Prop):Prop:=match d with
 |none=>G
 |some (k,x)=>∀c eo H',RfC (clsK a k) H H' x c eo->E c eo H'
def Yd0 (K:W.Frag) (a:Ad):Sp:=λvs H Q E=>∃(p dx:Addr) (n lo hi st rn g:V) (gb:Bool) (d:Option (Nat×V)),vs= [.ref p,n,lo,hi,st,rn,g]/\H p=some (.ins a.Jj1 dx [])/\Nmd K H n/\Tm K H lo/\Tm K H hi/\Tm K H st/\Tm K H rn/\GtI K a H g gb/\Due n lo hi st rn g gb d/\
 Ends1 a d H E (∀H',Same H H'->Q .non (upd H' p (.ins a.Jj1 dx (Jsu n lo hi st rn g))))
theorem Jmp {K:W.Frag} {H H':Hp} {x:V} {t:Value} (s:Same H H') (h:TyX K H x t):TyX K H' x t:=h.same (λb o _ q=>s b o q) (λb fs q=>s b _ q)
theorem GtI.same {K:W.Frag} {a:Ad} {H H':Hp} {g:V} {gb:Bool} (s:Same H H') (h:GtI K a H g gb):GtI K a H' g gb:=by obtain ⟨t,ty,r⟩:=h;exact ⟨t,Jmp s ty,r⟩
theorem ty_str {K:W.Frag} {H:Hp} {x:V} {t:Value} (h:TyX K H x t) (e:t= .type "str"):∃z,x= .str z:=by
 cases h with
 |exc=>cases e
 |of ty=>
  cases ty with
  |str z=>exact ⟨z,rfl⟩
  |ins=>cases e
  |non=>exact absurd (Value.type.inj e) (by decide)
  |bl=>exact absurd (Value.type.inj e) (by decide)
  |int=>exact absurd (Value.type.inj e) (by decide)
  |flt=>exact absurd (Value.type.inj e) (by decide)
  |lst=>exact absurd (Value.type.inj e) (by decide)
  |frz=>exact absurd (Value.type.inj e) (by decide)
  |tup=>exact absurd (Value.type.inj e) (by decide)
  |dK=>exact absurd (Value.type.inj e) (by decide)
  |dT=>exact absurd (Value.type.inj e) (by decide)
structure Bsn where
 z:Str
 lo:Int
 hi:Int
 st:Int
 rn:Int
 g:V
 n:Nat
def BasAt (K:W.Frag) (a:Ad) (H:Hp) (o:Addr) (B:Bsn):Prop:=∃dx,H o=some (.ins a.Jj1 dx (Jsu (.str B.z) (.int B.lo) (.int B.hi) (.int B.st) (.int B.rn) B.g))/\GS K a H B.g B.n
theorem BasAt.same {K:W.Frag} {a:Ad} {H H':Hp} {o:Addr} {B:Bsn} (s:Same H H') (h:BasAt K a H o B):BasAt K a H' o B:=by obtain ⟨dx,h1,h2⟩:=h;exact ⟨dx,s _ _ h1,h2.same s⟩
structure Twn where
 z:Str
 b:Str
 wt:Int
def TwnAt (a:Ad) (H:Hp) (o:Addr) (B:Twn):Prop:=∃dx,H o=some (.ins a.Jj2 dx (twnF (.str B.z) (.str B.b) (.int B.wt)))
theorem TwnAt.same {a:Ad} {H H':Hp} {o:Addr} {B:Twn} (s:Same H H') (h:TwnAt a H o B):TwnAt a H' o B:=by obtain ⟨dx,h1⟩:=h;exact ⟨dx,s _ _ h1⟩
def BasL (K:W.Frag) (a:Ad) (H:Hp):List Addr->List Bsn->Prop
 | [],[]=>True
 |o::os,B::Bs=>BasAt K a H o B/\BasL K a H os Bs
 |_,_=>False
def TwnL (a:Ad) (H:Hp):List Addr->List Twn->Prop
 | [],[]=>True
 |o::os,B::Bs=>TwnAt a H o B/\TwnL a H os Bs
 |_,_=>False
theorem BasL.same {K:W.Frag} {a:Ad} {H H':Hp} (s:Same H H'):∀{os:List Addr} {Bs:List Bsn},BasL K a H os Bs->BasL K a H' os Bs:=by
 intro os
 induction os with
 |nil=>
  intro Bs h
  cases Bs with
  |nil=>exact True.intro
  |cons B Bs=>exact False.elim h
 |cons o os ih=>
  intro Bs h
  cases Bs with
  |nil=>exact False.elim h
  |cons B Bs=>exact ⟨(And.left h).same s,ih (And.right h)⟩
theorem TwnL.same {a:Ad} {H H':Hp} (s:Same H H'):∀{os:List Addr} {Bs:List Twn},TwnL a H os Bs->TwnL a H' os Bs:=by
 intro os
 induction os with
 |nil=>
  intro Bs h
  cases Bs with
  |nil=>exact True.intro
  |cons B Bs=>exact False.elim h
 |cons o os ih=>
  intro Bs h
  cases Bs with
  |nil=>exact False.elim h
  |cons B Bs=>exact ⟨(And.left h).same s,ih (And.right h)⟩
theorem BasL.len {K:W.Frag} {a:Ad} {H:Hp}:∀{os:List Addr} {Bs:List Bsn},BasL K a H os Bs->os.length=Bs.length
 | [],[],_=>rfl
 |_::_,_::_,⟨_,t⟩=>by rw [ybj,ybj,BasL.len t]
theorem TwnL.len {a:Ad} {H:Hp}:∀{os:List Addr} {Bs:List Twn},TwnL a H os Bs->os.length=Bs.length
 | [],[],_=>rfl
 |_::_,_::_,⟨_,t⟩=>by rw [ybj,ybj,TwnL.len t]
theorem BasL.get {K:W.Frag} {a:Ad} {H:Hp}:∀{os:List Addr} {Bs:List Bsn} {i:Nat} {v:V},BasL K a H os Bs->(os.map V.ref)[i]?=some v->∃o B,v= .ref o/\Bs[i]?=some B/\BasAt K a H o B:=by
 intro os
 induction os with
 |nil=>intro Bs i v h e;simp at e
 |cons o os ih=>
  intro Bs i v h e
  cases Bs with
  |nil=>exact False.elim h
  |cons B Bs=>
   cases i with
   |zero=>exact ⟨o,B,by simpa using e.symm,rfl,And.left h⟩
   |succ i=>exact ih (Bs:=Bs) (i:=i) (And.right h) (by simpa using e)
theorem TwnL.get {a:Ad} {H:Hp}:∀{os:List Addr} {Bs:List Twn} {i:Nat} {v:V},TwnL a H os Bs->(os.map V.ref)[i]?=some v->∃o B,v= .ref o/\Bs[i]?=some B/\TwnAt a H o B:=by
 intro os
 induction os with
 |nil=>intro Bs i v h e;simp at e
 |cons o os ih=>
  intro Bs i v h e
  cases Bs with
  |nil=>exact False.elim h
  |cons B Bs=>
   cases i with
   |zero=>exact ⟨o,B,by simpa using e.symm,rfl,And.left h⟩
   |succ i=>exact ih (Bs:=Bs) (i:=i) (And.right h) (by simpa using e)
def Ybk (K:W.Frag):Sp:=λvs H Q _=>∃(l:Addr) (zs:List Str),vs= [.ref l]/\SqL K H l (zs.map V.str)/\zs.length<=2000/\∀H',Same H H'->Q (.bl (decide ((uq zs).length=zs.length))) H'
def Yb7 (K:W.Frag) (a:Ad):Sp:=λvs H Q _=>∃(l:Addr) (os:List Addr) (Bs:List Bsn),vs= [.ref l]/\H l=some (.lst (os.map V.ref))/\BasL K a H os Bs/\(1<=Bs.length/\Bs.length<=16)/\(Bs.map (·.z)).Nodup/\∀H',Same H H'->Q (.bl true) H'
def Ydf (K:W.Frag) (a:Ad):Sp:=λvs H Q _=>∃(l m:Addr) (os ts:List Addr) (Bs:List Bsn) (Ts:List Twn),vs= [.ref m,.ref l]/\H l=some (.lst (os.map V.ref))/\BasL K a H os Bs/\Bs.length<=16/\H m=some (.lst (ts.map V.ref))/\TwnL a H ts Ts/\Ts.length<=3/\(Ts.map (·.z)).Nodup/\(∀t∈Ts,t.b∈Bs.map (·.z))/\∀H',Same H H'->Q (.bl true) H'
section
variable {P:Program} {w:World} {K:W.Frag} {mg:Str->Option Value} {base:Heap} {a:Ad}
theorem Jpd:Jjj ["self","thing"] ["self","thing"] (Jje (Jjr (top 4) 0)):=⟨rfl,rfl,rfl,by decide +kernel,rfl,by decide +kernel,by decide +kernel⟩
theorem Jmd (T:Tx K mg a):FnOk P w K mg base CX0 1 a.Jeo a.Jep ["self","thing"] (Jmw K "thing"):=by
 refine T.Jbw.fn.ok Jpd (λvs H Q E h=>?_) (λcdv A outer s H vs Q E hr h=>?_)
 ·obtain ⟨e,C,W,fI,y,rfl,_⟩:=h
  rfl
 ·obtain ⟨e,C,W,fI,y,rfl,q,c,n,k⟩:=h
  refine ⟨_,(Jjc (Jmo (pv 0) (pv 1) rfl)),?_⟩
  exact ⟨_,rfl,_,rfl,e,C,W,fI,true,rfl,q,c,n,k⟩
theorem Jwh:Jjj ["thing","low","high"] ["thing","low","high"] (Jje (top 15)):=⟨rfl,rfl,rfl,by decide +kernel,rfl,by decide +kernel,by decide +kernel⟩
theorem Jkl (T:Tx K mg a):FnOk P w K mg base CX0 1 a.Jf2 a.Jf3 ["thing","low","high"] (Ydg K):=by
 refine T.J0.fn.ok Jwh (λvs H Q E h=>?_) (λcdv A outer s H vs Q E hr h=>?_)
 ·obtain ⟨x,lo,hi,rfl,_⟩:=h
  rfl
 ·obtain ⟨x,lo,hi,rfl,tm,k⟩:=h
  refine ⟨_,(Jjd (Jk1 (PW.pt (Jov (Jjw (Jji Jkr (by rfl) T.Jar Jjp (Jj8 (pv 0) (Jj8 (Jl0 (v:=.ty "bool") (by rfl) T.Jan Jug rfl) Jja)))) (Jmv (Jjy (Jjw (Jji Jkr (by rfl) T.Jar Jjp (Jj8 (pv 0) (Jj8 (Jl0 (v:=.ty "int") (by rfl) T.Jaq Jui rfl) Jja)))))))) (Jjc (Jjk Jkn)) Jjn)
   (Jjc (Jjk (Jwc Jny Jny (pv 1) (pv 0) (pv 2))))),?_⟩
  rcases tm with ⟨i,rfl⟩|⟨t,ty,ht⟩
  ·refine ⟨_,rfl,_,_,_,_,_,rfl,rfl,.of (.int i),(by rfl:W.kitOne K (.type "int") (.type "bool")=some false),_,rfl,Jkp ⟨_,rfl,_,_,_,_,_,rfl,rfl,.of (.int i),(by rfl:W.kitOne K (.type "int") (.type "int")=some true),_,rfl,Jkp ?_⟩⟩
   refine ⟨_,rfl,_,rfl,_,_,rfl,rfl,_,rfl,?_⟩
   have k':Q (.bl (decide (lo<=i)&&decide (i<=hi))) H:=k
   by_cases h1:lo<=i
   ·rw [decide_eq_true h1] at k'⊢
    exact Jl4 ⟨_,rfl,_,_,rfl,rfl,by simpa using k'⟩
   ·rw [decide_eq_false h1] at k'⊢
    exact Jkp (by simpa using k')
  ·rw [Ycl ty ht] at k
   have e:=Ybq (K:=K) ht
   cases eb:(t== .type "bool") with
   |true=>
    rw [eb] at e
    exact ⟨_,rfl,_,_,_,_,_,rfl,rfl,ty,e.2,_,rfl,Jl4 (Jl4 k)⟩
   |false=>
    rw [eb] at e
    exact ⟨_,rfl,_,_,_,_,_,rfl,rfl,ty,e.2,_,rfl,Jkp ⟨_,rfl,_,_,_,_,_,rfl,rfl,ty,e.1,_,rfl,Jl4 k⟩⟩
theorem sc_are_marks:Jjj ["thing","lowest","least","mark"] ["thing","lowest"] (Jje (top 50)):=⟨rfl,rfl,rfl,by decide +kernel,rfl,by decide +kernel,by decide +kernel⟩
theorem Jv0 (T:Tx K mg a):FnOk P w K mg base CX0 2 a.Jgi a.Jgj ["thing","lowest"] (spAre K):=by
 have G_is_whole:=Jkl (P:=P) (w:=w) (base:=base) T
 refine T.Jq.fn.ok sc_are_marks (λvs H Q E h=>?_) (λcdv A outer s H vs Q E hr h=>?_)
 ·obtain ⟨x,lo,b,rfl,_⟩:=h
  rfl
 ·obtain ⟨x,lo,b,rfl,sh,k⟩:=h
  refine ⟨_,(Jjd (Jk1 (Jjy (Jjw (Jji Jnm (by rfl) T.Jar Jjp (Jj8 (pv 0) (Jj8 (Jk5 (Jj8 (Jl0 (v:=.ty "list") (by rfl) T.Jat Jn5 rfl) (Jj8 (Jl0 (v:=.ty "tuple") (by rfl) T.Jb0 Jky rfl) Jja))) Jja))))) (Jjc (Jjk Jkn)) Jjn)
   (Jjd (Jk1 (Jjy (Jse Jny Jny Jjb (Jji Jjq (by rfl) T.Jas Jko (Jj8 (pv 0) Jja)) (Jkk (by rfl) T.Jad (v:=.int 4) ⟨_,rfl⟩))) (Jjc (Jjk Jkn)) Jjn)
   (Jjd (Jju (i:=2) sc_are_marks.nd rfl (ye rfl) (pv 1))
   (Jjd (Jpa PassesOwn.never rfl (pi_seq (pv 0)) (Jjl (i:=3) sc_are_marks.nd rfl (ye rfl)) (Jjd (Jk1 (Jjy (Jjw (Jjf T.J0 G_is_whole hr (by decide) (Jj8 (pv 3) (Jj8 (pv 2) (Jj8 (Jkk (by rfl) T.Jae (v:=.int 12) ⟨_,rfl⟩) Jja)))))) (Jjc (Jjk Jkn)) Jjn)
    (Jjc (Jju (i:=2) sc_are_marks.nd rfl (ye rfl) (Jjt Jks (pv 3) Jjb)))))
   (Jjc (Jjk Jkn)))))),?_⟩
  cases sh with
  | @non t ty e=>
   refine ⟨_,rfl,(show 2<=sizeLine by decide),λp hp=>⟨_,p,_,_,t,_,rfl,Jj9,rfl,ty.same (λb o _ q=>Same.upd hp b o q) (λb fs q=>Same.upd hp b _ q),e,_,rfl,Jl4 (k _ (Same.upd hp))⟩⟩
  | @seq xs sq tms=>
   obtain ⟨t,ty,_,e⟩:=sq.ty (K:=K)
   refine ⟨_,rfl,(show 2<=sizeLine by decide),λp hp=>⟨_,p,_,_,t,_,rfl,Jj9,rfl,ty.same (λb o _ q=>Same.upd hp b o q) (λb fs q=>Same.upd hp b _ q),e,_,rfl,Jkp ?_⟩⟩
   have s1:=Same.upd (o:=.tup [.ty "list",.ty "tuple"]) hp
   have sq1:=sq.same s1
   obtain ⟨q,rfl⟩:∃q,x= .ref q:=by cases sq <;> exact ⟨_,rfl⟩
   have len:SqL K (upd H p (.tup [.ty "list",.ty "tuple"])) q xs\/SqT K (upd H p (.tup [.ty "list",.ty "tuple"])) q xs:=by
    cases sq1 with
    |lst e=>exact .inl (SqL.of e)
    |tup e=>exact .inr (SqT.of e)
   refine ⟨_,rfl,q,xs,rfl,len,_,_,rfl,rfl,_,rfl,?_⟩
   have no:Jma lo xs=false->∀H',Same H H'->Q (.bl false) H':=λz H' s'=>by
    have:=k H' s'
    rw [z] at this
    exact this
   by_cases h1:(1:Int)<=(xs.length:Int)
   ·rw [decide_eq_true h1]
    refine Jl4 ⟨_,_,rfl,rfl,_,rfl,?_⟩
    by_cases h2:(xs.length:Int)<=4
    ·rw [decide_eq_true h2]
     refine Jkp ⟨_,rfl,?_⟩
     have lz:decide (1<=xs.length/\xs.length<=4)=true:=decide_eq_true (by omega)
     have ar:Jma lo xs=Jkm lo xs:=by unfold Jma;rw [lz,Bool.true_and]
     refine ⟨_,rfl,q,rfl,Ycd (xs:=xs) (λi σ H'=>∃(l:Int) (o:Option V),σ= [some (.ref q),some (.int lo),some (.int l),o]/\H'=upd H p (.tup [.ty "list",.ty "tuple"])/\Jkm lo xs=Jkm l (xs.drop i)) ⟨lo,_,rfl,rfl,rfl⟩ ?_ ?_ ?_⟩
     ·rcases len with z|z
      ·exact .inl λi σ H' _ ⟨_,_,_,e,_⟩=>by rw [e];exact z
      ·exact .inr λi σ H' _ ⟨_,_,_,e,_⟩=>by rw [e];exact z
     ·rintro i y σ H' hy ⟨l,o,rfl,rfl,em⟩
      have hd:xs.drop i=y::xs.drop (i+1):=by
       obtain ⟨hi,rfl⟩:=yv.mp hy
       exact List.drop_eq_getElem_cons hi
      refine ⟨_,rfl,_,rfl,y,l,12,rfl,(tms y (yae hy)).same s1,_,rfl,?_⟩
      cases z:Jjo y l 12 with
      |false=>
       refine Jl4 (no ?_ _ s1)
       rw [ar,em,hd,Jqw,z,ybv]
      |true=>
       rw [hd,Jqw,z,Bool.true_and] at em
       cases y with
       |int i'=>exact Jkp ⟨_,rfl,_,_,rfl,rfl,i'+1,_,rfl,rfl,em⟩
       |_=>cases z
     ·rintro σ H' ⟨l,o,rfl,rfl,em⟩
      have e:Jma lo xs=true:=by rw [ar,em,List.drop_of_length_le (yg _)];rfl
      have:=k _ s1
      rw [e] at this
      exact this
    ·rw [decide_eq_false h2]
     refine Jl4 (no ?_ _ s1)
     unfold Jma
     rw [decide_eq_false (by omega:¬(1<=xs.length/\xs.length<=4)),ybv]
   ·rw [decide_eq_false h1]
    refine Jkp ⟨_,rfl,Jl4 (no ?_ _ s1)⟩
    unfold Jma
    rw [decide_eq_false (by omega:¬(1<=xs.length/\xs.length<=4)),ybv]
theorem Jta:Jjj ["marks","lowest"] ["marks","lowest"] (Jje (top 51)):=⟨rfl,rfl,rfl,by decide +kernel,rfl,by decide +kernel,by decide +kernel⟩
theorem Jmu (T:Tx K mg a):FnOk P w K mg base (CXX P w) 3 a.Jgk a.Jgl ["marks","lowest"] (spKept K a):=by
 have G_are_marks:=Jv0 (P:=P) (w:=w) (base:=base) T
 have G_NoGate___init__:=Jmd (P:=P) (w:=w) (base:=base) T
 refine T.Jr.fn.okX Jta (λvs H Q E h=>?_) (λcdv A outer s H vs Q E hr h=>?_)
 ·obtain ⟨x,lo,rfl,_⟩:=h
  rfl
 ·obtain ⟨x,lo,rfl,h⟩:=h
  refine ⟨_,(Jjd (Jk1 (Jjy (Jjw (Jjf T.Jq G_are_marks hr (by decide) (Jj8 (pv 0) (Jj8 (pv 1) Jja))))) (Jjc (Jke Jkc rfl (Jla T.Jch G_NoGate___init__ hr (by decide) T.Jbw.bd T.Jb4 (Jj8 (pv 0) Jja)))) Jjn)
   (Jjc (Jjk (Jk7 Jl2 (by rfl) T.Jb0 Jky (Jj8 (pv 0) Jja))))),?_⟩
  rcases h with ⟨xs,sq,tms,e,k⟩|⟨sh,k⟩
  ·have sh:=Shp.seq (lo:=lo) sq tms
   rw [e] at sh
   refine ⟨_,rfl,_,rfl,x,lo,true,rfl,sh,λH1 s1=>⟨_,rfl,Jkp ?_⟩⟩
   cases sq with
   |lst e=>exact ⟨_,rfl,_,xs,rfl,.inl ⟨SqL.of (s1 _ _ e),λl hl=>k l _ (s1.trans (Same.upd hl)) Jj9⟩⟩
   |tup e=>exact ⟨_,rfl,_,xs,rfl,.inr ⟨SqT.of (s1 _ _ e),k _ _ s1 (s1 _ _ e)⟩⟩
  ·exact ⟨_,rfl,_,rfl,x,lo,false,rfl,sh,λH1 s1=>⟨_,rfl,Jl4 (Jlg T.Jch T.Jdh rfl λe dx h1 h2 h3=>k _ _ _ ((Rf.new h1 h2 h3).of s1))⟩⟩
theorem Jo5:Jjj ["self","marks"] ["self","marks"] (Jje (Jjr (top 54) 0)):=⟨rfl,rfl,rfl,by decide +kernel,rfl,by decide +kernel,by decide +kernel⟩
theorem Jqi (T:Tx K mg a):FnOk P w K mg base (CXX P w) 4 a.Jgo a.Jgp ["self","marks"] (Jvd K a 0):=by
 have G_kept_marks:=Jmu (P:=P) (w:=w) (base:=base) T
 refine T.Jc4.fn.okX Jo5 (λvs H Q E h=>?_) (λcdv A outer s H vs Q E hr h=>?_)
 ·obtain ⟨p,C,dx,x,rfl,_⟩:=h
  rfl
 ·obtain ⟨p,C,dx,x,rfl,hp,c,n,h⟩:=h
  refine ⟨_,(Jjc (Jlu (pv 0) (Jkd T.Jr G_kept_marks Jkc hr (by decide) (Jj8 (pv 1) (Jj8 Jjb Jja))) rfl)),?_⟩
  rcases h with ⟨xs,sq,tms,e,k⟩|⟨sh,k⟩
  ·exact ⟨_,rfl,x,0,rfl,.inl ⟨xs,sq,tms,e,λt H' s' ht=>⟨_,rfl,p,C,dx,[],rfl,s' _ _ hp,c,n,by simp,k t H' s' ht⟩⟩⟩
  ·exact ⟨_,rfl,x,0,rfl,.inr ⟨sh,k⟩⟩
theorem Jo6:Jjj ["self"] ["self"] (Jje (Jjr (top 54) 1)):=⟨rfl,rfl,rfl,by decide +kernel,rfl,by decide +kernel,by decide +kernel⟩
theorem Jnu (T:Tx K mg a):FnOk P w K mg base CX0 1 a.Jgq a.Jgr ["self"] (Ybf a.Jiy):=by
 refine T.Jc5.fn.ok Jo6 (λvs H Q E h=>?_) (λcdv A outer s H vs Q E hr h=>?_)
 ·obtain ⟨p,xs,rfl,_⟩:=h
  rfl
 ·obtain ⟨p,xs,rfl,⟨dx,t,h1,h2⟩,k⟩:=h
  refine ⟨_,(Jjc (Jjk (Jji Jjq (by rfl) T.Jas Jko (Jj8 (Jkh (pv 0) (by rfl)) Jja)))),?_⟩
  exact ⟨_,rfl,p,_,dx,_,_,rfl,h1,T.Jcq,T.Jdm,rfl,t,xs,rfl,.inr (SqT.of h2),k⟩
theorem Jo0:Jjj ["self","marks"] ["self","marks"] (Jje (Jjr (top 55) 0)):=⟨rfl,rfl,rfl,by decide +kernel,rfl,by decide +kernel,by decide +kernel⟩
theorem Jn2 (T:Tx K mg a):FnOk P w K mg base (CXX P w) 4 a.Jgu a.Jgv ["self","marks"] (Jvd K a 0):=by
 have G_kept_marks:=Jmu (P:=P) (w:=w) (base:=base) T
 refine T.Jc7.fn.okX Jo0 (λvs H Q E h=>?_) (λcdv A outer s H vs Q E hr h=>?_)
 ·obtain ⟨p,C,dx,x,rfl,_⟩:=h
  rfl
 ·obtain ⟨p,C,dx,x,rfl,hp,c,n,h⟩:=h
  refine ⟨_,(Jjc (Jlu (pv 0) (Jkd T.Jr G_kept_marks Jkc hr (by decide) (Jj8 (pv 1) (Jj8 Jjb Jja))) rfl)),?_⟩
  rcases h with ⟨xs,sq,tms,e,k⟩|⟨sh,k⟩
  ·exact ⟨_,rfl,x,0,rfl,.inl ⟨xs,sq,tms,e,λt H' s' ht=>⟨_,rfl,p,C,dx,[],rfl,s' _ _ hp,c,n,by simp,k t H' s' ht⟩⟩⟩
  ·exact ⟨_,rfl,x,0,rfl,.inr ⟨sh,k⟩⟩
theorem Jo1:Jjj ["self"] ["self"] (Jje (Jjr (top 55) 1)):=⟨rfl,rfl,rfl,by decide +kernel,rfl,by decide +kernel,by decide +kernel⟩
theorem Jns (T:Tx K mg a):FnOk P w K mg base CX0 1 a.Jgw a.Jgx ["self"] (Ybf a.Jiz):=by
 refine T.Jc8.fn.ok Jo1 (λvs H Q E h=>?_) (λcdv A outer s H vs Q E hr h=>?_)
 ·obtain ⟨p,xs,rfl,_⟩:=h
  rfl
 ·obtain ⟨p,xs,rfl,⟨dx,t,h1,h2⟩,k⟩:=h
  refine ⟨_,(Jjc (Jjk (Jji Jjq (by rfl) T.Jas Jko (Jj8 (Jkh (pv 0) (by rfl)) Jja)))),?_⟩
  exact ⟨_,rfl,p,_,dx,_,_,rfl,h1,T.Jcw,T.Jdn,rfl,t,xs,rfl,.inr (SqT.of h2),k⟩
theorem Jo3:Jjj ["self","marks"] ["self","marks"] (Jje (Jjr (top 56) 0)):=⟨rfl,rfl,rfl,by decide +kernel,rfl,by decide +kernel,by decide +kernel⟩
theorem Jqh (T:Tx K mg a):FnOk P w K mg base (CXX P w) 4 a.Jh0 a.Jh1 ["self","marks"] (Jvd K a 1):=by
 have G_kept_marks:=Jmu (P:=P) (w:=w) (base:=base) T
 refine T.Jca.fn.okX Jo3 (λvs H Q E h=>?_) (λcdv A outer s H vs Q E hr h=>?_)
 ·obtain ⟨p,C,dx,x,rfl,_⟩:=h
  rfl
 ·obtain ⟨p,C,dx,x,rfl,hp,c,n,h⟩:=h
  refine ⟨_,(Jjc (Jlu (pv 0) (Jkd T.Jr G_kept_marks Jkc hr (by decide) (Jj8 (pv 1) (Jj8 Jjb Jja))) rfl)),?_⟩
  rcases h with ⟨xs,sq,tms,e,k⟩|⟨sh,k⟩
  ·exact ⟨_,rfl,x,1,rfl,.inl ⟨xs,sq,tms,e,λt H' s' ht=>⟨_,rfl,p,C,dx,[],rfl,s' _ _ hp,c,n,by simp,k t H' s' ht⟩⟩⟩
  ·exact ⟨_,rfl,x,1,rfl,.inr ⟨sh,k⟩⟩
theorem Jo4:Jjj ["self"] ["self"] (Jje (Jjr (top 56) 1)):=⟨rfl,rfl,rfl,by decide +kernel,rfl,by decide +kernel,by decide +kernel⟩
theorem Jnt (T:Tx K mg a):FnOk P w K mg base CX0 1 a.Jh2 a.Jh3 ["self"] (Ybf a.Jj0):=by
 refine T.Jcb.fn.ok Jo4 (λvs H Q E h=>?_) (λcdv A outer s H vs Q E hr h=>?_)
 ·obtain ⟨p,xs,rfl,_⟩:=h
  rfl
 ·obtain ⟨p,xs,rfl,⟨dx,t,h1,h2⟩,k⟩:=h
  refine ⟨_,(Jjc (Jjk (Jji Jjq (by rfl) T.Jas Jko (Jj8 (Jkh (pv 0) (by rfl)) Jja)))),?_⟩
  exact ⟨_,rfl,p,_,dx,_,_,rfl,h1,T.Jd2,T.Jdo,rfl,t,xs,rfl,.inr (SqT.of h2),k⟩
theorem Jow {j:Nat} {σ:L2.St} {H:Hp} {x:V} {n:Nat} {Q:VK} (T:Tx K mg a) (g:GS K a H x n) (k:Q (.int n) H) (hj:1<=j):
  ∃g' C dx fs f fd ps sp k',x= .ref g'/\H g'=some (.ins C dx fs)/\fs.lookup ("settings" :Str)=none/\Cls K C/\Jof K C "settings" f/\FnOk P w K mg base CX0 k' f fd ps sp/\k'<=j/\Binds K fd ps []/\Jrc σ H λvs H2=>sp (x::vs) H2 Q E0:=by
 cases g with
 | @plain g C xs i ga l=>
  obtain ⟨dx,t,h1,h2⟩:=ga
  rcases i with rfl|rfl|rfl
  ·exact ⟨g,_,dx,_,_,_,_,_,_,rfl,h1,rfl,T.Jcq,T.Jcu,Jnu T,hj,T.Jc5.bd,g,xs,rfl,⟨dx,t,h1,h2⟩,k⟩
  ·exact ⟨g,_,dx,_,_,_,_,_,_,rfl,h1,rfl,T.Jcw,T.Jd0,Jns T,hj,T.Jc8.bd,g,xs,rfl,⟨dx,t,h1,h2⟩,k⟩
  ·exact ⟨g,_,dx,_,_,_,_,_,_,rfl,h1,rfl,T.Jd2,T.Jd6,Jnt T,hj,T.Jcb.bd,g,xs,rfl,⟨dx,t,h1,h2⟩,k⟩
theorem Jwi:Jjj ["_law_script","_law_k"] ["_law_script","_law_k"] (Jje (top 72)):=⟨rfl,rfl,rfl,by decide +kernel,rfl,by decide +kernel,by decide +kernel⟩
theorem Jw6 (T:Tx K mg a):FnOk P w K mg base CX0 1 a.Jhk a.Jhl ["_law_script","_law_k"] (spCell K):=by
 refine T.Jw.fn.ok Jwi (λvs H Q E h=>?_) (λcdv A outer s H vs Q E hr h=>?_)
 ·obtain ⟨x,ns,i,rfl,_⟩:=h
  rfl
 ·obtain ⟨x,ns,i,rfl,hS,k⟩:=h
  refine ⟨_,(Jjd (Jk1 (Jk8 op_lt (pv 1) (Jji Jjq (by rfl) T.Jas Jko (Jj8 (pv 0) Jja)) (Jk2 _)) (Jjc (Jjk (Jjs Jjz (pv 0) (pv 1) (λ_ _=>rfl)))) Jjn)
   (Jjc (Jjk (Jjt Jks (Jjt Jp7 Jjb (pv 1)) Jjb)))),?_⟩
  refine ⟨_,rfl,_,rfl,x,_,rfl,.inl hS,_,_,rfl,rfl,_,rfl,Jog (λq=>?_) (λq=>?_)⟩
  ·have hi:i < ns.length:=by
    have q':=of_decide_eq_true q
    rw [yf] at q'
    omega
   exact ⟨_,rfl,_,rfl,x,_,_,_,rfl,rfl,hS,Jyj hi,k _⟩
  ·exact ⟨_,rfl,_,_,rfl,rfl,.inl ⟨by decide,by decide⟩,_,_,rfl,rfl,k _⟩
theorem Jtb:Jjj ["_law_cell_here"] ["_law_cell_here"] (Jje (top 73)):=⟨rfl,rfl,rfl,by decide +kernel,rfl,by decide +kernel,by decide +kernel⟩
theorem Jt3 (T:Tx K mg a):FnOk P w K mg base CX0 1 a.Jhm a.Jhn ["_law_cell_here"] Ybj:=by
 refine T.Jx.fn.ok Jtb (λvs H Q E h=>?_) (λcdv A outer s H vs Q E hr h=>?_)
 ·obtain ⟨c,rfl,_⟩:=h
  rfl
 ·obtain ⟨c,rfl,k⟩:=h
  refine ⟨_,(Jjc (Jjk (Jki (Jj8 (Jji (Job rfl) (by rfl) T.Jau Juj (Jj8 Jjb (Jj8 (Jjt Jlt (pv 0) (Jjt Jv7 Jjb Jjb)) Jja))) (Jj8 (Jjt Jqn (pv 0) Jjb) (Jj8 Jjb Jja)))))),?_⟩
  refine ⟨_,rfl,_,_,rfl,rfl,⟨by decide,by decide,by decide⟩,_,_,rfl,rfl,_,_,rfl,_,rfl,_,_,rfl,rfl,(by show (0:Int) < 2147483647;decide),Jqp _ (by show 3<=2000;decide),λp hp=>?_⟩
  exact k p _ hp (Same.upd hp) ⟨_,_,_,Jj9⟩
theorem sc_law_take:Jjj ["_law_stream_here","_law_many","_law_digit","_law_number"] ["_law_stream_here","_law_many"] (Jje (top 74)):=⟨rfl,rfl,rfl,by decide +kernel,rfl,by decide +kernel,by decide +kernel⟩
theorem Jli (T:Tx K mg a):FnOk P w K mg base CX0 1 a.Jho a.Jhp ["_law_stream_here","_law_many"] spTake:=by
 refine T.Jy.fn.ok sc_law_take (λvs H Q E h=>?_) (λcdv A outer s H vs Q E hr h=>?_)
 ·obtain ⟨p,m,rfl,_⟩:=h
  rfl
 ·obtain ⟨p,m,rfl,⟨a0,b0,c0,hp⟩,hm,hl,k⟩:=h
  refine ⟨_,(Jjd (Jxr (Jjt Jks (Jjs Jjz (pv 0) Jjb (λ_ _=>rfl)) Jjb) (Jxq (pv 0) Jjb Jsj))
   (Jjd (Jk1 (Jk8 Jw9 (Jjs Jjz (pv 0) Jjb (λ_ _=>rfl)) Jjb (Jk2 _)) (Jjd (Jju (i:=2) sc_law_take.nd rfl (ye rfl) (Jjt Jqn (Jjs Jjz (pv 0) Jjb (λ_ _=>rfl)) (pv 1)))
    (Jjd (Jxr (Jjt Js9 (Jjs Jjz (pv 0) Jjb (λ_ _=>rfl)) (pv 1)) (Jxq (pv 0) Jjb Jsj))
    (Jjc (Jjk (pv 2))))) Jjn)
   (Jjd (Jju (i:=3) sc_law_take.nd rfl (ye rfl) (Jjt Jqn (Jjt Jp7 (Jjt Jks (Jjs Jjz (pv 0) Jjb (λ_ _=>rfl)) (Jjt Jp7 Jjb (Jjs Jjz (pv 0) Jjb (λ_ _=>rfl)))) Jjb) Jjb))
   (Jjd (Jju (i:=3) sc_law_take.nd rfl (ye rfl) (Jjt Jqn (Jjt Jp7 (pv 3) (pv 3)) Jjb))
   (Jjc (Jjk (Jjt Jqn (Jjt Js9 (Jjt Jqn (Jjt Jks (Jjt Jp7 (pv 3) (Jjt Jks (pv 3) Jjb)) (Jjt Jp7 Jjb (Jjs Jjz (pv 0) Jjb (λ_ _=>rfl)))) Jjb) Jjb) (pv 1)))))))),?_⟩
  refine ⟨_,rfl,p,_,_,_,rfl,rfl,SqL.of hp,rfl,_,_,rfl,rfl,_,rfl,p,_,_,_,rfl,rfl,hp,rfl,?_⟩
  refine ⟨_,rfl,p,_,_,_,rfl,rfl,SqL.of Jj9,rfl,_,_,rfl,rfl,_,rfl,Jog (λ_=>?_) (λ_=>?_)⟩
  ·refine ⟨_,rfl,p,_,_,_,rfl,rfl,SqL.of Jj9,rfl,_,rfl,_,_,rfl,rfl,hm,?_⟩
   refine ⟨_,rfl,p,_,_,_,rfl,rfl,SqL.of Jj9,rfl,_,rfl,_,_,rfl,rfl,⟨hm,hl⟩,_,rfl,p,_,_,_,rfl,rfl,Jj9,rfl,?_⟩
   refine ⟨_,rfl,k _ _ (Int.emod_nonneg _ (by omega)) (Int.emod_lt_of_pos _ hm) ⟨λb o ne e=>?_,_,_,_,Jj9⟩⟩
   rw [Jjg ne,Jjg ne]
   exact e
  ·refine ⟨_,rfl,p,_,_,_,rfl,rfl,SqL.of Jj9,rfl,_,rfl,p,_,_,_,rfl,rfl,SqL.of Jj9,rfl,_,_,rfl,rfl,.inl ⟨by decide,by decide⟩,_,_,rfl,rfl,_,_,rfl,rfl,.inr ⟨by decide,by decide⟩,_,_,rfl,rfl,(by show (0:Int) < 2147483629;decide),?_⟩
   have n1:∀x:Int,-(2^64) < x%2147483629/\x%2147483629 < 2^64:=λx=>by
    have h1:=Int.emod_nonneg x (show (2147483629:Int)≠0 by decide)
    have h2:=Int.emod_lt_of_pos x (show (0:Int) < 2147483629 by decide)
    constructor <;> omega
   have n2:∀x:Int,-(2^64) < x%2147483587/\x%2147483587 < 2^64:=λx=>by
    have h1:=Int.emod_nonneg x (show (2147483587:Int)≠0 by decide)
    have h2:=Int.emod_lt_of_pos x (show (0:Int) < 2147483587 by decide)
    constructor <;> omega
   refine ⟨_,rfl,_,rfl,_,_,rfl,rfl,.inl (n1 _),_,_,rfl,rfl,(by show (0:Int) < 2147483587;decide),?_⟩
   refine ⟨_,rfl,_,rfl,_,_,rfl,rfl,_,_,rfl,rfl,.inl (n2 _),_,rfl,p,_,_,_,rfl,rfl,SqL.of Jj9,rfl,_,_,rfl,rfl,.inl ⟨by decide,by decide⟩,_,_,rfl,rfl,_,_,rfl,rfl,(by show (0:Int) < 2147483647;decide),_,_,rfl,rfl,⟨by decide,by decide⟩,_,rfl,_,_,rfl,rfl,hm,?_⟩
   refine k _ _ (Int.emod_nonneg _ (by omega)) (Int.emod_lt_of_pos _ hm) ⟨λb o ne e=>?_,_,_,_,Jj9⟩
   rw [Jjg ne]
   exact e
theorem Jpe:Jjj ["self","thing"] ["self","thing"] (Jje (Jjr (top 3) 0)):=⟨rfl,rfl,rfl,by decide +kernel,rfl,by decide +kernel,by decide +kernel⟩
theorem Js2 (T:Tx K mg a):FnOk P w K mg base CX0 1 a.Jem a.Jen ["self","thing"] (Jmw K "thing"):=by
 refine T.Jbv.fn.ok Jpe (λvs H Q E h=>?_) (λcdv A outer s H vs Q E hr h=>?_)
 ·obtain ⟨e,C,W,fI,y,rfl,_⟩:=h
  rfl
 ·obtain ⟨e,C,W,fI,y,rfl,q,c,n,k⟩:=h
  refine ⟨_,(Jjc (Jmo (pv 0) (pv 1) rfl)),?_⟩
  exact ⟨_,rfl,_,rfl,e,C,W,fI,true,rfl,q,c,n,k⟩
theorem Joh:Jjj ["self","thing"] ["self","thing"] (Jje (Jjr (top 5) 0)):=⟨rfl,rfl,rfl,by decide +kernel,rfl,by decide +kernel,by decide +kernel⟩
theorem Jr5 (T:Tx K mg a):FnOk P w K mg base CX0 1 a.Jeq a.Jer ["self","thing"] (Jmw K "thing"):=by
 refine T.Jbx.fn.ok Joh (λvs H Q E h=>?_) (λcdv A outer s H vs Q E hr h=>?_)
 ·obtain ⟨e,C,W,fI,y,rfl,_⟩:=h
  rfl
 ·obtain ⟨e,C,W,fI,y,rfl,q,c,n,k⟩:=h
  refine ⟨_,(Jjc (Jmo (pv 0) (pv 1) rfl)),?_⟩
  exact ⟨_,rfl,_,rfl,e,C,W,fI,true,rfl,q,c,n,k⟩
theorem Jt9:Jjj ["text","signs"] ["text","signs"] (Jje (top 16)):=⟨rfl,rfl,rfl,by decide +kernel,rfl,by decide +kernel,by decide +kernel⟩
theorem Jt2 (T:Tx K mg a):FnOk P w K mg base CX0 1 a.Jf4 a.Jf5 ["text","signs"] spMade:=by
 refine T.J1.fn.ok Jt9 (λvs H Q E h=>?_) (λcdv A outer s H vs Q E hr h=>?_)
 ·obtain ⟨z,g,rfl,_⟩:=h
  rfl
 ·obtain ⟨z,g,rfl,hz,k⟩:=h
  refine ⟨_,(Jjc (Jjk (Jji (Jlk rfl) (by rfl) T.Jal Jn4 (Jj8 (Jk3 (N:=(["sign","signs"]:List Str)) (ini:=[none,some 1]) rfl (pi_str (pv 0)) (λ_ _ _ _ _=>(Jjl (i:=0) (by decide +kernel:(["sign","signs"]:List Str).Nodup) rfl (ye rfl))) (λ_ _ _ _ _=>Jk0) (λ_ _ _ _ _=>(Jl1 Jzr (pv 0) (pv 1) (by with_unfolding_all rfl)))) Jja)))),?_⟩
  refine ⟨_,rfl,z,rfl,λD hD=>?_⟩
  refine Ys (z:=z) (D:=D) (λi σ H'=>∃o,σ= [o,some (.str g)]/\H'=upd H D (.lst ((z.cps.toList.take i).map λc=>V.bl (decide (c∈g.cps.toList))))) ?_ ?_ ?_
  ·exact ⟨none,rfl,rfl⟩
  ·rintro i c σ H' hc ⟨o,rfl,rfl⟩
   refine Jkf ⟨_,rfl,_,rfl,⟨#[c]⟩,g,rfl,rfl,_,Jj9,?_,_,rfl,?_⟩
   ·rw [yf,yaf,Ych]
    exact Jjx (by omega)
   ·rw [Jmq,StrLaws.found_one]
    have e:z.cps.toList[i]?=some c:=by simpa using hc
    rw [yan,e]
    simp
  ·rintro σ H' ⟨o,rfl,rfl⟩
   have e:z.cps.toList.take z.cps.size=z.cps.toList:=yam (by simp)
   refine ⟨D,z.cps.toList.map λc=>decide (c∈g.cps.toList),rfl,SqL.of (by rw [Jj9,e,List.map_map];rfl),?_⟩
   have e2:(z.cps.toList.map λc=>decide (c∈g.cps.toList)).all id=Jvl g z:=by
    unfold Jvl
    rw [List.all_map]
    rfl
   rw [e2]
   exact k _ (Same.upd hD)
theorem Ycm {H:Hp} {x:V} (h:Tm K H x) (n:∀z,x≠ .str z):∃t,TyX K H x t/\W.kitOne K t (.type "str")=some false:=by
 rcases h with ⟨i,rfl⟩|⟨t,ty,ht⟩
 ·exact ⟨_,.of (.int i),rfl⟩
 ·refine ⟨t,ty,?_⟩
  unfold tpB at ht
  simp only [List.contains_cons,List.contains_nil,Bool.or_false,Bool.or_eq_true,beq_iff_eq] at ht
  rcases ht with rfl|rfl|rfl|rfl|rfl|rfl
  ·rfl
  ·obtain ⟨z,e⟩:=ty_str ty rfl
   exact absurd e (n z)
  ·rfl
  ·rfl
  ·rfl
  ·rfl
theorem Jxv:Jjj ["thing"] ["thing"] (Jje (top 17)):=⟨rfl,rfl,rfl,by decide +kernel,rfl,by decide +kernel,by decide +kernel⟩
theorem Jxj (T:Tx K mg a):FnOk P w K mg base CX0 2 a.Jf6 a.Jf7 ["thing"] (spName K):=by
 have G_is_made_of:=Jt2 (P:=P) (w:=w) (base:=base) T
 refine T.J2.fn.ok Jxv (λvs H Q E h=>?_) (λcdv A outer s H vs Q E hr h=>?_)
 ·obtain ⟨x,rfl,_⟩:=h
  rfl
 ·obtain ⟨x,rfl,nm,k⟩:=h
  refine ⟨_,(Jjd (Jk1 (Jjy (Jjw (Jji Jkr (by rfl) T.Jar Jjp (Jj8 (pv 0) (Jj8 (Jl0 (v:=.ty "str") (by rfl) T.Jaz Yo rfl) Jja))))) (Jjc (Jjk Jkn)) Jjn)
   (Jjc (Jjk (Jp8 (Jwc Jny Jny Jjb (Jji Juk (by rfl) T.Jas Jko (Jj8 (pv 0) Jja)) (Jkk (by rfl) T.Jab (v:=.int 8) ⟨_,rfl⟩)) (Jp9 (Jjf T.J1 G_is_made_of hr (by decide) (Jj8 (pv 0) (Jj8 (Jkk (by rfl) T.Jaa (v:=.str "abcdefghijklmnopqrstuvwxyz") ⟨_,rfl⟩) Jja)))))))),?_⟩
  by_cases hx:∃z,x= .str z
  ·obtain ⟨z,rfl⟩:=hx
   have k:∀H',Same H H'->Q (.bl (Jqz z)) H':=k
   have hz:z.length<=2000:=by have:=(nm.2 z rfl).len;omega
   refine ⟨_,rfl,_,_,_,_,_,rfl,rfl,.of (.str z),(by rfl:W.kitOne K (.type "str") (.type "str")=some true),_,rfl,Jkp ?_⟩
   refine ⟨_,rfl,z,rfl,Jqp _ hz,_,_,rfl,rfl,_,rfl,?_⟩
   have no:¬(1<=z.length/\z.length<=8)->Q (.bl false) H:=λq=>by
    have k':=k H (Same.refl H)
    unfold Jqz at k'
    rw [decide_eq_false q,ybv] at k'
    exact k'
   by_cases h1:(1:Int)<=(z.length:Int)
   ·rw [decide_eq_true h1]
    refine Jl4 ⟨_,_,rfl,rfl,_,rfl,?_⟩
    by_cases h2:(z.length:Int)<=8
    ·rw [decide_eq_true h2]
     refine Jl4 ⟨_,rfl,z,_,rfl,hz,λH' s'=>?_⟩
     have e:Jqz z=Jvl LET z:=by
      unfold Jqz
      rw [decide_eq_true (by omega:1<=z.length/\z.length<=8),Bool.true_and]
     have k':=k H' s'
     rw [e] at k'
     exact k'
    ·rw [decide_eq_false h2]
     exact Jkp (no (by omega))
   ·rw [decide_eq_false h1]
    exact Jkp ⟨_,rfl,Jkp (no (by omega))⟩
  ·obtain ⟨t,ty,e1⟩:=Ycm nm.1 λz e=>hx ⟨z,e⟩
   have k':=k H (Same.refl H)
   have e:Jm3 x=false:=by
    cases x with
    |str z=>exact absurd ⟨z,rfl⟩ hx
    |_=>rfl
   rw [e] at k'
   exact ⟨_,rfl,_,_,_,_,_,rfl,rfl,ty,e1,_,rfl,Jl4 k'⟩
theorem Jpi:Jjj ["thing","low","high"] ["thing","low","high"] (Jje (top 64)):=⟨rfl,rfl,rfl,by decide +kernel,rfl,by decide +kernel,by decide +kernel⟩
theorem Jp6 (T:Tx K mg a):FnOk P w K mg base (CXX P w) 3 a.Jh6 a.Jh7 ["thing","low","high"] (Y2 K a):=by
 have G_is_whole:=Jkl (P:=P) (w:=w) (base:=base) T
 have G_NoBasin___init__:=Jr5 (P:=P) (w:=w) (base:=base) T
 refine T.Js.fn.okX Jpi (λvs H Q E h=>?_) (λcdv A outer s H vs Q E hr h=>?_)
 ·obtain ⟨x,lo,hi,rfl,_⟩:=h
  rfl
 ·obtain ⟨x,lo,hi,rfl,tm,h⟩:=h
  refine ⟨_,(Jjc (Jk1 (Jjy (Jjw (Jjf T.J0 G_is_whole hr (by decide) (Jj8 (pv 0) (Jj8 (pv 1) (Jj8 (pv 2) Jja)))))) (Jjc (Jke Jkc rfl (Jla T.Jci G_NoBasin___init__ hr (by decide) T.Jbx.bd T.Jb5 (Jj8 (pv 0) Jja)))) Jjn)),?_⟩
  refine ⟨_,rfl,_,rfl,_,rfl,x,lo,hi,rfl,tm,_,rfl,?_⟩
  rcases h with ⟨e,k⟩|⟨e,k⟩
  ·rw [e]
   exact Jkp k
  ·rw [e]
   exact Jl4 (Jlg T.Jci T.Jdi rfl λe dx h1 h2 h3=>k _ _ _ (RfC.new h1 h2 h3))
theorem Jln {f:Str} {v:V}:∀{fs:List (Str×V)},(fs.map (·.1)).contains f=false->Jlq f v fs=fs++ [(f,v)]
 | [],_=>rfl
 | (g,x) :: r,h=>by
  rw [ybb,List.contains_cons,Bool.or_eq_false_iff] at h
  have ne:¬g=f:=λe=>by
   have:=h.1
   rw [e] at this
   simp at this
  show (if g=f then (g,v)::r else (g,x)::Jlq f v r)=_
  rw [if_neg ne,Jln h.2]
  rfl
theorem Jq0:Jjj ["self","name","low","high","start","rain","gate"] ["self","name","low","high","start","rain","gate"] (Jje (Jjr (top 65) 0)):=⟨rfl,rfl,rfl,by decide +kernel,rfl,by decide +kernel,by decide +kernel⟩
theorem Jor (T:Tx K mg a):FnOk P w K mg base (CXX P w) 4 a.Jh8 a.Jh9 ["self","name","low","high","start","rain","gate"] (Yd0 K a):=by
 have G_is_name:=Jxj (P:=P) (w:=w) (base:=base) T
 have G_refuse_no_level:=Jp6 (P:=P) (w:=w) (base:=base) T
 have G_NoName___init__:=Js2 (P:=P) (w:=w) (base:=base) T
 have G_NoGate___init__:=Jmd (P:=P) (w:=w) (base:=base) T
 refine T.Jcd.fn.okX Jq0 (λvs H Q E h=>?_) (λcdv A outer s H vs Q E hr h=>?_)
 ·obtain ⟨p,dx,n,lo,hi,st,rn,g,gb,d,rfl,_⟩:=h
  rfl
 ·obtain ⟨p,dx,n,lo,hi,st,rn,g,gb,d,rfl,hp,nm,tlo,thi,tst,trn,gt,du,k⟩:=h
  refine ⟨?t,?B,?C⟩
  case B=>
   refine' Jjd (Jk1 (Jjy (Jjw (Jjf T.J2 G_is_name hr (by decide) (Jj8 (pv 1) Jja)))) (Jjc (Jke Jkc rfl (Jla T.Jcg G_NoName___init__ hr (by decide) T.Jbv.bd T.Jb3 (Jj8 (pv 1) Jja)))) Jjn) ?_
   rotate_left
   refine' Jjd (Jkv (Jkd T.Js G_refuse_no_level Jkc hr (by decide) (Jj8 (pv 2) (Jj8 Jjb (Jj8 (Jkk (by rfl) T.Jag (v:=.int 12) ⟨_,rfl⟩) Jja))))) ?_
   rotate_left
   refine' Jjd (Jkv (Jkd T.Js G_refuse_no_level Jkc hr (by decide) (Jj8 (pv 3) (Jj8 (pv 2) (Jj8 (Jkk (by rfl) T.Jag (v:=.int 12) ⟨_,rfl⟩) Jja))))) ?_
   rotate_left
   refine' Jjd (Jkv (Jkd T.Js G_refuse_no_level Jkc hr (by decide) (Jj8 (pv 4) (Jj8 (pv 2) (Jj8 (pv 3) Jja))))) ?_
   rotate_left
   refine' Jjd (Jkv (Jkd T.Js G_refuse_no_level Jkc hr (by decide) (Jj8 (pv 5) (Jj8 Jjb (Jj8 (Jkk (by rfl) T.Jah (v:=.int 6) ⟨_,rfl⟩) Jja))))) ?_
   rotate_left
   refine' Jjd (Jk1 (Jjy (Jjw (Jji Jkr (by rfl) T.Jar Jjp (Jj8 (pv 6) (Jj8 (Jkk (by rfl) T.Jbb (v:=.ref _) rfl) Jja))))) (Jjc (Jke Jkc rfl (Jla T.Jch G_NoGate___init__ hr (by decide) T.Jbw.bd T.Jb4 (Jj8 (pv 6) Jja)))) Jjn) ?_
   rotate_left
   refine' Jjd (Jlu (pv 0) (pv 1) rfl) ?_
   rotate_left
   refine' Jjd (Jlu (pv 0) (pv 2) rfl) ?_
   rotate_left
   refine' Jjd (Jlu (pv 0) (pv 3) rfl) ?_
   rotate_left
   refine' Jjd (Jlu (pv 0) (pv 4) rfl) ?_
   rotate_left
   refine' Jjd (Jlu (pv 0) (pv 5) rfl) ?_
   rotate_left
   exact (Jjc (Jlu (pv 0) (pv 6) rfl))
  refine ⟨_,rfl,n,rfl,nm,λH1 s1=>⟨_,rfl,?_⟩⟩
  cases du with
  |name e=>
   rw [e]
   exact Jl4 (Jlg T.Jcg T.Jdg rfl λe dx h1 h2 h3=>k _ _ _ ((RfC.new h1 h2 h3).of s1))
  |low e1 e2=>
   rw [e1]
   exact Jkp ⟨_,rfl,lo,0,12,rfl,tlo.same s1,.inr ⟨e2,λc eo H' rf=>k c eo H' (rf.of s1)⟩⟩
  |high l e1 e2 e3 e4=>
   subst e2
   rw [e1]
   refine Jkp ⟨_,rfl,_,0,12,rfl,tlo.same s1,.inl ⟨e3,?_⟩⟩
   exact ⟨_,rfl,_,rfl,hi,l,12,rfl,thi.same s1,.inr ⟨e4,λc eo H' rf=>k c eo H' (rf.of s1)⟩⟩
  |start l h e1 e2 e3 e4 e5 e6=>
   subst e2 e3
   rw [e1]
   refine Jkp ⟨_,rfl,_,0,12,rfl,tlo.same s1,.inl ⟨e4,?_⟩⟩
   refine ⟨_,rfl,_,rfl,_,l,12,rfl,thi.same s1,.inl ⟨e5,?_⟩⟩
   exact ⟨_,rfl,_,rfl,_,rfl,st,l,h,rfl,tst.same s1,.inr ⟨e6,λc eo H' rf=>k c eo H' (rf.of s1)⟩⟩
  |rain l h e1 e2 e3 e4 e5 e6 e7=>
   subst e2 e3
   rw [e1]
   refine Jkp ⟨_,rfl,_,0,12,rfl,tlo.same s1,.inl ⟨e4,?_⟩⟩
   refine ⟨_,rfl,_,rfl,_,l,12,rfl,thi.same s1,.inl ⟨e5,?_⟩⟩
   refine ⟨_,rfl,_,rfl,_,rfl,st,l,h,rfl,tst.same s1,.inl ⟨e6,?_⟩⟩
   exact ⟨_,rfl,rn,0,6,rfl,trn.same s1,.inr ⟨e7,λc eo H' rf=>k c eo H' (rf.of s1)⟩⟩
  |gate l h e1 e2 e3 e4 e5 e6 e7 e8=>
   subst e2 e3 e8
   obtain ⟨t,ty,g1,g2,g3⟩:=gt
   rw [e1]
   refine Jkp ⟨_,rfl,_,0,12,rfl,tlo.same s1,.inl ⟨e4,?_⟩⟩
   refine ⟨_,rfl,_,rfl,_,l,12,rfl,thi.same s1,.inl ⟨e5,?_⟩⟩
   refine ⟨_,rfl,_,rfl,_,rfl,st,l,h,rfl,tst.same s1,.inl ⟨e6,?_⟩⟩
   refine ⟨_,rfl,rn,0,6,rfl,trn.same s1,.inl ⟨e7,?_⟩⟩
   exact ⟨_,rfl,g,_,_,t,_,rfl,rfl,Jmp s1 ty,g1,_,rfl,Jl4 (Jlg T.Jch T.Jdh rfl λe dx h1 h2 h3=>k _ _ _ ((RfC.new h1 h2 h3).of s1))⟩
  |good l h e1 e2 e3 e4 e5 e6 e7 e8=>
   subst e2 e3 e8
   obtain ⟨t,ty,g1,g2,g3⟩:=gt
   rw [e1]
   refine Jkp ⟨_,rfl,_,0,12,rfl,tlo.same s1,.inl ⟨e4,?_⟩⟩
   refine ⟨_,rfl,_,rfl,_,l,12,rfl,thi.same s1,.inl ⟨e5,?_⟩⟩
   refine ⟨_,rfl,_,rfl,_,rfl,st,l,h,rfl,tst.same s1,.inl ⟨e6,?_⟩⟩
   refine ⟨_,rfl,rn,0,6,rfl,trn.same s1,.inl ⟨e7,?_⟩⟩
   refine ⟨_,rfl,g,_,_,t,_,rfl,rfl,Jmp s1 ty,g1,_,rfl,Jkp ?_⟩
   refine ⟨_,rfl,_,rfl,p,_,dx,[],rfl,s1 _ _ hp,T.Jd8,T.Jdp,by simp,?_⟩
   rw [show Jlq "name" n []=([("name",n)]:List (Str×V)) from rfl]
   refine ⟨_,rfl,_,rfl,p,_,dx,_,rfl,Jj9,T.Jd8,T.Jdq,by simp,?_⟩
   rw [show Jlq "low" (.int l) [("name",n)]=([("name",n),("low",(.int l))]:List (Str×V)) from Jln (fs:=[("name",n)]) (show (["name"]:List Str).contains "low" =false by decide +kernel)]
   refine ⟨_,rfl,_,rfl,p,_,dx,_,rfl,Jj9,T.Jd8,T.Jdr,by simp,?_⟩
   rw [show Jlq "high" (.int h) [("name",n),("low",.int l)]=([("name",n),("low",.int l),("high",(.int h))]:List (Str×V)) from Jln (fs:=[("name",n),("low",.int l)]) (show (["name","low"]:List Str).contains "high" =false by decide +kernel)]
   refine ⟨_,rfl,_,rfl,p,_,dx,_,rfl,Jj9,T.Jd8,T.Jds,by simp,?_⟩
   rw [show Jlq "start" st [("name",n),("low",.int l),("high",.int h)]=([("name",n),("low",.int l),("high",.int h),("start",st)]:List (Str×V)) from Jln (fs:=[("name",n),("low",.int l),("high",.int h)]) (show (["name","low","high"]:List Str).contains "start" =false by decide +kernel)]
   refine ⟨_,rfl,_,rfl,p,_,dx,_,rfl,Jj9,T.Jd8,T.Jdt,by simp,?_⟩
   rw [show Jlq "rain" rn [("name",n),("low",.int l),("high",.int h),("start",st)]=([("name",n),("low",.int l),("high",.int h),("start",st),("rain",rn)]:List (Str×V)) from Jln (fs:=[("name",n),("low",.int l),("high",.int h),("start",st)]) (show (["name","low","high","start"]:List Str).contains "rain" =false by decide +kernel)]
   refine ⟨_,rfl,_,rfl,p,_,dx,_,rfl,Jj9,T.Jd8,T.Jdu,by simp,?_⟩
   rw [show Jlq "gate" g [("name",n),("low",.int l),("high",.int h),("start",st),("rain",rn)]=([("name",n),("low",.int l),("high",.int h),("start",st),("rain",rn),("gate",g)]:List (Str×V)) from Jln (fs:=[("name",n),("low",.int l),("high",.int h),("start",st),("rain",rn)]) (show (["name","low","high","start","rain"]:List Str).contains "gate" =false by decide +kernel)]
   show Q .non _
   simp only [Jmq]
   exact k _ s1
theorem Jqy:∀(ns:List Int) (lo m n:Int),Jkm lo (ns.map V.int)=true->ns.getLast?=some m->m+1<=n->n<=12->Jkm lo ((ns++ [n]).map V.int)=true
 | [],_,_,_,_,h,_,_=>by simp at h
 | [x],lo,m,n,h,hl,h1,h2=>by
  have e:x=m:=by simpa using hl
  subst e
  simp [Jkm] at h⊢
  omega
 |x::y::r,lo,m,n,h,hl,h1,h2=>by
  have hl':(y::r).getLast?=some m:=by simpa using hl
  have h':((decide (lo<=x)&&decide (x<=12))&&Jkm (x+1) ((y::r).map V.int))=true:=h
  rw [yac] at h'
  have ih:=Jqy (y::r) (x+1) m n h'.2 hl' h1 h2
  show ((decide (lo<=x)&&decide (x<=12))&&Jkm (x+1) (((y::r)++ [n]).map V.int))=true
  rw [h'.1,ih]
  rfl
theorem Jqx:∀(ns:List Int) (lo m:Int),Jkm lo (ns.map V.int)=true->ns.getLast?=some m->lo<=m/\m<=12
 | [],_,_,_,h=>by simp at h
 | [x],lo,m,h,hl=>by
  have e:x=m:=by simpa using hl
  subst e
  simpa [Jkm] using h
 |x::y::r,lo,m,h,hl=>by
  have hl':(y::r).getLast?=some m:=by simpa using hl
  have h':((decide (lo<=x)&&decide (x<=12))&&Jkm (x+1) ((y::r).map V.int))=true:=h
  rw [yac,yac,decide_eq_true_eq,decide_eq_true_eq] at h'
  have ih:=Jqx (y::r) (x+1) m h'.2 hl'
  omega
theorem Jri {ns:List Int} {m:Int} (h:ns.getLast?=some m):atI (ns.map V.int) (-1)=some (.int m):=by
 have hl:1<=ns.length:=by cases ns <;> simp at h⊢
 have e:ixN (ns.map V.int).length (-1)=some (ns.length - 1):=by
  unfold ixN
  rw [yf,if_neg (by decide),if_pos (by omega)]
  congr 1
  omega
 unfold atI
 rw [e]
 show (ns.map V.int)[ns.length - 1]?=some (.int m)
 rw [yp,<-List.getLast?_eq_getElem?,h]
 rfl
def Ydc:Sp:=λvs H Q _=>∃(p:Addr) (lo:Int),vs= [.ref p,.int lo]/\Strm H p/\(lo=0\/lo=1)/\∀(l:Addr) (ns:List Int) (H':Hp),H l=none->But p H H'->H' l=some (.lst (ns.map V.int))->Jma lo (ns.map V.int)=true->Q (.ref l) H'
theorem sc_law_marks:Jjj ["_law_stream_here","_law_least","_law_marks_here","_law_k"] ["_law_stream_here","_law_least"] (Jje (top 75)):=⟨rfl,rfl,rfl,by decide +kernel,rfl,by decide +kernel,by decide +kernel⟩
theorem Jv3 (T:Tx K mg a):FnOk P w K mg base CX0 2 a.Jhq a.Jhr ["_law_stream_here","_law_least"] Ydc:=by
 have G__law_take:=Jli (P:=P) (w:=w) (base:=base) T
 refine T.Jz.fn.ok sc_law_marks (λvs H Q E h=>?_) (λcdv A outer s H vs Q E hr h=>?_)
 ·obtain ⟨p,lo,rfl,_⟩:=h
  rfl
 ·obtain ⟨p,lo,rfl,st,hlo,k⟩:=h
  refine ⟨_,(Jjd (Jju (i:=2) sc_law_marks.nd rfl (ye rfl) (Jki (Jj8 (Jjt Jks (pv 1) (Jjf T.Jy G__law_take hr (by decide) (Jj8 (pv 0) (Jj8 (Jjt Jlt Jjb (pv 1)) Jja)))) Jja)))
   (Jjd (Jpa PassesOwn.never rfl (Jl8 (by rfl) T.Jaw (Jj8 (Jjf T.Jy G__law_take hr (by decide) (Jj8 (pv 0) (Jj8 Jjb Jja))) Jja)) (Jjl (i:=3) sc_law_marks.nd rfl (ye rfl)) (Jjc (Jk1 (Jk8 op_lt (Jjs Jjz (pv 2) (Ju2 Jqr Jjb) (λ_ _=>rfl)) Jjb (Jk2 _)) (Jjc (Jkv (pe_bm F.plainAttrs_list F.slot_list_append F.type_list_append Jtt (pv 2) (Jj8 (Jjt Jks (Jjt Jks (Jjs Jjz (pv 2) (Ju2 Jqr Jjb) (λ_ _=>rfl)) Jjb) (Jjf T.Jy G__law_take hr (by decide) (Jj8 (pv 0) (Jj8 (Jjt Jlt Jjb (Jjs Jjz (pv 2) (Ju2 Jqr Jjb) (λ_ _=>rfl))) Jja)))) Jja)))) Jjn)))
   (Jjc (Jjk (pv 2))))),?_⟩
  have hm:(0:Int) < 13 - lo/\(13 - lo).natAbs.log2 < 9000:=by rcases hlo with rfl|rfl <;> decide
  refine ⟨_,rfl,_,rfl,_,rfl,_,_,rfl,rfl,p,13 - lo,rfl,st,hm.1,hm.2,λr H1 r0 r1 b1=>⟨_,_,rfl,rfl,(show 1<=sizeLine by decide),λl hl=>?_⟩⟩
  have hl0:H l=none:=But.free st b1 hl
  have nlp:l≠p:=st.ne hl0
  have b1':But p H (upd H1 l (.lst [.int (lo+r)])):=b1.updD hl0 nlp
  refine ⟨_,rfl,p,4,rfl,b1'.2,by decide,by decide,λj H2 j0 j1 b2=>⟨j,rfl,by omega,by omega,?_⟩⟩
  refine Jod (λi σ H'=>∃(o:Option V) (ns:List Int) (m:Int),σ= [some (.ref p),some (.int lo),some (.ref l),o]/\But p H H'/\H' l=some (.lst (ns.map V.int))/\Jkm lo (ns.map V.int)=true/\ns.getLast?=some m/\ns.length<=i+1)
   ⟨_,[lo+r],lo+r,rfl,b1'.trans b2,b2.1 _ _ nlp Jj9,?_,rfl,by simp⟩ ?_ ?_
  ·simp [Jkm]
   omega
  ·rintro i σ H3 hi ⟨o,ns,m,rfl,b3,h3,hmk,hla,hle⟩
   have hb:=Jqx ns lo m hmk hla
   refine ⟨_,rfl,_,rfl,l,_,-1,_,rfl,rfl,SqL.of h3,Jri hla,_,_,rfl,rfl,_,rfl,Jog (λq=>?_) (λq=>?_)⟩
   ·have q':m < 12:=of_decide_eq_true q
    refine ⟨_,rfl,.inl ⟨rfl,_,SqL.of h3⟩,_,rfl,_,rfl,l,_,-1,_,rfl,rfl,SqL.of h3,Jri hla,_,_,rfl,rfl,_,rfl,_,rfl,_,rfl,l,_,-1,_,rfl,rfl,SqL.of h3,Jri hla,_,_,rfl,rfl,p,12 - m,rfl,b3.2,by omega,?_,λr' H4 s0 s1 b4=>?_⟩
    ·have:(12 - m).natAbs<=12:=by rcases hlo with rfl|rfl <;> omega
     exact ycf (Nat.log2_le_self _) (by omega)
    ·have h4:=b4.1 _ _ nlp h3
     refine ⟨_,_,rfl,rfl,l,_,_,rfl,rfl,h4,by rw [yf];exact Jjx (by omega),?_⟩
     refine ⟨_,ns++ [m+1+r'],m+1+r',rfl,?_,?_,Jqy ns lo m _ hmk hla (by omega) (by omega),by simp,by simp;omega⟩
     ·refine ⟨λb o nb e=>?_,?_⟩
      ·rw [Jjg (Jjh e hl0)]
       exact b4.1 _ _ nb (b3.1 _ _ nb e)
      ·obtain ⟨x,y,z,q⟩:=b4.2
       exact ⟨x,y,z,by rw [Jjg (yk nlp)];exact q⟩
     ·rw [Jj9]
      simp
   ·exact ⟨_,ns,m,rfl,b3,h3,hmk,hla,by omega⟩
  ·rintro σ H3 ⟨o,ns,m,rfl,b3,h3,hmk,hla,hle⟩
   refine ⟨_,rfl,k l ns H3 hl0 b3 h3 ?_⟩
   have hn:1<=ns.length:=by cases ns <;> simp at hla⊢
   unfold Jma
   rw [hmk,Bool.and_true,yf]
   exact decide_eq_true (by omega)
structure Jmx where
 kd:Str
 ns:List Int
 sv:Option Int
structure GGood (G:Jmx):Prop where
 kd:Knd G.kd
 ns:Jma (Jms G.kd) (G.ns.map V.int)=true
 sv:∀i,G.sv=some i->0<=i/\i < G.ns.length
theorem GGood.len {G:Jmx} (h:GGood G):1<=G.ns.length/\G.ns.length<=4:=by
 have q:=h.ns
 unfold Jma at q
 rw [yac,decide_eq_true_eq,yf] at q
 exact q.1
def nOf (G:Jmx):Nat:=match G.sv with
 |some _=>1
 |none=>G.ns.length
def GX (a:Ad) (H:Hp) (x:V) (G:Jmx):Prop:=∃(g:Addr),GateAt (cOf a G.kd) H g (G.ns.map V.int)/\match G.sv with
 |none=>x= .ref g
 |some _=>False
theorem GX.same {a:Ad} {H H':Hp} {x:V} {G:Jmx} (s:Same H H') (h:GX a H x G):GX a H' x G:=by
 obtain ⟨g,ga,r⟩:=h
 refine ⟨g,ga.same s,?_⟩
 cases e:G.sv with
 |none=>rw [e] at r;exact r
 |some j=>
  rw [e] at r
  exact r.elim
theorem GX.gs {K:W.Frag} {a:Ad} {H:Hp} {x:V} {G:Jmx} (gg:GGood G) (h:GX a H x G):GS K a H x (nOf G):=by
 obtain ⟨g,ga,r⟩:=h
 unfold nOf
 cases e:G.sv with
 |none=>
  rw [e] at r
  subst r
  have q:=GS.plain (K:=K) cOf_is ga (by rw [yf];exact gg.len.2)
  rw [yf] at q
  exact q
 |some j=>
  rw [e] at r
  exact r.elim
theorem Jyn {i:Int} (h:i.natAbs<=1000):i.natAbs.log2 < 9000:=ycf (Nat.log2_le_self _) (by omega)
theorem ifF {b:Bool} {A B:Prop} (h:b=false) (k:B):if b=true then A else B:=by rw [h];exact Jkp k
theorem ifT {b:Bool} {A B:Prop} (h:b=true) (k:A):if b=true then A else B:=by rw [h];exact Jl4 k
theorem Jm8 {H:Hp} {ns:List Int} {y:V} (h:y∈ns.map V.int):Tm K H y:=by
 obtain ⟨i,_,rfl⟩:=ybd.mp h
 exact .inl ⟨i,rfl⟩
theorem Jnn {C:Addr} {lo:Int} {x:V} {H:Hp} {Q1:Hp->Prop} {E:XK} {g dx:Addr} (c:Cls K C) (n:NoAttr K C "marks") (hg:H g=none) (hd:H dx=none) (ne:dx≠g)
  (h:∃xs,Sq H x xs/\(∀y∈xs,Tm K H y)/\Jma lo xs=true/\∀H',Same H H'->GateAt C H' g xs->Q1 H'):
  Jvd K a lo [.ref g,x] (upd (upd H dx (.own g)) g (.ins C dx [])) (λv H2=>v= .non/\Q1 H2) E:=by
 have s1:Same H (upd (upd H dx (.own g)) g (.ins C dx [])):=λb o e=>by rw [Jjg (Jjh e hg),Jjg (Jjh e hd)];exact e
 refine ⟨g,C,dx,x,rfl,Jj9,c,n,?_⟩
 obtain ⟨xs,sq,tms,e,k⟩:=h
 refine .inl ⟨xs,sq.same s1,λy hy=>(tms y hy).same s1,e,λt H' s' ht=>⟨rfl,?_⟩⟩
 have ng:t≠g:=ne_of ht (s' _ _ Jj9) (by intro z;cases z)
 exact k _ (λb o e=>by rw [Jjg (Jjh e hg)];exact s' _ _ (s1 _ _ e)) ⟨dx,t,Jj9,by rw [Jjg ng];exact ht⟩
def Jty (kd:Str) (m lv:Int):Int:=if kd=("step" :Str) then (if lv < m then lv else m) else if kd=("flap" :Str) then (if 0 > lv - m then 0 else lv - m) else lv/m
def lvG (G:Jmx) (s lv:Int):Int:=Jty G.kd (G.ns.getD (match G.sv with|some j=>j|none=>s).toNat 0) lv
def Jy1 (C:Addr) (lo:Int) (f:Int->Int->Int):Sp:=λvs H Q _=>∃(g:Addr) (ns:List Int) (s lv:Int),vs= [.ref g,.int s,.int lv]/\GateAt C H g (ns.map V.int)/\(0<=s/\s < ns.length)/\(∀n∈ns,lo<=n/\n<=12)/\(0<=lv/\lv<=1000)/\Q (.int (f (ns.getD s.toNat 0) lv)) H
theorem Jpq {ns:List Int} {s:Int} (h:0<=s/\s < ns.length):atI (ns.map V.int) s=some (.int (ns.getD s.toNat 0))/\ns.getD s.toNat 0∈ns:=by
 obtain ⟨i,rfl⟩:=ycn h.1
 have hi:i < ns.length:=by omega
 have e:ns.getD (i:Int).toNat 0=ns[i]:=by simp [yao,hi]
 rw [e]
 exact ⟨Jyj hi,ybn hi⟩
theorem Jph:Jjj ["self","setting","level"] ["self","setting","level"] (Jje (Jjr (top 54) 2)):=⟨rfl,rfl,rfl,by decide +kernel,rfl,by decide +kernel,by decide +kernel⟩
theorem Jp3 (T:Tx K mg a):FnOk P w K mg base CX0 1 a.Jgs a.Jgt ["self","setting","level"] (Jy1 a.Jiy 0 λm lv=>if lv < m then lv else m):=by
 refine T.Jc6.fn.ok Jph (λvs H Q E h=>?_) (λcdv A outer s H vs Q E hr h=>?_)
 ·obtain ⟨g,ns,s,lv,rfl,_⟩:=h
  rfl
 ·obtain ⟨g,ns,s,lv,rfl,⟨dx,t,hg,ht⟩,hs,hn,hl,k⟩:=h
  obtain ⟨hat,hin⟩:=Jpq hs
  refine ⟨?t,?B,?C⟩
  case B=>
   refine' Jjc ?s1
   case s1=>
    exact (Jjk (Jji (Jti rfl) (by rfl) T.Jav Yl (Jj8 (Jjs Jkg (Jkh (pv 0) (by rfl)) (pv 1) (λ_ _=>rfl)) (Jj8 (pv 2) Jja))))
  exact ⟨_,rfl,g,_,dx,_,_,rfl,hg,T.Jcq,T.Jdm,rfl,_,rfl,t,_,_,_,rfl,rfl,SqT.of ht,hat,_,rfl,_,_,rfl,k⟩
theorem Jpc:Jjj ["self","setting","level"] ["self","setting","level"] (Jje (Jjr (top 55) 2)):=⟨rfl,rfl,rfl,by decide +kernel,rfl,by decide +kernel,by decide +kernel⟩
theorem Jp1 (T:Tx K mg a):FnOk P w K mg base CX0 1 a.Jgy a.Jgz ["self","setting","level"] (Jy1 a.Jiz 0 λm lv=>if 0 > lv - m then 0 else lv - m):=by
 refine T.Jc9.fn.ok Jpc (λvs H Q E h=>?_) (λcdv A outer s H vs Q E hr h=>?_)
 ·obtain ⟨g,ns,s,lv,rfl,_⟩:=h
  rfl
 ·obtain ⟨g,ns,s,lv,rfl,⟨dx,t,hg,ht⟩,hs,hn,hl,k⟩:=h
  obtain ⟨hat,hin⟩:=Jpq hs
  refine ⟨?t,?B,?C⟩
  case B=>
   refine' Jjc ?s1
   case s1=>
    exact (Jjk (Jji (Job rfl) (by rfl) T.Jau Juj (Jj8 (Jjt Jlt (pv 2) (Jjs Jkg (Jkh (pv 0) (by rfl)) (pv 1) (λ_ _=>rfl))) (Jj8 Jjb Jja))))
  exact ⟨_,rfl,_,rfl,g,_,dx,_,_,rfl,hg,T.Jcw,T.Jdn,rfl,_,rfl,t,_,_,_,rfl,rfl,SqT.of ht,hat,_,_,rfl,rfl,_,_,rfl,k⟩
theorem Jpf:Jjj ["self","setting","level"] ["self","setting","level"] (Jje (Jjr (top 56) 2)):=⟨rfl,rfl,rfl,by decide +kernel,rfl,by decide +kernel,by decide +kernel⟩
theorem Jp2 (T:Tx K mg a):FnOk P w K mg base CX0 1 a.Jh4 a.Jh5 ["self","setting","level"] (Jy1 a.Jj0 1 λm lv=>lv/m):=by
 refine T.Jcc.fn.ok Jpf (λvs H Q E h=>?_) (λcdv A outer s H vs Q E hr h=>?_)
 ·obtain ⟨g,ns,s,lv,rfl,_⟩:=h
  rfl
 ·obtain ⟨g,ns,s,lv,rfl,⟨dx,t,hg,ht⟩,hs,hn,hl,k⟩:=h
  obtain ⟨hat,hin⟩:=Jpq hs
  refine ⟨?t,?B,?C⟩
  case B=>
   refine' Jjc ?s1
   case s1=>
    exact (Jjk (Jjt Js9 (pv 2) (Jjs Jkg (Jkh (pv 0) (by rfl)) (pv 1) (λ_ _=>rfl))))
  have hm:=hn _ hin
  refine ⟨_,rfl,_,rfl,g,_,dx,_,_,rfl,hg,T.Jd2,T.Jdo,rfl,_,rfl,t,_,_,_,rfl,rfl,SqT.of ht,hat,?_⟩
  exact ⟨_,_,rfl,rfl,⟨by omega,Jyn (by omega)⟩,k⟩
theorem Jts:∀{ns:List Int} {lo:Int},Jkm lo (ns.map V.int)=true->∀n∈ns,lo<=n/\n<=12
 | [],_,_=>λ_ h=>nomatch h
 |x::r,lo,h=>by
  have h':((decide (lo<=x)&&decide (x<=12))&&Jkm (x+1) (r.map V.int))=true:=h
  rw [yac,yac,decide_eq_true_eq,decide_eq_true_eq] at h'
  intro n hn
  rcases ym.mp hn with rfl|hn
  ·exact h'.1
  ·have:=Jts h'.2 n hn
   omega
theorem GGood.marks {G:Jmx} (h:GGood G):∀n∈G.ns,Jms G.kd<=n/\n<=12:=by
 have q:(decide (1<=(G.ns.map V.int).length/\(G.ns.map V.int).length<=4)&&Jkm (Jms G.kd) (G.ns.map V.int))=true:=h.ns
 rw [yac] at q
 exact Jts q.2
theorem Jwa {H:Hp} {g:Addr} {kd:Str} {ns:List Int} {s lv:Int} {Q:VK} (T:Tx K mg a) (hk:Knd kd) (ga:GateAt (cOf a kd) H g (ns.map V.int)) (hs:0<=s/\s < ns.length) (hn:∀n∈ns,Jms kd<=n/\n<=12) (hl:0<=lv/\lv<=1000) (k:Q (.int (Jty kd (ns.getD s.toNat 0) lv)) H):
  ∃C dx fs f fd ps sp,H g=some (.ins C dx fs)/\fs.lookup ("passes" :Str)=none/\Cls K C/\Jof K C "passes" f/\FnOk P w K mg base CX0 1 f fd ps sp/\Binds K fd ps []/\sp [.ref g,.int s,.int lv] H Q E0:=by
 obtain ⟨dx,t,h1,h2⟩:=id ga
 rcases hk with rfl|rfl|rfl
 ·have e2:cOf a "step" =a.Jiy:=if_pos rfl
  rw [e2] at h1 ga
  exact ⟨_,dx,_,_,_,_,_,h1,rfl,T.Jcq,T.Jcv,Jp3 T,T.Jc6.bd,g,ns,s,lv,rfl,ga,hs,hn,hl,k⟩
 ·have e2:cOf a "flap" =a.Jiz:=by unfold cOf;rw [if_neg Jtu,if_pos rfl]
  rw [e2] at h1 ga
  have ek:Jty "flap" (ns.getD s.toNat 0) lv=(if 0 > lv - ns.getD s.toNat 0 then 0 else lv - ns.getD s.toNat 0):=by unfold Jty;rw [if_neg Jtu,if_pos rfl]
  rw [ek] at k
  exact ⟨_,dx,_,_,_,_,_,h1,rfl,T.Jcw,T.Jd1,Jp1 T,T.Jc9.bd,g,ns,s,lv,rfl,ga,hs,hn,hl,k⟩
 ·have e2:cOf a "part" =a.Jj0:=by unfold cOf;rw [if_neg Jw4,if_neg Jw3]
  rw [e2] at h1 ga
  have ek:Jty "part" (ns.getD s.toNat 0) lv=lv/ns.getD s.toNat 0:=by unfold Jty;rw [if_neg Jw4,if_neg Jw3]
  rw [ek] at k
  exact ⟨_,dx,_,_,_,_,_,h1,rfl,T.Jd2,T.Jd7,Jp2 T,T.Jcc.bd,g,ns,s,lv,rfl,ga,hs,hn,hl,k⟩
theorem GX.passes {H:Hp} {x:V} {G:Jmx} {s lv:Int} {Q:VK} (T:Tx K mg a) (gg:GGood G) (gx:GX a H x G) (hs:0<=s/\s < (nOf G:Int)) (hl:0<=lv/\lv<=1000) (k:Q (.int (lvG G s lv)) H):
  ∃o C dx fs f fd ps sp k',x= .ref o/\H o=some (.ins C dx fs)/\fs.lookup ("passes" :Str)=none/\Cls K C/\Jof K C "passes" f/\FnOk P w K mg base CX0 k' f fd ps sp/\k'<=2/\Binds K fd ps []/\sp [x,.int s,.int lv] H Q E0:=by
 obtain ⟨g,ga,r⟩:=gx
 unfold lvG at k
 unfold nOf at hs
 cases e:G.sv with
 |none=>
  rw [e] at r k hs
  subst r
  obtain ⟨C,dx',fs,f,fd,ps,sp,h1,h2,c,m,ok,bd,hsp⟩:=Jwa (P:=P) (w:=w) (base:=base) (Q:=Q) T gg.kd ga hs gg.marks hl k
  exact ⟨g,C,dx',fs,f,fd,ps,sp,1,rfl,h1,h2,c,m,ok,by decide,bd,hsp⟩
 |some j=>
  rw [e] at r
  exact r.elim
def Yba (a:Ad):Sp:=λvs H Q _=>∃(x:V) (G:Jmx) (s lv:Int),vs= [x,.int s,.int lv]/\GX a H x G/\GGood G/\(0<=s/\s < (nOf G:Int))/\(0<=lv/\lv<=1000)/\Q (.int (lvG G s lv)) H
theorem Jo2:Jjj ["self","thing"] ["self","thing"] (Jje (Jjr (top 10) 0)):=⟨rfl,rfl,rfl,by decide +kernel,rfl,by decide +kernel,by decide +kernel⟩
theorem Jkq (T:Tx K mg a):FnOk P w K mg base CX0 1 a.Jey a.Jez ["self","thing"] (Jmw K "thing"):=by
 refine T.Jc1.fn.ok Jo2 (λvs H Q E h=>?_) (λcdv A outer s H vs Q E hr h=>?_)
 ·obtain ⟨e,C,W,fI,y,rfl,_⟩:=h
  rfl
 ·obtain ⟨e,C,W,fI,y,rfl,q,c,n,k⟩:=h
  refine ⟨_,(Jjc (Jmo (pv 0) (pv 1) rfl)),?_⟩
  exact ⟨_,rfl,_,rfl,e,C,W,fI,true,rfl,q,c,n,k⟩
theorem Jva:Jjj ["self","setting","level"] ["self","setting","level"] (Jje (Jjr (top 53) 0)):=⟨rfl,rfl,rfl,by decide +kernel,rfl,by decide +kernel,by decide +kernel⟩
theorem Jnc (T:Tx K mg a):FnOk P w K mg base (CXX P w) 3 a.Jgm a.Jgn ["self","setting","level"] (Yba a):=by
 have G_is_whole:=Jkl (P:=P) (w:=w) (base:=base) T
 have G_NoGate___init__:=Jmd (P:=P) (w:=w) (base:=base) T
 have G_NoNumber___init__:=Jkq (P:=P) (w:=w) (base:=base) T
 refine T.Jc3.fn.okX Jva (λvs H Q E h=>?_) (λcdv A outer s H vs Q E hr h=>?_)
 ·obtain ⟨x,G,s,lv,rfl,_⟩:=h
  rfl
 ·obtain ⟨x,G,s,lv,rfl,gx,gg,hs,hl,k⟩:=h
  refine ⟨?t,?B,?C⟩
  case B=>
   refine' Jjd ?s1 ?r1
   case s1=>
    refine' Jk1 ?c2 ?a2 ?b2
    case c2=>
     exact (Jjy (Jjw (Jjf T.J0 G_is_whole hr (by decide) (Jj8 (pv 1) (Jj8 Jjb (Jj8 (Jjt Jlt (Jm9 (pv 0) hr) Jjb) Jja))))))
    case a2=>
     refine' Jjc ?s3
     case s3=>
      exact (Jke Jkc rfl (Jla T.Jch G_NoGate___init__ hr (by decide) T.Jbw.bd T.Jb4 (Jj8 (pv 1) Jja)))
    case b2=>
     exact Jjn
   case r1=>
    refine' Jjd ?s6 ?r6
    case s6=>
     refine' Jk1 ?c7 ?a7 ?b7
     case c7=>
      exact (Jjy (Jjw (Jjf T.J0 G_is_whole hr (by decide) (Jj8 (pv 2) (Jj8 Jjb (Jj8 (Jkk (by rfl) T.Jaf (v:=.int 1000) ⟨_,rfl⟩) Jja))))))
     case a7=>
      refine' Jjc ?s8
      case s8=>
       exact (Jke Jkc rfl (Jla T.Jcn G_NoNumber___init__ hr (by decide) T.Jc1.bd T.Jb9 (Jj8 (pv 2) Jja)))
     case b7=>
      exact Jjn
    case r6=>
     refine' Jjc ?s11
     case s11=>
      exact (Jjk (Jsb (pv 0) hr (Jj8 (pv 1) (Jj8 (pv 2) Jja))))
  have gs:GS K a H x (nOf G):=gx.gs gg
  obtain ⟨o,C,dx',fs,f,fd,ps,sp,k',rfl,h1,h2,c,m,ok,hk,bd,hsp⟩:=gx.passes (P:=P) (w:=w) (base:=base) (Q:=Q) T gg hs hl k
  refine ⟨_,rfl,_,rfl,Jow T gs ⟨_,_,rfl,rfl,.int s,0,(nOf G:Int) - 1,rfl,.inl ⟨s,rfl⟩,_,rfl,ifF (by simp [Jjo];omega) ?_⟩ (by decide)⟩
  refine ⟨_,rfl,.int lv,0,1000,rfl,.inl ⟨lv,rfl⟩,_,rfl,ifF (by simp [Jjo];omega) ?_⟩
  exact ⟨_,rfl,o,C,dx',fs,f,fd,ps,sp,k',rfl,h1,h2,c,m,ok,hk,bd,_,rfl,_,rfl,hsp⟩
def oV:Option Int->V
 |none=>.non
 |some i=>.int i
def okE (lost:List (Option Int)):Option Int->Bool
 |none=>false
 |some i=>(lost.getD i.toNat none).isNone
def Jwf (ends lost:List (Option Int)):Bool:=ends.all (okE lost)
def spSafe:Sp:=λvs H Q _=>∃(L M:Addr) (ends lost:List (Option Int)),vs= [.ref L,.ref M]/\H L=some (.lst (ends.map oV))/\H M=some (.lst (lost.map oV))/\(∀i,some i∈ends->0<=i/\i < lost.length)/\ends.length<=100/\
 ∀H',Same H H'->Q (.bl (Jwf ends lost)) H'
def spProm (K:W.Frag):Sp:=λvs H Q _=>∃x:V,vs= [x]/\Tm K H x/\Q (.bl (Jjo x 0 12)) H
theorem Jxi (o:Option Int):decide (oV o= .non)=o.isNone:=by
 cases o with
 |none=>rfl
 |some z=>simp [oV]
theorem oV_at {l:List (Option Int)} {i:Int} (h:0<=i/\i < l.length):atI (l.map oV) i=some (oV (l.getD i.toNat none)):=by
 obtain ⟨k,rfl⟩:=ycn h.1
 have hk:k < l.length:=by omega
 refine Jl6 ?_
 rw [yp,yn hk]
 simp [yao,hk]
theorem Jsh:Jjj ["thing"] ["thing"] (Jje (top 27)):=⟨rfl,rfl,rfl,by decide +kernel,rfl,by decide +kernel,by decide +kernel⟩
theorem Jmg (T:Tx K mg a):FnOk P w K mg base CX0 2 a.Jfi a.Jfj ["thing"] (spProm K):=by
 have G_is_whole:=Jkl (P:=P) (w:=w) (base:=base) T
 refine T.J8.fn.ok Jsh (λvs H Q E h=>?_) (λcdv A outer s H vs Q E hr h=>?_)
 ·obtain ⟨x,rfl,_⟩:=h
  rfl
 ·obtain ⟨x,rfl,tx,k⟩:=h
  refine ⟨_,(Jjc (Jjk (Jjf T.J0 G_is_whole hr (by decide) (Jj8 (pv 0) (Jj8 Jjb (Jj8 (Jkk (by rfl) T.Jac (v:=.int 12) ⟨_,rfl⟩) Jja)))))),?_⟩
  exact ⟨_,rfl,x,0,12,rfl,tx,k⟩
theorem Jol:Jjj ["up","hi"] ["up","hi"] (Jje (top 28)):=⟨rfl,rfl,rfl,by decide +kernel,rfl,by decide +kernel,by decide +kernel⟩
theorem Jxw:Jjj ["ends","lost"] ["ends","lost"] (Jje (top 24)):=⟨rfl,rfl,rfl,by decide +kernel,rfl,by decide +kernel,by decide +kernel⟩
theorem Js3 (T:Tx K mg a):FnOk P w K mg base CX0 1 a.Jfg a.Jfh ["ends","lost"] spSafe:=by
 refine T.J7.fn.ok Jxw (λvs H Q E h=>?_) (λcdv A outer s H vs Q E hr h=>?_)
 ·obtain ⟨L,M,ends,lost,rfl,_⟩:=h
  rfl
 ·obtain ⟨L,M,ends,lost,rfl,hL,hM,hb,hn,k⟩:=h
  refine ⟨_,(Jjc (Jjk (Jji (Jlk rfl) (by rfl) T.Jal Jn4 (Jj8 (Jk3 (N:=(["end","lost"]:List Str)) (ini:=[none,some 1]) rfl (Jku (pv 0)) (λ_ _ _ _ _=>(Jjl (i:=0) (by decide +kernel:(["end","lost"]:List Str).Nodup) rfl (ye rfl))) (λ_ _ _ _ _=>Jk0) (λ_ _ _ _ _=>(Jp8 (Jl1 Jv6 (pv 0) Jl7 (Jk2 _)) (Jp9 (Jl1 Jsa (Jjs (Jlz (K:=K) rfl) (pv 1) (pv 0) (λ_ _=>rfl)) Jl7 (Jk2 _)))))) Jja)))),?_⟩
  refine ⟨_,rfl,L,rfl,⟨_,SqL.of hL⟩,λD hD=>?_⟩
  refine Jn8 ((ends.map (okE lost)).map V.bl) hD (by simp) (by simp;omega) hL ?_ ?_
  ·intro i x y H' Q' hx hy sm k'
   rw [yp,yag] at hx hy
   obtain ⟨e,he,rfl⟩:=hx
   obtain ⟨c,hc,rfl⟩:=hy
   rw [yp,he] at hc
   obtain rfl:okE lost e=c:=by simpa using hc
   cases e with
   |none=>exact ⟨_,rfl,rfl,false,rfl,Jkp (k' _ (Same.refl _))⟩
   |some j=>
    have hj:=hb j (yae he)
    refine ⟨_,rfl,rfl,true,rfl,Jl4 ?_⟩
    refine ⟨_,rfl,_,rfl,M,_,j,_,rfl,rfl,SqL.of (sm _ _ hM),oV_at hj,rfl,?_⟩
    rw [Jxi]
    exact k' _ (Same.refl _)
  ·intro H' sm hDs
   refine ⟨D,ends.map (okE lost),rfl,SqL.of hDs,?_⟩
   have e:(ends.map (okE lost)).all id=Jwf ends lost:=by
    unfold Jwf
    rw [List.all_map]
    rfl
   rw [e]
   exact k _ sm
structure BTd where
 z:Str
 lo:Int
 hi:Int
 st:Int
 rn:Int
 G:Jmx
structure BGd (B:BTd):Prop where
 lo:0<=B.lo/\B.lo<=B.hi
 hi:B.hi<=12
 rn:0<=B.rn/\B.rn<=6
 G:GGood B.G
def BX (a:Ad) (H:Hp) (o:Addr) (B:BTd):Prop:=∃dx g,H o=some (.ins a.Jj1 dx (Jsu (.str B.z) (.int B.lo) (.int B.hi) (.int B.st) (.int B.rn) g))/\GX a H g B.G
theorem BX.same {a:Ad} {H H':Hp} {o:Addr} {B:BTd} (s:Same H H') (h:BX a H o B):BX a H' o B:=by obtain ⟨dx,g,h1,h2⟩:=h;exact ⟨dx,g,s _ _ h1,h2.same s⟩
def Jrv (B:BTd):List Int:=(yu (B.hi+1 - B.lo).toNat).map λk:Nat=>B.lo+k
def Jpo (B:BTd) (e:Int):Option Int:=if B.lo<=e/\e<=B.hi then some (e - B.lo) else none
def Jly (B:BTd) (up lv s:Int):List (Option Int):=(yu (up+B.rn+1).toNat).map λc:Nat=>Jpo B (lv - lvG B.G s lv+c)
def Ybb (a:Ad):Sp:=λvs H Q _=>∃(o:Addr) (B:BTd),vs= [.ref o]/\BX a H o B/\BGd B/\∀l H',Same H H'->H' l=some (.lst ((Jrv B).map V.int))->Q (.ref l) H'
def spEnds (a:Ad):Sp:=λvs H Q _=>∃(o:Addr) (B:BTd) (up lv s:Int),vs= [.ref o,.int up,.int lv,.int s]/\BX a H o B/\BGd B/\(0<=up/\up<=12)/\(0<=lv/\lv<=12)/\(0<=s/\s < (nOf B.G:Int))/\
 ∀l H',Same H H'->H' l=some (.lst ((Jly B up lv s).map oV))->Q (.ref l) H'
theorem GX.lets {H:Hp} {x:V} {G:Jmx} {s lv:Int} (T:Tx K mg a) (gg:GGood G) (gx:GX a H x G) (hs:0<=s/\s < (nOf G:Int)) (hl:0<=lv/\lv<=1000):
  ∃o C dx fs f fd ps sp k',x= .ref o/\H o=some (.ins C dx fs)/\fs.lookup ("lets" :Str)=none/\Cls K C/\Jof K C "lets" f/\FnOk P w K mg base CX0 k' f fd ps sp/\k'<=3/\Binds K fd ps []/\∀Q:VK,Q (.int (lvG G s lv)) H->sp [x,.int s,.int lv] H Q E0:=by
 have sp:∀Q:VK,Q (.int (lvG G s lv)) H->Yba a [x,.int s,.int lv] H Q E0:=λQ k=>⟨x,G,s,lv,rfl,gx,gg,hs,hl,k⟩
 obtain ⟨g,ga,r⟩:=gx
 obtain ⟨dx,t,h1,h2⟩:=id ga
 cases e:G.sv with
 |none=>
  rw [e] at r
  subst r
  rcases gg.kd with q|q|q
  ·rw [q,show cOf a "step" =a.Jiy from if_pos rfl] at h1
   exact ⟨g,_,dx,_,_,_,_,_,3,rfl,h1,rfl,T.Jcq,T.Jct,(Jnc T).calm,by decide,T.Jc3.bd,sp⟩
  ·rw [q,show cOf a "flap" =a.Jiz by unfold cOf;rw [if_neg Jtu,if_pos rfl]] at h1
   exact ⟨g,_,dx,_,_,_,_,_,3,rfl,h1,rfl,T.Jcw,T.Jcz,(Jnc T).calm,by decide,T.Jc3.bd,sp⟩
  ·rw [q,show cOf a "part" =a.Jj0 by unfold cOf;rw [if_neg Jw4,if_neg Jw3]] at h1
   exact ⟨g,_,dx,_,_,_,_,_,3,rfl,h1,rfl,T.Jd2,T.Jd5,(Jnc T).calm,by decide,T.Jc3.bd,sp⟩
 |some j=>
  rw [e] at r
  exact r.elim
theorem Jvb:Jjj ["basin"] ["basin"] (Jje (top 29)):=⟨rfl,rfl,rfl,by decide +kernel,rfl,by decide +kernel,by decide +kernel⟩
theorem Jv4 (T:Tx K mg a):FnOk P w K mg base CX0 1 a.Jfm a.Jfn ["basin"] (Ybb a):=by
 refine T.Ja.fn.ok Jvb (λvs H Q E h=>?_) (λcdv A outer s H vs Q E hr h=>?_)
 ·obtain ⟨o,B,rfl,_⟩:=h
  rfl
 ·obtain ⟨o,B,rfl,⟨dx,g,ho,gx⟩,bg,k⟩:=h
  have b1:=bg.lo
  have b2:=bg.hi
  refine ⟨_,(Jjc (Jjk (Jk7 (Jsv rfl) (by rfl) T.Jat Jn5 (Jj8 (Jk7 Jz7 (by rfl) T.Jaw Ym (Jj8 (Jkh (pv 0) (by rfl)) (Jj8 (Jjt Jks (Jkh (pv 0) (by rfl)) Jjb) Jja))) Jja)))),?_⟩
  refine ⟨_,rfl,o,_,dx,_,_,rfl,ho,T.Jd8,T.Jdq,rfl,_,rfl,o,_,dx,_,_,rfl,ho,T.Jd8,T.Jdr,rfl,_,_,rfl,rfl,_,_,rfl,λp hp=>?_⟩
  refine ⟨p,_,_,rfl,Jj9,by omega,by omega,by omega,by omega,λl hl=>?_⟩
  refine k l _ ((Same.upd hp).trans (Same.upd hl)) ?_
  rw [Jj9]
  unfold Jrv
  rw [List.map_map]
  rfl
theorem sc_ends_alone:Jjj ["basin","up","level","setting","left","ends"] ["basin","up","level","setting"] (Jje (top 30)):=⟨rfl,rfl,rfl,by decide +kernel,rfl,by decide +kernel,by decide +kernel⟩
theorem Jt0 (T:Tx K mg a):FnOk P w K mg base CX0 4 a.Jfo a.Jfp ["basin","up","level","setting"] (spEnds a):=by
 refine T.Jb.fn.ok sc_ends_alone (λvs H Q E h=>?_) (λcdv A outer s H vs Q E hr h=>?_)
 ·obtain ⟨o,B,up,lv,s,rfl,_⟩:=h
  rfl
 ·obtain ⟨o,B,up,lv,s,rfl,bx,bg,hup,hlv,hs,k⟩:=h
  obtain ⟨dx,g,ho,gx⟩:=id bx
  have b1:=bg.lo
  have b2:=bg.hi
  have b3:=bg.rn
  refine ⟨?t,?B,?C⟩
  case B=>
   refine' Jjd ?s1 ?r1
   case s1=>
    exact (Jju (i:=4) sc_ends_alone.nd rfl (yad rfl) (Jjt Jlt (pv 2) (Jsb (Jkh (pv 0) (by rfl)) hr (Jj8 (pv 3) (Jj8 (pv 2) Jja)))))
   case r1=>
    refine' Jjd ?s3 ?r3
    case s3=>
     exact (Jm6 (i:=5) (N:=(["cubes","left"]:List Str)) (ini:=[none,some 4]) sc_ends_alone.nd rfl (ye rfl) rfl (Jl8 (by rfl) T.Jaw (Jj8 (Jjt Jks (Jjt Jks (pv 1) (Jkh (pv 0) (by rfl))) Jjb) Jja)) (λ_ _ _ _ _=>(Jjl (i:=0) (by decide +kernel:(["cubes","left"]:List Str).Nodup) rfl (ye rfl))) (λ_ _ _ _ _=>Jk0) (λ_ _ _ _ _=>(Jjt Jks (pv 1) (pv 0))))
    case r3=>
     refine' Jjc ?s5
     case s5=>
      exact (Jjk (Jk3 (N:=(["end","basin"]:List Str)) (ini:=[none,some 0]) rfl (Jku (pv 5)) (λ_ _ _ _ _=>(Jjl (i:=0) (by decide +kernel:(["end","basin"]:List Str).Nodup) rfl (ye rfl))) (λ_ _ _ _ _=>Jk0) (λ_ _ _ _ _=>(Yan (Jse Jny Jny (Jlb (K:=K) rfl (pv 1) (by rfl)) (pv 0) (Jlb (K:=K) rfl (pv 1) (by rfl))) (Jjt Jlt (pv 0) (Jlb (K:=K) rfl (pv 1) (by rfl))) Jl7))))
  obtain ⟨q,C,dxq,fs,f,fd,ps,sp,k',eq,h1,h2,c',m,ok,hk,bd,hsp⟩:=GX.lets (P:=P) (w:=w) (base:=base) T bg.G gx hs (show 0<=lv/\lv<=1000 by omega)
  refine ⟨_,rfl,_,rfl,o,_,dx,_,_,rfl,ho,T.Jd8,T.Jdu,rfl,q,C,dxq,fs,f,fd,ps,sp,k',eq,h1,h2,c',m,ok,hk,bd,_,rfl,_,rfl,hsp _ ⟨_,_,rfl,rfl,?_⟩⟩
  refine ⟨_,rfl,_,rfl,o,_,dx,_,_,rfl,ho,T.Jd8,T.Jdt,rfl,_,_,rfl,rfl,_,_,rfl,rfl,_,rfl,by omega,by omega,λD hD=>?_⟩
  refine Jld (lo:=0) (λi σ H'=>(∃o,σ= [o,some (.int (lv - lvG B.G s lv))])/\H' D=some (.lst ((yu i).map λc:Nat=>V.int (lv - lvG B.G s lv+c)))/\Same H H') ⟨⟨_,rfl⟩,Jj9,Same.upd hD⟩ ?_ ?_
  ·rintro i σ H' hi ⟨⟨o1,rfl⟩,hDs,sm⟩
   refine Jkf ⟨_,rfl,_,rfl,_,_,rfl,rfl,_,hDs,?_,⟨_,rfl⟩,?_,?_⟩
   ·rw [yf,ybf]
    exact Jjx (by omega)
   ·rw [Jj9,yca,yab]
    simp
   ·intro c u z
    rw [Jjg (Jjh z hD)]
    exact sm _ _ z
  rintro σ1 H1 ⟨_,hDs,s1⟩
  refine ⟨_,rfl,D,rfl,⟨_,SqL.of hDs⟩,λD2 hD2=>?_⟩
  refine Jn8 ((Jly B up lv s).map oV) hD2 (by simp [Jly]) (by simp;omega) hDs ?_ ?_
  ·intro i x y H' Q' hx hy sm k'
   have lt:i < (up+B.rn+1).toNat:=by
    have:=(yv.mp hx).1
    simpa using this
   have ex:x= .int (lv - lvG B.G s lv+i):=by
    have:(List.map (λc:Nat=>V.int (lv - lvG B.G s lv+c)) (yu (up+B.rn+1).toNat))[i]?=some (V.int (lv - lvG B.G s lv+i)):=by simp [lt]
    rw [this] at hx
    exact (yy.inj hx).symm
   have ey:y=oV (Jpo B (lv - lvG B.G s lv+i)):=by
    have:((Jly B up lv s).map oV)[i]?=some (oV (Jpo B (lv - lvG B.G s lv+i))):=by unfold Jly;simp [lt]
    rw [this] at hy
    exact (yy.inj hy).symm
   subst ex ey
   have ho':=sm _ _ (s1 _ _ ho)
   refine ⟨_,rfl,o,_,dx,_,_,rfl,ho',T.Jd8,T.Jdq,rfl,_,rfl,_,_,rfl,rfl,_,rfl,?_⟩
   refine Jog (λc1=>?_) (λc1=>?_)
   ·have c1':=of_decide_eq_true c1
    refine ⟨_,rfl,o,_,dx,_,_,rfl,ho',T.Jd8,T.Jdr,rfl,_,_,rfl,rfl,_,rfl,Jog (λc2=>?_) (λc2=>?_)⟩
    ·have c2':=of_decide_eq_true c2
     refine ⟨_,rfl,_,rfl,o,_,dx,_,_,rfl,ho',T.Jd8,T.Jdq,rfl,_,_,rfl,rfl,?_⟩
     have e:Jpo B (lv - lvG B.G s lv+i)=some (lv - lvG B.G s lv+i - B.lo):=if_pos ⟨c1',c2'⟩
     rw [e] at k'
     exact k' _ (Same.refl _)
    ·have c2':=λz=>c2 (decide_eq_true z)
     have e:Jpo B (lv - lvG B.G s lv+i)=none:=if_neg λz=>c2' z.2
     rw [e] at k'
     exact k' _ (Same.refl _)
   ·have c1':=λz=>c1 (decide_eq_true z)
    have e:Jpo B (lv - lvG B.G s lv+i)=none:=if_neg λz=>c1' z.1
    rw [e] at k'
    exact ⟨_,rfl,Jkp (k' _ (Same.refl _))⟩
  ·intro H' sm hDs2
   exact k D2 H' (s1.trans sm) hDs2
def usable (B:BTd) (hi lv:Int):List Int:=((yu (nOf B.G)).map λk:Nat=>(k:Int)).filter λs=>decide (lvG B.G s lv<=hi)
def RowE (B:BTd) (up lv:Int) (H:Hp) (s:Int) (r:Addr×Addr):Prop:=H r.1=some (.tup [.int s,.ref r.2])/\H r.2=some (.lst ((Jly B up lv s).map oV))
def Jng (us:List Int) (rs:List (Addr×Addr)):List (Key×V):=(us.zip rs).map λp=>(yx p.1,V.ref p.2.2)
def WayAt (B:BTd) (up hi lv:Int) (H:Hp) (p:Addr):Prop:=∃o rs,H p=some (.frz o (.dK (Jng (usable B hi lv) rs)))/\Paired (RowE B up lv H) (usable B hi lv) rs
theorem RowE.same {B:BTd} {up lv:Int} {H H':Hp} {s:Int} {r:Addr×Addr} (sm:Same H H') (h:RowE B up lv H s r):RowE B up lv H' s r:=⟨sm _ _ h.1,sm _ _ h.2⟩
theorem WayAt.same {B:BTd} {up hi lv:Int} {H H':Hp} {p:Addr} (sm:Same H H') (h:WayAt B up hi lv H p):WayAt B up hi lv H' p:=by
 obtain ⟨o,rs,h1,h2⟩:=h
 exact ⟨o,rs,sm _ _ h1,Paired.mapP h2 λs r q=>q.same sm⟩
theorem RowE.put {B:BTd} {up lv:Int} {H:Hp} {s:Int} {r:Addr×Addr} {D:Addr} {rs:List (Addr×Addr)} {o:HO} (hup:0<=up) (hrn:0<=B.rn) (hD:H D=some (.lst (rs.map λr:Addr×Addr=>V.ref r.1))) (h:RowE B up lv H s r):RowE B up lv (upd H D o) s r:=by
 have n1:r.1≠D:=λz=>by have:=h.1;rw [z,hD] at this;cases this
 have n2:r.2≠D:=λz=>by
  have q:=h.2
  rw [z,hD] at q
  have e:=HO.lst.inj (yy.inj q)
  have l:(Jly B up lv s).length=(up+B.rn+1).toNat:=by simp [Jly]
  cases hc:Jly B up lv s with
  |nil=>rw [hc] at l;simp at l;omega
  |cons x xs=>
   rw [hc] at e
   cases rs with
   |nil=>simp at e
   |cons r' rs'=>
    simp at e
    cases x <;> exact nomatch e.1
 exact ⟨by rw [Jjg n1];exact h.1,by rw [Jjg n2];exact h.2⟩
theorem Jsf {B:BTd} {up lv:Int} {H:Hp}:∀{us:List Int} {rs:List (Addr×Addr)},Paired (RowE B up lv H) us rs->Jub H (rs.map λr=>V.ref r.1) (Jng us rs)
 |_,_,.nil=>.nil
 |_,_,.cons h t=>.cons ⟨_,rfl,h.1⟩ (Jsf t)
theorem Jvz:∀{us:List Int} {rs:List (Addr×Addr)},us.length=rs.length->(Jng us rs).map (·.1)=us.map yx
 | [],[],_=>rfl
 | [],_::_,h=>by simp at h
 |_::_,[],h=>by simp at h
 |u::us,r::rs,h=>by
  have:=Jvz (us:=us) (rs:=rs) (by simpa using h)
  show yx u::(Jng us rs).map (·.1)=_
  rw [this]
  rfl
theorem Jvh (B:BTd) (hi lv:Int):(usable B hi lv).Nodup:=by
 unfold usable
 refine yby.filter _ ?_
 refine yby.map _ (λa b h=>?_) List.nodup_range
 intro z
 exact h (by exact_mod_cast z)
theorem Jpj (B:BTd) (hi lv:Int) (h:nOf B.G<=4):(usable B hi lv).length<=4:=by
 unfold usable
 refine yz (ycb _ _) ?_
 simpa using h
theorem Jsq {B:BTd} {hi lv s:Int} (h:s∈usable B hi lv):0<=s/\s < (nOf B.G:Int):=by
 unfold usable at h
 obtain ⟨h1,_⟩:=ybl.mp h
 obtain ⟨k,hk,rfl⟩:=ybd.mp h1
 have:=yaj.mp hk
 omega
theorem Jxg {G:Jmx} (gg:GGood G):nOf G<=4:=by
 unfold nOf
 have:=gg.len.2
 cases G.sv <;> simp <;> omega
def spWays (a:Ad):Sp:=λvs H Q _=>∃(o:Addr) (B:BTd) (up hi lv:Int),vs= [.ref o,.int up,.int hi,.int lv]/\BX a H o B/\BGd B/\(0<=up/\up<=12)/\(0<=lv/\lv<=12)/\
 ∀p H',Same H H'->WayAt B up hi lv H' p->Q (.ref p) H'
theorem sc_ends_by_setting:Jjj ["basin","up","hi","level","usable"] ["basin","up","hi","level"] (Jje (top 31)):=⟨rfl,rfl,rfl,by decide +kernel,rfl,by decide +kernel,by decide +kernel⟩
theorem Jp4 (T:Tx K mg a):FnOk P w K mg base CX0 5 a.Jfq a.Jfr ["basin","up","hi","level"] (spWays a):=by
 have G_ends_alone:=Jt0 (P:=P) (w:=w) (base:=base) T
 refine T.Jc.fn.ok sc_ends_by_setting (λvs H Q E h=>?_) (λcdv A outer s H vs Q E hr h=>?_)
 ·obtain ⟨o,B,up,hi,lv,rfl,_⟩:=h
  rfl
 ·obtain ⟨o,B,up,hi,lv,rfl,bx,bg,hup,hlv,k⟩:=h
  obtain ⟨dx,g,ho,gx⟩:=id bx
  have n4:=Jxg bg.G
  refine ⟨?t,?B,?C⟩
  case B=>
   refine' Jjd ?s1 ?r1
   case s1=>
    exact (Jm6 (i:=4) (N:=(["setting","hi","level","basin"]:List Str)) (ini:=[none,some 2,some 3,some 0]) sc_ends_by_setting.nd rfl (ye rfl) rfl (Jl8 (by rfl) T.Jaw (Jj8 (Jm9 (Jkh (pv 0) (by rfl)) hr) Jja)) (λ_ _ _ _ _=>(Jjl (i:=0) (by decide +kernel:(["setting","hi","level","basin"]:List Str).Nodup) rfl (ye rfl))) (λ_ _ _ _ _=>(Jnd (Jk8 Jny (Jzu (P:=P) (w:=w) (K:=K) (mg:=mg) (base:=base) rfl rfl rfl rfl rfl (Jlb (K:=K) rfl (pv 3) (by rfl)) hr (Jj8 (pv 0) (Jj8 (pv 2) Jja))) (pv 1) (Jk2 _)))) (λ_ _ _ _ _=>(pv 0)))
   case r1=>
    refine' Jjc ?s3
    case s3=>
     refine' Jjk ?e5_0
     case e5_0=>
      exact (Jk7 (Joz rfl) (by rfl) T.Jao Juh (Jj8 (Jk3 (N:=(["setting","basin","up","level"]:List Str)) (ini:=[none,some 0,some 1,some 3]) rfl (Jku (pv 4)) (λ_ _ _ _ _=>(Jjl (i:=0) (by decide +kernel:(["setting","basin","up","level"]:List Str).Nodup) rfl (ye rfl))) (λ_ _ _ _ _=>Jk0) (λ_ _ _ _ _=>(Jk5 (Jj8 (pv 0) (Jj8 (Jjf T.Jb G_ends_alone hr (by decide) (pa4 (pv 1) (pv 2) (pv 3) (pv 0))) Jja))))) Jja))
  refine ⟨_,rfl,o,_,dx,_,_,rfl,ho,T.Jd8,T.Jdu,rfl,Jow T (gx.gs bg.G) ⟨_,rfl,by omega,by omega,λD hD=>?_⟩ (by decide)⟩
  refine Jld (lo:=0) (λi σ H'=>(∃o',σ= [o',some (.int hi),some (.int lv),some (.ref o)])/\H' D=some (.lst ((((yu i).map λk:Nat=>(k:Int)).filter λs=>decide (lvG B.G s lv<=hi)).map V.int))/\Same H H') ⟨⟨_,rfl⟩,Jj9,Same.upd hD⟩ ?_ ?_
  ·rintro i σ H' hi' ⟨⟨o1,rfl⟩,hDs,sm⟩
   have hs:0<=(0+i:Int)/\(0+i:Int) < (nOf B.G:Int):=by omega
   obtain ⟨q,C,dxq,fs,f,fd,ps,sp,k',eq,h1,h2,c',m,ok,hk,bd,hsp⟩:=GX.lets (P:=P) (w:=w) (base:=base) T bg.G (gx.same sm) hs (show 0<=lv/\lv<=1000 by omega)
   refine ⟨_,rfl,o,_,dx,_,_,rfl,sm _ _ ho,T.Jd8,T.Jdu,rfl,q,C,dxq,fs,f,fd,ps,sp,k',eq,h1,h2,c',m,ok,Nat.le_succ_of_le hk,bd,_,rfl,_,rfl,hsp _ ⟨_,rfl,_,_,rfl,rfl,_,rfl,?_⟩⟩
   have e0:(0+(i:Int))=i:=by omega
   rw [e0]
   have ef:((yu (i+1)).map λk:Nat=>(k:Int)).filter (λs=>decide (lvG B.G s lv<=hi))=((yu i).map λk:Nat=>(k:Int)).filter (λs=>decide (lvG B.G s lv<=hi))++(if lvG B.G i lv<=hi then [(i:Int)] else []):=by
    rw [yca,yab,yco]
    congr 1
    by_cases c:lvG B.G i lv<=hi <;> simp [c]
   show if decide (lvG B.G i lv<=hi)=true then _ else _
   refine Jog (λc=>?_) (λc=>?_)
   ·have c':=of_decide_eq_true c
    refine ⟨_,rfl,_,hDs,?_,⟨_,rfl⟩,?_,?_⟩
    ·rw [yf]
     refine Jjx (yz (ycb _ _) ?_)
     rw [yf,ybf]
     omega
    ·rw [Jj9,ef,if_pos c',yab]
     rfl
    ·intro c2 u z
     rw [Jjg (Jjh z hD)]
     exact sm _ _ z
   ·have c':¬lvG B.G i lv<=hi:=λz=>c (decide_eq_true z)
    refine ⟨⟨_,rfl⟩,?_,sm⟩
    rw [ef,if_neg c',yax]
    exact hDs
  rintro σ1 H1 ⟨_,hDs,s1⟩
  have hDs:H1 D=some (.lst ((usable B hi lv).map V.int)):=by
   have e:((nOf B.G:Nat):Int).toNat=nOf B.G:=ybc _
   rw [e] at hDs
   exact hDs
  have ul:=Jpj B hi lv n4
  refine ⟨_,rfl,D,rfl,⟨_,SqL.of hDs⟩,λD2 hD2=>?_⟩
  refine Jkw (K:=K) (xs:=(usable B hi lv).map V.int) (λi σ H'=>(∃o',σ= [o',some (.ref o),some (.int up),some (.int lv)])/\Same H1 H'/\∃rs,H' D2=some (.lst (rs.map λr:Addr×Addr=>V.ref r.1))/\Paired (RowE B up lv H') ((usable B hi lv).take i) rs) ⟨⟨_,rfl⟩,Same.upd hD2,[],Jj9,.nil⟩ (λi σ H' _ ⟨_,sm,_⟩=>SqL.of (sm _ _ hDs)) ?_ ?_
  ·rintro i x σ H' hx ⟨⟨o1,rfl⟩,sm,rs,hDr,pr⟩
   rw [yp] at hx
   obtain ⟨u,hu,rfl⟩:=yag.mp hx
   have hus:=Jsq (yae hu)
   refine Jkf ⟨_,rfl,_,rfl,_,rfl,_,rfl,_,rfl,o,B,up,lv,u,rfl,(bx.same s1).same sm,bg,hup,hlv,hus,λl H2 s2 hl=>?_⟩
   refine ⟨(show 2<=sizeLine by decide),λT1 hT=>?_⟩
   have sT:=Same.upd (o:=.tup [.int u,.ref l]) hT
   have hDr2:=sT _ _ (s2 _ _ hDr)
   have hlr:rs.length=i:=by
    have e1:=Paired.length pr
    rw [yaf] at e1
    have:=(yv.mp hu).1
    omega
   have hil:i < (usable B hi lv).length:=(yv.mp hu).1
   refine ⟨_,hDr2,?_,⟨_,rfl⟩,?_,rs++ [(T1,l)],?_,?_⟩
   ·rw [yf]
    exact Jjx (by omega)
   ·intro c o' z
    rw [Jjg (Jjh z hD2)]
    exact sT _ _ (s2 _ _ (sm _ _ z))
   ·rw [Jj9,yab]
    rfl
   ·rw [yan,hu]
    refine Paired.snoc (Paired.mapP pr λs r q=>((q.same s2).same sT).put hup.1 bg.rn.1 hDr2) (RowE.put (r:=(T1,l)) hup.1 bg.rn.1 hDr2 ⟨Jj9,sT _ _ hl⟩)
  rintro σ2 H2 ⟨_,s2,rs,hDr,pr⟩
  rw [yam (by rw [yf];exact yg _)] at pr
  have el:=Paired.length pr
  refine ⟨D2,_,Jng (usable B hi lv) rs,rfl,hDr,Jsf pr,?_,?_,λp o' hp=>?_⟩
  ·unfold Jng
   rw [yf,List.length_zip]
   omega
  ·rw [Jvz el]
   exact yby.map _ (λx y h z=>h (yx.inj z)) (Jvh B hi lv)
  ·exact k p _ ((s1.trans s2).trans (Same.upd hp)) ⟨o',rs,Jj9,Paired.mapP pr λs r q=>q.same (Same.upd hp)⟩
def Jm4 (B:BTd) (up lv:Int) (lost:List (Option Int)) (s:Int):Bool:=Jwf (Jly B up lv s) lost
theorem Jyh {B:BTd} {up lv s:Int} {i:Int} (bg:BGd B) (h:some i∈Jly B up lv s):0<=i/\i < ((B.hi+1 - B.lo).toNat:Int):=by
 unfold Jly at h
 obtain ⟨c,_,e⟩:=ybd.mp h
 unfold Jpo at e
 have b1:=bg.lo
 split at e
 ·rename_i q
  have e':=yy.inj e
  omega
 ·cases e
theorem Jvu {B:BTd} {up lv s:Int} (bg:BGd B) (hup:0<=up/\up<=12):(Jly B up lv s).length<=100:=by
 unfold Jly
 rw [yf,ybf]
 have:=bg.rn
 omega
theorem Jus:∀{us:List Int} {rs:List (Addr×Addr)} {F:Int->Addr×Addr->Prop} {i:Nat} {k:Key} {x:V},Paired F us rs->(Jng us rs)[i]?=some (k,x)->∃u r,us[i]?=some u/\k= .inl u/\x= .ref r.2/\F u r
 |_,_,_,_,_,_,.nil,h=>by simp [Jng] at h
 |_,_,_,0,k,x,.cons (a:=u) (b:=r) h t,e=>by
  have e':(yx u,V.ref r.2)=(k,x):=by simpa [Jng] using e
  cases e'
  exact ⟨u,r,rfl,rfl,rfl,h⟩
 |_,_,_,i+1,k,x,.cons h t,e=>by
  obtain ⟨u,r,e1,e2⟩:=Jus (i:=i) t (by simpa [Jng] using e)
  exact ⟨u,r,by simpa using e1,e2⟩
theorem Jyl {us:List Int} {rs:List (Addr×Addr)} (h:us.length=rs.length):(Jng us rs).length=us.length:=by
 unfold Jng
 rw [yf,List.length_zip]
 omega
def Yd3 (a:Ad):Sp:=λvs H Q _=>∃(p M:Addr) (B:BTd) (up hi lv s:Int) (lost:List (Option Int)),vs= [.ref p,.ref M]/\WayAt B up hi lv H p/\H M=some (.lst (lost.map oV))/\lost.length=(B.hi+1 - B.lo).toNat/\BGd B/\(0<=up/\up<=12)/\
 ((usable B hi lv).filter (Jm4 B up lv lost)).head?=some s/\∀H',Same H H'->Q (.int s) H'
theorem Jt8:Jjj ["by_setting","lost"] ["by_setting","lost"] (Jje (top 34)):=⟨rfl,rfl,rfl,by decide +kernel,rfl,by decide +kernel,by decide +kernel⟩
theorem Jt1 (T:Tx K mg a):FnOk P w K mg base CX0 2 a.Jfw a.Jfx ["by_setting","lost"] (Yd3 a):=by
 have G_is_safe:=Js3 (P:=P) (w:=w) (base:=base) T
 refine T.Jf.fn.ok Jt8 (λvs H Q E h=>?_) (λcdv A outer s H vs Q E hr h=>?_)
 ·obtain ⟨p,M,B,up,hi,lv,s,lost,rfl,_⟩:=h
  rfl
 ·obtain ⟨p,M,B,up,hi,lv,s,lost,rfl,⟨ob,rs,hp,pr⟩,hM,hN,bg,hup,hs,k⟩:=h
  have n4:=Jpj B hi lv (Jxg bg.G)
  refine ⟨?t,?B,?C⟩
  case B=>
   refine' Jjc ?s1
   case s1=>
    exact (Jjk (Jjs Jjz (Jk3 (N:=(["setting","ends","lost"]:List Str)) (ini:=[none,none,some 1]) rfl (Yas (pv 0)) (λ_ _ _ _ _=>(Jmn (K:=K) (n:=2) rfl rfl (Jka (Jjl (i:=0) (by decide +kernel:(["setting","ends","lost"]:List Str).Nodup) rfl (ye rfl)) (Jka (Jjl (i:=1) (by decide +kernel:(["setting","ends","lost"]:List Str).Nodup) rfl (ye rfl)) Jm5)))) (λ_ _ _ _ _=>(Jnd (Jjw (Jjf T.J7 G_is_safe hr (by decide) (Jj8 (pv 1) (Jj8 (pv 2) Jja)))))) (λ_ _ _ _ _=>(pv 0))) Jjb (λ_ _=>rfl)))
  refine ⟨_,rfl,p,ob,_,rfl,hp,λD hD=>?_⟩
  refine Jx2 (λi σ H'=>(∃o1 o2,σ= [o1,o2,some (.ref M)])/\Same H H'/\H' D=some (.lst ((((usable B hi lv).take i).filter (Jm4 B up lv lost)).map V.int))) ⟨⟨_,_,rfl⟩,Same.upd hD,Jj9⟩ (λi σ H' _ ⟨_,sm,_⟩=>sm _ _ hp) ?_ ?_
  ·rintro i kk x σ H' T1 hx ⟨⟨o1,o2,rfl⟩,sm,hDs⟩ hT
   obtain ⟨u,r,hu,rfl,rfl,row⟩:=Jus pr hx
   have sT:=Same.upd (o:=.tup [kV (.inl u),V.ref r.2]) hT
   refine ⟨T1,_,rfl,SqT.of Jj9,rfl,_,_,rfl,_,_,rfl,rfl,?_⟩
   refine ⟨_,rfl,_,rfl,r.2,M,Jly B up lv u,lost,rfl,sT _ _ (sm _ _ row.2),sT _ _ (sm _ _ hM),λj hj=>?_,Jvu bg hup,λH2 s2=>?_⟩
   ·have:=Jyh bg hj
    rw [hN]
    exact this
   have ef:(((usable B hi lv).take (i+1)).filter (Jm4 B up lv lost))=((usable B hi lv).take i).filter (Jm4 B up lv lost)++(if Jm4 B up lv lost u=true then [u] else []):=by
    rw [yan,hu,yco]
    congr 1
    by_cases c:Jm4 B up lv lost u=true <;> simp [c]
   have hDs2:=s2 _ _ (sT _ _ hDs)
   have lt:i < (usable B hi lv).length:=(yv.mp hu).1
   refine ⟨_,rfl,?_⟩
   show if Jm4 B up lv lost u=true then _ else _
   refine Jog (λc=>?_) (λc=>?_)
   ·refine ⟨_,rfl,_,hDs2,?_,⟨_,_,rfl⟩,?_,?_⟩
    ·rw [yf]
     refine Jjx (yz (ycb _ _) ?_)
     rw [yaf]
     omega
    ·intro c2 o' z
     rw [Jjg (Jjh z hD)]
     exact s2 _ _ (sT _ _ (sm _ _ z))
    ·rw [Jj9,ef,if_pos c,yab]
     rfl
   ·refine ⟨⟨_,_,rfl⟩,(sm.trans sT).trans s2,?_⟩
    rw [ef,if_neg c,yax]
    exact hDs2
  ·rintro σ H' ⟨_,sm,hDs⟩
   rw [Jyl (Paired.length pr),List.take_length] at hDs
   refine ⟨D,_,0,_,rfl,rfl,SqL.of hDs,Jl6 (j:=0) ?_,k _ sm⟩
   rw [yp,<-List.head?_eq_getElem?,hs]
   rfl
abbrev lb_lost_alone:Array (Nat×Nat×Str):=#[((Jpy (nst (top 32) 0)).line,(Jpy (nst (top 32) 0)).col,"lost_alone.<locals>.comes")]
def WaysAt (B:BTd) (up hi:Int) (H:Hp) (W:Addr):Prop:=∃ps:List Addr,H W=some (.lst (ps.map V.ref))/\Paired (λlv p=>WayAt B up hi lv H p) (Jrv B) ps
theorem WaysAt.same {B:BTd} {up hi:Int} {H H':Hp} {W:Addr} (sm:Same H H') (h:WaysAt B up hi H W):WaysAt B up hi H' W:=by
 obtain ⟨ps,h1,h2⟩:=h
 exact ⟨ps,sm _ _ h1,Paired.mapP h2 λs r q=>q.same sm⟩
def nLv (B:BTd):Nat:=(B.hi+1 - B.lo).toNat
def Jqc (B:BTd) (up hi:Int) (lost:List (Option Int)) (n:Nat):Bool:=!((usable B hi (B.lo+n)).any (Jm4 B up (B.lo+n) lost))
def CmAt (H:Hp) (f W:Addr):Prop:=CloAt H f "comes" "lost_alone.<locals>.comes" (nst (top 32) 0) [("ways",.ref W)]
def Yd2:List V->Sp:=λcs vs H Q _=>∃(W M:Addr) (B:BTd) (up hi:Int) (n:Nat) (lost:List (Option Int)),cs= [.ref W]/\vs= [.int n,.ref M]/\WaysAt B up hi H W/\H M=some (.lst (lost.map oV))/\lost.length=nLv B/\BGd B/\(0<=up/\up<=12)/\n < nLv B/\
 ∀H',Same H H'->Q (.bl (Jqc B up hi lost n)) H'
theorem Jkt {α β:Type} {F:α->β->Prop} {l₁:List α} {l₂:List β} (r:Paired F l₁ l₂):∀{i:Nat} {x:α},l₁[i]?=some x->∃y,l₂[i]?=some y/\F x y:=by
 induction r with
 |nil=>intro i y h;simp at h
 |cons h t ih=>
  intro i y e
  cases i with
  |zero=>simp at e;subst e;exact ⟨_,rfl,h⟩
  |succ j=>exact ih (by simpa using e)
theorem Jok:Jnl ["number","found","ways"] ["number","found"] ["ways"] (Jje (nst (top 32) 0)):=⟨rfl,rfl,rfl,by decide +kernel,rfl,by decide +kernel,by decide +kernel,by decide +kernel⟩
theorem Yag (T:Tx K mg a) (f:Addr):CloOk P w K mg base CX0 2 f (Jwp "comes" "lost_alone.<locals>.comes" (nst (top 32) 0) ["ways"] Yd2 f):=by
 have G_is_safe:=Js3 (P:=P) (w:=w) (base:=base) T
 refine Yc8 Jok (λ_ _ _ _ _ us hl=>match us,hl with| [_,_],_=>rfl) (λcs vs H Q E h=>?_) (λf c clos A outer s H vs cs Q E hr h=>?_) f
 ·obtain ⟨W,M,B,up,hi,n,lost,rfl,rfl,_⟩:=h
  exact ⟨rfl,rfl⟩
 ·obtain ⟨W,M,B,up,hi,n,lost,rfl,rfl,wa,hM,hN,bg,hup,hn,k⟩:=h
  obtain ⟨ps,hW,pp⟩:=wa
  obtain ⟨p,hp,ob,rs,hd,pr⟩:=Jkt pp (i:=n) (x:=B.lo+n) (by unfold Jrv;simp [show n < (B.hi+1 - B.lo).toNat from hn])
  refine ⟨?t,?B,?C⟩
  case B=>
   refine' Jjc ?s1
   case s1=>
    exact (Jjk (pe_not (Jji (Yq rfl rfl) (by rfl) T.Jam bt_any (Jj8 (Jk3 (N:=(["ends","found"]:List Str)) (ini:=[none,some 1]) rfl (Ycs (Jjs Jjz (pv 2) (pv 0) (λ_ _=>rfl))) (λ_ _ _ _ _=>(Jjl (i:=0) (by decide +kernel:(["ends","found"]:List Str).Nodup) rfl (ye rfl))) (λ_ _ _ _ _=>Jk0) (λ_ _ _ _ _=>(Jjf T.J7 G_is_safe hr (by decide) (Jj8 (pv 0) (Jj8 (pv 1) Jja))))) Jja))))
  have n4:=Jpj B hi (B.lo+n) (Jxg bg.G)
  refine ⟨_,rfl,_,rfl,W,_,(n:Int),_,rfl,rfl,SqL.of hW,Jl6 (j:=n) (by rw [yp,hp];rfl),p,ob,_,rfl,hd,λD hD=>?_⟩
  refine Jzb (λi σ H'=>(∃o1,σ= [o1,some (.ref M)])/\Same H H'/\H' D=some (.lst ((((usable B hi (B.lo+n)).take i).map (Jm4 B up (B.lo+n) lost)).map V.bl))) ⟨⟨_,rfl⟩,Same.upd hD,Jj9⟩ (λi σ H' _ ⟨_,sm,_⟩=>sm _ _ hd) ?_ ?_
  ·rintro i kk x σ H' hx ⟨⟨o1,rfl⟩,sm,hDs⟩
   obtain ⟨u,r,hu,rfl,rfl,row⟩:=Jus pr hx
   have lt:i < (usable B hi (B.lo+n)).length:=(yv.mp hu).1
   refine Jkf ⟨_,rfl,_,rfl,r.2,M,Jly B up (B.lo+n) u,lost,rfl,sm _ _ row.2,sm _ _ hM,λj hj=>?_,Jvu bg hup,λH2 s2=>⟨_,s2 _ _ hDs,?_,⟨_,rfl⟩,?_,?_⟩⟩
   ·have:=Jyh bg hj
    rw [hN]
    exact this
   ·rw [yf,yf,yaf]
    exact Jjx (by omega)
   ·intro c2 o' z
    rw [Jjg (Jjh z hD)]
    exact s2 _ _ (sm _ _ z)
   ·rw [Jj9,yan,hu,yab,yab]
    rfl
  ·rintro σ H' ⟨_,sm,hDs⟩
   rw [Jyl (Paired.length pr),List.take_length] at hDs
   refine ⟨D,_,rfl,SqL.of hDs,_,rfl,?_⟩
   have e:((usable B hi (B.lo+n)).map (Jm4 B up (B.lo+n) lost)).any id=(usable B hi (B.lo+n)).any (Jm4 B up (B.lo+n) lost):=by
    rw [List.any_map]
    rfl
   rw [e]
   exact k _ sm
def Jk6 (B:BTd) (up hi:Int) (lost:List (Option Int)):List Nat:=(yu (nLv B)).filter λn=>(lost.getD n none).isNone&&Jqc B up hi lost n
def Jpb (lost:List (Option Int)) (ns:List Nat) (r:Int):List (Option Int):=ns.foldl (λl n=>l.set n (some r)) lost
def Jpp (B:BTd) (up hi:Int):Nat->List (Option Int)->Int->List (Option Int)
 |0,l,_=>l
 |k+1,l,r=>if Jk6 B up hi l= [] then l else Jpp B up hi k (Jpb l (Jk6 B up hi l) (r+1)) (r+1)
def Jn1 (B:BTd) (up hi:Int):List (Option Int):=Jpp B up hi (nLv B+1) (yat (nLv B) none) 0
def Jlc (l:List (Option Int)):Nat:=l.countP λo=>o.isNone
theorem Jpz (ns:List Nat) (r:Int):∀l:List (Option Int),(Jpb l ns r).length=l.length:=by
 induction ns with
 |nil=>intro l;rfl
 |cons n ns ih=>
  intro l
  show (Jpb (l.set n (some r)) ns r).length=_
  rw [ih]
  simp
theorem Jzx (l:List (Option Int)) (ns:List Nat) (n:Nat) (r:Int):Jpb l (ns++ [n]) r=(Jpb l ns r).set n (some r):=by
 unfold Jpb
 rw [List.foldl_append]
 rfl
theorem Jux (l:List (Option Int)) (n:Nat) (r:Int):Jlc (l.set n (some r))<=Jlc l:=by
 induction l generalizing n with
 |nil=>simp [Jlc]
 |cons x l ih=>
  cases n with
  |zero=>unfold Jlc;rw [List.set_cons_zero,ybt,ybt];simp
  |succ n=>
   have:=ih n
   unfold Jlc at this⊢
   rw [List.set_cons_succ,ybt,ybt]
   omega
theorem Juw (ns:List Nat) (r:Int):∀l:List (Option Int),Jlc (Jpb l ns r)<=Jlc l:=by
 induction ns with
 |nil=>intro l;exact yg _
 |cons n ns ih=>intro l;exact yz (ih (l.set n (some r))) (Jux l n r)
theorem Juy {l:List (Option Int)} {n:Nat} {r:Int} (h:l[n]?=some none):Jlc (l.set n (some r)) < Jlc l:=by
 induction l generalizing n with
 |nil=>simp at h
 |cons x l ih=>
  cases n with
  |zero=>
   obtain rfl:x=none:=by simpa using h
   unfold Jlc
   rw [List.set_cons_zero,ybt,ybt]
   simp
  |succ n=>
   have:=ih (n:=n) (by simpa using h)
   unfold Jlc at this⊢
   rw [List.set_cons_succ,ybt,ybt]
   omega
theorem Jtl {B:BTd} {up hi:Int} {l:List (Option Int)} {n:Nat} (hl:l.length=nLv B) (h:n∈Jk6 B up hi l):n < nLv B/\l[n]?=some none:=by
 unfold Jk6 at h
 obtain ⟨h1,h2⟩:=ybl.mp h
 have lt:=yaj.mp h1
 rw [yac] at h2
 have hn:n < l.length:=by omega
 refine ⟨lt,?_⟩
 have:=h2.1
 rw [yao,yn hn] at this
 rw [yn hn]
 simpa using this
theorem Jnr {B:BTd} {up hi r:Int} {l:List (Option Int)} (hl:l.length=nLv B) (h:Jk6 B up hi l≠ []):Jlc (Jpb l (Jk6 B up hi l) r) < Jlc l:=by
 cases hc:Jk6 B up hi l with
 |nil=>exact absurd hc h
 |cons n ns=>
  have q:=(Jtl hl (n:=n) (by rw [hc];exact yaq ..)).2
  exact ycf (Juw ns r (l.set n (some r))) (Juy q)
theorem Jrt {B:BTd} {up hi:Int}:∀(k m:Nat) (l:List (Option Int)) (r:Int),l.length=nLv B->Jlc l < k->Jlc l < m->Jpp B up hi k l r=Jpp B up hi m l r:=by
 intro k
 induction k with
 |zero=>intro m l r _ h;omega
 |succ k ih=>
  intro m l r hl h1 h2
  cases m with
  |zero=>omega
  |succ m=>
   show (if Jk6 B up hi l= [] then l else _)=(if Jk6 B up hi l= [] then l else _)
   split
   ·rfl
   ·rename_i hf
    have:=Jnr (r:=r+1) hl hf
    exact ih m _ _ (by rw [Jpz];exact hl) (by omega) (by omega)
def nsV (ns:List Nat):List V:=ns.map λn:Nat=>V.int n
def Ybe:Sp:=λvs H Q _=>∃(c W:Addr) (B:BTd) (up hi:Int),vs= [.int (nLv B:Nat),.ref c]/\CmAt H c W/\WaysAt B up hi H W/\BGd B/\(0<=up/\up<=12)/\∀M H',Same H H'->H M=none->H' M=some (.lst ((Jn1 B up hi).map oV))->Q (.ref M) H'
def RndI (B:BTd) (up hi:Int) (H:Hp) (c M:Addr):Nat->L2.St->Hp->Prop:=λm σ H'=>∃(l:List (Option Int)) (r:Int) (F:Addr) (o5:Option V),σ= [some (.int (nLv B:Nat)),some (.ref c),some (.ref M),some (.int r),some (.ref F),o5]/\m=Jlc l/\l.length=nLv B/\Same H H'/\H' M=some (.lst (l.map oV))/\H' F=some (.lst (nsV (Jk6 B up hi l)))/\F≠M/\Jpp B up hi (Jlc l+1) l r=Jn1 B up hi
theorem Yaf {B:BTd} (bg:BGd B):nLv B<=13:=by
 unfold nLv
 have:=bg.lo
 have:=bg.hi
 omega
theorem sc_found_by_rounds:Jjj ["many","comes","found","rounds","fresh","number"] ["many","comes"] (Jje (top 23)):=⟨rfl,rfl,rfl,by decide +kernel,rfl,by decide +kernel,by decide +kernel⟩
theorem Jp5 (T:Tx K mg a):FnOk P w K mg base CX0 3 a.Jfe a.Jff ["many","comes"] Ybe:=by
 have G_comes:=Yag (P:=P) (w:=w) (base:=base) T
 refine T.J6.fn.ok sc_found_by_rounds (λvs H Q E h=>?_) (λcdv A outer s H vs Q E hr h=>?_)
 ·obtain ⟨c,W,B,up,hi,rfl,_⟩:=h
  rfl
 ·obtain ⟨c,W,B,up,hi,rfl,cm,wa,bg,hup,k⟩:=h
  have n13:=Yaf bg
  refine ⟨?t,?B,?C⟩
  case B=>
   refine' Jjd ?s1 ?r1
   case s1=>
    exact (Jju (i:=2) sc_found_by_rounds.nd rfl (yad rfl) (Jk3 (N:=(["number"]:List Str)) (ini:=[none]) rfl (Jl8 (by rfl) T.Jaw (Jj8 (pv 0) Jja)) (λ_ _ _ _ _=>(Jjl (i:=0) (by decide +kernel:(["number"]:List Str).Nodup) rfl (ye rfl))) (λ_ _ _ _ _=>Jk0) (λ_ _ _ _ _=>Jl7)))
   case r1=>
    refine' Jjd ?s3 ?r3
    case s3=>
     exact (Jju (i:=3) sc_found_by_rounds.nd rfl (ye rfl) Jjb)
    case r3=>
     refine' Jjd ?s5 ?r5
     case s5=>
      exact (Jm6 (i:=4) (N:=(["number","comes","found"]:List Str)) (ini:=[none,some 1,some 2]) sc_found_by_rounds.nd rfl (ye rfl) rfl (Jl8 (by rfl) T.Jaw (Jj8 (pv 0) Jja)) (λ_ _ _ _ _=>(Jjl (i:=0) (by decide +kernel:(["number","comes","found"]:List Str).Nodup) rfl (ye rfl))) (λ_ _ _ _ _=>(Jnd (Jjw (Jtz (P:=P) (w:=w) (K:=K) (mg:=mg) (base:=base) rfl rfl rfl rfl rfl G_comes hr (by decide) 1 (Jj8 (pv 0) (Jj8 (pv 2) Jja)))))) (λ_ _ _ _ _=>(pv 0)))
     case r5=>
      refine' Jjd ?s7 ?r7
      case s7=>
       exact (Yav PassesOwn.never (Jk8 Jw9 (Jji Jjq (by rfl) T.Jas Jko (Jj8 (pv 4) Jja)) Jjb (Jk2 _)) (Jjd (ps_aug (i:=3) sc_found_by_rounds.nd rfl (ye rfl) Jjb ip_add) (Jjd (Jpa PassesOwn.never rfl (Jku (pv 4)) (Jjl (i:=5) sc_found_by_rounds.nd rfl (ye rfl)) (Jjc (Jxr (pv 3) (Jxq (pv 2) (pv 5) Jsj)))) (Jjc (Jm6 (i:=4) (N:=(["number","comes","found"]:List Str)) (ini:=[none,some 1,some 2]) sc_found_by_rounds.nd rfl (ye rfl) rfl (Jl8 (by rfl) T.Jaw (Jj8 (pv 0) Jja)) (λ_ _ _ _ _=>(Jjl (i:=0) (by decide +kernel:(["number","comes","found"]:List Str).Nodup) rfl (ye rfl))) (λ_ _ _ _ _=>(Jnd (PW.pt (pw_and (Jk8 Jsa (Jjs (Jlz (K:=K) rfl) (pv 2) (pv 0) (λ_ _=>rfl)) Jl7 (Jk2 _)) (Ycu (Jjw (Jtz (P:=P) (w:=w) (K:=K) (mg:=mg) (base:=base) rfl rfl rfl rfl rfl G_comes hr (by decide) 1 (Jj8 (pv 0) (Jj8 (pv 2) Jja))))))))) (λ_ _ _ _ _=>(pv 0)))))))
      case r7=>
       refine' Jjc ?s9
       case s9=>
        exact (Jjk (pv 2))
  refine ⟨_,rfl,_,rfl,by omega,by omega,λM hM=>?_⟩
  refine Jld (lo:=0) (λi σ H'=>(∃o',σ= [o'])/\H' M=some (.lst ((yat i (none:Option Int)).map oV))/\Same H H') ⟨⟨_,rfl⟩,Jj9,Same.upd hM⟩ ?_ ?_
  ·rintro i σ H' hi' ⟨⟨o1,rfl⟩,hDs,sm⟩
   refine Jkf ⟨_,hDs,?_,⟨_,rfl⟩,?_,?_⟩
   ·rw [yf,ybx]
    exact Jjx (by omega)
   ·rw [Jj9,ycp,yab]
    rfl
   ·intro c2 o' z
    rw [Jjg (Jjh z hM)]
    exact sm _ _ z
  rintro σ1 H1 ⟨_,hMs,s1⟩
  rw [show ((nLv B:Nat):Int).toNat=nLv B from ybc _] at hMs
  refine ⟨_,rfl,_,rfl,by omega,by omega,λF hF=>?_⟩
  have ef:∀(p:Nat->Bool) (i:Nat),(yu (i+1)).filter p=(yu i).filter p++(if p i=true then [i] else []):=by
   intro p i
   rw [yca,yco]
   congr 1
   by_cases c:p i=true <;> simp [c]
  have fl:∀(p:Nat->Bool) (i:Nat),i<=13->(nsV ((yu i).filter p)).length < sizeLine:=by
   intro p i hi'
   unfold nsV
   rw [yf]
   refine Jjx (yz (ycb _ _) ?_)
   rw [ybf]
   omega
  refine Jld (lo:=0) (λi σ H'=>(∃o',σ= [o',some (.ref c),some (.ref M)])/\Same H1 H'/\H' F=some (.lst (nsV ((yu i).filter (Jqc B up hi (yat (nLv B) none)))))) ⟨⟨_,rfl⟩,Same.upd hF,Jj9⟩ ?_ ?_
  ·rintro i σ H' hi' ⟨⟨o1,rfl⟩,sm,hFs⟩
   have hi2:i < nLv B:=by rw [show ((nLv B:Nat):Int).toNat=nLv B from ybc _] at hi';exact hi'
   refine ⟨c,rfl,_,rfl,_,rfl,[.ref W],(cm.same s1).same sm,W,M,B,up,hi,i,_,rfl,by simp,(wa.same s1).same sm,sm _ _ hMs,by simp,bg,hup,hi2,λH2 s2=>⟨_,rfl,?_⟩⟩
   have hF2:=s2 _ _ hFs
   refine Jog (λq=>?_) (λq=>?_)
   ·refine ⟨_,rfl,_,hF2,fl _ i (by omega),⟨_,rfl⟩,?_,?_⟩
    ·intro c2 o' z
     rw [Jjg (Jjh z hF)]
     exact s2 _ _ (sm _ _ z)
    ·rw [Jj9,ef,if_pos q]
     unfold nsV
     rw [yab]
     simp
   ·refine ⟨⟨_,rfl⟩,sm.trans s2,?_⟩
    rw [ef,if_neg q,yax]
    exact hF2
  rintro σ2 H2 ⟨_,s2,hFs⟩
  rw [show ((nLv B:Nat):Int).toNat=nLv B from ybc _] at hFs
  have e0:Jk6 B up hi (yat (nLv B) none)=(yu (nLv B)).filter (Jqc B up hi (yat (nLv B) none)):=by
   unfold Jk6
   refine List.filter_congr λn hn=>?_
   have lt:=yaj.mp hn
   simp [yao,lt]
  have nFM:F≠M:=λz=>by rw [z,hMs] at hF;cases hF
  have sM:∀{H':Hp} {o:HO},Same H H'->Same H (upd H' M o):=λs b u z=>by rw [Jjg (Jjh z hM)];exact s _ _ z
  refine ⟨RndI B up hi H c M,
   ⟨_,yat (nLv B) none,0,F,none,rfl,rfl,by simp,s1.trans s2,s2 _ _ hMs,by rw [e0];exact hFs,nFM,?_⟩,?_⟩
  ·refine Jrt _ _ _ _ (by simp) (ybq _) ?_
   unfold Jlc
   refine Nat.lt_succ_of_le (yz (List.countP_le_length ..) ?_)
   simp
  rintro m σ' H' ⟨l,r,F,o5,rfl,rfl,hl,sm,hM',hF',nFM,hL⟩
  refine ⟨_,rfl,F,_,rfl,.inl (SqL.of hF'),_,_,rfl,rfl,_,rfl,Jog (λq=>?_) (λq=>?_)⟩
  ·have ne:Jk6 B up hi l≠ []:=λz=>by
    rw [z] at q
    cases q
   refine ⟨λσ H'=>∃m',m' < Jlc l/\RndI B up hi H c M m' σ H',λ_ _ h=>h,?_⟩
   refine ⟨_,rfl,_,_,rfl,rfl,?_⟩
   refine ⟨_,rfl,F,rfl,⟨_,SqL.of hF'⟩,?_⟩
   refine Jvv (K:=K) (xs:=nsV (Jk6 B up hi l)) (λi σ H2=>(∃o5,σ= [some (.int (nLv B:Nat)),some (.ref c),some (.ref M),some (.int (r+1)),some (.ref F),o5])/\Same H H2/\H2 M=some (.lst ((Jpb l ((Jk6 B up hi l).take i) (r+1)).map oV))/\H2 F=some (.lst (nsV (Jk6 B up hi l)))) ⟨⟨_,rfl⟩,sm,hM',hF'⟩ (λi σ H2 _ h=>SqL.of h.2.2.2) ?_ ?_
   ·rintro i x σ H2 hx ⟨⟨o,rfl⟩,s',hM2,hF2⟩
    unfold nsV at hx
    rw [yp] at hx
    obtain ⟨n,hn,rfl⟩:=yag.mp hx
    have hn2:=Jtl hl (yae hn)
    refine ⟨_,rfl,_,rfl,_,rfl,M,_,(n:Int),n,rfl,rfl,hM2,?_,⟨_,rfl⟩,sM s',?_,?_⟩
    ·unfold ixN
     rw [yf,Jpz,hl,if_pos (by omega),if_pos (by have:=hn2.1;omega)]
     simp
    ·rw [Jj9,yan,hn]
     show _=some (HO.lst ((Jpb l (_++ [n]) (r+1)).map oV))
     rw [Jzx,List.map_set]
     rfl
    ·rw [Jjg nFM]
     exact hF2
   rintro σ3 H3 ⟨⟨o,rfl⟩,s3,hM3,hF3⟩
   have el:(nsV (Jk6 B up hi l)).length=(Jk6 B up hi l).length:=by unfold nsV;rw [yf]
   rw [el,List.take_length] at hM3
   have lt2:=Jnr (r:=r+1) hl ne
   have ln2:(Jpb l (Jk6 B up hi l) (r+1)).length=nLv B:=by rw [Jpz];exact hl
   have hL2:Jpp B up hi (Jlc (Jpb l (Jk6 B up hi l) (r+1))+1) (Jpb l (Jk6 B up hi l) (r+1)) (r+1)=Jn1 B up hi:=by
    rw [<-hL]
    show _=(if Jk6 B up hi l= [] then l else Jpp B up hi (Jlc l) (Jpb l (Jk6 B up hi l) (r+1)) (r+1))
    rw [if_neg ne]
    exact Jrt _ _ _ _ ln2 (ybq _) lt2
   generalize Jpb l (Jk6 B up hi l) (r+1)=l2 at hM3 lt2 ln2 hL2
   refine ⟨_,rfl,_,rfl,by omega,by omega,λF2 hF2=>?_⟩
   have nF2:F2≠M:=λz=>by rw [z,hM3] at hF2;cases hF2
   refine Jld (lo:=0) (λi σ H'=>(∃o',σ= [o',some (.ref c),some (.ref M)])/\Same H3 H'/\H' F2=some (.lst (nsV ((yu i).filter λn=>(l2.getD n none).isNone&&Jqc B up hi l2 n)))) ⟨⟨_,rfl⟩,Same.upd hF2,Jj9⟩ ?_ ?_
   ·rintro i σ H4 hi' ⟨⟨o1,rfl⟩,s4,hFs⟩
    have hi2:i < nLv B:=by rw [show ((nLv B:Nat):Int).toNat=nLv B from ybc _] at hi';exact hi'
    have zi:(0+(i:Int))=i:=by omega
    have hM4:=s4 _ _ hM3
    refine ⟨_,rfl,_,rfl,M,_,_,_,rfl,rfl,SqL.of hM4,oV_at (i:=0+(i:Int)) (by omega),rfl,_,rfl,?_⟩
    rw [Jxi,zi,show ((i:Nat):Int).toNat=i from ybc _]
    refine Jog (λq1=>?_) (λq1=>?_)
    ·refine ⟨c,rfl,_,rfl,_,rfl,[.ref W],(cm.same s3).same s4,W,M,B,up,hi,i,_,rfl,by simp,(wa.same s3).same s4,hM4,ln2,bg,hup,hi2,λH5 s5=>⟨_,rfl,?_⟩⟩
     have hF5:=s5 _ _ hFs
     refine Jog (λq2=>?_) (λq2=>?_)
     ·refine ⟨_,rfl,_,hF5,fl _ i (by omega),⟨_,rfl⟩,?_,?_⟩
      ·intro c2 o' z
       rw [Jjg (Jjh z hF2)]
       exact s5 _ _ (s4 _ _ z)
      ·rw [Jj9,ef,if_pos (by rw [q1,q2];rfl)]
       unfold nsV
       rw [yab]
       simp
     ·refine ⟨⟨_,rfl⟩,s4.trans s5,?_⟩
      rw [ef,if_neg (by rw [q1];simpa using q2),yax]
      exact hF5
    ·refine ⟨⟨_,rfl⟩,s4,?_⟩
     rw [ef,if_neg (by intro z;rw [yac] at z;exact q1 z.1),yax]
     exact hFs
   rintro σ5 H5 ⟨_,s5,hFs⟩
   rw [show ((nLv B:Nat):Int).toNat=nLv B from ybc _] at hFs
   exact ⟨Jlc l2,lt2,l2,r+1,F2,_,rfl,rfl,ln2,s3.trans s5,s5 _ _ hM3,hFs,nF2,hL2⟩
  ·have em:Jk6 B up hi l= []:=by
    cases hc:Jk6 B up hi l with
    |nil=>rfl
    |cons x xs=>
     rw [hc] at q
     exact absurd (by simp [nsV]) q
   have ee:Jn1 B up hi=l:=by
    rw [<-hL]
    show (if Jk6 B up hi l= [] then l else _)=l
    rw [if_pos em]
   exact ⟨_,rfl,k M H' sm hM (by rw [ee];exact hM')⟩
def Ydb (a:Ad):Sp:=λvs H Q _=>∃(W:Addr) (Bd:BTd) (up hi:Int),vs= [.ref W]/\H a.Jj5=some (.tbl lb_lost_alone)/\WaysAt Bd up hi H W/\BGd Bd/\(0<=up/\up<=12)/\∀M H',Same H H'->H' M=some (.lst ((Jn1 Bd up hi).map oV))->Q (.ref M) H'
theorem Jw1 (Bd:BTd):(Jrv Bd).length=nLv Bd:=by
 unfold Jrv nLv
 rw [yf,ybf]
theorem sc_lost_alone:Jjj ["ways","comes"] ["ways"] (Jje (top 32)):=⟨rfl,rfl,rfl,by decide +kernel,rfl,by decide +kernel,by decide +kernel⟩
theorem Jt4 (T:Tx K mg a) (B:Bmn mg base):FnOk P w K mg base CX0 4 a.Jfs a.Jft ["ways"] (Ydb a):=by
 have G_found_by_rounds:=Jp5 (P:=P) (w:=w) (base:=base) T
 refine T.Jd.fn.okN T.Je1 sc_lost_alone (λvs H Q E h=>?_) (λA outer s H vs Q E hr h=>?_)
 ·obtain ⟨W,Bd,up,hi,rfl,_⟩:=h
  rfl
 ·obtain ⟨W,Bd,up,hi,rfl,ht,wa,bg,hup,k⟩:=h
  obtain ⟨ps,hW,pp⟩:=id wa
  have hl:ps.length=nLv Bd:=(Paired.length pp).symm.trans (Jw1 Bd)
  refine ⟨?t,?B,?C⟩
  case B=>
   refine' Jxp (st:=nst (top 32) 0) (name:="comes") (qual:="lost_alone.<locals>.comes") (i:=1) (lb:=lb_lost_alone) (caps:=[("ways",0)]) T.Je1 B rfl rfl rfl rfl rfl (by rfl) Jx8 (λ_=>Jut) sc_lost_alone.nd rfl rfl (by intro y hy;simp only [ym,yr,or_false] at hy;rcases hy with rfl <;> exact ⟨rfl,by decide,rfl,rfl,rfl⟩) (by decide +kernel) ?r1
   case r1=>
    refine' PSs.pb ?s2
    case s2=>
     refine' Jjc ?s3
     case s3=>
      exact (Jjk (Jjf T.J6 G_found_by_rounds hr (by decide) (Jj8 (Jji Jjq (by rfl) T.Jas Jko (Jj8 (pv 0) Jja)) (Jj8 (pv 1) Jja))))
  refine ⟨ht,[.ref W],?_,rfl,λf H' s' hf clo=>?_⟩
  ·intro y hy
   obtain rfl:y=(((("ways" :Str),0):Str×Nat),V.ref W):=ybe.mp hy
   rfl
  ·refine ⟨_,rfl,W,_,rfl,.inl (SqL.of (s' _ _ hW)),_,rfl,f,W,Bd,up,hi,?_,clo,wa.same s',bg,hup,λM H2 s2 _ hM=>k M H2 (s'.trans s2) hM⟩
   rw [yf,hl]
   rfl
theorem Jx9 {B:BTd} {up hi:Int}:∀(k:Nat) (l:List (Option Int)) (r:Int),l.length=nLv B->Jlc l < k->Jk6 B up hi (Jpp B up hi k l r)= []/\(Jpp B up hi k l r).length=nLv B:=by
 intro k
 induction k with
 |zero=>intro l r _ h;omega
 |succ k ih=>
  intro l r hl h
  show Jk6 B up hi (if Jk6 B up hi l= [] then l else _)= []/\(if Jk6 B up hi l= [] then l else _).length=_
  by_cases hf:Jk6 B up hi l= []
  ·rw [if_pos hf]
   exact ⟨hf,hl⟩
  ·rw [if_neg hf]
   have:=Jnr (r:=r+1) hl hf
   exact ih _ _ (by rw [Jpz];exact hl) (by omega)
theorem Jru (B:BTd) (up hi:Int):Jk6 B up hi (Jn1 B up hi)= []/\(Jn1 B up hi).length=nLv B:=by
 refine Jx9 _ _ _ (by simp) ?_
 unfold Jlc
 refine Nat.lt_succ_of_le (yz (List.countP_le_length ..) ?_)
 simp
def Jno (B:BTd) (up hi:Int) (n:Nat):Bool:=((Jn1 B up hi).getD n none).isNone
def Jn0 (B:BTd) (up hi:Int):List Nat:=(yu (nLv B)).filter (Jno B up hi)
def Jl3 (B:BTd) (up hi:Int) (n:Nat):Int:=(((usable B hi (B.lo+n)).filter (Jm4 B up (B.lo+n) (Jn1 B up hi))).head?).getD 0
theorem Jrp {B:BTd} {up hi:Int} {n:Nat} (h:n∈Jn0 B up hi):n < nLv B/\((usable B hi (B.lo+n)).filter (Jm4 B up (B.lo+n) (Jn1 B up hi))).head?=some (Jl3 B up hi n):=by
 unfold Jn0 at h
 obtain ⟨h1,h2⟩:=ybl.mp h
 have lt:=yaj.mp h1
 refine ⟨lt,?_⟩
 have d:=(Jru B up hi).1
 unfold Jk6 at d
 have q:=List.filter_eq_nil_iff.mp d n h1
 unfold Jno at h2
 rw [h2,Bool.true_and] at q
 unfold Jqc at q
 unfold Jl3
 cases hc:(usable B hi (B.lo+n)).filter (Jm4 B up (B.lo+n) (Jn1 B up hi)) with
 |nil=>
  refine absurd ?_ q
  rw [Bool.not_eq_true',List.any_eq_false]
  intro x hx
  exact List.filter_eq_nil_iff.mp hc x hx
 |cons x xs=>rfl
def Jmi (B:BTd) (up hi:Int):List (Key×V):=(Jn0 B up hi).map λn:Nat=>(yx (B.lo+n),V.int (Jl3 B up hi n))
theorem WayAt.put {B:BTd} {up hi lv:Int} {H:Hp} {p D:Addr} {ps:List Addr} {o:HO} (hup:0<=up) (hrn:0<=B.rn) (hD:H D=some (.lst (ps.map V.ref))) (h:WayAt B up hi lv H p):WayAt B up hi lv (upd H D o) p:=by
 obtain ⟨ob,rs,h1,h2⟩:=h
 have n1:p≠D:=λz=>by rw [z,hD] at h1;cases h1
 refine ⟨ob,rs,by rw [Jjg n1];exact h1,Paired.mapP h2 λs r q=>RowE.put (rs:=ps.map λp=>(p,p)) hup hrn ?_ q⟩
 rw [hD,List.map_map]
 rfl
def spSets (a:Ad):Sp:=λvs H Q _=>∃(o:Addr) (Bd:BTd) (up hi:Int),vs= [.ref o,.int up,.int hi]/\H a.Jj5=some (.tbl lb_lost_alone)/\BX a H o Bd/\BGd Bd/\(0<=up/\up<=12)/\
 ∀p ob H',Same H H'->H' p=some (.frz ob (.dK (Jmi Bd up hi)))->Q (.ref p) H'
theorem sc_settings_alone:Jjj ["basin","up","hi","ways","lost","held"] ["basin","up","hi"] (Jje (top 33)):=⟨rfl,rfl,rfl,by decide +kernel,rfl,by decide +kernel,by decide +kernel⟩
theorem Jml (T:Tx K mg a) (Bm:Bmn mg base):FnOk P w K mg base CX0 6 a.Jfu a.Jfv ["basin","up","hi"] (spSets a):=by
 have G_levels_of:=Jv4 (P:=P) (w:=w) (base:=base) T
 have G_ends_by_setting:=Jp4 (P:=P) (w:=w) (base:=base) T
 have G_lost_alone:=Jt4 (P:=P) (w:=w) T Bm
 have G_first_safe:=Jt1 (P:=P) (w:=w) (base:=base) T
 refine T.Je.fn.ok sc_settings_alone (λvs H Q E h=>?_) (λcdv A outer s H vs Q E hr h=>?_)
 ·obtain ⟨o,Bd,up,hi,rfl,_⟩:=h
  rfl
 ·obtain ⟨o,Bd,up,hi,rfl,ht,bx,bg,hup,k⟩:=h
  have n13:=Yaf bg
  refine ⟨?t,?B,?C⟩
  case B=>
   refine' Jjd ?s1 ?r1
   case s1=>
    exact (Jju (i:=3) sc_settings_alone.nd rfl (yad rfl) (Jk3 (N:=(["level","basin","up","hi"]:List Str)) (ini:=[none,some 0,some 1,some 2]) rfl (Jku (Jjf T.Ja G_levels_of hr (by decide) (Jj8 (pv 0) Jja))) (λ_ _ _ _ _=>(Jjl (i:=0) (by decide +kernel:(["level","basin","up","hi"]:List Str).Nodup) rfl (ye rfl))) (λ_ _ _ _ _=>Jk0) (λ_ _ _ _ _=>(Jjf T.Jc G_ends_by_setting hr (by decide) (pa4 (pv 1) (pv 2) (pv 3) (pv 0))))))
   case r1=>
    refine' Jjd ?s3 ?r3
    case s3=>
     exact (Jju (i:=4) sc_settings_alone.nd rfl (yad rfl) (Jjf T.Jd G_lost_alone hr (by decide) (Jj8 (pv 3) Jja)))
    case r3=>
     refine' Jjd ?s5 ?r5
     case s5=>
      exact (Jm6 (i:=5) (N:=(["number","turns"]:List Str)) (ini:=[none,none]) sc_settings_alone.nd rfl (ye rfl) rfl (Jyq (by rfl) T.Jap (Jj8 (pv 4) Jja)) (λ_ _ _ _ _=>(Jmn (K:=K) (n:=2) rfl rfl (Jka (Jjl (i:=0) (by decide +kernel:(["number","turns"]:List Str).Nodup) rfl (ye rfl)) (Jka (Jjl (i:=1) (by decide +kernel:(["number","turns"]:List Str).Nodup) rfl (ye rfl)) Jm5)))) (λ_ _ _ _ _=>(Jnd (Jk8 Jsa (pv 1) Jl7 (Jk2 _)))) (λ_ _ _ _ _=>(pv 0)))
     case r5=>
      refine' Jjc ?s7
      case s7=>
       exact (Jjk (Jk7 (Joz rfl) (by rfl) T.Jao Juh (Jj8 (Jk3 (N:=(["number","lost","basin","ways"]:List Str)) (ini:=[none,some 4,some 0,some 3]) rfl (Jku (pv 5)) (λ_ _ _ _ _=>(Jjl (i:=0) (by decide +kernel:(["number","lost","basin","ways"]:List Str).Nodup) rfl (ye rfl))) (λ_ _ _ _ _=>Jk0) (λ_ _ _ _ _=>(Jk5 (Jj8 (Jjt Jks (Jlb (K:=K) rfl (pv 2) (by rfl)) (pv 0)) (Jj8 (Jjf T.Jf G_first_safe hr (by decide) (Jj8 (Jjs (Jlz (K:=K) rfl) (pv 3) (pv 0) (λ_ _=>rfl)) (Jj8 (pv 1) Jja))) Jja))))) Jja)))
  refine ⟨_,rfl,o,Bd,rfl,bx,bg,λL H1 s1 hL=>⟨L,rfl,⟨_,SqL.of hL⟩,λD hD=>?_⟩⟩
  refine Jkw (K:=K) (xs:=(Jrv Bd).map V.int) (λi σ H'=>(∃o',σ= [o',some (.ref o),some (.int up),some (.int hi)])/\Same H1 H'/\∃ps:List Addr,H' D=some (.lst (ps.map V.ref))/\Paired (λlv p=>WayAt Bd up hi lv H' p) ((Jrv Bd).take i) ps) ⟨⟨_,rfl⟩,Same.upd hD,[],Jj9,.nil⟩ (λi σ H' _ ⟨_,sm,_⟩=>SqL.of (sm _ _ hL)) ?_ ?_
  ·rintro i x σ H' hx ⟨⟨o1,rfl⟩,sm,ps,hDs,pr⟩
   rw [yp] at hx
   obtain ⟨lv,hlv,rfl⟩:=yag.mp hx
   have il:i < (Jrv Bd).length:=(yv.mp hlv).1
   have rg:0<=lv/\lv<=12:=by
    have e:=(yv.mp hlv).2
    unfold Jrv at e il
    simp at e il
    have:=bg.lo
    have:=bg.hi
    omega
   refine Jkf ⟨_,rfl,_,rfl,_,rfl,_,rfl,o,Bd,up,hi,lv,rfl,(bx.same s1).same sm,bg,hup,rg,λp H2 s2 wp=>?_⟩
   have hD2:=s2 _ _ hDs
   have lp:ps.length=i:=by
    have e1:=Paired.length pr
    rw [yaf] at e1
    omega
   rw [Jw1] at il
   refine ⟨_,hD2,?_,⟨_,rfl⟩,?_,ps++ [p],?_,?_⟩
   ·rw [yf]
    exact Jjx (by omega)
   ·intro c2 o' z
    rw [Jjg (Jjh z hD)]
    exact s2 _ _ (sm _ _ z)
   ·rw [Jj9,yab]
    rfl
   ·rw [yan,hlv]
    exact Paired.snoc (Paired.mapP pr λlv' p' q=>(q.same s2).put hup.1 bg.rn.1 hD2) (wp.put hup.1 bg.rn.1 hD2)
  rintro σ2 H2 ⟨_,s2,ps,hW,pr⟩
  rw [yam (by rw [yf];exact yg _)] at pr
  have s02:=s1.trans s2
  refine ⟨_,rfl,D,Bd,up,hi,rfl,s02 _ _ ht,⟨ps,hW,pr⟩,bg,hup,λM H3 s3 hM=>?_⟩
  have ll:=(Jru Bd up hi).2
  have ef:∀(p:Nat->Bool) (i:Nat),(yu (i+1)).filter p=(yu i).filter p++(if p i=true then [i] else []):=by
   intro p i
   rw [yca,yco]
   congr 1
   by_cases c:p i=true <;> simp [c]
  refine ⟨_,rfl,M,rfl,⟨_,SqL.of hM⟩,λD5 hD5=>?_⟩
  refine Yr (K:=K) (a:=M) (xs:=(Jn1 Bd up hi).map oV) (λi σ H'=>(∃o1 o2,σ= [o1,o2])/\Same H3 H'/\H' D5=some (.lst (nsV ((yu i).filter (Jno Bd up hi))))) ⟨⟨_,_,rfl⟩,Same.upd hD5,Jj9⟩ (λi σ H' _ ⟨_,sm,_⟩=>SqL.of (sm _ _ hM)) ?_ ?_
  ·rintro i x σ H' T1 hx ⟨⟨o1,o2,rfl⟩,sm,hDs⟩ hT
   rw [yp] at hx
   obtain ⟨e,he,rfl⟩:=yag.mp hx
   have il:i < nLv Bd:=by have:=(yv.mp he).1;omega
   have eh:Jno Bd up hi i=e.isNone:=by unfold Jno;rw [yao,he];rfl
   have sT:=Same.upd (o:=.tup [.int i,oV e]) hT
   refine ⟨T1,_,rfl,SqT.of Jj9,rfl,_,_,rfl,_,_,rfl,rfl,?_⟩
   refine ⟨_,rfl,rfl,_,rfl,?_⟩
   rw [Jxi,<-eh]
   have hDs2:=sT _ _ hDs
   refine Jog (λq=>?_) (λq=>?_)
   ·refine ⟨_,rfl,_,hDs2,?_,⟨_,_,rfl⟩,?_,?_⟩
    ·unfold nsV
     rw [yf]
     refine Jjx (yz (ycb _ _) ?_)
     rw [ybf]
     omega
    ·intro c2 o' z
     rw [Jjg (Jjh z hD5)]
     exact sT _ _ (sm _ _ z)
    ·rw [Jj9,ef,if_pos q]
     unfold nsV
     rw [yab]
     rfl
   ·refine ⟨⟨_,_,rfl⟩,sm.trans sT,?_⟩
    rw [ef,if_neg q,yax]
    exact hDs2
  rintro σ4 H4 ⟨_,s4,hDs⟩
  rw [yf,ll] at hDs
  have hDs:H4 D5=some (.lst (nsV (Jn0 Bd up hi))):=hDs
  obtain ⟨dx,g,ho,gx⟩:=bx
  have hhl:(Jn0 Bd up hi).length<=13:=by
   unfold Jn0
   refine yz (ycb _ _) ?_
   rw [ybf]
   exact n13
  refine ⟨_,rfl,D5,rfl,⟨_,SqL.of hDs⟩,λD6 hD6=>?_⟩
  refine Jkw (K:=K) (xs:=nsV (Jn0 Bd up hi)) (λi σ H'=>(∃o',σ= [o',some (.ref M),some (.ref o),some (.ref D)])/\Same H4 H'/\∃ts:List Addr,H' D6=some (.lst (ts.map V.ref))/\Paired (λ(n:Nat) t=>H' t=some (.tup [.int (Bd.lo+n),.int (Jl3 Bd up hi n)])) ((Jn0 Bd up hi).take i) ts) ⟨⟨_,rfl⟩,Same.upd hD6,[],Jj9,.nil⟩ (λi σ H' _ ⟨_,sm,_⟩=>SqL.of (sm _ _ hDs)) ?_ ?_
  ·rintro i x σ H' hx ⟨⟨o1,rfl⟩,sm,ts,hD,pt⟩
   unfold nsV at hx
   rw [yp] at hx
   obtain ⟨n,hn,rfl⟩:=yag.mp hx
   have il:i < (Jn0 Bd up hi).length:=(yv.mp hn).1
   obtain ⟨nl,hf⟩:=Jrp (yae hn)
   have s24:=(s3.trans s4).trans sm
   obtain ⟨p,hp,wp⟩:=Jkt pr (i:=n) (x:=Bd.lo+n) (by unfold Jrv;simp [show n < (Bd.hi+1 - Bd.lo).toNat from nl])
   refine Jkf ⟨_,rfl,o,_,dx,_,_,rfl,s24 _ _ (s02 _ _ ho),T.Jd8,T.Jdq,rfl,_,rfl,_,_,rfl,rfl,_,rfl,_,rfl,D,_,(n:Int),_,rfl,rfl,SqL.of (s24 _ _ hW),Jl6 (j:=n) (by rw [yp,hp];rfl),_,rfl,p,M,Bd,up,hi,Bd.lo+n,Jl3 Bd up hi n,Jn1 Bd up hi,rfl,wp.same s24,(s4.trans sm) _ _ hM,ll,bg,hup,hf,λH5 s5=>?_⟩
   refine ⟨(show 2<=sizeLine by decide),λT1 hT=>?_⟩
   have sT:=Same.upd (o:=.tup [.int (Bd.lo+n),.int (Jl3 Bd up hi n)]) hT
   have hD2:=sT _ _ (s5 _ _ hD)
   have lt:ts.length=i:=by
    have e1:=Paired.length pt
    rw [yaf] at e1
    omega
   have nt:∀{t:Addr} {xs:List V},(upd H5 T1 (.tup [.int (Bd.lo+n),.int (Jl3 Bd up hi n)])) t=some (.tup xs)->t≠D6:=λh z=>by rw [z,hD2] at h;cases h
   refine ⟨_,hD2,?_,⟨_,rfl⟩,?_,ts++ [T1],?_,?_⟩
   ·rw [yf]
    exact Jjx (by omega)
   ·intro c2 o' z
    rw [Jjg (Jjh z hD6)]
    exact sT _ _ (s5 _ _ (sm _ _ z))
   ·rw [Jj9,yab]
    rfl
   ·rw [yan,hn]
    refine Paired.snoc (Paired.mapP pt λm t q=>?_) ?_
    ·have q2:=sT _ _ (s5 _ _ q)
     rw [Jjg (nt q2)]
     exact q2
    ·rw [Jjg (nt Jj9)]
     exact Jj9
  rintro σ6 H6 ⟨_,s6,ts,hD,pt⟩
  rw [yam (by unfold nsV;rw [yf];exact yg _)] at pt
  refine ⟨D6,_,Jmi Bd up hi,rfl,hD,?_,?_,?_,λp ob hp=>k p ob _ (((s02.trans s3).trans (s4.trans s6)).trans (Same.upd hp)) Jj9⟩
  ·have go:∀{ns:List Nat} {ts:List Addr},Paired (λ(n:Nat) t=>H6 t=some (.tup [.int (Bd.lo+n),.int (Jl3 Bd up hi n)])) ns ts->Jub H6 (ts.map V.ref) (ns.map λn:Nat=>(yx (Bd.lo+n),V.int (Jl3 Bd up hi n))):=by
    intro ns ts h
    induction h with
    |nil=>exact .nil
    |cons h t ih=>exact .cons ⟨_,rfl,h⟩ ih
   exact go pt
  ·unfold Jmi
   rw [yf]
   omega
  ·unfold Jmi
   rw [List.map_map]
   refine yby.map _ (λx y h z=>h ?_) (yby.filter _ List.nodup_range)
   have:=yx.inj z
   omega
theorem Jt7:Jjj ["names"] ["names"] (Jje (top 67)):=⟨rfl,rfl,rfl,by decide +kernel,rfl,by decide +kernel,by decide +kernel⟩
theorem Jot (T:Tx K mg a):FnOk P w K mg base CX0 1 a.Jha a.Jhb ["names"] (Ybk K):=by
 refine T.Jt.fn.ok Jt7 (λvs H Q E h=>?_) (λcdv A outer s H vs Q E hr h=>?_)
 ·obtain ⟨l,zs,rfl,_⟩:=h
  rfl
 ·obtain ⟨l,zs,rfl,hq,hz,k⟩:=h
  refine ⟨_,(Jjc (Jjk (Jl1 Jmh (Jji Jrj (by rfl) T.Jas Jko (Jj8 (Jk7 (Jrk rfl) (by rfl) T.Jax Yn (Jj8 (pv 0) Jja)) Jja)) (Jji Jjq (by rfl) T.Jas Jko (Jj8 (pv 0) Jja)) (Jk2 _)))),?_⟩
  refine ⟨_,rfl,l,zs,rfl,hq,hz,λt ht=>⟨t,zs,rfl,Jj9,?_⟩⟩
  have s1:=Same.upd (o:=TxS P w t zs) ht
  refine ⟨_,rfl,l,_,rfl,.inl (s1.seq hq),rfl,?_⟩
  have e:decide (V.int ((uq zs).length:Nat)=V.int ((zs.map V.str).length:Nat))=decide ((uq zs).length=zs.length):=by
   rw [yf]
   by_cases h:(uq zs).length=zs.length
   ·rw [decide_eq_true h,decide_eq_true (by rw [h])]
   ·rw [decide_eq_false h,decide_eq_false (λq=>h (by have:=V.int.inj q;omega))]
  rw [e]
  exact k _ s1
theorem Jt6:Jjj ["thing"] ["thing"] (Jje (top 68)):=⟨rfl,rfl,rfl,by decide +kernel,rfl,by decide +kernel,by decide +kernel⟩
theorem Jsz (T:Tx K mg a):FnOk P w K mg base CX0 2 a.Jhc a.Jhd ["thing"] (Yb7 K a):=by
 have G_are_unlike:=Jot (P:=P) (w:=w) (base:=base) T
 refine T.Ju.fn.ok Jt6 (λvs H Q E h=>?_) (λcdv A outer s H vs Q E hr h=>?_)
 ·obtain ⟨l,os,Bs,rfl,_⟩:=h
  rfl
 ·obtain ⟨l,os,Bs,rfl,hl,bl,hn,nd,k⟩:=h
  have len:=bl.len
  refine ⟨?t,?B,?C⟩
  case B=>
   refine' Jjd ?s1 ?r1
   case s1=>
    refine' Jk1 ?c2 ?a2 ?b2
    case c2=>
     exact (PW.pt (Jov (Jjy (Jjw (Jji Jnm (by rfl) T.Jar Jjp (Jj8 (pv 0) (Jj8 (Jk5 (Jj8 (Jl0 (v:=.ty "list") (by rfl) T.Jat Jn5 rfl) (Jj8 (Jl0 (v:=.ty "tuple") (by rfl) T.Jb0 Jky rfl) Jja))) Jja))))) (Jmv (Jjy (Jse Jny Jny Jjb (Jji Jjq (by rfl) T.Jas Jko (Jj8 (pv 0) Jja)) (Jkk (by rfl) T.Jaj (v:=.int 16) ⟨_,rfl⟩))))))
    case a2=>
     refine' Jjc ?s3
     case s3=>
      exact (Jjk Jkn)
    case b2=>
     exact Jjn
   case r1=>
    refine' Jjd ?s7 ?r7
    case s7=>
     refine' Jk1 ?c8 ?a8 ?b8
     case c8=>
      exact (Jjy (Jjw (Jji (Jlk rfl) (by rfl) T.Jal Jn4 (Jj8 (Jk3 (N:=(["basin"]:List Str)) (ini:=[none]) rfl (Jku (pv 0)) (λ_ _ _ _ _=>(Jjl (i:=0) (by decide +kernel:(["basin"]:List Str).Nodup) rfl (ye rfl))) (λ_ _ _ _ _=>Jk0) (λ_ _ _ _ _=>(Jji (Jth (K:=K) rfl) (by rfl) T.Jar Jjp (Jj8 (pv 0) (Jj8 (Jkk (by rfl) T.Jbf (v:=.ref _) rfl) Jja))))) Jja))))
     case a8=>
      refine' Jjc ?s9
      case s9=>
       exact (Jjk Jkn)
     case b8=>
      exact Jjn
    case r7=>
     refine' Jjc ?s13
     case s13=>
      exact (Jjk (Jjf T.Jt G_are_unlike hr (by decide) (Jj8 (Jk3 (N:=(["basin"]:List Str)) (ini:=[none]) rfl (Jku (pv 0)) (λ_ _ _ _ _=>(Jjl (i:=0) (by decide +kernel:(["basin"]:List Str).Nodup) rfl (ye rfl))) (λ_ _ _ _ _=>Jk0) (λ_ _ _ _ _=>(Jlb (K:=K) rfl (pv 0) (by rfl)))) Jja)))
  refine ⟨_,rfl,(show 2<=sizeLine by decide),λp hp=>⟨_,p,_,_,.type "list",true,rfl,Jj9,rfl,.of (.lst (Same.upd hp _ _ hl)),rfl,_,rfl,Jkp ?_⟩⟩
  have s1:=Same.upd (o:=.tup [.ty "list",.ty "tuple"]) hp
  refine ⟨_,rfl,l,_,rfl,.inl (SqL.of (s1 _ _ hl)),_,_,rfl,rfl,_,rfl,ifT (by rw [yf];simp;omega) ⟨_,_,rfl,rfl,_,rfl,ifF (by rw [yf];simp;omega) ?_⟩⟩
  refine ⟨_,rfl,l,rfl,⟨_,SqL.of (s1 _ _ hl)⟩,λD hD=>?_⟩
  refine Jkw (K:=K) (a:=l) (xs:=os.map V.ref) (D:=D) (λi σ H'=>∃o,σ= [o]/\H' D=some (.lst ((yat i true).map V.bl))/\Same (upd H p (.tup [.ty "list",.ty "tuple"])) H') ⟨_,rfl,Jj9,Same.upd hD⟩ (λi σ H' _ ⟨o,_,_,sm⟩=>SqL.of (sm _ _ (s1 _ _ hl))) ?_ ?_
  ·rintro i v σ H' hv ⟨o,rfl,hDs,sm⟩
   obtain ⟨ob,B,rfl,hB,dx,hb,gs⟩:=(bl.same (s1.trans sm)).get hv
   have hi:i < os.length:=by have:=(yv.mp hv).1;rwa [yf] at this
   refine Jkf ⟨_,rfl,_,_,_,_,true,rfl,rfl,.of (T.Jd9.ty T.Jd8 hb),T.Je8,_,hDs,?_,_,rfl,?_,λc o z=>?_⟩
   ·rw [yf,ybx]
    exact Jjx (by omega)
   ·rw [Jj9,ycp,yab]
    rfl
   ·rw [Jjg (Jjh z hD)]
    exact sm _ _ z
  rintro σ H1 ⟨o,rfl,hDs,sm⟩
  refine ⟨D,_,rfl,SqL.of hDs,_,rfl,ifF (by simp) ?_⟩
  have s2:=s1.trans sm
  refine ⟨_,rfl,l,rfl,⟨_,SqL.of (s2 _ _ hl)⟩,λD2 hD2=>?_⟩
  refine Jkw (K:=K) (a:=l) (xs:=os.map V.ref) (D:=D2) (λi σ H'=>∃o,σ= [o]/\H' D2=some (.lst (((Bs.take i).map (·.z)).map V.str))/\Same H1 H') ⟨_,rfl,Jj9,Same.upd hD2⟩ (λi σ H' _ ⟨o,_,_,sm⟩=>SqL.of (sm _ _ (s2 _ _ hl))) ?_ ?_
  ·rintro i v σ H' hv ⟨o,rfl,hDs,sm3⟩
   obtain ⟨ob,B,rfl,hB,dx,hb,gs⟩:=(bl.same (s2.trans sm3)).get hv
   refine Jkf ⟨_,rfl,ob,_,dx,_,_,rfl,hb,T.Jd8,T.Jdp,rfl,_,hDs,?_,_,rfl,?_,λc o z=>?_⟩
   ·rw [yf,yf,yaf]
    exact Jjx (by omega)
   ·rw [Jj9,yan,hB]
    simp
   ·rw [Jjg (Jjh z hD2)]
    exact sm3 _ _ z
  rintro σ H2 ⟨o,rfl,hDs,sm3⟩
  rw [yf,yam (by omega)] at hDs
  refine ⟨D2,Bs.map (·.z),rfl,SqL.of hDs,by rw [yf];omega,λH3 s3=>?_⟩
  rw [Jwu nd,decide_eq_true rfl]
  exact k _ ((s2.trans sm3).trans s3)
theorem sc_are_towns:Jjj ["thing","basins","names"] ["thing","basins"] (Jje (top 69)):=⟨rfl,rfl,rfl,by decide +kernel,rfl,by decide +kernel,by decide +kernel⟩
theorem Jv1 (T:Tx K mg a):FnOk P w K mg base CX0 2 a.Jhe a.Jhf ["thing","basins"] (Ydf K a):=by
 have G_are_unlike:=Jot (P:=P) (w:=w) (base:=base) T
 refine T.Jv.fn.ok sc_are_towns (λvs H Q E h=>?_) (λcdv A outer s H vs Q E hr h=>?_)
 ·obtain ⟨l,m,os,ts,Bs,Ts,rfl,_⟩:=h
  rfl
 ·obtain ⟨l,m,os,ts,Bs,Ts,rfl,hl,bl,hn,hm,tl,tn,nd,inn,k⟩:=h
  have len:=bl.len
  have tlen:=tl.len
  refine ⟨?t,?B,?C⟩
  case B=>
   refine' Jjd ?s1 ?r1
   case s1=>
    refine' Jk1 ?c2 ?a2 ?b2
    case c2=>
     exact (PW.pt (Jov (Jjy (Jjw (Jji Jnm (by rfl) T.Jar Jjp (Jj8 (pv 0) (Jj8 (Jk5 (Jj8 (Jl0 (v:=.ty "list") (by rfl) T.Jat Jn5 rfl) (Jj8 (Jl0 (v:=.ty "tuple") (by rfl) T.Jb0 Jky rfl) Jja))) Jja))))) (Jmv (Jk8 Jw9 (Jji Jjq (by rfl) T.Jas Jko (Jj8 (pv 0) Jja)) (Jkk (by rfl) T.Jak (v:=.int 3) ⟨_,rfl⟩) (Jk2 _)))))
    case a2=>
     refine' Jjc ?s3
     case s3=>
      exact (Jjk Jkn)
    case b2=>
     exact Jjn
   case r1=>
    refine' Jjd ?s7 ?r7
    case s7=>
     refine' Jk1 ?c8 ?a8 ?b8
     case c8=>
      exact (Jjy (Jjw (Jji (Jlk rfl) (by rfl) T.Jal Jn4 (Jj8 (Jk3 (N:=(["town"]:List Str)) (ini:=[none]) rfl (Jku (pv 0)) (λ_ _ _ _ _=>(Jjl (i:=0) (by decide +kernel:(["town"]:List Str).Nodup) rfl (ye rfl))) (λ_ _ _ _ _=>Jk0) (λ_ _ _ _ _=>(Jji (Jth (K:=K) rfl) (by rfl) T.Jar Jjp (Jj8 (pv 0) (Jj8 (Jkk (by rfl) T.Jbg (v:=.ref _) rfl) Jja))))) Jja))))
     case a8=>
      refine' Jjc ?s9
      case s9=>
       exact (Jjk Jkn)
     case b8=>
      exact Jjn
    case r7=>
     refine' Jjd ?s13 ?r13
     case s13=>
      exact (Jju (i:=2) sc_are_towns.nd rfl (yad rfl) (Jk3 (N:=(["basin"]:List Str)) (ini:=[none]) rfl (Jku (pv 1)) (λ_ _ _ _ _=>(Jjl (i:=0) (by decide +kernel:(["basin"]:List Str).Nodup) rfl (ye rfl))) (λ_ _ _ _ _=>Jk0) (λ_ _ _ _ _=>(Jlb (K:=K) rfl (pv 0) (by rfl)))))
     case r13=>
      refine' Jjc ?s15
      case s15=>
       exact (Jjk (Jp8 (Jjf T.Jt G_are_unlike hr (by decide) (Jj8 (Jk3 (N:=(["town"]:List Str)) (ini:=[none]) rfl (Jku (pv 0)) (λ_ _ _ _ _=>(Jjl (i:=0) (by decide +kernel:(["town"]:List Str).Nodup) rfl (ye rfl))) (λ_ _ _ _ _=>Jk0) (λ_ _ _ _ _=>(Jlb (K:=K) rfl (pv 0) (by rfl)))) Jja)) (Jp9 (Jji (Jlk rfl) (by rfl) T.Jal Jn4 (Jj8 (Jk3 (N:=(["town","names"]:List Str)) (ini:=[none,some 2]) rfl (Jku (pv 0)) (λ_ _ _ _ _=>(Jjl (i:=0) (by decide +kernel:(["town","names"]:List Str).Nodup) rfl (ye rfl))) (λ_ _ _ _ _=>Jk0) (λ_ _ _ _ _=>(Jl1 (Jxo (K:=K) rfl) (Jlb (K:=K) rfl (pv 0) (by rfl)) (pv 1) (by with_unfolding_all rfl)))) Jja)))))
  refine ⟨_,rfl,(show 2<=sizeLine by decide),λp hp=>⟨_,p,_,_,.type "list",true,rfl,Jj9,rfl,.of (.lst (Same.upd hp _ _ hm)),rfl,_,rfl,Jkp ?_⟩⟩
  have s1:=Same.upd (o:=.tup [.ty "list",.ty "tuple"]) hp
  refine ⟨_,rfl,m,_,rfl,.inl (SqL.of (s1 _ _ hm)),_,_,rfl,rfl,_,rfl,ifF (by rw [yf];simp;omega) ?_⟩
  refine ⟨_,rfl,m,rfl,⟨_,SqL.of (s1 _ _ hm)⟩,λD hD=>?_⟩
  refine Jkw (K:=K) (a:=m) (xs:=ts.map V.ref) (D:=D) (λi σ H'=>∃o,σ= [o]/\H' D=some (.lst ((yat i true).map V.bl))/\Same (upd H p (.tup [.ty "list",.ty "tuple"])) H') ⟨_,rfl,Jj9,Same.upd hD⟩ (λi σ H' _ ⟨o,_,_,sm⟩=>SqL.of (sm _ _ (s1 _ _ hm))) ?_ ?_
  ·rintro i v σ H' hv ⟨o,rfl,hDs,sm⟩
   obtain ⟨ob,B,rfl,hB,dx,hb⟩:=(tl.same (s1.trans sm)).get hv
   have hi:i < ts.length:=by have:=(yv.mp hv).1;rwa [yf] at this
   refine Jkf ⟨_,rfl,_,_,_,_,true,rfl,rfl,.of (T.Jdc.ty T.Jdb hb),T.Je9,_,hDs,?_,_,rfl,?_,λc o z=>?_⟩
   ·rw [yf,ybx]
    exact Jjx (by omega)
   ·rw [Jj9,ycp,yab]
    rfl
   ·rw [Jjg (Jjh z hD)]
    exact sm _ _ z
  rintro σ H1 ⟨o,rfl,hDs,sm⟩
  refine ⟨D,_,rfl,SqL.of hDs,_,rfl,ifF (by simp) ?_⟩
  have s2:=s1.trans sm
  refine ⟨_,rfl,l,rfl,⟨_,SqL.of (s2 _ _ hl)⟩,λD2 hD2=>?_⟩
  refine Jkw (K:=K) (a:=l) (xs:=os.map V.ref) (D:=D2) (λi σ H'=>∃o,σ= [o]/\H' D2=some (.lst (((Bs.take i).map (·.z)).map V.str))/\Same H1 H') ⟨_,rfl,Jj9,Same.upd hD2⟩ (λi σ H' _ ⟨o,_,_,sm⟩=>SqL.of (sm _ _ (s2 _ _ hl))) ?_ ?_
  ·rintro i v σ H' hv ⟨o,rfl,hDs,sm3⟩
   obtain ⟨ob,B,rfl,hB,dx,hb,gs⟩:=(bl.same (s2.trans sm3)).get hv
   refine Jkf ⟨_,rfl,ob,_,dx,_,_,rfl,hb,T.Jd8,T.Jdp,rfl,_,hDs,?_,_,rfl,?_,λc o z=>?_⟩
   ·rw [yf,yf,yaf]
    exact Jjx (by omega)
   ·rw [Jj9,yan,hB]
    simp
   ·rw [Jjg (Jjh z hD2)]
    exact sm3 _ _ z
  rintro σ H2 ⟨o,rfl,hD2s,sm3⟩
  rw [yf,yam (by omega)] at hD2s
  have s3:=s2.trans sm3
  refine ⟨_,rfl,m,rfl,⟨_,SqL.of (s3 _ _ hm)⟩,λD3 hD3=>?_⟩
  refine Jkw (K:=K) (a:=m) (xs:=ts.map V.ref) (D:=D3) (λi σ H'=>∃o,σ= [o]/\H' D3=some (.lst (((Ts.take i).map (·.z)).map V.str))/\Same H2 H') ⟨_,rfl,Jj9,Same.upd hD3⟩ (λi σ H' _ ⟨o,_,_,sm⟩=>SqL.of (sm _ _ (s3 _ _ hm))) ?_ ?_
  ·rintro i v σ H' hv ⟨o,rfl,hDs,sm4⟩
   obtain ⟨ob,B,rfl,hB,dx,hb⟩:=(tl.same (s3.trans sm4)).get hv
   refine Jkf ⟨_,rfl,ob,_,dx,_,_,rfl,hb,T.Jdb,T.Jdv,rfl,_,hDs,?_,_,rfl,?_,λc o z=>?_⟩
   ·rw [yf,yf,yaf]
    exact Jjx (by omega)
   ·rw [Jj9,yan,hB]
    simp
   ·rw [Jjg (Jjh z hD3)]
    exact sm4 _ _ z
  rintro σ H3 ⟨o,rfl,hD3s,sm4⟩
  rw [yf,yam (by omega)] at hD3s
  refine ⟨D3,Ts.map (·.z),rfl,SqL.of hD3s,by rw [yf];omega,λH4 s4=>⟨_,rfl,ifT (by rw [Jwu nd,decide_eq_true rfl]) ?_⟩⟩
  have s5:=(s3.trans sm4).trans s4
  have hD24:=s4 _ _ (sm4 _ _ hD2s)
  refine ⟨_,rfl,m,rfl,⟨_,SqL.of (s5 _ _ hm)⟩,λD4 hD4=>?_⟩
  refine Jkw (K:=K) (a:=m) (xs:=ts.map V.ref) (D:=D4) (λi σ H'=>∃o,σ= [o,some (.ref D2)]/\H' D4=some (.lst ((yat i true).map V.bl))/\Same H4 H') ⟨_,rfl,Jj9,Same.upd hD4⟩ (λi σ H' _ ⟨o,_,_,sm⟩=>SqL.of (sm _ _ (s5 _ _ hm))) ?_ ?_
  ·rintro i v σ H' hv ⟨o,rfl,hDs,sm6⟩
   obtain ⟨ob,B,rfl,hB,dx,hb⟩:=(tl.same (s5.trans sm6)).get hv
   have hi:i < ts.length:=by have:=(yv.mp hv).1;rwa [yf] at this
   refine Jkf ⟨_,rfl,ob,_,dx,_,_,rfl,hb,T.Jdb,T.Jdw,rfl,_,rfl,D2,_,rfl,.inl (SqL.of (sm6 _ _ hD24)),rfl,by simp [Jm2],?_⟩
   have e:inV (V.str B.b) ((Bs.map (·.z)).map V.str)=true:=by
    obtain ⟨z,hz,ez⟩:=ybd.mp (inn B (yae hB))
    unfold inV
    refine List.any_eq_true.mpr ⟨V.str z.z,ybd.mpr ⟨z.z,ybd.mpr ⟨z,hz,rfl⟩,rfl⟩,?_⟩
    simp [eqV,ez]
   show ∃ys,_
   rw [if_neg yw,e]
   refine ⟨_,hDs,?_,_,rfl,?_,λc o z=>?_⟩
   ·rw [yf,ybx]
    exact Jjx (by omega)
   ·rw [Jj9,ycp,yab]
    rfl
   ·rw [Jjg (Jjh z hD4)]
    exact sm6 _ _ z
  rintro σ H5 ⟨o,rfl,hD4s,sm6⟩
  refine ⟨D4,_,rfl,SqL.of hD4s,?_⟩
  rw [show (yat (ts.map V.ref).length true).all id=true by simp]
  exact k _ (s5.trans sm6)
theorem Joi:Jjj ["self","thing"] ["self","thing"] (Jje (Jjr (top 7) 0)):=⟨rfl,rfl,rfl,by decide +kernel,rfl,by decide +kernel,by decide +kernel⟩
theorem Jr6 (T:Tx K mg a):FnOk P w K mg base CX0 1 a.Jes a.Jet ["self","thing"] (Jmw K "thing"):=by
 refine T.Jby.fn.ok Joi (λvs H Q E h=>?_) (λcdv A outer s H vs Q E hr h=>?_)
 ·obtain ⟨e,C,W,fI,y,rfl,_⟩:=h
  rfl
 ·obtain ⟨e,C,W,fI,y,rfl,q,c,n,k⟩:=h
  refine ⟨_,(Jjc (Jmo (pv 0) (pv 1) rfl)),?_⟩
  exact ⟨_,rfl,_,rfl,e,C,W,fI,true,rfl,q,c,n,k⟩
theorem Joj:Jjj ["self","thing"] ["self","thing"] (Jje (Jjr (top 8) 0)):=⟨rfl,rfl,rfl,by decide +kernel,rfl,by decide +kernel,by decide +kernel⟩
theorem Jr7 (T:Tx K mg a):FnOk P w K mg base CX0 1 a.Jeu a.Jev ["self","thing"] (Jmw K "thing"):=by
 refine T.Jbz.fn.ok Joj (λvs H Q E h=>?_) (λcdv A outer s H vs Q E hr h=>?_)
 ·obtain ⟨e,C,W,fI,y,rfl,_⟩:=h
  rfl
 ·obtain ⟨e,C,W,fI,y,rfl,q,c,n,k⟩:=h
  refine ⟨_,(Jjc (Jmo (pv 0) (pv 1) rfl)),?_⟩
  exact ⟨_,rfl,_,rfl,e,C,W,fI,true,rfl,q,c,n,k⟩
theorem Jwt {H:Hp} {p q:Addr} {o u:HO} (h:p≠q):upd (upd H p o) q u=upd (upd H q u) p o:=by
 funext c
 by_cases h1:c=p
 ·subst h1
  rw [Jj9,Jjg h,Jj9]
 ·rw [Jjg h1]
  by_cases h2:c=q
  ·subst h2
   rw [Jj9,Jj9]
  ·rw [Jjg h2,Jjg h2,Jjg h1]
def Jxu (c g b t:V):List (Str×V):=[("cloud",c),("gain",g),("basins",b),("towns",t)]
def Yde (K:W.Frag) (a:Ad):Sp:=λvs H Q _=>∃(p dx l m:Addr) (c g:Int) (os ts:List Addr) (Bs:List Bsn) (Ts:List Twn),vs= [.ref p,.int c,.int g,.ref l,.ref m]/\H p=some (.ins a.Jj3 dx [])/\(0<=c/\c<=12)/\(0<=g/\g<=c)/\H l=some (.lst (os.map V.ref))/\BasL K a H os Bs/\(1<=Bs.length/\Bs.length<=16)/\(Bs.map (·.z)).Nodup/\H m=some (.lst (ts.map V.ref))/\TwnL a H ts Ts/\Ts.length<=3/\(Ts.map (·.z)).Nodup/\(∀t∈Ts,t.b∈Bs.map (·.z))/\∀H' b t,Same H H'->H' b=some (.tup (os.map V.ref))->H' t=some (.tup (ts.map V.ref))->b≠p->t≠p->Q .non (upd H' p (.ins a.Jj3 dx (Jxu (.int c) (.int g) (.ref b) (.ref t))))
theorem Jl9 {i lo hi:Int} (h1:lo<=i) (h2:i<=hi):Jjo (.int i) lo hi=true:=by
 show (decide (lo<=i)&&decide (i<=hi))=true
 rw [decide_eq_true h1,decide_eq_true h2]
 rfl
theorem Jq1:Jjj ["self","cloud","gain","basins","towns"] ["self","cloud","gain","basins","towns"] (Jje (Jjr (top 70) 0)):=⟨rfl,rfl,rfl,by decide +kernel,rfl,by decide +kernel,by decide +kernel⟩
theorem Jos (T:Tx K mg a):FnOk P w K mg base (CXX P w) 4 a.Jhg a.Jhh ["self","cloud","gain","basins","towns"] (Yde K a):=by
 have G_is_whole:=Jkl (P:=P) (w:=w) (base:=base) T
 have G_are_basins:=Jsz (P:=P) (w:=w) (base:=base) T
 have G_are_towns:=Jv1 (P:=P) (w:=w) (base:=base) T
 have G_NoCloud___init__:=Jr6 (P:=P) (w:=w) (base:=base) T
 have G_NoRiver___init__:=Jr7 (P:=P) (w:=w) (base:=base) T
 refine T.Jce.fn.okX Jq1 (λvs H Q E h=>?_) (λcdv A outer s H vs Q E hr h=>?_)
 ·obtain ⟨p,dx,l,m,c,g,os,ts,Bs,Ts,rfl,_⟩:=h
  rfl
 ·obtain ⟨p,dx,l,m,c,g,os,ts,Bs,Ts,rfl,hp,hc,hg,hl,bl,hn,nd,hm,tl,tn,tnd,inn,k⟩:=h
  refine ⟨?t,?B,?C⟩
  case B=>
   refine' Jjd ?s1 ?r1
   case s1=>
    refine' Jk1 ?c2 ?a2 ?b2
    case c2=>
     exact (Jjy (Jjw (Jjf T.J0 G_is_whole hr (by decide) (Jj8 (pv 1) (Jj8 Jjb (Jj8 (Jkk (by rfl) T.Jai (v:=.int 12) ⟨_,rfl⟩) Jja))))))
    case a2=>
     refine' Jjc ?s3
     case s3=>
      exact (Jke Jkc rfl (Jla T.Jcj G_NoCloud___init__ hr (by decide) T.Jby.bd T.Jb6 (Jj8 (pv 1) Jja)))
    case b2=>
     exact Jjn
   case r1=>
    refine' Jjd ?s6 ?r6
    case s6=>
     refine' Jk1 ?c7 ?a7 ?b7
     case c7=>
      exact (Jjy (Jjw (Jjf T.J0 G_is_whole hr (by decide) (Jj8 (pv 2) (Jj8 Jjb (Jj8 (pv 1) Jja))))))
     case a7=>
      refine' Jjc ?s8
      case s8=>
       exact (Jke Jkc rfl (Jla T.Jcj G_NoCloud___init__ hr (by decide) T.Jby.bd T.Jb6 (Jj8 (pv 2) Jja)))
     case b7=>
      exact Jjn
    case r6=>
     refine' Jjd ?s11 ?r11
     case s11=>
      refine' Jk1 ?c12 ?a12 ?b12
      case c12=>
       exact (Jjy (Jjw (Jjf T.Ju G_are_basins hr (by decide) (Jj8 (pv 3) Jja))))
      case a12=>
       refine' Jjc ?s13
       case s13=>
        exact (Jke Jkc rfl (Jla T.Jck G_NoRiver___init__ hr (by decide) T.Jbz.bd T.Jb7 (Jj8 (pv 3) Jja)))
      case b12=>
       exact Jjn
     case r11=>
      refine' Jjd ?s16 ?r16
      case s16=>
       refine' Jk1 ?c17 ?a17 ?b17
       case c17=>
        exact (Jjy (Jjw (Jjf T.Jv G_are_towns hr (by decide) (Jj8 (pv 4) (Jj8 (pv 3) Jja)))))
       case a17=>
        refine' Jjc ?s18
        case s18=>
         exact (Jke Jkc rfl (Jla T.Jck G_NoRiver___init__ hr (by decide) T.Jbz.bd T.Jb7 (Jj8 (pv 4) Jja)))
       case b17=>
        exact Jjn
      case r16=>
       refine' Jjd ?s21 ?r21
       case s21=>
        exact (Jlu (pv 0) (pv 1) rfl)
       case r21=>
        refine' Jjd ?s23 ?r23
        case s23=>
         exact (Jlu (pv 0) (pv 2) rfl)
        case r23=>
         refine' Jjd ?s25 ?r25
         case s25=>
          exact (Jlu (pv 0) (Jk7 Jl2 (by rfl) T.Jb0 Jky (Jj8 (pv 3) Jja)) rfl)
         case r25=>
          refine' Jjc ?s27
          case s27=>
           exact (Jlu (pv 0) (Jk7 Jl2 (by rfl) T.Jb0 Jky (Jj8 (pv 4) Jja)) rfl)
  refine ⟨_,rfl,_,0,12,rfl,.inl ⟨_,rfl⟩,_,rfl,ifF (by rw [Jl9 hc.1 hc.2];rfl) ?_⟩
  refine ⟨_,rfl,_,rfl,_,0,c,rfl,.inl ⟨_,rfl⟩,_,rfl,ifF (by rw [Jl9 hg.1 hg.2];rfl) ?_⟩
  refine ⟨_,rfl,l,os,Bs,rfl,hl,bl,hn,nd,λH1 s1=>⟨_,rfl,Jkp ?_⟩⟩
  refine ⟨_,rfl,_,rfl,l,m,os,ts,Bs,Ts,rfl,s1 _ _ hl,bl.same s1,hn.2,s1 _ _ hm,tl.same s1,tn,tnd,inn,λH2 s2=>⟨_,rfl,Jkp ?_⟩⟩
  have s3:=s1.trans s2
  have hp2:=s3 _ _ hp
  refine ⟨_,rfl,_,rfl,p,_,dx,[],rfl,hp2,T.Jdd,T.Jdx,by simp,?_⟩
  rw [show Jlq "cloud" (.int c) []=([("cloud",.int c)]:List (Str×V)) from rfl]
  refine ⟨_,rfl,_,rfl,p,_,dx,_,rfl,Jj9,T.Jdd,T.Jdy,by simp,?_⟩
  rw [show Jlq "gain" (.int g) [("cloud",.int c)]=([("cloud",.int c),("gain",.int g)]:List (Str×V)) from Jln (fs:=[("cloud",.int c)]) (show (["cloud"]:List Str).contains "gain" =false by decide +kernel),Jmq]
  have nl:l≠p:=λe=>by subst e;rw [hl] at hp;cases hp
  have nm:m≠p:=λe=>by subst e;rw [hm] at hp;cases hp
  refine ⟨_,rfl,l,_,rfl,.inl ⟨SqL.of (by rw [Jjg nl];exact s3 _ _ hl),λb hb=>?_⟩⟩
  have nb:b≠p:=λe=>by subst e;rw [Jj9] at hb;cases hb
  rw [Jjg nb] at hb
  rw [Jwt nb.symm]
  refine ⟨_,rfl,p,_,dx,_,rfl,Jj9,T.Jdd,T.Jdz,by simp,?_⟩
  rw [show Jlq "basins" (.ref b) [("cloud",.int c),("gain",.int g)]=([("cloud",.int c),("gain",.int g),("basins",.ref b)]:List (Str×V)) from Jln (fs:=[("cloud",.int c),("gain",.int g)]) (show (["cloud","gain"]:List Str).contains "basins" =false by decide +kernel),Jmq]
  have s4:=s3.trans (Same.upd (o:=.tup (os.map V.ref)) hb)
  refine ⟨_,rfl,m,_,rfl,.inl ⟨SqL.of (by rw [Jjg nm];exact s4 _ _ hm),λt ht=>?_⟩⟩
  have nt:t≠p:=λe=>by subst e;rw [Jj9] at ht;cases ht
  rw [Jjg nt] at ht
  rw [Jwt nt.symm]
  refine ⟨_,rfl,p,_,dx,_,rfl,Jj9,T.Jdd,T.Je0,by simp,?_⟩
  rw [show Jlq "towns" (.ref t) [("cloud",.int c),("gain",.int g),("basins",.ref b)]=(Jxu (.int c) (.int g) (.ref b) (.ref t)) from Jln (fs:=[("cloud",.int c),("gain",.int g),("basins",.ref b)]) (show (["cloud","gain","basins"]:List Str).contains "towns" =false by decide +kernel),Jmq]
  have s5:=Same.upd (o:=.tup (ts.map V.ref)) ht
  exact k _ b t (s4.trans s5) (s5 _ _ Jj9) Jj9 nb nt
def TldAt (H:Hp) (t:Addr) (B:BTd):Prop:=∃m:Addr,H t=some (.tup [.str B.z,.int B.lo,.int B.hi,.int B.st,.int B.rn,.str B.G.kd,.ref m])/\H m=some (.lst (B.G.ns.map V.int))/\B.G.sv=none
def Yd4 (a:Ad):Sp:=λvs H Q _=>∃(m:Addr) (kd:Str) (ns:List Int),vs= [.str kd,.ref m]/\H m=some (.lst (ns.map V.int))/\GGood ⟨kd,ns,none⟩/\∀(g:Addr) (H':Hp),Same H H'->GateAt (cOf a kd) H' g (ns.map V.int)->Q (.ref g) H'
theorem Jwj:Jjj ["_law_kind","_law_marks_here"] ["_law_kind","_law_marks_here"] (Jje (top 77)):=⟨rfl,rfl,rfl,by decide +kernel,rfl,by decide +kernel,by decide +kernel⟩
theorem Jw7 (T:Tx K mg a):FnOk P w K mg base CX0 6 a.Jhu a.Jhv ["_law_kind","_law_marks_here"] (Yd4 a):=by
 have G_StepGate___init__:=Jqi (P:=P) (w:=w) (base:=base) T
 have G_FlapGate___init__:=Jn2 (P:=P) (w:=w) (base:=base) T
 have G_PartGate___init__:=Jqh (P:=P) (w:=w) (base:=base) T
 refine T.Ja1.fn.ok Jwj (λvs H Q E h=>?_) (λcdv A outer s H vs Q E hr h=>?_)
 ·obtain ⟨m,kd,ns,rfl,_⟩:=h
  rfl
 ·obtain ⟨m,kd,ns,rfl,hm,gg,k⟩:=h
  have hkd:Knd kd:=gg.kd
  have har:Jma (Jms kd) (ns.map V.int)=true:=gg.ns
  refine ⟨?t,?B,?C⟩
  case B=>
   refine' Jjd ?s1 ?r1
   case s1=>
    refine' Jk1 ?c2 ?a2 ?b2
    case c2=>
     exact (Jk8 Jmh (pv 0) Jm1 (Jk2 _))
    case a2=>
     refine' Jjc ?s3
     case s3=>
      exact (Jjk (Jlw T.Jcs G_StepGate___init__.calm (hr.mono (by decide)) (by rfl) T.Jbc T.Jc4.bd .nil Jmm (Jj8 (pv 1) Jja)))
    case b2=>
     exact Jjn
   case r1=>
    refine' Jjd ?s7 ?r7
    case s7=>
     refine' Jk1 ?c8 ?a8 ?b8
     case c8=>
      exact (Jk8 Jmh (pv 0) Jm1 (Jk2 _))
     case a8=>
      refine' Jjc ?s9
      case s9=>
       exact (Jjk (Jlw T.Jcy G_FlapGate___init__.calm (hr.mono (by decide)) (by rfl) T.Jbd T.Jc7.bd .nil Jmm (Jj8 (pv 1) Jja)))
     case b8=>
      exact Jjn
    case r7=>
     refine' Jjc ?s13
     case s13=>
      exact (Jjk (Jlw T.Jd4 G_PartGate___init__.calm (hr.mono (by decide)) (by rfl) T.Jbe T.Jca.bd .nil Jmm (Jj8 (pv 1) Jja)))
  rcases hkd with rfl|rfl|rfl
  ·have e1:Jms "step" =0:=if_neg ne_sp
   have e2:cOf a "step" =a.Jiy:=if_pos rfl
   have hr':Jma (0) (ns.map V.int)=true:=by rw [<-e1];exact har
   refine ⟨_,rfl,rfl,_,rfl,iteD rfl ⟨_,rfl,λg dx hg hd ne=>Jnn T.Jcq T.Jdm hg hd ne ⟨ns.map V.int,.lst hm,λy hy=>Jm8 hy,hr',λH' s' ga=>?_⟩⟩⟩
   exact k g H' s' (by rw [e2];exact ga)
  ·have e1:Jms "flap" =0:=if_neg ne_fp
   have e2:cOf a "flap" =a.Jiz:=by unfold cOf;rw [if_neg Jtu,if_pos rfl]
   have hr':Jma (0) (ns.map V.int)=true:=by rw [<-e1];exact har
   refine ⟨_,rfl,rfl,_,rfl,iteN (strN Jtu) ⟨_,rfl,rfl,_,rfl,iteD rfl ⟨_,rfl,λg dx hg hd ne=>Jnn T.Jcw T.Jdn hg hd ne ⟨ns.map V.int,.lst hm,λy hy=>Jm8 hy,hr',λH' s' ga=>?_⟩⟩⟩⟩
   exact k g H' s' (by rw [e2];exact ga)
  ·have e1:Jms "part" =1:=if_pos rfl
   have e2:cOf a "part" =a.Jj0:=by unfold cOf;rw [if_neg Jw4,if_neg Jw3]
   have hr':Jma (1) (ns.map V.int)=true:=by rw [<-e1];exact har
   refine ⟨_,rfl,rfl,_,rfl,iteN (strN Jw4) ⟨_,rfl,rfl,_,rfl,iteN (strN Jw3) ⟨_,rfl,λg dx hg hd ne=>Jnn T.Jd2 T.Jdo hg hd ne ⟨ns.map V.int,.lst hm,λy hy=>Jm8 hy,hr',λH' s' ga=>?_⟩⟩⟩⟩
   exact k g H' s' (by rw [e2];exact ga)
structure TGd (B:BTd):Prop where
 b:BGd B
 st:B.lo<=B.st/\B.st<=B.hi
 nm:Jqz B.z=true
 wd:Wd 50 B.z
def Yd6 (a:Ad):Sp:=λvs H Q _=>∃(t:Addr) (B:BTd),vs= [.ref t]/\TldAt H t B/\TGd B/\∀(o:Addr) (H':Hp),Same H H'->BX a H' o B->Q (.ref o) H'
theorem GS.gti {H:Hp} {x:V} {n:Nat} (T:Tx K mg a) (g:GS K a H x n):GtI K a H x true:=by
 cases g with
 |plain i ga l=>
  obtain ⟨dx,t,h1,h2⟩:=ga
  rcases i with rfl|rfl|rfl
  ·exact ⟨_,.of (T.Jcr.ty T.Jcq h1),T.Je5,T.Jed,_,T.Jea,λ_=>rfl,by intro w';cases w'⟩
  ·exact ⟨_,.of (T.Jcx.ty T.Jcw h1),T.Je6,T.Jee,_,T.Jeb,λ_=>rfl,by intro w';cases w'⟩
  ·exact ⟨_,.of (T.Jd3.ty T.Jd2 h1),T.Je7,T.Jef,_,T.Jec,λ_=>rfl,by intro w';cases w'⟩
theorem Jwk:Jjj ["_law_told"] ["_law_told"] (Jje (top 78)):=⟨rfl,rfl,rfl,by decide +kernel,rfl,by decide +kernel,by decide +kernel⟩
theorem Jw8 (T:Tx K mg a):FnOk P w K mg base CX0 7 a.Jhw a.Jhx ["_law_told"] (Yd6 a):=by
 have G__law_gate:=Jw7 (P:=P) (w:=w) (base:=base) T
 have G_Basin___init__:=Jor (P:=P) (w:=w) (base:=base) T
 refine T.Ja2.fn.ok Jwk (λvs H Q E h=>?_) (λcdv A outer s H vs Q E hr h=>?_)
 ·obtain ⟨t,B,rfl,_⟩:=h
  rfl
 ·obtain ⟨t,B,rfl,⟨m,ht,hm,sv⟩,tg,k⟩:=h
  have bg:=tg.b
  have gg:GGood ⟨B.G.kd,B.G.ns,none⟩:=by
   have e:B.G=⟨B.G.kd,B.G.ns,none⟩:=by
    cases hG:B.G with
    |mk kd ns sv'=>
     rw [hG] at sv
     cases sv
     rfl
   rw [<-e]
   exact bg.G
  refine ⟨?t,?B,?C⟩
  case B=>
   refine' Jjc ?s1
   case s1=>
    refine' Jjk ?e3_0
    case e3_0=>
     exact (Jlw T.Jda G_Basin___init__.calm (hr.mono (by decide)) (by rfl) T.Jbf T.Jcd.bd .nil Jmm (pa6 (Jjs Jkg (pv 0) Jjb (λ_ _=>rfl)) (Jjs Jkg (pv 0) Jjb (λ_ _=>rfl)) (Jjs Jkg (pv 0) Jjb (λ_ _=>rfl)) (Jjs Jkg (pv 0) Jjb (λ_ _=>rfl)) (Jjs Jkg (pv 0) Jjb (λ_ _=>rfl)) (Jjf T.Ja1 G__law_gate hr (by decide) (Jj8 (Jjs Jkg (pv 0) Jjb (λ_ _=>rfl)) (Jj8 (Jjs Jkg (pv 0) Jjb (λ_ _=>rfl)) Jja)))))
  refine ⟨_,rfl,t,_,0,_,rfl,rfl,SqT.of ht,rfl,_,rfl,t,_,1,_,rfl,rfl,SqT.of ht,rfl,_,rfl,t,_,2,_,rfl,rfl,SqT.of ht,rfl,_,rfl,t,_,3,_,rfl,rfl,SqT.of ht,rfl,_,rfl,t,_,4,_,rfl,rfl,SqT.of ht,rfl,?_⟩
  refine ⟨_,rfl,t,_,5,_,rfl,rfl,SqT.of ht,rfl,_,rfl,t,_,6,_,rfl,rfl,SqT.of ht,rfl,m,B.G.kd,B.G.ns,rfl,hm,gg,λg H1 s1 ga=>?_⟩
  have gx:GX a H1 (.ref g) B.G:=by
   refine ⟨g,ga,?_⟩
   rw [sv]
  have gs:GS K a H1 (.ref g) (nOf B.G):=gx.gs bg.G
  intro x dx hx1 hd1 ne
  have sn:Same H1 (upd (upd H1 dx (.own x)) x (.ins a.Jj1 dx [])):=λb o e=>by rw [Jjg (Jjh e hx1),Jjg (Jjh e hd1)];exact e
  have b1:=bg.lo
  have b2:=bg.hi
  have b3:=bg.rn
  have b4:=tg.st
  refine ⟨x,dx,.str B.z,.int B.lo,.int B.hi,.int B.st,.int B.rn,.ref g,true,none,rfl,Jj9,⟨.inr ⟨_,.of (.str B.z),rfl⟩,λy e=>by cases e;exact tg.wd⟩,.inl ⟨_,rfl⟩,.inl ⟨_,rfl⟩,.inl ⟨_,rfl⟩,.inl ⟨_,rfl⟩,(gs.gti T).same sn,.good B.lo B.hi tg.nm rfl rfl (Jl9 (by omega) (by omega)) (Jl9 (by omega) (by omega)) (Jl9 b4.1 b4.2) (Jl9 (by omega) (by omega)) rfl,λH2 s2=>⟨rfl,?_⟩⟩
  have s3:Same H1 (upd H2 x (.ins a.Jj1 dx (Jsu (.str B.z) (.int B.lo) (.int B.hi) (.int B.st) (.int B.rn) (.ref g)))):=λb o e=>by rw [Jjg (Jjh e hx1)];exact s2 _ _ (sn _ _ e)
  exact k x _ (s1.trans s3) ⟨dx,_,Jj9,gx.same s3⟩
theorem Jyt {t1 t2:TS} {D:Ends} {σ:L2.St} {H:Hp} (Mid:L2.St->Hp->Prop) (h1:∀R,(∀σ H,Mid σ H->R σ H)->t1 {D with nx:=R} σ H) (h2:∀σ H,Mid σ H->t2 D σ H):tSeq t1 t2 D σ H:=h1 _ h2
theorem lo_eq (z:Str):(if decide (V.str z=V.str ("part" :Str))=true then (1:Int) else 0)=Jms z:=by
 unfold Jms
 by_cases h:z=("part" :Str)
 ·rw [if_pos h,if_pos (decide_eq_true (by rw [h]))]
 ·rw [if_neg h,if_neg (by rw [decide_eq_false (strN h)];decide)]
theorem lo_01 (z:Str):Jms z=0\/Jms z=1:=by
 unfold Jms
 split
 ·exact .inr rfl
 ·exact .inl rfl
theorem Jw2:∀(ns:List Int) (lo:Int),ns.Pairwise (· < ·)->(∀n∈ns,lo<=n/\n<=12)->Jkm lo (ns.map V.int)=true:=by
 intro ns
 induction ns with
 |nil=>intro lo _ _;rfl
 |cons x r ih=>
  intro lo h b
  have hx:=b x (yaq ..)
  obtain ⟨h1,h2⟩:=List.pairwise_cons.mp h
  have q:=ih (x+1) h2 λn hn=>⟨by have:=h1 n hn;omega,(b n (yak _ hn)).2⟩
  show ((decide (lo<=x)&&decide (x<=12))&&Jkm (x+1) (r.map V.int))=true
  rw [decide_eq_true hx.1,decide_eq_true hx.2,q]
  rfl
theorem Jzm:∀(ns:List Int) (lo:Int),Jkm lo (ns.map V.int)=true->∀n∈ns,lo<=n/\n<=12:=by
 intro ns
 induction ns with
 |nil=>intro lo _ n hn;simp at hn
 |cons x r ih=>
  intro lo h n hn
  have h':((decide (lo<=x)&&decide (x<=12))&&Jkm (x+1) (r.map V.int))=true:=h
  rw [yac,yac,decide_eq_true_eq,decide_eq_true_eq] at h'
  rcases ym.mp hn with rfl|hn
  ·exact h'.1
  ·have:=ih _ h'.2 n hn
   omega
theorem cut4 (ns:List Int):Jll (ns.map V.int) none (some 4)=(ns.take 4).map V.int:=by
 unfold Jll
 rw [HT.sIx_none,show (some (4:Int))=some ((4:Nat):Int) from rfl,HT.sIx_nat,yf,List.drop_zero,Nat.sub_zero,List.map_take]
 by_cases h:4<=ns.length
 ·rw [Nat.min_eq_left h]
 ·rw [Nat.min_eq_right (by omega),yam (by rw [yf];exact yg _),yam (by rw [yf];omega)]
theorem Jxd {lo:Int} {ns zs:List Int} (h0:0<=lo) (h1:lo<=1) (hm:Jma lo (zs.map V.int)=true) (hp:ns.Pairwise (· < ·)) (hi:∀n,n∈ns↔n∈zs++ [lo]):Jma lo ((ns.take 4).map V.int)=true:=by
 unfold Jma at hm⊢
 rw [yac] at hm
 have mb:=Jzm zs lo hm.2
 have all:∀n∈ns,lo<=n/\n<=12:=λn hn=>by
  rcases ybu.mp ((hi n).mp hn) with h|h
  ·exact mb n h
  ·have:=ybe.mp h
   omega
 have ne:1<=ns.length:=by
  have:lo∈ns:=(hi lo).mpr (ybu.mpr (.inr (ybe.mpr rfl)))
  cases ns with
  |nil=>simp at this
  |cons _ _=>simp
 rw [yac]
 refine ⟨decide_eq_true ?_,Jw2 _ _ (hp.sublist (List.take_sublist 4 ns)) λn hn=>all n (List.mem_of_mem_take hn)⟩
 rw [yf,yaf]
 omega
def TldM (H:Hp) (t m:Addr) (B:BTd):Prop:=H t=some (.tup [.str B.z,.int B.lo,.int B.hi,.int B.st,.int B.rn,.str B.G.kd,.ref m])/\H m=some (.lst (B.G.ns.map V.int))/\B.G.sv=none
theorem TldM.but {p t m:Addr} {H H':Hp} {B:BTd} (st:Strm H p) (b:But p H H') (hm:m≠p) (h:TldM H t m B):TldM H' t m B:=⟨b.1 _ _ (Jpr st h.1 (λ_ _ _ z=>by cases z)) h.1,b.1 _ _ hm h.2.1,h.2.2⟩
theorem TldM.same {t m:Addr} {H H':Hp} {B:BTd} (s:Same H H') (h:TldM H t m B):TldM H' t m B:=⟨s _ _ h.1,s _ _ h.2.1,h.2.2⟩
theorem str_at {zs:List Str} {s:Int} (h:0<=s/\s < zs.length):∃z,atI (zs.map V.str) s=some (.str z)/\z∈zs:=by
 obtain ⟨i,rfl⟩:=ycn h.1
 have hi:i < zs.length:=by omega
 exact ⟨zs[i],Jl6 (by rw [yp,yn hi];rfl),ybn hi⟩
theorem Jym {i:Int} (h0:0<=i) (h:i<=1000):i.natAbs.log2 < 9000:=Jyn (by omega)
def Yb9:Sp:=λvs H Q _=>∃(p:Addr) (z:Str),vs= [.ref p,.str z]/\Strm H p/\Jqz z=true/\Wd 50 z/\∀(t m:Addr) (B:BTd) (H':Hp),But p H H'->m≠p->TldM H' t m B->TGd B->B.z=z->Q (.ref t) H'
theorem sc_law_basin:Jjj ["_law_stream_here","_law_name","_law_low","_law_high","_law_start","_law_kind","_law_marks_here"] ["_law_stream_here","_law_name"] (Jje (top 76)):=⟨rfl,rfl,rfl,by decide +kernel,rfl,by decide +kernel,by decide +kernel⟩
theorem Jv2 (T:Tx K mg a):FnOk P w K mg base CX0 3 a.Jhs a.Jht ["_law_stream_here","_law_name"] Yb9:=by
 have G__law_take:=Jli (P:=P) (w:=w) (base:=base) T
 have G__law_marks:=Jv3 (P:=P) (w:=w) (base:=base) T
 refine T.Ja0.fn.ok sc_law_basin (λvs H Q E h=>?_) (λcdv A outer s H vs Q E hr h=>?_)
 ·obtain ⟨p,z,rfl,_⟩:=h
  rfl
 ·obtain ⟨p,z,rfl,st,nm,wd,k⟩:=h
  refine ⟨?t,?B,?C⟩
  case B=>
   refine' Jjd ?s1 ?r1
   case s1=>
    exact (Jju (i:=2) sc_law_basin.nd rfl (ye rfl) (Jjf T.Jy G__law_take hr (by decide) (Jj8 (pv 0) (Jj8 (Jjs Jjz (Jki (Jj8 Jjb (Jj8 Jjb (Jj8 Jjb Jja)))) (Jjf T.Jy G__law_take hr (by decide) (Jj8 (pv 0) (Jj8 Jjb Jja))) (λ_ _=>rfl)) Jja))))
   case r1=>
    refine' Jjd ?s3 ?r3
    case s3=>
     exact (Jju (i:=3) sc_law_basin.nd rfl (ye rfl) (Jjt Jks (pv 2) (Jjf T.Jy G__law_take hr (by decide) (Jj8 (pv 0) (Jj8 (Jjt Jlt Jjb (pv 2)) Jja)))))
    case r3=>
     refine' Jjd ?s5 ?r5
     case s5=>
      refine' Jk1 ?c6 ?a6 ?b6
      case c6=>
       exact (Jk8 Jw9 (Jjf T.Jy G__law_take hr (by decide) (Jj8 (pv 0) (Jj8 Jjb Jja))) Jjb (Jk2 _))
      case a6=>
       refine' Jjc ?s7
       case s7=>
        exact (Jju (i:=3) sc_law_basin.nd rfl (ye rfl) (Jji (Job rfl) (by rfl) T.Jau Juj (Jj8 (pv 3) (Jj8 (Jjt Jlt Jjb (Jjf T.Jy G__law_take hr (by decide) (Jj8 (pv 0) (Jj8 Jjb Jja)))) Jja))))
      case b6=>
       exact Jjn
     case r5=>
      refine' Jjd ?s10 ?r10
      case s10=>
       exact (Jju (i:=4) sc_law_basin.nd rfl (ye rfl) (Jjt Jks (pv 2) (Jjf T.Jy G__law_take hr (by decide) (Jj8 (pv 0) (Jj8 (Jjt Jks (Jjt Jlt (pv 3) (pv 2)) Jjb) Jja)))))
      case r10=>
       refine' Jjd ?s12 ?r12
       case s12=>
        exact (Jju (i:=5) sc_law_basin.nd rfl (ye rfl) (Jjs Jjz (Jki (pa4 Jm1 Jm1 Jm1 Jm1)) (Jjf T.Jy G__law_take hr (by decide) (Jj8 (pv 0) (Jj8 Jjb Jja))) (λ_ _=>rfl)))
       case r12=>
        refine' Jjd ?s14 ?r14
        case s14=>
         exact (Jju (i:=6) sc_law_basin.nd rfl (ye rfl) (Jjf T.Jz G__law_marks hr (by decide) (Jj8 (pv 0) (Jj8 (Jk7 Jqb (by rfl) T.Jaq Jui (Jj8 (Jl1 Jmh (pv 5) Jm1 (Jk2 _)) Jja)) Jja))))
        case r14=>
         refine' Jjd ?s16 ?r16
         case s16=>
          refine' Jk1 ?c17 ?a17 ?b17
          case c17=>
           exact (Jk8 Jmh (Jjf T.Jy G__law_take hr (by decide) (Jj8 (pv 0) (Jj8 Jjb Jja))) Jjb (Jk2 _))
          case a17=>
           refine' Jjc ?s18
           case s18=>
            exact (Jju (i:=6) sc_law_basin.nd rfl (ye rfl) (Jnz Jq3 (Jji (Jrl rfl) (by rfl) T.Jay Jz5 (Jj8 (Jk7 (Jsw rfl rfl) (by rfl) T.Jax Yn (Jj8 (Jjt Js8 (pv 6) (Jki (Jj8 (Jk7 Jqb (by rfl) T.Jaq Jui (Jj8 (Jl1 Jmh (pv 5) Jm1 (Jk2 _)) Jja)) Jja))) Jja)) Jja)) Jpw (Jpx Jjb)))
          case b17=>
           exact Jjn
         case r16=>
          refine' Jjc ?s21
          case s21=>
           refine' Jjk ?e23_0
           case e23_0=>
            refine' Jk5 ?e24_0
            case e24_0=>
             refine' pa7 ?e25_0 ?e25_1 ?e25_2 ?e25_3 ?e25_4 ?e25_5 ?e25_6
             case e25_0=>
              exact (pv 1)
             case e25_1=>
              exact (pv 2)
             case e25_2=>
              exact (pv 3)
             case e25_3=>
              exact (pv 4)
             case e25_4=>
              exact (Jjf T.Jy G__law_take hr (by decide) (Jj8 (pv 0) (Jj8 (Jjs Jjz (Jki (Jj8 Jjb (Jj8 Jjb Jja))) (Jjf T.Jy G__law_take hr (by decide) (Jj8 (pv 0) (Jj8 Jjb Jja))) (λ_ _=>rfl)) Jja)))
             case e25_5=>
              exact (pv 5)
             case e25_6=>
              exact (pv 6)
  refine ⟨_,rfl,(show 3<=sizeLine by decide),λl1 h1=>?_⟩
  have s1:=Same.upd (o:=.lst [.int 13,.int 3,.int 3]) h1
  have n1:=st.ne h1
  refine ⟨_,rfl,p,3,rfl,st.same s1,by decide,by decide,λr1 H1 r10 r11 b1=>?_⟩
  obtain ⟨a1,m1⟩:=Jpq (ns:=[13,3,3]) ⟨r10,r11⟩
  refine ⟨l1,_,r1,_,rfl,rfl,SqL.of (b1.1 _ _ n1 Jj9),a1,?_⟩
  generalize ([13,3,3]:List Int).getD r1.toNat 0=mk at a1 m1
  have hmk:3<=mk/\mk<=13:=by
   simp at m1
   omega
  have c1:But p H H1:=((But.refl st).same s1).trans b1
  refine ⟨p,mk,rfl,c1.2,by omega,Jym (by omega) (by omega),λlo H2 lo0 lo1 b2=>?_⟩
  have c2:=c1.trans b2
  refine ⟨_,rfl,_,rfl,_,rfl,_,_,rfl,rfl,p,13 - lo,rfl,c2.2,by omega,Jym (by omega) (by omega),λr3 H3 r30 r31 b3=>⟨_,_,rfl,rfl,?_⟩⟩
  have c3:=c2.trans b3
  dsimp only [Jnf]
  refine Jyt (λσ H4=>∃hi:Int,σ= [some (.ref p),some (.str z),some (.int lo),some (.int hi),none,none,none]/\lo<=hi/\hi<=12/\But p H H4) (λR hR=>?_) ?_
  ·refine ⟨_,rfl,p,3,rfl,c3.2,by decide,by decide,λr4 H4 r40 r41 b4=>⟨_,_,rfl,rfl,_,rfl,Jog (λq=>?_) (λq=>?_)⟩⟩
   ·refine ⟨_,rfl,_,rfl,p,4,rfl,(c3.trans b4).2,by decide,by decide,λr5 H5 r50 r51 b5=>⟨_,_,rfl,rfl,_,_,rfl,hR _ _ ⟨_,rfl,?_,?_,(c3.trans b4).trans b5⟩⟩⟩
    ·split <;> omega
    ·split <;> omega
   ·exact hR _ _ ⟨_,rfl,by omega,by omega,c3.trans b4⟩
  rintro σ H4 ⟨hi,rfl,hi0,hi1,c4⟩
  refine ⟨_,rfl,_,rfl,_,rfl,_,rfl,_,_,rfl,rfl,_,_,rfl,rfl,p,hi - lo+1,rfl,c4.2,by omega,Jym (by omega) (by omega),λr5 H5 r50 r51 b5=>⟨_,_,rfl,rfl,?_⟩⟩
  have c5:=c4.trans b5
  refine ⟨(show 4<=sizeLine by decide),λl2 h2=>?_⟩
  have s2:=Same.upd (o:=.lst [.str "step",.str "flap",.str "flap",.str "part"]) h2
  have n2:=c5.2.ne h2
  refine ⟨_,rfl,p,4,rfl,c5.2.same s2,by decide,by decide,λr6 H6 r60 r61 b6=>?_⟩
  obtain ⟨kd,a2,m2⟩:=str_at (zs:=["step","flap","flap","part"]) ⟨r60,r61⟩
  refine ⟨l2,_,r6,_,rfl,rfl,SqL.of (b6.1 _ _ n2 Jj9),a2,?_⟩
  have kn:Knd kd:=by
   simp at m2
   exact m2
  have c6:But p H H6:=(c5.same s2).trans b6
  refine ⟨_,rfl,_,rfl,rfl,.inr ⟨_,rfl,?_⟩⟩
  refine ⟨p,Jms kd,congrArg (λz=>[V.ref p,V.int z]) (lo_eq kd),c6.2,lo_01 kd,λm ns H7 hm0 b7 hm7 ar=>?_⟩
  have c7:=c6.trans b7
  have nm7:m≠p:=c6.2.ne hm0
  have l01:0<=Jms kd/\Jms kd<=1:=by rcases lo_01 kd with e|e <;> rw [e] <;> decide
  dsimp only [Jnf]
  refine Jyt (λσ H8=>∃(m:Addr) (ns:List Int),σ= [some (.ref p),some (.str z),some (.int lo),some (.int hi),some (.int (lo+r5)),some (.str kd),some (.ref m)]/\H8 m=some (.lst (ns.map V.int))/\m≠p/\Jma (Jms kd) (ns.map V.int)=true/\But p H H8) (λR hR=>?_) ?_
  ·refine ⟨_,rfl,p,2,rfl,c7.2,by decide,by decide,λr8 H8 r80 r81 b8=>⟨rfl,_,rfl,Jog (λq=>?_) (λq=>?_)⟩⟩
   ·have c8:=c7.trans b8
    have hm8:=b8.1 _ _ nm7 hm7
    refine ⟨_,rfl,_,rfl,rfl,.inr ⟨_,rfl,(show 1<=sizeLine by decide),λl3 h3=>?_⟩⟩
    have s3:=Same.upd (o:=.lst [.int (if decide (V.str kd=V.str ("part" :Str))=true then (1:Int) else 0)]) h3
    have nl:ns.length<=4:=by
     unfold Jma at ar
     rw [yac,decide_eq_true_eq,yf] at ar
     exact ar.1.2
    refine ⟨m,l3,_,_,rfl,rfl,s3 _ _ hm8,Jj9,?_,λl4 h4=>?_⟩
    ·rw [yf]
     exact yap (Jjx (by simp;omega))
    have hl4:(upd (upd H8 l3 (.lst [.int (if decide (V.str kd=V.str ("part" :Str))=true then (1:Int) else 0)])) l4 (.lst (ns.map V.int++ [.int (if decide (V.str kd=V.str ("part" :Str))=true then (1:Int) else 0)]))) l4=some (.lst ((ns++ [Jms kd]).map V.int)):=by
     rw [Jj9,lo_eq,yab]
     rfl
    have s4:=s3.trans (Same.upd (o:=.lst (ns.map V.int++ [.int (if decide (V.str kd=V.str ("part" :Str))=true then (1:Int) else 0)])) h4)
    refine ⟨l4,ns++ [Jms kd],rfl,SqL.of hl4,by simp;omega,λl5 h5=>?_⟩
    have s5:=s4.trans (Same.upd (o:=ZS P w l5 (ns++ [Jms kd])) h5)
    refine ⟨l5,ns++ [Jms kd],rfl,Jj9,by simp;omega,λl6 ms h6 hp hi=>?_⟩
    have s6:=s5.trans (Same.upd (o:=.lst (ms.map V.int)) h6)
    refine ⟨4,rfl,l6,_,rfl,SqL.of Jj9,λl7 h7=>hR _ _ ⟨l7,ms.take 4,rfl,?_,?_,Jxd l01.1 l01.2 ar hp hi,c8.same (s6.trans (Same.upd h7))⟩⟩
    ·rw [Jj9,cut4]
    ·exact (c8.2.same s6).ne h7
   ·exact hR _ _ ⟨m,ns,rfl,b8.1 _ _ nm7 hm7,nm7,ar,c7.trans b8⟩
  rintro σ H8 ⟨m,ns,rfl,hm8,nm8,ar,c8⟩
  refine ⟨_,rfl,_,rfl,_,rfl,_,rfl,_,rfl,(show 2<=sizeLine by decide),λl9 h9=>?_⟩
  have s9:=Same.upd (o:=.lst [.int 7,.int 3]) h9
  have n9:=c8.2.ne h9
  refine ⟨_,rfl,p,2,rfl,c8.2.same s9,by decide,by decide,λr9 H9 r90 r91 b9=>?_⟩
  obtain ⟨a9,m9⟩:=Jpq (ns:=[7,3]) ⟨r90,r91⟩
  refine ⟨l9,_,r9,_,rfl,rfl,SqL.of (b9.1 _ _ n9 Jj9),a9,?_⟩
  generalize ([7,3]:List Int).getD r9.toNat 0=mr at a9 m9
  have hmr:3<=mr/\mr<=7:=by
   simp at m9
   omega
  have c9:But p H H9:=(c8.same s9).trans b9
  refine ⟨p,mr,rfl,c9.2,by omega,Jym (by omega) (by omega),λrn H10 rn0 rn1 b10=>?_⟩
  refine ⟨_,rfl,_,rfl,(show 7<=sizeLine by decide),λt ht=>?_⟩
  have hm10:=b10.1 _ _ nm8 (b9.1 _ _ nm8 (s9 _ _ hm8))
  refine k t m ⟨z,lo,hi,lo+r5,rn,⟨kd,ns,none⟩⟩ _ ((c9.trans b10).same (Same.upd ht)) nm8 ⟨Jj9,Same.upd ht _ _ hm10,rfl⟩ ⟨⟨⟨lo0,hi0⟩,hi1,⟨rn0,?_⟩,⟨kn,ar,λi e=>by cases e⟩⟩,⟨?_,?_⟩,nm,wd⟩ rfl
  ·show rn<=6
   omega
  ·show lo<=lo+r5
   omega
  ·show lo+r5<=hi
   omega
def Rfd (a:Ad) (H:Hp) (E:XK) (x:V):Prop:=∀c eo H',RfC a.Jiv H H' x c eo->E c eo H'
def Jua (up hi x:V):Prop:=(Jjo up 0 12=false/\x=up)\/(Jjo up 0 12=true/\Jjo hi 0 12=false/\x=hi)
def spBnd (K:W.Frag) (a:Ad):Sp:=λvs H Q E=>∃up hi:V,vs= [up,hi]/\Tm K H up/\Tm K H hi/\(Jjo up 0 12=true->Jjo hi 0 12=true->Q .non H)/\∀x,Jua up hi x->Rfd a H E x
def Jyv (K:W.Frag) (a:Ad):Sp:=λvs H _ E=>∃(o up hi x:V),vs= [o,up,hi]/\Tm K H up/\Tm K H hi/\Jua up hi x/\Rfd a H E x
def Ybd (K:W.Frag) (a:Ad):Sp:=λvs H _ E=>∃(o:Addr) (up hi lv x:V) (Bd:BTd),vs= [.ref o,up,hi,lv]/\BX a H o Bd/\Tm K H up/\Tm K H hi/\Tm K H lv/\(Jua up hi x\/(Jjo up 0 12=true/\Jjo hi 0 12=true/\Jjo lv Bd.lo Bd.hi=false/\x=lv))/\Rfd a H E x
theorem fn_or {CX:CXT} {k:Nat} {f:Addr} {fd:FuncData} {ps:List Str} {sp sp':Sp} (F:FnOk P w K mg base CX k f fd ps sp) (G:FnOk P w K mg base CX k f fd ps sp'):FnOk P w K mg base CX k f fd ps (λvs H Q E=>sp vs H Q E\/sp' vs H Q E):=
 ⟨λvs H Q E h=>h.elim (F.len vs H Q E) (G.len vs H Q E),λA outer s H args us vs Q E hr he hb hv h=>h.elim (F.run A outer s H args us vs Q E hr he hb hv) (G.run A outer s H args us vs Q E hr he hb hv)⟩
theorem Jqs {CX:CXT} {k:Nat} {f:Addr} {fd:FuncData} {ps:List Str}:FnOk P w K mg base CX k f fd ps (λ_ _ _ _=>False):=⟨λ_ _ _ _ h=>h.elim,λ_ _ _ _ _ _ _ _ _ _ _ _ _ h=>h.elim⟩
theorem Jrg (T:Tx K mg a):FnOk P w K mg base (CXX P w) 3 a.Jfk a.Jfl ["up","hi"] (spBnd K a):=by
 have G_is_promised:=Jmg (P:=P) (w:=w) (base:=base) T
 have G_NoNumber___init__:=Jkq (P:=P) (w:=w) (base:=base) T
 refine T.J9.fn.okX Jol (λvs H Q E h=>?_) (λcdv A outer s H vs Q E hr h=>?_)
 ·obtain ⟨up,hi,rfl,_⟩:=h
  rfl
 ·obtain ⟨up,hi,rfl,tu,th,k,k1⟩:=h
  refine ⟨?t,?B,?C⟩
  case B=>
   refine' Jjd ?s1 ?r1
   case s1=>
    refine' Jk1 ?c2 ?a2 ?b2
    case c2=>
     exact (Jjy (Jjw (Jjf T.J8 G_is_promised hr (by decide) (Jj8 (pv 0) Jja))))
    case a2=>
     refine' Jjc ?s3
     case s3=>
      exact (Jke Jkc rfl (Jla T.Jcn G_NoNumber___init__ hr (by decide) T.Jc1.bd T.Jb9 (Jj8 (pv 0) Jja)))
    case b2=>
     exact Jjn
   case r1=>
    refine' Jjc ?s6
    case s6=>
     refine' Jk1 ?c7 ?a7 ?b7
     case c7=>
      exact (Jjy (Jjw (Jjf T.J8 G_is_promised hr (by decide) (Jj8 (pv 1) Jja))))
     case a7=>
      refine' Jjc ?s8
      case s8=>
       exact (Jke Jkc rfl (Jla T.Jcn G_NoNumber___init__ hr (by decide) T.Jc1.bd T.Jb9 (Jj8 (pv 1) Jja)))
     case b7=>
      exact Jjn
  refine ⟨_,rfl,up,rfl,tu,_,rfl,?_⟩
  cases hu:Jjo up 0 12 with
  |false=>exact Jl4 (Jlg T.Jcn T.Jdk rfl λe dx h1 h2 h3=>k1 up (.inl ⟨hu,rfl⟩) _ _ _ (RfC.new h1 h2 h3))
  |true=>
   refine Jkp ⟨_,rfl,hi,rfl,th,_,rfl,?_⟩
   cases hh:Jjo hi 0 12 with
   |false=>exact Jl4 (Jlg T.Jcn T.Jdk rfl λe dx h1 h2 h3=>k1 hi (.inr ⟨hu,hh,rfl⟩) _ _ _ (RfC.new h1 h2 h3))
   |true=>exact Jkp (k hu hh)
theorem Jsi:Jjj ["basin","up","hi"] ["basin","up","hi"] (Jje (top 35)):=⟨rfl,rfl,rfl,by decide +kernel,rfl,by decide +kernel,by decide +kernel⟩
theorem Js7 (T:Tx K mg a):FnOk P w K mg base (CXX P w) 7 a.Jfy a.Jfz ["basin","up","hi"] (Jyv K a):=by
 have G_refuse_no_bounds:=Jrg (P:=P) (w:=w) (base:=base) T
 have G_settings_alone:=Jqs (P:=P) (w:=w) (K:=K) (mg:=mg) (base:=base) (CX:=CX0) (k:=6) (f:=a.Jfu) (fd:=a.Jfv) (ps:=["basin","up","hi"])
 refine T.Jg.fn.okX Jsi (λvs H Q E h=>?_) (λcdv A outer s H vs Q E hr h=>?_)
 ·obtain ⟨o,up,hi,x,rfl,_⟩:=h
  rfl
 ·obtain ⟨o,up,hi,x,rfl,tu,th,bd,k⟩:=h
  refine ⟨?t,?B,?C⟩
  case B=>
   refine' Jjd ?s1 ?r1
   case s1=>
    exact (Jkv (Jkd T.J9 G_refuse_no_bounds Jkc hr (by decide) (Jj8 (pv 1) (Jj8 (pv 2) Jja))))
   case r1=>
    refine' Jjc ?s3
    case s3=>
     exact (Jjk (Jk7 (Jul rfl) (by rfl) T.Jat Jn5 (Jj8 (Jjf T.Je G_settings_alone hr (by decide) (Jj8 (pv 0) (Jj8 (pv 1) (Jj8 (pv 2) Jja)))) Jja)))
  refine ⟨_,rfl,_,rfl,up,hi,rfl,tu,th,λh1 h2=>?_,λy hy=>?_⟩
  ·rcases bd with ⟨q,_⟩|⟨_,q,_⟩
   ·rw [h1] at q;cases q
   ·rw [h2] at q;cases q
  ·have e:y=x:=by
    rcases bd with ⟨q,rfl⟩|⟨q,q2,rfl⟩ <;> rcases hy with ⟨p,rfl⟩|⟨p,p2,rfl⟩
    ·rfl
    ·rw [p] at q;cases q
    ·rw [p] at q;cases q
    ·rfl
   rw [e]
   exact k
theorem sc_lone_lost:Jjj ["basin","up","hi","ways","lost","numbers"] ["basin","up","hi"] (Jje (top 37)):=⟨rfl,rfl,rfl,by decide +kernel,rfl,by decide +kernel,by decide +kernel⟩
theorem Jv5 (T:Tx K mg a):FnOk P w K mg base (CXX P w) 7 a.Jg2 a.Jg3 ["basin","up","hi"] (Jyv K a):=by
 have G_refuse_no_bounds:=Jrg (P:=P) (w:=w) (base:=base) T
 have G_levels_of:=Jqs (P:=P) (w:=w) (K:=K) (mg:=mg) (base:=base) (CX:=CX0) (k:=6) (f:=a.Jfm) (fd:=a.Jfn) (ps:=["basin"])
 have G_ends_by_setting:=Jqs (P:=P) (w:=w) (K:=K) (mg:=mg) (base:=base) (CX:=CX0) (k:=6) (f:=a.Jfq) (fd:=a.Jfr) (ps:=["basin","up","hi","level"])
 have G_lost_alone:=Jqs (P:=P) (w:=w) (K:=K) (mg:=mg) (base:=base) (CX:=CX0) (k:=6) (f:=a.Jfs) (fd:=a.Jft) (ps:=["ways"])
 have G_bad_by_setting:=Jqs (P:=P) (w:=w) (K:=K) (mg:=mg) (base:=base) (CX:=CX0) (k:=6) (f:=a.Jg4) (fd:=a.Jg5) (ps:=["basin","ways","lost","number"])
 refine T.Ji.fn.okX sc_lone_lost (λvs H Q E h=>?_) (λcdv A outer s H vs Q E hr h=>?_)
 ·obtain ⟨o,up,hi,x,rfl,_⟩:=h
  rfl
 ·obtain ⟨o,up,hi,x,rfl,tu,th,bd,k⟩:=h
  refine ⟨?t,?B,?C⟩
  case B=>
   refine' Jjd ?s1 ?r1
   case s1=>
    exact (Jkv (Jkd T.J9 G_refuse_no_bounds Jkc hr (by decide) (Jj8 (pv 1) (Jj8 (pv 2) Jja))))
   case r1=>
    refine' Jjd ?s3 ?r3
    case s3=>
     exact (Jju (i:=3) sc_lone_lost.nd rfl (yad rfl) (Jk3 (N:=(["level","basin","up","hi"]:List Str)) (ini:=[none,some 0,some 1,some 2]) rfl (Jku (Jjf T.Ja G_levels_of hr (by decide) (Jj8 (pv 0) Jja))) (λ_ _ _ _ _=>(Jjl (i:=0) (by decide +kernel:(["level","basin","up","hi"]:List Str).Nodup) rfl (ye rfl))) (λ_ _ _ _ _=>Jk0) (λ_ _ _ _ _=>(Jjf T.Jc G_ends_by_setting hr (by decide) (pa4 (pv 1) (pv 2) (pv 3) (pv 0))))))
    case r3=>
     refine' Jjd ?s5 ?r5
     case s5=>
      exact (Jju (i:=4) sc_lone_lost.nd rfl (yad rfl) (Jjf T.Jd G_lost_alone hr (by decide) (Jj8 (pv 3) Jja)))
     case r5=>
      refine' Jjd ?s7 ?r7
      case s7=>
       exact (Jm6 (i:=5) (N:=(["number","turns"]:List Str)) (ini:=[none,none]) sc_lone_lost.nd rfl (ye rfl) rfl (Jyq (by rfl) T.Jap (Jj8 (pv 4) Jja)) (λ_ _ _ _ _=>(Jmn (K:=K) (n:=2) rfl rfl (Jka (Jjl (i:=0) (by decide +kernel:(["number","turns"]:List Str).Nodup) rfl (ye rfl)) (Jka (Jjl (i:=1) (by decide +kernel:(["number","turns"]:List Str).Nodup) rfl (ye rfl)) Jm5)))) (λ_ _ _ _ _=>(Jnd (Jk8 Jv6 (pv 1) Jl7 (Jk2 _)))) (λ_ _ _ _ _=>(pv 0)))
      case r7=>
       refine' Jjc ?s9
       case s9=>
        refine' Jjk ?e11_0
        case e11_0=>
         exact (Jk7 (Joz rfl) (by rfl) T.Jao Juh (Jj8 (Jk3 (N:=(["number","basin","lost","ways"]:List Str)) (ini:=[none,some 0,some 4,some 3]) rfl (Jku (pv 5)) (λ_ _ _ _ _=>(Jjl (i:=0) (by decide +kernel:(["number","basin","lost","ways"]:List Str).Nodup) rfl (ye rfl))) (λ_ _ _ _ _=>Jk0) (λ_ _ _ _ _=>(Jk5 (Jj8 (Jjt Jks (Jlb (K:=K) rfl (pv 1) (by rfl)) (pv 0)) (Jj8 (Jk5 (Jj8 (Jjs (Jlz (K:=K) rfl) (pv 2) (pv 0) (λ_ _=>rfl)) (Jj8 (Jjf T.Jj G_bad_by_setting hr (by decide) (pa4 (pv 1) (pv 3) (pv 2) (pv 0))) Jja))) Jja))))) Jja))
  refine ⟨_,rfl,_,rfl,up,hi,rfl,tu,th,λh1 h2=>?_,λy hy=>?_⟩
  ·rcases bd with ⟨q,_⟩|⟨_,q,_⟩
   ·rw [h1] at q;cases q
   ·rw [h2] at q;cases q
  ·have e:y=x:=by
    rcases bd with ⟨q,rfl⟩|⟨q,q2,rfl⟩ <;> rcases hy with ⟨p,rfl⟩|⟨p,p2,rfl⟩
    ·rfl
    ·rw [p] at q;cases q
    ·rw [p] at q;cases q
    ·rfl
   rw [e]
   exact k
def Yda (a:Ad):Sp:=λvs H Q _=>∃(o:Addr) (Bd:BTd) (up hi lv:Int),vs= [.ref o,.int up,.int hi,.int lv]/\H a.Jj5=some (.tbl lb_lost_alone)/\BX a H o Bd/\BGd Bd/\(0<=up/\up<=12)/\(0<=hi/\hi<=12)/\(Bd.lo<=lv/\lv<=Bd.hi)/\
 ∀H',Same H H'->Q ((Jom (Jmi Bd up hi) (yx lv)).getD .non) H'
theorem Jnj:Jjj ["basin","up","hi","level"] ["basin","up","hi","level"] (Jje (top 36)):=⟨rfl,rfl,rfl,by decide +kernel,rfl,by decide +kernel,by decide +kernel⟩
theorem Jrb (T:Tx K mg a) (Bm:Bmn mg base):FnOk P w K mg base (CXX P w) 7 a.Jg0 a.Jg1 ["basin","up","hi","level"] (Yda a):=by
 have G_refuse_no_bounds:=Jrg (P:=P) (w:=w) (base:=base) T
 have G_settings_alone:=Jml (P:=P) (w:=w) T Bm
 have G_is_whole:=Jkl (P:=P) (w:=w) (base:=base) T
 have G_NoNumber___init__:=Jkq (P:=P) (w:=w) (base:=base) T
 refine T.Jh.fn.okX Jnj (λvs H Q E h=>?_) (λcdv A outer s H vs Q E hr h=>?_)
 ·obtain ⟨o,Bd,up,hi,lv,rfl,_⟩:=h
  rfl
 ·obtain ⟨o,Bd,up,hi,lv,rfl,ht,bx,bg,hup,hhi,hlv,k⟩:=h
  obtain ⟨dx,g,ho,gx⟩:=id bx
  have hu64:=Jre hr
  have wu:=Jl9 hup.1 hup.2
  have wh:=Jl9 hhi.1 hhi.2
  refine ⟨?t,?B,?C⟩
  case B=>
   refine' Jjd ?s1 ?r1
   case s1=>
    exact (Jkv (Jkd T.J9 G_refuse_no_bounds Jkc hr (by decide) (Jj8 (pv 1) (Jj8 (pv 2) Jja))))
   case r1=>
    refine' Jjd ?s3 ?r3
    case s3=>
     refine' Jk1 ?c4 ?a4 ?b4
     case c4=>
      exact (Jjy (Jjw (Jjf T.J0 G_is_whole hr (by decide) (Jj8 (pv 3) (Jj8 (Jkh (pv 0) (by rfl)) (Jj8 (Jkh (pv 0) (by rfl)) Jja))))))
     case a4=>
      refine' Jjc ?s5
      case s5=>
       exact (Jke Jkc rfl (Jla T.Jcn G_NoNumber___init__ hr (by decide) T.Jc1.bd T.Jb9 (Jj8 (pv 3) Jja)))
     case b4=>
      exact Jjn
    case r3=>
     refine' Jjc ?s8
     case s8=>
      exact (Jjk (Ju0 hu64 (Jjf T.Je G_settings_alone hr (by decide) (Jj8 (pv 0) (Jj8 (pv 1) (Jj8 (pv 2) Jja)))) (pv 3) ⟨rfl,rfl,rfl,rfl⟩))
  refine ⟨_,rfl,_,rfl,.int up,.int hi,rfl,.inl ⟨_,rfl⟩,.inl ⟨_,rfl⟩,λ_ _=>?_,λx hx=>?_⟩
  ·refine ⟨_,rfl,_,rfl,o,_,dx,_,_,rfl,ho,T.Jd8,T.Jdq,rfl,_,rfl,o,_,dx,_,_,rfl,ho,T.Jd8,T.Jdr,rfl,.int lv,Bd.lo,Bd.hi,rfl,.inl ⟨lv,rfl⟩,_,rfl,ifF (by simp [Jjo];omega) ?_⟩
   refine ⟨_,rfl,_,rfl,_,rfl,o,Bd,up,hi,rfl,ht,bx,bg,hup,λp ob H' sm hp=>⟨p,rfl,.inl ⟨_,.inr ⟨ob,hp⟩⟩,_,rfl,_,.inl ⟨_,yx lv,.inr ⟨ob,hp⟩,rfl,rfl⟩,k _ sm⟩⟩
  ·rcases hx with ⟨q,_⟩|⟨_,q,_⟩
   ·rw [wu] at q;cases q
   ·rw [wh] at q;cases q
theorem Jqm (T:Tx K mg a):FnOk P w K mg base (CXX P w) 7 a.Jg0 a.Jg1 ["basin","up","hi","level"] (Ybd K a):=by
 have G_refuse_no_bounds:=Jrg (P:=P) (w:=w) (base:=base) T
 have G_settings_alone:=Jqs (P:=P) (w:=w) (K:=K) (mg:=mg) (base:=base) (CX:=CX0) (k:=6) (f:=a.Jfu) (fd:=a.Jfv) (ps:=["basin","up","hi"])
 have G_is_whole:=Jkl (P:=P) (w:=w) (base:=base) T
 have G_NoNumber___init__:=Jkq (P:=P) (w:=w) (base:=base) T
 refine T.Jh.fn.okX Jnj (λvs H Q E h=>?_) (λcdv A outer s H vs Q E hr h=>?_)
 ·obtain ⟨o,up,hi,lv,x,Bd,rfl,_⟩:=h
  rfl
 ·obtain ⟨o,up,hi,lv,x,Bd,rfl,bx,tu,th,tl,bd,k⟩:=h
  obtain ⟨dx,g,ho,gx⟩:=id bx
  have hu64:=Jre hr
  refine ⟨?t,?B,?C⟩
  case B=>
   refine' Jjd ?s1 ?r1
   case s1=>
    exact (Jkv (Jkd T.J9 G_refuse_no_bounds Jkc hr (by decide) (Jj8 (pv 1) (Jj8 (pv 2) Jja))))
   case r1=>
    refine' Jjd ?s3 ?r3
    case s3=>
     refine' Jk1 ?c4 ?a4 ?b4
     case c4=>
      exact (Jjy (Jjw (Jjf T.J0 G_is_whole hr (by decide) (Jj8 (pv 3) (Jj8 (Jkh (pv 0) (by rfl)) (Jj8 (Jkh (pv 0) (by rfl)) Jja))))))
     case a4=>
      refine' Jjc ?s5
      case s5=>
       exact (Jke Jkc rfl (Jla T.Jcn G_NoNumber___init__ hr (by decide) T.Jc1.bd T.Jb9 (Jj8 (pv 3) Jja)))
     case b4=>
      exact Jjn
    case r3=>
     refine' Jjc ?s8
     case s8=>
      exact (Jjk (Ju0 hu64 (Jjf T.Je G_settings_alone hr (by decide) (Jj8 (pv 0) (Jj8 (pv 1) (Jj8 (pv 2) Jja)))) (pv 3) ⟨rfl,rfl,rfl,rfl⟩))
  refine ⟨_,rfl,_,rfl,up,hi,rfl,tu,th,λh1 h2=>?_,λy hy=>?_⟩
  ·have q:Jjo lv Bd.lo Bd.hi=false/\x=lv:=by
    rcases bd with (⟨q,_⟩|⟨_,q,_⟩)|⟨_,_,q⟩
    ·rw [h1] at q;cases q
    ·rw [h2] at q;cases q
    ·exact q
   obtain ⟨q,rfl⟩:=q
   refine ⟨_,rfl,_,rfl,o,_,dx,_,_,rfl,ho,T.Jd8,T.Jdq,rfl,_,rfl,o,_,dx,_,_,rfl,ho,T.Jd8,T.Jdr,rfl,x,Bd.lo,Bd.hi,rfl,tl,_,rfl,?_⟩
   rw [q]
   exact Jl4 (Jlg T.Jcn T.Jdk rfl λe dx h1 h2 h3=>k _ _ _ (RfC.new h1 h2 h3))
  ·have e:y=x:=by
    rcases bd with (⟨q,rfl⟩|⟨q,q2,rfl⟩)|⟨q,q2,_⟩ <;> rcases hy with ⟨p,rfl⟩|⟨p,p2,rfl⟩
    ·rfl
    ·rw [p] at q;cases q
    ·rw [p] at q;cases q
    ·rfl
    ·rw [p] at q;cases q
    ·rw [p2] at q2;cases q2
   rw [e]
   exact k
def RivAt (a:Ad) (H:Hp) (r:Addr) (Bs:List BTd) (c g:Int):Prop:=∃(dx b t:Addr) (os:List Addr),H r=some (.ins a.Jj3 dx (Jxu (.int c) (.int g) (.ref b) (.ref t)))/\H b=some (.tup (os.map V.ref))/\Paired (λo B=>BX a H o B) os Bs
theorem RivAt.same {a:Ad} {H H':Hp} {r:Addr} {Bs:List BTd} {c g:Int} (s:Same H H') (h:RivAt a H r Bs c g):RivAt a H' r Bs c g:=by
 obtain ⟨dx,b,t,os,h1,h2,h3⟩:=h
 exact ⟨dx,b,t,os,s _ _ h1,s _ _ h2,Paired.mapP h3 λ_ _ q=>q.same s⟩
structure RGd (Bs:List BTd):Prop where
 len:1<=Bs.length/\Bs.length<=16
 all:∀B∈Bs,TGd B
def Ybl (B:BTd) (up hi:Int):Bool:=Jno B up hi (B.st - B.lo).toNat
theorem Yc (f:Nat->Int) (lo:Int) (n:Nat):∀ns:List Nat,Jom (ns.map λm:Nat=>((yx (lo+m):Key),V.int (f m))) (yx (lo+n))=if n∈ns then some (.int (f n)) else none:=by
 intro ns
 induction ns with
 |nil=>rfl
 |cons m ns ih=>
  rw [ybb]
  by_cases c:m=n
  ·subst c
   rw [Jss rfl,if_pos (yaq ..)]
  ·have nin:n∈m::ns↔n∈ns:=⟨λz=>(ym.mp z).elim (λh=>absurd h.symm c) id,yak _⟩
   rw [Jsr (λz=>c (by have:=yx.inj z;omega)),ih]
   by_cases d:n∈ns
   ·rw [if_pos d,if_pos (nin.mpr d)]
   ·rw [if_neg d,if_neg λz=>d (nin.mp z)]
theorem Jnk:Jjj ["self","basin"] ["self","basin"] (Jje (Jjr (top 11) 0)):=⟨rfl,rfl,rfl,by decide +kernel,rfl,by decide +kernel,by decide +kernel⟩
theorem Jps (T:Tx K mg a):FnOk P w K mg base CX0 1 a.Jf0 a.Jf1 ["self","basin"] (Jmw K "basin"):=by
 refine T.Jc2.fn.ok Jnk (λvs H Q E h=>?_) (λcdv A outer s H vs Q E hr h=>?_)
 ·obtain ⟨e,C,W,fI,y,rfl,_⟩:=h
  rfl
 ·obtain ⟨e,C,W,fI,y,rfl,q,c,n,k⟩:=h
  refine ⟨_,(Jjc (Jmo (pv 0) (pv 1) rfl)),?_⟩
  exact ⟨_,rfl,_,rfl,e,C,W,fI,true,rfl,q,c,n,k⟩
def Jmj (ns:List Int):List Int:=0::ns.dropLast
def Jz4 (Bs:List BTd) (ns:List Int):Bool:=(yu Bs.length).all λi=>match Bs[i]? with
 |some B=>Ybl B ((Jmj ns).getD i 0) (ns.getD i 0)
 |none=>true
def Jr3 (B:BTd) (up hi l:Int):Bool:=Jno B up hi (l - B.lo).toNat
def Jrr (Bs:List BTd) (ns ls:List Int):Bool:=(yu Bs.length).all λi=>match Bs[i]? with
 |some B=>Jr3 B ((Jmj ns).getD i 0) (ns.getD i 0) (ls.getD i 0)
 |none=>true
theorem Yad {B:BTd} {l:Int} (h:B.lo<=l/\l<=B.hi) (up hi:Int):Jom (Jmi B up hi) (yx l)=if Jr3 B up hi l=true then some (.int (Jl3 B up hi (l - B.lo).toNat)) else none:=by
 have e:l=B.lo+((l - B.lo).toNat:Int):=by omega
 have q:=Yc (Jl3 B up hi) B.lo (l - B.lo).toNat (Jn0 B up hi)
 rw [<-e] at q
 unfold Jmi
 rw [q]
 unfold Jr3
 cases hc:Jno B up hi (l - B.lo).toNat with
 |true=>
  have hm:(l - B.lo).toNat∈Jn0 B up hi:=ybl.mpr ⟨yaj.mpr (by unfold nLv;omega),hc⟩
  rw [if_pos hm,if_pos rfl]
 |false=>
  have hm:¬(l - B.lo).toNat∈Jn0 B up hi:=λz=>by
   have q:=(ybl.mp z).2
   rw [hc] at q
   cases q
  rw [if_neg hm,if_neg yw]
def LvG (Bs:List BTd) (ls:List Int):Prop:=ls.length=Bs.length/\∀(i:Nat) B l,Bs[i]?=some B->ls[i]?=some l->B.lo<=l/\l<=B.hi
theorem LvG.start {Bs:List BTd} (h:∀B∈Bs,TGd B):LvG Bs (Bs.map (·.st)):=⟨by simp,λi B l hB hl=>by
 rw [yp,hB] at hl
 cases hl
 exact (h B (yae hB)).st⟩
theorem Jmc (Bs:List BTd) (ns:List Int):Jrr Bs ns (Bs.map (·.st))=Jz4 Bs ns:=by
 unfold Jrr Jz4
 rw [ybi,yar,yar]
 refine forall_congr' λi=>forall_congr' λ_=>?_
 cases hB:Bs[i]? with
 |none=>exact Iff.rfl
 |some B=>
  have e:(Bs.map (·.st)).getD i 0=B.st:=by rw [yao,yp,hB];rfl
  show Jr3 B _ _ ((Bs.map (·.st)).getD i 0)=true↔Ybl B _ _=true
  rw [e]
  exact Iff.rfl
def NGd (n:Nat) (ns:List Int):Prop:=ns.length=n/\∀x∈ns,0<=x/\x<=12
theorem Ybv {n:Nat} {ns:List Int} (h:NGd n ns) (hn:1<=n):(Jmj ns).length=n:=by
 have:=h.1
 unfold Jmj
 rw [ybj,List.length_dropLast]
 omega
theorem Ydk {n:Nat} {ns:List Int} (h:NGd n ns):∀x∈Jmj ns,0<=x/\x<=12:=by
 intro x hx
 unfold Jmj at hx
 rcases ym.mp hx with rfl|hx
 ·decide
 ·exact h.2 x ((List.dropLast_sublist _).subset hx)
def DctAt (H:Hp) (B:BTd) (up hi:Int) (p:Addr):Prop:=∃ob,H p=some (.frz ob (.dK (Jmi B up hi)))
theorem DctAt.same {H H':Hp} {B:BTd} {up hi:Int} {p:Addr} (s:Same H H') (h:DctAt H B up hi p):DctAt H' B up hi p:=by obtain ⟨ob,e⟩:=h;exact ⟨ob,s _ _ e⟩
def Yd1 (a:Ad):Sp:=λvs H Q _=>∃(r:Addr) (Bs:List BTd) (c g:Int),vs= [.ref r]/\RivAt a H r Bs c g/\Bs.length<=16/\∀(t s:Addr) (H':Hp),Same H H'->H' t=some (.tup [.ref s,.int c])->H' s=some (.tup ((Bs.map (·.st)).map V.int))->Q (.ref t) H'
def spNums (a:Ad):Sp:=λvs H Q _=>∃(r l:Addr) (Bs:List BTd) (c g:Int) (ns:List Int),vs= [.ref r,.ref l]/\RivAt a H r Bs c g/\H l=some (.lst (ns.map V.int))/\NGd Bs.length ns/\Bs.length<=16/\∀H',Same H H'->Q (.bl true) H'
def Ybg (a:Ad):Sp:=λvs H Q _=>∃(r l:Addr) (Bs:List BTd) (c g:Int) (ns:List Int),vs= [.ref r,.ref l]/\H a.Jj5=some (.tbl lb_lost_alone)/\RivAt a H r Bs c g/\RGd Bs/\H l=some (.lst (ns.map V.int))/\NGd Bs.length ns/\
 ∀(d:Addr) (ps:List Addr) (H':Hp),Same H H'->H' d=some (.lst (ps.map V.ref))->ps.length=Bs.length->(∀(i:Nat) B p,Bs[i]?=some B->ps[i]?=some p->DctAt H' B ((Jmj ns).getD i 0) (ns.getD i 0) p)->Q (.ref d) H'
def Yb8:Sp:=λvs H Q _=>∃(s d:Addr) (Bs:List BTd) (ns ls:List Int) (ps:List Addr),vs= [.ref s,.ref d]/\H s=some (.tup (ls.map V.int))/\LvG Bs ls/\H d=some (.lst (ps.map V.ref))/\RGd Bs/\ps.length=Bs.length/\(∀(i:Nat) B p,Bs[i]?=some B->ps[i]?=some p->DctAt H B ((Jmj ns).getD i 0) (ns.getD i 0) p)/\
 (Jrr Bs ns ls=true->∀H',Same H H'->Q .non H')/\(Jrr Bs ns ls=false->∀(i:Nat) H',i < Bs.length->Same H H'->Q (.int (i:Int)) H')
def spAreP (a:Ad):Sp:=λvs H Q _=>∃(r l:Addr) (Bs:List BTd) (c g:Int) (ns:List Int),vs= [.ref r,.ref l]/\H a.Jj5=some (.tbl lb_lost_alone)/\RivAt a H r Bs c g/\RGd Bs/\H l=some (.lst (ns.map V.int))/\NGd Bs.length ns/\∀H',Same H H'->Q (.bl (Jz4 Bs ns)) H'
theorem Ybs {i j k:Nat} {T:Addr} {x y z:V} {σ:L2.St} {H:Hp} {A B:L2.St->Hp->Prop} (hT:SqT K H T [x,y,z]) (h:A (((σ.set i (some x)).set j (some y)).set k (some z)) H):
  gTup K 3 (Jtm (Jnf i) (Jtm (Jnf j) (Jtm (Jnf k) gNil))) (.ref T) σ H λσ3 H3=>Y5 σ3 H3 λb H4=>if b=true then A σ3 H4 else B σ3 H4:=by
 refine ⟨T,_,rfl,hT,rfl,_,_,rfl,_,_,rfl,_,_,rfl,rfl,?_⟩
 show if true=true then A (((σ.set i (some x)).set j (some y)).set k (some z)) H else B (((σ.set i (some x)).set j (some y)).set k (some z)) H
 rw [if_pos rfl]
 exact h
theorem Jpg:Jjj ["self"] ["self"] (Jje (Jjr (top 70) 2)):=⟨rfl,rfl,rfl,by decide +kernel,rfl,by decide +kernel,by decide +kernel⟩
theorem Jmf (T:Tx K mg a):FnOk P w K mg base CX0 1 a.Jhi a.Jhj ["self"] (Yd1 a):=by
 refine T.Jcf.fn.ok Jpg (λvs H Q E h=>?_) (λcdv A outer s H vs Q E hr h=>?_)
 ·obtain ⟨r,Bs,c,g,rfl,_⟩:=h
  rfl
 ·obtain ⟨r,Bs,c,g,rfl,rv,l16,k⟩:=h
  obtain ⟨dx,b,t,os,hr0,hb,pr⟩:=id rv
  have len:=Paired.length pr
  refine ⟨?t,?B,?C⟩
  case B=>
   refine' Jjc ?s1
   case s1=>
    exact (Jjk (Jk5 (Jj8 (Jk7 Jl2 (by rfl) T.Jb0 Jky (Jj8 (Jk3 (N:=(["basin"]:List Str)) (ini:=[none]) rfl (Jsc (Jkh (pv 0) (by rfl))) (λ_ _ _ _ _=>(Jjl (i:=0) (by decide +kernel:(["basin"]:List Str).Nodup) rfl (ye rfl))) (λ_ _ _ _ _=>Jk0) (λ_ _ _ _ _=>(Jlb (K:=K) rfl (pv 0) (by rfl)))) Jja)) (Jj8 (Jkh (pv 0) (by rfl)) Jja))))
  refine ⟨_,rfl,r,_,dx,_,_,rfl,hr0,T.Jdd,T.Jdz,rfl,b,rfl,⟨_,SqT.of hb⟩,λD hD=>?_⟩
  refine Jmz ((Bs.map (·.st)).map V.int) hD (by simp [len]) (by simp;omega) hb ?_ ?_
  ·intro i x y H' Q' hx hy sm k'
   rw [yp] at hx
   obtain ⟨o,ho,rfl⟩:=yag.mp hx
   obtain ⟨B,hB,bx⟩:=Jkt pr ho
   rw [yp,yp,hB] at hy
   cases hy
   obtain ⟨dx',g,h1,_⟩:=bx.same sm
   exact ⟨_,rfl,o,_,dx',_,_,rfl,h1,T.Jd8,T.Jds,rfl,k' _ (Same.refl _)⟩
  intro H1 s1 hD1
  refine ⟨D,_,rfl,.inl ⟨SqL.of hD1,λS hS=>?_⟩⟩
  have s2:=Same.upd (o:=.tup ((Bs.map (·.st)).map V.int)) hS
  refine ⟨_,rfl,r,_,dx,_,_,rfl,s2 _ _ (s1 _ _ hr0),T.Jdd,T.Jdx,rfl,(show 2<=sizeLine by decide),λT1 hT1=>?_⟩
  exact k T1 S _ ((s1.trans s2).trans (Same.upd hT1)) Jj9 (Same.upd hT1 _ _ Jj9)
theorem Jo7:Jjj ["river","thing"] ["river","thing"] (Jje (top 40)):=⟨rfl,rfl,rfl,by decide +kernel,rfl,by decide +kernel,by decide +kernel⟩
theorem Jnv (T:Tx K mg a):FnOk P w K mg base CX0 3 a.Jg6 a.Jg7 ["river","thing"] (spNums a):=by
 have G_is_promised:=Jmg (P:=P) (w:=w) (base:=base) T
 refine T.Jk.fn.ok Jo7 (λvs H Q E h=>?_) (λcdv A outer s H vs Q E hr h=>?_)
 ·obtain ⟨r,l,Bs,c,g,ns,rfl,_⟩:=h
  rfl
 ·obtain ⟨r,l,Bs,c,g,ns,rfl,rv,hl,ng,l16,k⟩:=h
  obtain ⟨dx,b,t,os,hr0,hb,pr⟩:=id rv
  have len:=Paired.length pr
  have nl:=ng.1
  refine ⟨?t,?B,?C⟩
  case B=>
   refine' Jjd ?s1 ?r1
   case s1=>
    refine' Jk1 ?c2 ?a2 ?b2
    case c2=>
     exact (PW.pt (Jov (Jjy (Jjw (Jji Jkr (by rfl) T.Jar Jjp (Jj8 (pv 1) (Jj8 (Jl0 (v:=.ty "list") (by rfl) T.Jat Jn5 rfl) Jja))))) (Jmv (Jk8 Jyo (Jji Jjq (by rfl) T.Jas Jko (Jj8 (pv 1) Jja)) (Jji Jjq (by rfl) T.Jas Jko (Jj8 (Jkh (pv 0) (by rfl)) Jja)) (Jk2 _)))))
    case a2=>
     refine' Jjc ?s3
     case s3=>
      exact (Jjk Jkn)
    case b2=>
     exact Jjn
   case r1=>
    refine' Jjc ?s7
    case s7=>
     exact (Jjk (Jji (Jlk rfl) (by rfl) T.Jal Jn4 (Jj8 (Jk3 (N:=(["number"]:List Str)) (ini:=[none]) rfl (Jku (pv 1)) (λ_ _ _ _ _=>(Jjl (i:=0) (by decide +kernel:(["number"]:List Str).Nodup) rfl (ye rfl))) (λ_ _ _ _ _=>Jk0) (λ_ _ _ _ _=>(Jjf T.J8 G_is_promised hr (by decide) (Jj8 (pv 0) Jja)))) Jja)))
  refine ⟨_,rfl,_,_,_,.type "list",true,rfl,rfl,.of (.lst hl),rfl,_,rfl,Jkp ?_⟩
  refine ⟨_,rfl,l,_,rfl,.inl (SqL.of hl),_,rfl,r,_,dx,_,_,rfl,hr0,T.Jdd,T.Jdz,rfl,b,_,rfl,.inr (SqT.of hb),rfl,_,rfl,ifF ?_ ?_⟩
  ·rw [yf,yf,nl,len]
   simp
  refine ⟨_,rfl,l,rfl,⟨_,SqL.of hl⟩,λD hD=>?_⟩
  refine Jn8 ((yat ns.length true).map V.bl) hD (by simp) (by simp;omega) hl ?_ ?_
  ·intro i x y H' Q' hx hy sm k'
   rw [yp] at hx
   obtain ⟨n,hn,rfl⟩:=yag.mp hx
   have il:i < ns.length:=(yv.mp hn).1
   have ey:y= .bl true:=by
    rw [yp,List.getElem?_replicate,if_pos il] at hy
    exact (yy.inj hy).symm
   subst ey
   have hb':=ng.2 n (yae hn)
   refine ⟨_,rfl,.int n,rfl,.inl ⟨n,rfl⟩,?_⟩
   rw [Jl9 hb'.1 hb'.2]
   exact k' _ (Same.refl _)
  intro H1 s1 hD1
  refine ⟨D,_,rfl,SqL.of hD1,?_⟩
  rw [show (yat ns.length true).all id=true by simp]
  exact k _ s1
theorem sc_settings_by:Jjj ["river","numbers","ups"] ["river","numbers"] (Jje (top 41)):=⟨rfl,rfl,rfl,by decide +kernel,rfl,by decide +kernel,by decide +kernel⟩
theorem Jnx (T:Tx K mg a) (Bm:Bmn mg base):FnOk P w K mg base CX0 7 a.Jg8 a.Jg9 ["river","numbers"] (Ybg a):=by
 have G_settings_alone:=Jml (P:=P) (w:=w) T Bm
 refine T.Jl.fn.ok sc_settings_by (λvs H Q E h=>?_) (λcdv A outer s H vs Q E hr h=>?_)
 ·obtain ⟨r,l,Bs,c,g,ns,rfl,_⟩:=h
  rfl
 ·obtain ⟨r,l,Bs,c,g,ns,rfl,ht,rv,rg,hl,ng,k⟩:=h
  obtain ⟨dx,b,t,os,hr0,hb,pr⟩:=id rv
  have len:=Paired.length pr
  have l16:=rg.len
  have nl:=ng.1
  have ul:=Ybv ng l16.1
  refine ⟨?t,?B,?C⟩
  case B=>
   refine' Jjd ?s1 ?r1
   case s1=>
    exact (Jju (i:=2) sc_settings_by.nd rfl (ye rfl) (Jjt Js8 (Jki (Jj8 Jjb Jja)) (Jnz Jq3 (pv 1) Jpw (Jpx (Ju2 Jqr Jjb)))))
   case r1=>
    refine' Jjc ?s3
    case s3=>
     exact (Jjk (Jk3 (N:=(["basin","up","hi"]:List Str)) (ini:=[none,none,none]) rfl (Jv8 true false false (by rfl) T.Jb1 (Jj8 (Jkh (pv 0) (by rfl)) (Jj8 (pv 2) (Jj8 (pv 1) Jja)))) (λ_ _ _ _ _=>(Jmn (K:=K) (n:=3) rfl rfl (Jka (Jjl (i:=0) (by decide +kernel:(["basin","up","hi"]:List Str).Nodup) rfl (ye rfl)) (Jka (Jjl (i:=1) (by decide +kernel:(["basin","up","hi"]:List Str).Nodup) rfl (ye rfl)) (Jka (Jjl (i:=2) (by decide +kernel:(["basin","up","hi"]:List Str).Nodup) rfl (ye rfl)) Jm5))))) (λ_ _ _ _ _=>Jk0) (λ_ _ _ _ _=>(Jjf T.Je G_settings_alone hr (by decide) (Jj8 (pv 0) (Jj8 (pv 1) (Jj8 (pv 2) Jja)))))))
  refine ⟨(show 1<=sizeLine by decide),λz hz=>?_⟩
  have s1:=Same.upd (o:=.lst [.int 0]) hz
  refine ⟨_,rfl,_,rfl,_,rfl,l,_,rfl,SqL.of (s1 _ _ hl),λz2 hz2=>?_⟩
  have s2:=Same.upd (o:=.lst (Jll (ns.map V.int) none (some (-1)))) hz2
  have ec:Jll (ns.map V.int) none (some (-1))=ns.dropLast.map V.int:=by
   unfold Jll
   rw [HT.sIx_none,yf]
   show ((ns.map V.int).drop 0).take (((-1:Int)+(ns.length:Int)).toNat - 0)=_
   rw [List.drop_zero,List.dropLast_eq_take,List.map_take]
   congr 1
   omega
  refine ⟨z,z2,_,_,rfl,rfl,s2 _ _ Jj9,Jj9,?_,λU hU=>?_⟩
  ·rw [ec]
   simp
   exact yap (Jjx (by omega))
  have s3:=(s1.trans s2).trans (Same.upd (o:=.lst ([.int 0]++Jll (ns.map V.int) none (some (-1)))) hU)
  have hU':(upd (upd (upd H z (.lst [.int 0])) z2 (.lst (Jll (ns.map V.int) none (some (-1))))) U (.lst ([.int 0]++Jll (ns.map V.int) none (some (-1))))) U=some (.lst ((Jmj ns).map V.int)):=by
   rw [Jj9,ec]
   rfl
  generalize upd (upd (upd H z (.lst [.int 0])) z2 (.lst (Jll (ns.map V.int) none (some (-1))))) U (.lst ([.int 0]++Jll (ns.map V.int) none (some (-1))))=H3 at s3 hU'
  refine ⟨_,rfl,r,_,dx,_,_,rfl,s3 _ _ hr0,T.Jdd,T.Jdz,rfl,_,rfl,_,rfl,b,U,l,rfl,⟨_,SqT.of (s3 _ _ hb)⟩,⟨_,SqL.of hU'⟩,⟨_,SqL.of (s3 _ _ hl)⟩,λD hD=>?_⟩
  refine Jqd (K:=K) (xs:=os.map V.ref) (ys:=(Jmj ns).map V.int) (us:=ns.map V.int) (λi σ H'=>(∃o1 o2 o3,σ= [o1,o2,o3])/\Same H3 H'/\∃ps:List Addr,H' D=some (.lst (ps.map V.ref))/\ps.length=i/\∀(j:Nat) B p,Bs[j]?=some B->ps[j]?=some p->DctAt H' B ((Jmj ns).getD j 0) (ns.getD j 0) p) ⟨⟨_,_,_,rfl⟩,Same.upd hD,[],Jj9,rfl,λj B p _ h=>by simp at h⟩ (λi σ H' _ ⟨_,sm,_⟩=>⟨SqT.of (sm _ _ (s3 _ _ hb)),SqL.of (sm _ _ hU'),SqL.of (sm _ _ (s3 _ _ hl))⟩) (by simp;omega) (by simp;omega) ?_ ?_
  ·rintro i x y u σ H' T1 hx hy hu ⟨⟨o1,o2,o3,rfl⟩,sm,ps,hDs,hpl,hps⟩ hT
   rw [yp] at hx hy hu
   obtain ⟨o,ho,rfl⟩:=yag.mp hx
   obtain ⟨up,hup,rfl⟩:=yag.mp hy
   obtain ⟨hi,hhi,rfl⟩:=yag.mp hu
   obtain ⟨B,hB,bx⟩:=Jkt pr ho
   have il:i < Bs.length:=(yv.mp hB).1
   have tg:=rg.all B (yae hB)
   have sT:=Same.upd (o:=.tup [.ref o,.int up,.int hi]) hT
   have s4:=(s3.trans sm).trans sT
   have b1:=Ydk ng up (yae hup)
   refine Ybs (SqT.of Jj9) ⟨_,rfl,_,rfl,_,rfl,o,B,up,hi,rfl,s4 _ _ ht,bx.same s4,tg.b,b1,λp ob H5 s5 hp=>?_⟩
   have hD5:=s5 _ _ (sT _ _ hDs)
   have npD:∀{q:Addr} {ob:Obj} {kvs:List (Key×V)},H5 q=some (.frz ob (.dK kvs))->q≠D:=λh z=>by rw [z,hD5] at h;cases h
   refine ⟨_,hD5,?_,⟨_,_,_,rfl⟩,?_,ps++ [p],?_,?_,?_⟩
   ·rw [yf]
    exact Jjx (by omega)
   ·intro c2 o' z'
    rw [Jjg (Jjh z' hD)]
    exact s5 _ _ (sT _ _ (sm _ _ z'))
   ·rw [Jj9,yab]
    rfl
   ·rw [yay,hpl]
    rfl
   ·intro j B' p' hB' hp'
    by_cases cj:j < ps.length
    ·rw [yck cj] at hp'
     obtain ⟨ob',e'⟩:=hps j B' p' hB' hp'
     have e5:=s5 _ _ (sT _ _ e')
     exact ⟨ob',by rw [Jjg (npD e5)];exact e5⟩
    ·have jl:=(yv.mp hp').1
     rw [yay] at jl
     have ej:j=i:=by simp at jl;omega
     subst ej
     rw [ycj (by omega),show j - ps.length=0 by omega] at hp'
     have ep:p'=p:=by simpa using hp'.symm
     subst ep
     rw [hB] at hB'
     cases hB'
     have e1:(Jmj ns).getD j 0=up:=by rw [yao,hup];rfl
     have e2:ns.getD j 0=hi:=by rw [yao,hhi];rfl
     rw [e1,e2]
     exact ⟨ob,by rw [Jjg (npD hp)];exact hp⟩
  ·rintro σ H' ⟨_,sm,ps,hDs,hpl,hps⟩
   exact k D ps H' (s3.trans sm) hDs (by rw [hpl,yf,len]) hps
theorem sc_first_lost:Jjj ["levels","by_basin","place","level"] ["levels","by_basin"] (Jje (top 42)):=⟨rfl,rfl,rfl,by decide +kernel,rfl,by decide +kernel,by decide +kernel⟩
theorem Jmt (T:Tx K mg a):FnOk P w K mg base CX0 1 a.Jga a.Jgb ["levels","by_basin"] Yb8:=by
 refine T.Jm.fn.ok sc_first_lost (λvs H Q E h=>?_) (λcdv A outer s H vs Q E hr h=>?_)
 ·obtain ⟨s',d,Bs,ns,ls,ps,rfl,_⟩:=h
  rfl
 ·obtain ⟨s',d,Bs,ns,ls,ps,rfl,hs,lg,hd,rg,hpl,hps,k1,k2⟩:=h
  have hu64:=Jre hr
  have l16:=rg.len
  have ll:=lg.1
  refine ⟨?t,?B,?C⟩
  case B=>
   refine' Jjd ?s1 ?r1
   case s1=>
    refine' Jpa ?f2_0 ?f2_1 ?f2_2 ?f2_3 ?f2_4
    case f2_0=>
     exact PassesOwn.never
    case f2_1=>
     exact rfl
    case f2_2=>
     exact (Yar (by rfl) T.Jap (Jj8 (pv 0) Jja))
    case f2_3=>
     exact (Yap rfl (Jka (Jjl (i:=2) sc_first_lost.nd rfl (ye rfl)) (Jka (Jjl (i:=3) sc_first_lost.nd rfl (ye rfl)) Jm5)))
    case f2_4=>
     refine' Jjc ?s3
     case s3=>
      refine' Jk1 ?c4 ?a4 ?b4
      case c4=>
       exact (Jk8 (Jt5 hu64) (pv 3) (Jjs Jjz (pv 1) (pv 2) (λ_ _=>rfl)) (by with_unfolding_all rfl))
      case a4=>
       refine' Jjc ?s5
       case s5=>
        exact (Jjk (pv 2))
      case b4=>
       exact Jjn
   case r1=>
    refine' Jjc ?s9
    case s9=>
     exact (Jjk Jl7)
  refine ⟨_,rfl,s',rfl,⟨_,SqT.of hs⟩,?_⟩
  refine Ya4 (K:=K) (a:=s') (xs:=ls.map V.int) (λi σ H'=>(∃o2 o3,σ= [some (.ref s'),some (.ref d),o2,o3])/\Same H H'/\∀(j:Nat) B,j < i->Bs[j]?=some B->Jr3 B ((Jmj ns).getD j 0) (ns.getD j 0) (ls.getD j 0)=true) ⟨⟨_,_,rfl⟩,Same.refl _,λj B h=>absurd h (Nat.not_lt_zero _)⟩ (λi σ H' _ ⟨_,sm,_⟩=>SqT.of (sm _ _ hs)) ?_ ?_
  ·rintro i x σ H' T1 hx ⟨⟨o2,o3,rfl⟩,sm,all⟩ hT
   rw [yp] at hx
   obtain ⟨v,hv,rfl⟩:=yag.mp hx
   have il:i < ls.length:=(yv.mp hv).1
   have hB:Bs[i]?=some (Bs[i]'(by omega)):=yn _
   generalize Bs[i]'(by omega)=B at hB
   have rb:=lg.2 i B v hB hv
   have ev:ls.getD i 0=v:=by rw [yao,hv];rfl
   have sT:=Same.upd (o:=.tup [.int i,.int v]) hT
   have s1:=sm.trans sT
   have hp:ps[i]?=some (ps[i]'(by omega)):=yn _
   obtain ⟨ob,e⟩:=hps i B _ hB hp
   refine ⟨T1,_,rfl,SqT.of Jj9,rfl,_,_,rfl,_,_,rfl,rfl,?_⟩
   refine ⟨_,rfl,_,rfl,_,rfl,d,_,(i:Int),_,rfl,rfl,SqL.of (s1 _ _ hd),Jl6 (j:=i) (by rw [yp,hp];rfl),_,_,rfl,.inl ⟨_,yx v,.inr ⟨ob,s1 _ _ e⟩,rfl,rfl⟩,_,rfl,?_⟩
   rw [Yad rb]
   cases hc:Jr3 B ((Jmj ns).getD i 0) (ns.getD i 0) v with
   |false=>
    rw [if_neg yw]
    refine Jl4 ⟨_,rfl,k2 ?_ i _ (by omega) s1⟩
    unfold Jrr
    rw [List.all_eq_false]
    refine ⟨i,yaj.mpr (by omega),?_⟩
    rw [hB]
    show ¬(Jr3 B ((Jmj ns).getD i 0) (ns.getD i 0) (ls.getD i 0)=true)
    rw [ev,hc]
    decide
   |true=>
    rw [if_pos rfl]
    refine Jkp ⟨⟨_,_,rfl⟩,s1,λj B' hj hB'=>?_⟩
    by_cases cj:j < i
    ·exact all j B' cj hB'
    ·have:j=i:=by omega
     subst this
     rw [hB] at hB'
     cases hB'
     rw [ev]
     exact hc
  ·rintro σ H' ⟨_,sm,all⟩
   refine k1 ?_ _ sm
   unfold Jrr
   rw [yar]
   intro i hi
   have il:=yaj.mp hi
   cases hB:Bs[i]? with
   |none=>rfl
   |some B=>exact all i B (by simp;omega) hB
theorem Jni:Jjj ["river","numbers"] ["river","numbers"] (Jje (top 43)):=⟨rfl,rfl,rfl,by decide +kernel,rfl,by decide +kernel,by decide +kernel⟩
theorem Jr8 (T:Tx K mg a) (Bm:Bmn mg base):FnOk P w K mg base CX0 8 a.Jgc a.Jgd ["river","numbers"] (spAreP a):=by
 have G_are_numbers:=Jnv (P:=P) (w:=w) (base:=base) T
 have G_settings_by:=Jnx (P:=P) (w:=w) T Bm
 have G_first_lost:=Jmt (P:=P) (w:=w) (base:=base) T
 refine T.Jn.fn.ok Jni (λvs H Q E h=>?_) (λcdv A outer s H vs Q E hr h=>?_)
 ·obtain ⟨r,l,Bs,c,g,ns,rfl,_⟩:=h
  rfl
 ·obtain ⟨r,l,Bs,c,g,ns,rfl,ht,rv,rg,hl,ng,k⟩:=h
  have l16:=rg.len
  refine ⟨?t,?B,?C⟩
  case B=>
   refine' Jjd ?s1 ?r1
   case s1=>
    refine' Jk1 ?c2 ?a2 ?b2
    case c2=>
     exact (Jjy (Jjw (Jjf T.Jk G_are_numbers hr (by decide) (Jj8 (pv 0) (Jj8 (pv 1) Jja)))))
    case a2=>
     refine' Jjc ?s3
     case s3=>
      exact (Jjk Jkn)
    case b2=>
     exact Jjn
   case r1=>
    refine' Jjc ?s7
    case s7=>
     exact (Jjk (Jl1 Jsa (Jjf T.Jm G_first_lost hr (by decide) (Jj8 (Jjs Jkg (Jm9 (pv 0) hr) Jjb (λ_ _=>rfl)) (Jj8 (Jjf T.Jl G_settings_by hr (by decide) (Jj8 (pv 0) (Jj8 (pv 1) Jja))) Jja))) Jl7 (Jk2 _)))
  refine ⟨_,rfl,_,rfl,r,l,Bs,c,g,ns,rfl,rv,hl,ng,l16.2,λH1 s1=>⟨_,rfl,Jkp ?_⟩⟩
  obtain ⟨dx,b,t,os,hr0,hb,pr⟩:=id (rv.same s1)
  refine ⟨_,rfl,r,_,dx,_,_,_,_,_,1,rfl,hr0,rfl,T.Jdd,T.Jdf,Jmf T,by decide,T.Jcf.bd,r,Bs,c,g,rfl,rv.same s1,l16.2,λt1 S H2 s2 ht1 hS=>?_⟩
  have s12:=s1.trans s2
  refine ⟨t1,_,0,_,rfl,rfl,SqT.of ht1,rfl,_,rfl,_,rfl,r,l,Bs,c,g,ns,rfl,s12 _ _ ht,rv.same s12,rg,s12 _ _ hl,ng,λd ps H3 s3 hd hpl hps=>?_⟩
  have s13:=s12.trans s3
  refine ⟨S,d,Bs,ns,_,ps,rfl,s3 _ _ hS,LvG.start rg.all,hd,rg,hpl,hps,λe H4 s4=>⟨rfl,?_⟩,λe i H4 _ s4=>⟨rfl,?_⟩⟩
  ·have q:=k _ (s13.trans s4)
   rw [<-Jmc,e] at q
   exact q
  ·have q:=k _ (s13.trans s4)
   rw [<-Jmc,e] at q
   exact q
abbrev lb_local_keeper:Array (Nat×Nat×Str):=#[((Jpy (nst (top 45) 3)).line,(Jpy (nst (top 45) 3)).col,"local_keeper.<locals>.keeper")]
def spRowG:Sp:=λvs H Q _=>∃(p l m:Addr) (ls lo hi:List Int),vs= [.ref p,.ref l,.ref m]/\H p=some (.tup (ls.map V.int))/\H l=some (.lst (lo.map V.int))/\H m=some (.lst (hi.map V.int))/\lo.length=ls.length/\hi.length=ls.length/\ls.length<=16/\(∀(i:Nat) (x y z:Int),ls[i]?=some x->lo[i]?=some y->hi[i]?=some z->y<=x/\x<=z)/\∀H',Same H H'->Q (.bl true) H'
def Ydd:Sp:=λvs H Q _=>∃(p:Addr) (x y:V),vs= [.ref p]/\H p=some (.tup [x,y])/\Q (.bl true) H
def Ybh (a:Ad):Sp:=λvs H Q _=>∃(r y s:Addr) (Bs:List BTd) (c g wt:Int) (ls:List Int),vs= [.ref r,.ref y]/\RivAt a H r Bs c g/\Bs.length<=16/\H y=some (.tup [.ref s,.int wt])/\H s=some (.tup (ls.map V.int))/\LvG Bs ls/\(0<=wt/\wt<=c)/\∀H',Same H H'->Q (.bl true) H'
def spRefL (a:Ad):Sp:=λvs H Q E=>∃(s d:Addr) (Bs:List BTd) (ns ls:List Int) (ps:List Addr),vs= [.ref s,.ref d]/\H s=some (.tup (ls.map V.int))/\LvG Bs ls/\H d=some (.lst (ps.map V.ref))/\RGd Bs/\ps.length=Bs.length/\(∀(i:Nat) B p,Bs[i]?=some B->ps[i]?=some p->DctAt H B ((Jmj ns).getD i 0) (ns.getD i 0) p)/\
 (Jrr Bs ns ls=true->∀H',Same H H'->Q .non H')/\(Jrr Bs ns ls=false->∀(i:Nat) e dx H',i < Bs.length->Same H H'->H' e=some (XO e a.Jiw (some dx) false)->H' dx=some (XD dx [("basin",.int (i:Int))])->E (.ref a.Jiw) (some e) H')
def Jsk (Bs:List BTd) (ns ls:List Int):List Int:=(yu Bs.length).map λi=>match Bs[i]? with
 |some B=>Jl3 B ((Jmj ns).getD i 0) (ns.getD i 0) (ls.getD i 0 - B.lo).toNat
 |none=>0
def ByAt (H:Hp) (d:Addr) (Bs:List BTd) (ns:List Int):Prop:=∃ps:List Addr,H d=some (.lst (ps.map V.ref))/\ps.length=Bs.length/\∀(i:Nat) B p,Bs[i]?=some B->ps[i]?=some p->DctAt H B ((Jmj ns).getD i 0) (ns.getD i 0) p
theorem ByAt.same {H H':Hp} {d:Addr} {Bs:List BTd} {ns:List Int} (s:Same H H') (h:ByAt H d Bs ns):ByAt H' d Bs ns:=by obtain ⟨ps,h1,h2,h3⟩:=h;exact ⟨ps,s _ _ h1,h2,λi B p e1 e2=>(h3 i B p e1 e2).same s⟩
def KprAt (H:Hp) (f r d:Addr) (Bs:List BTd) (ns:List Int):Prop:=ByAt H d Bs ns/\CloAt H f "keeper" "local_keeper.<locals>.keeper" (nst (top 45) 3) [("by_basin",.ref d),("river",.ref r)]
def spKpr (a:Ad):List V->Sp:=λcs vs H Q _=>∃(d r y s:Addr) (x:V) (Bs:List BTd) (c g wt:Int) (ns ls:List Int),cs= [.ref d,.ref r]/\vs= [.ref y,x]/\RivAt a H r Bs c g/\RGd Bs/\ByAt H d Bs ns/\H y=some (.tup [.ref s,.int wt])/\H s=some (.tup (ls.map V.int))/\LvG Bs ls/\(0<=wt/\wt<=c)/\Jrr Bs ns ls=true/\
 ∀(t u:Addr) (H':Hp),Same H H'->H' t=some (.tup [.ref u,.non])->H' u=some (.tup ((Jsk Bs ns ls).map V.int))->Q (.ref t) H'
def Yd9 (a:Ad):Sp:=λvs H Q E=>∃(r l:Addr) (Bs:List BTd) (c g:Int) (ns:List Int),vs= [.ref r,.ref l]/\H a.Jj5=some (.tbl lb_lost_alone)/\H a.Jj7=some (.tbl lb_local_keeper)/\RivAt a H r Bs c g/\RGd Bs/\H l=some (.lst (ns.map V.int))/\NGd Bs.length ns/\
 (Jz4 Bs ns=true->∀f d H',Same H H'->KprAt H' f r d Bs ns->Q (.ref f) H')/\(Jz4 Bs ns=false->∀(i:Nat) e dx H',i < Bs.length->Same H H'->H' e=some (XO e a.Jiw (some dx) false)->H' dx=some (XD dx [("basin",.int (i:Int))])->E (.ref a.Jiw) (some e) H')
theorem Jne:Jjj ["self","thing"] ["self","thing"] (Jje (Jjr (top 9) 0)):=⟨rfl,rfl,rfl,by decide +kernel,rfl,by decide +kernel,by decide +kernel⟩
theorem Jme (T:Tx K mg a):FnOk P w K mg base CX0 1 a.Jew a.Jex ["self","thing"] (Jmw K "thing"):=by
 refine T.Jc0.fn.ok Jne (λvs H Q E h=>?_) (λcdv A outer s H vs Q E hr h=>?_)
 ·obtain ⟨e,C,W,fI,y,rfl,_⟩:=h
  rfl
 ·obtain ⟨e,C,W,fI,y,rfl,q,c,n,k⟩:=h
  refine ⟨_,(Jjc (Jmo (pv 0) (pv 1) rfl)),?_⟩
  exact ⟨_,rfl,_,rfl,e,C,W,fI,true,rfl,q,c,n,k⟩
theorem Ju3:Jjj ["thing","lows","highs"] ["thing","lows","highs"] (Jje (top 19)):=⟨rfl,rfl,rfl,by decide +kernel,rfl,by decide +kernel,by decide +kernel⟩
theorem Jzp (T:Tx K mg a):FnOk P w K mg base CX0 2 a.Jf8 a.Jf9 ["thing","lows","highs"] spRowG:=by
 have G_is_whole:=Jkl (P:=P) (w:=w) (base:=base) T
 refine T.J3.fn.ok Ju3 (λvs H Q E h=>?_) (λcdv A outer s H vs Q E hr h=>?_)
 ·obtain ⟨p,l,m,ls,lo,hi,rfl,_⟩:=h
  rfl
 ·obtain ⟨p,l,m,ls,lo,hi,rfl,hp,hl,hm,e1,e2,l16,inn,k⟩:=h
  refine ⟨?t,?B,?C⟩
  case B=>
   refine' Jjd ?s1 ?r1
   case s1=>
    refine' Jk1 ?c2 ?a2 ?b2
    case c2=>
     exact (PW.pt (Jov (Jjy (Jjw (Jji Jkr (by rfl) T.Jar Jjp (Jj8 (pv 0) (Jj8 (Jl0 (v:=.ty "tuple") (by rfl) T.Jb0 Jky rfl) Jja))))) (Jmv (Jk8 Jyo (Jji Jjq (by rfl) T.Jas Jko (Jj8 (pv 0) Jja)) (Jji Jjq (by rfl) T.Jas Jko (Jj8 (pv 1) Jja)) (Jk2 _)))))
    case a2=>
     refine' Jjc ?s3
     case s3=>
      exact (Jjk Jkn)
    case b2=>
     exact Jjn
   case r1=>
    refine' Jjc ?s7
    case s7=>
     exact (Jjk (Jji (Jlk rfl) (by rfl) T.Jal Jn4 (Jj8 (Jk3 (N:=(["number","low","high"]:List Str)) (ini:=[none,none,none]) rfl (Jv8 true false false (by rfl) T.Jb1 (Jj8 (pv 0) (Jj8 (pv 1) (Jj8 (pv 2) Jja)))) (λ_ _ _ _ _=>(Jmn (K:=K) (n:=3) rfl rfl (Jka (Jjl (i:=0) (by decide +kernel:(["number","low","high"]:List Str).Nodup) rfl (ye rfl)) (Jka (Jjl (i:=1) (by decide +kernel:(["number","low","high"]:List Str).Nodup) rfl (ye rfl)) (Jka (Jjl (i:=2) (by decide +kernel:(["number","low","high"]:List Str).Nodup) rfl (ye rfl)) Jm5))))) (λ_ _ _ _ _=>Jk0) (λ_ _ _ _ _=>(Jjf T.J0 G_is_whole hr (by decide) (Jj8 (pv 0) (Jj8 (pv 1) (Jj8 (pv 2) Jja)))))) Jja)))
  refine ⟨_,rfl,_,_,_,.type "tuple",true,rfl,rfl,.of (.tup hp),rfl,_,rfl,Jkp ?_⟩
  refine ⟨_,rfl,p,_,rfl,.inr (SqT.of hp),_,rfl,l,_,rfl,.inl (SqL.of hl),rfl,_,rfl,ifF (by simp [e1]) ?_⟩
  refine ⟨_,rfl,_,rfl,_,rfl,p,l,m,rfl,⟨_,SqT.of hp⟩,⟨_,SqL.of hl⟩,⟨_,SqL.of hm⟩,λD hD=>?_⟩
  refine Jqd (K:=K) (l1:=p) (l2:=l) (l3:=m) (b1:=true) (b2:=false) (b3:=false) (xs:=ls.map V.int) (ys:=lo.map V.int) (us:=hi.map V.int) (D:=D) (λi σ H'=>(∃o1 o2 o3,σ= [o1,o2,o3])/\Same H H'/\H' D=some (.lst ((yat i true).map V.bl))) ⟨⟨_,_,_,rfl⟩,Same.upd hD,Jj9⟩ (λi σ H' _ ⟨_,sm,_⟩=>⟨SqT.of (sm _ _ hp),SqL.of (sm _ _ hl),SqL.of (sm _ _ hm)⟩) (by simp [e1]) (by simp [e2]) ?_ ?_
  ·rintro i x y u σ H' T1 hx hy hu ⟨⟨o1,o2,o3,rfl⟩,sm,hDs⟩ hT
   rw [yp] at hx hy hu
   obtain ⟨v,hv,rfl⟩:=yag.mp hx
   obtain ⟨vl,hvl,rfl⟩:=yag.mp hy
   obtain ⟨vh,hvh,rfl⟩:=yag.mp hu
   have il:i < ls.length:=(yv.mp hv).1
   have b:=inn i v vl vh hv hvl hvh
   have sT:=Same.upd (o:=.tup [.int v,.int vl,.int vh]) hT
   refine Ybs (SqT.of Jj9) ⟨_,rfl,_,rfl,_,rfl,.int v,vl,vh,rfl,.inl ⟨v,rfl⟩,?_⟩
   rw [Jl9 b.1 b.2]
   refine ⟨_,sT _ _ hDs,?_,⟨_,_,_,rfl⟩,?_,?_⟩
   ·rw [yf,ybx]
    exact Jjx (by omega)
   ·intro c2 o' z
    rw [Jjg (Jjh z hD)]
    exact sT _ _ (sm _ _ z)
   ·rw [Jj9,ycp,yab]
    rfl
  ·rintro σ H' ⟨_,sm,hDs⟩
   refine ⟨D,_,rfl,SqL.of hDs,?_⟩
   rw [show (yat (ls.map V.int).length true).all id=true by simp]
   exact k _ sm
theorem Jsg:Jjj ["thing"] ["thing"] (Jje (top 20)):=⟨rfl,rfl,rfl,by decide +kernel,rfl,by decide +kernel,by decide +kernel⟩
theorem Jxk (T:Tx K mg a):FnOk P w K mg base CX0 1 a.Jfa a.Jfb ["thing"] Ydd:=by
 refine T.J4.fn.ok Jsg (λvs H Q E h=>?_) (λcdv A outer s H vs Q E hr h=>?_)
 ·obtain ⟨p,x,y,rfl,_⟩:=h
  rfl
 ·obtain ⟨p,x,y,rfl,hp,k⟩:=h
  refine ⟨?t,?B,?C⟩
  case B=>
   refine' Jjc ?s1
   case s1=>
    exact (Jjk (Jp8 (Jji Jkr (by rfl) T.Jar Jjp (Jj8 (pv 0) (Jj8 (Jl0 (v:=.ty "tuple") (by rfl) T.Jb0 Jky rfl) Jja))) (Jp9 (Jl1 Jmh (Jji Jjq (by rfl) T.Jas Jko (Jj8 (pv 0) Jja)) Jjb (Jk2 _)))))
  refine ⟨_,rfl,_,_,_,.type "tuple",true,rfl,rfl,.of (.tup hp),rfl,_,rfl,Jl4 ?_⟩
  exact ⟨_,rfl,p,_,rfl,.inr (SqT.of hp),rfl,k⟩
theorem Jo8:Jjj ["river","thing"] ["river","thing"] (Jje (top 21)):=⟨rfl,rfl,rfl,by decide +kernel,rfl,by decide +kernel,by decide +kernel⟩
theorem Js4 (T:Tx K mg a):FnOk P w K mg base CX0 3 a.Jfc a.Jfd ["river","thing"] (Ybh a):=by
 have G_is_pair:=Jxk (P:=P) (w:=w) (base:=base) T
 have G_is_whole:=Jkl (P:=P) (w:=w) (base:=base) T
 have G_is_row:=Jzp (P:=P) (w:=w) (base:=base) T
 refine T.J5.fn.ok Jo8 (λvs H Q E h=>?_) (λcdv A outer s H vs Q E hr h=>?_)
 ·obtain ⟨r,y,s',Bs,c,g,wt,ls,rfl,_⟩:=h
  rfl
 ·obtain ⟨r,y,s',Bs,c,g,wt,ls,rfl,rv,l16,hy,hs,lg,hw,k⟩:=h
  obtain ⟨dx,b,t,os,hr0,hb,pr⟩:=id rv
  have len:=Paired.length pr
  have ll:=lg.1
  refine ⟨?t,?B,?C⟩
  case B=>
   refine' Jjd ?s1 ?r1
   case s1=>
    refine' Jk1 ?c2 ?a2 ?b2
    case c2=>
     exact (PW.pt (Jov (Jjy (Jjw (Jjf T.J4 G_is_pair hr (by decide) (Jj8 (pv 1) Jja)))) (Jmv (Jjy (Jjw (Jjf T.J0 G_is_whole hr (by decide) (Jj8 (Jjs Jkg (pv 1) Jjb (λ_ _=>rfl)) (Jj8 Jjb (Jj8 (Jkh (pv 0) (by rfl)) Jja)))))))))
    case a2=>
     refine' Jjc ?s3
     case s3=>
      exact (Jjk Jkn)
    case b2=>
     exact Jjn
   case r1=>
    refine' Jjc ?s7
    case s7=>
     exact (Jjk (Jjf T.J3 G_is_row hr (by decide) (Jj8 (Jjs Jkg (pv 1) Jjb (λ_ _=>rfl)) (Jj8 (Jk3 (N:=(["basin"]:List Str)) (ini:=[none]) rfl (Jsc (Jkh (pv 0) (by rfl))) (λ_ _ _ _ _=>(Jjl (i:=0) (by decide +kernel:(["basin"]:List Str).Nodup) rfl (ye rfl))) (λ_ _ _ _ _=>Jk0) (λ_ _ _ _ _=>(Jlb (K:=K) rfl (pv 0) (by rfl)))) (Jj8 (Jk3 (N:=(["basin"]:List Str)) (ini:=[none]) rfl (Jsc (Jkh (pv 0) (by rfl))) (λ_ _ _ _ _=>(Jjl (i:=0) (by decide +kernel:(["basin"]:List Str).Nodup) rfl (ye rfl))) (λ_ _ _ _ _=>Jk0) (λ_ _ _ _ _=>(Jlb (K:=K) rfl (pv 0) (by rfl)))) Jja)))))
  refine ⟨_,rfl,y,_,_,rfl,hy,_,rfl,Jkp ?_⟩
  refine ⟨_,rfl,y,_,1,_,rfl,rfl,SqT.of hy,rfl,_,rfl,r,_,dx,_,_,rfl,hr0,T.Jdd,T.Jdx,rfl,.int wt,0,c,rfl,.inl ⟨wt,rfl⟩,_,rfl,?_⟩
  rw [Jl9 hw.1 hw.2]
  refine Jkp ?_
  refine ⟨_,rfl,y,_,0,_,rfl,rfl,SqT.of hy,rfl,_,rfl,r,_,dx,_,_,rfl,hr0,T.Jdd,T.Jdz,rfl,b,rfl,⟨_,SqT.of hb⟩,λD hD=>?_⟩
  refine Jmz ((Bs.map (·.lo)).map V.int) hD (by simp [len]) (by simp;omega) hb ?_ ?_
  ·intro i x y' H' Q' hx hy' sm k'
   rw [yp] at hx
   obtain ⟨o,ho,rfl⟩:=yag.mp hx
   obtain ⟨B,hB,bx⟩:=Jkt pr ho
   rw [yp,yp,hB] at hy'
   cases hy'
   obtain ⟨dx',g',h1,_⟩:=bx.same sm
   exact ⟨_,rfl,o,_,dx',_,_,rfl,h1,T.Jd8,T.Jdq,rfl,k' _ (Same.refl _)⟩
  intro H1 s1 hD1
  refine ⟨_,rfl,r,_,dx,_,_,rfl,s1 _ _ hr0,T.Jdd,T.Jdz,rfl,b,rfl,⟨_,SqT.of (s1 _ _ hb)⟩,λD2 hD2=>?_⟩
  refine Jmz ((Bs.map (·.hi)).map V.int) hD2 (by simp [len]) (by simp;omega) (s1 _ _ hb) ?_ ?_
  ·intro i x y' H' Q' hx hy' sm k'
   rw [yp] at hx
   obtain ⟨o,ho,rfl⟩:=yag.mp hx
   obtain ⟨B,hB,bx⟩:=Jkt pr ho
   rw [yp,yp,hB] at hy'
   cases hy'
   obtain ⟨dx',g',h1,_⟩:=(bx.same s1).same sm
   exact ⟨_,rfl,o,_,dx',_,_,rfl,h1,T.Jd8,T.Jdr,rfl,k' _ (Same.refl _)⟩
  intro H2 s2 hD2'
  refine ⟨s',D,D2,ls,Bs.map (·.lo),Bs.map (·.hi),rfl,s2 _ _ (s1 _ _ hs),s2 _ _ hD1,hD2',by simp [ll],by simp [ll],by omega,λi x yl yh hx hl hh=>?_,λH3 s3=>k _ ((s1.trans s2).trans s3)⟩
  rw [yp] at hl hh
  obtain ⟨B,hB,rfl⟩:=yag.mp hl
  rw [hB] at hh
  cases hh
  exact lg.2 i B x hB hx
theorem sc_refuse_lost:Jjj ["levels","by_basin","place"] ["levels","by_basin"] (Jje (top 44)):=⟨rfl,rfl,rfl,by decide +kernel,rfl,by decide +kernel,by decide +kernel⟩
theorem Jlm (T:Tx K mg a):FnOk P w K mg base (CXX P w) 3 a.Jge a.Jgf ["levels","by_basin"] (spRefL a):=by
 have G_first_lost:=Jmt (P:=P) (w:=w) (base:=base) T
 have G_NoPromise___init__:=Jps (P:=P) (w:=w) (base:=base) T
 refine T.Jo.fn.okX sc_refuse_lost (λvs H Q E h=>?_) (λcdv A outer s H vs Q E hr h=>?_)
 ·obtain ⟨s',d,Bs,ns,ls,ps,rfl,_⟩:=h
  rfl
 ·obtain ⟨s',d,Bs,ns,ls,ps,rfl,hs,lg,hd,rg,hpl,hps,k1,k2⟩:=h
  refine ⟨?t,?B,?C⟩
  case B=>
   refine' Jjd ?s1 ?r1
   case s1=>
    exact (Jju (i:=2) sc_refuse_lost.nd rfl (ye rfl) (Jjf T.Jm G_first_lost hr (by decide) (Jj8 (pv 0) (Jj8 (pv 1) Jja))))
   case r1=>
    refine' Jjc ?s3
    case s3=>
     refine' Jk1 ?c4 ?a4 ?b4
     case c4=>
      exact (Jk8 Jv6 (pv 2) Jl7 (Jk2 _))
     case a4=>
      refine' Jjc ?s5
      case s5=>
       exact (Jke Jkc rfl (Jla T.Jcp G_NoPromise___init__ hr (by decide) T.Jc2.bd T.Jba (Jj8 (pv 2) Jja)))
     case b4=>
      exact Jjn
  refine ⟨_,rfl,_,rfl,s',d,Bs,ns,ls,ps,rfl,hs,lg,hd,rg,hpl,hps,λe H1 s1=>?_,λe i H1 hi s1=>?_⟩
  ·exact ⟨_,rfl,rfl,_,rfl,ifF (by rfl) (k1 e _ s1)⟩
  ·refine ⟨_,rfl,rfl,_,rfl,ifT (by rfl) ?_⟩
   refine Jlg T.Jcp T.Jdl rfl λe' dx' h1 h2 h3=>?_
   refine k2 e i e' dx' _ hi ?_ Jj9 ?_
   ·rw [Jmq]
    intro b' o' q
    have q':=s1 _ _ q
    rw [Jjg (Jjh q' h1),Jjg (Jjh q' h2)]
    exact q'
   ·rw [Jjg h3,Jjg h3,Jj9]
theorem Jlo:Jnl ["standing","k","by_basin","river"] ["standing","k"] ["by_basin","river"] (Jje (nst (top 45) 3)):=⟨rfl,rfl,rfl,by decide +kernel,rfl,by decide +kernel,by decide +kernel,by decide +kernel⟩
theorem Jzq (T:Tx K mg a) (f:Addr):CloOk P w K mg base (CXX P w) 4 f (Jwp "keeper" "local_keeper.<locals>.keeper" (nst (top 45) 3) ["by_basin","river"] (spKpr a) f):=by
 have G_is_standing:=Js4 (P:=P) (w:=w) (base:=base) T
 have G_NoStanding___init__:=Jme (P:=P) (w:=w) (base:=base) T
 have G_refuse_lost:=Jlm (P:=P) (w:=w) (base:=base) T
 refine Jx1 Jlo (λ_ _ _ _ _ us hl=>match us,hl with| [_,_],_=>rfl) (λcs vs H Q E h=>?_) (λf c clos A outer s H vs cs Q E hr h=>?_) f
 ·obtain ⟨d,r,y,s',x,Bs,c,g,wt,ns,ls,rfl,rfl,_⟩:=h
  exact ⟨rfl,rfl⟩
 ·obtain ⟨d,r,y,s',x,Bs,cl,g,wt,ns,ls,rfl,rfl,rv,rg,⟨ps,hd,hpl,hps⟩,hy,hs,lg,hw,hp,k⟩:=h
  have l16:=rg.len
  have ll:=lg.1
  refine ⟨?t,?B,?C⟩
  case B=>
   refine' Jjd ?s1 ?r1
   case s1=>
    refine' Jk1 ?c2 ?a2 ?b2
    case c2=>
     exact (Jjy (Jjw (Jjf T.J5 G_is_standing hr (by decide) (Jj8 (pv 3) (Jj8 (pv 0) Jja)))))
    case a2=>
     refine' Jjc ?s3
     case s3=>
      exact (Jke Jvj rfl (Jla T.Jcl G_NoStanding___init__ hr (by decide) T.Jc0.bd T.Jb8 (Jj8 (pv 0) Jja)))
    case b2=>
     exact Jjn
   case r1=>
    refine' Jjd ?s6 ?r6
    case s6=>
     exact (Jkv (Jkd T.Jo G_refuse_lost Jvj hr (by decide) (Jj8 (Jjs Jkg (pv 0) Jjb (λ_ _=>rfl)) (Jj8 (pv 2) Jja))))
    case r6=>
     refine' Jjc ?s8
     case s8=>
      exact (Jjk (Jk5 (Jj8 (Jk7 Jl2 (by rfl) T.Jb0 Jky (Jj8 (Jk3 (N:=(["by_level","level"]:List Str)) (ini:=[none,none]) rfl (Jyr false true (by rfl) T.Jb1 (Jj8 (pv 2) (Jj8 (Jjs Jkg (pv 0) Jjb (λ_ _=>rfl)) Jja))) (λ_ _ _ _ _=>(Jmn (K:=K) (n:=2) rfl rfl (Jka (Jjl (i:=0) (by decide +kernel:(["by_level","level"]:List Str).Nodup) rfl (ye rfl)) (Jka (Jjl (i:=1) (by decide +kernel:(["by_level","level"]:List Str).Nodup) rfl (ye rfl)) Jm5)))) (λ_ _ _ _ _=>Jk0) (λ_ _ _ _ _=>(Ju1 (P:=P) (w:=w) rfl rfl (pv 0) (pv 1) (λ_ _=>rfl)))) Jja)) (Jj8 Jl7 Jja))))
  refine ⟨_,rfl,_,rfl,r,y,s',Bs,cl,g,wt,ls,rfl,rv,l16.2,hy,hs,lg,hw,λH1 s1=>⟨_,rfl,Jkp ?_⟩⟩
  refine ⟨_,rfl,y,_,0,_,rfl,rfl,SqT.of (s1 _ _ hy),rfl,_,rfl,s',d,Bs,ns,ls,ps,rfl,s1 _ _ hs,lg,s1 _ _ hd,rg,hpl,λi B p e1 e2=>(hps i B p e1 e2).same s1,λ_ H2 s2=>?_,λe=>absurd (hp.symm.trans e) (by decide)⟩
  have s12:=s1.trans s2
  refine ⟨_,rfl,_,rfl,y,_,0,_,rfl,rfl,SqT.of (s12 _ _ hy),rfl,d,s',rfl,⟨_,SqL.of (s12 _ _ hd)⟩,⟨_,SqT.of (s12 _ _ hs)⟩,λD hD=>?_⟩
  have sk:∀(i:Nat) B l,Bs[i]?=some B->ls[i]?=some l->(Jsk Bs ns ls)[i]?=some (Jl3 B ((Jmj ns).getD i 0) (ns.getD i 0) (l - B.lo).toNat)/\Jr3 B ((Jmj ns).getD i 0) (ns.getD i 0) l=true:=by
   intro i B l hB hl
   have il:i < Bs.length:=(yv.mp hB).1
   have ev:ls.getD i 0=l:=by rw [yao,hl];rfl
   refine ⟨?_,?_⟩
   ·unfold Jsk
    rw [yp,List.getElem?_range il]
    show some (match Bs[i]? with|some B=>Jl3 B ((Jmj ns).getD i 0) (ns.getD i 0) (ls.getD i 0 - B.lo).toNat|none=>0)=_
    rw [hB,ev]
   ·have q:=hp
    unfold Jrr at q
    rw [yar] at q
    have q2:=q i (yaj.mpr il)
    rw [hB] at q2
    have q3:Jr3 B ((Jmj ns).getD i 0) (ns.getD i 0) (ls.getD i 0)=true:=q2
    rw [ev] at q3
    exact q3
  refine Jzc (K:=K) (l1:=d) (l2:=s') (b1:=false) (b2:=true) (xs:=ps.map V.ref) (ys:=ls.map V.int) (D:=D) (λi σ H'=>(∃o1 o2,σ= [o1,o2])/\Same H2 H'/\H' D=some (.lst (((Jsk Bs ns ls).take i).map V.int))) ⟨⟨_,_,rfl⟩,Same.upd hD,Jj9⟩ (λi σ H' _ ⟨_,sm,_⟩=>⟨SqL.of (sm _ _ (s12 _ _ hd)),SqT.of (sm _ _ (s12 _ _ hs))⟩) (by simp;omega) ?_ ?_
  ·rintro i u v σ H' T1 hu hv ⟨⟨o1,o2,rfl⟩,sm,hDs⟩ hT
   rw [yp] at hu hv
   obtain ⟨p,hpi,rfl⟩:=yag.mp hu
   obtain ⟨l,hl,rfl⟩:=yag.mp hv
   have il:i < ls.length:=(yv.mp hl).1
   have hB:Bs[i]?=some (Bs[i]'(by omega)):=yn _
   generalize Bs[i]'(by omega)=B at hB
   obtain ⟨k1,k2⟩:=sk i B l hB hl
   have rb:=lg.2 i B l hB hl
   have val:=Yad rb ((Jmj ns).getD i 0) (ns.getD i 0)
   rw [if_pos k2] at val
   obtain ⟨ob,e⟩:=hps i B p hB hpi
   have sT:=Same.upd (o:=.tup [.ref p,.int l]) hT
   refine turn2 (SqT.of Jj9) ⟨_,rfl,_,rfl,p,_,yx l,_,rfl,.inr (.inl ⟨ob,sT _ _ (sm _ _ (s12 _ _ e))⟩),rfl,val,_,sT _ _ hDs,?_,⟨_,_,rfl⟩,?_,?_⟩
   ·rw [yf,yaf]
    exact Jjx (by omega)
   ·intro c2 o' z
    rw [Jjg (Jjh z hD)]
    exact sT _ _ (sm _ _ z)
   ·rw [Jj9,yan,k1,yab]
    rfl
  ·rintro σ H' ⟨_,sm,hDs⟩
   have sl:(Jsk Bs ns ls).length=Bs.length:=by unfold Jsk;rw [yf,ybf]
   rw [yf,yam (by omega)] at hDs
   refine ⟨D,_,rfl,.inl ⟨SqL.of hDs,λU hU=>⟨(show 2<=sizeLine by decide),λT1 hT1=>?_⟩⟩⟩
   exact k T1 U _ ((s12.trans sm).trans ((Same.upd hU).trans (Same.upd hT1))) Jj9 (Same.upd hT1 _ _ Jj9)
theorem sc_local_keeper:Jjj ["river","numbers","by_basin","keeper"] ["river","numbers"] (Jje (top 45)):=⟨rfl,rfl,rfl,by decide +kernel,rfl,by decide +kernel,by decide +kernel⟩
theorem Jra (T:Tx K mg a) (B:Bmn mg base):FnOk P w K mg base (CXX P w) 8 a.Jgg a.Jgh ["river","numbers"] (Yd9 a):=by
 have G_are_numbers:=Jnv (P:=P) (w:=w) (base:=base) T
 have G_NoNumber___init__:=Jkq (P:=P) (w:=w) (base:=base) T
 have G_settings_by:=Jnx (P:=P) (w:=w) T B
 have G_refuse_lost:=Jlm (P:=P) (w:=w) (base:=base) T
 refine T.Jp.fn.okN T.Je3 sc_local_keeper (λvs H Q E h=>?_) (λA outer s H vs Q E hr h=>?_)
 ·obtain ⟨r,l,Bs,c,g,ns,rfl,_⟩:=h
  rfl
 ·obtain ⟨r,l,Bs,c,g,ns,rfl,ht,htk,rv,rg,hl,ng,k1,k2⟩:=h
  have l16:=rg.len
  refine ⟨?t,?B,?C⟩
  case B=>
   refine' Joe ?s1 ?r1
   case s1=>
    refine' Jk1 ?c2 ?a2 ?b2
    case c2=>
     exact (Jjy (Jjw (Jjf T.Jk G_are_numbers hr (by decide) (Jj8 (pv 0) (Jj8 (pv 1) Jja)))))
    case a2=>
     refine' Jjc ?s3
     case s3=>
      exact (Jke Jkc rfl (Jla T.Jcn G_NoNumber___init__ hr (by decide) T.Jc1.bd T.Jb9 (Jj8 (pv 1) Jja)))
    case b2=>
     exact Jjn
   case r1=>
    refine' Joe ?s6 ?r6
    case s6=>
     exact (Jju (i:=2) sc_local_keeper.nd rfl (yad rfl) (Jjf T.Jl G_settings_by hr (by decide) (Jj8 (pv 0) (Jj8 (pv 1) Jja))))
    case r6=>
     refine' Joe ?s8 ?r8
     case s8=>
      exact (Jkv (Jkd T.Jo G_refuse_lost Jkc hr (by decide) (Jj8 (Jjs Jkg (Jm9 (pv 0) hr) Jjb (λ_ _=>rfl)) (Jj8 (pv 2) Jja))))
     case r8=>
      refine' Jxp (st:=nst (top 45) 3) (name:="keeper") (qual:="local_keeper.<locals>.keeper") (i:=3) (lb:=lb_local_keeper) (caps:=[("by_basin",2),("river",0)]) T.Je3 B rfl rfl rfl rfl rfl (by rfl) Jx8 (λ_=>Jut) sc_local_keeper.nd rfl rfl (by intro y hy;simp only [ym,yr,or_false] at hy;rcases hy with rfl|rfl <;> exact ⟨rfl,by decide,rfl,rfl,rfl⟩) (by decide +kernel) ?r10
      case r10=>
       refine' PSs.pb ?s11
       case s11=>
        refine' Jjc ?s12
        case s12=>
         exact (Jjk (pv 3))
  refine ⟨_,rfl,_,rfl,r,l,Bs,c,g,ns,rfl,rv,hl,ng,l16.2,λH1 s1=>⟨_,rfl,Jkp ?_⟩⟩
  refine ⟨_,rfl,_,rfl,r,l,Bs,c,g,ns,rfl,s1 _ _ ht,rv.same s1,rg,s1 _ _ hl,ng,λd ps H2 s2 hd hpl hps=>?_⟩
  have s12:=s1.trans s2
  obtain ⟨dx,b,t,os,hr0,hb,pr⟩:=id (rv.same s12)
  refine ⟨_,rfl,r,_,dx,_,_,_,_,_,1,rfl,hr0,rfl,T.Jdd,T.Jdf,Jmf T,by decide,T.Jcf.bd,r,Bs,c,g,rfl,rv.same s12,l16.2,λt1 S H3 s3 ht1 hS=>?_⟩
  refine ⟨t1,_,0,_,rfl,rfl,SqT.of ht1,rfl,_,rfl,S,d,Bs,ns,_,ps,rfl,hS,LvG.start rg.all,s3 _ _ hd,rg,hpl,λi B p e1 e2=>(hps i B p e1 e2).same s3,λe H4 s4=>?_,λe i eo dxo H4 hi s4 q1 q2=>k2 (by rw [<-Jmc];exact e) i eo dxo _ hi ((s12.trans s3).trans s4) q1 q2⟩
  rw [Jmc] at e
  have s04:=(s12.trans s3).trans s4
  refine ⟨s04 _ _ htk,[.ref d,.ref r],?_,rfl,λf H' s' hf clo=>?_⟩
  ·intro y hy
   simp only [List.zip_cons_cons,List.zip_nil_right,ym,yr,or_false] at hy
   rcases hy with rfl|rfl <;> rfl
  ·exact ⟨_,rfl,k1 e f d H' (s04.trans s') ⟨⟨ps,s' _ _ (s4 _ _ (s3 _ _ hd)),hpl,λi B p e1 e2=>(((hps i B p e1 e2).same s3).same s4).same s'⟩,clo⟩⟩
def wl:List V->List Int->List Int->List Bool
 |v::vs,l::ls,h::hs=>Jjo v l h::wl vs ls hs
 |_,_,_=>[]
theorem Ybz:∀{vs:List V} {ls hs:List Int},vs.length=ls.length->ls.length=hs.length->(wl vs ls hs).length=vs.length
 | [],_,_,_,_=>rfl
 |_::_,[],_,e,_=>by simp at e
 |_::_,_::_,[],_,e=>by simp at e
 |_::vs,_::ls,_::hs,e1,e2=>by
  show (wl vs ls hs).length+1=vs.length+1
  rw [Ybz (by simpa using e1) (by simpa using e2)]
theorem Yby:∀{vs:List V} {ls hs:List Int} {i:Nat} {v x y:V},vs[i]?=some v->(ls.map V.int)[i]?=some x->(hs.map V.int)[i]?=some y->∃l h,x= .int l/\y= .int h/\(wl vs ls hs)[i]?=some (Jjo v l h)
 |_::_,l::_,h::_,0,v,x,y,e1,e2,e3=>⟨l,h,by simpa using e2.symm,by simpa using e3.symm,by cases e1;rfl⟩
 |_::vs,_::ls,_::hs,i+1,v,x,y,e1,e2,e3=>by
  obtain ⟨l,h,a1,a2,a3⟩:=Yby (vs:=vs) (ls:=ls) (hs:=hs) (i:=i) (v:=v) (x:=x) (y:=y) (by simpa using e1) (by simpa using e2) (by simpa using e3)
  exact ⟨l,h,a1,a2,a3⟩
 | [],_,_,_,_,_,_,e,_,_=>by simp at e
 |_::_,[],_,_,_,_,_,_,e,_=>by simp at e
 |_::_,_::_,[],_,_,_,_,_,_,e=>by simp at e
def RowT (K:W.Frag) (H:Hp) (x:V):Option (List V)->Prop
 |some vs=>∃p,x= .ref p/\H p=some (.tup vs)/\(∀v∈vs,Tm K H v)/\vs.length<=40
 |none=>∃t,TyX K H x t/\W.kitOne K t (.type "tuple")=some false
theorem RowT.same {K:W.Frag} {H H':Hp} {x:V} (s:Same H H'):∀{r:Option (List V)},RowT K H x r->RowT K H' x r
 |some _,⟨p,e,h1,h2,h3⟩=>⟨p,e,s _ _ h1,λv hv=>(h2 v hv).same s,h3⟩
 |none,⟨t,h1,h2⟩=>⟨t,Jmp s h1,h2⟩
def rowB:Option (List V)->List Int->List Int->Bool
 |some vs,ls,hs=>decide (vs.length=ls.length)&&(wl vs ls hs).all id
 |none,_,_=>false
def spRow (K:W.Frag):Sp:=λvs H Q _=>∃(x:V) (r:Option (List V)) (l m:Addr) (ls hs:List Int),vs= [x,.ref l,.ref m]/\RowT K H x r/\H l=some (.lst (ls.map V.int))/\H m=some (.lst (hs.map V.int))/\ls.length=hs.length/\ls.length<=40/\∀H',Same H H'->Q (.bl (rowB r ls hs)) H'
def Yai:Option (List V)->Bool
 |some vs=>decide (vs.length=2)
 |none=>false
def spPair (K:W.Frag):Sp:=λvs H Q _=>∃(x:V) (r:Option (List V)),vs= [x]/\(match r with|some vs=>∃p,x= .ref p/\H p=some (.tup vs)|none=>∃t,TyX K H x t/\W.kitOne K t (.type "tuple")=some false)/\Q (.bl (Yai r)) H
def StdX (K:W.Frag) (H:Hp) (Bs:List BTd) (c:Int) (x:V):Prop:=(∃t,TyX K H x t/\W.kitOne K t (.type "tuple")=some false)\/∃p vs,x= .ref p/\H p=some (.tup vs)/\
 (vs.length≠2\/∃u v,vs= [u,v]/\Tm K H v/\(Jjo v 0 c=false\/(Jjo v 0 c=true/\∃rr,RowT K H u rr/\rowB rr (Bs.map (·.lo)) (Bs.map (·.hi))=false)))
def NotN (K:W.Frag) (H:Hp) (n:Nat) (x:V):Prop:=(∃t,TyX K H x t/\W.kitOne K t (.type "list")=some false)\/∃l vs,x= .ref l/\H l=some (.lst vs)/\vs.length<=40/\
 (vs.length≠n\/(vs.length=n/\(∀v∈vs,Tm K H v)/\∃v∈vs,Jjo v 0 12=false))
theorem NotN.same {K:W.Frag} {H H':Hp} {n:Nat} {x:V} (s:Same H H') (h:NotN K H n x):NotN K H' n x:=by
 rcases h with ⟨t,h1,h2⟩|⟨l,vs,e,h1,h2,h3⟩
 ·exact .inl ⟨t,Jmp s h1,h2⟩
 ·refine .inr ⟨l,vs,e,s _ _ h1,h2,?_⟩
  rcases h3 with h3|⟨h3,h4,h5⟩
  ·exact .inl h3
  ·exact .inr ⟨h3,λv hv=>(h4 v hv).same s,h5⟩
def Ybi (K:W.Frag) (a:Ad):Sp:=λvs H Q _=>∃(r:Addr) (x:V) (Bs:List BTd) (c g:Int),vs= [.ref r,x]/\RivAt a H r Bs c g/\Bs.length<=16/\StdX K H Bs c x/\∀H',Same H H'->Q (.bl false) H'
def spKprX (K:W.Frag) (a:Ad):List V->Sp:=λcs vs H _ E=>∃(d r:Addr) (x y:V) (Bs:List BTd) (c g:Int),cs= [.ref d,.ref r]/\vs= [x,y]/\RivAt a H r Bs c g/\Bs.length<=16/\StdX K H Bs c x/\∀c eo H',RfC a.Jiu H H' x c eo->E c eo H'
def Jyw (K:W.Frag) (a:Ad):Sp:=λvs H Q _=>∃(r:Addr) (x:V) (Bs:List BTd) (c g:Int),vs= [.ref r,x]/\RivAt a H r Bs c g/\Bs.length<=16/\NotN K H Bs.length x/\∀H',Same H H'->Q (.bl false) H'
def Ybc (K:W.Frag) (a:Ad):Sp:=λvs H _ E=>∃(r:Addr) (x:V) (Bs:List BTd) (c g:Int),vs= [.ref r,x]/\H a.Jj7=some (.tbl lb_local_keeper)/\RivAt a H r Bs c g/\Bs.length<=16/\NotN K H Bs.length x/\Rfd a H E x
theorem Jxl (T:Tx K mg a):FnOk P w K mg base CX0 2 a.Jf8 a.Jf9 ["thing","lows","highs"] (spRow K):=by
 have G_is_whole:=Jkl (P:=P) (w:=w) (base:=base) T
 refine T.J3.fn.ok Ju3 (λvs H Q E h=>?_) (λcdv A outer s H vs Q E hr h=>?_)
 ·obtain ⟨x,r,l,m,ls,hs,rfl,_⟩:=h
  rfl
 ·obtain ⟨x,r,l,m,ls,hs,rfl,rt,hl,hm,e1,e2,k⟩:=h
  refine ⟨?t,?B,?C⟩
  case B=>
   refine' Jjd ?s1 ?r1
   case s1=>
    refine' Jk1 ?c2 ?a2 ?b2
    case c2=>
     exact (PW.pt (Jov (Jjy (Jjw (Jji Jkr (by rfl) T.Jar Jjp (Jj8 (pv 0) (Jj8 (Jl0 (v:=.ty "tuple") (by rfl) T.Jb0 Jky rfl) Jja))))) (Jmv (Jk8 Jyo (Jji Jjq (by rfl) T.Jas Jko (Jj8 (pv 0) Jja)) (Jji Jjq (by rfl) T.Jas Jko (Jj8 (pv 1) Jja)) (Jk2 _)))))
    case a2=>
     refine' Jjc ?s3
     case s3=>
      exact (Jjk Jkn)
    case b2=>
     exact Jjn
   case r1=>
    refine' Jjc ?s7
    case s7=>
     exact (Jjk (Jji (Jlk rfl) (by rfl) T.Jal Jn4 (Jj8 (Jk3 (N:=(["number","low","high"]:List Str)) (ini:=[none,none,none]) rfl (Jv8 true false false (by rfl) T.Jb1 (Jj8 (pv 0) (Jj8 (pv 1) (Jj8 (pv 2) Jja)))) (λ_ _ _ _ _=>(Jmn (K:=K) (n:=3) rfl rfl (Jka (Jjl (i:=0) (by decide +kernel:(["number","low","high"]:List Str).Nodup) rfl (ye rfl)) (Jka (Jjl (i:=1) (by decide +kernel:(["number","low","high"]:List Str).Nodup) rfl (ye rfl)) (Jka (Jjl (i:=2) (by decide +kernel:(["number","low","high"]:List Str).Nodup) rfl (ye rfl)) Jm5))))) (λ_ _ _ _ _=>Jk0) (λ_ _ _ _ _=>(Jjf T.J0 G_is_whole hr (by decide) (Jj8 (pv 0) (Jj8 (pv 1) (Jj8 (pv 2) Jja)))))) Jja)))
  cases r with
  |none=>
   obtain ⟨t,ty,ek⟩:=rt
   refine ⟨_,rfl,x,_,_,t,_,rfl,rfl,ty,ek,_,rfl,Jl4 ?_⟩
   refine Jl4 ?_
   exact k _ (λ_ _ h=>h)
  |some vs=>
   obtain ⟨p,rfl,hp,tms,hn⟩:=rt
   refine ⟨_,rfl,_,_,_,.type "tuple",true,rfl,rfl,.of (.tup hp),rfl,_,rfl,Jkp ?_⟩
   refine ⟨_,rfl,p,_,rfl,.inr (SqT.of hp),_,rfl,l,_,rfl,.inl (SqL.of hl),rfl,?_⟩
   by_cases en:vs.length=ls.length
   ·refine ⟨_,rfl,ifF (by simp [en]) ?_⟩
    refine ⟨_,rfl,_,rfl,_,rfl,p,l,m,rfl,⟨_,SqT.of hp⟩,⟨_,SqL.of hl⟩,⟨_,SqL.of hm⟩,λD hD=>?_⟩
    have s0:=Same.upd (o:=.lst []) hD
    refine Jqd (K:=K) (l1:=p) (l2:=l) (l3:=m) (b1:=true) (b2:=false) (b3:=false) (xs:=vs) (ys:=ls.map V.int) (us:=hs.map V.int) (D:=D) (λi σ H'=>(∃o1 o2 o3,σ= [o1,o2,o3])/\H' D=some (.lst (((wl vs ls hs).take i).map V.bl))/\Same H H') ⟨⟨_,_,_,rfl⟩,Jj9,s0⟩ (λi σ H' _ ⟨_,_,sm⟩=>⟨SqT.of (sm _ _ hp),SqL.of (sm _ _ hl),SqL.of (sm _ _ hm)⟩) (by rw [yf];exact en) (by rw [yf];omega) ?_ ?_
    ·rintro i x y u σ H' Ta hx hy hu ⟨⟨o1,o2,o3,rfl⟩,hDs,sm⟩ hT
     obtain ⟨lo,hi,rfl,rfl,ew⟩:=Yby hx hy hu
     have sT:=Same.upd (o:=.tup [x,.int lo,.int hi]) hT
     have hi':i < vs.length:=(yv.mp hx).1
     refine Ybs (SqT.of Jj9) ⟨_,rfl,_,rfl,_,rfl,_,lo,hi,rfl,(tms _ (yae hx)).same (sm.trans sT),_,sT _ _ hDs,?_,⟨_,_,_,rfl⟩,?_,?_⟩
     ·rw [yf,yaf]
      exact Jjx (by omega)
     ·rw [Jj9,yan,ew]
      simp
     ·intro c o z
      rw [Jjg (Jjh z hD)]
      exact sT _ _ (sm _ _ z)
    rintro σ H1 ⟨_,hDs,sm⟩
    rw [yam (by rw [Ybz en e1];omega)] at hDs
    refine ⟨D,_,rfl,SqL.of hDs,?_⟩
    have e:rowB (some vs) ls hs=(wl vs ls hs).all id:=by
     show (decide (vs.length=ls.length)&&_)=_
     rw [decide_eq_true en,Bool.true_and]
    rw [<-e]
    exact k _ sm
   ·refine ⟨_,rfl,ifT (by simp;omega) ?_⟩
    have e:rowB (some vs) ls hs=false:=by
     show (decide (vs.length=ls.length)&&_)=_
     rw [decide_eq_false en,ybv]
    rw [e] at k
    exact k _ (λ_ _ h=>h)
theorem Jw5 (T:Tx K mg a):FnOk P w K mg base CX0 1 a.Jfa a.Jfb ["thing"] (spPair K):=by
 refine T.J4.fn.ok Jsg (λvs H Q E h=>?_) (λcdv A outer s H vs Q E hr h=>?_)
 ·obtain ⟨x,r,rfl,_⟩:=h
  rfl
 ·obtain ⟨x,r,rfl,rt,k⟩:=h
  refine ⟨?t,?B,?C⟩
  case B=>
   refine' Jjc ?s1
   case s1=>
    exact (Jjk (Jp8 (Jji Jkr (by rfl) T.Jar Jjp (Jj8 (pv 0) (Jj8 (Jl0 (v:=.ty "tuple") (by rfl) T.Jb0 Jky rfl) Jja))) (Jp9 (Jl1 Jmh (Jji Jjq (by rfl) T.Jas Jko (Jj8 (pv 0) Jja)) Jjb (Jk2 _)))))
  cases r with
  |none=>
   obtain ⟨t,ty,ek⟩:=rt
   refine ⟨_,rfl,x,_,_,t,_,rfl,rfl,ty,ek,_,rfl,?_⟩
   exact Jkp k
  |some vs=>
   obtain ⟨p,rfl,hp⟩:=rt
   refine ⟨_,rfl,_,_,_,.type "tuple",true,rfl,rfl,.of (.tup hp),rfl,_,rfl,Jl4 ?_⟩
   refine ⟨_,rfl,p,_,rfl,.inr (SqT.of hp),rfl,?_⟩
   have e:decide (V.int (vs.length:Nat)=V.int 2)=Yai (some vs):=by
    show _=decide (vs.length=2)
    by_cases h:vs.length=2
    ·rw [decide_eq_true h,decide_eq_true (by rw [h];rfl)]
    ·rw [decide_eq_false h,decide_eq_false (λq=>h (by have:=V.int.inj q;omega))]
   rw [e]
   exact k
theorem Jr9 (T:Tx K mg a):FnOk P w K mg base CX0 3 a.Jfc a.Jfd ["river","thing"] (Ybi K a):=by
 have G_is_pair:=Jw5 (P:=P) (w:=w) (base:=base) T
 have G_is_whole:=Jkl (P:=P) (w:=w) (base:=base) T
 have G_is_row:=Jxl (P:=P) (w:=w) (base:=base) T
 refine T.J5.fn.ok Jo8 (λvs H Q E h=>?_) (λcdv A outer s H vs Q E hr h=>?_)
 ·obtain ⟨r,x,Bs,c,g,rfl,_⟩:=h
  rfl
 ·obtain ⟨r,x,Bs,c,g,rfl,rv,l16,sx,k⟩:=h
  obtain ⟨dx,b,t,os,hr0,hb,pr⟩:=id rv
  have len:=Paired.length pr
  refine ⟨?t,?B,?C⟩
  case B=>
   refine' Jjd ?s1 ?r1
   case s1=>
    refine' Jk1 ?c2 ?a2 ?b2
    case c2=>
     exact (PW.pt (Jov (Jjy (Jjw (Jjf T.J4 G_is_pair hr (by decide) (Jj8 (pv 1) Jja)))) (Jmv (Jjy (Jjw (Jjf T.J0 G_is_whole hr (by decide) (Jj8 (Jjs Jkg (pv 1) Jjb (λ_ _=>rfl)) (Jj8 Jjb (Jj8 (Jkh (pv 0) (by rfl)) Jja)))))))))
    case a2=>
     refine' Jjc ?s3
     case s3=>
      exact (Jjk Jkn)
    case b2=>
     exact Jjn
   case r1=>
    refine' Jjc ?s7
    case s7=>
     exact (Jjk (Jjf T.J3 G_is_row hr (by decide) (Jj8 (Jjs Jkg (pv 1) Jjb (λ_ _=>rfl)) (Jj8 (Jk3 (N:=(["basin"]:List Str)) (ini:=[none]) rfl (Jsc (Jkh (pv 0) (by rfl))) (λ_ _ _ _ _=>(Jjl (i:=0) (by decide +kernel:(["basin"]:List Str).Nodup) rfl (ye rfl))) (λ_ _ _ _ _=>Jk0) (λ_ _ _ _ _=>(Jlb (K:=K) rfl (pv 0) (by rfl)))) (Jj8 (Jk3 (N:=(["basin"]:List Str)) (ini:=[none]) rfl (Jsc (Jkh (pv 0) (by rfl))) (λ_ _ _ _ _=>(Jjl (i:=0) (by decide +kernel:(["basin"]:List Str).Nodup) rfl (ye rfl))) (λ_ _ _ _ _=>Jk0) (λ_ _ _ _ _=>(Jlb (K:=K) rfl (pv 0) (by rfl)))) Jja)))))
  rcases sx with ⟨ty,h1,h2⟩|⟨y,vs,rfl,hy,sx⟩
  ·exact ⟨_,rfl,x,none,rfl,⟨ty,h1,h2⟩,_,rfl,Jl4 (Jl4 (k _ (Same.refl _)))⟩
  rcases sx with sx|⟨u,v,rfl,tv,sx⟩
  ·refine ⟨_,rfl,.ref y,some vs,rfl,⟨y,rfl,hy⟩,_,rfl,?_⟩
   rw [show Yai (some vs)=false from decide_eq_false sx]
   exact Jl4 (Jl4 (k _ (Same.refl _)))
  refine ⟨_,rfl,.ref y,some [u,v],rfl,⟨y,rfl,hy⟩,_,rfl,Jkp ?_⟩
  refine ⟨_,rfl,y,_,1,_,rfl,rfl,SqT.of hy,rfl,_,rfl,r,_,dx,_,_,rfl,hr0,T.Jdd,T.Jdx,rfl,v,0,c,rfl,tv,_,rfl,?_⟩
  rcases sx with sx|⟨sx,rr,rt,sb⟩
  ·rw [sx]
   exact Jl4 (k _ (Same.refl _))
  rw [sx]
  refine Jkp ?_
  refine ⟨_,rfl,y,_,0,_,rfl,rfl,SqT.of hy,rfl,_,rfl,r,_,dx,_,_,rfl,hr0,T.Jdd,T.Jdz,rfl,b,rfl,⟨_,SqT.of hb⟩,λD hD=>?_⟩
  refine Jmz ((Bs.map (·.lo)).map V.int) hD (by simp [len]) (by simp;omega) hb ?_ ?_
  ·intro i x y' H' Q' hx hy' sm k'
   rw [yp] at hx
   obtain ⟨o,ho,rfl⟩:=yag.mp hx
   obtain ⟨B,hB,bx⟩:=Jkt pr ho
   rw [yp,yp,hB] at hy'
   cases hy'
   obtain ⟨dx',g',h1,_⟩:=bx.same sm
   exact ⟨_,rfl,o,_,dx',_,_,rfl,h1,T.Jd8,T.Jdq,rfl,k' _ (Same.refl _)⟩
  intro H1 s1 hD1
  refine ⟨_,rfl,r,_,dx,_,_,rfl,s1 _ _ hr0,T.Jdd,T.Jdz,rfl,b,rfl,⟨_,SqT.of (s1 _ _ hb)⟩,λD2 hD2=>?_⟩
  refine Jmz ((Bs.map (·.hi)).map V.int) hD2 (by simp [len]) (by simp;omega) (s1 _ _ hb) ?_ ?_
  ·intro i x y' H' Q' hx hy' sm k'
   rw [yp] at hx
   obtain ⟨o,ho,rfl⟩:=yag.mp hx
   obtain ⟨B,hB,bx⟩:=Jkt pr ho
   rw [yp,yp,hB] at hy'
   cases hy'
   obtain ⟨dx',g',h1,_⟩:=(bx.same s1).same sm
   exact ⟨_,rfl,o,_,dx',_,_,rfl,h1,T.Jd8,T.Jdr,rfl,k' _ (Same.refl _)⟩
  intro H2 s2 hD2'
  refine ⟨u,rr,D,D2,Bs.map (·.lo),Bs.map (·.hi),rfl,rt.same (s1.trans s2),s2 _ _ hD1,hD2',by simp,by simp;omega,λH3 s3=>?_⟩
  rw [sb]
  exact k _ ((s1.trans s2).trans s3)
theorem Jnh (T:Tx K mg a):FnOk P w K mg base CX0 3 a.Jg6 a.Jg7 ["river","thing"] (Jyw K a):=by
 have G_is_promised:=Jmg (P:=P) (w:=w) (base:=base) T
 refine T.Jk.fn.ok Jo7 (λvs H Q E h=>?_) (λcdv A outer s H vs Q E hr h=>?_)
 ·obtain ⟨r,x,Bs,c,g,rfl,_⟩:=h
  rfl
 ·obtain ⟨r,x,Bs,c,g,rfl,rv,l16,nn,k⟩:=h
  obtain ⟨dx,b,t,os,hr0,hb,pr⟩:=id rv
  have len:=Paired.length pr
  refine ⟨?t,?B,?C⟩
  case B=>
   refine' Jjd ?s1 ?r1
   case s1=>
    refine' Jk1 ?c2 ?a2 ?b2
    case c2=>
     exact (PW.pt (Jov (Jjy (Jjw (Jji Jkr (by rfl) T.Jar Jjp (Jj8 (pv 1) (Jj8 (Jl0 (v:=.ty "list") (by rfl) T.Jat Jn5 rfl) Jja))))) (Jmv (Jk8 Jyo (Jji Jjq (by rfl) T.Jas Jko (Jj8 (pv 1) Jja)) (Jji Jjq (by rfl) T.Jas Jko (Jj8 (Jkh (pv 0) (by rfl)) Jja)) (Jk2 _)))))
    case a2=>
     refine' Jjc ?s3
     case s3=>
      exact (Jjk Jkn)
    case b2=>
     exact Jjn
   case r1=>
    refine' Jjc ?s7
    case s7=>
     exact (Jjk (Jji (Jlk rfl) (by rfl) T.Jal Jn4 (Jj8 (Jk3 (N:=(["number"]:List Str)) (ini:=[none]) rfl (Jku (pv 1)) (λ_ _ _ _ _=>(Jjl (i:=0) (by decide +kernel:(["number"]:List Str).Nodup) rfl (ye rfl))) (λ_ _ _ _ _=>Jk0) (λ_ _ _ _ _=>(Jjf T.J8 G_is_promised hr (by decide) (Jj8 (pv 0) Jja)))) Jja)))
  rcases nn with ⟨ty,h1,h2⟩|⟨l,vs,rfl,hl,l40,nn⟩
  ·exact ⟨_,rfl,x,_,_,ty,_,rfl,rfl,h1,h2,_,rfl,Jl4 (Jl4 (k _ (Same.refl _)))⟩
  refine ⟨_,rfl,_,_,_,.type "list",true,rfl,rfl,.of (.lst hl),rfl,_,rfl,Jkp ?_⟩
  refine ⟨_,rfl,l,_,rfl,.inl (SqL.of hl),_,rfl,r,_,dx,_,_,rfl,hr0,T.Jdd,T.Jdz,rfl,b,_,rfl,.inr (SqT.of hb),rfl,_,rfl,?_⟩
  rcases nn with nn|⟨nn,tm,v0,hv0,w0⟩
  ·refine ifT ?_ (k _ (Same.refl _))
   rw [yf,len]
   simp
   omega
  refine ifF ?_ ?_
  ·rw [yf,len]
   simp [nn]
  refine ⟨_,rfl,l,rfl,⟨_,SqL.of hl⟩,λD hD=>?_⟩
  refine Jn8 ((vs.map λv=>Jjo v 0 12).map V.bl) hD (by simp) (by omega) hl ?_ ?_
  ·intro i x y H' Q' hx hy sm k'
   rw [yp,yp,hx] at hy
   cases hy
   exact ⟨_,rfl,x,rfl,(tm x (yae hx)).same sm,k' _ (Same.refl _)⟩
  intro H1 s1 hD1
  refine ⟨D,_,rfl,SqL.of hD1,?_⟩
  have e:(vs.map λv=>Jjo v 0 12).all id=false:=by
   rw [List.all_eq_false]
   exact ⟨_,List.mem_map_of_mem hv0,by simp [w0]⟩
  rw [e]
  exact k _ s1
theorem Jqj (T:Tx K mg a):FnOk P w K mg base CX0 8 a.Jgc a.Jgd ["river","numbers"] (Jyw K a):=by
 have G_are_numbers:=Jnh (P:=P) (w:=w) (base:=base) T
 have G_settings_by:=Jqs (P:=P) (w:=w) (K:=K) (mg:=mg) (base:=base) (CX:=CX0) (k:=7) (f:=a.Jg8) (fd:=a.Jg9) (ps:=["river","numbers"])
 have G_first_lost:=Jmt (P:=P) (w:=w) (base:=base) T
 refine T.Jn.fn.ok Jni (λvs H Q E h=>?_) (λcdv A outer s H vs Q E hr h=>?_)
 ·obtain ⟨r,x,Bs,c,g,rfl,_⟩:=h
  rfl
 ·obtain ⟨r,x,Bs,c,g,rfl,rv,l16,nn,k⟩:=h
  refine ⟨?t,?B,?C⟩
  case B=>
   refine' Jjd ?s1 ?r1
   case s1=>
    refine' Jk1 ?c2 ?a2 ?b2
    case c2=>
     exact (Jjy (Jjw (Jjf T.Jk G_are_numbers hr (by decide) (Jj8 (pv 0) (Jj8 (pv 1) Jja)))))
    case a2=>
     refine' Jjc ?s3
     case s3=>
      exact (Jjk Jkn)
    case b2=>
     exact Jjn
   case r1=>
    refine' Jjc ?s7
    case s7=>
     exact (Jjk (Jl1 Jsa (Jjf T.Jm G_first_lost hr (by decide) (Jj8 (Jjs Jkg (Jm9 (pv 0) hr) Jjb (λ_ _=>rfl)) (Jj8 (Jjf T.Jl G_settings_by hr (by decide) (Jj8 (pv 0) (Jj8 (pv 1) Jja))) Jja))) Jl7 (Jk2 _)))
  exact ⟨_,rfl,_,rfl,r,x,Bs,c,g,rfl,rv,l16,nn,λH1 s1=>⟨_,rfl,Jl4 (k _ s1)⟩⟩
theorem Jxm (T:Tx K mg a) (f:Addr):CloOk P w K mg base (CXX P w) 4 f (Jwp "keeper" "local_keeper.<locals>.keeper" (nst (top 45) 3) ["by_basin","river"] (spKprX K a) f):=by
 have G_is_standing:=Jr9 (P:=P) (w:=w) (base:=base) T
 have G_NoStanding___init__:=Jme (P:=P) (w:=w) (base:=base) T
 have G_refuse_lost:=Jlm (P:=P) (w:=w) (base:=base) T
 refine Jx1 Jlo (λ_ _ _ _ _ us hl=>match us,hl with| [_,_],_=>rfl) (λcs vs H Q E h=>?_) (λf c clos A outer s H vs cs Q E hr h=>?_) f
 ·obtain ⟨d,r,x,y,Bs,c,g,rfl,rfl,_⟩:=h
  exact ⟨rfl,rfl⟩
 ·obtain ⟨d,r,x,y,Bs,cl,g,rfl,rfl,rv,l16,sx,k⟩:=h
  refine ⟨?t,?B,?C⟩
  case B=>
   refine' Jjd ?s1 ?r1
   case s1=>
    refine' Jk1 ?c2 ?a2 ?b2
    case c2=>
     exact (Jjy (Jjw (Jjf T.J5 G_is_standing hr (by decide) (Jj8 (pv 3) (Jj8 (pv 0) Jja)))))
    case a2=>
     refine' Jjc ?s3
     case s3=>
      exact (Jke Jvj rfl (Jla T.Jcl G_NoStanding___init__ hr (by decide) T.Jc0.bd T.Jb8 (Jj8 (pv 0) Jja)))
    case b2=>
     exact Jjn
   case r1=>
    refine' Jjd ?s6 ?r6
    case s6=>
     exact (Jkv (Jkd T.Jo G_refuse_lost Jvj hr (by decide) (Jj8 (Jjs Jkg (pv 0) Jjb (λ_ _=>rfl)) (Jj8 (pv 2) Jja))))
    case r6=>
     refine' Jjc ?s8
     case s8=>
      exact (Jjk (Jk5 (Jj8 (Jk7 Jl2 (by rfl) T.Jb0 Jky (Jj8 (Jk3 (N:=(["by_level","level"]:List Str)) (ini:=[none,none]) rfl (Jyr false true (by rfl) T.Jb1 (Jj8 (pv 2) (Jj8 (Jjs Jkg (pv 0) Jjb (λ_ _=>rfl)) Jja))) (λ_ _ _ _ _=>(Jmn (K:=K) (n:=2) rfl rfl (Jka (Jjl (i:=0) (by decide +kernel:(["by_level","level"]:List Str).Nodup) rfl (ye rfl)) (Jka (Jjl (i:=1) (by decide +kernel:(["by_level","level"]:List Str).Nodup) rfl (ye rfl)) Jm5)))) (λ_ _ _ _ _=>Jk0) (λ_ _ _ _ _=>(Ju1 (P:=P) (w:=w) rfl rfl (pv 0) (pv 1) (λ_ _=>rfl)))) Jja)) (Jj8 Jl7 Jja))))
  exact ⟨_,rfl,_,rfl,r,x,Bs,cl,g,rfl,rv,l16,sx,λH1 s1=>⟨_,rfl,Jl4 (Jlg T.Jcl T.Jdj rfl λe dx h1 h2 h3=>k _ _ _ ((RfC.new h1 h2 h3).of s1))⟩⟩
theorem Jql (T:Tx K mg a) (B:Bmn mg base):FnOk P w K mg base (CXX P w) 8 a.Jgg a.Jgh ["river","numbers"] (Ybc K a):=by
 have G_are_numbers:=Jnh (P:=P) (w:=w) (base:=base) T
 have G_NoNumber___init__:=Jkq (P:=P) (w:=w) (base:=base) T
 have G_settings_by:=Jqs (P:=P) (w:=w) (K:=K) (mg:=mg) (base:=base) (CX:=CX0) (k:=7) (f:=a.Jg8) (fd:=a.Jg9) (ps:=["river","numbers"])
 have G_refuse_lost:=Jlm (P:=P) (w:=w) (base:=base) T
 refine T.Jp.fn.okN T.Je3 sc_local_keeper (λvs H Q E h=>?_) (λA outer s H vs Q E hr h=>?_)
 ·obtain ⟨r,x,Bs,c,g,rfl,_⟩:=h
  rfl
 ·obtain ⟨r,x,Bs,c,g,rfl,htk,rv,l16,nn,k⟩:=h
  refine ⟨?t,?B,?C⟩
  case B=>
   refine' Joe ?s1 ?r1
   case s1=>
    refine' Jk1 ?c2 ?a2 ?b2
    case c2=>
     exact (Jjy (Jjw (Jjf T.Jk G_are_numbers hr (by decide) (Jj8 (pv 0) (Jj8 (pv 1) Jja)))))
    case a2=>
     refine' Jjc ?s3
     case s3=>
      exact (Jke Jkc rfl (Jla T.Jcn G_NoNumber___init__ hr (by decide) T.Jc1.bd T.Jb9 (Jj8 (pv 1) Jja)))
    case b2=>
     exact Jjn
   case r1=>
    refine' Joe ?s6 ?r6
    case s6=>
     exact (Jju (i:=2) sc_local_keeper.nd rfl (yad rfl) (Jjf T.Jl G_settings_by hr (by decide) (Jj8 (pv 0) (Jj8 (pv 1) Jja))))
    case r6=>
     refine' Joe ?s8 ?r8
     case s8=>
      exact (Jkv (Jkd T.Jo G_refuse_lost Jkc hr (by decide) (Jj8 (Jjs Jkg (Jm9 (pv 0) hr) Jjb (λ_ _=>rfl)) (Jj8 (pv 2) Jja))))
     case r8=>
      refine' Jxp (st:=nst (top 45) 3) (name:="keeper") (qual:="local_keeper.<locals>.keeper") (i:=3) (lb:=lb_local_keeper) (caps:=[("by_basin",2),("river",0)]) T.Je3 B rfl rfl rfl rfl rfl (by rfl) Jx8 (λ_=>Jut) sc_local_keeper.nd rfl rfl (by intro y hy;simp only [ym,yr,or_false] at hy;rcases hy with rfl|rfl <;> exact ⟨rfl,by decide,rfl,rfl,rfl⟩) (by decide +kernel) ?r10
      case r10=>
       refine' PSs.pb ?s11
       case s11=>
        refine' Jjc ?s12
        case s12=>
         exact (Jjk (pv 3))
  exact ⟨_,rfl,_,rfl,r,x,Bs,c,g,rfl,rv,l16,nn,λH1 s1=>⟨_,rfl,Jl4 (Jlg T.Jcn T.Jdk rfl λe dx h1 h2 h3=>k _ _ _ ((RfC.new h1 h2 h3).of s1))⟩⟩
def LL (H H':Hp):Prop:=∀b o,H b=some o->H' b=some o\/((∃xs,o= .lst xs)/\∃ys,H' b=some (.lst ys))
theorem LL.same {H H':Hp} (s:Same H H'):LL H H':=λb o e=>.inl (s b o e)
theorem LL.but {p:Addr} {H H':Hp} (st:Strm H p) (b:But p H H'):LL H H':=λc o e=>by
 by_cases z:c=p
 ·subst z
  obtain ⟨x,y,w',q⟩:=st
  obtain ⟨x',y',w'',q'⟩:=b.2
  rw [q] at e
  exact .inr ⟨⟨_,(yy.inj e).symm⟩,_,q'⟩
 ·exact .inl (b.1 c o z e)
theorem LL.get {H H':Hp} (s:LL H H') {b:Addr} {o:HO} (n:∀xs,o≠ .lst xs) (e:H b=some o):H' b=some o:=by
 rcases s b o e with h|⟨⟨xs,w'⟩,_⟩
 ·exact h
 ·exact absurd w' (n xs)
theorem Jws {H H':Hp} {x:V} {t:Value} (s:LL H H') (h:TyX K H x t):TyX K H' x t:=by
 cases h with
 |exc q qd c=>exact .exc (s.get (by intro _ z;cases z) q) (s.get (by intro _ z;cases z) qd) c
 |of ty=>
  refine .of ?_
  cases ty with
  |non=>exact .non
  |bl b=>exact .bl b
  |int i=>exact .int i
  |str z=>exact .str z
  |flt z=>exact .flt z
  |lst e=>
   rcases s _ _ e with h|⟨_,ys,h⟩
   ·exact .lst h
   ·exact .lst h
  |frz e=>exact .frz (s.get (by intro _ z;cases z) e)
  |tup e=>exact .tup (s.get (by intro _ z;cases z) e)
  |dK e=>exact .dK (s.get (by intro _ z;cases z) e)
  |dT e=>exact .dT (s.get (by intro _ z;cases z) e)
  |ins e a b c d f=>exact .ins (s.get (by intro _ z;cases z) e) a b c d f
theorem Jyy {H H':Hp} {x:V} (s:LL H H') (h:Tm K H x):Tm K H' x:=by
 rcases h with h|⟨t,ty,e⟩
 ·exact .inl h
 ·exact .inr ⟨t,Jws s ty,e⟩
theorem Jrm (xs:List V) (k:Nat) (h:k<=xs.length):Jll xs none (some (k:Int))=xs.take k:=by
 unfold Jll
 rw [HT.sIx_none,HT.sIx_nat,Nat.min_eq_left h]
 rfl
theorem Jpn (xs:List V) (k:Nat) (h:k<=xs.length):Jll xs (some (k:Int)) none=xs.drop k:=by
 unfold Jll
 rw [HT.sIx_none,HT.sIx_nat,Nat.min_eq_left h,yam (by rw [List.length_drop];omega)]
theorem Juf {xs:List V} {r:Int} (h0:0<=r) (h1:r < xs.length):∃v,v∈xs/\atI xs r=some v:=by
 obtain ⟨n,rfl⟩:=ycn h0
 have hn:n < xs.length:=by omega
 exact ⟨xs[n],ybn hn,Jl6 (yn hn)⟩
def OddX (K:W.Frag) (H:Hp) (lo hi:Int) (x:V):Prop:=Tm K H x/\Js0 x/\Jjo x lo hi=false
def spLOdd (K:W.Frag):Sp:=λvs H Q _=>∃(p:Addr) (lo hi:Int),vs= [.ref p,.int lo,.int hi]/\Strm H p/\(0<=lo/\lo<=hi/\hi<=12)/\∀x H',But p H H'->OddX K H' lo hi x->Q x H'
theorem Ycn {H:Hp} {t1 l1 d:Addr} {lo hi:Int} (b:0<=lo/\lo<=hi/\hi<=12) (g1:H l1=some (.lst [.int lo])) (g2:H t1=some (.tup [.int hi])) (g3:H d=some (.dK [])):∀v∈ [V.int (lo - 1),.int (hi+1),.bl true,.bl false,.non,.str (toString lo),.ref l1,.ref t1,.int (10^(30:Int).toNat),.int (-1 - 10^(30:Int).toNat),.ref d],OddX K H lo hi v:=by
 have big:(10:Int)^(30:Int).toNat=1000000000000000000000000000000:=by decide
 have no:∀i:Int,i < lo\/hi < i->Jjo (.int i) lo hi=false:=λi h=>by
  show (decide (lo<=i)&&decide (i<=hi))=false
  rcases h with h|h
  ·rw [decide_eq_false (show ¬lo<=i by omega),ybv]
  ·rw [decide_eq_false (show ¬i<=hi by omega),Bool.and_false]
 intro v hv
 simp only [ym,yr,or_false] at hv
 rcases hv with rfl|rfl|rfl|rfl|rfl|rfl|rfl|rfl|rfl|rfl|rfl
 ·exact ⟨.inl ⟨_,rfl⟩,.inl rfl,no _ (by omega)⟩
 ·exact ⟨.inl ⟨_,rfl⟩,.inl rfl,no _ (by omega)⟩
 ·exact ⟨.inr ⟨_,.of (.bl _),rfl⟩,.inl rfl,rfl⟩
 ·exact ⟨.inr ⟨_,.of (.bl _),rfl⟩,.inl rfl,rfl⟩
 ·exact ⟨.inr ⟨_,.of .non,rfl⟩,.inl rfl,rfl⟩
 ·exact ⟨.inr ⟨_,.of (.str _),rfl⟩,.inl rfl,rfl⟩
 ·exact ⟨.inr ⟨_,.of (.lst g1),rfl⟩,.inr ⟨_,rfl⟩,rfl⟩
 ·exact ⟨.inr ⟨_,.of (.tup g2),rfl⟩,.inr ⟨_,rfl⟩,rfl⟩
 ·exact ⟨.inl ⟨_,rfl⟩,.inl rfl,no _ (by rw [big];omega)⟩
 ·exact ⟨.inl ⟨_,rfl⟩,.inl rfl,no _ (by rw [big];omega)⟩
 ·exact ⟨.inr ⟨_,.of (.dK g3),rfl⟩,.inr ⟨_,rfl⟩,rfl⟩
theorem OddX.ll {H H':Hp} {lo hi:Int} {x:V} (s:LL H H') (h:OddX K H lo hi x):OddX K H' lo hi x:=⟨Jyy s h.1,h.2⟩
theorem sc_law_odd:Jjj ["_law_stream_here","_law_low","_law_high","_law_some"] ["_law_stream_here","_law_low","_law_high"] (Jje (top 80)):=⟨rfl,rfl,rfl,by decide +kernel,rfl,by decide +kernel,by decide +kernel⟩
theorem Js6 (T:Tx K mg a):FnOk P w K mg base CX0 2 a.Jhy a.Jhz ["_law_stream_here","_law_low","_law_high"] (spLOdd K):=by
 have G__law_take:=Jli (P:=P) (w:=w) (base:=base) T
 refine T.Ja3.fn.ok sc_law_odd (λvs H Q E h=>?_) (λcdv A outer s H vs Q E hr h=>?_)
 ·obtain ⟨p,lo,hi,rfl,_⟩:=h
  rfl
 ·obtain ⟨p,lo,hi,rfl,st,hb,k⟩:=h
  refine ⟨?t,?B,?C⟩
  case B=>
   refine' Jjd ?s1 ?r1
   case s1=>
    exact (Jju (i:=3) sc_law_odd.nd rfl (ye rfl) (Jki (pa11 (Jjt Jlt (pv 1) Jjb) (Jjt Jks (pv 2) Jjb) Jkn Jkn Jl7 (Jk7 Jum (by rfl) T.Jaz Yo (Jj8 (pv 1) Jja)) (Jki (Jj8 (pv 1) Jja)) (Jk5 (Jj8 (pv 2) Jja)) (Jjt Jv7 Jjb Jjb) (Jjt Jlt (Ju2 Jqr Jjb) (Jjt Jv7 Jjb Jjb)) Jwd)))
   case r1=>
    refine' Jjc ?s3
    case s3=>
     exact (Jjk (Jjs Jjz (pv 3) (Jjf T.Jy G__law_take hr (by decide) (Jj8 (pv 0) (Jj8 Jjb Jja))) (λ_ _=>rfl)))
  refine ⟨_,rfl,_,_,rfl,rfl,_,rfl,_,_,rfl,rfl,_,rfl,lo,rfl,?_,_,rfl,(show 1<=sizeLine by decide),λl1 hl1=>⟨_,rfl,(show 1<=sizeLine by decide),λt1 ht1=>⟨_,_,rfl,rfl,⟨by decide,by decide,by decide⟩,_,rfl,_,_,rfl,rfl,⟨by decide,by decide,by decide⟩,_,_,rfl,rfl,λd hd=>⟨(show 11<=sizeLine by decide),λL hL=>?_⟩⟩⟩⟩
  ·exact ycf (Nat.log2_le_self _) (by omega)
  have s1:=Same.upd (o:=.lst [.int lo]) hl1
  have s2:=Same.upd (o:=.tup [.int hi]) ht1
  have s3:=Same.upd (o:=.dK []) hd
  have s4:=Same.upd (o:=.lst [V.int (lo - 1),.int (hi+1),.bl true,.bl false,.non,.str (toString lo),.ref l1,.ref t1,.int (10^(30:Int).toNat),.int (-1 - 10^(30:Int).toNat),.ref d]) hL
  have b3:=But.of st ((s1.trans s2).trans s3)
  have nL:L≠p:=b3.2.ne hL
  have b4:=b3.same s4
  have g1:=s4 _ _ (s3 _ _ (s2 _ _ (Jj9 (a:=l1) (o:=.lst [.int lo]))))
  have g2:=s4 _ _ (s3 _ _ (Jj9 (a:=t1) (o:=.tup [.int hi])))
  have g3:=s4 _ _ (Jj9 (a:=d) (o:=.dK []))
  have all:=Ycn (K:=K) hb g1 g2 g3
  refine ⟨_,rfl,_,rfl,p,11,rfl,b4.2,by decide,by decide,λr H5 r0 r1 b5=>?_⟩
  obtain ⟨v,hv,hat⟩:=Juf (xs:=[V.int (lo - 1),.int (hi+1),.bl true,.bl false,.non,.str (toString lo),.ref l1,.ref t1,.int (10^(30:Int).toNat),.int (-1 - 10^(30:Int).toNat),.ref d]) r0 r1
  exact ⟨L,_,_,v,rfl,rfl,SqL.of (b5.1 _ _ nL Jj9),hat,k v H5 (b4.trans b5) ((all v hv).ll (LL.but b4.2 b5))⟩
def spLRef (K:W.Frag) (a:Ad):Sp:=λvs H Q _=>∃(m:Int) (o up hi lv x:V),vs= [.int m,o,up,hi,lv]/\
 (((m=0\/m=1)/\Tm K H up/\Tm K H hi/\Jua up hi x)\/
  (m=2/\∃q Bd,o= .ref q/\BX a H q Bd/\Tm K H up/\Tm K H hi/\Tm K H lv/\(Jua up hi x\/(Jjo up 0 12=true/\Jjo hi 0 12=true/\Jjo lv Bd.lo Bd.hi=false/\x=lv)))\/
  (m=3/\up=x/\H a.Jj7=some (.tbl lb_local_keeper)/\∃(r:Addr) (Bs:List BTd) (c g:Int),o= .ref r/\RivAt a H r Bs c g/\Bs.length<=16/\NotN K H Bs.length x))/\
 ∀t H',Same H H'->H' t=some (.tup [x,.bl true,.bl false])->Q (.ref t) H'
def spLAsk (K:W.Frag) (a:Ad):Sp:=λvs H Q _=>∃(f r d:Addr) (Bs:List BTd) (c g:Int) (ns:List Int) (x:V),vs= [.ref f,x]/\KprAt H f r d Bs ns/\RivAt a H r Bs c g/\Bs.length<=16/\StdX K H Bs c x/\∀t H',Same H H'->H' t=some (.tup [x,.bl true,.bl false])->Q (.ref t) H'
def Yd8 (K:W.Frag):Sp:=λvs H Q _=>∃(t:Addr) (x:V),vs= [.ref t,x]/\H t=some (.tup [x,.bl true,.bl false])/\Js0 x/\(∃ty b,TyX K H x ty/\W.kitOne K ty (.type "bool")=some b)/\∀H',Same H H'->Q (.bl true) H'
theorem sc_law_refused:Jjj ["_law_way","_law_one","_law_up","_law_hi","_law_level","_law_found","e"] ["_law_way","_law_one","_law_up","_law_hi","_law_level"] (Jje (top 81)):=⟨rfl,rfl,rfl,by decide +kernel,rfl,by decide +kernel,by decide +kernel⟩
theorem Jnw (T:Tx K mg a) (Bm:Bmn mg base):FnOk P w K mg base CX0 9 a.Ji0 a.Ji1 ["_law_way","_law_one","_law_up","_law_hi","_law_level"] (spLRef K a):=by
 have G_lone_levels:=Js7 (P:=P) (w:=w) (base:=base) T
 have G_lone_lost:=Jv5 (P:=P) (w:=w) (base:=base) T
 have G_lone_setting:=Jqm (P:=P) (w:=w) (base:=base) T
 have G_local_keeper:=Jql (P:=P) (w:=w) T Bm
 refine T.Ja4.fn.ok sc_law_refused (λvs H Q E h=>?_) (λcdv A outer s H vs Q E hr h=>?_)
 ·obtain ⟨m,o,up,hi,lv,x,rfl,_⟩:=h
  rfl
 ·obtain ⟨m,o,up,hi,lv,x,rfl,cs,k⟩:=h
  refine ⟨?t,?B,?C⟩
  case B=>
   refine' Jjd ?s1 ?r1
   case s1=>
    exact (Jju (i:=5) sc_law_refused.nd rfl (ye rfl) Jl7)
   case r1=>
    refine' Jjd ?s3 ?r3
    case s3=>
     exact (Yau ⟨rfl,rfl⟩ (λ_ _ hw=>(Jjc (Jk1 (Jk8 Jmh (pv 0) Jjb (Jk2 _)) (Jjc (Jkv (Jkd T.Jg G_lone_levels hw hr (by decide) (Jj8 (pv 1) (Jj8 (pv 2) (Jj8 (pv 3) Jja)))))) (Jjc (Jk1 (Jk8 Jmh (pv 0) Jjb (Jk2 _)) (Jjc (Jkv (Jkd T.Ji G_lone_lost hw hr (by decide) (Jj8 (pv 1) (Jj8 (pv 2) (Jj8 (pv 3) Jja)))))) (Jjc (Jk1 (Jk8 Jmh (pv 0) Jjb (Jk2 _)) (Jjc (Jkv (Jkd T.Jh G_lone_setting hw hr (by decide) (pa4 (pv 1) (pv 2) (pv 3) (pv 4))))) (Jjc (Jkv (Jkd T.Jp G_local_keeper hw hr (by decide) (Jj8 (pv 1) (Jj8 (pv 2) Jja)))))))))))) (by exact ph_as T.Jco T.Jb9 sc_law_refused.nd (i:=6) rfl rfl (λ_=>(Jjc (Jju (i:=5) sc_law_refused.nd rfl (ye rfl) (Jk5 (Jj8 (Jyp (pv 6) (by rfl)) (Jj8 (Jji Jkr (by rfl) T.Jar Jjp (Jj8 (pv 6) (Jj8 (Jkk (by rfl) T.Jb2 (v:=.ref _) rfl) Jja))) (Jj8 (Jji Jnm (by rfl) T.Jar Jjp (Jj8 (pv 6) (Jj8 (Jk5 (Jj8 (Jkk (by rfl) T.Jba (v:=.ref _) rfl) (Jj8 (Jkk (by rfl) T.Jb8 (v:=.ref _) rfl) Jja))) Jja))) Jja))))))) Yaq))
    case r3=>
     refine' Jjc ?s5
     case s5=>
      exact (Jjk (pv 5))
  rcases cs with ⟨hm,tu,th,bd⟩|⟨rfl,q,Bd,rfl,bx,tu,th,tl,bd⟩|⟨rfl,rfl,ht,r,Bs,c,g,rfl,rv,l16,nn⟩
  rcases hm with rfl|rfl
  ·refine λpins=>⟨_,rfl,rfl,_,rfl,ifT (by rfl) ⟨_,rfl,_,rfl,_,rfl,o,up,hi,x,rfl,tu,th,bd,?_⟩⟩
   intro c eo H1 rf
   obtain ⟨e,dx,rfl,rfl,s1,q1,q2⟩:=rf
   have ty:∀{H'},Same H1 H'->TyX K H' (.ref e) (.ref a.Jiv):=λs=>.exc (s _ _ q1) (s _ _ q2) T.Jcn
   refine ⟨e,_,true,rfl,rfl,T.Jeg,Jl4 ?_⟩
   refine ⟨_,rfl,e,_,_,_,dx,_,_,_,rfl,q1,q2,T.Jcn,T.Jdk,rfl,?_⟩
   refine ⟨_,rfl,_,_,_,_,_,rfl,rfl,ty (Same.refl H1),T.Jei,?_⟩
   refine ⟨_,rfl,(show 2<=sizeLine by decide),λtp etp=>?_⟩
   have s2:=Same.upd (o:=.tup [.ref a.Jiw,.ref a.Jiu]) etp
   refine ⟨_,tp,_,_,_,false,rfl,Jj9,rfl,ty s2,T.Jek,(show 3<=sizeLine by decide),λt ht=>?_⟩
   exact ⟨_,rfl,k t _ ((s1.trans s2).trans (Same.upd ht)) Jj9⟩
  ·refine λpins=>⟨_,rfl,rfl,_,rfl,ifF (by decide) ⟨_,rfl,rfl,_,rfl,ifT (by rfl) ⟨_,rfl,_,rfl,_,rfl,o,up,hi,x,rfl,tu,th,bd,?_⟩⟩⟩
   intro c eo H1 rf
   obtain ⟨e,dx,rfl,rfl,s1,q1,q2⟩:=rf
   have ty:∀{H'},Same H1 H'->TyX K H' (.ref e) (.ref a.Jiv):=λs=>.exc (s _ _ q1) (s _ _ q2) T.Jcn
   refine ⟨e,_,true,rfl,rfl,T.Jeg,Jl4 ?_⟩
   refine ⟨_,rfl,e,_,_,_,dx,_,_,_,rfl,q1,q2,T.Jcn,T.Jdk,rfl,?_⟩
   refine ⟨_,rfl,_,_,_,_,_,rfl,rfl,ty (Same.refl H1),T.Jei,?_⟩
   refine ⟨_,rfl,(show 2<=sizeLine by decide),λtp etp=>?_⟩
   have s2:=Same.upd (o:=.tup [.ref a.Jiw,.ref a.Jiu]) etp
   refine ⟨_,tp,_,_,_,false,rfl,Jj9,rfl,ty s2,T.Jek,(show 3<=sizeLine by decide),λt ht=>?_⟩
   exact ⟨_,rfl,k t _ ((s1.trans s2).trans (Same.upd ht)) Jj9⟩
  ·refine λpins=>⟨_,rfl,rfl,_,rfl,ifF (by decide) ⟨_,rfl,rfl,_,rfl,ifF (by decide) ⟨_,rfl,rfl,_,rfl,ifT (by rfl) ⟨_,rfl,_,rfl,_,rfl,_,rfl,q,up,hi,lv,x,Bd,rfl,bx,tu,th,tl,bd,?_⟩⟩⟩⟩
   intro c eo H1 rf
   obtain ⟨e,dx,rfl,rfl,s1,q1,q2⟩:=rf
   have ty:∀{H'},Same H1 H'->TyX K H' (.ref e) (.ref a.Jiv):=λs=>.exc (s _ _ q1) (s _ _ q2) T.Jcn
   refine ⟨e,_,true,rfl,rfl,T.Jeg,Jl4 ?_⟩
   refine ⟨_,rfl,e,_,_,_,dx,_,_,_,rfl,q1,q2,T.Jcn,T.Jdk,rfl,?_⟩
   refine ⟨_,rfl,_,_,_,_,_,rfl,rfl,ty (Same.refl H1),T.Jei,?_⟩
   refine ⟨_,rfl,(show 2<=sizeLine by decide),λtp etp=>?_⟩
   have s2:=Same.upd (o:=.tup [.ref a.Jiw,.ref a.Jiu]) etp
   refine ⟨_,tp,_,_,_,false,rfl,Jj9,rfl,ty s2,T.Jek,(show 3<=sizeLine by decide),λt ht=>?_⟩
   exact ⟨_,rfl,k t _ ((s1.trans s2).trans (Same.upd ht)) Jj9⟩
  ·refine λpins=>⟨_,rfl,rfl,_,rfl,ifF (by decide) ⟨_,rfl,rfl,_,rfl,ifF (by decide) ⟨_,rfl,rfl,_,rfl,ifF (by decide) ⟨_,rfl,_,rfl,r,up,Bs,c,g,rfl,ht,rv,l16,nn,?_⟩⟩⟩⟩
   intro c eo H1 rf
   obtain ⟨e,dx,rfl,rfl,s1,q1,q2⟩:=rf
   have ty:∀{H'},Same H1 H'->TyX K H' (.ref e) (.ref a.Jiv):=λs=>.exc (s _ _ q1) (s _ _ q2) T.Jcn
   refine ⟨e,_,true,rfl,rfl,T.Jeg,Jl4 ?_⟩
   refine ⟨_,rfl,e,_,_,_,dx,_,_,_,rfl,q1,q2,T.Jcn,T.Jdk,rfl,?_⟩
   refine ⟨_,rfl,_,_,_,_,_,rfl,rfl,ty (Same.refl H1),T.Jei,?_⟩
   refine ⟨_,rfl,(show 2<=sizeLine by decide),λtp etp=>?_⟩
   have s2:=Same.upd (o:=.tup [.ref a.Jiw,.ref a.Jiu]) etp
   refine ⟨_,tp,_,_,_,false,rfl,Jj9,rfl,ty s2,T.Jek,(show 3<=sizeLine by decide),λt ht=>?_⟩
   exact ⟨_,rfl,k t _ ((s1.trans s2).trans (Same.upd ht)) Jj9⟩
theorem Jwg {xs:List V} (h:∀y∈xs,Js0 y):∀(i:Nat) x y b,xs[i]?=some x->xs[i]?=some y->(yat xs.length true)[i]?=some b->SameOr x y b:=by
 intro i x y b h1 h2 h3
 obtain rfl:=yy.inj (h1.symm.trans h2)
 obtain rfl:b=true:=List.eq_of_mem_replicate (yae h3)
 exact .self (h x (yae h1))
theorem Jwl:Jjj ["_law_found","_law_thing"] ["_law_found","_law_thing"] (Jje (top 82)):=⟨rfl,rfl,rfl,by decide +kernel,rfl,by decide +kernel,by decide +kernel⟩
theorem Jr1 (T:Tx K mg a):FnOk P w K mg base CX0 1 a.Ji2 a.Ji3 ["_law_found","_law_thing"] (Yd8 K):=by
 refine T.Ja5.fn.ok Jwl (λvs H Q E h=>?_) (λcdv A outer s H vs Q E hr h=>?_)
 ·obtain ⟨t,x,rfl,_⟩:=h
  rfl
 ·obtain ⟨t,x,rfl,ht,nx,⟨ty,b,tx,eb⟩,k⟩:=h
  have hu100:=Ya9 hr
  refine ⟨?t,?B,?C⟩
  case B=>
   refine' Jjc ?s1
   case s1=>
    exact (Jjk (Jp8 (Jl1 (Ycp hu100) (pv 0) (Jk5 (Jj8 (pv 1) (Jj8 Jkn (Jj8 Jkn Jja)))) (Jk2 _)) (Jp9 (Jl1 Jmh (Jji Jkr (by rfl) T.Jar Jjp (Jj8 (Jjs Jkg (pv 0) Jjb (λ_ _=>rfl)) (Jj8 (Jl0 (v:=.ty "bool") (by rfl) T.Jan Jug rfl) Jja))) (Jji Jkr (by rfl) T.Jar Jjp (Jj8 (pv 1) (Jj8 (Jl0 (v:=.ty "bool") (by rfl) T.Jan Jug rfl) Jja))) (Jk2 _)))))
  refine ⟨_,rfl,_,rfl,(show 3<=sizeLine by decide),λt2 ht2=>?_⟩
  have s2:=Same.upd (o:=.tup [x,.bl true,.bl false]) ht2
  have sm:=Jwg (xs:=[x,.bl true,.bl false]) (λy hy=>by
   simp only [ym,yr,or_false] at hy
   rcases hy with rfl|rfl|rfl
   ·exact nx
   ·exact .inl rfl
   ·exact .inl rfl)
  refine ⟨t,t2,_,_,[true,true,true],rfl,rfl,SqT.of (s2 _ _ ht),SqT.of Jj9,rfl,rfl,λi x y b h1 h2 h3=>.inl (sm i x y b h1 h2 h3),?_⟩
  refine ⟨_,rfl,Jl4 ?_⟩
  refine ⟨_,rfl,t,_,0,_,rfl,rfl,SqT.of (s2 _ _ ht),rfl,_,_,_,ty,b,rfl,rfl,Jmp s2 tx,eb,_,rfl,_,_,_,ty,b,rfl,rfl,Jmp s2 tx,eb,rfl,?_⟩
  rw [decide_eq_true rfl]
  exact k _ s2
theorem sc_law_asked_odd:Jjj ["_law_keeper","_law_thing","_law_found","e"] ["_law_keeper","_law_thing"] (Jje (top 85)):=⟨rfl,rfl,rfl,by decide +kernel,rfl,by decide +kernel,by decide +kernel⟩
theorem Jqk (T:Tx K mg a):FnOk P w K mg base CX0 6 a.Ji8 a.Ji9 ["_law_keeper","_law_thing"] (spLAsk K a):=by
 have G_keeper:=λf=>Jxm (P:=P) (w:=w) (base:=base) T f
 refine T.Ja8.fn.ok sc_law_asked_odd (λvs H Q E h=>?_) (λcdv A outer s H vs Q E hr h=>?_)
 ·obtain ⟨f,r,d,Bs,c,g,ns,x,rfl,_⟩:=h
  rfl
 ·obtain ⟨f,r,d,Bs,c,g,ns,x,rfl,kp,rv,l16,sx,k⟩:=h
  refine ⟨?t,?B,?C⟩
  case B=>
   refine' Jjd ?s1 ?r1
   case s1=>
    exact (Jju (i:=2) sc_law_asked_odd.nd rfl (ye rfl) Jl7)
   case r1=>
    refine' Jjd ?s3 ?r3
    case s3=>
     exact (Yau ⟨rfl,rfl⟩ (λ_ _ hw=>(Jjc (Jkv (Jzt hw G_keeper hr (by decide) 0 (Jj8 (pv 1) (Jj8 Jjb Jja)))))) (by exact ph_as T.Jcm T.Jb8 sc_law_asked_odd.nd (i:=3) rfl rfl (λ_=>(Jjc (Jju (i:=2) sc_law_asked_odd.nd rfl (ye rfl) (Jk5 (Jj8 (Jyp (pv 3) (by rfl)) (Jj8 (Jji Jkr (by rfl) T.Jar Jjp (Jj8 (pv 3) (Jj8 (Jkk (by rfl) T.Jb2 (v:=.ref _) rfl) Jja))) (Jj8 (Jji Jnm (by rfl) T.Jar Jjp (Jj8 (pv 3) (Jj8 (Jk5 (Jj8 (Jkk (by rfl) T.Jba (v:=.ref _) rfl) (Jj8 (Jkk (by rfl) T.Jb9 (v:=.ref _) rfl) Jja))) Jja))) Jja))))))) Yaq))
    case r3=>
     refine' Jjc ?s5
     case s5=>
      exact (Jjk (pv 2))
  refine λpins=>⟨f,rfl,_,rfl,[.ref d,.ref r],kp.2,d,r,x,.int 0,Bs,c,g,rfl,rfl,rv,l16,sx,?_⟩
  intro c eo H1 rf
  obtain ⟨e,dx,rfl,rfl,s1,q1,q2⟩:=rf
  have ty:∀{H'},Same H1 H'->TyX K H' (.ref e) (.ref a.Jiu):=λs=>.exc (s _ _ q1) (s _ _ q2) T.Jcl
  refine ⟨e,_,true,rfl,rfl,T.Jeh,Jl4 ?_⟩
  refine ⟨_,rfl,e,_,_,_,dx,_,_,_,rfl,q1,q2,T.Jcl,T.Jdj,rfl,?_⟩
  refine ⟨_,rfl,_,_,_,_,_,rfl,rfl,ty (Same.refl H1),T.Jej,?_⟩
  refine ⟨_,rfl,(show 2<=sizeLine by decide),λtp etp=>?_⟩
  have s2:=Same.upd (o:=.tup [.ref a.Jiw,.ref a.Jiv]) etp
  refine ⟨_,tp,_,_,_,false,rfl,Jj9,rfl,ty s2,T.Jel,(show 3<=sizeLine by decide),λt ht=>?_⟩
  exact ⟨_,rfl,k t _ ((s1.trans s2).trans (Same.upd ht)) Jj9⟩
def Yay (B:BTd) (up left:Int) (lost:List (Option Int)):Bool:=(yu (up+B.rn+1).toNat).all λc:Nat=>okE lost (Jpo B (left+c))
theorem Yaz (B:BTd) (up lv s:Int) (lost:List (Option Int)):Yay B up (lv - lvG B.G s lv) lost=Jm4 B up lv lost s:=by
 unfold Yay Jm4 Jwf Jly
 rw [List.all_map]
 rfl
theorem Jzd {B:BTd} {up hi l:Int} (tg:TGd B) (hl:B.lo<=l/\l<=B.hi) (hh:Jr3 B up hi l=true):(0<=Jl3 B up hi (l - B.lo).toNat/\Jl3 B up hi (l - B.lo).toNat < (nOf B.G:Int))/\lvG B.G (Jl3 B up hi (l - B.lo).toNat) l<=hi/\
  ∀c:Int,0<=c->c<=up+B.rn->(B.lo<=l - lvG B.G (Jl3 B up hi (l - B.lo).toNat) l+c/\l - lvG B.G (Jl3 B up hi (l - B.lo).toNat) l+c<=B.hi)/\Jr3 B up hi (l - lvG B.G (Jl3 B up hi (l - B.lo).toNat) l+c)=true:=by
 have e:B.lo+((l - B.lo).toNat:Int)=l:=by omega
 have hm:(l - B.lo).toNat∈Jn0 B up hi:=ybl.mpr ⟨yaj.mpr (by unfold nLv;omega),hh⟩
 have q:=(Jrp hm).2
 have m:=List.mem_of_mem_head? (Option.mem_def.mpr q)
 obtain ⟨h1,h2⟩:=ybl.mp m
 rw [e] at h1 h2
 refine ⟨Jsq h1,?_,λc c0 c1=>?_⟩
 ·unfold usable at h1
  exact of_decide_eq_true (ybl.mp h1).2
 ·rw [<-Yaz] at h2
  unfold Yay at h2
  rw [yar] at h2
  have ok:=h2 c.toNat (yaj.mpr (by omega))
  rw [show ((c.toNat:Nat):Int)=c by omega] at ok
  revert ok
  unfold Jpo
  split
  ·rename_i rg
   intro ok
   exact ⟨rg,ok⟩
  ·intro ok
   cases ok
def bt (m k:Nat):Bool:=decide ((m/2^k)%2=1)
theorem Yk:∀m:Nat,m < 8->∀k:Nat,k < 3->Builtin.bitAnd ((m:Int)/2^((k:Nat):Int).toNat) 1=if bt m k=true then 1 else 0:=by decide +kernel
theorem low_is:∀m:Nat,m < 8->decide (Builtin.bitAnd (m:Int) 3 > 0)=(bt m 0||bt m 1):=by decide +kernel
theorem Jyu:∀m:Nat,m < 8->1<=m->(bt m 0||bt m 1||bt m 2)=true:=by decide +kernel
def Jn3 (b:Bool) (x g:V):V:=if b=true then x else g
def Jr2 (m:Nat) (x0 x1 x2:V):V:=if bt m 0=true then x0 else if bt m 1=true then x1 else x2
def prtL (m:Nat) (xs gs:List V):List V:=(yu 3).map λk=>Jn3 (bt m k) (xs.getD k .non) (gs.getD k .non)
def Jup (m:Nat) (xs:List V) (j:Nat):List V:=((yu j).filter (bt m)).map λk=>xs.getD k .non
theorem Ycb {m:Nat} (h:m < 8) (h1:1<=m) (x0 x1 x2:V):atI (Jup m [x0,x1,x2] 3) 0=some (Jr2 m x0 x1 x2):=by
 have s:=Jyu m h h1
 have e:(yu 3)= [0,1,2]:=rfl
 unfold Jup Jr2
 rw [e]
 cases h0:bt m 0 with
 |true=>simp only [ycq,h0,if_true];exact Jl6 (j:=0) rfl
 |false=>
  cases h1:bt m 1 with
  |true=>simp only [ycq,h0,h1,if_true,Bool.false_eq_true,if_false];exact Jl6 (j:=0) rfl
  |false=>
   rw [h0,h1] at s
   have h2:bt m 2=true:=s
   simp only [ycq,h0,h1,h2,if_true,Bool.false_eq_true,if_false];rfl
theorem Ya3 (m:Nat) (xs:List V) (j:Nat):Jup m xs (j+1)=if bt m j=true then Jup m xs j++ [xs.getD j .non] else Jup m xs j:=by
 unfold Jup
 rw [yca,yco,yab]
 cases h:bt m j with
 |true=>simp [ycq,h]
 |false=>simp [ycq,h]
theorem Ycc (m:Nat) (xs:List V) (j:Nat):(Jup m xs j).length<=j:=by
 unfold Jup
 rw [yf]
 exact yz (ycb ..) (by simp)
def Yd5 (a:Ad):Sp:=λvs H Q _=>∃(p o t:Addr) (B:BTd),vs= [.ref p,.ref o,.ref t]/\Strm H p/\H a.Jj5=some (.tbl lb_lost_alone)/\BX a H o B/\TldAt H t B/\TGd B/\∀H',But p H H'->Q (.bl true) H'
theorem BX.but {H H':Hp} {p o:Addr} {B:BTd} (st:Strm H p) (b:But p H H') (h:BX a H o B):BX a H' o B:=by
 have k:∀d o,(∀x y z:Int,o≠HO.lst [.int x,.int y,.int z])->H d=some o->H' d=some o:=λd o n e=>b.1 _ _ (Jpr st e n) e
 obtain ⟨dx',g,g1,g0,⟨dy,t',g3,g4⟩,g5⟩:=h
 exact ⟨dx',g,k _ _ (λ_ _ _ z=>by cases z) g1,g0,⟨dy,t',k _ _ (λ_ _ _ z=>by cases z) g3,k _ _ (λ_ _ _ z=>by cases z) g4⟩,g5⟩
theorem Yca {H:Hp} {m:Nat} {x0 x1 x2:V} {g0 g1 g2 lo hi:Int} (h:m < 8) (h1:1<=m) (o0:OddX K H 0 12 x0) (o1:OddX K H 0 12 x1) (o2:OddX K H lo hi x2) (b0:0<=g0/\g0<=12) (b1:0<=g1/\g1<=12):
  (Jua (Jn3 (bt m 0) x0 (.int g0)) (Jn3 (bt m 1) x1 (.int g1)) (Jr2 m x0 x1 x2)\/(Jjo (Jn3 (bt m 0) x0 (.int g0)) 0 12=true/\Jjo (Jn3 (bt m 1) x1 (.int g1)) 0 12=true/\Jjo (Jn3 (bt m 2) x2 (.int g2)) lo hi=false/\Jr2 m x0 x1 x2=Jn3 (bt m 2) x2 (.int g2)))/\
  ((bt m 0||bt m 1)=true->Jua (Jn3 (bt m 0) x0 (.int g0)) (Jn3 (bt m 1) x1 (.int g1)) (Jr2 m x0 x1 x2)):=by
 have s:=Jyu m h h1
 unfold Jr2
 cases h0:bt m 0 with
 |true=>
  have q:Jua (Jn3 true x0 (.int g0)) (Jn3 (bt m 1) x1 (.int g1)) x0:=.inl ⟨o0.2.2,rfl⟩
  exact ⟨.inl q,λ_=>q⟩
 |false=>
  have w0:Jjo (Jn3 false x0 (.int g0)) 0 12=true:=Jl9 b0.1 b0.2
  cases h1:bt m 1 with
  |true=>
   have q:Jua (Jn3 false x0 (.int g0)) (Jn3 true x1 (.int g1)) x1:=.inr ⟨w0,o1.2.2,rfl⟩
   exact ⟨.inl q,λ_=>q⟩
  |false=>
   rw [h0,h1] at s
   have h2:bt m 2=true:=s
   rw [h2]
   exact ⟨.inr ⟨w0,Jl9 b1.1 b1.2,o2.2.2,rfl⟩,λz=>by cases z⟩
theorem Jxx {H:Hp} {b:Bool} {x:V} {g:Int} (h:Tm K H x):Tm K H (Jn3 b x (.int g)):=by
 cases b with
 |true=>exact h
 |false=>exact .inl ⟨g,rfl⟩
theorem tm_bl {H:Hp} {x:V} (h:Tm K H x):∃ty b,TyX K H x ty/\W.kitOne K ty (.type "bool")=some b:=by
 rcases h with ⟨i,rfl⟩|⟨t,ty,e⟩
 ·exact ⟨_,false,.of (.int i),rfl⟩
 ·exact ⟨t,_,ty,(Ybq e).2⟩
theorem sc_law_lone_right:Jjj ["_law_stream_here","_law_basin_here","_law_told","_law_good","_law_odd_here","_law_mask","_law_parts","_law_due","_law_way","_law_found"] ["_law_stream_here","_law_basin_here","_law_told"] (Jje (top 83)):=⟨rfl,rfl,rfl,by decide +kernel,rfl,by decide +kernel,by decide +kernel⟩
theorem Jpt (T:Tx K mg a) (Bm:Bmn mg base):FnOk P w K mg base CX0 10 a.Ji4 a.Ji5 ["_law_stream_here","_law_basin_here","_law_told"] (Yd5 a):=by
 have G__law_take:=Jli (P:=P) (w:=w) (base:=base) T
 have G__law_odd:=Js6 (P:=P) (w:=w) (base:=base) T
 have G__law_same:=Jr1 (P:=P) (w:=w) (base:=base) T
 have G__law_refused:=Jnw (P:=P) (w:=w) T Bm
 have G_lone_setting:=Jrb (P:=P) (w:=w) T Bm
 refine T.Ja6.fn.ok sc_law_lone_right (λvs H Q E h=>?_) (λcdv A outer s H vs Q E hr h=>?_)
 ·obtain ⟨p,o,t,B,rfl,_⟩:=h
  rfl
 ·obtain ⟨p,o,t,B,rfl,st,htb,bx,⟨mm,ht,hmm,sv⟩,tg,k⟩:=h
  have bg:=tg.b
  have b1:=bg.lo
  have b2:=bg.hi
  refine ⟨?t,?B,?C⟩
  case B=>
   refine' Jjd ?s1 ?r1
   case s1=>
    exact (Jju (i:=3) sc_law_lone_right.nd rfl (yad rfl) (Jki (Jj8 (Jjf T.Jy G__law_take hr (by decide) (Jj8 (pv 0) (Jj8 Jjb Jja))) (Jj8 (Jjf T.Jy G__law_take hr (by decide) (Jj8 (pv 0) (Jj8 Jjb Jja))) (Jj8 (Jjt Jks (Jjs Jkg (pv 2) Jjb (λ_ _=>rfl)) (Jjf T.Jy G__law_take hr (by decide) (Jj8 (pv 0) (Jj8 (Jjt Jks (Jjt Jlt (Jjs Jkg (pv 2) Jjb (λ_ _=>rfl)) (Jjs Jkg (pv 2) Jjb (λ_ _=>rfl))) Jjb) Jja)))) Jja)))))
   case r1=>
    refine' Jjd ?s3 ?r3
    case s3=>
     exact (Jju (i:=4) sc_law_lone_right.nd rfl (yad rfl) (Jki (Jj8 (Jjf T.Ja3 G__law_odd hr (by decide) (Jj8 (pv 0) (Jj8 Jjb (Jj8 Jjb Jja)))) (Jj8 (Jjf T.Ja3 G__law_odd hr (by decide) (Jj8 (pv 0) (Jj8 Jjb (Jj8 Jjb Jja)))) (Jj8 (Jjf T.Ja3 G__law_odd hr (by decide) (Jj8 (pv 0) (Jj8 (Jjs Jkg (pv 2) Jjb (λ_ _=>rfl)) (Jj8 (Jjs Jkg (pv 2) Jjb (λ_ _=>rfl)) Jja)))) Jja)))))
    case r3=>
     refine' Jjd ?s5 ?r5
     case s5=>
      refine' Jpa ?f6_0 ?f6_1 ?f6_2 ?f6_3 ?f6_4
      case f6_0=>
       exact PassesOwn.never
      case f6_1=>
       exact rfl
      case f6_2=>
       exact (Jzv (by rfl) T.Jaw (Jj8 Jjb (Jj8 Jjb Jja)))
      case f6_3=>
       exact (Jjl (i:=5) sc_law_lone_right.nd rfl (yad rfl))
      case f6_4=>
       refine' Jjd ?s7 ?r7
       case s7=>
        exact (Jm6 (i:=6) (N:=(["_law_k","_law_good","_law_odd_here","_law_mask"]:List Str)) (ini:=[none,some 3,some 4,some 5]) sc_law_lone_right.nd rfl (ye rfl) rfl (Jl8 (by rfl) T.Jaw (Jj8 Jjb Jja)) (λ_ _ _ _ _=>(Jjl (i:=0) (by decide +kernel:(["_law_k","_law_good","_law_odd_here","_law_mask"]:List Str).Nodup) rfl (ye rfl))) (λ_ _ _ _ _=>Jk0) (λ_ _ _ _ _=>(Jjs (Jlz (K:=K) rfl) (Jki (Jj8 (Jjs (Jlz (K:=K) rfl) (pv 1) (pv 0) (λ_ _=>rfl)) (Jj8 (Jjs (Jlz (K:=K) rfl) (pv 2) (pv 0) (λ_ _=>rfl)) Jja))) (Jjt Jxn (Jjt Yah (pv 3) (pv 0)) Jjb) (λ_ _=>rfl))))
       case r7=>
        refine' Jjd ?s9 ?r9
        case s9=>
         exact (Jju (i:=7) sc_law_lone_right.nd rfl (ye rfl) (Jjs Jjz (Jk3 (N:=(["_law_k","_law_odd_here","_law_mask"]:List Str)) (ini:=[none,some 4,some 5]) rfl (Jl8 (by rfl) T.Jaw (Jj8 Jjb Jja)) (λ_ _ _ _ _=>(Jjl (i:=0) (by decide +kernel:(["_law_k","_law_odd_here","_law_mask"]:List Str).Nodup) rfl (ye rfl))) (λ_ _ _ _ _=>(Jnd (Jk8 Jmh (Jjt Jxn (Jjt Yah (pv 2) (pv 0)) Jjb) Jjb (Jk2 _)))) (λ_ _ _ _ _=>(Jjs (Jlz (K:=K) rfl) (pv 1) (pv 0) (λ_ _=>rfl)))) Jjb (λ_ _=>rfl)))
        case r9=>
         refine' Jjd ?s11 ?r11
         case s11=>
          refine' Jk1 ?c12 ?a12 ?b12
          case c12=>
           exact (Jjy (Jjw (Jjf T.Ja5 G__law_same hr (by decide) (Jj8 (Jjf T.Ja4 G__law_refused hr (by decide) (pa5 Jjb (pv 1) (Jjs Jjz (pv 6) Jjb (λ_ _=>rfl)) (Jjs Jjz (pv 6) Jjb (λ_ _=>rfl)) (Jjs Jjz (pv 6) Jjb (λ_ _=>rfl)))) (Jj8 (pv 7) Jja)))))
          case a12=>
           refine' Jjc ?s13
           case s13=>
            exact (Jjk Jkn)
          case b12=>
           exact Jjn
         case r11=>
          refine' Jjc ?s17
          case s17=>
           refine' Jpa ?f18_0 ?f18_1 ?f18_2 ?f18_3 ?f18_4
           case f18_0=>
            exact PassesOwn.never
           case f18_1=>
            exact rfl
           case f18_2=>
            exact (Jl8 (by rfl) T.Jaw (Jj8 (Jjt Jp7 Jjb (Jk7 Jqb (by rfl) T.Jaq Jui (Jj8 (Jl1 Jw9 (Jjt Jxn (pv 5) Jjb) Jjb (Jk2 _)) Jja))) Jja))
           case f18_3=>
            exact (Jjl (i:=8) sc_law_lone_right.nd rfl (ye rfl))
           case f18_4=>
            refine' Jjd ?s19 ?r19
            case s19=>
             exact (Jju (i:=9) sc_law_lone_right.nd rfl (ye rfl) (Jjf T.Ja4 G__law_refused hr (by decide) (pa5 (pv 8) (pv 1) (Jjs Jjz (pv 6) Jjb (λ_ _=>rfl)) (Jjs Jjz (pv 6) Jjb (λ_ _=>rfl)) Jjb)))
            case r19=>
             refine' Jjc ?s21
             case s21=>
              refine' Jk1 ?c22 ?a22 ?b22
              case c22=>
               exact (Jjy (Jjw (Jjf T.Ja5 G__law_same hr (by decide) (Jj8 (pv 9) (Jj8 (pv 7) Jja)))))
              case a22=>
               refine' Jjc ?s23
               case s23=>
                exact (Jjk Jkn)
              case b22=>
               exact Jjn
     case r5=>
      refine' Jjc ?s27
      case s27=>
       refine' Jjk ?e29_0
       case e29_0=>
        exact (Jl1 Jtx (Jjf T.Jh G_lone_setting.calm hr (by decide) (pa4 (pv 1) (Jjs Jjz (pv 3) Jjb (λ_ _=>rfl)) (Jjs Jjz (pv 3) Jjb (λ_ _=>rfl)) (Jjs Jjz (pv 3) Jjb (λ_ _=>rfl)))) (Jki (pa5 Jl7 Jjb Jjb Jjb Jjb)) (by with_unfolding_all rfl))
  have kt:∀{H'},But p H H'->H' t=some (.tup [.str B.z,.int B.lo,.int B.hi,.int B.st,.int B.rn,.str B.G.kd,.ref mm]):=λb=>b.1 _ _ (Jpr st ht (λ_ _ _ z=>by cases z)) ht
  refine ⟨_,rfl,p,13,rfl,st,by decide,by decide,λg0 H1 g00 g01 c1=>⟨_,rfl,p,13,rfl,c1.2,by decide,by decide,λg1 H2 g10 g11 b2'=>?_⟩⟩
  have c2:=c1.trans b2'
  refine ⟨_,rfl,t,_,1,_,rfl,rfl,SqT.of (kt c2),rfl,_,rfl,_,rfl,t,_,2,_,rfl,rfl,SqT.of (kt c2),rfl,_,rfl,t,_,1,_,rfl,rfl,SqT.of (kt c2),rfl,_,_,rfl,rfl,_,_,rfl,rfl,p,B.hi - B.lo+1,rfl,c2.2,by omega,Jyn (by omega),λg2 H3 g20 g21 b3'=>?_⟩
  have c3:=c2.trans b3'
  refine ⟨_,_,rfl,rfl,(show 3<=sizeLine by decide),λG hG=>?_⟩
  have nG:G≠p:=c3.2.ne hG
  have c4:=c3.same (Same.upd (o:=.lst [.int g0,.int g1,.int (B.lo+g2)]) hG)
  have hG4:(upd H3 G (.lst [.int g0,.int g1,.int (B.lo+g2)])) G=some (.lst [.int g0,.int g1,.int (B.lo+g2)]):=Jj9
  generalize upd H3 G (.lst [.int g0,.int g1,.int (B.lo+g2)])=H4 at c4 hG4⊢
  refine ⟨_,rfl,p,0,12,rfl,c4.2,by decide,λx0 H5 b5 o0=>⟨_,rfl,p,0,12,rfl,b5.2,by decide,λx1 H6 b6 o1=>?_⟩⟩
  have c6:=(c4.trans b5).trans b6
  refine ⟨_,rfl,_,rfl,t,_,1,_,rfl,rfl,SqT.of (kt c6),rfl,_,rfl,t,_,2,_,rfl,rfl,SqT.of (kt c6),rfl,p,B.lo,B.hi,rfl,b6.2,by omega,λx2 H7 b7 o2=>⟨(show 3<=sizeLine by decide),λO hO=>?_⟩⟩
  have c7:=c6.trans b7
  have qO:=Same.upd (o:=.lst [x0,x1,x2]) hO
  have o0':=(o0.ll (LL.but b5.2 (b6.trans b7))).ll (LL.same qO)
  have o1':=(o1.ll (LL.but b6.2 b7)).ll (LL.same qO)
  have o2':=o2.ll (LL.same qO)
  have hG8:=qO _ _ ((b5.trans (b6.trans b7)).1 _ _ nG hG4)
  have hO8:(upd H7 O (.lst [x0,x1,x2])) O=some (.lst [x0,x1,x2]):=Jj9
  have c8:=c7.same qO
  generalize upd H7 O (.lst [x0,x1,x2])=H8 at c8 hG8 hO8 o0' o1' o2'⊢
  clear o0 o1 o2 qO hG4
  have bx8:=bx.but st c8
  have ht8:=c8.1 _ _ (Jpr st htb (λ_ _ _ z=>by cases z)) htb
  have gl0:0<=g0/\g0<=12:=⟨g00,by omega⟩
  have gl1:0<=g1/\g1<=12:=⟨g10,by omega⟩
  refine ⟨1,8,rfl,by decide,?_⟩
  refine Jod (lo:=1) (λi σ H'=>(∃o5 o6 o7 o8 o9:Option V,σ= [some (.ref p),some (.ref o),some (.ref t),some (.ref G),some (.ref O),o5,o6,o7,o8,o9])/\Same H8 H') ⟨⟨_,_,_,_,_,rfl⟩,Same.refl _⟩ ?_ ?_
  ·rintro i σ H' hi ⟨⟨o5,o6,o7,o8,o9,rfl⟩,sm⟩
   have hm:i+1 < 8:=by
    have:i < 7:=hi
    omega
   have em:(1+(i:Int))=((i+1:Nat):Int):=by omega
   rw [em]
   have h1m:1<=i+1:=by omega
   generalize i+1=m at hm h1m em⊢
   have hGm:=sm _ _ hG8
   have hOm:=sm _ _ hO8
   refine ⟨3,rfl,by decide,by decide,λD hD=>?_⟩
   refine Jld (lo:=0) (n:=3) (λj σ H9=>(∃o,σ= [o,some (.ref G),some (.ref O),some (.int (m:Int))])/\Same H' H9/\H9 D=some (.lst ((prtL m [x0,x1,x2] [.int g0,.int g1,.int (B.lo+g2)]).take j))) ⟨⟨_,rfl⟩,Same.upd hD,Jj9⟩ ?_ ?_
   ·rintro j σ H9 hj ⟨⟨o1,rfl⟩,s9,hD9⟩
    have zj:(0+(j:Int))=j:=by omega
    rw [zj]
    have aG:atI [V.int g0,.int g1,.int (B.lo+g2)] (j:Int)=some ([V.int g0,.int g1,.int (B.lo+g2)].getD j .non):=Jl6 (by rw [yao,yn (show j < 3 from hj)];rfl)
    have aO:atI [x0,x1,x2] (j:Int)=some ([x0,x1,x2].getD j .non):=Jl6 (by rw [yao,yn (show j < 3 from hj)];rfl)
    refine Jkf ⟨_,rfl,_,rfl,G,_,(j:Int),_,rfl,rfl,SqL.of (s9 _ _ hGm),aG,_,rfl,_,rfl,O,_,(j:Int),_,rfl,rfl,SqL.of (s9 _ _ hOm),aO,(show 2<=sizeLine by decide),λM hM=>?_⟩
    have sM:=Same.upd (o:=.lst [[V.int g0,.int g1,.int (B.lo+g2)].getD j .non,[x0,x1,x2].getD j .non]) hM
    refine ⟨_,rfl,_,rfl,_,_,rfl,rfl,Int.natCast_nonneg j,_,_,rfl,rfl,M,_,_,Jn3 (bt m j) ([x0,x1,x2].getD j .non) ([V.int g0,.int g1,.int (B.lo+g2)].getD j .non),rfl,rfl,SqL.of Jj9,?_,_,sM _ _ hD9,?_,⟨_,rfl⟩,?_,?_⟩
    ·rw [Yk m hm j hj]
     cases bt m j <;> rfl
    ·rw [yaf]
     exact Jjx (by omega)
    ·intro c2 o' z
     rw [Jjg (Jjh z hD)]
     exact sM _ _ (s9 _ _ z)
    ·rw [Jj9,yan]
     have e:(prtL m [x0,x1,x2] [.int g0,.int g1,.int (B.lo+g2)])[j]?=some (Jn3 (bt m j) ([x0,x1,x2].getD j .non) ([V.int g0,.int g1,.int (B.lo+g2)].getD j .non)):=by
      unfold prtL
      rw [yp,List.getElem?_range hj]
      rfl
     rw [e]
     rfl
   rintro σ1 H1' ⟨_,s1,hD1⟩
   have hD1:H1' D=some (.lst [Jn3 (bt m 0) x0 (.int g0),Jn3 (bt m 1) x1 (.int g1),Jn3 (bt m 2) x2 (.int (B.lo+g2))]):=hD1
   refine ⟨3,rfl,by decide,by decide,λD2 hD2=>?_⟩
   refine Jld (lo:=0) (n:=3) (λj σ H9=>(∃o,σ= [o,some (.ref O),some (.int (m:Int))])/\Same H1' H9/\H9 D2=some (.lst (Jup m [x0,x1,x2] j))) ⟨⟨_,rfl⟩,Same.upd hD2,Jj9⟩ ?_ ?_
   ·rintro j σ H9 hj ⟨⟨o1,rfl⟩,s9,hD9⟩
    have zj:(0+(j:Int))=j:=by omega
    rw [zj]
    have aO:atI [x0,x1,x2] (j:Int)=some ([x0,x1,x2].getD j .non):=Jl6 (by rw [yao,yn (show j < 3 from hj)];rfl)
    refine ⟨_,rfl,_,rfl,_,_,rfl,rfl,Int.natCast_nonneg j,_,_,rfl,rfl,rfl,_,rfl,?_⟩
    have eb:=Yk m hm j hj
    have fs:=Ya3 m [x0,x1,x2] j
    have fl:=Ycc m [x0,x1,x2] j
    cases hb:bt m j with
    |true=>
     rw [hb,if_pos rfl] at fs eb
     refine ifT (decide_eq_true (congrArg V.int eb)) ⟨_,rfl,_,rfl,O,_,(j:Int),_,rfl,rfl,SqL.of (s9 _ _ (s1 _ _ hOm)),aO,_,hD9,?_,⟨_,rfl⟩,?_,?_⟩
     ·exact Jjx (by omega)
     ·intro c2 o' z
      rw [Jjg (Jjh z hD2)]
      exact s9 _ _ z
     ·rw [Jj9,fs]
    |false=>
     rw [hb,if_neg yw] at fs eb
     exact ifF (decide_eq_false λz=>by have:=V.int.inj z;rw [eb] at this;cases this) ⟨⟨_,rfl⟩,s9,by rw [fs];exact hD9⟩
   rintro σ2 H2' ⟨_,s2,hD2'⟩
   refine ⟨D2,_,0,_,rfl,rfl,SqL.of hD2',Ycb hm h1m x0 x1 x2,?_⟩
   have sX:=(sm.trans s1).trans s2
   have hDx:=s2 _ _ hD1
   obtain ⟨bad,bad2⟩:=Yca (g2:=B.lo+g2) hm h1m o0' o1' o2' gl0 gl1
   have t0:=(Jxx (b:=bt m 0) (g:=g0) o0'.1).same sX
   have t1:=(Jxx (b:=bt m 1) (g:=g1) o1'.1).same sX
   have t2:=(Jxx (b:=bt m 2) (g:=B.lo+g2) o2'.1).same sX
   have dt:Tm K H2' (Jr2 m x0 x1 x2)/\Js0 (Jr2 m x0 x1 x2):=by
    unfold Jr2
    split
    ·exact ⟨o0'.1.same sX,o0'.2.1⟩
    ·split
     ·exact ⟨o1'.1.same sX,o1'.2.1⟩
     ·exact ⟨o2'.1.same sX,o2'.2.1⟩
   refine ⟨_,rfl,_,rfl,D,_,0,_,rfl,rfl,SqL.of hDx,rfl,_,rfl,D,_,1,_,rfl,rfl,SqL.of hDx,rfl,_,rfl,D,_,2,_,rfl,rfl,SqL.of hDx,rfl,2,.ref o,_,_,_,Jr2 m x0 x1 x2,rfl,.inr (.inl ⟨rfl,o,B,rfl,bx8.same sX,t0,t1,t2,bad⟩),λtt H3' s3 htt=>?_⟩
   refine ⟨_,rfl,tt,_,rfl,htt,dt.2,tm_bl (dt.1.same s3),λH4' s4=>⟨_,rfl,Jkp ?_⟩⟩
   have sY:=(sX.trans s3).trans s4
   have hD4:=s4 _ _ (s3 _ _ hDx)
   have el:=low_is m hm
   refine ⟨_,rfl,_,_,rfl,rfl,_,_,rfl,rfl,.inr ⟨_,rfl,_,_,rfl,rfl,?_,_,rfl,?_,?_,?_⟩⟩
   ·split <;> exact .inl ⟨by decide,by decide⟩
   ·split <;> decide
   ·split <;> decide
   refine Jod (lo:=0) (λi σ H'=>(∃o8 o9:Option V,σ= [some (.ref p),some (.ref o),some (.ref t),some (.ref G),some (.ref O),some (.int (m:Int)),some (.ref D),some (Jr2 m x0 x1 x2),o8,o9])/\Same H4' H') ⟨⟨_,_,rfl⟩,Same.refl _⟩ ?_ ?_
   ·rintro j σ H5' hj ⟨⟨o8',o9',rfl⟩,s5⟩
    have low:(bt m 0||bt m 1)=true:=by
     rw [<-el]
     cases hc:decide (Builtin.bitAnd (m:Int) 3 > 0) with
     |true=>rfl
     |false=>
      rw [show decide (0 < Builtin.bitAnd (m:Int) 3)=false from hc] at hj
      exact absurd hj (by simp)
    have j2:j < 2:=by
     refine yah hj ?_
     split <;> decide
    have sZ:=sY.trans s5
    refine ⟨_,rfl,_,rfl,_,rfl,D,_,0,_,rfl,rfl,SqL.of (s5 _ _ hD4),rfl,_,rfl,D,_,1,_,rfl,rfl,SqL.of (s5 _ _ hD4),rfl,0+(j:Int),.ref o,_,_,.int 0,Jr2 m x0 x1 x2,rfl,.inl ⟨by omega,((t0.same s3).same s4).same s5,((t1.same s3).same s4).same s5,bad2 low⟩,λtt' H6' s6 htt'=>?_⟩
    exact ⟨_,rfl,_,rfl,tt',_,rfl,htt',dt.2,tm_bl ((((dt.1.same s3).same s4).same s5).same s6),λH7' s7=>⟨_,rfl,Jkp ⟨⟨_,_,rfl⟩,(s5.trans s6).trans s7⟩⟩⟩
   ·rintro σ H5' ⟨⟨o8',o9',rfl⟩,s5⟩
    exact ⟨⟨_,_,_,_,_,rfl⟩,sY.trans s5⟩
  ·rintro σ H' ⟨⟨o5,o6,o7,o8,o9,rfl⟩,sm⟩
   have hGm:=sm _ _ hG8
   refine ⟨_,rfl,_,rfl,G,_,0,_,rfl,rfl,SqL.of hGm,rfl,_,rfl,G,_,1,_,rfl,rfl,SqL.of hGm,rfl,_,rfl,G,_,2,_,rfl,rfl,SqL.of hGm,rfl,o,B,g0,g1,B.lo+g2,rfl,sm _ _ ht8,bx8.same sm,bg,gl0,gl1,⟨by omega,by omega⟩,λH5 s5=>?_⟩
   have hv:(Jom (Jmi B g0 g1) (yx (B.lo+g2))).getD .non= .non\/∃n:Nat,n < 4/\(Jom (Jmi B g0 g1) (yx (B.lo+g2))).getD .non= .int n:=by
    have rb:B.lo<=B.lo+g2/\B.lo+g2<=B.hi:=⟨by omega,by omega⟩
    rw [Yad rb g0 g1]
    cases hh:Jr3 B g0 g1 (B.lo+g2) with
    |false=>exact .inl rfl
    |true=>
     obtain ⟨⟨f0,f1⟩,_⟩:=Jzd tg rb hh
     have l4:=bg.G.len
     have n4:(nOf B.G:Int)<=4:=by
      unfold nOf
      split <;> omega
     rw [if_pos rfl]
     refine .inr ⟨(Jl3 B g0 g1 (B.lo+g2 - B.lo).toNat).toNat,by omega,?_⟩
     show V.int _=V.int _
     congr 1
     omega
   generalize (Jom (Jmi B g0 g1) (yx (B.lo+g2))).getD .non=v at hv⊢
   refine ⟨(show 5<=sizeLine by decide),λL hL=>?_⟩
   have cL:=(c8.same sm).same (s5.trans (Same.upd (o:=.lst [.non,.int 0,.int 1,.int 2,.int 3]) hL))
   have hin:Jm2 v=true/\inV v [.non,.int 0,.int 1,.int 2,.int 3]=true:=by
    rcases hv with rfl|⟨n,hn,rfl⟩
    ·exact ⟨rfl,rfl⟩
    ·refine ⟨rfl,?_⟩
     have:n=0\/n=1\/n=2\/n=3:=by omega
     rcases this with rfl|rfl|rfl|rfl <;> rfl
   refine ⟨L,_,rfl,.inl (SqL.of Jj9),hin.1,rfl,?_⟩
   have q:=k _ cL
   rw [<-hin.2] at q
   exact q
def NoLs (K:W.Frag) (H:Hp) (n:Nat) (x:V):Prop:=NotN K H n x/\Js0 x/\∃ty b,TyX K H x ty/\W.kitOne K ty (.type "bool")=some b
def spLNoL (K:W.Frag):Sp:=λvs H Q _=>∃(p L:Addr) (ns:List Int),vs= [.ref p,.ref L]/\Strm H p/\L≠p/\H L=some (.lst (ns.map V.int))/\(1<=ns.length/\ns.length<=16)/\∀x H',But p H H'->NoLs K H' ns.length x->Q x H'
theorem NoLs.but {H H':Hp} {p:Addr} {n:Nat} {x:V} (st:Strm H p) (b:But p H H') (hx:x≠ .ref p) (h:NoLs K H n x):NoLs K H' n x:=by
 obtain ⟨h1,h2,ty,c,h3,h4⟩:=h
 have ll:=LL.but st b
 refine ⟨?_,h2,ty,c,Jws ll h3,h4⟩
 rcases h1 with ⟨t,e1,e2⟩|⟨l,vs,rfl,e1,e2,e3⟩
 ·exact .inl ⟨t,Jws ll e1,e2⟩
 ·refine .inr ⟨l,vs,rfl,b.1 _ _ (λz=>hx (by rw [z])) e1,e2,?_⟩
  rcases e3 with e3|⟨e3,e4,e5⟩
  ·exact .inl e3
  ·exact .inr ⟨e3,λv hv=>Jyy ll (e4 v hv),e5⟩
theorem Jr0 {H:Hp} {n:Nat} {x:V} {t:Value} {b:Bool} (h:TyX K H x t) (e:W.kitOne K t (.type "list")=some false) (e2:W.kitOne K t (.type "bool")=some b) (nx:Js0 x):NoLs K H n x:=⟨.inl ⟨t,h,e⟩,nx,t,b,h,e2⟩
theorem Juv {H:Hp} {n:Nat} {l:Addr} {vs:List V} (h:H l=some (.lst vs)) (l40:vs.length<=40) (e:vs.length≠n\/(vs.length=n/\(∀v∈vs,Tm K H v)/\∃v∈vs,Jjo v 0 12=false)):NoLs K H n (.ref l):=⟨.inr ⟨l,vs,rfl,h,l40,e⟩,.inr ⟨l,rfl⟩,_,false,.of (.lst h),rfl⟩
theorem Jvq (ns:List Int):Jll (ns.map V.int) none (some (-1))=ns.dropLast.map V.int:=by
 unfold Jll
 rw [HT.sIx_none,yf]
 show ((ns.map V.int).drop 0).take (((-1:Int)+(ns.length:Int)).toNat - 0)=_
 rw [List.drop_zero,List.dropLast_eq_take,List.map_take]
 congr 1
 omega
theorem Yck {H:Hp} {y1 y2 y3 y4 L:Addr} {ns:List Int} (hn:1<=ns.length/\ns.length<=16) (g1:H y1=some (.lst (Jll (ns.map V.int) none (some (-1))))) (g2:H y2=some (.lst (ns.map V.int++ [.int 0]))) (g3:H y3=some (.tup (ns.map V.int))) (g4:H y4=some (.lst [.ref L])) (gL:H L=some (.lst (ns.map V.int))):∀v∈ [V.ref y1,.ref y2,.ref y3,.ref y4],NoLs K H ns.length v:=by
 intro v hv
 simp only [ym,yr,or_false] at hv
 rcases hv with rfl|rfl|rfl|rfl
 ·refine Juv g1 ?_ (.inl ?_)
  ·rw [Jvq,yf,List.length_dropLast];omega
  ·rw [Jvq,yf,List.length_dropLast];omega
 ·refine Juv g2 ?_ (.inl ?_)
  ·simp;omega
  ·simp
 ·exact Jr0 (b:=false) (.of (.tup g3)) rfl rfl (.inr ⟨_,rfl⟩)
 ·refine Juv g4 (show 1<=40 by decide) ?_
  by_cases h1:ns.length=1
  ·refine .inr ⟨h1.symm,λv hv=>?_,.ref L,ybe.mpr rfl,rfl⟩
   rw [ybe.mp hv]
   exact .inr ⟨_,.of (.lst gL),rfl⟩
  ·exact .inl (λz=>h1 z.symm)
theorem Ycj {H:Hp} {d t0:Addr} (n:Nat) (g1:H d=some (.dK [])) (g2:H t0=some (.tup [])):∀v∈ [V.non,.int 5,.str "0",.ref d,.bl true,.ref t0,.int (10^(30:Int).toNat)],NoLs K H n v:=by
 intro v hv
 simp only [ym,yr,or_false] at hv
 rcases hv with rfl|rfl|rfl|rfl|rfl|rfl|rfl
 ·exact Jr0 (b:=false) (.of .non) rfl rfl (.inl rfl)
 ·exact Jr0 (b:=false) (.of (.int _)) rfl rfl (.inl rfl)
 ·exact Jr0 (b:=false) (.of (.str _)) rfl rfl (.inl rfl)
 ·exact Jr0 (b:=false) (.of (.dK g1)) rfl rfl (.inr ⟨_,rfl⟩)
 ·exact Jr0 (b:=true) (.of (.bl _)) rfl rfl (.inl rfl)
 ·exact Jr0 (b:=false) (.of (.tup g2)) rfl rfl (.inr ⟨_,rfl⟩)
 ·exact Jr0 (b:=false) (.of (.int _)) rfl rfl (.inl rfl)
theorem sc_law_no_list:Jjj ["_law_stream_here","_law_good","_law_at","_law_way","_law_some"] ["_law_stream_here","_law_good"] (Jje (top 84)):=⟨rfl,rfl,rfl,by decide +kernel,rfl,by decide +kernel,by decide +kernel⟩
theorem Js5 (T:Tx K mg a):FnOk P w K mg base CX0 3 a.Ji6 a.Ji7 ["_law_stream_here","_law_good"] (spLNoL K):=by
 have G__law_take:=Jli (P:=P) (w:=w) (base:=base) T
 have G__law_odd:=Js6 (P:=P) (w:=w) (base:=base) T
 refine T.Ja7.fn.ok sc_law_no_list (λvs H Q E h=>?_) (λcdv A outer s H vs Q E hr h=>?_)
 ·obtain ⟨p,L,ns,rfl,_⟩:=h
  rfl
 ·obtain ⟨p,L,ns,rfl,st,nL,hL,hn,k⟩:=h
  refine ⟨?t,?B,?C⟩
  case B=>
   refine' Jjd ?s1 ?r1
   case s1=>
    exact (Jju (i:=2) sc_law_no_list.nd rfl (ye rfl) (Jjf T.Jy G__law_take hr (by decide) (Jj8 (pv 0) (Jj8 (Jji Jjq (by rfl) T.Jas Jko (Jj8 (pv 1) Jja)) Jja))))
   case r1=>
    refine' Jjd ?s3 ?r3
    case s3=>
     exact (Jju (i:=3) sc_law_no_list.nd rfl (ye rfl) (Jjf T.Jy G__law_take hr (by decide) (Jj8 (pv 0) (Jj8 Jjb Jja))))
    case r3=>
     refine' Jjd ?s5 ?r5
     case s5=>
      refine' Jk1 ?c6 ?a6 ?b6
      case c6=>
       exact (Jk8 Jmh (pv 3) Jjb (Jk2 _))
      case a6=>
       refine' Jjd ?s7 ?r7
       case s7=>
        exact (Jju (i:=4) sc_law_no_list.nd rfl (ye rfl) (Jki (pa4 (Jnz Jq3 (pv 1) Jpw (Jpx (Ju2 Jqr Jjb))) (Jjt Js8 (pv 1) (Jki (Jj8 Jjb Jja))) (Jk7 Jl2 (by rfl) T.Jb0 Jky (Jj8 (pv 1) Jja)) (Jki (Jj8 (pv 1) Jja)))))
       case r7=>
        refine' Jjc ?s9
        case s9=>
         exact (Jjk (Jjs Jjz (pv 4) (Jjf T.Jy G__law_take hr (by decide) (Jj8 (pv 0) (Jj8 Jjb Jja))) (λ_ _=>rfl)))
      case b6=>
       exact Jjn
     case r5=>
      refine' Jjd ?s13 ?r13
      case s13=>
       refine' Jk1 ?c14 ?a14 ?b14
       case c14=>
        exact (Jk8 Jmh (pv 3) Jjb (Jk2 _))
       case a14=>
        refine' Jjc ?s15
        case s15=>
         refine' Jjk ?e17_0
         case e17_0=>
          refine' Jjs ?e18_0 ?e18_1 ?e18_2 ?e18_3
          case e18_0=>
           exact Jjz
          case e18_1=>
           refine' Jki ?e19_0
           case e19_0=>
            refine' pa7 ?e20_0 ?e20_1 ?e20_2 ?e20_3 ?e20_4 ?e20_5 ?e20_6
            case e20_0=>
             exact Jl7
            case e20_1=>
             exact Jjb
            case e20_2=>
             exact Jm1
            case e20_3=>
             exact Jwd
            case e20_4=>
             exact Jkn
            case e20_5=>
             exact (Jk5 Jja)
            case e20_6=>
             exact (Jjt Jv7 Jjb Jjb)
          case e18_2=>
           exact (Jjf T.Jy G__law_take hr (by decide) (Jj8 (pv 0) (Jj8 Jjb Jja)))
          case e18_3=>
           exact (λ_ _=>rfl)
       case b14=>
        exact Jjn
      case r13=>
       refine' Jjc ?s26
       case s26=>
        exact (Jjk (Jjt Js8 (Jjt Js8 (Jnz Jq3 (pv 1) Jpw (Jpx (pv 2))) (Jki (Jj8 (Jjf T.Ja3 G__law_odd hr (by decide) (Jj8 (pv 0) (Jj8 Jjb (Jj8 Jjb Jja)))) Jja))) (Jnz Jq3 (pv 1) (Jpx (Jjt Jks (pv 2) Jjb)) Jpw)))
  refine ⟨_,rfl,_,rfl,L,_,rfl,.inl (SqL.of hL),p,_,rfl,st,?_,?_,λra H1 a0 a1 c1=>?_⟩
  ·rw [yf];omega
  ·rw [yf];exact Jyn (by omega)
  rw [yf] at a1
  obtain ⟨i,rfl⟩:=ycn a0
  have il:i < ns.length:=by omega
  refine ⟨_,rfl,p,4,rfl,c1.2,by decide,by decide,λwy H2 w0 w1 b2=>?_⟩
  have c2:=c1.trans b2
  have hL2:=c2.1 _ _ nL hL
  refine ⟨_,rfl,rfl,_,rfl,Jog (λq=>?_) (λq=>?_)⟩
  ·refine ⟨_,rfl,_,rfl,_,rfl,L,_,rfl,SqL.of hL2,λy1 hy1=>?_⟩
   have q1:=Same.upd (o:=.lst (Jll (ns.map V.int) none (some (-1)))) hy1
   refine ⟨_,rfl,(show 1<=sizeLine by decide),λz1 hz1=>?_⟩
   have q2:=q1.trans (Same.upd (o:=.lst [.int 0]) hz1)
   refine ⟨L,z1,_,_,rfl,rfl,q2 _ _ hL2,Jj9,?_,λy2 hy2=>?_⟩
   ·rw [yf]
    exact yap (Jjx (by simp;omega))
   have q3:=q2.trans (Same.upd (o:=.lst (ns.map V.int++ [.int 0])) hy2)
   refine ⟨_,rfl,L,_,rfl,.inl ⟨SqL.of (q3 _ _ hL2),λy3 hy3=>?_⟩⟩
   have q4:=q3.trans (Same.upd (o:=.tup (ns.map V.int)) hy3)
   refine ⟨_,rfl,(show 1<=sizeLine by decide),λy4 hy4=>?_⟩
   have u4:=Same.upd (o:=.lst [.ref L]) hy4
   have q5:=q4.trans u4
   refine ⟨(show 4<=sizeLine by decide),λS hS=>?_⟩
   have u5:=Same.upd (o:=.lst [.ref y1,.ref y2,.ref y3,.ref y4]) hS
   have c5:=c2.same q5
   have c6:=c5.same u5
   have nS:S≠p:=c5.2.ne hS
   have g1:=u5 _ _ (u4 _ _ (Same.upd (o:=.tup (ns.map V.int)) hy3 _ _ (Same.upd (o:=.lst (ns.map V.int++ [.int 0])) hy2 _ _ (Same.upd (o:=.lst [.int 0]) hz1 _ _ (Jj9 (H:=H2) (a:=y1) (o:=.lst (Jll (ns.map V.int) none (some (-1)))))))))
   have g2:=u5 _ _ (u4 _ _ (Same.upd (o:=.tup (ns.map V.int)) hy3 _ _ (Jj9 (a:=y2) (o:=.lst (ns.map V.int++ [.int 0])))))
   have g3:=u5 _ _ (u4 _ _ (Jj9 (a:=y3) (o:=.tup (ns.map V.int))))
   have g4:=u5 _ _ (Jj9 (a:=y4) (o:=.lst [.ref L]))
   have gL:=u5 _ _ (q5 _ _ hL2)
   have np:∀y,(∃Hy,But p H Hy/\Hy y=none)->V.ref y≠ .ref p:=λy ⟨Hy,b,e⟩ z=>b.2.ne e (V.ref.inj z)
   have all:=Yck (K:=K) hn g1 g2 g3 g4 gL
   have nn:∀v∈ [V.ref y1,.ref y2,.ref y3,.ref y4],v≠ .ref p:=by
    intro v hv
    simp only [ym,yr,or_false] at hv
    rcases hv with rfl|rfl|rfl|rfl
    ·exact np _ ⟨_,c2,hy1⟩
    ·exact np _ ⟨_,c2.same q2,hy2⟩
    ·exact np _ ⟨_,c2.same q3,hy3⟩
    ·exact np _ ⟨_,c2.same q4,hy4⟩
   refine ⟨_,rfl,_,rfl,p,4,rfl,c6.2,by decide,by decide,λr H7 r0 r1 b7=>?_⟩
   obtain ⟨v,hv,hat⟩:=Juf (xs:=[V.ref y1,.ref y2,.ref y3,.ref y4]) r0 r1
   exact ⟨S,_,_,v,rfl,rfl,SqL.of (b7.1 _ _ nS Jj9),hat,k v H7 (c6.trans b7) ((all v hv).but c6.2 b7 (nn v hv))⟩
  refine ⟨_,rfl,rfl,_,rfl,Jog (λq=>?_) (λq=>?_)⟩
  ·intro d hd
   have s1:=Same.upd (o:=.dK []) hd
   refine ⟨(show 0<=sizeLine by decide),λt0 ht0=>?_⟩
   have s2:=Same.upd (o:=.tup []) ht0
   refine ⟨_,_,rfl,rfl,⟨by decide,by decide,by decide⟩,(show 7<=sizeLine by decide),λS hS=>?_⟩
   have s3:=Same.upd (o:=.lst [.non,.int 5,.str "0",.ref d,.bl true,.ref t0,.int (10^(30:Int).toNat)]) hS
   have c4:=c2.same (s1.trans s2)
   have c5:=c4.same s3
   have nS:S≠p:=c4.2.ne hS
   have g1:=s3 _ _ (s2 _ _ (Jj9 (H:=H2) (a:=d) (o:=.dK [])))
   have g2:=s3 _ _ (Jj9 (a:=t0) (o:=.tup []))
   have all:=Ycj (K:=K) ns.length g1 g2
   have nn:∀v∈ [V.non,.int 5,.str "0",.ref d,.bl true,.ref t0,.int (10^(30:Int).toNat)],v≠ .ref p:=by
    intro v hv
    simp only [ym,yr,or_false] at hv
    rcases hv with rfl|rfl|rfl|rfl|rfl|rfl|rfl
    ·exact λz=>by cases z
    ·exact λz=>by cases z
    ·exact λz=>by cases z
    ·exact λz=>c2.2.ne hd (V.ref.inj z)
    ·exact λz=>by cases z
    ·exact λz=>(c2.same s1).2.ne ht0 (V.ref.inj z)
    ·exact λz=>by cases z
   refine ⟨_,rfl,p,7,rfl,c5.2,by decide,by decide,λr H7 r0 r1 b7=>?_⟩
   obtain ⟨v,hv,hat⟩:=Juf (xs:=[V.non,.int 5,.str "0",.ref d,.bl true,.ref t0,.int (10^(30:Int).toNat)]) r0 r1
   exact ⟨S,_,_,v,rfl,rfl,SqL.of (b7.1 _ _ nS Jj9),hat,k v H7 (c5.trans b7) ((all v hv).but c5.2 b7 (nn v hv))⟩
  ·refine ⟨_,rfl,_,rfl,_,rfl,L,_,rfl,SqL.of hL2,λy1 hy1=>?_⟩
   have q1:=Same.upd (o:=.lst (Jll (ns.map V.int) none (some (i:Int)))) hy1
   have c3:=c2.same q1
   refine ⟨_,rfl,p,0,12,rfl,c3.2,by decide,λx H4 b4 ox=>?_⟩
   have c4:=c3.trans b4
   have n1:y1≠p:=c2.2.ne hy1
   have g1:=b4.1 _ _ n1 (Jj9 (H:=H2) (a:=y1) (o:=.lst (Jll (ns.map V.int) none (some (i:Int)))))
   refine ⟨(show 1<=sizeLine by decide),λy2 hy2=>?_⟩
   have q2:=Same.upd (o:=.lst [x]) hy2
   refine ⟨y1,y2,_,_,rfl,rfl,q2 _ _ g1,Jj9,?_,λy3 hy3=>?_⟩
   ·rw [Jrm _ _ (by simp;omega),yaf]
    exact yap (Jjx (by simp;omega))
   have q3:=q2.trans (Same.upd (o:=.lst (Jll (ns.map V.int) none (some (i:Int))++ [x])) hy3)
   have c5:=c4.same q3
   have hL5:=c5.1 _ _ nL hL
   refine ⟨_,rfl,_,rfl,_,_,rfl,rfl,_,rfl,L,_,rfl,SqL.of hL5,λy4 hy4=>?_⟩
   have q4:=q3.trans (Same.upd (o:=.lst (Jll (ns.map V.int) (some ((i:Int)+1)) none)) hy4)
   refine ⟨y3,y4,_,_,rfl,rfl,Same.upd hy4 _ _ Jj9,Jj9,?_,λy5 hy5=>?_⟩
   ·rw [Jrm _ _ (by simp;omega),show ((i:Int)+1)=((i+1:Nat):Int) by omega,Jpn _ _ (by simp;omega),yay,yaf,List.length_drop]
    exact yap (Jjx (by simp;omega))
   have u5:=Same.upd (o:=.lst (Jll (ns.map V.int) none (some (i:Int))++ [x]++Jll (ns.map V.int) (some ((i:Int)+1)) none)) hy5
   refine k _ _ (c4.same (q4.trans u5)) (Juv Jj9 ?_ (.inr ⟨?_,λv hv=>?_,x,?_,ox.2.2⟩))
   ·rw [Jrm _ _ (by simp;omega),show ((i:Int)+1)=((i+1:Nat):Int) by omega,Jpn _ _ (by simp;omega)]
    simp
    omega
   ·rw [Jrm _ _ (by simp;omega),show ((i:Int)+1)=((i+1:Nat):Int) by omega,Jpn _ _ (by simp;omega)]
    simp
    omega
   ·rw [Jrm _ _ (by simp;omega),show ((i:Int)+1)=((i+1:Nat):Int) by omega,Jpn _ _ (by simp;omega)] at hv
    rcases ybu.mp hv with h|h
    ·rcases ybu.mp h with h|h
     ·exact Jm8 (List.mem_of_mem_take h)
     ·rw [ybe.mp h]
      exact ox.1.same (q4.trans u5)
    ·exact Jm8 (List.mem_of_mem_drop h)
   ·exact yci _ (ybh _ (ybe.mpr rfl))
def TldL (p:Addr) (H:Hp) (ts:List Addr) (Bs:List BTd):Prop:=Paired (λt B=>∃m,m≠p/\TldM H t m B) ts Bs
theorem TldL.same {p:Addr} {H H':Hp} {ts:List Addr} {Bs:List BTd} (s:Same H H') (h:TldL p H ts Bs):TldL p H' ts Bs:=Paired.mapP h λ_ _ ⟨m,n,q⟩=>⟨m,n,q.same s⟩
theorem TldL.but {p:Addr} {H H':Hp} {ts:List Addr} {Bs:List BTd} (st:Strm H p) (b:But p H H') (h:TldL p H ts Bs):TldL p H' ts Bs:=Paired.mapP h λ_ _ ⟨m,n,q⟩=>⟨m,n,q.but st b n⟩
theorem TldM.put {H:Hp} {t m L:Addr} {B:BTd} {xs:List V} {o:HO} (tg:TGd B) (hL:H L=some (.lst xs)) (hx:∀x∈xs,∃q,x=V.ref q) (h:TldM H t m B):TldM (upd H L o) t m B:=by
 have n1:t≠L:=λz=>by have:=h.1;rw [z,hL] at this;cases this
 have n2:m≠L:=λz=>by
  have q:=h.2.1
  rw [z,hL] at q
  have e:=HO.lst.inj (yy.inj q)
  have l:=tg.b.G.len.1
  cases hc:B.G.ns with
  |nil=>rw [hc] at l;simp at l
  |cons x r=>
   rw [hc] at e
   obtain ⟨y,hy⟩:=hx (V.int x) (by rw [e];exact yaq ..)
   cases hy
 exact ⟨by rw [Jjg n1];exact h.1,by rw [Jjg n2];exact h.2.1,h.2.2⟩
theorem Yaj {α β:Type} {F G:α->β->Prop} {l₁:List α} {l₂:List β} (h:Paired F l₁ l₂):(∀x y,y∈l₂->F x y->G x y)->Paired G l₁ l₂:=by
 induction h with
 |nil=>intro _;exact .nil
 |cons h t ih=>intro f;exact .cons (f _ _ (yaq ..) h) (ih λx y hy=>f x y (yak _ hy))
theorem TldL.put {p L:Addr} {H:Hp} {ts us:List Addr} {Bs:List BTd} {o:HO} (tg:∀B∈Bs,TGd B) (hL:H L=some (.lst (us.map V.ref))) (h:TldL p H ts Bs):TldL p (upd H L o) ts Bs:=by
 refine Yaj h λt B hB ⟨m,n,q⟩=>⟨m,n,q.put (tg B hB) hL λx hx=>?_⟩
 obtain ⟨u,_,rfl⟩:=ybd.mp hx
 exact ⟨u,rfl⟩
def SB:List BTd:=[⟨"a",0,12,0,1,⟨"flap",[0],none⟩⟩,⟨"b",0,12,2,1,⟨"flap",[0,4],none⟩⟩]
theorem sb_a:TGd ⟨"a",0,12,0,1,⟨"flap",[0],none⟩⟩:=⟨⟨by decide,by decide,by decide,⟨.inr (.inl rfl),by decide +kernel,λi h=>by cases h⟩⟩,by decide,by decide +kernel,Jya (by decide +kernel)⟩
theorem sb_b:TGd ⟨"b",0,12,2,1,⟨"flap",[0,4],none⟩⟩:=⟨⟨by decide,by decide,by decide,⟨.inr (.inl rfl),by decide +kernel,λi h=>by cases h⟩⟩,by decide,by decide +kernel,Jya (by decide +kernel)⟩
theorem sb_g:RGd SB:=⟨by decide,λB hB=>by
 simp only [SB,ym,yr,or_false] at hB
 rcases hB with rfl|rfl
 ·exact sb_a
 ·exact sb_b⟩
theorem sb_p:Jz4 SB [1,4]=true:=by decide +kernel
theorem sb_k:Jsk SB [1,4] [0,2]= [0,0]:=by decide +kernel
def Yd7 (a:Ad):Sp:=λvs H Q _=>vs= []/\∀y H',Same H H'->RivAt a H' y SB 2 1->Q (.ref y) H'
theorem Yi {K:W.Frag} {a:Ad} {H:Hp} {os:List Addr} {Bs:List BTd} (h:Paired (λo B=>BX a H o B) os Bs):(∀B∈Bs,TGd B)->∃Cs:List Bsn,BasL K a H os Cs/\Cs.map (·.z)=Bs.map (·.z)/\Cs.length=Bs.length:=by
 induction h with
 |nil=>intro _;exact ⟨[],trivial,rfl,rfl⟩
 | @cons o B os Bs h t ih=>
  intro tg
  obtain ⟨Cs,c1,c2,c3⟩:=ih λB' hB'=>tg B' (yak _ hB')
  obtain ⟨dx,g,h1,gx⟩:=h
  exact ⟨⟨B.z,B.lo,B.hi,B.st,B.rn,g,nOf B.G⟩::Cs,⟨⟨dx,h1,gx.gs (tg B (yaq ..)).b.G⟩,c1⟩,by simp [c2],by simp [c3]⟩
theorem Jyi:cOf a "flap" =a.Jiz:=by unfold cOf;rw [if_neg Jtu,if_pos rfl]
theorem sc_law_safe_river:Jjj ["_law_basins"] [] (Jje (top 86)):=⟨rfl,rfl,rfl,by decide +kernel,rfl,by decide +kernel,by decide +kernel⟩
theorem Jpu (T:Tx K mg a):FnOk P w K mg base CX0 7 a.Jia a.Jib [] (Yd7 a):=by
 have G_FlapGate___init__:=Jn2 (P:=P) (w:=w) (base:=base) T
 have G_Basin___init__:=Jor (P:=P) (w:=w) (base:=base) T
 have G_River___init__:=Jos (P:=P) (w:=w) (base:=base) T
 refine T.Ja9.fn.ok sc_law_safe_river (λvs H Q E h=>?_) (λcdv A outer s H vs Q E hr h=>?_)
 ·obtain ⟨rfl,_⟩:=h
  rfl
 ·obtain ⟨rfl,k⟩:=h
  refine ⟨?t,?B,?C⟩
  case B=>
   refine' Jjd ?s1 ?r1
   case s1=>
    exact (Jju (i:=0) sc_law_safe_river.nd rfl (ye rfl) (Jki (Jj8 (Jlw T.Jda G_Basin___init__.calm (hr.mono (by decide)) (by rfl) T.Jbf T.Jcd.bd .nil Jmm (pa6 Jm1 Jjb Jjb Jjb Jjb (Jlw T.Jcy G_FlapGate___init__.calm (hr.mono (by decide)) (by rfl) T.Jbd T.Jc7.bd .nil Jmm (Jj8 (Jki (Jj8 Jjb Jja)) Jja)))) (Jj8 (Jlw T.Jda G_Basin___init__.calm (hr.mono (by decide)) (by rfl) T.Jbf T.Jcd.bd .nil Jmm (pa6 Jm1 Jjb Jjb Jjb Jjb (Jlw T.Jcy G_FlapGate___init__.calm (hr.mono (by decide)) (by rfl) T.Jbd T.Jc7.bd .nil Jmm (Jj8 (Jki (Jj8 Jjb (Jj8 Jjb Jja))) Jja)))) Jja))))
   case r1=>
    refine' Jjc ?s3
    case s3=>
     refine' Jjk ?e5_0
     case e5_0=>
      exact (Jlw T.Jde G_River___init__.calm (hr.mono (by decide)) (by rfl) T.Jbh T.Jce.bd .nil Jmm (pa4 Jjb Jjb (pv 0) (Jki Jja)))
  refine ⟨(show 1<=sizeLine by decide),λm1 hm1=>?_⟩
  have u1:=Same.upd (o:=.lst [.int 0]) hm1
  intro g1 dx1 hg1 hd1 ne1
  refine Jnn T.Jcw T.Jdn hg1 hd1 ne1 ⟨[.int 0],.lst Jj9,λy hy=>Jm8 (ns:=[0]) hy,by decide +kernel,λH1 s1 ga1=>?_⟩
  have gx1:GX a H1 (.ref g1) ⟨"flap",[0],none⟩:=⟨g1,by rw [Jyi];exact ga1,rfl⟩
  have gs1:GS K a H1 (.ref g1) (nOf ⟨"flap",[0],none⟩):=gx1.gs sb_a.b.G
  intro x1 dy1 hx1 hy1 nx1
  have sn1:Same H1 (upd (upd H1 dy1 (.own x1)) x1 (.ins a.Jj1 dy1 [])):=λb o e=>by rw [Jjg (Jjh e hx1),Jjg (Jjh e hy1)];exact e
  refine ⟨x1,dy1,.str "a",.int 0,.int 12,.int 0,.int 1,.ref g1,true,none,rfl,Jj9,⟨.inr ⟨_,.of (.str _),rfl⟩,λy e=>by cases e;exact sb_a.wd⟩,.inl ⟨_,rfl⟩,.inl ⟨_,rfl⟩,.inl ⟨_,rfl⟩,.inl ⟨_,rfl⟩,(gs1.gti T).same sn1,.good 0 12 sb_a.nm rfl rfl (by decide) (by decide) (by decide) (by decide) rfl,λH2 s2=>⟨rfl,?_⟩⟩
  have s3:Same H1 (upd H2 x1 (.ins a.Jj1 dy1 (Jsu (.str "a") (.int 0) (.int 12) (.int 0) (.int 1) (.ref g1)))):=λb o e=>by rw [Jjg (Jjh e hx1)];exact s2 _ _ (sn1 _ _ e)
  have bx1:BX a (upd H2 x1 (.ins a.Jj1 dy1 (Jsu (.str "a") (.int 0) (.int 12) (.int 0) (.int 1) (.ref g1)))) x1 ⟨"a",0,12,0,1,⟨"flap",[0],none⟩⟩:=⟨dy1,_,Jj9,gx1.same s3⟩
  have w3:=(u1.trans s1).trans s3
  generalize upd H2 x1 (.ins a.Jj1 dy1 (Jsu (.str "a") (.int 0) (.int 12) (.int 0) (.int 1) (.ref g1)))=H3 at w3 bx1⊢
  refine ⟨(show 2<=sizeLine by decide),λm2 hm2=>?_⟩
  have u4:=Same.upd (o:=.lst [.int 0,.int 4]) hm2
  intro g2 dx2 hg2 hd2 ne2
  refine Jnn T.Jcw T.Jdn hg2 hd2 ne2 ⟨[.int 0,.int 4],.lst Jj9,λy hy=>Jm8 (ns:=[0,4]) hy,by decide +kernel,λH4 s4 ga2=>?_⟩
  have gx2:GX a H4 (.ref g2) ⟨"flap",[0,4],none⟩:=⟨g2,by rw [Jyi];exact ga2,rfl⟩
  have gs2:GS K a H4 (.ref g2) (nOf ⟨"flap",[0,4],none⟩):=gx2.gs sb_b.b.G
  intro x2 dy2 hx2 hy2 nx2
  have sn2:Same H4 (upd (upd H4 dy2 (.own x2)) x2 (.ins a.Jj1 dy2 [])):=λb o e=>by rw [Jjg (Jjh e hx2),Jjg (Jjh e hy2)];exact e
  refine ⟨x2,dy2,.str "b",.int 0,.int 12,.int 2,.int 1,.ref g2,true,none,rfl,Jj9,⟨.inr ⟨_,.of (.str _),rfl⟩,λy e=>by cases e;exact sb_b.wd⟩,.inl ⟨_,rfl⟩,.inl ⟨_,rfl⟩,.inl ⟨_,rfl⟩,.inl ⟨_,rfl⟩,(gs2.gti T).same sn2,.good 0 12 sb_b.nm rfl rfl (by decide) (by decide) (by decide) (by decide) rfl,λH5 s5=>⟨rfl,?_⟩⟩
  have s6:Same H4 (upd H5 x2 (.ins a.Jj1 dy2 (Jsu (.str "b") (.int 0) (.int 12) (.int 2) (.int 1) (.ref g2)))):=λb o e=>by rw [Jjg (Jjh e hx2)];exact s5 _ _ (sn2 _ _ e)
  have bx2:BX a (upd H5 x2 (.ins a.Jj1 dy2 (Jsu (.str "b") (.int 0) (.int 12) (.int 2) (.int 1) (.ref g2)))) x2 ⟨"b",0,12,2,1,⟨"flap",[0,4],none⟩⟩:=⟨dy2,_,Jj9,gx2.same s6⟩
  have w6:=(u4.trans s4).trans s6
  have v6:=w3.trans w6
  have bx1':=bx1.same w6
  generalize upd H5 x2 (.ins a.Jj1 dy2 (Jsu (.str "b") (.int 0) (.int 12) (.int 2) (.int 1) (.ref g2)))=H6 at v6 bx1' bx2⊢
  refine ⟨(show 2<=sizeLine by decide),λD hD=>?_⟩
  have u7:=Same.upd (o:=.lst [.ref x1,.ref x2]) hD
  refine ⟨_,rfl,(show 0<=sizeLine by decide),λM hM=>?_⟩
  have u8:=Same.upd (o:=.lst []) hM
  have po:Paired (λo B=>BX a H6 o B) [x1,x2] SB:=.cons bx1' (.cons bx2 .nil)
  intro y dy hy hdy ne
  have sn:Same (upd (upd H6 D (.lst [.ref x1,.ref x2])) M (.lst [])) (upd (upd (upd (upd H6 D (.lst [.ref x1,.ref x2])) M (.lst [])) dy (.own y)) y (.ins a.Jj3 dy [])):=λb o e=>by rw [Jjg (Jjh e hy),Jjg (Jjh e hdy)];exact e
  have s8n:=(u7.trans u8).trans sn
  obtain ⟨Cs,bl,cz,cl'⟩:=Yi (K:=K) (Paired.mapP po λ_ _ q=>q.same s8n) sb_g.all
  have cl2:Cs.length=2:=cl'
  refine ⟨y,dy,D,M,2,1,[x1,x2],[],Cs,[],rfl,Jj9,by decide,by decide,sn _ _ (u8 _ _ Jj9),bl,by omega,by rw [cz];decide +kernel,sn _ _ Jj9,trivial,by simp,ybk,(λt h=>nomatch h),λH9 b t s9 hb ht nb nt=>⟨rfl,?_⟩⟩
  have s10:Same H6 (upd H9 y (.ins a.Jj3 dy (Jxu (.int 2) (.int 1) (.ref b) (.ref t)))):=λd o e=>by
   rw [Jjg (Jjh (u8 _ _ (u7 _ _ e)) hy)]
   exact s9 _ _ (s8n _ _ e)
  exact k y _ (v6.trans s10) ⟨dy,b,t,[x1,x2],Jj9,by rw [Jjg nb];exact hb,Paired.mapP po λ_ _ q=>q.same s10⟩
theorem BX.put {a:Ad} {H:Hp} {o D:Addr} {B:BTd} {xs:List V} {u:HO} (hD:H D=some (.lst xs)) (h:BX a H o B):BX a (upd H D u) o B:=by
 obtain ⟨dx,g,h1,g0,⟨dy,t,h3,h4⟩,h5⟩:=h
 have n:∀{b:Addr} {v:HO},H b=some v->(∀ys,v≠ .lst ys)->(upd H D u) b=some v:=λe ne=>by
  rw [Jjg λz=>?_]
  ·exact e
  ·rw [z,hD] at e
   exact ne _ (yy.inj e).symm
 exact ⟨dx,g,n h1 (λ_ z=>by cases z),g0,⟨dy,t,n h3 (λ_ z=>by cases z),n h4 (λ_ z=>by cases z)⟩,h5⟩
def ABC:Str:="abc"
def nmA (i:Nat):Str:=(⟨#[ABC.cps.getD i 0]⟩:Str)
theorem nmA_ok:∀i,i < 3->Jqz (nmA i)=true/\(decide ((nmA i).length<=50)&&(nmA i).cps.toList.all (λc=>decide (c < 128)))=true:=by decide +kernel
theorem nmA_nd:∀n,n<=3->((yu n).map nmA).Nodup:=by decide +kernel
theorem abc_at {i:Nat} (h:i < 3):atI ABC.cps.toList (i:Int)=some (ABC.cps.getD i 0):=by
 have:∀i,i < 3->ABC.cps.toList[i]?=some (ABC.cps.getD i 0):=by decide +kernel
 exact Jl6 (this i h)
theorem RivAt.but {a:Ad} {p:Addr} {H H':Hp} {r:Addr} {Bs:List BTd} {c g:Int} (st:Strm H p) (b:But p H H') (h:RivAt a H r Bs c g):RivAt a H' r Bs c g:=by
 obtain ⟨dx,q,t,os,h1,h2,h3⟩:=h
 have k:∀d o,(∀x y z:Int,o≠HO.lst [.int x,.int y,.int z])->H d=some o->H' d=some o:=λd o n e=>b.1 _ _ (Jpr st e n) e
 exact ⟨dx,q,t,os,k _ _ (λ_ _ _ z=>by cases z) h1,k _ _ (λ_ _ _ z=>by cases z) h2,Paired.mapP h3 λo B q=>q.but st b⟩
theorem KprAt.same {H H':Hp} {f r d:Addr} {Bs:List BTd} {ns:List Int} (s:Same H H') (h:KprAt H f r d Bs ns):KprAt H' f r d Bs ns:=⟨h.1.same s,h.2.same s⟩
theorem Jvs {K:W.Frag} {H:Hp}:∀ns:List Int,DatVs K H (ns.map V.int) (ns.map PyData.int):=by
 intro ns
 induction ns with
 |nil=>exact .nil
 |cons n r ih=>exact .cons (.int n) ih
def spLaw (K:W.Frag) (a:Ad):Sp:=λvs H Q _=>∃(x:Addr) (ns:List Int),vs= [.ref x]/\SqL K H x (ns.map V.int)/\ns.length<=63/\H a.Jj5=some (.tbl lb_lost_alone)/\H a.Jj7=some (.tbl lb_local_keeper)/\∀H',Q (.bl true) H'
theorem Ydh {H:Hp} {a1 b1 a2 b2 a3 b3 a4 b4 a5 b5 a6 b6 t0:Addr} (g1:H a1=some (.tup [.int 0])) (g2:H b1=some (.tup [.ref a1,.int 0])) (g3:H a2=some (.tup [.int 0,.int 0])) (g4:H b2=some (.tup [.ref a2,.int 3])) (g5:H a3=some (.tup [.int 0,.int 13])) (g6:H b3=some (.tup [.ref a3,.int 0]))
  (g7:H b4=some (.lst [.ref a4,.int 0])) (g8:H a5=some (.tup [.int 0,.bl true])) (g9:H b5=some (.tup [.ref a5,.int 0])) (g10:H a6=some (.tup [.int 0,.int 0,.int 0])) (g11:H b6=some (.tup [.ref a6,.int 1])) (g12:H t0=some (.tup [])):
  ∀v∈ [V.non,.int 3,.ref b1,.ref b2,.ref b3,.ref b4,.ref b5,.ref b6,.ref t0],StdX K H SB 2 v/\Js0 v:=by
 have ti:∀i:Int,Tm K H (.int i):=λi=>.inl ⟨i,rfl⟩
 intro v hv
 simp only [ym,yr,or_false] at hv
 rcases hv with rfl|rfl|rfl|rfl|rfl|rfl|rfl|rfl|rfl
 ·exact ⟨.inl ⟨_,.of .non,rfl⟩,.inl rfl⟩
 ·exact ⟨.inl ⟨_,.of (.int _),rfl⟩,.inl rfl⟩
 ·refine ⟨.inr ⟨b1,_,rfl,g2,.inr ⟨_,_,rfl,ti 0,.inr ⟨by decide,some [.int 0],⟨a1,rfl,g1,λv hv=>?_,by decide⟩,by decide +kernel⟩⟩⟩,.inr ⟨_,rfl⟩⟩
  rw [ybe.mp hv]
  exact ti 0
 ·exact ⟨.inr ⟨b2,_,rfl,g4,.inr ⟨_,_,rfl,ti 3,.inl (by decide)⟩⟩,.inr ⟨_,rfl⟩⟩
 ·refine ⟨.inr ⟨b3,_,rfl,g6,.inr ⟨_,_,rfl,ti 0,.inr ⟨by decide,some [.int 0,.int 13],⟨a3,rfl,g5,λv hv=>?_,by decide⟩,by decide +kernel⟩⟩⟩,.inr ⟨_,rfl⟩⟩
  exact Jm8 (ns:=[0,13]) hv
 ·exact ⟨.inl ⟨_,.of (.lst g7),rfl⟩,.inr ⟨_,rfl⟩⟩
 ·refine ⟨.inr ⟨b5,_,rfl,g9,.inr ⟨_,_,rfl,ti 0,.inr ⟨by decide,some [.int 0,.bl true],⟨a5,rfl,g8,λv hv=>?_,by decide⟩,by decide +kernel⟩⟩⟩,.inr ⟨_,rfl⟩⟩
  simp only [ym,yr,or_false] at hv
  rcases hv with rfl|rfl
  ·exact ti 0
  ·exact .inr ⟨_,.of (.bl _),rfl⟩
 ·refine ⟨.inr ⟨b6,_,rfl,g11,.inr ⟨_,_,rfl,ti 1,.inr ⟨by decide,some [.int 0,.int 0,.int 0],⟨a6,rfl,g10,λv hv=>?_,by decide⟩,by decide +kernel⟩⟩⟩,.inr ⟨_,rfl⟩⟩
  exact Jm8 (ns:=[0,0,0]) hv
 ·exact ⟨.inr ⟨t0,_,rfl,g12,.inl (by decide)⟩,.inr ⟨_,rfl⟩⟩
theorem StdX.ll {H H':Hp} {Bs:List BTd} {c:Int} {x:V} (s:LL H H') (h:StdX K H Bs c x):StdX K H' Bs c x:=by
 have tp:∀{p vs},H p=some (.tup vs)->H' p=some (.tup vs):=λe=>s.get (λ_ z=>by cases z) e
 rcases h with ⟨t,h1,h2⟩|⟨p,vs,rfl,h1,h2⟩
 ·exact .inl ⟨t,Jws s h1,h2⟩
 ·refine .inr ⟨p,vs,rfl,tp h1,?_⟩
  rcases h2 with h2|⟨u,v,rfl,h3,h4⟩
  ·exact .inl h2
  ·refine .inr ⟨u,v,rfl,Jyy s h3,?_⟩
   rcases h4 with h4|⟨h4,rr,h5,h6⟩
   ·exact .inl h4
   ·refine .inr ⟨h4,rr,?_,h6⟩
    cases rr with
    |none=>obtain ⟨t,e1,e2⟩:=h5;exact ⟨t,Jws s e1,e2⟩
    |some ws=>obtain ⟨q,e1,e2,e3,e4⟩:=h5;exact ⟨q,e1,tp e2,λv hv=>Jyy s (e3 v hv),e4⟩
theorem sc_law:Jjj ["_law_script","_law_river","_law_keeper","_law_k","_law_stream_here","_law_told","_law_basins","_law_other","_law_thing","_law_odd_here"] ["_law_script"] (Jje (top 87)):=⟨rfl,rfl,rfl,by decide +kernel,rfl,by decide +kernel,by decide +kernel⟩
theorem ok_law (T:Tx K mg a) (B:Bmn mg base):FnOk P w K mg base CX0 12 a.a_law a.d_law ["_law_script"] (spLaw K a):=by
 have G__law_cell:=Jw6 (P:=P) (w:=w) (base:=base) T
 have G__law_stream:=Jt3 (P:=P) (w:=w) (base:=base) T
 have G__law_take:=Jli (P:=P) (w:=w) (base:=base) T
 have G__law_basin:=Jv2 (P:=P) (w:=w) (base:=base) T
 have G__law_made:=Jw8 (P:=P) (w:=w) (base:=base) T
 have G_River___init__:=Jos (P:=P) (w:=w) (base:=base) T
 have G__law_safe_river:=Jpu (P:=P) (w:=w) (base:=base) T
 have G__law_lone_right:=Jpt (P:=P) (w:=w) T B
 have G__law_no_list:=Js5 (P:=P) (w:=w) (base:=base) T
 have G__law_same:=Jr1 (P:=P) (w:=w) (base:=base) T
 have G__law_refused:=Jnw (P:=P) (w:=w) T B
 have G__law_asked_odd:=Jqk (P:=P) (w:=w) (base:=base) T
 have G_local_keeper:=Jra (P:=P) (w:=w) T B
 have G_are_promises:=fn_or (Jr8 (P:=P) (w:=w) T B) (Jqj (P:=P) (w:=w) (base:=base) T)
 have G_keeper:=λf=>(Jzq (P:=P) (w:=w) (base:=base) T f).calm
 refine T.f_law.fn.ok sc_law (λvs H Q E h=>?_) (λcdv A outer s H vs Q E hr h=>?_)
 ·obtain ⟨x,ns,rfl,_⟩:=h
  rfl
 ·obtain ⟨x,ns,rfl,hS,hl,htb,htk,k⟩:=h
  have hu64:=Jre hr
  refine ⟨?t,?B,?C⟩
  case B=>
   refine' Jjd ?s1 ?r1
   case s1=>
    exact (Jju (i:=1) sc_law.nd rfl (ye rfl) (Jzs T.Ja9 G__law_safe_river hr (by decide)))
   case r1=>
    refine' Jjd ?s3 ?r3
    case s3=>
     exact (Jju (i:=2) sc_law.nd rfl (ye rfl) (Jjf T.Jp G_local_keeper.calm hr (by decide) (Jj8 (pv 1) (Jj8 (Jki (Jj8 Jjb (Jj8 Jjb Jja))) Jja))))
    case r3=>
     refine' Jjd ?s5 ?r5
     case s5=>
      refine' Jpa ?f6_0 ?f6_1 ?f6_2 ?f6_3 ?f6_4
      case f6_0=>
       exact PassesOwn.never
      case f6_1=>
       exact rfl
      case f6_2=>
       exact (Jl8 (by rfl) T.Jaw (Jj8 (Jji (Job rfl) (by rfl) T.Jau Juj (Jj8 Jjb (Jj8 (Jji (Jti rfl) (by rfl) T.Jav Yl (Jj8 Jjb (Jj8 (Jji Jjq (by rfl) T.Jas Jko (Jj8 (pv 0) Jja)) Jja))) Jja))) Jja))
      case f6_3=>
       exact (Jjl (i:=3) sc_law.nd rfl (ye rfl))
      case f6_4=>
       refine' Jjd ?s7 ?r7
       case s7=>
        exact (Jju (i:=4) sc_law.nd rfl (yad rfl) (Jjf T.Jx G__law_stream hr (by decide) (Jj8 (Jjf T.Jw G__law_cell hr (by decide) (Jj8 (pv 0) (Jj8 (pv 3) Jja))) Jja)))
       case r7=>
        refine' Jjd ?s9 ?r9
        case s9=>
         exact (Jm6 (i:=5) (N:=(["_law_at","_law_stream_here"]:List Str)) (ini:=[none,some 4]) sc_law.nd rfl (ye rfl) rfl (Jl8 (by rfl) T.Jaw (Jj8 (Jjt Jks Jjb (Jjf T.Jy G__law_take hr (by decide) (Jj8 (pv 4) (Jj8 Jjb Jja)))) Jja)) (λ_ _ _ _ _=>(Jjl (i:=0) (by decide +kernel:(["_law_at","_law_stream_here"]:List Str).Nodup) rfl (ye rfl))) (λ_ _ _ _ _=>Jk0) (λ_ _ _ _ _=>(Jjf T.Ja0 G__law_basin hr (by decide) (Jj8 (pv 1) (Jj8 (Jjs ix_str Jm1 (pv 0) (λ_ _=>rfl)) Jja)))))
        case r9=>
         refine' Jjd ?s11 ?r11
         case s11=>
          exact (Jm6 (i:=6) (N:=(["_law_one"]:List Str)) (ini:=[none]) sc_law.nd rfl (ye rfl) rfl (Jku (pv 5)) (λ_ _ _ _ _=>(Jjl (i:=0) (by decide +kernel:(["_law_one"]:List Str).Nodup) rfl (ye rfl))) (λ_ _ _ _ _=>Jk0) (λ_ _ _ _ _=>(Jjf T.Ja2 G__law_made hr (by decide) (Jj8 (pv 0) Jja))))
         case r11=>
          refine' Jjd ?s13 ?r13
          case s13=>
           refine' Jk1 ?c14 ?a14 ?b14
           case c14=>
            exact (Jjy (Jjw (Jjf T.Ja6 G__law_lone_right hr (by decide) (Jj8 (pv 4) (Jj8 (Jjs Jjz (pv 6) Jjb (λ_ _=>rfl)) (Jj8 (Jjs Jjz (pv 5) Jjb (λ_ _=>rfl)) Jja))))))
           case a14=>
            refine' Jjc ?s15
            case s15=>
             exact (Jjk Jkn)
           case b14=>
            exact Jjn
          case r13=>
           refine' Jjd ?s19 ?r19
           case s19=>
            exact (Jju (i:=7) sc_law.nd rfl (ye rfl) (Jlw T.Jde G_River___init__.calm (hr.mono (by decide)) (by rfl) T.Jbh T.Jce.bd .nil Jmm (pa4 (Jjf T.Jy G__law_take hr (by decide) (Jj8 (pv 4) (Jj8 Jjb Jja))) Jjb (pv 6) (Jki Jja))))
           case r19=>
            refine' Jjd ?s21 ?r21
            case s21=>
             exact (Jju (i:=8) sc_law.nd rfl (ye rfl) (Jjf T.Ja7 G__law_no_list hr (by decide) (Jj8 (pv 4) (Jj8 (Jk3 (N:=(["_law_one","_law_stream_here"]:List Str)) (ini:=[none,some 4]) rfl (Jku (pv 6)) (λ_ _ _ _ _=>(Jjl (i:=0) (by decide +kernel:(["_law_one","_law_stream_here"]:List Str).Nodup) rfl (ye rfl))) (λ_ _ _ _ _=>Jk0) (λ_ _ _ _ _=>(Jjf T.Jy G__law_take hr (by decide) (Jj8 (pv 1) (Jj8 Jjb Jja))))) Jja))))
            case r21=>
             refine' Jjd ?s23 ?r23
             case s23=>
              refine' Jk1 ?c24 ?a24 ?b24
              case c24=>
               exact (PW.pt (Jov (Jk8 Ycq (Jjf T.Jn G_are_promises hr (by decide) (Jj8 (pv 7) (Jj8 (pv 8) Jja))) Jkn (Jk2 _)) (Jmv (Jjy (Jjw (Jjf T.Ja5 G__law_same hr (by decide) (Jj8 (Jjf T.Ja4 G__law_refused hr (by decide) (pa5 Jjb (pv 7) (pv 8) Jjb Jjb)) (Jj8 (pv 8) Jja))))))))
              case a24=>
               refine' Jjc ?s25
               case s25=>
                exact (Jjk Jkn)
              case b24=>
               exact Jjn
             case r23=>
              refine' Jjd ?s29 ?r29
              case s29=>
               refine' Jju (i:=9) ?a30 ?b30 ?c30 ?e30 ?f30 ?g30
               case a30=>exact sc_law.nd
               case b30=>exact rfl
               case c30=>exact (ye rfl)
               case f30=>exact Jy2
               case g30=>first|exact .inl rfl|exact .inr rfl
               case e30=>
                refine' Jki ?e31_0
                case e31_0=>
                 refine' pa9 ?e32_0 ?e32_1 ?e32_2 ?e32_3 ?e32_4 ?e32_5 ?e32_6 ?e32_7 ?e32_8
                 case e32_0=>
                  exact Jl7
                 case e32_1=>
                  exact Jjb
                 case e32_2=>
                  exact (Jk5 (Jj8 (Jk5 (Jj8 Jjb Jja)) (Jj8 Jjb Jja)))
                 case e32_3=>
                  exact (Jk5 (Jj8 (Jk5 (Jj8 Jjb (Jj8 Jjb Jja))) (Jj8 Jjb Jja)))
                 case e32_4=>
                  exact (Jk5 (Jj8 (Jk5 (Jj8 Jjb (Jj8 Jjb Jja))) (Jj8 Jjb Jja)))
                 case e32_5=>
                  exact (Jki (Jj8 (Jk5 (Jj8 Jjb (Jj8 Jjb Jja))) (Jj8 Jjb Jja)))
                 case e32_6=>
                  exact (Jk5 (Jj8 (Jk5 (Jj8 Jjb (Jj8 Jkn Jja))) (Jj8 Jjb Jja)))
                 case e32_7=>
                  exact (Jk5 (Jj8 (Jk5 (Jj8 Jjb (Jj8 Jjb (Jj8 Jjb Jja)))) (Jj8 Jjb Jja)))
                 case e32_8=>
                  exact (Jk5 Jja)
              case r29=>
               refine' Jjd ?s40 ?r40
               case s40=>
                exact (Jju (i:=8) sc_law.nd rfl (ye rfl) (Jjs Jjz (pv 9) (Jjf T.Jy G__law_take hr (by decide) (Jj8 (pv 4) (Jj8 Jjb Jja))) (λ_ _=>rfl)))
               case r40=>
                refine' Jjc ?s42
                case s42=>
                 refine' Jk1 ?c43 ?a43 ?b43
                 case c43=>
                  exact (Jk8 (op_neT hu64) (Jjf T.Ja8 G__law_asked_odd hr (by decide) (Jj8 (pv 2) (Jj8 (pv 8) Jja))) (Jk5 (Jj8 (pv 8) (Jj8 Jkn (Jj8 Jkn Jja)))) (Jk2 _))
                 case a43=>
                  refine' Jjc ?s44
                  case s44=>
                   exact (Jjk Jkn)
                 case b43=>
                  exact Jjn
     case r5=>
      refine' Jjc ?s48
      case s48=>
       exact (Jjk (Jp8 (Jl1 (op_eqD hu64) (Jwb G_keeper hr (by decide) 2 (Jj8 (Jk5 (Jj8 (Jk5 (Jj8 Jjb (Jj8 Jjb Jja))) (Jj8 Jjb Jja))) (Jj8 Jjb Jja))) (Jk5 (Jj8 (Jk5 (Jj8 Jjb (Jj8 Jjb Jja))) (Jj8 Jl7 Jja))) (Jk2 _)) (Jp9 (Jl1 op_isB (Jjf T.Jn G_are_promises hr (by decide) (Jj8 (pv 1) (Jj8 (Jki (Jj8 Jjb (Jj8 Jjb Jja))) Jja))) Jkn (Jk2 _)))))
  refine ⟨rfl,λy Ha sa rv=>?_⟩
  refine ⟨_,rfl,(show 2<=sizeLine by decide),λN hN=>?_⟩
  have sN:=Same.upd (o:=.lst [.int 1,.int 4]) hN
  have saN:=sa.trans sN
  refine ⟨y,N,SB,2,1,[1,4],rfl,saN _ _ htb,saN _ _ htk,rv.same sN,sb_g,Jj9,⟨rfl,by decide⟩,λ_ f d Hb sb kp=>?_,λe=>(by rw [sb_p] at e;cases e)⟩
  have sHb:=saN.trans sb
  have rvb:=(rv.same sN).same sb
  refine ⟨_,rfl,x,_,rfl,.inl (sHb.seq hS),_,_,rfl,_,_,rfl,_,rfl,?_,?_,?_⟩
  ·split <;> split <;> omega
  ·rw [yf]
   split <;> split <;> omega
  refine Jod (lo:=0) (λi σ H'=>(∃o1 o2 o3 o4 o5 o6 o7,σ= [some (.ref x),some (.ref y),some (.ref f),o1,o2,o3,o4,o5,o6,o7])/\Same Hb H') ⟨⟨_,_,_,_,_,_,_,rfl⟩,Same.refl _⟩ ?_ ?_
  ·rintro i σ H0 _ ⟨⟨o1,o2,o3,o4,o5,o6,o7,rfl⟩,s0⟩
   have sH0:=sHb.trans s0
   refine ⟨_,rfl,_,rfl,x,ns,0+i,by simp,sH0.seq hS,λcl=>⟨cl,rfl,λp H1 hp s1 st=>?_⟩⟩
   have done:∀{H':Hp},But p H1 H'->Same H0 H':=λb c o z=>b.1 _ _ (Jjh z hp) (s1 _ _ z)
   refine ⟨_,rfl,p,3,rfl,st,by decide,by decide,λr1 H2 r10 r11 b2=>⟨_,_,rfl,rfl,_,rfl,by omega,by omega,λD hD=>?_⟩⟩
   have hD0:H1 D=none:=But.free st b2 hD
   have nD:D≠p:=st.ne hD0
   have u2:=Same.upd (o:=.lst []) hD
   refine Jld (lo:=0) (λj σ H'=>(∃o,σ= [o,some (.ref p)])/\But p H1 H'/\∃(ts:List Addr) (Bs:List BTd),H' D=some (.lst (ts.map V.ref))/\TldL p H' ts Bs/\Bs.length=j/\(∀B∈Bs,TGd B)/\Bs.map (·.z)=(yu j).map nmA) ⟨⟨_,rfl⟩,b2.same u2,[],[],Jj9,.nil,rfl,(λB h=>nomatch h),rfl⟩ ?_ ?_
   ·rintro j σ H' hj ⟨⟨o,rfl⟩,c5,ts,Bs,hD5,tl,hlen,tg,hz⟩
    have hj3:j < 3:=by omega
    have zj:(0+(j:Int))=j:=by omega
    rw [zj]
    have lt:=Paired.length tl
    obtain ⟨nok,nw⟩:=nmA_ok j hj3
    refine Jkf ⟨_,rfl,_,rfl,ABC,_,_,rfl,rfl,Jqp _ (by decide +kernel),abc_at hj3,p,nmA j,rfl,c5.2,nok,Jya nw,λt m B' H7 b7 nm tm tgB eB=>?_⟩
    have hD7:=b7.1 _ _ nD hD5
    have tl7:=tl.but c5.2 b7
    refine ⟨_,hD7,by rw [yf];exact Jjx (by omega),⟨_,rfl⟩,(c5.trans b7).updD hD0 nD,ts++ [t],Bs++ [B'],?_,?_,?_,?_,?_⟩
    ·rw [Jj9,yab]
     rfl
    ·refine Paired.snoc (TldL.put tg hD7 tl7) ⟨m,nm,tm.put tgB hD7 λx hx=>?_⟩
     obtain ⟨u,_,rfl⟩:=ybd.mp hx
     exact ⟨u,rfl⟩
    ·rw [yay,hlen]
     rfl
    ·intro B1 hB1
     rcases ybu.mp hB1 with h|h
     ·exact tg B1 h
     ·rw [ybe.mp h]
      exact tgB
    ·rw [yab,hz,yca,yab]
     show _++ [B'.z]=_++ [nmA j]
     rw [eB]
   rintro σ3 H3 ⟨_,c3,ts,Bs,hD3,tl3,hlen,tg,hz⟩
   have ln:1<=Bs.length/\Bs.length<=3:=by omega
   have rg:RGd Bs:=⟨by omega,tg⟩
   have lts:=Paired.length tl3
   have nz:(Bs.map (·.z)).Nodup:=by rw [hz];exact nmA_nd _ (by omega)
   refine ⟨_,rfl,D,rfl,⟨_,SqL.of hD3⟩,λD2 hD2=>?_⟩
   have nD2:D2≠p:=c3.2.ne hD2
   refine Jkw (K:=K) (xs:=ts.map V.ref) (λj σ H'=>(∃o,σ= [o])/\Same H3 H'/\∃os:List Addr,H' D2=some (.lst (os.map V.ref))/\Paired (λo B=>BX a H' o B) os (Bs.take j)) ⟨⟨_,rfl⟩,Same.upd hD2,[],Jj9,.nil⟩ (λj σ H' _ ⟨_,sm,_⟩=>SqL.of (sm _ _ hD3)) ?_ ?_
   ·rintro j y' σ H' hy ⟨⟨o,rfl⟩,sm,os,hDs,po⟩
    rw [yp] at hy
    obtain ⟨t,ht,rfl⟩:=yag.mp hy
    obtain ⟨C,hC,m,_,tC⟩:=Jkt tl3 ht
    have jl:j < Bs.length:=(yv.mp hC).1
    have tgC:=rg.all C (yae hC)
    refine Jkf ⟨_,rfl,t,C,rfl,⟨m,tC.same sm⟩,tgC,λob H5 s5 bx=>?_⟩
    have hD5:=s5 _ _ hDs
    have ol:os.length=j:=by
     have:=Paired.length po
     rw [yaf] at this
     omega
    refine ⟨_,hD5,?_,⟨_,rfl⟩,?_,os++ [ob],?_,?_⟩
    ·rw [yf]
     exact Jjx (by omega)
    ·intro c2 o' z
     rw [Jjg (Jjh z hD2)]
     exact s5 _ _ (sm _ _ z)
    ·rw [Jj9,yab]
     rfl
    ·rw [yan,hC]
     exact Paired.snoc (Paired.mapP po λ_ _ q=>(q.same s5).put hD5) (bx.put hD5)
   rintro σ4 H4 ⟨_,s4,os,hDs,po⟩
   rw [yf,yam (by omega)] at po
   have lo:=Paired.length po
   have c4:=c3.same s4
   have hD4:=s4 _ _ hD3
   have tl4:=tl3.same s4
   have ht0:ts[0]?=some (ts[0]'(by omega)):=yn _
   have ho0:os[0]?=some (os[0]'(by omega)):=yn _
   generalize ts[0]'(by omega)=t0 at ht0
   generalize os[0]'(by omega)=o0 at ho0
   obtain ⟨B0,hB0,m0,_,tB0⟩:=Jkt tl4 ht0
   obtain ⟨B0',hB0',bx0⟩:=Jkt po ho0
   rw [hB0] at hB0'
   cases hB0'
   have at0:atI (ts.map V.ref) 0=some (.ref t0):=Jl6 (j:=0) (by rw [yp,ht0];rfl)
   have ao0:atI (os.map V.ref) 0=some (.ref o0):=Jl6 (j:=0) (by rw [yp,ho0];rfl)
   have s04:=sH0.trans (done c4)
   refine ⟨_,rfl,_,rfl,D2,_,0,_,rfl,rfl,SqL.of hDs,ao0,_,rfl,D,_,0,_,rfl,rfl,SqL.of hD4,at0,p,o0,t0,B0,rfl,c4.2,s04 _ _ htb,bx0,⟨m0,tB0⟩,rg.all B0 (yae hB0),λH5 b5=>⟨_,rfl,Jkp ?_⟩⟩
   have c5:=c4.trans b5
   have hD5:=b5.1 _ _ nD2 hDs
   have po5:=Paired.mapP po λ_ _ q=>q.but (a:=a) c4.2 b5
   refine ⟨_,rfl,p,13,rfl,c5.2,by decide,by decide,λc H6 c0 c1 b6=>?_⟩
   have c6:=c5.trans b6
   have hD6:=b6.1 _ _ nD2 hD5
   have po6:=Paired.mapP po5 λ_ _ q=>q.but (a:=a) c5.2 b6
   refine ⟨_,rfl,(show 0<=sizeLine by decide),λM hM=>?_⟩
   have u7:=Same.upd (o:=.lst []) hM
   intro y2 dy hy hdy ne
   have sn:Same (upd H6 M (.lst [])) (upd (upd (upd H6 M (.lst [])) dy (.own y2)) y2 (.ins a.Jj3 dy [])):=λb o e=>by rw [Jjg (Jjh e hy),Jjg (Jjh e hdy)];exact e
   have s7n:=u7.trans sn
   obtain ⟨Cs,bl,cz,cl'⟩:=Yi (K:=K) (Paired.mapP po6 λ_ _ q=>q.same s7n) rg.all
   refine ⟨y2,dy,D2,M,c,0,os,[],Cs,[],rfl,Jj9,⟨c0,by omega⟩,⟨by decide,c0⟩,s7n _ _ hD6,bl,by omega,by rw [cz];exact nz,sn _ _ Jj9,trivial,by simp,ybk,(λt h=>nomatch h),λH8 b t s8 hb ht nb nt=>⟨rfl,?_⟩⟩
   have s9:Same H6 (upd H8 y2 (.ins a.Jj3 dy (Jxu (.int c) (.int 0) (.ref b) (.ref t)))):=λd o e=>by
    rw [Jjg (Jjh (u7 _ _ e) hy)]
    exact s8 _ _ (s7n _ _ e)
   have rv9:RivAt a (upd H8 y2 (.ins a.Jj3 dy (Jxu (.int c) (.int 0) (.ref b) (.ref t)))) y2 Bs c 0:=⟨dy,b,t,os,Jj9,by rw [Jjg nb];exact hb,Paired.mapP po6 λ_ _ q=>q.same s9⟩
   generalize upd H8 y2 (.ins a.Jj3 dy (Jxu (.int c) (.int 0) (.ref b) (.ref t)))=H9 at s9 rv9⊢
   have c9:=c6.same s9
   have hD9:=s9 _ _ hD6
   refine ⟨_,rfl,_,rfl,D2,rfl,⟨_,SqL.of hD9⟩,λD3 hD3'=>?_⟩
   have hD30:H1 D3=none:=But.free st c9 hD3'
   have nD3:D3≠p:=st.ne hD30
   refine Jkw (K:=K) (xs:=os.map V.ref) (λj σ H'=>(∃o,σ= [o,some (.ref p)])/\But p H9 H'/\∃gs:List Int,H' D3=some (.lst (gs.map V.int))/\gs.length=j) ⟨⟨_,rfl⟩,(But.refl c9.2).same (Same.upd hD3'),[],Jj9,rfl⟩ (λj σ H' _ ⟨_,cc,_⟩=>SqL.of (cc.1 _ _ nD2 hD9)) ?_ ?_
   ·rintro j y' σ H' hy ⟨⟨o,rfl⟩,cc,gs,hgs,gl⟩
    have jl:j < os.length:=by
     have:=(yv.mp hy).1
     simpa using this
    refine Jkf ⟨_,rfl,p,13,rfl,cc.2,by decide,by decide,λr H10 r0 r1 b10=>?_⟩
    refine ⟨_,b10.1 _ _ nD3 hgs,?_,⟨_,rfl⟩,(cc.trans b10).updD hD3' nD3,gs++ [r],?_,?_⟩
    ·rw [yf]
     exact Jjx (by omega)
    ·rw [Jj9,yab]
     rfl
    ·rw [yay,gl]
     rfl
   rintro σ10 H10 ⟨_,b10,gs,hgs,gl⟩
   rw [yf] at gl
   refine ⟨p,D3,gs,rfl,b10.2,nD3,hgs,by omega,λxo H11 b11 nl=>?_⟩
   have eg:gs.length=Bs.length:=by omega
   rw [eg] at nl
   have b911:=b10.trans b11
   have c11:=c9.trans b911
   have rv11:=rv9.but c9.2 b911
   have s011:=sH0.trans (done c11)
   refine ⟨_,rfl,_,rfl,.inr ⟨y2,xo,Bs,c,0,rfl,rv11,by omega,nl.1,λH12 s12=>?_⟩⟩
   refine ⟨_,rfl,_,rfl,ifF (by rfl) ?_⟩
   have s012:=s011.trans s12
   refine ⟨_,rfl,_,rfl,3,.ref y2,xo,.int 0,.int 0,xo,rfl,.inr (.inr ⟨rfl,rfl,s012 _ _ htk,y2,Bs,c,0,rfl,rv11.same s12,by omega,nl.1.same s12⟩),λtt H13 s13 htt=>?_⟩
   obtain ⟨ty,bb,e1,e2⟩:=nl.2.2
   refine ⟨_,rfl,tt,xo,rfl,htt,nl.2.1,⟨ty,bb,Jmp (s12.trans s13) e1,e2⟩,λH14 s14=>⟨_,rfl,Jkp ?_⟩⟩
   have c14:=c11.same ((s12.trans s13).trans s14)
   refine ⟨(show 1<=sizeLine by decide),λa1 ha1=>⟨(show 2<=sizeLine by decide),λb1 hb1=>⟨(show 2<=sizeLine by decide),λa2 ha2=>⟨(show 2<=sizeLine by decide),λb2 hb2=>⟨(show 2<=sizeLine by decide),λa3 ha3=>⟨(show 2<=sizeLine by decide),λb3 hb3=>⟨(show 2<=sizeLine by decide),λa4 ha4=>⟨(show 2<=sizeLine by decide),λb4 hb4=>⟨(show 2<=sizeLine by decide),λa5 ha5=>⟨(show 2<=sizeLine by decide),λb5 hb5=>⟨(show 3<=sizeLine by decide),λa6 ha6=>⟨(show 2<=sizeLine by decide),λb6 hb6=>⟨(show 0<=sizeLine by decide),λt0 ht0=>⟨(show 9<=sizeLine by decide),λO hO=>?_⟩⟩⟩⟩⟩⟩⟩⟩⟩⟩⟩⟩⟩⟩
   have v1:=Same.upd (o:=.tup [.int 0]) ha1
   have v2:=Same.upd (o:=.tup [.ref a1,.int 0]) hb1
   have v3:=Same.upd (o:=.tup [.int 0,.int 0]) ha2
   have v4:=Same.upd (o:=.tup [.ref a2,.int 3]) hb2
   have v5:=Same.upd (o:=.tup [.int 0,.int 13]) ha3
   have v6:=Same.upd (o:=.tup [.ref a3,.int 0]) hb3
   have v7:=Same.upd (o:=.tup [.int 0,.int 0]) ha4
   have v8:=Same.upd (o:=.lst [.ref a4,.int 0]) hb4
   have v9:=Same.upd (o:=.tup [.int 0,.bl true]) ha5
   have v10:=Same.upd (o:=.tup [.ref a5,.int 0]) hb5
   have v11:=Same.upd (o:=.tup [.int 0,.int 0,.int 0]) ha6
   have v12:=Same.upd (o:=.tup [.ref a6,.int 1]) hb6
   have v13:=Same.upd (o:=.tup []) ht0
   have w14:=Same.upd (o:=.lst [V.non,.int 3,.ref b1,.ref b2,.ref b3,.ref b4,.ref b5,.ref b6,.ref t0]) hO
   have w13:=v13.trans w14
   have w12:=v12.trans w13
   have w11:=v11.trans w12
   have w10:=v10.trans w11
   have w9:=v9.trans w10
   have w8:=v8.trans w9
   have w7:=v7.trans w8
   have w6:=v6.trans w7
   have w5:=v5.trans w6
   have w4:=v4.trans w5
   have w3:=v3.trans w4
   have w2:=v2.trans w3
   have w1:=v1.trans w2
   have all:=Ydh (K:=K) (a4:=a4) (w2 _ _ Jj9) (w3 _ _ Jj9) (w4 _ _ Jj9) (w5 _ _ Jj9) (w6 _ _ Jj9) (w7 _ _ Jj9) (w9 _ _ Jj9) (w10 _ _ Jj9) (w11 _ _ Jj9) (w12 _ _ Jj9) (w13 _ _ Jj9) (w14 _ _ Jj9)
   have c15:=c14.same w1
   have nO:O≠p:=(c14.same (v1.trans (v2.trans (v3.trans (v4.trans (v5.trans (v6.trans (v7.trans (v8.trans (v9.trans (v10.trans (v11.trans (v12.trans v13))))))))))))).2.ne hO
   refine ⟨_,rfl,_,rfl,p,9,rfl,c15.2,by decide,by decide,λr H16 r0 r1 b16=>?_⟩
   obtain ⟨v,hv,hat⟩:=Juf (xs:=[V.non,.int 3,.ref b1,.ref b2,.ref b3,.ref b4,.ref b5,.ref b6,.ref t0]) r0 r1
   obtain ⟨sx,nv⟩:=all v hv
   refine ⟨O,_,_,v,rfl,rfl,SqL.of (b16.1 _ _ nO Jj9),hat,?_⟩
   have c16:=c15.trans b16
   have s16:=s0.trans (done c16)
   have sx16:=sx.ll (LL.but c15.2 b16)
   refine ⟨_,rfl,_,rfl,f,y,d,SB,2,1,[1,4],v,rfl,kp.same s16,rvb.same s16,by decide,sx16,λtt' H17 s17 htt'=>?_⟩
   refine ⟨_,rfl,(show 3<=sizeLine by decide),λt2 ht2=>?_⟩
   have u18:=Same.upd (o:=.tup [v,.bl true,.bl false]) ht2
   have sm:=Jwg (xs:=[v,.bl true,.bl false]) (λy hy=>by
    simp only [ym,yr,or_false] at hy
    rcases hy with rfl|rfl|rfl
    ·exact nv
    ·exact .inl rfl
    ·exact .inl rfl)
   exact ⟨tt',t2,_,_,[true,true,true],rfl,rfl,SqT.of (u18 _ _ htt'),SqT.of Jj9,rfl,rfl,sm,_,rfl,Jkp ⟨⟨_,_,_,_,_,_,_,rfl⟩,s16.trans (s17.trans u18)⟩⟩
  ·rintro σ H' ⟨⟨o1,o2,o3,o4,o5,o6,o7,rfl⟩,s0⟩
   refine ⟨f,rfl,(show 2<=sizeLine by decide),λa1 ha1=>⟨(show 2<=sizeLine by decide),λb1 hb1=>?_⟩⟩
   have v1:=Same.upd (o:=.tup [.int 0,.int 2]) ha1
   have v2:=Same.upd (o:=.tup [.ref a1,.int 2]) hb1
   have s2:=s0.trans (v1.trans v2)
   have kp2:=kp.same s2
   have hd0:Jrr SB [1,4] [0,2]=true:=by
    have q:=Jmc SB [1,4]
    rw [sb_p] at q
    exact q
   refine ⟨[.ref d,.ref y],kp2.2,d,y,b1,a1,.int 5,SB,2,1,2,[1,4],[0,2],rfl,rfl,rvb.same s2,sb_g,kp2.1,Jj9,v2 _ _ Jj9,LvG.start sb_g.all,by decide,hd0,λtc uc H3 q3 htc huc=>?_⟩
   rw [sb_k] at huc
   refine ⟨(show 2<=sizeLine by decide),λa2 ha2=>⟨(show 2<=sizeLine by decide),λb2 hb2=>?_⟩⟩
   have v3:=Same.upd (o:=.tup [.int 0,.int 0]) ha2
   have v4:=Same.upd (o:=.tup [.ref a2,.non]) hb2
   have v34:=v3.trans v4
   refine ⟨_,_,.tup (SqT.of (v34 _ _ htc)) (.cons (.tup (SqT.of (v34 _ _ huc)) (Jvs [0,0])) (.cons .non .nil)),.tup (SqT.of Jj9) (.cons (.tup (SqT.of (v4 _ _ Jj9)) (Jvs [0,0])) (.cons .non .nil)),by decide,by decide,_,rfl,?_⟩
   refine ifT (by decide) ?_
   refine ⟨_,rfl,(show 2<=sizeLine by decide),λN2 hN2=>?_⟩
   have v5:=Same.upd (o:=.lst [.int 1,.int 4]) hN2
   have s5:=(s2.trans q3).trans (v34.trans v5)
   refine .inl ⟨y,N2,SB,2,1,[1,4],rfl,(sHb.trans s5) _ _ htb,rvb.same s5,sb_g,Jj9,⟨rfl,by decide⟩,λH6 s6=>⟨_,rfl,?_⟩⟩
   rw [sb_p]
   exact k _
end
end K73
namespace PySem.W.Fast
def tw2468819840675715481:=()
def tw2895096281375382292:=()
def tw4589174169565366317:=()
def tw5911367438913404691:=()
def tw725303402000509993:=()
def tw16100945840719595707:=()
def tw6024094558564502936:=()
def tw7284828937120584461:=()
def tw9891316192875040712:=()
def tw1456499499735637063:=()
def tw15601181185660659280:=()
def tw3363224570963193002:=()
def tw4423931971993862683:=()
def tw2687018530128858115:=()
def tw7390560633471274859:=()
def tw15127623501844333370:=()
def tw11830894774294103212:=()
def tw3216711158984431070:=()
def tw2065154588257174833:=()
def tw15120178990422402749:=()
def tw3234134876062654041:=()
def tw1871472462340966513:=()
def tw14730388903763447871:=()
def tw5882357818282120921:=()
def tw7656906006657237067:=()
def tw754902782826361281:=()
def tw11049008385978461664:=()
def tw7886729226854264963:=()
def tw9662249004217175898:=()
def tw2422940854995785044:=()
def tw8760691161565619460:=()
def tw7932500959819057608:=()
def tw13796502345294667935:=()
def tw7077770943581637343:=()
def tw15511451420333830227:=()
def tw17001414932729853580:=()
def tw6570693560664191476:=()
def tw3282041972621207322:=()
def tw4979131952399263440:=()
def tw2766750021125352539:=()
def tw14519421486926223485:=()
def tw2107528896174828394:=()
def tw18269461041700733910:=()
def tw15033804541180710794:=()
def tw10232707366853008916:=()
def tw13151103943584580907:=()
def tw581809023813310337:=()
def tw12342209142214724262:=()
def tw15274646244200848313:=()
def tw4070520619913327008:=()
def tw15068171189971505863:=()
def tw5106634593914630685:=()
def tw5036483671048909726:=()
def tw11273993478403406652:=()
def tw1948602742503044:=()
def tw5974761384610956478:=()
def tw12772604500338438023:=()
def tw1463598668920588036:=()
def tw4079990652061205625:=()
def tw8213577988732643652:=()
def tw13905589038040454061:=()
def tw9059468921686921200:=()
def tw61930888520906866:=()
def tw2477352864432353696:=()
def tw10449270320835884519:=()
def tw17351099609548229101:=()
def tw7927127806285938875:=()
def tw12112306211109872856:=()
def tw12434520532574728657:=()
def tw15204532806639147389:=()
def tw758388939964258087:=()
def tw17793102593271825827:=()
def tw13475315704567518502:=()
def tw7013820054259499263:=()
def tw8240935549215153517:=()
def tw17471524589100160240:=()
def tw3470793231673990580:=()
def tw7669431696062457227:=()
def tw18331067304653156171:=()
def tw8848296510191660590:=()
def tw9335075571548457709:=()
def tw4141428318291432882:=()
def tw13474126662184870213:=()
def tw4693741552400707129:=()
def tw9214201318714330572:=()
def tw4459763253280032935:=()
def tw11312250840167239423:=()
def tw290479434246224565:=()
def tw7455634205963986296:=()
def tw7601861355319247063:=()
def tw5706687097675606933:=()
def tw16646336815957947292:=()
def tw716244112623932017:=()
def tw14265481675072978436:=()
def tw9492705001103794122:=()
def tw8172980430652885495:=()
def tw18185277742693638152:=()
def tw11328549679471735021:=()
def tw15889786076552972762:=()
def tw7548502686607018370:=()
def tw11415740565289573817:=()
def tw346375082046519771:=()
def tw11608754442684756122:=()
def tw3206605833507149182:=()
def tw97255871358474454:=()
def tw15675518399696774188:=()
def tw7346359665628465737:=()
def tw16340275634250418701:=()
def tw4946440105591410251:=()
def tw12168606940766503474:=()
def tw12241977539401139703:=()
def tw9476190758589194606:=()
def tw3703589923111900392:=()
def tw9133515576504236633:=()
def tw234484849718334907:=()
def tw11233110793092224041:=()
def tw5333350555719204179:=()
def tw7218101505112755338:=()
def tw10327431680656700869:=()
def tw7794928239034565156:=()
def tw17374672002987328752:=()
def tw9613920569900143492:=()
def tw1009064504184326520:=()
def tw13157162509329869488:=()
def tw8799677967570863565:=()
def tw7354819727414401387:=()
def tw3517460477172167082:=()
def tw14892513476808540385:=()
def tw2033490566281126861:=()
def tw14493067503497321122:=()
def tw17938232480977814504:=()
def tw14086068131472989198:=()
def tw15971831163079942898:=()
def tw9686408861620059533:=()
def tw4510498790620960292:=()
def tw12276256226612708601:=()
def tw4005202570354575964:=()
def tw11299124644513405358:=()
def tw18125761726314693539:=()
def tw9390146805341767452:=()
def tw11434276597259980815:=()
def tw12815341398280275262:=()
def tw7263544865201474544:=()
def tw1248873021797090382:=()
def tw14566803560227397311:=()
def tw12689588915246041121:=()
def tw9604551846130837309:=()
def tw2331463768920788214:=()
def tw10691153414982003918:=()
def tw16723714118972607597:=()
def tw2199871686805186330:=()
def tw6956424156709853911:=()
def tw14411278858275328009:=()
def tw3050597577753447081:=()
def tw16587086531759461735:=()
def tw14869086432459124732:=()
def tw4449690705921503886:=()
def tw9503074888711483395:=()
def tw11617669056274767950:=()
def tw12470880839781743100:=()
def tw2570611131211765749:=()
def tw15372697183749442085:=()
def tw1994278434699715260:=()
def tw15742163775950947838:=()
def tw5781793890197652783:=()
def tw11541534266105816778:=()
def tw2423275656891748200:=()
def tw4479173276286072972:=()
def tw16135302752194073301:=()
def tw4560570075718269461:=()
def tw7532243590112186153:=()
def tw9949252335646306652:=()
def tw3381331880081344880:=()
def tw9574433450356959492:=()
def tw8413736611904362853:=()
def tw17012796039540396826:=()
def tw9334622048544265355:=()
def tw17213124974667534534:=()
def tw7247010863406433993:=()
def tw12926779172677023641:=()
def tw16588066196815944166:=()
def tw2512817751958047083:=()
def tw18281389779444460757:=()
def tw17812401211586818308:=()
def tw500457646981229545:=()
def tw15508759641559708336:=()
def tw8679767768699086640:=()
def tw12242148410199404437:=()
def tw15577781572298886066:=()
def tw10314217937608155421:=()
def tw16453415237268372034:=()
def tw5669749187658787077:=()
def tw11392704353779426264:=()
def tw11745421119601754229:=()
def tw11145819814444384453:=()
def tw4952611646837947656:=()
def tw417679254666788396:=()
def tw6876583849938864251:=()
def tw716246003903015529:=()
def tw10002145641644344293:=()
def tw7820537890750716010:=()
def tw11556191071464328884:=()
def tw2391856139959645575:=()
def tw5919668458596938681:=()
def tw6826219624920988754:=()
def tw2552303080673431459:=()
def tw3249632596240803609:=()
def tw7155760998382943236:=()
def tw15308098136787386544:=()
def tw7223696745412450452:=()
def tw713552247971273020:=()
def tw3078970115610536743:=()
def tw10207398957919284387:=()
def tw9465114428781719933:=()
def tw7150558876997813594:=()
def tw11797622777405925233:=()
def tw6910889581448277382:=()
def tw3510805516759290922:=()
def tw819764516107647980:=()
def tw2182585413038952904:=()
def tw14782499164166261811:=()
def tw12896810168257805225:=()
def tw7005308479558163190:=()
def tw4763851817704895928:=()
def tw2789890659467701262:=()
def tw14698514730426632457:=()
def tw2753770000438735384:=()
def tw965665060428603381:=()
def tw13861627915876340688:=()
def tw9440452741377688432:=()
def tw8970898772590697056:=()
def tw9996117030390320028:=()
def tw974298877071080164:=()
def tw12232039555997880356:=()
def tw14874155560000518018:=()
def tw5221882735752323518:=()
def tw672658378519375741:=()
def tw4559178402618684735:=()
def tw9713369799600235570:=()
def tw9968939850351779604:=()
def tw1025313051197147094:=()
def tw17176196322791829167:=()
def tw751557744634428708:=()
def tw5171035012857508553:=()
def tw11864168476980681521:=()
def tw4691809560604172563:=()
def tw9437994353430223269:=()
def tw6849763521714543902:=()
def tw10673341952904224257:=()
def tw5197603307651280261:=()
def tw14536658237353258632:=()
def tw7917689497794421380:=()
def tw12546483571436635742:=()
def tw11035106143477274993:=()
def tw7637973817867509956:=()
def tw5042749681708189302:=()
def tw1386200610159393190:=()
def tw7980089559118460540:=()
def tw10774945875953849264:=()
def tw15107884324018983420:=()
def tw10688658180467828453:=()
def tw8465313151343535692:=()
def tw11358786693757305785:=()
def tw16082242795513843943:=()
def tw5842894225565014651:=()
def tw6222510359403162964:=()
def tw11841095331250640271:=()
def tw2886574218315490362:=()
def tw8458430312251292891:=()
def tw18389341786730603294:=()
def tw7772039219165787185:=()
def tw11898192982653829540:=()
def tw10432024116515727588:=()
def tw12718504499129306047:=()
def tw14732005222895018936:=()
def tw18314823357527054781:=()
def tw3342393636900710788:=()
def tw12859709726516635599:=()
def tw99565616806639758:=()
def tw5748087714408257798:=()
def tw17129683281178429743:=()
def tw9662637932976288916:=()
def tw13527636336334459766:=()
def tw15526097707552719525:=()
def tw16712152885178488542:=()
def tw16603595068781381259:=()
def tw1626700516802329318:=()
def tw12588167922953734699:=()
def tw10046675961751299396:=()
def tw17735322594772249729:=()
def tw13028595894074913675:=()
def tw15107826487093435933:=()
def tw5483782868933637310:=()
def tw3081201744859741046:=()
def tw4739544553579973703:=()
def tw17117460723002321994:=()
def tw5209612340456108563:=()
def tw1255627103484512470:=()
def tw17140499143814865075:=()
def tw9869292644515965887:=()
def tw13592970858006489308:=()
def tw13714709786915535561:=()
def tw16878010170644809664:=()
def tw4710418112925695422:=()
def tw2281728396380739357:=()
def tw14473925483474783770:=()
def tw10194894899480468405:=()
def tw4490996499433388390:=()
def tw16053075440256575330:=()
def tw16242250863667035922:=()
def tw8165962499304248774:=()
def tw10332269343165614037:=()
def tw4959316759188265261:=()
def tw18090612557593323026:=()
def tw11430312588743820456:=()
def tw5505623862066838270:=()
def tw43823020961900912:=()
def tw9977764474254257616:=()
def tw14841191205326382427:=()
def tw18409932396163581167:=()
def tw1167696097511810533:=()
def tw7539493589351770293:=()
def tw9382496164559276797:=()
def tw5525150768858722568:=()
def tw14347702836528052740:=()
def tw13878706496200997471:=()
def tw2535543300000213674:=()
def tw16061443475260463905:=()
def tw12434240085942035045:=()
def tw16052903348856182624:=()
def tw16628317202427684385:=()
def tw12962900996676039691:=()
def tw11196236988062542925:=()
def tw9356999946244190663:=()
def tw6979221000833055529:=()
def tw11058042383670047266:=()
def tw14589723986277462531:=()
def tw18196165253340655768:=()
def tw14018804428683825473:=()
def tw13909087055885360173:=()
def tw279063903259271563:=()
def tw14408210794383828852:=()
def tw6635652579471579409:=()
def tw4528982250310634724:=()
def tw5673531889435601224:=()
def tw8608326036722701578:=()
def tw4517289557925381812:=()
def tw8075276490884816260:=()
def tw12502346118631602774:=()
def tw18265575625851989331:=()
def tw340311565826125153:=()
def tw3477763385535299881:=()
def tw7055666869081049327:=()
def tw3206237085802054167:=()
def tw6028954528737564495:=()
def tw4039630247596371383:=()
def tw9135181939205670395:=()
def tw8126868453631243146:=()
def tw2088537986482609226:=()
def tw16043697969787321194:=()
def tw15593068494143430983:=()
def tw5905615154128164275:=()
def tw13011692080041954742:=()
def tw11335790060421805735:=()
def tw4557526306822506107:=()
def tw13221547951993026850:=()
def tw6776947092742984817:=()
def tw14481459564750490982:=()
def tw6590003358401885028:=()
def tw12115767808357929758:=()
def tw10298885980415623929:=()
def tw15608671330303001530:=()
def tw17000703817424924482:=()
def tw5892486205107158825:=()
def tw544250364243325946:=()
def tw14147001395214382039:=()
def tw10998759116450746801:=()
def tw18264618861323030170:=()
def tw15021235073571788653:=()
def tw16613486925941764395:=()
def tw16317801423854922455:=()
def tw4529004593216437797:=()
def tw3692416745818785100:=()
def tw8962519176145351760:=()
def tw13977061564332940562:=()
def tw4567431493724944572:=()
def tw18357381848855983916:=()
def tw1567500703819836610:=()
def tw16362963853934703398:=()
def tw5649830216099270456:=()
def tw9879820241819743717:=()
def tw15310749612957893132:=()
def tw8263878103653780979:=()
def tw2578534030645937948:=()
def tw881985916428348091:=()
def tw18434636817242624545:=()
def tw6041764923131367170:=()
def tw4556214766249539684:=()
def tw11673274399392270072:=()
def tw11796252896350051116:=()
def tw17308036416312428418:=()
def tw15889127626588436494:=()
def tw5693964603262491611:=()
def tw4608490522715259245:=()
def tw2215239631502664745:=()
def tw11586072435328984152:=()
def tw11351058093252849169:=()
def tw12908594892740100881:=()
def tw16309515834345313616:=()
def tw11738166447401779062:=()
def tw4649581227380498695:=()
def tw347702667470283081:=()
def tw8357168304678668563:=()
def tw5915145769847932515:=()
def tw6890870907839101741:=()
def tw17005921713043945833:=()
def tw329079703326690738:=()
def tw1219247326006853834:=()
def tw12009151924641531241:=()
def tw16546843061182807723:=()
def tw6842615356289575770:=()
def tw16676051055288820191:=()
def tw14670521443266482932:=()
def tw6885401417290746666:=()
def tw4435182728655680055:=()
def tw12287177844184303240:=()
def tw16813720315831974702:=()
def tw18116055173161066760:=()
def tw16402655367422846881:=()
def tw649683166505063004:=()
def tw13293694102950838989:=()
def tw1273522007142966579:=()
def tw5867776627778070291:=()
def tw4033868110468185714:=()
def tw11654761678647406406:=()
def tw8336754412185957358:=()
def tw15743267496604511461:=()
def tw8997436190903447801:=()
def tw17226994015461497880:=()
def tw2898372401485906419:=()
def tw6900761950067901968:=()
def tw18423489706211473247:=()
def tw9362491802083451801:=()
def tw11430806440109946733:=()
def tw17347555673696012627:=()
def tw7079390598220586273:=()
def tw4021843117945898080:=()
def tw6435424040152649471:=()
def tw18198001137763848055:=()
def tw764673353739176241:=()
def tw16371067240353424116:=()
def tw15872366514652605684:=()
def tw6471224942332273785:=()
def tw16457561242364040473:=()
def tw9407883001474174666:=()
def tw3414063930870302489:=()
def tw16108993999187452786:=()
def tw9819522338841336225:=()
def tw668642980669473397:=()
def tw12092693823735601356:=()
def tw2120965818445797197:=()
def tw12419535933115378772:=()
def tw16449900664785980582:=()
def tw13015999661553990140:=()
def tw16439264912227905104:=()
def tw4945456635274439822:=()
def tw9434652619703534377:=()
def tw2725394332074455007:=()
def tw3424102915769732628:=()
def tw16406784177498240817:=()
def tw4747492501933477015:=()
def tw14307095783183891424:=()
def tw16297361429033636363:=()
def tw5656641074082239229:=()
def tw17145677037656155583:=()
def tw12367635718042145429:=()
def tw130361211042095225:=()
def tw12379082659757691527:=()
def tw14958690796123090162:=()
def tw15652057084106083335:=()
def tw3655260400602908153:=()
end PySem.W.Fast
open PySem PySem.W PyProof.Rows
set_option maxRecDepth 100000 in
set_option maxHeartbeats 0 in
theorem PySem.Challenge.cw_weirwatch_k73_promises_refused_holds : PySem.Challenge.rw_weirwatch_k73_promises_refused.Holds := by
 w_on;o_law;k_head;(case hw=>w_witness2)
 k_fill
 refine L2.walk_ofT (l:=PySem.Challenge.rw_weirwatch_k73_promises_refused) (n:=63) (k:=12) (x:="_law_script") (CX:=L2.CX0) rfl (by decide) rfl ⟨rfl,by decide,by decide⟩ (λw h Y=>PySem.W.km_in_of Y) ?K ?F ?C
 case K=>intro w;kernel_rfl
 case F=>
  intro w mg fa h KX G TB hmg
  have T:∃a:K73.Ad,(∀(s:Shared) (v:Value),BindsTo s a.d_law ⟨[v],[]⟩ [("_law_script",v)])/\K73.Tx (L2.KOf KX) mg a:=by
   have hh:=λaa ab ac ad ae af ag ah ai aj ak al am an ao ap aq ar au av aw ax ay az ba bb bc bd be bf bg bh bi bj bk bl bm bn bo bp bq br bs bt bu bv bw bx bz ca cb cc cd ce cf cg ch ci cj ck cl cm cn co cp cq cr cs ct cu cv cw cx cy cz da db dc dd de df dg dh di dj dk dl dm dn dp dq dr ds dt du dv dw dx dy dz ea eb ec ed ee ef eg eh ei ej ek el em en eo ep eq er es et eu ev ew ex ey ez fb fc fd fe ff fg fh fi fj fk fl fm fn fo fp fq fr fs ft fu fv fw fx fy fz ga gb gc gd ge gf gg gh gi gj gk gl gm gn go gp gq=>@K73.Tx.mk (L2.KOf KX) mg ⟨aa,ab,ac,ad,ae,af,ag,ah,ai,aj,ak,al,am,an,ao,ap,aq,ar,au,av,aw,ax,ay,az,ba,bb,bc,bd,be,bf,bg,bh,bi,bj,bk,bl,bm,bn,bo,bp,bq,br,bs,bt,bu,bv,bw,bx,bz,ca,cb,cc,cd,ce,cf,cg,ch,ci,cj,ck,cl,cm,cn,co,cp,cq,cr,cs,ct,cu,cv,cw,cx,cy,cz,da,db,dc,dd,de,df,dg,dh,di,dj,dk,dl,dm,dn,dp,dq,dr,ds,dt,du,dv,dw,dx,dy,dz,ea,eb,ec,ed,ee,ef,eg,eh,ei,ej,ek,el,em,en,eo,ep,eq,er,es,et,eu,ev,ew,ex,ey,ez,fb,fc,fd,fe,ff,fg,fh,fi,fj,fk,fl,fm,fn,fo,fp,fq,fr,fs,ft,fu,fv,fw,fx,fy,fz,ga,gb,gc,gd,ge,gf,gg,gh,gi,gj,gk,gl,gm,gn,go,gp,gq⟩
   dsimp only [L2.KOf,L2.NoAttr] at hh⊢
   apply Exists.intro
   refine' ⟨?bb,?tx⟩
   case tx=>
    apply hh
    iterate 47 (refine' L2.ft_mk KX G ?a ?b ?c ?d ?e;(case a=>k_is);(case b=>k_is);(case c=>k_is);(case d=>k_is);(case e=>first|exact (λ_ _ _ _ _ _ u h=>match u,h with| [],_=>rfl)|exact (λ_ _ _ _ _ _ u h=>match u,h with| [_],_=>rfl)|exact (λ_ _ _ _ _ _ u h=>match u,h with| [_,_],_=>rfl)|exact (λ_ _ _ _ _ _ u h=>match u,h with| [_,_,_],_=>rfl)|exact (λ_ _ _ _ _ _ u h=>match u,h with| [_,_,_,_],_=>rfl)|exact (λ_ _ _ _ _ _ u h=>match u,h with| [_,_,_,_,_],_=>rfl)|exact (λ_ _ _ _ _ _ u h=>match u,h with| [_,_,_,_,_,_,_],_=>rfl)))
    iterate 11 (refine' PySem.W.mg_of KX G ?a;(case a=>k_is))
    iterate 17 (refine' PySem.W.mg_none_of KX G ?a;(case a=>k_is))
    iterate 17 (refine' PySem.W.mg_of KX G ?a;(case a=>k_is))
    iterate 21 (k_is)
    iterate 21 (refine' L2.fm_mk ?a ?b ?c ?d;(case a=>k_is);(case b=>k_is);(case c=>k_is);(case d=>first|exact (λ_ _ _ _ _ _ u h=>match u,h with| [],_=>rfl)|exact (λ_ _ _ _ _ _ u h=>match u,h with| [_],_=>rfl)|exact (λ_ _ _ _ _ _ u h=>match u,h with| [_,_],_=>rfl)|exact (λ_ _ _ _ _ _ u h=>match u,h with| [_,_,_],_=>rfl)|exact (λ_ _ _ _ _ _ u h=>match u,h with| [_,_,_,_],_=>rfl)|exact (λ_ _ _ _ _ _ u h=>match u,h with| [_,_,_,_,_],_=>rfl)|exact (λ_ _ _ _ _ _ u h=>match u,h with| [_,_,_,_,_,_,_],_=>rfl)))
    iterate 6 (refine' L2.xc_mk ?a ?b ?c;(case a=>k_is);(case b=>kernel_rfl);(case c=>kernel_rfl))
    refine' L2.ec_mk ?a ?b;(case a=>k_is);(case b=>k_is)
    refine' L2.xc_mk ?a ?b ?c;(case a=>k_is);(case b=>kernel_rfl);(case c=>kernel_rfl)
    refine' L2.ec_mk ?a ?b;(case a=>k_is);(case b=>k_is)
    refine' L2.xc_mk ?a ?b ?c;(case a=>k_is);(case b=>kernel_rfl);(case c=>kernel_rfl)
    iterate 26 (constructor <;> k_is)
    iterate 21 (k_is)
    refine' L2.nst_mk ?a ?b ?c ?d ?e;(case a=>k_is);(case b=>rfl);(case c=>k_is);(case d=>rfl);(case e=>rfl)
    kernel_rfl
    refine' L2.nst_mk ?a ?b ?c ?d ?e;(case a=>k_is);(case b=>rfl);(case c=>k_is);(case d=>rfl);(case e=>rfl)
    kernel_rfl
    decide
    iterate 17 (kernel_rfl)
   case bb=>exact λs v=>.of_eq rfl
  obtain ⟨a,b,T⟩:=T
  have e:=hmg.symm.trans T.f_law.mgx
  cases e
  exact ⟨a.d_law,K73.spLaw (L2.KOf KX) a,[(a.Jj5,K73.lb_lost_alone),(a.Jj7,K73.lb_local_keeper)],b,List.forall_mem_cons.mpr ⟨L2.tab_kn (y:="lost_alone") TB rfl T.Je2,List.forall_mem_cons.mpr ⟨L2.tab_kn (y:="local_keeper") TB rfl T.Je4,λ_ z=>nomatch z⟩⟩,T.tnd,λbase kb nb B=>K73.ok_law T B,λH x ns hl ht hS=>⟨x,ns,rfl,hS,hl,ht _ (.head _),ht _ (.tail _ (.head _)),λ_=>rfl⟩⟩
 case C=>exact λ_ _ _ _ z=>z
#print axioms PySem.Challenge.cw_weirwatch_k73_promises_refused_holds
