import PyProof.Rows.All
import Wide.All
import OpenK.AllK
import Wide.FinOn
import Lean
import PyProof.EqAt
import PyProof.EqKinds
import PyProof.TupleCall
import PySem.Challenge.RW_weirwatch_k75_whole_long_rivers_held
open Or renaming inl → ye
open List renaming length_map → yf, getElem?_map → ym, getElem?_eq_getElem → yn, mem_cons → yo, getElem?_eq_some_iff → yq, range → yt, size_toArray → yu, not_mem_nil → yv, replicate → yw, getD_eq_getElem?_getD → yy, map_append → yz, mem_of_getElem? → yaa, mem_range → yac, mem_cons_of_mem → yaf, length_take → yaj, take_of_length_le → yak, mem_cons_self → yal, take_add_one → yao, all_eq_true → yar, length_append → yas, length_range → yau, mem_filter → yav, map_cons → yax, append_nil → yaz, nodup_cons → yba, lookup_cons → ybb, mem_map → ybd, length_cons → ybe, mem_append_right → ybi, nodup_nil → ybl, lookup → ybo, mem_singleton → ybq, range_succ → ybr, length_replicate → ybs, replicate_succ → ybt, getElem_mem → ybu, countP_cons → ybv, mem_append → ybw, Pairwise → yby, getElem?_append_right → ycb, getElem?_append_left → ycc, find?_cons → ycd, forIn_cons → yce, length_filter_le → ych, filterMap_cons → yci, getElem?_set_ne → ycj, flatten_cons → yck, append_assoc → ycl, contains_iff_mem → ycn, any_eq_true → yco, replicate_succ' → ycp, getElem?_range → ycq, getElem?_replicate → ycr, getElem?_zip_eq_some → ycs, dropLast_eq_take → ycu
open PySem.Heap renaming lt_size → yg, get?_push_of_some → yj, get?_push_size → yp, size_push → yad, SameBut → yam, get?_update_other → ybc, get?_update_self → ybj
open Nat renaming le_refl → yi, ne_of_lt → yr, le_trans → yai, zero_le → yan, lt_of_lt_of_le → yap, le_of_lt → yaq, not_lt → yat, ne_of_gt → yaw, lt_irrefl → yay, lt_succ_self → ybh, lt_succ_of_lt → ybk, lt_trans → ybp, le_of_eq → ybx, not_lt_zero → ycf, lt_of_le_of_lt → ycm
open Ne renaming symm → yk
open Option renaming map_eq_some_iff → yx, some → yae, isSome_iff_exists → yca
open Bool renaming false_ne_true → yab, and_eq_true → yag, eq_iff_iff → ybn
open Sum renaming inl → yah
open Int renaming toNat_natCast → ybf, eq_ofNat_of_zero_le → yct
open Array renaming length_toList → ybg, getD → ybm, getElem?_eq_some_iff → ybz, getElem?_eq_getElem → ycg
set_option bootstrap.genMatcherCode false
set_option hygiene false
set_option Elab.async false
set_option linter.all false
set_option maxRecDepth 100000
section
local macro_rules|`(%[|0])=>`(⟨rfl,rfl,rfl,by decide +kernel,rfl,by decide +kernel,by decide +kernel⟩)
local macro_rules|`(%[$a|1])=>`($a (P:=P) (w:=w) (base:=base) T)
local macro_rules|`(%[$a,$b|2])=>`($a $b (λvs H Q E h=>?_) (λcdv A outer s H vs Q E hr h=>?_))
namespace L2
open PySem PySem.Spec PyProof.Rows
noncomputable abbrev Key:=Sum Int Str
noncomputable def Jrp:Key->Value->Bool
 | .inl k,v=>Value.isInt k v
 | .inr x,v=>Value.isStrOf x v
noncomputable def keyH (w:World):Key->Int
 | .inl k=>hashInt k
 | .inr x=>hashStr w x
theorem Jla:∀{k:Key} {v:Value},Jrp k v=true->(∃i t,k=yah i/\v=Value.int i t)\/(∃x t,k=Sum.inr x/\v=Value.str x t)
 | .inl i,v,h=>by
  obtain ⟨t,e⟩:=Value.isInt_shape (k:=i) (v:=v) h;exact .inl ⟨i,t,rfl,e⟩
 | .inr x,v,h=>by
  obtain ⟨t,e⟩:=Value.isStrOf_shape (x:=x) (v:=v) h;exact .inr ⟨x,t,rfl,e⟩
theorem Y9 (i:Int) (t:Tok):Jrp (.inl i) (.int i t)=true:=by simp [Jrp,Value.isInt]
theorem Ya (x:Str) (t:Tok):Jrp (.inr x) (.str x t)=true:=by simp [Jrp,Value.isStrOf]
theorem key_ll (a b:Int):decide ((yah a:Key)=yah b)=(a==b):=by
 by_cases e:a=b
 ·subst e;simp
 ·have h:¬(yah a:Key)=yah b:=λq=>e (yah.inj q);rw [decide_eq_false h];exact (beq_eq_false_iff_ne.mpr e).symm
theorem key_rr (a b:Str):decide ((Sum.inr a:Key)=Sum.inr b)=decide (a=b):=by
 by_cases e:a=b
 ·subst e;simp
 ·have h:¬(Sum.inr a:Key)=Sum.inr b:=λq=>e (Sum.inr.inj q);rw [decide_eq_false h,decide_eq_false e]
theorem key_lr (a:Int) (b:Str):decide ((yah a:Key)=Sum.inr b)=false:=decide_eq_false (λq=>nomatch q)
theorem key_rl (a:Str) (b:Int):decide ((Sum.inr a:Key)=yah b)=false:=decide_eq_false (λq=>nomatch q)
noncomputable def Jk6 (prog:Program) (w:World):PySem.KeyKind prog w Key where
 is:=Jrp
 hash:=keyH w
 inj:=λv a b ha hb=>by
  rcases Jla ha with ⟨i,t,rfl,rfl⟩|⟨x,t,rfl,rfl⟩
  ·rcases Jla hb with ⟨j,u,rfl,e⟩|⟨y,u,rfl,e⟩
   ·injection e with e1 _;rw [e1]
   ·exact nomatch e
  ·rcases Jla hb with ⟨j,u,rfl,e⟩|⟨y,u,rfl,e⟩
   ·exact nomatch e
   ·injection e with e1 _;rw [e1]
 byValue:=λk v h=>by
  rcases Jla h with ⟨i,t,rfl,rfl⟩|⟨x,t,rfl,rfl⟩ <;> rfl
 pyHash:=λhv h=>by
  rcases Jla hv with ⟨i,t,rfl,rfl⟩|⟨x,t,rfl,rfl⟩
  ·exact wpAny_pyHash_int h
  ·exact wpAny_pyHash_str h
 eqBool:=λhu hv h=>by
  rcases Jla hu with ⟨i,t,rfl,rfl⟩|⟨x,t,rfl,rfl⟩
  ·rcases Jla hv with ⟨j,u,rfl,rfl⟩|⟨y,u,rfl,rfl⟩
   ·rw [key_ll] at h;exact wpAny_eqBool_int h
   ·rw [key_lr] at h;exact SeqAt.EqAt.int_str i t y u _ _ _ _ h
  ·rcases Jla hv with ⟨j,u,rfl,rfl⟩|⟨y,u,rfl,rfl⟩
   ·rw [key_rl] at h;exact SeqAt.EqAt.str_int x t j u _ _ _ _ h
   ·rw [key_rr] at h;exact wpAny_eqBool_str h
 «strs»:=λk x t v h=>by
  rcases Jla h with ⟨i,u,rfl,e⟩|⟨y,u,rfl,e⟩
  ·exact nomatch e
  ·injection e with e1 _;subst e1;cases v <;> rfl
theorem Jyb (prog:Program) (w:World) (k:Key) (v:Value):(Jk6 prog w).is k v=Jrp k v:=rfl
theorem Joe (prog:Program) (w:World) (i:Int) (t:Tok):(Jk6 prog w).is (.inl i) (.int i t)=true:=Y9 i t
theorem Jof (prog:Program) (w:World) (x:Str) (t:Tok):(Jk6 prog w).is (.inr x) (.str x t)=true:=Ya x t
end L2
namespace L2
open PySem PySem.Spec PyProof.Rows
inductive V where
 |non|bl (b:Bool)|int (i:Int)|str (x:Str)|byt (b:Array UInt8)|flt (b:UInt64)|ref (a:Addr)|ty (n:String)
 deriving DecidableEq
noncomputable def RelV:V->Value->Prop
 | .non,u=>u=Value.none
 | .bl b,u=>u=Value.bool b
 | .int i,u=>∃t,u=Value.int i t
 | .str x,u=>∃t,u=Value.str x t
 | .byt b,u=>∃t,u=Value.bytes b t
 | .flt b,u=>∃t,u=Value.float b t
 | .ref a,u=>u=Value.ref a
 | .ty n,u=>u=Value.type n
noncomputable abbrev Vals:List V->List Value->Prop:=Paired RelV
theorem Vals.length {xs:List V} {us:List Value} (r:Vals xs us):xs.length=us.length:=Paired.length r
theorem Vals.get:∀{xs:List V} {us:List Value} {i:Nat} {x:V},Vals xs us->xs[i]?=some x->∃u,us[i]?=some u/\RelV x u
 |_,_,_,_,.nil,e=>by simp at e
 |_,_,0,_,.cons r _,e=>by simp at e;subst e;exact ⟨_,rfl,r⟩
 |_,_,i+1,x,.cons _ t,e=>by
  obtain ⟨u,h1,h2⟩:=Vals.get (i:=i) (x:=x) t (by simpa using e);exact ⟨u,by simpa using h1,h2⟩
theorem Vals.set {x:V} {u:Value} (r:RelV x u):∀{xs:List V} {us:List Value} (i:Nat),Vals xs us->Vals (xs.set i x) (us.set i u)
 |_,_,_,.nil=>.nil
 |_,_,0,.cons _ t=>.cons r t
 |_,_,i+1,.cons q t=>.cons q (Vals.set r i t)
theorem Vals.append:∀{xs ys:List V} {us ws:List Value},Vals xs us->Vals ys ws->Vals (xs++ys) (us++ws)
 |_,_,_,_,.nil,s=>s
 |_,_,_,_,.cons r t,s=>.cons r (Vals.append t s)
theorem Vals.take:∀{xs:List V} {us:List Value} (n:Nat),Vals xs us->Vals (xs.take n) (us.take n)
 |_,_,0,_=>.nil
 |_,_,_+1,.nil=>.nil
 |_,_,n+1,.cons r t=>.cons r (Vals.take n t)
theorem Vals.drop:∀{xs:List V} {us:List Value} (n:Nat),Vals xs us->Vals (xs.drop n) (us.drop n)
 |_,_,0,r=>r
 |_,_,_+1,.nil=>.nil
 |_,_,n+1,.cons _ t=>Vals.drop n t
noncomputable def RelO:Option V->Option Value->Prop
 |some v,some u=>RelV v u
 |none,none=>True
 |_,_=>False
noncomputable def KV {κ:Type}:List (κ×V)->List (κ×Value)->Prop:=Paired λ(p:κ×V) (q:κ×Value)=>p.1=q.1/\RelV p.2 q.2
noncomputable def kV:Key->V
 | .inl i=>.int i
 | .inr x=>.str x
inductive HO where
 |lst (xs:List V)
 |tup (xs:List V)
 |dK (kvs:List (Key×V))|dT (kvs:List (List Key×V))
 |set (S:Int->Bool) (n:Nat)
 |ins (C dx:Addr) (fs:List (Str×V))
 |own (x:Addr)
 |xd (fs:List (Str×V))
 |cod (q:Str)
 |rng (lo hi:Int)
 |frz (o:Obj) (u:HO)
 |tbl (ps:Array (Nat×Nat×Str))
 |ext (φ:Heap->Prop)
noncomputable abbrev Hp:=Addr->Option HO
noncomputable def upd (H:Hp) (a:Addr) (o:HO):Hp:=λb=>if b=a then some o else H b
theorem Jjq {H:Hp} {a:Addr} {o:HO}:upd H a o a=some o:=by unfold upd;rw [if_pos rfl]
theorem Jjx {H:Hp} {a b:Addr} {o:HO} (h:b≠a):upd H a o b=H b:=by unfold upd;rw [if_neg h]
theorem Jmq {H:Hp} {a:Addr} {o u:HO}:upd (upd H a o) a u=upd H a u:=by
 funext b;unfold upd;split <;> rfl
theorem ne_of {H:Hp} {a b:Addr} {o u:HO} (h:H a=some o) (h':H b=some u) (d:o≠u):a≠b:=by
 intro e;subst e;rw [h] at h';exact d (yae.inj h')
theorem Jjy {H:Hp} {a b:Addr} {o:HO} (h:H a=some o) (h':H b=none):a≠b:=by
 intro e;subst e;rw [h] at h';cases h'
noncomputable def celF (o:Obj):HO:=.frz o (.ext λ_=>True)
noncomputable def TrOk (H:Hp) (lb:Array (Nat×Nat×Str)):List Value->Prop
 | []=>True
 | .int l _:: .int c _::v::r=>(∃(n m:Nat) (q:Str) (a:Addr),(n,m,q)∈lb/\l=n/\c=m/\v= .ref a/\H a=some (.cod q))/\TrOk H lb r
 |_=>False
theorem TrOk.mono {H H':Hp} {lb:Array (Nat×Nat×Str)} (k:∀b q,H b=some (.cod q)->H' b=some (.cod q)) {l:List Value} (x:TrOk H lb l):TrOk H' lb l:=by
 fun_induction TrOk H lb l with
 |case1=>exact True.intro
 |case2 l _ c _ v r ih=>
  obtain ⟨⟨n,m,q,a,h1,h2,h3,h4,h5⟩,h6⟩:=x;exact ⟨⟨n,m,q,a,h1,h2,h3,h4,k _ _ h5⟩,ih h6⟩
 |case3=>exact x.elim
section
variable (P:Program) (w:World)
noncomputable def ObjOk (H:Hp) (h:Heap) (a:Addr):HO->Prop
 | .lst xs=>xs.length<=sizeLine/\∃(its:List Value) (n:Nat),Vals xs its/\h.get? a=some {cls:=.type "list",data:=.seq its.toArray n}
 | .tup xs=>xs.length<=sizeLine/\∃its:List Value,Vals xs its/\IsTup h a its.toArray
 | .dK kvs=>kvs.length<=sizeLine/\(a==sysModules)=false/\∃vs,KV kvs vs/\h.DictOf (Jk6 P w) a vs
 | .dT kvs=>kvs.length<=sizeLine/\(a==sysModules)=false/\∃xs:List (List Key×Addr×Value),
   Paired (λ(p:List Key×V) (q:List Key×Addr×Value)=>p.1=q.1/\H q.2.1=some (.tup (p.1.map kV))/\RelV p.2 q.2.2) kvs xs/\
   ∃o es ep,h.get? a=some o/\o.ExactDict/\o.data= .dict es ep/\es.toList=xs.map (entryOfKey (tupleKind (Jk6 P w)))/\(xs.map (·.1)).Nodup
 | .set S n=>h.SetOf (intKind P w) a S n
 | .ins C dx fs=>H dx=some (.own a)/\fs.length<=1000/\dx≠a/\h.get? a=some (PySem.W.instObj C dx)/\
   ∃mA,h.Ns1 dx mA/\(∀f,RelO (fs.lookup f) (mA f))/\PySem.Within mA (fs.map (·.1))
 | .own _=>∃o,h.get? a=some o
 | .xd fs=>∃mA,h.Ns1 a mA/\∀f,RelO (fs.lookup f) (mA f)
 | .rng lo hi=>∃t u v,h.get? a=some {cls:=.type "range",data:=.fields #[.int lo t,.int hi u,.int 1 v]}
 | .frz o u=>h.get? a=some o/\ObjOk H h a u
 | .tbl lb=>∃ts:Array Value,h.get? a=some ⟨.none,none,.fields ts,#[]⟩/\TrOk H lb ts.toList
 | .cod q=>h.CodeRec (.ref a) q
 | .ext φ=>φ h/\(∃o,h.get? a=some o)/\∀h1 h2:Heap,φ h1->(∀o,h1.get? a=some o->h2.get? a=some o)->φ h2
noncomputable def HOk (H:Hp) (h:Heap):Prop:=∀a o,H a=some o->ObjOk P w H h a o
end
section
variable {P:Program} {w:World} {H H':Hp} {h h':Heap} {a:Addr} {o:HO}
theorem ObjOk.lt (x:ObjOk P w H h a o):a < h.objs.size:=by
 cases o with
 |lst xs=>obtain ⟨_,_,_,_,e⟩:=x;exact yg e
 |tup xs=>obtain ⟨_,_,_,p⟩:=x;exact p.lt
 |dK kvs=>obtain ⟨_,_,_,_,o,_,_,e,_⟩:=x;exact yg e
 |dT kvs=>obtain ⟨_,_,_,_,o,_,_,e,_⟩:=x;exact yg e
 |set S n=>obtain ⟨o,_,_,_,e,_⟩:=x;exact yg e
 |ins C dx fs=>obtain ⟨_,_,_,e,_⟩:=x;exact yg e
 |own y=>obtain ⟨_,e⟩:=x;exact yg e
 |xd fs=>obtain ⟨_,⟨_,_,_,e,_⟩,_⟩:=x;exact yg e
 |rng lo hi=>obtain ⟨_,_,_,e⟩:=x;exact yg e
 |frz ob u=>obtain ⟨e,_⟩:=x;exact yg e
 |tbl lb=>obtain ⟨_,e,_⟩:=x;exact yg e
 |cod q=>obtain ⟨_,_,_,_,e1,e2,_⟩:=x;cases e1;exact yg e2
 |ext φ=>obtain ⟨_,⟨_,e⟩,_⟩:=x;exact yg e
theorem Paired.mapP {α β:Type} {F G:α->β->Prop}:∀{l₁:List α} {l₂:List β},Paired F l₁ l₂->(∀a b,F a b->G a b)->Paired G l₁ l₂
 |_,_,.nil,_=>.nil
 |_,_,.cons r t,f=>.cons (f _ _ r) (Paired.mapP t f)
theorem ObjOk.stay (x:ObjOk P w H h a o) (k:∀b u,(b=a\/H b=some (.own a))->h.get? b=some u->h'.get? b=some u)
  (ho:∀b,H b=some (.own a)->H' b=some (.own a)) (ht:∀b xs,H b=some (.tup xs)->H' b=some (.tup xs)) (hc:∀b q,H b=some (.cod q)->H' b=some (.cod q)):ObjOk P w H' h' a o:=by
 induction o with
 |lst xs=>obtain ⟨z,its,n,r,e⟩:=x;exact ⟨z,its,n,r,k _ _ (.inl rfl) e⟩
 |tup xs=>obtain ⟨z,its,r,ob,e,c⟩:=x;exact ⟨z,its,r,ob,k _ _ (.inl rfl) e,c⟩
 |dK kvs=>obtain ⟨z,y,vs,r,ob,es,ep,e,c⟩:=x;exact ⟨z,y,vs,r,ob,es,ep,k _ _ (.inl rfl) e,c⟩
 |dT kvs=>
  obtain ⟨z,y,xs,r,ob,es,ep,e,c⟩:=x;exact ⟨z,y,xs,Paired.mapP r λp q z=>⟨z.1,ht _ _ z.2.1,z.2.2⟩,ob,es,ep,k _ _ (.inl rfl) e,c⟩
 |set S n=>obtain ⟨ob,es,ep,t,e,c⟩:=x;exact ⟨ob,es,ep,t,k _ _ (.inl rfl) e,c⟩
 |ins C dx fs=>
  obtain ⟨d,z,ne,e,mA,⟨od,es,ep,e2,c⟩,r⟩:=x;exact ⟨ho _ d,z,ne,k _ _ (.inl rfl) e,mA,⟨od,es,ep,k _ _ (.inr d) e2,c⟩,r⟩
 |own y=>obtain ⟨ob,e⟩:=x;exact ⟨ob,k _ _ (.inl rfl) e⟩
 |xd fs=>obtain ⟨mA,⟨od,es,ep,e,c⟩,r⟩:=x;exact ⟨mA,⟨od,es,ep,k _ _ (.inl rfl) e,c⟩,r⟩
 |rng lo hi=>obtain ⟨t,u,v,e⟩:=x;exact ⟨t,u,v,k _ _ (.inl rfl) e⟩
 |frz ob u ih=>obtain ⟨e,q⟩:=x;exact ⟨k _ _ (.inl rfl) e,ih q⟩
 |tbl lb=>obtain ⟨ts,e,r⟩:=x;exact ⟨ts,k _ _ (.inl rfl) e,r.mono hc⟩
 |cod q=>obtain ⟨c,o,vs,t,e1,e2,e3,e4⟩:=x;cases e1;exact ⟨_,o,vs,t,rfl,k _ _ (.inl rfl) e2,e3,e4⟩
 |ext φ=>obtain ⟨p,⟨o,e⟩,st⟩:=x;exact ⟨st _ _ p λo q=>k _ _ (.inl rfl) q,⟨o,k _ _ (.inl rfl) e⟩,st⟩
theorem HOk.lt (x:HOk P w H h) (e:H a=some o):a < h.objs.size:=(x a o e).lt
theorem HOk.fresh (x:HOk P w H h) (e:h.objs.size<=a):H a=none:=by
 cases q:H a with
 |none=>rfl
 |some u=>exact absurd (yap (x.lt q) e) (yay _)
theorem HOk.kept (x:HOk P w H h) (k:∀b u,h.get? b=some u->h'.get? b=some u):HOk P w H h':=λa o e=>
 (x a o e).stay (λb u _ q=>k b u q) (λ_ q=>q) (λ_ _ q=>q) λ_ _ q=>q
theorem HOk.laid (x:HOk P w H h) (k:∀b u,h.get? b=some u->h'.get? b=some u) (hp:h.objs.size<=a) (new:ObjOk P w (upd H a o) h' a o):HOk P w (upd H a o) h':=λb u e=>by
 have hn:=x.fresh hp;by_cases hb:b=a
 ·subst hb;rw [Jjq] at e;cases e;exact new
 ·rw [Jjx hb] at e;exact (x b u e).stay (λc v _ q=>k c v q) (λc q=>by rw [Jjx (Jjy q hn)];exact q) (λc xs q=>by rw [Jjx (Jjy q hn)];exact q) λc xs q=>by rw [Jjx (Jjy q hn)];exact q
end
noncomputable def Rd (H:Hp) (a:Addr) (u:HO):Prop:=H a=some u\/∃o,H a=some (.frz o u)
theorem Rd.ok {P:Program} {w:World} {H:Hp} {h:Heap} {a:Addr} {u:HO} (r:Rd H a u) (x:HOk P w H h):ObjOk P w H h a u:=by
 rcases r with r|⟨o,r⟩
 ·exact x a u r
 ·obtain ⟨_,q⟩:=x a _ r;exact q
noncomputable def Mut:Option HO->Prop
 |some (.lst _)=>True
 |some (.dK _)=>True
 |some (.dT _)=>True
 |some (.set _ _)=>True
 |some (.ins _ _ _)=>True
 |some (.ext _)=>True
 |_=>False
section
variable {P:Program} {w:World} {H:Hp} {h h':Heap} {x e:Addr} {o':HO}
theorem HOk.write (ok:HOk P w H h) (mu:Mut (H x)) (he:e=x\/H e=some (.own x)) (k:∀b u,b≠e->h.get? b=some u->h'.get? b=some u) (heo:∃u,h'.get? e=some u)
  (new:ObjOk P w (upd H x o') h' x o'):HOk P w (upd H x o') h':=λb u q=>by
 have nown:∀c y,H c=some (.own y)->c≠x:=λc y r z=>by subst z;rw [r] at mu;exact mu
 have ntup:∀c xs,H c=some (.tup xs)->c≠x:=λc xs r z=>by subst z;rw [r] at mu;exact mu
 by_cases hb:b=x
 ·subst hb;rw [Jjq] at q;cases q;exact new
 ·rw [Jjx hb] at q;by_cases hbe:b=e
  ·have q':H b=some (.own x):=by
    rcases he with z|z
    ·exact absurd (hbe.trans z) hb
    ·rw [hbe];exact z
   rw [q] at q';cases q';obtain ⟨v,hv⟩:=heo;exact ⟨v,by rw [hbe];exact hv⟩
  ·refine (ok b u q).stay (λc v hc r=>k c v ?_ r) (λc r=>by rw [Jjx (nown c b r)];exact r) (λc xs r=>by rw [Jjx (ntup c xs r)];exact r) λc xs r=>by rw [Jjx λz=>by subst z;rw [r] at mu;exact mu];exact r
   rcases hc with rfl|hc
   ·exact hbe
   ·rintro rfl;rcases he with z|z
    ·exact nown c b hc z
    ·rw [hc] at z;cases z;exact hb rfl
end
structure Un (fs ex:List Addr) (H H':Hp) (h h':Heap):Prop where
 keep:∀b o,h.get? b=some o->H b=none->b∉fs->b∉ex->h'.get? b=some o
 slot:∀b o,h.get? b=some o->H b=none->b∈fs->b∉ex->∃sl,h'.get? b=some {o with slots:=sl}
 free:∀b o,h.get? b=some o->H b=none->b∉ex->H' b=none
 there:∀b o,h.get? b=some o->b∉ex->∃o',h'.get? b=some o'
 tups:∀b xs,H b=some (.tup xs)->H' b=some (.tup xs)
 frzs:∀b o u,H b=some (.frz o u)->H' b=some (.frz o u)
 tbls:∀b ps,H b=some (.tbl ps)->∃more,H' b=some (.tbl (ps++more))
section
variable {fs fs' ex ex':List Addr} {H H1 H2:Hp} {h h1 h2 h':Heap} {a x e:Addr} {o:HO}
theorem Un.any (u:Un fs ex H H1 h h1) {b:Addr} {ob:Obj} (q:h.get? b=some ob) (n:H b=none) (hx:b∉ex):∃sl,h1.get? b=some {ob with slots:=sl}:=by
 by_cases hb:b∈fs
 ·exact u.slot b ob q n hb hx
 ·exact ⟨ob.slots,u.keep b ob q n hb hx⟩
theorem Un.trans (a:Un fs ex H H1 h h1) (b:Un fs ex H1 H2 h1 h2):Un fs ex H H2 h h2 where
 keep:=λc ob q n hc hx=>b.keep c ob (a.keep c ob q n hc hx) (a.free c ob q n hx) hc hx
 slot:=λc ob q n hc hx=>by
  obtain ⟨sl,e1⟩:=a.slot c ob q n hc hx;obtain ⟨sl',e2⟩:=b.slot c _ e1 (a.free c ob q n hx) hc hx;exact ⟨sl',e2⟩
 free:=λc ob q n hx=>by
  obtain ⟨o',e1⟩:=a.there c ob q hx;exact b.free c o' e1 (a.free c ob q n hx) hx
 there:=λc ob q hx=>by
  obtain ⟨o',e1⟩:=a.there c ob q hx;exact b.there c o' e1 hx
 tups:=λc xs q=>b.tups c xs (a.tups c xs q)
 frzs:=λc ob xs q=>b.frzs c ob xs (a.frzs c ob xs q)
 tbls:=λc ps q=>by
  obtain ⟨m1,e1⟩:=a.tbls c ps q;obtain ⟨m2,e2⟩:=b.tbls c _ e1;exact ⟨m1++m2,by rw [e2,Array.append_assoc]⟩
theorem Un.kept (k:∀b u,h.get? b=some u->h'.get? b=some u):Un fs ex H H h h':=
 ⟨λb ob q _ _ _=>k b ob q,λb ob q _ _ _=>⟨ob.slots,k b ob q⟩,λ_ _ _ n _=>n,λb ob q _=>⟨ob,k b ob q⟩,λ_ _ q=>q,λ_ _ _ q=>q,λ_ ps q=>⟨#[],by rw [q];simp⟩⟩
theorem Un.refl:Un fs ex H H h h:=Un.kept λ_ _ q=>q
theorem Un.laid (k:∀b u,h.get? b=some u->h'.get? b=some u) (hp:h.objs.size<=a) (hn:H a=none):Un fs ex H (upd H a o) h h' where
 keep:=λb u q _ _ _=>k b u q
 slot:=λb u q _ _ _=>⟨u.slots,k b u q⟩
 free:=λb u q n _=>by rw [Jjx (yr (yap (yg q) hp))];exact n
 there:=λb u q _=>⟨u,k b u q⟩
 tups:=λb xs q=>by rw [Jjx (Jjy q hn)];exact q
 frzs:=λb u xs q=>by rw [Jjx (Jjy q hn)];exact q
 tbls:=λb ps q=>⟨#[],by rw [Jjx (Jjy q hn),q];simp⟩
theorem Un.write (mu:Mut (H x)) (he:e=x\/H e=some (.own x)) (k:∀b u,b≠e->h.get? b=some u->h'.get? b=some u) (heo:∃u,h'.get? e=some u):Un fs ex H (upd H x o) h h':=by
 have hx:∀b,H b=none->b≠x:=λb n z=>by subst z;rw [n] at mu;exact mu
 have hb:∀b,H b=none->b≠e:=λb n z=>by
  subst z;rcases he with r|r
  ·exact hx b n r
  ·rw [n] at r;cases r
 have hm:∀b u,H b=some u->¬Mut (some u)->b≠x:=λb u q nm z=>by subst z;rw [q] at mu;exact nm mu
 refine ⟨λb u q n _ _=>k b u (hb b n) q,λb u q n _ _=>⟨u.slots,k b u (hb b n) q⟩,λb u q n _=>by rw [Jjx (hx b n)];exact n,λb u q _=>?_,
  λb xs q=>by rw [Jjx (hm b _ q λz=>z)];exact q,λb u xs q=>by rw [Jjx (hm b _ q λz=>z)];exact q,λb ps q=>⟨#[],by rw [Jjx (hm b _ q λz=>z),q];simp⟩⟩
 by_cases hbe:b=e
 ·subst hbe;exact heo
 ·exact ⟨u,k b u hbe q⟩
end
noncomputable def trk (h:Heap) (H:Hp):List Addr:=(yt h.objs.size).filter λa=>(H a).isSome
noncomputable def Jvg (h:Heap) (H:Hp):Heap:=PySem.W.hideAll h (trk h H)
theorem Y2 (h:Heap) (H:Hp):(Jvg h H).objs.size=h.objs.size:=PySem.W.hideAll_size _ _
theorem Jsl {h:Heap} {H:Hp} {b:Addr} {o:Obj} (e:h.get? b=some o) (n:H b=none):(Jvg h H).get? b=some o:=
 PySem.W.hideAll_get _ e λhm=>by
  have q:(H b).isSome=true:=(yav.mp hm).2;rw [n] at q;simp at q
theorem Ydg {h:Heap} {H:Hp} {b:Addr} {o:Obj} (e:(Jvg h H).get? b=some o):h.get? b=some o/\H b=none:=by
 have e':h.get? b=some o:=PySem.W.of_hideAll (trk h H) e;refine ⟨e',?_⟩;cases q:H b with
 |none=>rfl
 |some x=>
  have hm:b∈trk h H:=yav.mpr ⟨yac.mpr (yg e'),by simp [q]⟩;have z:(Jvg h H).get? b=none:=PySem.W.hideAll_none (trk h H) hm;rw [z] at e;cases e
end L2
namespace L2
open PySem PySem.Spec PyProof.Rows
structure Mod (K:PySem.W.Frag) (mg:Str->Option Value) (base:Heap):Prop where
 kin:K.In base
 glob:base.Ns mainGlobals mg
 blt:∃mb,base.Ns builtinsNs mb/\∀x:Str,x≠"__name__" ->mb x=bootBuiltins x
 nolimit:base.NoLimit
structure Cx where
 prog:Program
 w:World
 K:PySem.W.Frag
 mg:Str->Option Value
 base:Heap
 A:Around
 N:List Str
 s₀:Shared
 H₀:Hp
 env:Env
 outer:List Env
 stack:List Env
 ex:List Addr
 fn:Str->Bool
 calm:Bool
 pn:List (Addr×Obj)
 xe:Value->Shared->Prop
noncomputable def frs (l:List Env):List Addr:=l.filterMap (·.frame)
noncomputable abbrev Cx.fs (X:Cx):List Addr:=frs X.outer
noncomputable def Vis (sc:Scope) (x:Str):Prop:=sc.names.lookup x=some .local\/sc.names.lookup x=some .cell\/sc.names.lookup x=some .free
noncomputable def Loc (sc:Scope) (x:Str):Prop:=sc.names.lookup x=some .local\/sc.names.lookup x=some .cell
noncomputable def Look (env:Env) (h:Heap) (m:Str->Option Value) (x:Str) (u:Value):Prop:=
 (env.kindOf x=some .local/\m x=some u)\/((env.kindOf x=some .cell\/env.kindOf x=some .free)/\∃c,env.cells.lookup x=some c/\h.IsCell c (some u))
structure Cx.Ok (X:Cx):Prop where
 mod:Mod X.K X.mg X.base
 kind:X.env.scope.kind= .function
 glob:X.env.globals=mainGlobals
 blt:X.env.builtins=builtinsNs
 above:X.s₀.heap.objs.size<=X.env.locals
 inj:∀x y c,X.env.cells.lookup x=some c->X.env.cells.lookup y=some c->x=y
 has:∀x,(X.env.kindOf x=some .cell\/X.env.kindOf x=some .free)->∃c,X.env.cells.lookup x=some c
 cab:∀x c,X.fn x=true->X.env.cells.lookup x=some c->X.s₀.heap.objs.size<=c
 hd:X.calm=true->X.A.handled=none
 frames:X.A.frames=some X.stack
 stk:X.stack=X.outer\/(X.stack=X.env::X.outer/\X.env.frame=some X.env.locals)
 exf:∀b∈X.ex,b≠X.env.locals/\∀x c,X.env.cells.lookup x=some c->c≠b
 bs:∀b o,X.base.get? b=some o->X.s₀.heap.get? b=some o/\X.H₀ b=none
 bsz:X.base.objs.size<=X.s₀.heap.objs.size
 noex:∀b o,X.base.get? b=some o->b∉X.ex
 exfs:∀b∈X.ex,b∉X.fs
 funs:X.s₀.heap.FunFrames X.base X.outer
 frf:∀b∈X.fs,X.H₀ b=none
structure Inv (X:Cx) (pins:List (Addr×Obj)) (σ:List (Option V)) (H:Hp) (s:Shared):Prop where
 ok:X.Ok
 os:s.os=X.s₀.os
 bare:AllBare s.gens
 base:Un X.fs X.ex X.H₀ H X.s₀.heap s.heap
 loc:∃m,s.heap.Ns X.env.locals m/\∀(i:Nat) (x:Str) (v:V),X.N[i]?=some x->σ[i]?=some (some v)->Vis X.env.scope x->∃u,RelV v u/\Look X.env s.heap m x u
 cell:∀x c,X.env.cells.lookup x=some c->∃v,s.heap.IsCell c v
 free:H X.env.locals=none
 freeC:∀x c,X.env.cells.lookup x=some c->H c=none\/(X.fn x=false/\∃o,H c=some (celF o))
 pin:∀p∈X.pn++pins,s.heap.get? p.1=some p.2/\H p.1=none/\p.1≠X.env.locals/\p.1∉X.fs/\∀v,p.2.data≠ .cell v
 hok:HOk X.prog X.w H s.heap
 len:σ.length=X.N.length
section
variable {X:Cx} {pins:List (Addr×Obj)} {σ:List (Option V)} {H H':Hp} {s:Shared} {h':Heap}
theorem Cx.Ok.nofr (ok:X.Ok) {b:Addr} {o:Obj} (e:X.base.get? b=some o):b∉X.fs:=λhb=>by
 have:=(ok.funs.mem hb).1;rw [e] at this;cases this
theorem Inv.bs (I:Inv X pins σ H s):∀b o,X.base.get? b=some o->s.heap.get? b=some o/\H b=none:=λb o e=>
 ⟨I.base.keep b o (I.ok.bs b o e).1 (I.ok.bs b o e).2 (I.ok.nofr e) (I.ok.noex b o e),I.base.free b o (I.ok.bs b o e).1 (I.ok.bs b o e).2 (I.ok.noex b o e)⟩
theorem Inv.bk (I:Inv X pins σ H s):∀b o,X.base.get? b=some o->s.heap.get? b=some o:=λb o e=>(I.bs b o e).1
theorem Inv.mod (I:Inv X pins σ H s):Mod X.K X.mg X.base:=I.ok.mod
theorem Inv.kIn (I:Inv X pins σ H s):X.K.In s.heap:=I.ok.mod.kin.keeps I.bk
theorem Inv.lt (I:Inv X pins σ H s):X.env.locals < s.heap.objs.size:=let ⟨_,hn,_⟩:=I.loc;hn.lt
theorem Inv.sz (I:Inv X pins σ H s):X.s₀.heap.objs.size<=s.heap.objs.size:=yai I.ok.above (yaq I.lt)
theorem Inv.nofs (I:Inv X pins σ H s) {a:Addr} (h:s.heap.objs.size<=a):a∉X.fs:=λhb=>by
 obtain ⟨_,o,ho,_⟩:=I.ok.funs.mem hb;exact absurd (yap (yg ho) (yai I.sz h)) (yay _)
theorem Inv.cne (I:Inv X pins σ H s):∀x c,X.env.cells.lookup x=some c->c≠X.env.locals:=λx c e z=>by
 obtain ⟨v,o,ho,hd⟩:=I.cell x c e;obtain ⟨m,⟨o',es,ep,ho',hd',_⟩,_⟩:=I.loc;rw [z,ho'] at ho;cases ho;rw [hd'] at hd;cases hd
theorem Inv.funs (I:Inv X pins σ H s):s.heap.FunFrames X.base X.outer:=by
 have all:∀(l:List Env),(∀b∈frs l,b∈X.fs)->X.s₀.heap.FunFrames X.base l->s.heap.FunFrames X.base l:=by
  intro l
  induction l with
  |nil=>intro _ _;trivial
  |cons env r ih=>
   intro hs hl;obtain ⟨hk,⟨L,o,hf,hn,ho,hd⟩,hr⟩:=hl;have hL:L∈X.fs:=hs L (by unfold frs;rw [yci,hf];exact yal);obtain ⟨sl,e⟩:=I.base.slot L o ho (I.ok.frf L hL) hL λz=>I.ok.exfs L z hL;exact ⟨hk,⟨L,_,hf,hn,e,hd⟩,ih (λb hb=>hs b (by unfold frs;rw [yci,hf];exact yaf _ hb)) hr⟩
 exact all X.outer (λ_ hb=>hb) I.ok.funs
theorem Inv.stack (I:Inv X pins σ H s):s.heap.FunFrames X.base X.stack:=by
 rcases I.ok.stk with e|⟨e,hf⟩
 ·rw [e];exact I.funs
 ·rw [e];obtain ⟨m,hn,_⟩:=I.loc;refine .cons (by rw [I.ok.kind];decide) hf hn ?_ I.funs;exact Heap.get?_none_of_le (yai I.ok.bsz I.ok.above)
theorem Inv.stkSub (I:Inv X pins σ H s):∀b∈frs X.stack,b∈X.env.locals::X.fs:=λb hb=>by
 rcases I.ok.stk with e|⟨e,hf⟩
 ·rw [e] at hb;exact yaf _ hb
 ·rw [e] at hb;unfold frs at hb;rw [yci,hf] at hb;exact hb
theorem Inv.stkFree (I:Inv X pins σ H s):∀b∈frs X.stack,H b=none:=λb hb=>by
 rcases yo.mp (I.stkSub b hb) with e|hb
 ·rw [e];exact I.free
 ·obtain ⟨_,o,ho,_⟩:=I.ok.funs.mem hb;exact I.base.free b o ho (I.ok.frf b hb) λz=>I.ok.exfs b z hb
theorem Inv.step {g':Array GenState} {t':Nat} {d':Drawn} {ch:List Addr} (I:Inv X pins σ H s)
  (hch:∀b∈ch,(b∈X.ex\/X.s₀.heap.objs.size<=b)/\b≠X.env.locals/\(∀x c,X.env.cells.lookup x=some c->c≠b)/\∀p∈X.pn++pins,p.1≠b)
  (keep:∀b o,b≠X.env.locals->b∉X.fs->b∉ch->s.heap.get? b=some o->H b=none->h'.get? b=some o)
  (slot:∀b o,b≠X.env.locals->b∈X.fs->b∉ch->s.heap.get? b=some o->H b=none->∃sl,h'.get? b=some {o with slots:=sl}) (free:∀b o,b∉ch->s.heap.get? b=some o->H b=none->H' b=none)
  (there:∀b o,b∉ch->s.heap.get? b=some o->∃o',h'.get? b=some o')
  (tups:∀b xs,H b=some (.tup xs)->H' b=some (.tup xs)) (frzs:∀b o u,H b=some (.frz o u)->H' b=some (.frz o u)) (tbls:∀b ps,H b=some (.tbl ps)->∃more,H' b=some (.tbl (ps++more)))
  (ns:∀m,s.heap.Ns X.env.locals m->h'.Ns X.env.locals m) (hok:HOk X.prog X.w H' h') (hg:AllBare g'):
  Inv X pins σ H' {s with heap:=h',gens:=g',drawn:=d',toks:=t'}:=by
 have neL:∀b o,X.s₀.heap.get? b=some o->b≠X.env.locals:=λb o e=>yr (yap (yg e) I.ok.above);have neC:∀b o,X.s₀.heap.get? b=some o->b∉X.ex->b∉ch:=λb o e hx hb=>by
  rcases (hch b hb).1 with z|z
  ·exact hx z
  ·exact absurd (yap (yg e) z) (yay _)
 have cellK:∀x c,X.env.cells.lookup x=some c->∀v,s.heap.IsCell c v->h'.IsCell c v:=λx c e v ⟨o,ho,hd⟩=>by
  have nch:c∉ch:=λz=>(hch c z).2.2.1 x c e rfl;rcases I.freeC x c e with n|⟨_,ob,q⟩
  ·by_cases hc:c∈X.fs
   ·obtain ⟨sl,q⟩:=slot c o (I.cne x c e) hc nch ho n;exact ⟨_,q,hd⟩
   ·exact ⟨o,keep c o (I.cne x c e) hc nch ho n,hd⟩
  ·obtain ⟨e1,_⟩:=I.hok c _ q;obtain ⟨e2,_⟩:=hok c _ (frzs c ob _ q);rw [ho] at e1;cases e1;exact ⟨_,e2,hd⟩
 refine ⟨I.ok,I.os,hg,⟨λb o e n hb hx=>?_,λb o e n hb hx=>?_,λb o e n hx=>?_,λb o e hx=>?_,λb xs e=>tups b xs (I.base.tups b xs e),λb o xs e=>frzs b o xs (I.base.frzs b o xs e),λb ps e=>?_⟩,?_,λx c e=>?_,?_,λx c e=>?_,λp hp=>?_,hok,I.len⟩
 ·exact keep b o (neL b o e) hb (neC b o e hx) (I.base.keep b o e n hb hx) (I.base.free b o e n hx)
 ·obtain ⟨sl,e1⟩:=I.base.slot b o e n hb hx;obtain ⟨sl',e2⟩:=slot b _ (neL b o e) hb (neC b o e hx) e1 (I.base.free b o e n hx);exact ⟨sl',e2⟩
 ·obtain ⟨o',e1⟩:=I.base.there b o e hx;exact free b o' (neC b o e hx) e1 (I.base.free b o e n hx)
 ·obtain ⟨o',e1⟩:=I.base.there b o e hx;exact there b o' (neC b o e hx) e1
 ·obtain ⟨m1,e1⟩:=I.base.tbls b ps e;obtain ⟨m2,e2⟩:=tbls b _ e1;exact ⟨m1++m2,by rw [e2,Array.append_assoc]⟩
 ·obtain ⟨m,hn,hl⟩:=I.loc;refine ⟨m,ns m hn,λi x v e1 e2 e3=>?_⟩;obtain ⟨u,r,l⟩:=hl i x v e1 e2 e3;refine ⟨u,r,?_⟩;rcases l with l|⟨k,c,e,z⟩
  ·exact .inl l
  ·exact .inr ⟨k,c,e,cellK x c e _ z⟩
 ·obtain ⟨v,z⟩:=I.cell x c e;exact ⟨v,cellK x c e v z⟩
 ·obtain ⟨m,⟨o,_,_,ho,_⟩,_⟩:=I.loc;exact free _ o (λz=>(hch _ z).2.1 rfl) ho I.free
 ·obtain ⟨v,o,ho,hd⟩:=I.cell x c e;rcases I.freeC x c e with n|⟨hf,ob,q⟩
  ·exact .inl (free c o (λz=>(hch c z).2.2.1 x c e rfl) ho n)
  ·exact .inr ⟨hf,ob,frzs c ob _ q⟩
 ·obtain ⟨e,n,ne,nf,d⟩:=I.pin p hp;have nch:p.1∉ch:=λz=>(hch p.1 z).2.2.2 p hp rfl;exact ⟨keep p.1 p.2 ne nf nch e n,free p.1 p.2 nch e n,ne,nf,d⟩
theorem Inv.un {t':Nat} (I:Inv X pins σ H s) (u:Un X.fs [] H H' s.heap h') (hok:HOk X.prog X.w H' h'):Inv X pins σ H' {s with heap:=h',toks:=t'}:=by
 obtain ⟨m,⟨o,es,ep,ho,r⟩,_⟩:=id I.loc;obtain ⟨sl,hL⟩:=u.any ho I.free (by simp);exact I.step (g':=s.gens) (d':=s.drawn) (ch:=[]) (λ_ z=>nomatch z) (λb o _ hb _ e n=>u.keep b o e n hb (by simp)) (λb o _ hb _ e n=>u.slot b o e n hb (by simp)) (λb o _ e n=>u.free b o e n (by simp)) (λb o _ e=>u.there b o e (by simp)) u.tups u.frzs u.tbls (λm' hm=>by
  obtain ⟨o',es',ep',ho',r'⟩:=hm;rw [ho] at ho';cases ho';exact ⟨_,es',ep',hL,r'⟩) hok I.bare
theorem Inv.call {g':Array GenState} {t':Nat} {d':Drawn} {ch:List Addr} (I:Inv X pins σ H s) (u:Un (frs X.stack) ch H H' s.heap h') (hok:HOk X.prog X.w H' h') (hg:AllBare g')
  (hch:∀b∈ch,(b∈X.ex\/X.s₀.heap.objs.size<=b)/\b≠X.env.locals/\(∀x c,X.env.cells.lookup x=some c->c≠b)/\∀p∈X.pn++pins,p.1≠b):
  Inv X pins σ H' {s with heap:=h',gens:=g',drawn:=d',toks:=t'}:=by
 obtain ⟨m,⟨o,es,ep,ho,r⟩,_⟩:=id I.loc;obtain ⟨sl,hL⟩:=u.any ho I.free λz=>(hch _ z).2.1 rfl;exact I.step (ch:=ch) hch (λb o hL hb hc e n=>u.keep b o e n (λz=>(yo.mp (I.stkSub b z)).elim hL hb) hc) (λb o _ _ hc e n=>u.any e n hc) (λb o hc e n=>u.free b o e n hc) (λb o hc e=>u.there b o e hc) u.tups u.frzs u.tbls (λm' hm=>by
  obtain ⟨o',es',ep',ho',r'⟩:=hm;rw [ho] at ho';cases ho';exact ⟨_,es',ep',hL,r'⟩) hok hg
theorem Inv.turned {t':Nat} {it:Addr} (I:Inv X pins σ H s) (k:∀b o,b≠it->s.heap.get? b=some o->h'.get? b=some o) (hn:H it=none) (hL:it≠X.env.locals)
  (h1:it∈X.ex\/X.s₀.heap.objs.size<=it) (h2:∀x c,X.env.cells.lookup x=some c->c≠it) (h3:∀p∈X.pn++pins,p.1≠it):Inv X pins σ H {s with heap:=h',toks:=t'}:=by
 have nit:∀b u,H b=some u->b≠it:=λb u e z=>by rw [z,hn] at e;cases e
 refine I.step (g':=s.gens) (d':=s.drawn) (ch:=[it]) (λb hb=>?_) (λb o _ _ hc e _=>k b o (λz=>hc (by simp [z])) e) (λb o _ _ hc e _=>⟨o.slots,k b o (λz=>hc (by simp [z])) e⟩) (λ_ _ _ _ n=>n)
  (λb o hc e=>⟨o,k b o (λz=>hc (by simp [z])) e⟩) (λ_ _ e=>e) (λ_ _ _ e=>e) (λb ps e=>⟨#[],by rw [e];simp⟩) (λm hm=>?_) (λb u e=>?_) I.bare
 ·have e:b=it:=by simpa using hb
  subst e;exact ⟨h1,hL,h2,h3⟩
 ·obtain ⟨o,es,ep,ho,r⟩:=hm;exact ⟨o,es,ep,k _ o (yk hL) ho,r⟩
 ·refine (I.hok b u e).stay (λc v hc q=>k c v ?_ q) (λ_ q=>q) (λ_ _ q=>q) λ_ _ q=>q;rcases hc with z|z
  ·rw [z];exact nit b u e
  ·exact nit c _ z
theorem Inv.tok (I:Inv X pins σ H s) (t:Nat):Inv X pins σ H {s with toks:=t}:=I.un (h':=s.heap) (t':=t) Un.refl I.hok
theorem Inv.kept {t':Nat} (I:Inv X pins σ H s) (k:∀b u,s.heap.get? b=some u->h'.get? b=some u):Inv X pins σ H {s with heap:=h',toks:=t'}:=I.un (Un.kept k) (I.hok.kept k)
theorem Inv.laid {a:Addr} {o:HO} {t':Nat} (I:Inv X pins σ H s) (k:∀b u,s.heap.get? b=some u->h'.get? b=some u) (hp:s.heap.objs.size<=a) (new:ObjOk X.prog X.w (upd H a o) h' a o):
  Inv X pins σ (upd H a o) {s with heap:=h',toks:=t'}:=I.un (Un.laid k hp (I.hok.fresh hp)) (I.hok.laid k hp new)
theorem Inv.write {x e:Addr} {o:HO} {t':Nat} (I:Inv X pins σ H s) (mu:Mut (H x)) (he:e=x\/H e=some (.own x)) (k:∀b u,b≠e->s.heap.get? b=some u->h'.get? b=some u) (heo:∃u,h'.get? e=some u)
  (new:ObjOk X.prog X.w (upd H x o) h' x o):Inv X pins σ (upd H x o) {s with heap:=h',toks:=t'}:=I.un (Un.write mu he k heo) (I.hok.write mu he k heo new)
theorem Inv.pins_of {pins':List (Addr×Obj)} (I:Inv X pins σ H s) (h:∀p∈pins',s.heap.get? p.1=some p.2/\H p.1=none/\p.1≠X.env.locals/\p.1∉X.fs/\∀v,p.2.data≠ .cell v):Inv X pins' σ H s:=
 ⟨I.ok,I.os,I.bare,I.base,I.loc,I.cell,I.free,I.freeC,λp hp=>(ybw.mp hp).elim (λz=>I.pin p (List.mem_append_left _ z)) (h p),I.hok,I.len⟩
theorem Jsw {N:List Str} (hN:N.Nodup) {i j:Nat} {x:Str} (a:N[i]?=some x) (b:N[j]?=some x):i=j:=by
 obtain ⟨h1,e1⟩:=yq.mp a;obtain ⟨h2,e2⟩:=yq.mp b;exact (List.getElem_inj hN).mp (e1.trans e2.symm)
theorem Jv4 {M:Model} {A:Around} {E:Value->Shared->Prop} {i:Nat} {x:Str} {v:V} {u:Value} {Q:Unit->Shared->Prop} (I:Inv X pins σ H s) (hN:X.N.Nodup) (hi:X.N[i]?=some x) (hx:Loc X.env.scope x) (r:RelV v u)
  (h:∀s',Inv X pins (σ.set i (some v)) H s'->(∃a,yam a s.heap s'.heap/\(a=X.env.locals\/X.env.cells.lookup x=some a))->Q () s') (hf:X.fn x=true\/X.env.scope.names.lookup x=some .local:=by first|exact .inl rfl|exact .inr rfl|assumption):wpAny M A (storeName X.env x u) Q E s:=by
 obtain ⟨m,hn,hl⟩:=id I.loc;have hcls:(X.env.scope.kind== .class||(X.env.scope.kind== .module&&X.env.locals !=X.env.globals))=false:=by rw [I.ok.kind];rfl
 have hiσ:i < σ.length:=by rw [I.len];exact (yq.mp hi).1
 have cne:=I.cne;have tracked:∀{a:Addr} {h':Heap},(∃o,s.heap.get? a=some o/\H a=none)->yam a s.heap h'->HOk X.prog X.w H h':=λ{a h'} ha hs b ob e=>by
  obtain ⟨_,_,hfree⟩:=ha;refine (I.hok b ob e).stay (λc w' hc q=>(hs.2 c ?_).trans q) (λ_ q=>q) (λ_ _ q=>q) λ_ _ q=>q;rintro rfl;rcases hc with rfl|hc
  ·rw [hfree] at e;cases e
  ·rw [hfree] at hc;cases hc
 rcases hx with hk|hk
 ·refine wpAny_storeName_local hk hn (λh' hn' hs=>?_) hcls;obtain ⟨oL,_,_,hoL,_⟩:=id hn;refine h _ ⟨I.ok,I.os,I.bare,⟨λb o e n hb hx=>?_,λb o e n hb hx=>?_,I.base.free,λb o e hx=>?_,I.base.tups,I.base.frzs,I.base.tbls⟩,⟨_,hn',λj y v' e1 e2 e3=>?_⟩,λy c e=>?_,I.free,I.freeC,λp hp=>?_,tracked ⟨oL,hoL,I.free⟩ hs,by simpa using I.len⟩ ⟨_,hs,.inl rfl⟩
  ·exact (hs.2 b (yr (yap (yg e) I.ok.above))).trans (I.base.keep b o e n hb hx)
  ·obtain ⟨sl,e1⟩:=I.base.slot b o e n hb hx;exact ⟨sl,(hs.2 b (yr (yap (yg e) I.ok.above))).trans e1⟩
  ·obtain ⟨o',e1⟩:=I.base.there b o e hx;exact ⟨o',(hs.2 b (yr (yap (yg e) I.ok.above))).trans e1⟩
  ·by_cases hj:j=i
   ·subst hj;rw [hi] at e1;cases e1;rw [List.getElem?_set_self hiσ] at e2;cases e2;exact ⟨u,r,.inl ⟨hk,by simp⟩⟩
   ·rw [ycj (yk hj)] at e2;obtain ⟨u',r',q⟩:=hl j y v' e1 e2 e3;refine ⟨u',r',?_⟩;rcases q with ⟨k,e⟩|⟨k,c,e,z⟩
    ·refine .inl ⟨k,?_⟩;have:y≠x:=λe=>hj (Jsw hN e1 (e▸hi));simp [this,e]
    ·exact .inr ⟨k,c,e,z.sameBut hs (cne y c e)⟩
  ·obtain ⟨w',z⟩:=I.cell y c e;exact ⟨w',z.sameBut hs (cne y c e)⟩
  ·obtain ⟨e,n,ne,nf,d⟩:=I.pin p hp;exact ⟨(hs.2 p.1 ne).trans e,n,ne,nf,d⟩
 ·have hfn:X.fn x=true:=by
   rcases hf with z|z
   ·exact z
   ·rw [z] at hk;cases hk
  obtain ⟨c,hc⟩:=I.ok.has x (.inl hk);obtain ⟨w',z⟩:=I.cell x c hc;refine wpAny_storeName_cell I.ok.kind hk hc z (λh' hc' hs=>?_);obtain ⟨oc,hoc,hocd⟩:=id z;refine h {s with heap:=h'} ⟨I.ok,I.os,I.bare,⟨λb o e n hb hx=>?_,λb o e n hb hx=>?_,I.base.free,λb o e hx=>?_,I.base.tups,I.base.frzs,I.base.tbls⟩,⟨m,hn.sameBut hs (yk (cne x c hc)),λj y v' e1 e2 e3=>?_⟩,λy c' e=>?_,I.free,I.freeC,λp hp=>?_,tracked ⟨oc,hoc,(I.freeC x c hc).elim id λz=>by rw [hfn] at z;cases z.1⟩ hs,by simpa using I.len⟩ ⟨c,hs,.inr hc⟩
  ·exact (hs.2 b (yr (yap (yg e) (I.ok.cab x c hfn hc)))).trans (I.base.keep b o e n hb hx)
  ·obtain ⟨sl,e1⟩:=I.base.slot b o e n hb hx;exact ⟨sl,(hs.2 b (yr (yap (yg e) (I.ok.cab x c hfn hc)))).trans e1⟩
  ·obtain ⟨o',e1⟩:=I.base.there b o e hx;exact ⟨o',(hs.2 b (yr (yap (yg e) (I.ok.cab x c hfn hc)))).trans e1⟩
  ·by_cases hj:j=i
   ·subst hj;rw [hi] at e1;cases e1;rw [List.getElem?_set_self hiσ] at e2;cases e2;exact ⟨u,r,.inr ⟨.inl hk,c,hc,hc'⟩⟩
   ·rw [ycj (yk hj)] at e2;obtain ⟨u',r',q⟩:=hl j y v' e1 e2 e3;refine ⟨u',r',?_⟩;rcases q with q|⟨k,c',e,z'⟩
    ·exact .inl q
    ·refine .inr ⟨k,c',e,z'.sameBut hs ?_⟩;rintro rfl;exact hj (Jsw hN e1 (I.ok.inj _ _ _ e hc▸hi))
  ·by_cases hcc:c'=c
   ·subst hcc;exact ⟨_,hc'⟩
   ·obtain ⟨w2,z2⟩:=I.cell y c' e;exact ⟨w2,z2.sameBut hs hcc⟩
  ·obtain ⟨e,n,ne,nf,d⟩:=I.pin p hp;refine ⟨(hs.2 p.1 ?_).trans e,n,ne,nf,d⟩;intro q;rw [q,hoc] at e;have q':oc=p.2:=yae.inj e;exact d w' (by rw [<-q'];exact hocd)
theorem Jp2 {M:Model} {A:Around} {E:Value->Shared->Prop} {i:Nat} {x:Str} {v:V} {u:Value} {Q:Unit->Shared->Prop} (I:Inv X pins σ H s) (hN:X.N.Nodup) (hi:X.N[i]?=some x) (hx:Loc X.env.scope x) (r:RelV v u)
  (h:∀s',Inv X pins (σ.set i (some v)) H s'->Q () s') (hf:X.fn x=true\/X.env.scope.names.lookup x=some .local:=by first|exact .inl rfl|exact .inr rfl|assumption):wpAny M A (storeName X.env x u) Q E s:=
 Jv4 I hN hi hx r (λs' I' _=>h s' I') hf
theorem Inv.call' {s':Shared} {ch:List Addr} (I:Inv X pins σ H s) (ho:s'.os=s.os) (u:Un (frs X.stack) ch H H' s.heap s'.heap) (hok:HOk X.prog X.w H' s'.heap) (hg:AllBare s'.gens)
  (hch:∀b∈ch,(b∈X.ex\/X.s₀.heap.objs.size<=b)/\b≠X.env.locals/\(∀x c,X.env.cells.lookup x=some c->c≠b)/\∀p∈X.pn++pins,p.1≠b):Inv X pins σ H' s':=by
 obtain ⟨h',g',d',t',o'⟩:=s';have e:o'=s.os:=ho;subst e;exact I.call (g':=g') (t':=t') (d':=d') u hok hg hch
end
noncomputable abbrev XK:=Value->Option Addr->Hp->Prop
noncomputable abbrev St:=List (Option V)
noncomputable abbrev VK:=V->Hp->Prop
noncomputable abbrev TE:=St->Hp->VK->Prop
noncomputable abbrev TT:=St->Hp->(Bool->Hp->Prop)->Prop
noncomputable abbrev TA:=St->Hp->(List V->Hp->Prop)->Prop
structure Ends where
 nx:St->Hp->Prop
 rt:VK
 bk:St->Hp->Prop:=λ_ _=>False
 ct:St->Hp->Prop:=λ_ _=>False
noncomputable abbrev TS:=Ends->St->Hp->Prop
noncomputable def EP (X:Cx) (pins:List (Addr×Obj)) (σ:St) (Q:VK) (u:Value) (s':Shared):Prop:=∃v H',Inv X pins σ H' s'/\RelV v u/\Q v H'
noncomputable def TP (X:Cx) (pins:List (Addr×Obj)) (σ:St) (Q:Bool->Hp->Prop) (b:Bool) (s':Shared):Prop:=∃H',Inv X pins σ H' s'/\Q b H'
noncomputable def AP (X:Cx) (pins:List (Addr×Obj)) (σ:St) (Q:List V->Hp->Prop) (us:List Value) (s':Shared):Prop:=∃vs H',Inv X pins σ H' s'/\Vals vs us/\Q vs H'
noncomputable def SP (X:Cx) (pins:List (Addr×Obj)) (D:Ends) (f:Flow) (s':Shared):Prop:=
 match f with
 | .next=>∃σ' H',Inv X pins σ' H' s'/\D.nx σ' H'
 | .brk=>∃σ' H',Inv X pins σ' H' s'/\D.bk σ' H'
 | .cont=>∃σ' H',Inv X pins σ' H' s'/\D.ct σ' H'
 | .ret u=>∃v σ' H',Inv X pins σ' H' s'/\RelV v u/\D.rt v H'
noncomputable def PE (X:Cx) (e:Expr) (t:TE):Prop:=
 ∀(pins:List (Addr×Obj)) (s:Shared) (σ:St) (H:Hp) (Q:VK),Inv X pins σ H s->t σ H Q->wpAny (model X.prog X.w) X.A (eval e X.env) (EP X pins σ Q) X.xe s
noncomputable def PT (X:Cx) (e:Expr) (t:TT):Prop:=
 ∀(pins:List (Addr×Obj)) (s:Shared) (σ:St) (H:Hp) (Q:Bool->Hp->Prop),Inv X pins σ H s->t σ H Q->wpAny (model X.prog X.w) X.A (isTrue e X.env (eval e X.env)) (TP X pins σ Q) X.xe s
noncomputable def PW (X:Cx) (e:Expr) (t:TT):Prop:=
 ∀(whole:Sem Value) (pins:List (Addr×Obj)) (s:Shared) (σ:St) (H:Hp) (Q:Bool->Hp->Prop),Inv X pins σ H s->t σ H Q->wpAny (model X.prog X.w) X.A (isTrue e X.env whole) (TP X pins σ Q) X.xe s
theorem PW.pt {X:Cx} {e:Expr} {t:TT} (h:PW X e t):PT X e t:=h _
noncomputable def PA (X:Cx) (es:List Expr) (t:TA):Prop:=
 ∀(pos:Pos) (pins:List (Addr×Obj)) (s:Shared) (σ:St) (H:Hp) (Q:List V->Hp->Prop),Inv X pins σ H s->t σ H Q->wpAny (model X.prog X.w) X.A (spliced (backTo pos (starEach es X.env))) (AP X pins σ Q) X.xe s
noncomputable def PS (X:Cx) (st:Stmt) (t:TS):Prop:=
 ∀(pins:List (Addr×Obj)) (s:Shared) (σ:St) (H:Hp) (D:Ends),Inv X pins σ H s->t D σ H->wpAny (model X.prog X.w) X.A (exec st X.env) (SP X pins D) X.xe s
noncomputable def PSs (X:Cx) (st:List Stmt) (t:TS):Prop:=
 ∀(pins:List (Addr×Obj)) (s:Shared) (σ:St) (H:Hp) (D:Ends),Inv X pins σ H s->t D σ H->wpAny (model X.prog X.w) X.A (execs st X.env) (SP X pins D) X.xe s
theorem thn {α:Type} {t:Sem α} {Q Q':α->Shared->Prop} {M:Model} {A:Around} {E:Value->Shared->Prop} {s:Shared} (h:wpAny M A t Q E s) (hQ:∀a s,Q a s->Q' a s):wpAny M A t Q' E s:=wpAny_mono h hQ λ_ _ x=>x
end L2
namespace L2
open PySem PySem.Spec PyProof.Rows
section
variable {X:Cx}
noncomputable def tVar (i:Nat):TE:=λσ H Q=>∃v,σ[i]?=some (some v)/\Q v H
noncomputable def tC (v:V):TE:=λ_ H Q=>Q v H
theorem Ybd {i:Nat} {x:Str} {pos:Pos} (hN:X.N[i]?=some x) (hv:Vis X.env.scope x) (hd:(x==("__debug__" :Str))=false:=by decide) (hcd:(x==("__classdict__" :Str))=false:=by decide):PE X (.Name x pos) (tVar i):=by
 intro pins s σ H Q I h;obtain ⟨v,e,h⟩:=h;obtain ⟨m,hn,hl⟩:=I.loc;obtain ⟨u,r,l⟩:=hl i x v hN e hv;have fin:EP X pins σ Q u s:=⟨v,H,I,r,h⟩;rcases l with ⟨hk,hm⟩|⟨hk,c,hc,hcell⟩
 ·exact wpAny_Name (wpAny_loadName_local I.ok.kind hk hn hm fin) hd
 ·rcases hk with hk|hk
  ·exact wpAny_Name (wpAny_loadName_cell I.ok.kind hk hc hcell fin) hd
  ·exact wpAny_Name (wpAny_loadName_free I.ok.kind hk hc hcell fin hcd) hd
theorem Jjv {i j pos}:PE X (.Constant (.int i) j pos) (tC (.int i)):=λ_ _ _ H _ I h=>wpAny_Constant_int ⟨.int i,H,I.tok _,⟨_,rfl⟩,h⟩
theorem Jlg {b j pos}:PE X (.Constant (.bool b) j pos) (tC (.bl b)):=λ_ _ _ H _ I h=>Constant_bool ⟨.bl b,H,I,rfl,h⟩
theorem Jls {j pos}:PE X (.Constant .none j pos) (tC .non):=λ_ _ _ H _ I h=>Constant_none ⟨.non,H,I,rfl,h⟩
theorem Jlw {x j pos}:PE X (.Constant (.str x) j pos) (tC (.str x)):=λ_ _ _ H _ I h=>Calls.Constant_str ⟨.str x,H,I.tok _,⟨_,rfl⟩,h⟩
noncomputable def Gl (X:Cx) (x:Str):Prop:=X.env.kindOf x=some .globalImplicit
theorem Jnv {E:Value->Shared->Prop} {pins:List (Addr×Obj)} {s:Shared} {σ:St} {H:Hp} {x:Str} {u:Value} {pos:Pos} {Q:Value->Shared->Prop} (I:Inv X pins σ H s) (hg:Gl X x) (hm:X.mg x=some u) (h:Q u s)
  (hd:(x==("__debug__" :Str))=false:=by decide):wpAny (model X.prog X.w) X.A (eval (.Name x pos) X.env) Q E s:=
 Calls.Name_function_global I.ok.kind hg (Calls.loadGlobal_global (by rw [I.ok.glob];exact I.mod.glob.keeps I.bk) hm h) hd
theorem Joa {E:Value->Shared->Prop} {pins:List (Addr×Obj)} {s:Shared} {σ:St} {H:Hp} {x:Str} {u:Value} {pos:Pos} {Q:Value->Shared->Prop} (I:Inv X pins σ H s) (hg:Gl X x) (hm:X.mg x=none) (hv:bootBuiltins x=some u) (h:Q u s)
  (hn:x≠"__name__" :=by decide) (hd:(x==("__debug__" :Str))=false:=by decide):wpAny (model X.prog X.w) X.A (eval (.Name x pos) X.env) Q E s:=by
 obtain ⟨mb,h1,h2⟩:=I.mod.blt;exact Calls.Name_function_global I.ok.kind hg (Calls.loadGlobal_builtin (by rw [I.ok.glob];exact I.mod.glob.keeps I.bk) hm (by rw [I.ok.blt];exact h1.keeps I.bk) ((h2 x hn).trans hv) h) hd
theorem Jlc {x:Str} {v:V} {u:Value} {pos:Pos} (hg:Gl X x) (hm:X.mg x=some u) (r:RelV v u) (hd:(x==("__debug__" :Str))=false:=by decide):PE X (.Name x pos) (tC v):=
 λ_ _ _ H _ I h=>Jnv I hg hm ⟨v,H,I,r,h⟩ hd
theorem Jlb {x:Str} {v:V} {u:Value} {pos:Pos} (hg:Gl X x) (hm:X.mg x=none) (hv:bootBuiltins x=some u) (r:RelV v u) (hn:x≠"__name__" :=by decide) (hd:(x==("__debug__" :Str))=false:=by decide):PE X (.Name x pos) (tC v):=
 λ_ _ _ H _ I h=>Joa I hg hm hv ⟨v,H,I,r,h⟩ hn hd
variable {a b:Expr} {ta tb:TE} {pos:Pos}
noncomputable def tB (t:TE):TT:=λσ H Q=>t σ H λx H1=>∃c,x= .bl c/\Q c H1
theorem Jkf {e:Expr} {t:TE} (h:PE X e t) (he:∀whole,isTrue e X.env whole=(do let v<-whole;standAt e.pos;holding [v] (truthy v)):=by intro _;rfl):PT X e (tB t):=by
 intro pins s σ H Q I hw;refine isTrue_plain (thn (h pins s σ H _ I hw) λv s1 zq=>?_) (he _);obtain ⟨x,H1,I1,r1,q1⟩:=zq;obtain ⟨d,rfl,q⟩:=q1;cases r1;exact wpAny_truthy_bool ⟨H1,I1,q⟩
variable {tA tB':TT} {rest:List Expr}
noncomputable def tAnd (t u:TT):TT:=λσ H Q=>t σ H λc H1=>if c=true then u σ H1 Q else Q false H1
noncomputable def tOr (t u:TT):TT:=λσ H Q=>t σ H λc H1=>if c=true then Q true H1 else u σ H1 Q
noncomputable def tNot (t:TT):TT:=λσ H Q=>t σ H λc H1=>Q (!c) H1
theorem Jzk (ha:PT X a tA):PW X (.BoolOp .And [a] pos) tA:=by
 intro wh pins s σ H Q I h;refine isTrue_and (thn (ha pins s σ H Q I h) λc s1 e=>?_);cases c with
 |true=>exact isTrue_and_nil e
 |false=>exact e
theorem Jou (ha:PT X a tA):PW X (.BoolOp .Or [a] pos) tA:=by
 intro wh pins s σ H Q I h;refine isTrue_or (thn (ha pins s σ H Q I h) λc s1 e=>?_);cases c with
 |false=>exact isTrue_or_nil e
 |true=>exact e
theorem Ybj (ha:PT X a tA) (hb:PW X (.BoolOp .And (b::rest) pos) tB'):PW X (.BoolOp .And (a::b::rest) pos) (tAnd tA tB'):=by
 intro wh pins s σ H Q I h;refine isTrue_and (thn (ha pins s σ H _ I h) λc s1 zq=>?_);obtain ⟨H1,I1,q1⟩:=zq;cases c with
 |true=>exact hb wh pins s1 σ H1 Q I1 q1
 |false=>exact ⟨H1,I1,q1⟩
theorem Jot (ha:PT X a tA) (hb:PW X (.BoolOp .Or (b::rest) pos) tB'):PW X (.BoolOp .Or (a::b::rest) pos) (tOr tA tB'):=by
 intro wh pins s σ H Q I h;refine isTrue_or (thn (ha pins s σ H _ I h) λc s1 zq=>?_);obtain ⟨H1,I1,q1⟩:=zq;cases c with
 |true=>exact ⟨H1,I1,q1⟩
 |false=>exact hb wh pins s1 σ H1 Q I1 q1
theorem Jkh (ha:PT X a tA):PT X (.UnaryOp .Not a pos) (tNot tA):=by
 intro pins s σ H Q I h;exact isTrue_not (ha pins s σ H (λc H1=>Q (!c) H1) I h)
noncomputable def tAndV (ta tb:TE):TE:=λσ H Q=>ta σ H λx H1=>∃c,x= .bl c/\if c=true then tb σ H1 Q else Q (.bl false) H1
noncomputable def tNotV (ta:TE):TE:=λσ H Q=>ta σ H λx H1=>∃c,x= .bl c/\Q (.bl (!c)) H1
theorem Jt5 {op} {t:TE} (h:PE X a t):PE X (.BoolOp op [a] pos) t:=λpins s σ H Q I hw=>BoolOp_one (h pins s σ H Q I hw)
theorem Jt2 (ha:PE X a ta) (hb:PE X (.BoolOp .And (b::rest) pos) tb):PE X (.BoolOp .And (a::b::rest) pos) (tAndV ta tb):=by
 intro pins s σ H Q I h;refine BoolOp_and (thn (ha pins s σ H _ I h) λv s1 zq=>?_);obtain ⟨x,H1,I1,r1,q1⟩:=zq;obtain ⟨c,rfl,q1⟩:=q1;cases r1;refine wpAny_truthy_bool ?_;cases c with
 |true=>exact hb pins s1 σ H1 Q I1 q1
 |false=>exact ⟨.bl false,H1,I1,rfl,q1⟩
theorem pe_not (ha:PE X a ta):PE X (.UnaryOp .Not a pos) (tNotV ta):=by
 intro pins s σ H Q I h;refine UnaryOp_ (thn (ha pins s σ H _ I h) λv s1 zq=>?_);obtain ⟨x,H1,I1,r1,q1⟩:=zq;obtain ⟨c,rfl,q1⟩:=q1;cases r1;exact not_of (wpAny_truthy_bool ⟨.bl (!c),H1,I1,rfl,q1⟩)
noncomputable def tIf (t:TT) (ta tb:TE):TE:=λσ H Q=>t σ H λc H1=>if c=true then ta σ H1 Q else tb σ H1 Q
theorem Ybc {c:Expr} (hc:PT X c tA) (ha:PE X a ta) (hb:PE X b tb):PE X (.IfExp c a b pos) (tIf tA ta tb):=by
 intro pins s σ H Q I h;refine wpAny_IfExp (thn (hc pins s σ H _ I h) λd s1 zq=>?_);obtain ⟨H1,I1,q1⟩:=zq;cases d with
 |true=>exact ha pins s1 σ H1 Q I1 q1
 |false=>exact hb pins s1 σ H1 Q I1 q1
end
end L2
namespace L2
open PySem PySem.Spec PyProof.Rows
noncomputable def SqL (K:PySem.W.Frag) (H:Hp) (a:Addr) (xs:List V):Prop:=
 Rd H a (.lst xs)\/
  ∃(o:Obj) (its:Array Value) (n:Nat),K.lookup a=some o/\o.cls= .type "list" /\o.dict=none/\o.data= .seq its n/\its.size<=sizeLine/\Vals xs its.toList
noncomputable def SqT (K:PySem.W.Frag) (H:Hp) (a:Addr) (xs:List V):Prop:=
 Rd H a (.tup xs)\/
  ∃(o:Obj) (its:Array Value) (n:Nat),K.lookup a=some o/\o.cls= .type "tuple" /\o.data= .seq its n/\its.size<=sizeLine/\Vals xs its.toList
noncomputable def absV:Value->Option V
 | .none=>some .non
 | .bool b=>some (.bl b)
 | .int i _=>some (.int i)
 | .str x _=>some (.str x)
 | .bytes b _=>some (.byt b)
 | .float b _=>some (.flt b)
 | .ref a=>some (.ref a)
 | .type n=>some (.ty n)
 |_=>none
theorem RelV.abs {x:V} {u:Value} (r:RelV x u):absV u=some x:=by
 cases x with
 |non=>cases r;rfl
 |bl _=>cases r;rfl
 |int _=>obtain ⟨t,rfl⟩:=r;rfl
 |str _=>obtain ⟨t,rfl⟩:=r;rfl
 |byt _=>obtain ⟨t,rfl⟩:=r;rfl
 |flt _=>obtain ⟨t,rfl⟩:=r;rfl
 |ref _=>cases r;rfl
 |ty _=>cases r;rfl
theorem RelV.inj {x y:V} {u:Value} (r:RelV x u) (q:RelV y u):x=y:=yae.inj (r.abs.symm.trans q.abs)
theorem Vals.inj:∀{xs ys:List V} {us:List Value},Vals xs us->Vals ys us->xs=ys
 |_,_,_,.nil,.nil=>rfl
 |_,_,_,.cons r t,.cons r' t'=>by rw [r.inj r',Vals.inj t t']
section
variable {X:Cx} {pins:List (Addr×Obj)} {σ:St} {H:Hp} {s:Shared} {a:Addr} {xs ys:List V}
theorem SqL.of {K:PySem.W.Frag} (h:H a=some (.lst xs)):SqL K H a xs:=.inl (.inl h)
theorem SqT.of {K:PySem.W.Frag} (h:H a=some (.tup xs)):SqT K H a xs:=.inl (.inl h)
theorem Inv.list (I:Inv X pins σ H s) (h:SqL X.K H a xs):∃its:List Value,Vals xs its/\PlainL s.heap a its.toArray/\xs.length<=sizeLine:=by
 rcases h with h|⟨o,its,n,hk,hc,hd,hs,hz,r⟩
 ·obtain ⟨z,its,n,r,e⟩:=h.ok I.hok;exact ⟨its,r,⟨_,n,e,rfl,rfl,rfl⟩,z⟩
 ·refine ⟨its.toList,r,⟨o,n,I.kIn a o hk,hc,hd,by simpa using hs⟩,?_⟩;have e:=r.length;simp only [ybg] at e;omega
theorem Inv.tuple (I:Inv X pins σ H s) (h:SqT X.K H a xs):∃its:List Value,Vals xs its/\IsTup s.heap a its.toArray/\xs.length<=sizeLine:=by
 rcases h with h|⟨o,its,n,hk,hc,hs,hz,r⟩
 ·obtain ⟨z,its,r,p⟩:=h.ok I.hok;exact ⟨its,r,p,z⟩
 ·refine ⟨its.toList,r,⟨o,I.kIn a o hk,hc,n,by simpa using hs⟩,?_⟩;have e:=r.length;simp only [ybg] at e;omega
theorem Inv.list_inj (I:Inv X pins σ H s) (h:SqL X.K H a xs) (h':SqL X.K H a ys):xs=ys:=by
 obtain ⟨its,r,⟨o,n,e,_,_,d⟩,_⟩:=I.list h;obtain ⟨its',r',⟨o',n',e',_,_,d'⟩,_⟩:=I.list h';rw [e] at e';cases e';rw [d] at d';injection d' with d1 _;have:its=its':=by simpa using congrArg Array.toList d1
 subst this;exact r.inj r'
theorem Inv.tuple_inj (I:Inv X pins σ H s) (h:SqT X.K H a xs) (h':SqT X.K H a ys):xs=ys:=by
 obtain ⟨its,r,⟨o,e,_,n,d⟩,_⟩:=I.tuple h;obtain ⟨its',r',⟨o',e',_,n',d'⟩,_⟩:=I.tuple h';rw [e] at e';cases e';rw [d] at d';injection d' with d1 _;have:its=its':=by simpa using congrArg Array.toList d1
 subst this;exact r.inj r'
end
noncomputable abbrev Cx.wish (X:Cx) (E:Value->Shared->Prop):Cx:={X with xe:=E}
noncomputable abbrev Cx.nox (X:Cx):Cx:=X.wish λ_ _=>False
theorem Cx.Ok.wish {X:Cx} (ok:X.Ok) (E:Value->Shared->Prop):(X.wish E).Ok:=
 ⟨ok.mod,ok.kind,ok.glob,ok.blt,ok.above,ok.inj,ok.has,ok.cab,ok.hd,ok.frames,ok.stk,ok.exf,ok.bs,ok.bsz,ok.noex,ok.exfs,ok.funs,ok.frf⟩
theorem Cx.Ok.unwish {X:Cx} {E:Value->Shared->Prop} (ok:(X.wish E).Ok):X.Ok:=
 ⟨ok.mod,ok.kind,ok.glob,ok.blt,ok.above,ok.inj,ok.has,ok.cab,ok.hd,ok.frames,ok.stk,ok.exf,ok.bs,ok.bsz,ok.noex,ok.exfs,ok.funs,ok.frf⟩
section
variable {X:Cx} {pins:List (Addr×Obj)} {σ:St} {H:Hp} {s:Shared} {E:Value->Shared->Prop}
theorem Inv.wish (I:Inv X pins σ H s) (E:Value->Shared->Prop):Inv (X.wish E) pins σ H s:=⟨I.ok.wish E,I.os,I.bare,I.base,I.loc,I.cell,I.free,I.freeC,I.pin,I.hok,I.len⟩
theorem Inv.unwish (I:Inv (X.wish E) pins σ H s):Inv X pins σ H s:=⟨I.ok.unwish,I.os,I.bare,I.base,I.loc,I.cell,I.free,I.freeC,I.pin,I.hok,I.len⟩
theorem SP.unwish {D:Ends} {f:Flow} {s':Shared} (h:SP (X.wish E) pins D f s'):SP X pins D f s':=by
 cases f with
 |next=>obtain ⟨σ',H',I,q⟩:=h;exact ⟨σ',H',I.unwish,q⟩
 |brk=>obtain ⟨σ',H',I,q⟩:=h;exact ⟨σ',H',I.unwish,q⟩
 |cont=>obtain ⟨σ',H',I,q⟩:=h;exact ⟨σ',H',I.unwish,q⟩
 |ret u=>obtain ⟨v,σ',H',I,r,q⟩:=h;exact ⟨v,σ',H',I.unwish,r,q⟩
theorem PSs.nox {st:List Stmt} {t:TS} (h:PSs X.nox st t):PSs X st t:=λpins s σ H D I hw=>
 wpAny_mono (h pins s σ H D (I.wish _) hw) (λ_ _ q=>q.unwish) λ_ _ z=>False.elim z
end
section
variable {X:Cx} {st:Stmt} {rest:List Stmt} {t u:TS} {e:Expr} {te:TE} {pos:Pos}
noncomputable def tNext:TS:=λD σ H=>D.nx σ H
noncomputable def Jqw (t u:TS):TS:=λD σ H=>t {D with nx:=u D} σ H
theorem Jk3:PSs X [] tNext:=λ_ _ σ H _ I h=>wpAny_execs_nil ⟨σ,H,I,h⟩
theorem Jjs (h1:PS X st t) (h2:PSs X rest u):PSs X (st::rest) (Jqw t u):=by
 intro pins s σ H D I h;refine wpAny_execs_cons (thn (h1 pins s σ H {D with nx:=u D} I h) λf s1 q=>?_);cases f with
 |next=>
  obtain ⟨σ',H',I',q⟩:=q;exact h2 pins s1 σ' H' D I' q
 |ret v=>exact q
 |brk=>exact q
 |cont=>exact q
theorem Jjt (h1:PS X st t):PSs X [st] t:=by
 intro pins s σ H D I h;refine wpAny_execs_cons (thn (h1 pins s σ H D I h) λf s1 q=>?_);cases f with
 |next=>exact wpAny_execs_nil q
 |ret v=>exact q
 |brk=>exact q
 |cont=>exact q
theorem Inv.quiet {pins:List (Addr×Obj)} {σ:St} {H:Hp} {s:Shared} (I:Inv X pins σ H s):interactive X.env=false:=by simp [interactive,I.ok.kind]
noncomputable def tDrop (te:TE):TS:=λD σ H=>te σ H λ_ H1=>D.nx σ H1
theorem Jlq (he:PE X e te) (hs:swapsWith e none pos.line X.env=pure false:=by rfl):PS X (.Expr e pos) (tDrop te):=by
 intro pins s σ H D I h;exact wpAny_Expr_any (thn (he pins s σ H _ I h) λv s1 ⟨x,H1,I1,r1,q1⟩=>⟨σ,H1,I1,q1⟩) I.quiet hs
noncomputable def tRet (te:TE):TS:=λD σ H=>te σ H D.rt
theorem Jk1 (he:PE X e te):PS X (.Return (some e) pos) (tRet te):=by
 intro pins s σ H D I h;exact wpAny_Return_some (thn (he pins s σ H _ I h) λv s1 ⟨x,H1,I1,r1,q1⟩=>⟨x,σ,H1,I1,r1,q1⟩)
noncomputable def tIfS (c:TT) (t u:TS):TS:=λD σ H=>c σ H λb H1=>if b=true then t D σ H1 else u D σ H1
theorem Jkd {c:Expr} {a b:List Stmt} {tc:TT} (hc:PT X c tc) (ha:PSs X a t) (hb:PSs X b u):PS X (.If c a b pos) (tIfS tc t u):=by
 intro pins s σ H D I h;refine wpAny_If (thn (hc pins s σ H _ I h) λd s1 zq=>?_);obtain ⟨H1,I1,q1⟩:=zq;cases d with
 |true=>exact ha pins s1 σ H1 D I1 q1
 |false=>exact hb pins s1 σ H1 D I1 q1
end
noncomputable abbrev TG:=V->St->Hp->(St->Hp->Prop)->Prop
noncomputable abbrev TGs:=List V->St->Hp->(St->Hp->Prop)->Prop
noncomputable def PG (X:Cx) (target:Expr) (t:TG):Prop:=
 ∀(pins:List (Addr×Obj)) (s:Shared) (σ:St) (H:Hp) (v:V) (u:Value) (Q:St->Hp->Prop),Inv X pins σ H s->RelV v u->t v σ H Q->
  wpAny (model X.prog X.w) X.A (assign target X.env u) (λ_ s'=>∃σ' H',Inv X pins σ' H' s'/\Q σ' H') X.xe s
noncomputable def PGs (X:Cx) (ts:List Expr) (t:TGs):Prop:=
 ∀(pins:List (Addr×Obj)) (s:Shared) (σ:St) (H:Hp) (vs:List V) (us:List Value) (Q:St->Hp->Prop),Inv X pins σ H s->Vals vs us->t vs σ H Q->
  wpAny (model X.prog X.w) X.A (assignInOrder ((assignEach ts X.env).map (·.2)) us) (λ_ s'=>∃σ' H',Inv X pins σ' H' s'/\Q σ' H') X.xe s
noncomputable abbrev TSet:=V->V->V->Hp->(Hp->Prop)->Prop
noncomputable def PSet (X:Cx) (t:TSet):Prop:=
 ∀(pins:List (Addr×Obj)) (s:Shared) (σ:St) (H:Hp) (o i v:V) (ov iv u:Value) (Q:Hp->Prop),Inv X pins σ H s->RelV o ov->RelV i iv->RelV v u->t o i v H Q->
  wpAny (model X.prog X.w) X.A (setItem ov iv u) (λ_ s'=>∃H',Inv X pins σ H' s'/\Q H') X.xe s
noncomputable abbrev TIp:=V->V->Hp->VK->Prop
noncomputable def PIp (X:Cx) (op:Operator) (t:TIp):Prop:=
 ∀(pins:List (Addr×Obj)) (s:Shared) (σ:St) (H:Hp) (x y:V) (v u:Value) (Q:VK),Inv X pins σ H s->RelV x v->RelV y u->t x y H Q->
  wpAny (model X.prog X.w) X.A (inplaceOp op v u) (EP X pins σ Q) X.xe s
section
variable {X:Cx} {pos:Pos}
noncomputable def Jnn (i:Nat):TG:=λv σ H Q=>Q (σ.set i (some v)) H
theorem Jk2 {i:Nat} {x:Str} (hN:X.N.Nodup) (hi:X.N[i]?=some x) (hx:Loc X.env.scope x) (hf:X.fn x=true\/X.env.scope.names.lookup x=some .local:=by first|exact .inl rfl|exact .inr rfl|assumption):PG X (.Name x pos) (Jnn i):=by
 intro pins s σ H v u Q I r h;exact wpAny_assign_Name (Jp2 I hN hi hx r (λs' I'=>⟨_,H,I',h⟩) hf)
noncomputable def gNil:TGs:=λvs σ H Q=>vs= []/\Q σ H
noncomputable def Jum (t:TG) (u:TGs):TGs:=λvs σ H Q=>∃v r,vs=v::r/\t v σ H λσ' H'=>u r σ' H' Q
theorem Jlp:PGs X [] gNil:=by
 intro pins s σ H vs us Q I r h;obtain ⟨e,h⟩:=h;subst e;cases r;exact assignInOrder_nil ⟨σ,H,I,h⟩
theorem Jkb {e:Expr} {es:List Expr} {t:TG} {u:TGs} (h1:PG X e t) (h2:PGs X es u)
  (hs:(assignEach (e::es) X.env).map (·.2)=assign e X.env::(assignEach es X.env).map (·.2):=by rfl):PGs X (e::es) (Jum t u):=by
 intro pins s σ H vs us Q I r h;obtain ⟨v,vr,e1,h⟩:=h;subst e1;cases r with
 |cons r rr=>
  rw [hs];refine assignInOrder_cons (thn (h1 pins s σ H _ _ _ I r h) λ_ s1 zq=>?_);obtain ⟨σ1,H1,I1,q1⟩:=zq;exact h2 pins s1 σ1 H1 _ _ Q I1 rr q1
noncomputable def gTup (K:PySem.W.Frag) (n:Nat) (t:TGs):TG:=λv σ H Q=>∃a xs,v= .ref a/\SqT K H a xs/\xs.length=n/\t xs σ H Q
theorem Jq7 {es:List Expr} {k:Nat} {t:TGs} {n:Nat} (hc:X.calm=true) (h:PGs X es t)
  (hn:(assignEach es X.env).length=n:=by rfl) (hst:(assignEach es X.env).findIdx? (·.1)=none:=by rfl):PG X (.Tuple es k pos) (gTup X.K n t):=by
 intro pins s σ H v u Q I r hw;obtain ⟨a,xs,e1,hq,hl,hw⟩:=hw;subst e1;cases r;obtain ⟨its,rv,ht,hz⟩:=I.tuple hq;refine assign_Tuple_tuple (I.ok.hd hc) ht (by simp [hn,<-hl,rv.length]) hst λh' hx=>?_;have I1:Inv X pins σ H {s with heap:=h'}:=I.kept (t':=s.toks) λb o e=>hx b o (yr (yg e)) e;exact h pins _ σ H xs _ Q I1 (by simpa using rv) hw
noncomputable def gSub (to ti:TE) (t:TSet):TG:=λv σ H Q=>to σ H λo H1=>ti σ H1 λi H2=>t o i v H2 λH3=>Q σ H3
theorem Jvz {o i:Expr} {to ti:TE} {t:TSet} (ho:PE X o to) (hi:PE X i ti) (hs:PSet X t)
  (ha:∀v,assign (.Subscript o i pos) X.env v=(do
   let ov<-holding [v] (eval o X.env);let iv<-holding [v,ov] (eval i X.env)
   standAt pos
   holding [v,ov,iv] (setItem ov iv v)
   release [v,ov,iv] []):=by intro _;rfl):PG X (.Subscript o i pos) (gSub to ti t):=by
 intro pins s σ H v u Q I r h;rw [ha];refine wpAny_bind (wpAny_holding (thn (ho pins s σ H _ I h) λov s1 zq=>?_));obtain ⟨x,H1,I1,r1,q1⟩:=zq;refine wpAny_bind (wpAny_holding (thn (hi pins s1 σ H1 _ I1 q1) λiv s2 zq=>?_));obtain ⟨y,H2,I2,r2,q2⟩:=zq;refine wpAny_bind (wpAny_standAt (wpAny_bind (wpAny_holding (thn (hs pins s2 σ H2 x y v ov iv u _ I2 r1 r2 r q2) λ_ s3 zq=>?_))));obtain ⟨H3,I3,q3⟩:=zq;exact wpAny_release ⟨σ,H3,I3,q3⟩
noncomputable def tAsg (te:TE) (g:TG):TS:=λD σ H=>te σ H λx H1=>g x σ H1 D.nx
theorem Jt7 {tg e:Expr} {te:TE} {g:TG} (he:PE X e te) (hg:PG X tg g) (hs:swapsWithSole [tg] e pos.line X.env=pure false:=by rfl) (hw:swappedStores [tg] e X.env=pure none:=by rfl)
  (h1:(assignEach [tg] X.env).map (·.2)= [assign tg X.env]:=by rfl):PS X (.Assign [tg] e pos) (tAsg te g):=by
 intro pins s σ H D I h;refine wpAny_Assign_stores (thn (he pins s σ H _ I h) λv s1 zq=>?_) hs hw;obtain ⟨x,H1,I1,r1,q1⟩:=zq;rw [h1];exact thn (hg pins s1 σ H1 x v _ I1 r1 q1) λ_ s2 q=>q
theorem Jk5 {i:Nat} {x:Str} {e:Expr} {te:TE} {pos':Pos} (hN:X.N.Nodup) (hi:X.N[i]?=some x) (hx:Loc X.env.scope x) (he:PE X e te) (hs:swapsWith e (some (.Name x pos')) pos.line X.env=pure false:=by rfl) (hf:X.fn x=true\/X.env.scope.names.lookup x=some .local:=by first|exact .inl rfl|exact .inr rfl|assumption):
  PS X (.Assign [.Name x pos'] e pos) (tAsg te (Jnn i)):=by
 intro pins s σ H D I h;refine wpAny_Assign_Name (thn (he pins s σ H _ I h) λv s1 zq=>?_) hs;obtain ⟨y,H1,I1,r1,q1⟩:=zq;exact Jp2 I1 hN hi hx r1 (λs2 I2=>⟨_,H1,I2,q1⟩) hf
noncomputable def tAug (i:Nat) (te:TE) (ti:TIp):TS:=λD σ H=>∃x,σ[i]?=some (some x)/\te σ H λy H1=>ti x y H1 λz H2=>D.nx (σ.set i (some z)) H2
theorem ps_aug {i:Nat} {x:Str} {e:Expr} {te:TE} {op:Operator} {ti:TIp} {pos':Pos} (hN:X.N.Nodup) (hi:X.N[i]?=some x) (hx:Loc X.env.scope x) (he:PE X e te) (ho:PIp X op ti) (hf:X.fn x=true\/X.env.scope.names.lookup x=some .local:=by first|exact .inl rfl|exact .inr rfl|assumption):
  PS X (.AugAssign (.Name x pos') op e pos) (tAug i te ti):=by
 intro pins s σ H D I h;obtain ⟨v,e1,h⟩:=h;obtain ⟨m,hn,hl⟩:=I.loc;have vis:Vis X.env.scope x:=by rcases hx with k|k;exact .inl k;exact .inr (.inl k)
 obtain ⟨u,r,l⟩:=hl i x v hi e1 vis;refine wpAny_AugAssign_Name ?_;have go:wpAny (model X.prog X.w) X.A (eval e X.env) (λw s₂=>wpAny (model X.prog X.w) X.A (inplaceOp op u w) (λr s₃=>wpAny (model X.prog X.w) X.A (storeName X.env x r) (λ_=>SP X pins D .next) X.xe s₃) X.xe s₂) X.xe s:=by
  refine thn (he pins s σ H _ I h) λw s1 zq=>?_;obtain ⟨y,H1,I1,r1,q1⟩:=zq;refine thn (ho pins s1 σ H1 v y u w _ I1 r r1 q1) λz s2 zq=>?_;obtain ⟨zv,H2,I2,r2,q2⟩:=zq;exact Jp2 I2 hN hi hx r2 (λs3 I3=>⟨_,H2,I3,q2⟩) hf
 rcases l with ⟨hk,hm⟩|⟨hk,c,hc,hcell⟩
 ·exact wpAny_loadName_local I.ok.kind hk hn hm go
 ·rcases hk with hk|hk
  ·exact wpAny_loadName_cell I.ok.kind hk hc hcell go
  ·rcases hx with k|k
   ·have:X.env.scope.names.lookup x=some .free:=hk;rw [k] at this;cases this
   ·have:X.env.scope.names.lookup x=some .free:=hk;rw [k] at this;cases this
noncomputable def ipI (f:Int->Int->Int):TIp:=λx y H Q=>∃i j,x= .int i/\y= .int j/\Q (.int (f i j)) H
theorem ip_add:PIp X .Add (ipI λi j=>i+j):=by
 intro pins s σ H x y v u Q I r1 r2 h;obtain ⟨i,j,e1,e2,q⟩:=h;subst e1;subst e2;obtain ⟨t,rfl⟩:=r1;obtain ⟨t',rfl⟩:=r2;exact iadd_int ⟨.int _,H,I.tok _,⟨_,rfl⟩,q⟩
end
section
variable {X:Cx} {pos:Pos}
noncomputable def tWhile (c:TT) (tb:TS):TS:=λD σ H=>∃W:Nat->St->Hp->Prop,(∃m,W m σ H)/\∀m σ H,W m σ H->
 c σ H λb H1=>if b=true then ∃N:St->Hp->Prop,(∀σ' H',N σ' H'->∃m',m' < m/\W m' σ' H')/\tb {D with nx:=N,ct:=N,bk:=D.nx} σ H1 else D.nx σ H1
theorem Ybi {c:Expr} {body:List Stmt} {tc:TT} {tb:TS} (hp:PassesOwn (model X.prog X.w) X.A X.env X.xe) (hc:PT X c tc) (hb:PSs X body tb):PS X (.While c body [] pos) (tWhile tc tb):=by
 intro pins s σ H D I h;obtain ⟨W,⟨m0,w0⟩,turn⟩:=h;refine wpAny_While (codeAny_whileLoop (λn s'=>∃σ' H',Inv X pins σ' H' s'/\W n σ' H') ?_ m0 ⟨σ,H,I,w0⟩);rintro n s1 ⟨σ1,H1,I1,w1⟩;refine wpAny_passesOwn hp (thn (hc pins s1 σ1 H1 _ I1 (turn n σ1 H1 w1)) λb s2 zq=>?_);obtain ⟨H2,I2,q2⟩:=zq;cases b with
 |true=>
  obtain ⟨N,hN,q2⟩:=q2;rw [if_pos rfl];refine wpAny_passesOwn hp (thn (hb pins s2 σ1 H2 _ I2 q2) λf s3 q3=>?_);cases f with
  |next=>
   obtain ⟨σ3,H3,I3,n3⟩:=q3;obtain ⟨m',hm,w3⟩:=hN σ3 H3 n3;exact ⟨m',hm,σ3,H3,I3,w3⟩
  |cont=>
   obtain ⟨σ3,H3,I3,n3⟩:=q3;obtain ⟨m',hm,w3⟩:=hN σ3 H3 n3;exact ⟨m',hm,σ3,H3,I3,w3⟩
  |brk=>exact q3
  |ret v=>exact q3
 |false=>
  rw [if_neg yab];exact wpAny_execs_nil ⟨σ1,H2,I2,q2⟩
end
structure It where
 go:Nat->Hp->Prop
 yld:Nat->Hp->V->Hp->Prop
 stop:Nat->Hp->Prop
noncomputable def Jqy (X:Cx) (pins:List (Addr×Obj)) (H:Hp) (b:Addr):Prop:=
 H b=none/\b≠X.env.locals/\b∉X.fs/\(b∈X.ex\/X.s₀.heap.objs.size<=b)/\(∀x c,X.env.cells.lookup x=some c->c≠b)/\∀p∈X.pn++pins,p.1≠b
theorem Inv.fpOk {X:Cx} {pins:List (Addr×Obj)} {σ:St} {H H':Hp} {s:Shared} {b:Addr} (I:Inv X pins σ H s) (hb:s.heap.objs.size<=b) (hn:H' b=none):Jqy X pins H' b:=by
 refine ⟨hn,yaw (yap I.lt hb),I.nofs hb,.inr (yai I.sz hb),λx c e z=>?_,λp hp z=>?_⟩
 ·obtain ⟨v,q⟩:=I.cell x c e;exact absurd (yap q.lt (by rw [z];exact hb)) (yay _)
 ·exact absurd (yap (yg (I.pin p hp).1) (by rw [z];exact hb)) (yay _)
structure Jqz (P:Program) (w:World) (K:PySem.W.Frag) (tg:Expr) (J:It) (fp:List Addr) (it:Addr) (tn:Nat->Heap->Prop):Prop where
 mem:it∈fp
 obj:∀i h,tn i h->∀b∈fp,∃o,h.get? b=some o/\∀v,o.data≠ .cell v
 keep:∀i h h',tn i h->(∀b∈fp,∀o,h.get? b=some o->h'.get? b=some o)->tn i h'
 item:∀(X:Cx),X.prog=P->X.w=w->X.K=K->X.calm=true->∀(i:Nat) (pins:List (Addr×Obj)) (s:Shared) (σ:St) (H:Hp) (E:Value->Shared->Prop),Inv X pins σ H s->(∀b∈fp,Jqy X pins H b)->tn i s.heap->J.go i H->
  wpAny (model P w) X.A (pyNext (.ref it)) (λr s1=>∃u,r=some u/\
   wpAny (model P w) X.A (letOwnedTupleGo tg (.ref it) u) (λ_ s2=>∃x H',Inv X pins σ H' s2/\RelV x u/\J.yld i H x H'/\tn (i+1) s2.heap/\∀b∈fp,H' b=none) E s1) E s
 done:∀(X:Cx),X.prog=P->X.w=w->X.K=K->X.calm=true->∀(i:Nat) (pins:List (Addr×Obj)) (s:Shared) (σ:St) (H:Hp) (E:Value->Shared->Prop),Inv X pins σ H s->(∀b∈fp,Jqy X pins H b)->tn i s.heap->J.stop i H->
  wpAny (model P w) X.A (pyNext (.ref it)) (λr s1=>r=none/\Inv X pins σ H s1) E s
 self:∀(A:Around) (i:Nat) (s:Shared) (Q:Value->Shared->Prop) (E:Value->Shared->Prop),tn i s.heap->Q (.ref it) s->wpAny (model P w) A (pyIter (.ref it)) Q E s
noncomputable abbrev TI:=St->Hp->(It->Hp->Prop)->Prop
noncomputable def PIE (X:Cx) (pins:List (Addr×Obj)) (σ:St) (tg:Expr) (R:It->Hp->Prop) (itv:Value) (s2:Shared):Prop:=
 ∃(it:Addr) (fp:List Addr) (tn:Nat->Heap->Prop) (J:It) (H':Hp),itv= .ref it/\Inv X pins σ H' s2/\Jqz X.prog X.w X.K tg J fp it tn/\tn 0 s2.heap/\(∀b∈fp,Jqy X pins H' b)/\R J H'
noncomputable def PI (X:Cx) (tg iter:Expr) (wi:TI):Prop:=
 ∀(pins:List (Addr×Obj)) (s:Shared) (σ:St) (H:Hp) (R:It->Hp->Prop),Inv X pins σ H s->wi σ H R->
  wpAny (model X.prog X.w) X.A (eval iter X.env) (λv s1=>wpAny (model X.prog X.w) X.A (pyIter v) (PIE X pins σ tg R) X.xe s1) X.xe s
theorem Jws {M:Model} {A:Around} {E:Value->Shared->Prop} {s:Shared} {tg:Expr} {it:Addr} {u:Value} {o:Obj} {n:String} {vs:Array Value} {Q:Unit->Shared->Prop} (ho:s.heap.get? it=some o) (hc:o.cls= .type n) (hd:o.data= .fields vs)
  (hn: ["enumerate","zip","dict_itemiterator","dict_reverseitemiterator","odict_iterator","itertools.zip_longest","itertools.pairwise"].contains n=false) (hQ:Q () s):wpAny M A (letOwnedTupleGo tg (.ref it) u) Q E s:=by
 unfold letOwnedTupleGo;cases tg <;> first
  |exact wpAny_pure hQ
  | (cases u <;> first
    |exact wpAny_pure hQ
    | (refine wpAny_bind (wpAny_load ho ?_)
       rw [hc,hd];show wpAny M A (if (["enumerate","zip","dict_itemiterator","dict_reverseitemiterator","odict_iterator","itertools.zip_longest","itertools.pairwise"].contains n&&vs[0]?==some (rawInt _))=true then _ else _) Q E s;rw [if_neg (by intro h;rw [hn,Bool.false_and] at h;cases h)];exact wpAny_pure hQ))
noncomputable def Itl (K:PySem.W.Frag) (a:Addr):It:=
 ⟨λi H=>∃xs x,SqL K H a xs/\xs[i]?=some x,λi H x H'=>H'=H/\∀xs,SqL K H a xs->xs[i]?=some x,λi H=>∃xs,SqL K H a xs/\xs.length<=i⟩
noncomputable def Itt (K:PySem.W.Frag) (a:Addr):It:=
 ⟨λi H=>∃xs x,SqT K H a xs/\xs[i]?=some x,λi H x H'=>H'=H/\∀xs,SqT K H a xs->xs[i]?=some x,λi H=>∃xs,SqT K H a xs/\xs.length<=i⟩
noncomputable def Itr (lo:Int) (n:Nat):It:=⟨λi _=>i < n,λi H x H'=>H'=H/\x= .int (lo+i),λi _=>n<=i⟩
theorem Jv5 {P:Program} {w:World} {K:PySem.W.Frag} {tg:Expr} (a it:Addr):Jqz P w K tg (Itl K a) [it] it (λi h=>h.IsListIter it a i) where
 mem:=by simp
 obj:=λi h st b hb=>by
  have e:b=it:=by simpa using hb
  subst e;obtain ⟨o,e,c,d⟩:=st;exact ⟨o,e,λv z=>by rw [d] at z;cases z⟩
 keep:=λi h h' st k=>st.at λo e=>k it (by simp) o e
 item:=by
  intro X hP hw hK hc i pins s σ H E I hf st hg;subst hP hw hK;obtain ⟨xs,x,hq,hx⟩:=hg;obtain ⟨its,rv,p,hz⟩:=I.list hq;obtain ⟨u,hu,ru⟩:=rv.get hx;obtain ⟨f0,f1,f2,f3,f4,f5⟩:=hf it (by simp);refine wpAny_pyNext_list_item st p.isList (x:=u) (by simpa using hu) λh' st' sb=>?_;have I1:Inv X pins σ H {s with heap:=h'}:=I.turned (t':=s.toks) (λb o hb e=>(sb.2 b hb).trans e) f0 f1 f3 f4 f5;obtain ⟨o,e,c,d⟩:=id st';exact ⟨u,rfl,Jws (s:={s with heap:=h'}) e c d (by decide) ⟨x,H,I1,ru,⟨rfl,λys hy=>by rw [I.list_inj hy hq];exact hx⟩,st',λb hb=>(hf b hb).1⟩⟩
 done:=by
  intro X hP hw hK hc i pins s σ H E I hf st hg;subst hP hw hK;obtain ⟨xs,hq,hx⟩:=hg;obtain ⟨its,rv,p,hz⟩:=I.list hq;obtain ⟨f0,f1,f2,f3,f4,f5⟩:=hf it (by simp);have hl:=rv.length;exact wpAny_pyNext_list_end (I.ok.hd hc) st p.isList (by simp;omega) λh' eb=>⟨rfl,I.turned (t':=s.toks) (λb o hb e=>eb b o hb e) f0 f1 f3 f4 f5⟩
 self:=λ_ _ _ _ _ st h=>wpAny_pyIter_listiter st h
theorem Jti {P:Program} {w:World} {K:PySem.W.Frag} {tg:Expr} (a it:Addr):Jqz P w K tg (Itt K a) [it] it (λi h=>h.IsTupleIter it a i) where
 mem:=by simp
 obj:=λi h st b hb=>by
  have e:b=it:=by simpa using hb
  subst e;obtain ⟨o,e,c,d⟩:=st;exact ⟨o,e,λv z=>by rw [d] at z;cases z⟩
 keep:=λi h h' st k=>st.at λo e=>k it (by simp) o e
 item:=by
  intro X hP hw hK hc i pins s σ H E I hf st hg;subst hP hw hK;obtain ⟨xs,x,hq,hx⟩:=hg;obtain ⟨its,rv,p,hz⟩:=I.tuple hq;obtain ⟨u,hu,ru⟩:=rv.get hx;obtain ⟨f0,f1,f2,f3,f4,f5⟩:=hf it (by simp);refine wpAny_pyNext_tuple_item st (show s.heap.IsTuple a its.toArray from p) (x:=u) (by simpa using hu) λh' st' sb=>?_;have I1:Inv X pins σ H {s with heap:=h'}:=I.turned (t':=s.toks) (λb o hb e=>(sb.2 b hb).trans e) f0 f1 f3 f4 f5;obtain ⟨o,e,c,d⟩:=id st';exact ⟨u,rfl,Jws (s:={s with heap:=h'}) e c d (by decide) ⟨x,H,I1,ru,⟨rfl,λys hy=>by rw [I.tuple_inj hy hq];exact hx⟩,st',λb hb=>(hf b hb).1⟩⟩
 done:=by
  intro X hP hw hK hc i pins s σ H E I hf st hg;subst hP hw hK;obtain ⟨xs,hq,hx⟩:=hg;obtain ⟨its,rv,p,hz⟩:=I.tuple hq;obtain ⟨f0,f1,f2,f3,f4,f5⟩:=hf it (by simp);have hl:=rv.length;exact wpAny_pyNext_tuple_end (I.ok.hd hc) st (show s.heap.IsTuple a its.toArray from p) (by simp;omega) λh' eb=>⟨rfl,I.turned (t':=s.toks) (λb o hb e=>eb b o hb e) f0 f1 f3 f4 f5⟩
 self:=λ_ _ _ _ _ st h=>wpAny_pyIter_tupleiter st h
theorem Jz0 {P:Program} {w:World} {K:PySem.W.Frag} {tg:Expr} (it:Addr) (lo:Int) (n:Nat):Jqz P w K tg (Itr lo n) [it] it (λi h=>IsRangeIter h it (lo+(i:Nat)*1) ((n:Int) - (i:Nat)) 1) where
 mem:=by simp
 obj:=λi h st b hb=>by
  have e:b=it:=by simpa using hb
  subst e;exact ⟨_,st,λv z=>by
   have z':Data.fields _=Data.cell v:=z;cases z'⟩
 keep:=λi h h' st k=>k it (by simp) _ st
 item:=by
  intro X hP hw hK hc i pins s σ H E I hf st hg;subst hP hw hK;obtain ⟨f0,f1,f2,f3,f4,f5⟩:=hf it (by simp);have W:=Walks.range (prog:=X.prog) (w:=X.w) (I.ok.hd hc) it lo 1 n;refine W.item i s _ _ hg st λv h' tk hv st' kk=>?_;obtain ⟨t,rfl⟩:=hv;have I1:Inv X pins σ H {s with heap:=h',toks:=tk}:=I.turned (λb o hb e=>kk b o (by simpa using hb) e) f0 f1 f3 f4 f5;refine ⟨_,rfl,Jws (s:={s with heap:=h',toks:=tk}) (n:="range_iterator") st' rfl rfl (by decide) ⟨.int (lo+i),H,I1,⟨t,?_⟩,⟨rfl,rfl⟩,st',λb hb=>(hf b hb).1⟩⟩;rw [Int.mul_one]
 done:=by
  intro X hP hw hK hc i pins s σ H E I hf st hg;subst hP hw hK;obtain ⟨f0,f1,f2,f3,f4,f5⟩:=hf it (by simp);exact wpAny_pyNext_range_end (I.ok.hd hc) st (by have:n<=i:=hg;omega) λh' eb=>⟨rfl,I.turned (t':=s.toks) (λb o hb e=>eb b o hb e) f0 f1 f3 f4 f5⟩
 self:=λ_ _ _ _ _ st h=>wpAny_pyIter_rangeiter st h
end L2
namespace L2
open PySem PySem.Spec PyProof.Rows
section
variable {X:Cx} {tg:Expr}
noncomputable def iList (K:PySem.W.Frag) (tl:TE):TI:=λσ H R=>tl σ H λx H1=>∃a,x= .ref a/\(∃xs,SqL K H1 a xs)/\R (Itl K a) H1
noncomputable def iTup (K:PySem.W.Frag) (tl:TE):TI:=λσ H R=>tl σ H λx H1=>∃a,x= .ref a/\(∃xs,SqT K H1 a xs)/\R (Itt K a) H1
theorem Jld {l:Expr} {tl:TE} (hl:PE X l tl):PI X tg l (iList X.K tl):=by
 intro pins s σ H R I h;refine thn (hl pins s σ H _ I h) λv s1 zq=>?_;obtain ⟨x,H1,I1,r1,q1⟩:=zq;obtain ⟨a,e,⟨xs,hq⟩,q⟩:=q1;subst e;cases r1;obtain ⟨its,rv,p,hz⟩:=I1.list hq;refine wpAny_pyIter_list p.isList ?_;refine ⟨s1.heap.objs.size,[s1.heap.objs.size],_,_,H1,rfl,I1.kept (t':=s1.toks) λb o e=>yj _ e,Jv5 a _,⟨_,yp _ rfl,rfl,rfl⟩,λb hb=>?_,q⟩;have e:b=s1.heap.objs.size:=by simpa using hb
 subst e;exact I1.fpOk (yi _) (I1.hok.fresh (yi _))
theorem Jyk {l:Expr} {tl:TE} (hl:PE X l tl):PI X tg l (iTup X.K tl):=by
 intro pins s σ H R I h;refine thn (hl pins s σ H _ I h) λv s1 zq=>?_;obtain ⟨x,H1,I1,r1,q1⟩:=zq;obtain ⟨a,e,⟨xs,hq⟩,q⟩:=q1;subst e;cases r1;obtain ⟨its,rv,p,hz⟩:=I1.tuple hq;refine wpAny_pyIter_tuple (show s1.heap.IsTuple a its.toArray from p) ?_;refine ⟨s1.heap.objs.size,[s1.heap.objs.size],_,_,H1,rfl,I1.kept (t':=s1.toks) λb o e=>yj _ e,Jti a _,⟨_,yp _ rfl,rfl,rfl⟩,λb hb=>?_,q⟩;have e:b=s1.heap.objs.size:=by simpa using hb
 subst e;exact I1.fpOk (yi _) (I1.hok.fresh (yi _))
theorem Ybk {pins:List (Addr×Obj)} {σ:St} {H:Hp} {s:Shared} {R:It->Hp->Prop} {E:Value->Shared->Prop} {lo hi:Int} {t u v:Tok} {tk:Nat} (I:Inv X pins σ H s) (h1: -(2^62)<=lo) (h2:lo < 2^62) (h3: -(2^62)<=hi) (h4:hi < 2^62)
  (q:R (Itr lo (hi - lo).toNat) H):wpAny (model X.prog X.w) X.A (pyIter (.ref s.heap.objs.size)) (PIE X pins σ tg R) E {s with heap:=s.heap.push {cls:=.type "range",data:=.fields #[.int lo t,.int hi u,.int 1 v]},toks:=tk}:=by
 refine wpAny_pyIter_range (IsRange.new ..) (small_one h1 h2 h3 h4) ?_;have I1:Inv X pins σ H {s with heap:=s.heap.push {cls:=.type "range",data:=.fields #[.int lo t,.int hi u,.int 1 v]},toks:=tk}:=I.kept λb o e=>yj _ e;refine ⟨(s.heap.push {cls:=.type "range",data:=.fields #[.int lo t,.int hi u,.int 1 v]}).objs.size,[(s.heap.push {cls:=.type "range",data:=.fields #[.int lo t,.int hi u,.int 1 v]}).objs.size],_,_,H,rfl,
  I1.kept (t':=tk) λb o e=>yj _ e,Jz0 _ lo (hi - lo).toNat,?_,λb hb=>?_,q⟩
 ·have e1:lo+((0:Nat):Int)*1=lo:=by simp
  have e2:(((hi - lo).toNat:Nat):Int) - ((0:Nat):Int)=Builtin.Range.rangeSize lo hi 1:=by rw [rangeSize_one];split <;> omega
  show IsRangeIter _ _ (lo+((0:Nat):Int)*1) ((((hi - lo).toNat:Nat):Int) - ((0:Nat):Int)) 1;rw [e1,e2];exact yp _ rfl
 ·have e:b=(s.heap.push {cls:=.type "range",data:=.fields #[.int lo t,.int hi u,.int 1 v]}).objs.size:=by simpa using hb
  subst e;exact I1.fpOk (yi _) (I1.hok.fresh (yi _))
noncomputable def iRng1 (ta:TA):TI:=λσ H R=>ta σ H λvs H1=>∃j:Int,vs= [.int j]/\ -(2^62)<=j/\j < 2^62/\R (Itr 0 j.toNat) H1
theorem Jl6 {a:Expr} {ta:TA} {p pos:Pos} (hg:Gl X "range") (hm:X.mg "range" =none) (ha:PA X [a] ta) (hs:starEach [a] X.env= [(false,eval a X.env)]:=by rfl):PI X tg (.Call (.Name "range" p) [a] [] pos) (iRng1 ta):=by
 intro pins s σ H R I h;refine Call_ (Joa I hg hm boot_range (PyProof.Rows.callWith_type1 (thn (ha pos pins s σ H _ I h) λus s1 zq=>?_) hs rfl));obtain ⟨vs,H1,I1,r1,q1⟩:=zq;obtain ⟨j,e,q1,q2,q⟩:=q1;subst e;cases r1 with
 |cons r rr=>
  cases rr;obtain ⟨t,rfl⟩:=r;exact call_range_1 (Ybk I1 (by omega) (by omega) q1 q2 (by simpa using q))
noncomputable def tFor (wi:TI) (g:TG) (tb:TS):TS:=λD σ H=>wi σ H λJ H1=>∃W:Nat->Nat->St->Hp->Prop,(∃m,W 0 m σ H1)/\∀i m σ H,W i m σ H->
 (J.stop i H/\D.nx σ H)\/(J.go i H/\∃N:St->Hp->Prop,(∀σ' H',N σ' H'->∃m',m' < m/\W (i+1) m' σ' H')/\∀x H',J.yld i H x H'->g x σ H' λσ2 H2=>tb {D with nx:=N,ct:=N,bk:=D.nx} σ2 H2)
noncomputable def Jt6 (fp:List Addr) (h:Heap):List (Addr×Obj):=fp.filterMap λb=>(h.get? b).map λo=>(b,o)
theorem Jnx {fp:List Addr} {h:Heap} {b:Addr} {o:Obj} (hb:b∈fp) (e:h.get? b=some o):(b,o)∈Jt6 fp h:=List.mem_filterMap.mpr ⟨b,hb,by rw [e];rfl⟩
theorem Yh {fp:List Addr} {h:Heap} {p:Addr×Obj} (hp:p∈Jt6 fp h):p.1∈fp/\h.get? p.1=some p.2:=by
 obtain ⟨b,hb,e⟩:=List.mem_filterMap.mp hp;cases q:h.get? b with
 |none=>rw [q] at e;cases e
 |some o=>
  rw [q] at e;have e':(b,o)=p:=yae.inj e;subst e';exact ⟨hb,q⟩
theorem Inv.pinned {pins:List (Addr×Obj)} {σ:St} {H:Hp} {s:Shared} {fp:List Addr} (I:Inv X pins σ H s) (hf:∀b∈fp,Jqy X pins H b) (ho:∀b∈fp,∃o,s.heap.get? b=some o/\∀v,o.data≠ .cell v):Inv X (pins++Jt6 fp s.heap) σ H s:=
 I.pins_of λp hp=>(ybw.mp hp).elim (λz=>I.pin p (ybi _ z)) λz=>by
  obtain ⟨hb,e⟩:=Yh z;obtain ⟨f0,f1,f2,_⟩:=hf p.1 hb;obtain ⟨o,e',d⟩:=ho p.1 hb;rw [e] at e';cases e';exact ⟨e,f0,f1,f2,d⟩
theorem Inv.unpinned {pins pl:List (Addr×Obj)} {σ:St} {H:Hp} {s:Shared} (I:Inv X (pins++pl) σ H s):Inv X pins σ H s:=I.pins_of λp hp=>I.pin p (ybi _ (List.mem_append_left _ hp))
theorem Jmn {iter:Expr} {body:List Stmt} {wi:TI} {g:TG} {tb:TS} {pos:Pos} (hp:PassesOwn (model X.prog X.w) X.A X.env X.xe) (hc:X.calm=true) (hi:PI X tg iter wi) (hg:PG X tg g) (hb:PSs X body tb)
  (hs:∀x,foldedSetIterable iter X.env x=pure x:=by intro _;rfl):PS X (.For tg iter body [] pos) (tFor wi g tb):=by
 intro pins s σ H D I h;refine wpAny_For (thn (hi pins s σ H _ I h) λv s1 h1=>thn h1 λitv s2 h2=>?_) hs;obtain ⟨it,fp,tn,J,H2,e,I2,T,st2,f2,W,⟨m0,w0⟩,turn⟩:=h2;subst e;have stat:∀{H':Hp},(∀b∈fp,H' b=none)->∀b∈fp,Jqy X pins H' b:=λhn b hb=>⟨hn b hb,(f2 b hb).2⟩;refine codeAny_forLoop_any (λn s'=>∃i σ' H',Inv X pins σ' H' s'/\tn i s'.heap/\(∀b∈fp,H' b=none)/\W i n σ' H') ?_ m0 ⟨0,σ,H2,I2,st2,λb hb=>(f2 b hb).1,w0⟩;rintro n s3 ⟨i,σ3,H3,I3,st3,fr3,w3⟩;rcases turn i n σ3 H3 w3 with ⟨stop,qn⟩|⟨go,N,hN,step⟩
 ·refine wpAny_passesOwn hp (thn (T.done X rfl rfl rfl hc i pins s3 σ3 H3 X.xe I3 (stat fr3) st3 stop) λr s4 ⟨hr,I4⟩=>?_);subst hr;exact wpAny_execs_nil ⟨σ3,H3,I4,qn⟩
 ·refine wpAny_passesOwn hp (thn (T.item X rfl rfl rfl hc i pins s3 σ3 H3 X.xe I3 (stat fr3) st3 go) λr s4 ⟨u,hr,h4⟩=>?_);subst hr;refine wpAny_passesOwn hp (thn h4 λ_ s5 zq=>?_);obtain ⟨x,H5,I5,r5,y5,st5,fr5⟩:=zq;have I5':=I5.pinned (stat fr5) (T.obj _ _ st5);refine wpAny_passesOwn hp (thn (hg _ s5 σ3 H5 x u _ I5' r5 (step x H5 y5)) λ_ s6 zq=>?_);obtain ⟨σ6,H6,I6,q6⟩:=zq;refine wpAny_passesOwn hp (thn (hb _ s6 σ6 H6 _ I6 q6) λf s7 q7=>?_);have again:∀{σ7:St} {H7:Hp},Inv X (pins++Jt6 fp s5.heap) σ7 H7 s7->N σ7 H7->∃m,m < n/\∃i σ' H',Inv X pins σ' H' s7/\tn i s7.heap/\(∀b∈fp,H' b=none)/\W i m σ' H':=λ{σ7 H7} I7 n7=>by
   obtain ⟨m',hm,w7⟩:=hN σ7 H7 n7;refine ⟨m',hm,i+1,σ7,H7,I7.unpinned,T.keep _ _ _ st5 λb hb o e=>(I7.pin (b,o) (ybi _ (ybi _ (Jnx hb e)))).1,λb hb=>?_,w7⟩;obtain ⟨o,e,d⟩:=T.obj _ _ st5 b hb;exact (I7.pin (b,o) (ybi _ (ybi _ (Jnx hb e)))).2.1
  cases f with
  |next=>obtain ⟨σ7,H7,I7,n7⟩:=q7;exact again I7 n7
  |cont=>obtain ⟨σ7,H7,I7,n7⟩:=q7;exact again I7 n7
  |brk=>obtain ⟨σ7,H7,I7,q7⟩:=q7;exact ⟨σ7,H7,I7.unpinned,q7⟩
  |ret v=>obtain ⟨x7,σ7,H7,I7,r7,q7⟩:=q7;exact ⟨x7,σ7,H7,I7.unpinned,r7,q7⟩
end
theorem Jwr {K:PySem.W.Frag} {a:Addr} {xs:List V} {g:TG} {tb:TS} {D:Ends} {σ:St} {H:Hp} (Pv:Nat->St->Hp->Prop) (h0:Pv 0 σ H) (hl:∀i σ H,i<=xs.length->Pv i σ H->SqL K H a xs)
  (hs:∀i x σ H,xs[i]?=some x->Pv i σ H->g x σ H λσ2 H2=>tb {D with nx:=Pv (i+1),ct:=Pv (i+1),bk:=D.nx} σ2 H2) (hd:∀σ H,Pv xs.length σ H->D.nx σ H):
  ∃W:Nat->Nat->St->Hp->Prop,(∃m,W 0 m σ H)/\∀i m σ H,W i m σ H->
   ((Itl K a).stop i H/\D.nx σ H)\/((Itl K a).go i H/\∃N:St->Hp->Prop,(∀σ' H',N σ' H'->∃m',m' < m/\W (i+1) m' σ' H')/\∀x H',(Itl K a).yld i H x H'->g x σ H' λσ2 H2=>tb {D with nx:=N,ct:=N,bk:=D.nx} σ2 H2):=by
 refine ⟨λi m σ H=>m=xs.length - i/\i<=xs.length/\Pv i σ H,⟨xs.length,by simp,yan _,h0⟩,?_⟩;rintro i m σ H ⟨rfl,hi,p⟩;have q:=hl i σ H hi p;by_cases hlt:i < xs.length
 ·refine .inr ⟨⟨xs,xs[i],q,by simp [hlt]⟩,Pv (i+1),λσ' H' p'=>⟨xs.length - (i+1),by omega,rfl,hlt,p'⟩,λx H' y=>?_⟩;obtain ⟨e,y⟩:=y;subst e;exact hs i x σ _ (y xs q) p
 ·have e:i=xs.length:=by omega
  subst e;exact .inl ⟨⟨xs,q,yi _⟩,hd σ H p⟩
theorem Yd4 {K:PySem.W.Frag} {a:Addr} {xs:List V} {g:TG} {tb:TS} {D:Ends} {σ:St} {H:Hp} (Pv:Nat->St->Hp->Prop) (h0:Pv 0 σ H) (hl:∀i σ H,i<=xs.length->Pv i σ H->SqT K H a xs)
  (hs:∀i x σ H,xs[i]?=some x->Pv i σ H->g x σ H λσ2 H2=>tb {D with nx:=Pv (i+1),ct:=Pv (i+1),bk:=D.nx} σ2 H2) (hd:∀σ H,Pv xs.length σ H->D.nx σ H):
  ∃W:Nat->Nat->St->Hp->Prop,(∃m,W 0 m σ H)/\∀i m σ H,W i m σ H->
   ((Itt K a).stop i H/\D.nx σ H)\/((Itt K a).go i H/\∃N:St->Hp->Prop,(∀σ' H',N σ' H'->∃m',m' < m/\W (i+1) m' σ' H')/\∀x H',(Itt K a).yld i H x H'->g x σ H' λσ2 H2=>tb {D with nx:=N,ct:=N,bk:=D.nx} σ2 H2):=by
 refine ⟨λi m σ H=>m=xs.length - i/\i<=xs.length/\Pv i σ H,⟨xs.length,by simp,yan _,h0⟩,?_⟩;rintro i m σ H ⟨rfl,hi,p⟩;have q:=hl i σ H hi p;by_cases hlt:i < xs.length
 ·refine .inr ⟨⟨xs,xs[i],q,by simp [hlt]⟩,Pv (i+1),λσ' H' p'=>⟨xs.length - (i+1),by omega,rfl,hlt,p'⟩,λx H' y=>?_⟩;obtain ⟨e,y⟩:=y;subst e;exact hs i x σ _ (y xs q) p
 ·have e:i=xs.length:=by omega
  subst e;exact .inl ⟨⟨xs,q,yi _⟩,hd σ H p⟩
theorem Jmy {lo:Int} {n:Nat} {g:TG} {tb:TS} {D:Ends} {σ:St} {H:Hp} (Pv:Nat->St->Hp->Prop) (h0:Pv 0 σ H)
  (hs:∀i σ H,i < n->Pv i σ H->g (.int (lo+i)) σ H λσ2 H2=>tb {D with nx:=Pv (i+1),ct:=Pv (i+1),bk:=D.nx} σ2 H2) (hd:∀σ H,Pv n σ H->D.nx σ H):
  ∃W:Nat->Nat->St->Hp->Prop,(∃m,W 0 m σ H)/\∀i m σ H,W i m σ H->
   ((Itr lo n).stop i H/\D.nx σ H)\/((Itr lo n).go i H/\∃N:St->Hp->Prop,(∀σ' H',N σ' H'->∃m',m' < m/\W (i+1) m' σ' H')/\∀x H',(Itr lo n).yld i H x H'->g x σ H' λσ2 H2=>tb {D with nx:=N,ct:=N,bk:=D.nx} σ2 H2):=by
 refine ⟨λi m σ H=>m=n - i/\i<=n/\Pv i σ H,⟨n,by simp,yan _,h0⟩,?_⟩;rintro i m σ H ⟨rfl,hi,p⟩;by_cases hlt:i < n
 ·refine .inr ⟨hlt,Pv (i+1),λσ' H' p'=>⟨n - (i+1),by omega,rfl,hlt,p'⟩,λx H' y=>?_⟩;obtain ⟨e,y⟩:=y;subst e y;exact hs i σ _ hlt p
 ·have e:i=n:=by omega
  subst e;exact .inl ⟨yi _,hd σ H p⟩
end L2
namespace L2
open PySem PySem.Spec PyProof.Rows
noncomputable abbrev R2:=V->V->Hp->VK->Prop
noncomputable def OpR (X:Cx) (f:Value->Value->Sem Value) (r:R2):Prop:=
 ∀(pins:List (Addr×Obj)) (s:Shared) (σ:St) (H:Hp) (x y:V) (v u:Value) (Q:VK),Inv X pins σ H s->RelV x v->RelV y u->r x y H Q->
  wpAny (model X.prog X.w) X.A (f v u) (EP X pins σ Q) X.xe s
noncomputable def UnR (X:Cx) (f:Value->Sem Value) (r:V->Hp->VK->Prop):Prop:=
 ∀(pins:List (Addr×Obj)) (s:Shared) (σ:St) (H:Hp) (x:V) (v:Value) (Q:VK),Inv X pins σ H s->RelV x v->r x H Q->
  wpAny (model X.prog X.w) X.A (f v) (EP X pins σ Q) X.xe s
noncomputable def Jlv (X:Cx) (f:Value) (r:List V->Hp->VK->Prop):Prop:=
 ∀(pins:List (Addr×Obj)) (s:Shared) (σ:St) (H:Hp) (xs:List V) (us:List Value) (Q:VK),Inv X pins σ H s->Vals xs us->r xs H Q->
  wpAny (model X.prog X.w) X.A (call f us) (EP X pins σ Q) X.xe s
noncomputable def tOp (r:R2) (ta tb:TE):TE:=λσ H Q=>ta σ H λx H1=>tb σ H1 λy H2=>r x y H2 Q
noncomputable def tUn (r:V->Hp->VK->Prop) (ta:TE):TE:=λσ H Q=>ta σ H λx H1=>r x H1 Q
noncomputable def rI (C:Int->Int->Prop) (g:Int->Int->V):R2:=λx y H Q=>∃i j,x= .int i/\y= .int j/\C i j/\Q (g i j) H
noncomputable def rI0 (g:Int->Int->V):R2:=λx y H Q=>∃i j,x= .int i/\y= .int j/\Q (g i j) H
noncomputable def rU (g:Int->V):V->Hp->VK->Prop:=λx H Q=>∃i,x= .int i/\Q (g i) H
section
variable {X:Cx} {a b c:Expr} {ta tb tc:TE} {pos:Pos}
theorem binT (ha:PE X a ta) (hb:PE X b tb) {pins:List (Addr×Obj)} {s:Shared} {σ:St} {H:Hp} {R:V->V->Hp->Prop} (I:Inv X pins σ H s)
  (h:ta σ H λx H1=>tb σ H1 λy H2=>R x y H2) {Q:Value->Shared->Prop} {f:Value->Value->Sem Value}
  (hf:∀v u s2 x y H2,Inv X pins σ H2 s2->RelV x v->RelV y u->R x y H2->wpAny (model X.prog X.w) X.A (f v u) Q X.xe s2):
  wpAny (model X.prog X.w) X.A (eval a X.env) (λv s₁=>wpAny (model X.prog X.w) X.A (eval b X.env) (λu s₂=>wpAny (model X.prog X.w) X.A (f v u) Q X.xe s₂) X.xe s₁) X.xe s:=by
 refine thn (ha pins s σ H _ I h) λv s1 zq=>?_;obtain ⟨x,H1,I1,r1,q1⟩:=zq;refine thn (hb pins s1 σ H1 _ I1 q1) λu s2 zq=>?_;obtain ⟨y,H2,I2,r2,q2⟩:=zq;exact hf v u s2 x y H2 I2 r1 r2 q2
theorem Jk7 {op:Operator} {r:R2} (ho:OpR X (binaryOp op) r) (ha:PE X a ta) (hb:PE X b tb):PE X (.BinOp a op b pos) (tOp r ta tb):=by
 intro pins s σ H Q I h;exact wpAny_BinOp (binT ha hb I h λv u s2 x y H2 I2 rx ry q=>ho pins s2 σ H2 x y v u Q I2 rx ry q)
theorem Jx9 {op:UnaryOp} {r:V->Hp->VK->Prop} (ho:UnR X (unaryOp op) r) (ha:PE X a ta):PE X (.UnaryOp op a pos) (tUn r ta):=by
 intro pins s σ H Q I h;exact UnaryOp_ (thn (ha pins s σ H _ I h) λv s1 ⟨x,H1,I1,r1,q1⟩=>ho pins s1 σ H1 x v Q I1 r1 q1)
theorem opI {f:Value->Value->Sem Value} {C:Int->Int->Prop} {g:Int->Int->Int}
  (rule:∀(i j:Int) (t u:Tok) (s:Shared) (Q:Value->Shared->Prop) (E:Value->Shared->Prop),C i j->Q (.int (g i j) s.toks) {s with toks:=s.toks+1}->wpAny (model X.prog X.w) X.A (f (.int i t) (.int j u)) Q E s):
  OpR X f (rI C λi j=>.int (g i j)):=by
 intro pins s σ H x y v u Q I rx ry h;obtain ⟨i,j,rfl,rfl,hc,q⟩:=h;obtain ⟨t,rfl⟩:=rx;obtain ⟨t',rfl⟩:=ry;exact rule i j t t' s _ _ hc ⟨.int (g i j),H,I.tok _,⟨_,rfl⟩,q⟩
theorem opI0 {f:Value->Value->Sem Value} {g:Int->Int->Int}
  (rule:∀(i j:Int) (t u:Tok) (s:Shared) (Q:Value->Shared->Prop) (E:Value->Shared->Prop),Q (.int (g i j) s.toks) {s with toks:=s.toks+1}->wpAny (model X.prog X.w) X.A (f (.int i t) (.int j u)) Q E s):
  OpR X f (rI0 λi j=>.int (g i j)):=by
 intro pins s σ H x y v u Q I rx ry h;obtain ⟨i,j,rfl,rfl,q⟩:=h;obtain ⟨t,rfl⟩:=rx;obtain ⟨t',rfl⟩:=ry;exact rule i j t t' s _ _ ⟨.int (g i j),H,I.tok _,⟨_,rfl⟩,q⟩
theorem opB0 {f:Value->Value->Sem Value} {g:Int->Int->Bool}
  (rule:∀(i j:Int) (t u:Tok) (s:Shared) (Q:Value->Shared->Prop) (E:Value->Shared->Prop),Q (.bool (g i j)) s->wpAny (model X.prog X.w) X.A (f (.int i t) (.int j u)) Q E s):
  OpR X f (rI0 λi j=>.bl (g i j)):=by
 intro pins s σ H x y v u Q I rx ry h;obtain ⟨i,j,rfl,rfl,q⟩:=h;obtain ⟨t,rfl⟩:=rx;obtain ⟨t',rfl⟩:=ry;exact rule i j t t' s _ _ ⟨.bl (g i j),H,I,rfl,q⟩
noncomputable def CPow (i j:Int):Prop:=0<=j/\j<=1000000/\i.natAbs < 2^64
noncomputable def CMul (i j:Int):Prop:=(-(2^64) < i/\i < 2^64)\/(-(2^64) < j/\j < 2^64)
theorem CMul.ok {i j:Int} (h:CMul i j):IntMulOk i j:=by
 rcases h with ⟨h1,h2⟩|⟨h1,h2⟩
 ·exact .of_left (intBits_le_64 h1 h2)
 ·exact .of_right (intBits_le_64 h1 h2)
theorem Jkk:OpR X (binaryOp .Add) (rI0 λi j=>.int (i+j)):=opI0 λ_ _ _ _ _ _ _ q=>add_int q
theorem Jln:OpR X (binaryOp .Sub) (rI0 λi j=>.int (i - j)):=opI0 λ_ _ _ _ _ _ _ q=>sub_int q
theorem Jq6:OpR X (binaryOp .Mult) (rI CMul λi j=>.int (i*j)):=opI λ_ _ _ _ _ _ _ hc q=>mul_int q hc.ok
theorem Jq5:OpR X (binaryOp .Mod) (rI (λ_ j=>0 < j) λi j=>.int (i%j)):=opI λi j _ _ _ _ _ hc q=>by
 have h1:(0:Int) < j:=hc;exact mod_int' (by omega) (by rw [Int.fmod_eq_emod_of_nonneg i (by omega)];exact q)
theorem op_pow:OpR X (binaryOp .Pow) (rI CPow λi j=>.int (i^j.toNat)):=opI λ_ _ _ _ _ _ _ hc q=>pow_int_small hc.1 hc.2.1 hc.2.2 q
theorem unI {f:Value->Sem Value} {g:Int->Int}
  (rule:∀(i:Int) (t:Tok) (s:Shared) (Q:Value->Shared->Prop) (E:Value->Shared->Prop),Q (.int (g i) s.toks) {s with toks:=s.toks+1}->wpAny (model X.prog X.w) X.A (f (.int i t)) Q E s):
  UnR X f (rU λi=>.int (g i)):=by
 intro pins s σ H x v Q I rx h;obtain ⟨i,rfl,q⟩:=h;obtain ⟨t,rfl⟩:=rx;exact rule i t s _ _ ⟨.int (g i),H,I.tok _,⟨_,rfl⟩,q⟩
theorem Jtk:UnR X (unaryOp .USub) (rU λi=>.int (-i)):=unI λ_ _ _ _ _ q=>neg_int q
end
noncomputable def scal:V->V->Bool
 | .non,.non=>true| .non,.int _=>true| .int _,.non=>true| .non,.bl _=>true| .bl _,.non=>true| .non,.str _=>true| .str _,.non=>true
 | .int _,.int _=>true| .bl _,.bl _=>true| .str _,.str _=>true| .byt _,.byt _=>true
 | .int _,.str _=>true| .str _,.int _=>true| .bl _,.str _=>true| .str _,.bl _=>true
 |_,_=>false
noncomputable def rEq:R2:=λx y H Q=>scal x y=true/\Q (.bl (decide (x=y))) H
noncomputable def rNe:R2:=λx y H Q=>scal x y=true/\Q (.bl (!decide (x=y))) H
theorem Jza {i j:Int}:decide (V.int i=V.int j)=(i==j):=by
 rw [ybn];simp
theorem Yao {i j:Bool}:decide (V.bl i=V.bl j)=(i==j):=by
 rw [ybn];simp
theorem Jzb {i j:Str}:decide (V.str i=V.str j)=(i==j):=by
 rw [ybn];simp
theorem Jz9 {i j:Array UInt8}:decide (V.byt i=V.byt j)=(i.toList==j.toList):=by
 rw [ybn];cases i;cases j;simp
section
variable {X:Cx} {a b c:Expr} {ta tb tc:TE} {pos:Pos}
theorem Jkm {pins:List (Addr×Obj)} {σ:St} {H:Hp} {s:Shared} {Q:VK} {k k':Bool} (I:Inv X pins σ H s) (q:Q (.bl k) H) (e:k=k'):EP X pins σ Q (.bool k') s:=by
 subst e;exact ⟨.bl k,H,I,rfl,q⟩
theorem Jnp:OpR X (compareOp .Eq) rEq:=by
 intro pins s σ H x y v u Q I rx ry h;obtain ⟨hs,q⟩:=h;cases x with
 |non=>
  cases rx;cases y with
  |non=>cases ry;exact PySem.EqNone.eq_none_none (Jkm I q (by simp))
  |bl j=>cases ry;exact PySem.EqNone.eq_none_bool (Jkm I q (by simp))
  |int j=>obtain ⟨t',rfl⟩:=ry;exact PySem.EqNone.eq_none_int (Jkm I q (by simp))
  |str j=>obtain ⟨t',rfl⟩:=ry;exact PySem.EqNone.eq_none_str (Jkm I q (by simp))
  |_=>exact absurd (show false=true from hs) yab
 |bl i=>
  cases rx;cases y with
  |non=>cases ry;exact PySem.EqNone.eq_bool_none (Jkm I q (by simp))
  |bl j=>cases ry;exact eq_bool (Jkm I q Yao)
  |str j=>obtain ⟨t',rfl⟩:=ry;exact PySem.EqMixed.eq_bool_str (Jkm I q (by simp))
  |_=>exact absurd (show false=true from hs) yab
 |int i=>
  obtain ⟨t,rfl⟩:=rx;cases y with
  |non=>cases ry;exact PySem.EqNone.eq_int_none (Jkm I q (by simp))
  |int j=>obtain ⟨t',rfl⟩:=ry;exact eq_int (Jkm I q Jza)
  |str j=>obtain ⟨t',rfl⟩:=ry;exact PySem.EqMixed.eq_int_str (Jkm I q (by simp))
  |_=>exact absurd (show false=true from hs) yab
 |str i=>
  obtain ⟨t,rfl⟩:=rx;cases y with
  |non=>cases ry;exact PySem.EqNone.eq_str_none (Jkm I q (by simp))
  |bl j=>cases ry;exact PySem.EqMixed.eq_str_bool (Jkm I q (by simp))
  |int j=>obtain ⟨t',rfl⟩:=ry;exact PySem.EqMixed.eq_str_int (Jkm I q (by simp))
  |str j=>obtain ⟨t',rfl⟩:=ry;exact eq_str (Jkm I q Jzb)
  |_=>exact absurd (show false=true from hs) yab
 |byt i=>
  obtain ⟨t,rfl⟩:=rx;cases y with
  |byt j=>obtain ⟨t',rfl⟩:=ry;exact PySem.W.eq_bytes (Jkm I q Jz9)
  |_=>exact absurd (show false=true from hs) yab
 |_=>cases y <;> exact absurd (show false=true from hs) yab
theorem Jx7:OpR X (compareOp .NotEq) rNe:=by
 intro pins s σ H x y v u Q I rx ry h;obtain ⟨hs,q⟩:=h;cases x with
 |non=>
  cases rx;cases y with
  |non=>cases ry;exact PySem.EqNone.ne_none_none (Jkm I q (by simp))
  |bl j=>cases ry;exact PySem.EqNone.ne_none_bool (Jkm I q (by simp))
  |int j=>obtain ⟨t',rfl⟩:=ry;exact PySem.EqNone.ne_none_int (Jkm I q (by simp))
  |str j=>obtain ⟨t',rfl⟩:=ry;exact PySem.EqNone.ne_none_str (Jkm I q (by simp))
  |_=>exact absurd (show false=true from hs) yab
 |bl i=>
  cases rx;cases y with
  |non=>cases ry;exact PySem.EqNone.ne_bool_none (Jkm I q (by simp))
  |bl j=>cases ry;exact ne_bool (Jkm I q (congrArg not Yao))
  |str j=>obtain ⟨t',rfl⟩:=ry;exact PySem.EqMixed.ne_bool_str (Jkm I q (by simp))
  |_=>exact absurd (show false=true from hs) yab
 |int i=>
  obtain ⟨t,rfl⟩:=rx;cases y with
  |non=>cases ry;exact PySem.EqNone.ne_int_none (Jkm I q (by simp))
  |int j=>obtain ⟨t',rfl⟩:=ry;exact ne_int (Jkm I q (congrArg not Jza))
  |str j=>obtain ⟨t',rfl⟩:=ry;exact PySem.EqMixed.ne_int_str (Jkm I q (by simp))
  |_=>exact absurd (show false=true from hs) yab
 |str i=>
  obtain ⟨t,rfl⟩:=rx;cases y with
  |non=>cases ry;exact PySem.EqNone.ne_str_none (Jkm I q (by simp))
  |bl j=>cases ry;exact PySem.EqMixed.ne_str_bool (Jkm I q (by simp))
  |int j=>obtain ⟨t',rfl⟩:=ry;exact PySem.EqMixed.ne_str_int (Jkm I q (by simp))
  |str j=>obtain ⟨t',rfl⟩:=ry;exact ne_str (Jkm I q (congrArg not Jzb))
  |_=>exact absurd (show false=true from hs) yab
 |byt i=>
  obtain ⟨t,rfl⟩:=rx;cases y with
  |byt j=>obtain ⟨t',rfl⟩:=ry;exact PySem.W.ne_bytes (Jkm I q (congrArg not Jz9))
  |_=>exact absurd (show false=true from hs) yab
 |_=>cases y <;> exact absurd (show false=true from hs) yab
theorem Jzi:OpR X (compareOp .Lt) (rI0 λi j=>.bl (decide (i < j))):=opB0 λ_ _ _ _ _ _ _ q=>lt_int q
theorem Jn7:OpR X (compareOp .LtE) (rI0 λi j=>.bl (decide (i<=j))):=opB0 λ_ _ _ _ _ _ _ q=>le_int q
theorem Juy:OpR X (compareOp .Gt) (rI0 λi j=>.bl (decide (j < i))):=opB0 λ_ _ _ _ _ _ _ q=>gt_int q
theorem Yl:OpR X (compareOp .In) (λx y H Q=>∃i j,x= .str i/\y= .str j/\Q (.bl (!(Builtin.Str.occurrences j i 0 j.length 1).isEmpty)) H):=by
 intro pins s σ H x y v u Q I rx ry h;obtain ⟨i,j,rfl,rfl,q⟩:=h;obtain ⟨t,rfl⟩:=rx;obtain ⟨t',rfl⟩:=ry;exact in_str (Jkm I q rfl)
theorem Jrh:OpR X (compareOp .Is) (λx y H Q=>y= .non/\Q (.bl (decide (x= .non))) H):=by
 intro pins s σ H x y v u Q I rx ry h;obtain ⟨rfl,q⟩:=h;cases ry;refine is_none_gen (Jkm I q ?_);cases x <;> first
  | (cases rx; rfl)
  | (obtain ⟨t,rfl⟩:=rx; rfl)
theorem Js8:OpR X (compareOp .IsNot) (λx y H Q=>y= .non/\Q (.bl (!decide (x= .non))) H):=by
 intro pins s σ H x y v u Q I rx ry h;obtain ⟨rfl,q⟩:=h;cases ry;refine isnot_none_gen (Jkm I q ?_);cases x <;> first
  | (cases rx; rfl)
  | (obtain ⟨t,rfl⟩:=rx; rfl)
theorem Jkg (b:Expr) {op:CmpOp} (h:op≠ .In:=by decide) (h2:op≠ .NotIn:=by decide):behindInMarks op b=false:=by
 have e1:(op==CmpOp.In)=false:=by cases op <;> first|rfl|exact absurd rfl h
 have e2:(op==CmpOp.NotIn)=false:=by cases op <;> first|rfl|exact absurd rfl h2
 cases b <;> simp [behindInMarks,e1,e2]
theorem Jm1 {op:CmpOp} {r:R2} (ho:OpR X (compareOp op) r) (ha:PE X a ta) (hb:PE X b tb) (hm:behindInMarks op b=false):PE X (.Compare a [op] [b] pos) (tOp r ta tb):=by
 intro pins s σ H Q I h;exact wpAny_Compare1 (binT ha hb I h λv u s2 x y H2 I2 rx ry q=>ho pins s2 σ H2 x y v u Q I2 rx ry q) hm
noncomputable def tTest (t:TE):TT:=λσ H Q=>t σ H λx H'=>∃k,x= .bl k/\Q k H'
theorem Jke {op:CmpOp} {r:R2} (ho:OpR X (compareOp op) r) (ha:PE X a ta) (hb:PE X b tb) (hm:behindInMarks op b=false):PT X (.Compare a [op] [b] pos) (tTest (tOp r ta tb)):=by
 intro pins s σ H Q I h;refine wpAny_isTrue_Compare1 (thn (ha pins s σ H _ I h) λv s1 ⟨x,H1,I1,r1,q1⟩=>thn (hb pins s1 σ H1 _ I1 q1) λu s2 ⟨y,H2,I2,r2,q2⟩=>
  thn (ho pins s2 σ H2 x y v u _ I2 r1 r2 q2) λc s3 ⟨z,H3,I3,r3,k,e,q3⟩=>?_) hm
 subst e;cases r3;exact wpAny_truthy_bool ⟨H3,I3,q3⟩
noncomputable def Ycd (r r':R2) (ta tb tc:TE):TE:=λσ H Q=>ta σ H λx H1=>tb σ H1 λy H2=>r x y H2 λz H3=>∃k,z= .bl k/\
 (if k=true then tc σ H3 λw' H4=>r' y w' H4 Q else Q (.bl false) H3)
theorem Jt3 {op op':CmpOp} {r r':R2} (ho:OpR X (compareOp op) r) (ho':OpR X (compareOp op') r') (ha:PE X a ta) (hb:PE X b tb) (hc:PE X c tc)
  (hm:lastMarks [op,op'] [b,c]=false:=by with_unfolding_all rfl):PE X (.Compare a [op,op'] [b,c] pos) (Ycd r r' ta tb tc):=by
 intro pins s σ H Q I h;refine Compare_chain (thn (ha pins s σ H _ I h) λv s1 ⟨x,H1,I1,r1,q1⟩=>chain_link (thn (hb pins s1 σ H1 _ I1 q1) λu s2 ⟨y,H2,I2,r2,q2⟩=>
  thn (ho pins s2 σ H2 x y v u _ I2 r1 r2 q2) λd s3 ⟨z,H3,I3,r3,k,e,q3⟩=>?_)) hm
 subst e;cases r3;refine wpAny_truthy_bool ?_;cases k with
 |false=>exact ite_ff ⟨.bl false,H3,I3,rfl,q3⟩
 |true=>exact ite_tt (chain_last (thn (hc pins s3 σ H3 _ I3 q3) λw' s4 ⟨z',H4,I4,r4,q4⟩=>ho' pins s4 σ H4 y z' u w' Q I4 r2 r4 q4))
theorem Jos {op op':CmpOp} {r r':R2} (ho:OpR X (compareOp op) r) (ho':OpR X (compareOp op') r') (ha:PE X a ta) (hb:PE X b tb) (hc:PE X c tc)
  (hm:lastMarks [op,op'] [b,c]=false:=by with_unfolding_all rfl):PT X (.Compare a [op,op'] [b,c] pos) (tTest (Ycd r r' ta tb tc)):=by
 intro pins s σ H Q I h;refine isTrue_chain (thn (ha pins s σ H _ I h) λv s1 ⟨x,H1,I1,r1,q1⟩=>test_link (thn (hb pins s1 σ H1 _ I1 q1) λu s2 ⟨y,H2,I2,r2,q2⟩=>
  thn (ho pins s2 σ H2 x y v u _ I2 r1 r2 q2) λd s3 ⟨z,H3,I3,r3,k,e,q3⟩=>?_)) hm
 subst e;cases r3;refine wpAny_truthy_bool ?_;cases k with
 |false=>
  obtain ⟨k',e',q'⟩:=q3;cases e';exact ite_ff ⟨H3,I3,q'⟩
 |true=>
  refine ite_tt (test_last (thn (hc pins s3 σ H3 _ I3 q3) λw' s4 ⟨z',H4,I4,r4,q4⟩=>thn (ho' pins s4 σ H4 y z' u w' _ I4 r2 r4 q4) λd' s5 zq=>?_));obtain ⟨z2,H5,I5,r5,k2,e2,q5⟩:=zq;subst e2;cases r5;exact wpAny_truthy_bool ⟨H5,I5,q5⟩
theorem Jr9:(sizeLine:Nat) < 2^63:=by rw [sizeLine_eq];decide
theorem Jyf:OpR X (binaryOp .Add) (λx y H Q=>∃i j,x= .str i/\y= .str j/\i.length+j.length<=sizeLine/\Q (.str (i++j)) H):=by
 intro pins s σ H x y v u Q I rx ry h;obtain ⟨i,j,rfl,rfl,hz,q⟩:=h;obtain ⟨t,rfl⟩:=rx;obtain ⟨t',rfl⟩:=ry;exact add_str (λt' tk=>⟨.str (i++j),H,I.tok _,⟨_,rfl⟩,q⟩) hz
theorem Jms {x:V} {us:List Value} (r:Vals [x] us):∃u,us= [u]/\RelV x u:=by
 cases r with
 |cons r1 r2=>cases r2;exact ⟨_,rfl,r1⟩
theorem Jxv {x y:V} {us:List Value} (r:Vals [x,y] us):∃u w',us= [u,w']/\RelV x u/\RelV y w':=by
 cases r with
 |cons r1 r2=>
  cases r2 with
  |cons r3 r4=>cases r4;exact ⟨_,_,rfl,r1,r3⟩
theorem Jmh (hc:X.calm=true):Jlv X (.builtin "max") (λxs H Q=>∃i j,xs= [.int i,.int j]/\Q (.int (if j > i then j else i)) H):=by
 intro pins s σ H xs us Q I r h;obtain ⟨i,j,rfl,q⟩:=h;obtain ⟨u,w',rfl,⟨t,rfl⟩,⟨t',rfl⟩⟩:=Jxv r;refine max_two_ints (I.ok.hd hc) λh' tk k=>⟨_,H,I.kept k,?_,q⟩;by_cases hj:j > i
 ·rw [if_pos hj,if_pos hj];exact ⟨_,rfl⟩
 ·rw [if_neg hj,if_neg hj];exact ⟨_,rfl⟩
theorem Jm5 (hc:X.calm=true):Jlv X (.builtin "min") (λxs H Q=>∃i j,xs= [.int i,.int j]/\Q (.int (if j < i then j else i)) H):=by
 intro pins s σ H xs us Q I r h;obtain ⟨i,j,rfl,q⟩:=h;obtain ⟨u,w',rfl,⟨t,rfl⟩,⟨t',rfl⟩⟩:=Jxv r;refine min_two_ints (I.ok.hd hc) λh' tk k=>⟨_,H,I.kept k,?_,q⟩;by_cases hj:j < i
 ·rw [if_pos hj,if_pos hj];exact ⟨_,rfl⟩
 ·rw [if_neg hj,if_neg hj];exact ⟨_,rfl⟩
theorem Jp5:Jlv X (.type "int") (λxs H Q=>(∃i,xs= [.int i]/\Q (.int i) H)\/∃k,xs= [.bl k]/\Q (.int (if k then 1 else 0)) H):=by
 intro pins s σ H xs us Q I r h;rcases h with ⟨i,rfl,q⟩|⟨k,rfl,q⟩
 ·obtain ⟨u,rfl,t,rfl⟩:=Jms r;exact call_int_int ⟨.int i,H,I,⟨_,rfl⟩,q⟩
 ·obtain ⟨u,rfl,r1⟩:=Jms r;cases r1;exact call_int_bool ⟨.int (if k then 1 else 0),H,I.tok _,⟨_,rfl⟩,q⟩
end
end L2
namespace L2
open PySem PySem.Spec PyProof.Rows
structure ObjM (h:Heap) (x dx C:Addr) (mA:Str->Option Value):Prop where
 obj:h.get? x=some (PySem.W.instObj C dx)
 ns:h.Ns1 dx mA
 ne:dx≠x
theorem Jur {h:Heap} {dx:Addr} {mA:Str->Option Value} (n:h.Ns1 dx mA):∃od,h.get? dx=some od/\∀name,PySem.W.lookIn name od=some (mA name):=by
 obtain ⟨o,es,ep,ho,hd,hk,_,hm⟩:=n;refine ⟨o,ho,λname=>?_⟩;have e:=hm name;unfold nsFind findBy at e;rw [<-Array.find?_toList] at e;unfold PySem.W.lookIn;rw [hd];dsimp only;split
 ·rename_i y q
  rw [q] at e;exact congrArg some e
 ·rename_i q
  rw [q] at e;have a:es.toList.any (·.refKey)=false:=by
   rw [List.any_eq_false];intro y hy;obtain ⟨z,t,hkey⟩:=hk y (Array.mem_toList_iff.mp hy);simp [DictEntry.refKey,hkey]
  have a':¬es.toList.any (·.refKey)=true:=by rw [a];exact yab
  rw [if_neg a'];exact congrArg some e
theorem ObjM.look {h:Heap} {x dx C:Addr} {mA:Str->Option Value} (I:ObjM h x dx C mA):∃od,PySem.W.InstAt h x (PySem.W.instObj C dx) C (some od)/\∀name,PySem.W.lookIn name od=some (mA name):=
 let ⟨od,ho,hl⟩:=Jur I.ns
 ⟨od,⟨I.obj,rfl,rfl,ho⟩,hl⟩
section
variable {prog:Program} {w:World} {A:Around} {E:Value->Shared->Prop} {s:Shared} {K:PySem.W.Frag} {x dx C f:Addr} {mA:Str->Option Value} {name:Str} {v:Value}
theorem Yd5 {expr:Bool} {Q:Value->Shared->Prop} (X:K.In s.heap) (I:ObjM s.heap x dx C mA) (hg:PySem.W.plainGet K C name=true) (hh:PySem.W.hasDictIn K C=true)
  (ha:PySem.W.findIn K (.ref C) name=some none) (hv:mA name=some v) (hv':PySem.W.handedIn v=true) (h:Q v {s with toks:=s.toks+1}):
  wpAny (model prog w) A (getAttr (.ref x) name expr) Q E s:=by
 obtain ⟨od,J,hl⟩:=I.look;exact PySem.W.get_value X J (PySem.W.plainGet_of hg).1 (PySem.W.findObj_own hh ha rfl (by rw [hl,hv])) hv' h
theorem Yax {pl:Sem Bool} {Q:Value×List Value->Shared->Prop} (X:K.In s.heap) (I:ObjM s.heap x dx C mA) (hg:PySem.W.plainGet K C name=true)
  (hf:PySem.W.findIn K (.ref C) name=some (some (.ref f))) (ht:PySem.W.isFn K (.ref f)=true) (hv:mA name=none) (h:Q (.ref f,[.ref x]) s):
  wpAny (model prog w) A (getMethod (.ref x) name pl) Q E s:=by
 obtain ⟨od,J,hl⟩:=I.look;exact PySem.W.method_fn X J (PySem.W.plainGet_of hg).1 (PySem.W.plainGet_of hg).2 hf (beq_iff_eq.mp ht) (by show (PySem.W.lookIn name od).map (·.isSome)=some false;rw [hl,hv];rfl) h
theorem Ydr {ns:List Str} {Q:Unit->Shared->Prop} (X:K.In s.heap) (I:ObjM s.heap x dx C mA)
  (hs:PySem.W.findIn K (.ref C) "__setattr__" =some (some (.builtin "object.__setattr__"))) (hp:PySem.W.plainOver K C=true) (ht:PySem.W.takerIn K C name=some none) (hh:PySem.W.hasDictIn K C=true)
  (hw:PySem.Within mA ns) (hsz:ns.length<=sizeLine)
  (h:∀h',ObjM h' x dx C (λy=>if y=name then some v else mA y)->yam dx s.heap h'->Q () {s with heap:=h',toks:=s.toks+2}):
  wpAny (model prog w) A (setAttr (.ref x) name v) Q E s:=by
 obtain ⟨od,J,hl⟩:=I.look;refine PySem.W.set_plain X J hs (PySem.W.osa_open (s:={s with toks:=s.toks+1}) (r:=none) X J hp ht λb=>?_);obtain ⟨cd,hc,hd'⟩:=PySem.W.any_some hh;have hx:s.heap.get? x=some ⟨.ref C,some dx,.plain,#[]⟩:=I.obj;refine wpAny_bind (wpAny_pure (wpAny_bind (wpAny_bind (wpAny_loadPart hx (wpAny_bind (PySem.W.Looks.here (s:={s with toks:=s.toks+1}) (PySem.W.looks_clsIn X hc) ?_))))));rw [hd'];refine wpAny_pure (a:=some dx) (wpAny_bind (wpAny_pure (wpAny_bind ?_)));refine wpAny_nsSet1 (s:={s with toks:=s.toks+1}) I.ns λh' hn2 hs2=>?_;obtain ⟨oD,esD,epD,hoD,hdD,hcD⟩:=hn2.count (PySem.Within.cons name v hw);refine wpAny_bind (wpAny_lookBehind hoD (by rw [hdD];exact pastItsLine_dict (yai hcD (by rw [ybe];omega))) ?_);exact wpAny_pure (h _ ⟨(hs2.2 _ (yk I.ne)).trans I.obj,hn2,I.ne⟩ hs2)
theorem Yb5 {R:Result->Shared->Prop} {vs:List Value} {kw:List (Str×Value)} (X:K.In s.heap) (hm:PySem.W.makesIn K C=true)
  (hi:PySem.W.findIn K (.ref C) "__init__" =some (some (.ref f))) (hf:PySem.W.typeIn K (.ref f)=some (.type "function"))
  (h:codeAny (model prog w) (A.under (.builtin "type.__call__" ⟨.ref C::vs,kw⟩)) (.call (.ref f) ⟨.ref (s.heap.objs.size+1)::vs,kw⟩) (PySem.W.InitBack (s.heap.objs.size+1) R)
   {s with heap:=(s.heap.push PySem.W.emptyDict).push (PySem.W.instObj C s.heap.objs.size)}):
  codeAny (model prog w) A (.call (.ref C) ⟨vs,kw⟩) R s:=by
 obtain ⟨hh,g,d,t,os⟩:=s;exact PySem.W.make_core (PySem.W.makes_of X hm) (PySem.W.looks_findIn X hi) (λself=>PySem.W.bind_fn X self hf) (.inl rfl) h
end
noncomputable def Jm4 (f:Str) (v:V):List (Str×V)->List (Str×V)
 | []=>[(f,v)]
 | (g,x) :: r=>if g = f then (g,v) :: r else (g,x) :: Jm4 f v r
theorem Jrs (f g:Str) (v:V):∀fs:List (Str×V),(Jm4 f v fs).lookup g=if g=f then some v else fs.lookup g
 | []=>by
  show ybo g [(f,v)]=_;by_cases h:g=f
  ·have hb:(g==f)=true:=beq_iff_eq.mpr h;simp only [ybo,hb,if_pos h]
  ·have hb:(g==f)=false:=beq_eq_false_iff_ne.mpr h;simp only [ybo,hb,if_neg h]
 | (k,x) :: r=>by
  have ih:=Jrs f g v r;rw [show Jm4 f v ((k,x)::r)=(if k=f then (k,v)::r else (k,x)::Jm4 f v r) from rfl];by_cases hk:k=f
  ·rw [if_pos hk];by_cases h:g=k
   ·have hb:(g==k)=true:=beq_iff_eq.mpr h;simp only [ybo,hb,if_pos (h.trans hk)]
   ·have hb:(g==k)=false:=beq_eq_false_iff_ne.mpr h;simp only [ybo,hb,if_neg (λe:g=f=>h (e.trans hk.symm))]
  ·rw [if_neg hk];by_cases h:g=k
   ·have hb:(g==k)=true:=beq_iff_eq.mpr h;simp only [ybo,hb,if_neg (λe:g=f=>hk (h.symm.trans e))]
   ·have hb:(g==k)=false:=beq_eq_false_iff_ne.mpr h;simp only [ybo,hb];exact ih
theorem Jr8 (f:Str) (v:V):∀fs:List (Str×V),f∈(Jm4 f v fs).map (·.1)/\∀g,g∈fs.map (·.1)->g∈(Jm4 f v fs).map (·.1)
 | []=>⟨by simp [Jm4],λg h=>by simp at h⟩
 | (k,x) :: r=>by
  obtain ⟨i1,i2⟩:=Jr8 f v r;rw [show Jm4 f v ((k,x)::r)=(if k=f then (k,v)::r else (k,x)::Jm4 f v r) from rfl];by_cases hk:k=f
  ·rw [if_pos hk];subst hk;exact ⟨by simp,λg h=>by simpa using h⟩
  ·rw [if_neg hk];refine ⟨?_,λg h=>?_⟩
   ·rw [yax];exact yaf _ i1
   ·rw [yax] at h⊢;rcases yo.mp h with e|e
    ·exact yo.mpr (.inl e)
    ·exact yaf _ (i2 g e)
theorem Jrq (f:Str) (v:V):∀fs:List (Str×V),(Jm4 f v fs).length<=fs.length+1
 | []=>by simp [Jm4]
 | (k,x) :: r=>by
  have ih:=Jrq f v r;rw [show Jm4 f v ((k,x)::r)=(if k=f then (k,v)::r else (k,x)::Jm4 f v r) from rfl];by_cases hk:k=f
  ·rw [if_pos hk,ybe,ybe];omega
  ·rw [if_neg hk,ybe,ybe];omega
theorem RelO.some_of {v:V} {o:Option Value} (r:RelO (some v) o):∃u,o=some u/\RelV v u:=by
 cases o with
 |none=>exact (show False from r).elim
 |some u=>exact ⟨u,rfl,r⟩
theorem RelO.none_of {o:Option Value} (r:RelO none o):o=none:=by
 cases o with
 |none=>rfl
 |some u=>exact (show False from r).elim
theorem Jun {v:V} {u:Value} (r:RelV v u):PySem.W.handedIn u=true:=by
 cases v with
 |non=>cases (show u=Value.none from r);rfl
 |bl b=>cases (show u=Value.bool b from r);rfl
 |int i=>obtain ⟨t,e⟩:=(show ∃t,u=Value.int i t from r);cases e;rfl
 |str x=>obtain ⟨t,e⟩:=(show ∃t,u=Value.str x t from r);cases e;rfl
 |byt b=>obtain ⟨t,e⟩:=(show ∃t,u=Value.bytes b t from r);cases e;rfl
 |flt b=>obtain ⟨t,e⟩:=(show ∃t,u=Value.float b t from r);cases e;rfl
 |ref a=>cases (show u=Value.ref a from r);rfl
 |ty n=>cases (show u=Value.type n from r);rfl
section
variable {P:Program} {w:World} {H H':Hp} {h h':Heap} {a C dx:Addr} {fs fs':List (Str×V)}
theorem Js6 (hok:HOk P w H h) (e:H a=some (.ins C dx fs)):∃mA,ObjM h a dx C mA/\(∀f,RelO (fs.lookup f) (mA f))/\PySem.Within mA (fs.map (·.1))/\fs.length<=1000/\H dx=some (.own a):=by
 obtain ⟨d,z,ne,ob,mA,n,r,q⟩:=(show ObjOk P w H h a (.ins C dx fs) from hok a _ e);exact ⟨mA,⟨ob,n,ne⟩,r,q,z,d⟩
end
structure Cls (K:PySem.W.Frag) (C:Addr):Prop where
 pg:PySem.W.plainGet K C Str.empty=true
 hd:PySem.W.hasDictIn K C=true
 po:PySem.W.plainOver K C=true
 sa:PySem.W.findIn K (.ref C) "__setattr__" =some (some (.builtin "object.__setattr__"))
theorem Cls.get {K:PySem.W.Frag} {C:Addr} (c:Cls K C) (f:Str):PySem.W.plainGet K C f=true:=c.pg
noncomputable def NoAttr (K:PySem.W.Frag) (C:Addr) (f:Str):Prop:=PySem.W.findIn K (.ref C) f=some none
theorem NoAttr.taker {K:PySem.W.Frag} {C:Addr} {f:Str} (n:NoAttr K C f):PySem.W.takerIn K C f=some none:=by
 unfold PySem.W.takerIn;rw [show PySem.W.findIn K (.ref C) f=some none from n];rfl
structure Con (K:PySem.W.Frag) (C:Addr) (f:Str) (v:V) (u:Value):Prop where
 at_:PySem.W.findIn K (.ref C) f=some (some u)
 rel:RelV v u
 get:PySem.W.specialIn K u "__get__" =some none
 cp:PySem.W.copiedNames.contains f=false
structure Jp8 (K:PySem.W.Frag) (C:Addr) (m:Str) (f:Addr):Prop where
 at_:PySem.W.findIn K (.ref C) m=some (some (.ref f))
 fn:PySem.W.isFn K (.ref f)=true
 kp:PySem.W.keepIn K (.ref f)=true
section
variable {X:Cx} {pins:List (Addr×Obj)} {σ:St} {H:Hp} {s:Shared} {a C dx:Addr} {fs:List (Str×V)} {f:Str} {v:V} {A:Around} {E:Value->Shared->Prop}
theorem Jy2 {b:Bool} {Q:Value->Shared->Prop} (I:Inv X pins σ H s) (e:H a=some (.ins C dx fs)) (c:Cls X.K C) (n:NoAttr X.K C f) (l:fs.lookup f=some v)
  (h:∀u s',Inv X pins σ H s'->RelV v u->Q u s'):wpAny (model X.prog X.w) A (getAttr (.ref a) f b) Q E s:=by
 obtain ⟨mA,O,r,_,_,_⟩:=Js6 I.hok e;obtain ⟨u,hu,ru⟩:=RelO.some_of (v:=v) (o:=mA f) (by rw [<-l];exact r f);exact Yd5 I.kIn O (c.get f) c.hd n hu (Jun ru) (h u _ (I.tok _) ru)
theorem Jsk {m:Str} {g:Addr} {pl:Sem Bool} {Q:Value×List Value->Shared->Prop} (I:Inv X pins σ H s) (e:H a=some (.ins C dx fs)) (c:Cls X.K C) (k:Jp8 X.K C m g) (l:fs.lookup m=none)
  (h:Q (.ref g,[.ref a]) s):wpAny (model X.prog X.w) A (getMethod (.ref a) m pl) Q E s:=by
 obtain ⟨mA,O,r,_,_,_⟩:=Js6 I.hok e;have hn:mA m=none:=RelO.none_of (by rw [<-l];exact r m);exact Yax I.kIn O (c.get m) k.at_ k.fn hn h
theorem Jys {y:V} {u:Value} {Q:Unit->Shared->Prop} (I:Inv X pins σ H s) (e:H a=some (.ins C dx fs)) (c:Cls X.K C) (n:NoAttr X.K C f) (hl:fs.length < 1000) (ry:RelV y u)
  (h:∀s',Inv X pins σ (upd H a (.ins C dx (Jm4 f y fs))) s'->Q () s'):wpAny (model X.prog X.w) A (setAttr (.ref a) f u) Q E s:=by
 obtain ⟨mA,O,r,wi,_,ho⟩:=Js6 I.hok e;have hz:(fs.map (·.1)).length<=sizeLine:=by rw [yf,sizeLine_eq];omega
 refine Ydr I.kIn O c.sa c.po n.taker c.hd wi hz λh' O' sb=>h _ ?_;have hd:∃o,h'.get? dx=some o:=let ⟨o,_,_,e',_⟩:=O'.ns;⟨o,e'⟩;refine I.write (x:=a) (e:=dx) (by rw [e];exact True.intro) (.inr ho) (λb q hb z=>(sb.2 b hb).trans z) hd ?_;refine ⟨by rw [Jjx O.ne];exact ho,?_,O.ne,O'.obj,_,O'.ns,λg=>?_,λg hg=>?_⟩
 ·have:=Jrq f y fs;omega
 ·show RelO ((Jm4 f y fs).lookup g) (if g=f then some u else mA g);rw [Jrs];by_cases q:g=f
  ·rw [if_pos q,if_pos q];exact ry
  ·rw [if_neg q,if_neg q];exact r g
 ·by_cases q:g=f
  ·rw [q];exact (Jr8 f y fs).1
  ·refine (Jr8 f y fs).2 g (wi g λz=>hg ?_);show (if g=f then some u else mA g)=none;rw [if_neg q];exact z
theorem Inv.made (I:Inv X pins σ H s):Inv X pins σ (upd (upd H s.heap.objs.size (.own (s.heap.objs.size+1))) (s.heap.objs.size+1) (.ins C s.heap.objs.size []))
  {s with heap:=(s.heap.push PySem.W.emptyDict).push (PySem.W.instObj C s.heap.objs.size)}:=by
 have e1:(s.heap.push PySem.W.emptyDict).get? s.heap.objs.size=some PySem.W.emptyDict:=yp s.heap rfl;have e2:((s.heap.push PySem.W.emptyDict).push (PySem.W.instObj C s.heap.objs.size)).get? (s.heap.objs.size+1)=some (PySem.W.instObj C s.heap.objs.size):=by
  have:=yp (s.heap.push PySem.W.emptyDict) (o:=PySem.W.instObj C s.heap.objs.size) rfl
  rwa [yad] at this
 have e3:(s.heap.push PySem.W.emptyDict).Ns s.heap.objs.size (λ_=>none):=⟨PySem.W.emptyDict,#[],_,e1,rfl,(λe he=>absurd he (by simp)),λ_=>rfl⟩;have I1:=I.laid (a:=s.heap.objs.size) (o:=.own (s.heap.objs.size+1)) (h':=s.heap.push PySem.W.emptyDict) (t':=s.toks) (λb u q=>yj _ q) (yi _) ⟨_,e1⟩;refine I1.laid (a:=s.heap.objs.size+1) (o:=.ins C s.heap.objs.size []) (t':=s.toks) (λb u q=>yj _ q) (ybx (yad _ _)) ?_;have ne:s.heap.objs.size≠s.heap.objs.size+1:=yr (ybh _);refine ⟨by rw [Jjx ne,Jjq],yan _,ne,e2,λ_=>none,(Heap.Ns1.of_empty e3).at λo q=>yj _ q,λ_=>True.intro,λy hy=>absurd rfl hy⟩
theorem Jz6 {prog:Program} {w:World} {env:Env} {e:Expr} {f:Str} {pos:Pos} {s:Shared} {Q:Value->Shared->Prop} (hb:attributeBase e f env (eval e env)=eval e env)
  (h:wpAny (model prog w) A (eval e env) (λo s₁=>wpAny (model prog w) A (getAttr o f true) Q E s₁) E s):wpAny (model prog w) A (eval (.Attribute e f pos) env) Q E s:=
 Attribute_any_ h (by rw [arm_eval_Attribute,hb])
end
noncomputable def tFld (K:PySem.W.Frag) (ta:TE) (f:Str):TE:=λσ H Q=>ta σ H λx H1=>∃a C dx fs v,x= .ref a/\H1 a=some (.ins C dx fs)/\Cls K C/\NoAttr K C f/\fs.lookup f=some v/\Q v H1
noncomputable def sFld (K:PySem.W.Frag) (ta tv:TE) (f:Str):TS:=λD σ H=>tv σ H λy H1=>ta σ H1 λx H2=>∃a C dx fs,x= .ref a/\H2 a=some (.ins C dx fs)/\Cls K C/\NoAttr K C f/\fs.length < 1000/\
 D.nx σ (upd H2 a (.ins C dx (Jm4 f y fs)))
section
variable {X:Cx} {o e value:Expr} {f:Str} {pos pos' tpos:Pos} {ta tv:TE}
theorem Jky (he:PE X e ta) (hb:attributeBase e f X.env (eval e X.env)=eval e X.env):PE X (.Attribute e f pos) (tFld X.K ta f):=by
 intro pins s σ H Q I h;refine Jz6 hb (thn (he pins s σ H _ I h) λu s1 zq=>?_);obtain ⟨x,H1,I1,rx,a,C,dx,fs,v,ex,ea,c,n,l,q⟩:=zq;subst ex;obtain rfl:u=Value.ref a:=rx;exact Jy2 I1 ea c n l λu' s2 I2 ru=>⟨v,H1,I2,ru,q⟩
theorem Jlx (ha:PE X o ta) (hv:PE X value tv) (hs:swapsWith value (some (.Attribute o f pos')) pos.line X.env=pure false):PS X (.Assign [.Attribute o f pos'] value pos) (sFld X.K ta tv f):=by
 intro pins s σ H D I h;refine plainObj_wpAny_Assign_Attribute (thn (hv pins s σ H _ I h) λu s1 ⟨y,H1,I1,ry,q⟩=>thn (ha pins s1 σ H1 _ I1 q) λov s2 zq=>?_) hs;obtain ⟨x,H2,I2,rx,a,C,dx,fs,ex,ea,c,n,l,q2⟩:=zq;subst ex;obtain rfl:ov=Value.ref a:=rx;exact Jys I2 ea c n l ry λs3 I3=>⟨σ,_,I3,q2⟩
end
section
variable {X:Cx} {pins:List (Addr×Obj)} {σ:St} {H:Hp} {s:Shared} {A:Around} {E:Value->Shared->Prop} {Q:Value->Shared->Prop} {c:Value} {b:Bool}
inductive Jr0 (K:PySem.W.Frag) (H:Hp):V->Value->Prop where
 |non:Jr0 K H .non (.type "NoneType")
 |bl (x:Bool):Jr0 K H (.bl x) (.type "bool")
 |int (i:Int):Jr0 K H (.int i) (.type "int")
 |str (x:Str):Jr0 K H (.str x) (.type "str")
 |flt (x:UInt64):Jr0 K H (.flt x) (.type "float")
 |lst {a:Addr} {xs:List V} (e:H a=some (.lst xs)):Jr0 K H (.ref a) (.type "list")
 |frz {a:Addr} {o:Obj} {xs:List V} (e:H a=some (.frz o (.lst xs))):Jr0 K H (.ref a) (.type "list")
 |tup {a:Addr} {xs:List V} (e:H a=some (.tup xs)):Jr0 K H (.ref a) (.type "tuple")
 |dK {a:Addr} {kvs:List (Key×V)} (e:H a=some (.dK kvs)):Jr0 K H (.ref a) (.type "dict")
 |dT {a:Addr} {kvs:List (List Key×V)} (e:H a=some (.dT kvs)):Jr0 K H (.ref a) (.type "dict")
 |ins {a C dx:Addr} {fs:List (Str×V)} (e:H a=some (.ins C dx fs)) (cl:Cls K C) (ha:PySem.W.findIn K (.ref C) "__class__" =some (some (.builtin "object.__class__")))
   (hn:PySem.W.specialIn K (.builtin "object.__class__") "__get__" =some (some (.builtin "getset_descriptor.__get__"))) (htk:PySem.W.takesIn K (.builtin "object.__class__")=some true)
   (hm:PySem.W.mroIn K C (.type "object")=some true):Jr0 K H (.ref a) (.ref C)
end
end L2
namespace L2
open PySem PySem.Spec PyProof.Rows
structure Room (k:Nat) (A:Around):Prop where
 hd:A.handled=none
 dp:A.depth+3*k+5 < recursionLimit
 un:A.units+16*k+200 < cLine
theorem Room.mono {j k:Nat} {A:Around} (r:Room k A) (h:j<=k):Room j A:=⟨r.hd,by have:=r.dp;omega,by have:=r.un;omega⟩
theorem Room.deeper {k:Nat} {A:Around} (r:Room (k+1) A) (env:Env):Room k (A.deeper env):=
 ⟨r.hd,by have:=r.dp;show A.depth+1+3*k+5 < _;omega,by have:=r.un;show A.units+3+16*k+200 < _;omega⟩
theorem Jy7 {A:Around} {C:Addr} {us:List Value} {kw:List (Str×Value)}:(A.under (.builtin "type.__call__" ⟨.ref C::us,kw⟩)).depth=A.depth+1:=by
 first|rfl|simp [Around.under,Code.weight,Code.isCreation,Code.isGuard,Code.isCaller,Code.frames,Code.isFrame,guardIds]
theorem Jy8 {A:Around} {C:Addr} {us:List Value} {kw:List (Str×Value)}:(A.under (.builtin "type.__call__" ⟨.ref C::us,kw⟩)).units=A.units+1:=by
 first|rfl|simp [Around.under,Code.cUnits,Code.frames,Code.isFrame]
theorem Room.make {k:Nat} {A:Around} (r:Room (k+1) A) (C:Addr) (us:List Value) (kw:List (Str×Value)):Room k (A.under (.builtin "type.__call__" ⟨.ref C::us,kw⟩)):=
 ⟨r.hd,by have:=r.dp;rw [Jy7];omega,by have:=r.un;rw [Jy8];omega⟩
theorem Room.depth {k:Nat} {A:Around} (r:Room k A):A.depth < recursionLimit:=by have:=r.dp;omega
theorem Room.units {k:Nat} {A:Around} (r:Room k A):A.units+64 < cLine:=by have:=r.un;omega
noncomputable def Jxo:TA:=λ_ H Q=>Q [] H
noncomputable def Jll (ta:TE) (tr:TA):TA:=λσ H Q=>ta σ H λx H1=>tr σ H1 λxs H2=>Q (x::xs) H2
section
variable {X:Cx} {e:Expr} {es:List Expr} {te:TE} {t:TA} {pos:Pos}
theorem Jjr:PA X [] Jxo:=λ_ _ _ _ H Q I h=>Calls.spliced_nil ⟨[],H,I,.nil,h⟩
theorem Jjp (ha:PE X e te) (hr:PA X es t) (hs:starEach (e::es) X.env=(false,eval e X.env)::starEach es X.env:=by rfl):PA X (e::es) (Jll te t):=by
 intro pos pins s σ H Q I h;rw [hs];show wpAny _ _ (spliced ((false,eval e X.env)::backTo pos (starEach es X.env))) _ _ s;refine Calls.spliced_cons (thn (ha pins s σ H _ I h) λu s1 zq=>?_);obtain ⟨x,H1,I1,r1,q1⟩:=zq;exact thn (hr pos pins s1 σ H1 _ I1 q1) λus s2 ⟨xs,H2,I2,r2,q2⟩=>⟨x::xs,H2,I2,.cons r1 r2,q2⟩
noncomputable def tTup (t:TA):TE:=λσ H Q=>t σ H λxs H1=>xs.length<=sizeLine/\∀p,H1 p=none->Q (.ref p) (upd H1 p (.tup xs))
noncomputable def tLst (t:TA):TE:=λσ H Q=>t σ H λxs H1=>xs.length<=sizeLine/\∀p,H1 p=none->Q (.ref p) (upd H1 p (.lst xs))
theorem Jmm {x1} (h:PA X es t):PE X (.Tuple es x1 pos) (tTup t):=by
 intro pins s σ H Q I hq;refine wpAny_Tuple_spliced (thn (h pos pins s σ H _ I hq) λus s1 ⟨xs,H1,I1,r,z,q⟩=>⟨by rw [<-r.length];exact z,?_⟩);have hf:H1 s1.heap.objs.size=none:=I1.hok.fresh (yi _);refine ⟨.ref s1.heap.objs.size,upd H1 s1.heap.objs.size (.tup xs),I1.laid (t':=s1.toks) (λb u e=>yj _ e) (yi _) ?_,rfl,q _ hf⟩;exact ⟨z,us,r,⟨_,yp _ rfl,rfl,_,rfl⟩⟩
theorem Jl4 (h:PA X es t):PE X (.List es pos) (tLst t):=by
 intro pins s σ H Q I hq;refine wpAny_List_spliced (thn (h pos pins s σ H _ I hq) λus s1 ⟨xs,H1,I1,r,z,q⟩=>⟨by rw [<-r.length];exact z,?_⟩);have hf:H1 s1.heap.objs.size=none:=I1.hok.fresh (yi _);refine ⟨.ref s1.heap.objs.size,upd H1 s1.heap.objs.size (.lst xs),I1.laid (t':=s1.toks) (λb u e=>yj _ e) (yi _) ?_,rfl,q _ hf⟩;exact ⟨z,us,0,r,yp _ rfl⟩
end
noncomputable abbrev Sp:=List V->Hp->VK->XK->Prop
noncomputable abbrev CXT:=List Env->Hp->Shared->XK->Value->Shared->Prop
structure Env0 (P:Program) (w:World) (K:PySem.W.Frag) (mg:Str->Option Value) (base:Heap) (A:Around) (outer:List Env) (s:Shared) (H:Hp):Prop where
 frames:A.frames=some outer
 mod:Mod K mg base
 bs:∀b o,base.get? b=some o->s.heap.get? b=some o/\H b=none
 bsz:base.objs.size<=s.heap.objs.size
 funs:s.heap.FunFrames base outer
 frf:∀b∈frs outer,H b=none
 hok:HOk P w H s.heap
 bare:AllBare s.gens
noncomputable def CE (outer:List Env) (P:Program) (w:World) (H:Hp) (s:Shared) (Q:VK) (u:Value) (s':Shared):Prop:=
 ∃v H',s'.os=s.os/\AllBare s'.gens/\Un (frs outer) [] H H' s.heap s'.heap/\HOk P w H' s'.heap/\RelV v u/\Q v H'
noncomputable def CR (CX:CXT) (outer:List Env) (P:Program) (w:World) (H:Hp) (s:Shared) (Q:VK) (E:XK) (r:Result) (s':Shared):Prop:=
 match r with
 | .ok (.ret u)=>CE outer P w H s Q u s'
 | .ok _=>False
 | .error e=>CX outer H s E e s'
structure FnOk (P:Program) (w:World) (K:PySem.W.Frag) (mg:Str->Option Value) (base:Heap) (CX:CXT) (k:Nat) (f:Addr) (fd:FuncData) (ps:List Str) (sp:Sp):Prop where
 len:∀vs H Q E,sp vs H Q E->vs.length=ps.length
 run:∀(A:Around) (outer:List Env) (s:Shared) (H:Hp) (args:Args) (us:List Value) (vs:List V) (Q:VK) (E:XK),Room k A->Env0 P w K mg base A outer s H->BindsTo s fd args (ps.zip us)->Vals vs us->sp vs H Q E->
  codeAny (model P w) A (.call (.ref f) args) (CR CX outer P w H s Q E) s
theorem Env0.make {P:Program} {w:World} {K:PySem.W.Frag} {mg:Str->Option Value} {base:Heap} {A:Around} {outer:List Env} {s:Shared} {H:Hp} (e:Env0 P w K mg base A outer s H) (C:Addr) (us:List Value) (kw:List (Str×Value)):
  Env0 P w K mg base (A.under (.builtin "type.__call__" ⟨.ref C::us,kw⟩)) outer s H:=⟨by first|exact e.frames|(simpa [Around.under,Code.envs,Code.isFrame,pushEnvs] using e.frames),e.mod,e.bs,e.bsz,e.funs,e.frf,e.hok,e.bare⟩
section
variable {X:Cx} {pins:List (Addr×Obj)} {σ:St} {H:Hp} {s s':Shared}
theorem Inv.env0 (I:Inv X pins σ H s):Env0 X.prog X.w X.K X.mg X.base X.A X.stack s H:=
 ⟨I.ok.frames,I.ok.mod,I.bs,yai I.ok.bsz I.sz,I.stack,I.stkFree,I.hok,I.bare⟩
theorem Inv.after {Q:VK} {u:Value} (I:Inv X pins σ H s) (h:CE X.stack X.prog X.w H s Q u s'):EP X pins σ Q u s':=by
 obtain ⟨v,H',os,bare,un,hok,r,q⟩:=h;obtain ⟨hh,g,d,t,os'⟩:=s';obtain rfl:os'=s.os:=os;exact ⟨v,H',I.call (h':=hh) (g':=g) (d':=d) (t':=t) (ch:=[]) un hok bare (λb z=>absurd z (by simp)),r,q⟩
end
noncomputable def tCall (sp:Sp) (dvs:List V) (E:XK) (t:TA):TE:=λσ H Q=>t σ H λvs H1=>sp (vs++dvs) H1 Q E
noncomputable def tMake (C:Addr) (sp:Sp) (dvs:List V) (E:XK) (t:TA):TE:=λσ H Q=>t σ H λvs H1=>∀x dx,H1 x=none->H1 dx=none->dx≠x->
 sp (.ref x::(vs++dvs)) (upd (upd H1 dx (.own x)) x (.ins C dx [])) (λv H2=>v= .non/\Q (.ref x) H2) E
noncomputable def Binds (K:PySem.W.Frag) (fd:FuncData) (ps:List Str) (ds:List Value):Prop:=
 ∀(s:Shared) (us:List Value),K.In s.heap->(us++ds).length=ps.length->BindsTo s fd ⟨us,[]⟩ (ps.zip (us++ds))
theorem Binds.all {K:PySem.W.Frag} {fd:FuncData} {ps:List Str} (h:∀us:List Value,us.length=ps.length->bindArgs fd ⟨us,[]⟩=pure (ps.zip us)):Binds K fd ps []:=λs us _ hl=>by
 rw [yaz] at hl⊢;exact .of_eq (h us hl)
noncomputable def Jsb (CX:CXT) (X:Cx) (E:XK):Prop:=∀(pins:List (Addr×Obj)) (σ:St) (H:Hp) (s:Shared) (e:Value) (s':Shared),Inv X pins σ H s->CX X.stack H s E e s'->X.xe e s'
section
variable {X:Cx} {CX:CXT} {k:Nat} {f C:Addr} {fd:FuncData} {ps:List Str} {sp:Sp} {dvs:List V} {ds:List Value} {E:XK} {x m:Str} {p pos apos:Pos} {e o:Expr} {es:List Expr} {ta:TE} {t:TA}
theorem Jyn {pins:List (Addr×Obj)} {σ:St} {H:Hp} {s:Shared} {Q:VK} {us:List Value} {vs:List V} (F:FnOk X.prog X.w X.K X.mg X.base CX k f fd ps sp) (hr:Room k X.A) (hb:Binds X.K fd ps ds) (hd:Vals dvs ds) (hx:Jsb CX X E)
  (I:Inv X pins σ H s) (r:Vals vs us) (h:sp (vs++dvs) H Q E):wpAny (model X.prog X.w) X.A (call (.ref f) us) (EP X pins σ Q) X.xe s:=by
 have r2:Vals (vs++dvs) (us++ds):=r.append hd;have hl:(us++ds).length=ps.length:=by rw [<-r2.length];exact F.len _ _ _ _ h
 refine wpAny_call (codeAny_mono (F.run X.A X.stack s H ⟨us,[]⟩ (us++ds) (vs++dvs) Q E hr I.env0 (hb s us I.kIn hl) r2 h) λr s' hq=>?_);cases r with
 |error e=>exact hx pins σ H s e s' I hq
 |ok fl=>
  cases fl with
  |ret u=>exact I.after hq
  |next=>exact False.elim hq
  |brk=>exact False.elim hq
  |cont=>exact False.elim hq
theorem Ydh (F:FnOk X.prog X.w X.K X.mg X.base CX k f fd ps sp) (hr:Room k X.A) (hg:Gl X x) (hm:X.mg x=some (.ref f)) (hk:PySem.W.keepIn X.K (.ref f)=true) (hb:Binds X.K fd ps ds) (hd:Vals dvs ds) (hx:Jsb CX X E)
  (ha:PA X (e::es) t) (hdb:(x==("__debug__" :Str))=false:=by decide) (he:starEach (e::es) X.env=(false,eval e X.env)::starEach es X.env:=by rfl) (hpl:(backTo pos (starEach es X.env)).any (·.1)=false:=by rfl):
  PE X (.Call (.Name x p) (e::es) [] pos) (tCall sp dvs E t):=by
 intro pins s σ H Q I h;refine wpAny_Call_Name_kw (Jnv I hg hm ?_ hdb);refine PySem.W.callWith_K (h₀:=X.base) I.ok.mod.kin hk (thn (ha pos pins s σ H _ I h) λus s1 ⟨vs,H1,I1,r,q⟩=>⟨I1.kIn,?_⟩) he hpl;exact Jyn F hr hb hd hx I1 r q
structure Mk (K:PySem.W.Frag) (C f:Addr):Prop where
 makes:PySem.W.makesIn K C=true
 init:PySem.W.findIn K (.ref C) "__init__" =some (some (.ref f))
 fn:PySem.W.isFn K (.ref f)=true
 kp:PySem.W.keepIn K (.ref C)=true
theorem Ybo {pins:List (Addr×Obj)} {σ:St} {H:Hp} {s:Shared} {Q:VK} {us:List Value} {vs:List V} (M:Mk X.K C f) (F:FnOk X.prog X.w X.K X.mg X.base CX k f fd ps sp) (hr:Room (k+1) X.A) (hb:Binds X.K fd ps ds) (hd:Vals dvs ds)
  (hx:Jsb CX X E) (I:Inv X pins σ H s) (r:Vals vs us)
  (h:∀x dx,H x=none->H dx=none->dx≠x->sp (.ref x::(vs++dvs)) (upd (upd H dx (.own x)) x (.ins C dx [])) (λv H2=>v= .non/\Q (.ref x) H2) E):
  wpAny (model X.prog X.w) X.A (call (.ref C) us) (EP X pins σ Q) X.xe s:=by
 have hq:=h (s.heap.objs.size+1) s.heap.objs.size (I.hok.fresh (Nat.le_succ _)) (I.hok.fresh (yi _)) (yr (ybh _));have I2:=Inv.made (C:=C) I;have r2:Vals (V.ref (s.heap.objs.size+1)::(vs++dvs)) (Value.ref (s.heap.objs.size+1)::(us++ds)):=.cons rfl (r.append hd);have hl:(Value.ref (s.heap.objs.size+1)::us++ds).length=ps.length:=by
  have e:=r2.length;rw [F.len _ _ _ _ hq] at e;exact e.symm
 refine wpAny_call (Yb5 (f:=f) I.kIn M.makes M.init (beq_iff_eq.mp M.fn) (codeAny_mono (F.run _ X.stack _ _ ⟨Value.ref (s.heap.objs.size+1)::us,[]⟩ (Value.ref (s.heap.objs.size+1)::(us++ds)) _ _ E (hr.make C us [])
  (I2.env0.make C us []) (hb _ (Value.ref (s.heap.objs.size+1)::us) I2.kIn hl) r2 hq) λr s' hq'=>?_))
 cases r with
 |error e=>exact hx pins σ _ _ e s' I2 hq'
 |ok fl=>
  cases fl with
  |ret u=>
   obtain ⟨v,H',I3,rv,ev,q3⟩:=I2.after hq';subst ev;exact ⟨rv,⟨V.ref (s.heap.objs.size+1),H',I3,rfl,q3⟩⟩
  |next=>exact False.elim hq'
  |brk=>exact False.elim hq'
  |cont=>exact False.elim hq'
theorem Jp6 (M:Mk X.K C f) (F:FnOk X.prog X.w X.K X.mg X.base CX k f fd ps sp) (hr:Room (k+1) X.A) (hg:Gl X x) (hm:X.mg x=some (.ref C)) (hb:Binds X.K fd ps ds) (hd:Vals dvs ds) (hx:Jsb CX X E)
  (ha:PA X (e::es) t) (hdb:(x==("__debug__" :Str))=false:=by decide) (he:starEach (e::es) X.env=(false,eval e X.env)::starEach es X.env:=by rfl) (hpl:(backTo pos (starEach es X.env)).any (·.1)=false:=by rfl):
  PE X (.Call (.Name x p) (e::es) [] pos) (tMake C sp dvs E t):=by
 intro pins s σ H Q I h;refine wpAny_Call_Name_kw (Jnv I hg hm ?_ hdb);refine PySem.W.callWith_K (h₀:=X.base) I.ok.mod.kin M.kp (thn (ha pos pins s σ H _ I h) λus s1 ⟨vs,H1,I1,r,q⟩=>⟨I1.kIn,?_⟩) he hpl;exact Ybo M F hr hb hd hx I1 r q
end
section
variable {X:Cx} {CX:CXT} {k:Nat} {f C:Addr} {fd:FuncData} {ps ks:List Str} {sp:Sp} {E:XK} {x m:Str} {p pos apos kpos:Pos} {e o:Expr} {es:List Expr} {kws:List Keyword} {te ta:TE} {t tk:TA} {nm:Option Str}
structure KBinds (K:PySem.W.Frag) (fd:FuncData) (ps ks:List Str) (g:List Value->List Value->List Value) (gV:List V->List V->List V):Prop where
 to:∀(s:Shared) (us ws:List Value),K.In s.heap->(g us ws).length=ps.length->BindsTo s fd ⟨us,ks.zip ws⟩ (ps.zip (g us ws))
 rel:∀{vs:List V} {us:List Value} {zs:List V} {ws:List Value},Vals vs us->Vals zs ws->Vals (gV vs zs) (g us ws)
variable {g:List Value->List Value->List Value} {gV:List V->List V->List V}
end
structure Jk0 (N P:List Str) (sc:Scope):Prop where
 kind:sc.kind= .function
 co:sc.isCoroutine=false
 gen:sc.isGenerator=false
 nd:N.Nodup
 pre:N.take P.length=P
 par:∀x∈P,sc.names.lookup x=some .local\/sc.names.lookup x=some .cell
 nofree:∀y∈sc.names,y.2≠ .free
theorem Juf {kindOf:Str->Option NameKind} {x:Str}:∀{binds:List (Str×Value)} {m:Str->Option Value},(∀v,(x,v)∉binds)->bindL kindOf binds m x=m x
 | [],_,_=>rfl
 | (n,v) :: r,m,h=>by
  unfold bindL;rw [Juf λw hw=>h w (yaf _ hw)];split
  ·have:x≠n:=by rintro rfl;exact h v yal
   simp [this]
  ·rfl
theorem Jue {kindOf:Str->Option NameKind} {x:Str}:∀{binds:List (Str×Value)} {m:Str->Option Value},(∀v,(x,v)∉binds)->bindC kindOf binds m x=m x
 | [],_,_=>rfl
 | (n,v) :: r,m,h=>by
  unfold bindC;rw [Jue λw hw=>h w (yaf _ hw)];split
  ·rfl
  ·have:x≠n:=by rintro rfl;exact h v yal
   simp [this]
theorem Jr3 {kindOf:Str->Option NameKind} {x:Str} {v:Value}:∀{P:List Str} {vs:List Value} {i:Nat} {m:Str->Option Value},P.Nodup->P[i]?=some x->vs[i]?=some v->kindOf x=some .local->
  bindL kindOf (P.zip vs) m x=some v
 | [],_,_,_,_,h,_,_=>by simp at h
 |_::_,[],_,_,_,_,h,_=>by simp at h
 |p::P,w::vs,0,m,nd,h1,h2,hk=>by
  simp at h1 h2;subst h1;subst h2;show bindL kindOf ((p,w)::P.zip vs) m p=_;unfold bindL;rw [Juf λv hv=>(yba.mp nd).1 (List.of_mem_zip hv).1,if_pos hk];simp
 |p::P,w::vs,i+1,m,nd,h1,h2,hk=>by
  show bindL kindOf ((p,w)::P.zip vs) m x=_;unfold bindL;exact Jr3 (i:=i) (yba.mp nd).2 (by simpa using h1) (by simpa using h2) hk
theorem Jr2 {kindOf:Str->Option NameKind} {x:Str} {v:Value}:∀{P:List Str} {vs:List Value} {i:Nat} {m:Str->Option Value},P.Nodup->P[i]?=some x->vs[i]?=some v->kindOf x≠some .local->
  bindC kindOf (P.zip vs) m x=some v
 | [],_,_,_,_,h,_,_=>by simp at h
 |_::_,[],_,_,_,_,h,_=>by simp at h
 |p::P,w::vs,0,m,nd,h1,h2,hk=>by
  simp at h1 h2;subst h1;subst h2;show bindC kindOf ((p,w)::P.zip vs) m p=_;unfold bindC;rw [Jue λv hv=>(yba.mp nd).1 (List.of_mem_zip hv).1,if_neg hk];simp
 |p::P,w::vs,i+1,m,nd,h1,h2,hk=>by
  show bindC kindOf ((p,w)::P.zip vs) m x=_;unfold bindC;exact Jr2 (i:=i) (yba.mp nd).2 (by simpa using h1) (by simpa using h2) hk
noncomputable def start (N:List Str) (vs:List V):St:=vs.map some++yw (N.length - vs.length) none
noncomputable def Jve (CX:CXT) (P:Program) (w:World) (K:PySem.W.Frag) (mg:Str->Option Value) (base:Heap) (N:List Str) (qual:Str) (scope:Scope) (f:Addr) (cd:Value) (A:Around) (outer:List Env) (s:Shared) (H:Hp) (E:XK):Cx where
 prog:=P
 w:=w
 K:=K
 mg:=mg
 base:=base
 A:=A.deeper (envOfC qual scope s.heap.objs.size f cd)
 N:=N
 s₀:=s
 H₀:=H
 env:=envOfC qual scope s.heap.objs.size f cd
 outer:=outer
 stack:=envOfC qual scope s.heap.objs.size f cd::outer
 ex:=[]
 calm:=true
 fn:=λ_=>true
 pn:=[]
 xe:=λe s'=>wpAny (model P w) (A.deeper (envOfC qual scope s.heap.objs.size f cd)) (leaving (envOfC qual scope s.heap.objs.size f cd) e) (λ_ s''=>CX outer H s E e s'') (λe' s''=>CX outer H s E e' s'') s'
theorem Jnl {sc:Scope} {n:Nat} {x:Str} (h:sc.names.lookup x=some .cell):∃c,(cellsFrom n sc.names []).lookup x=some c:=by
 have q:=PySem.W.cellsFrom_some sc.names n [] (.inl h);exact yca.mp q
theorem Juo {CX:CXT} {P:Program} {w:World} {K:PySem.W.Frag} {mg:Str->Option Value} {base:Heap} {N ps:List Str} {qual:Str} {scope:Scope} {f:Addr} {cd:Value} {A:Around} {outer:List Env} {s s1:Shared} {H:Hp} {E:XK} {us:List Value} {vs:List V}
  (S:Jk0 N ps scope) (hd:A.handled=none) (e0:Env0 P w K mg base A outer s H) (hl:vs.length=ps.length) (r:Vals vs us)
  (x:InCallC s s.heap.objs.size (bindL (envOfC qual scope s.heap.objs.size f cd).kindOf (ps.zip us) λ_=>none) (cellsFrom (s.heap.objs.size+1) scope.names []) (bindC (envOfC qual scope s.heap.objs.size f cd).kindOf (ps.zip us) λ_=>none) s1):
  Inv (Jve CX P w K mg base N qual scope f cd A outer s H E) [] (start N vs) H s1:=by
 have hpl:ps.length<=N.length:=by have:=congrArg List.length S.pre;rw [yaj] at this;omega
 obtain ⟨h1,tk,rfl,hk⟩:=x.done;have noA:∀b:Addr,b∉(Jve CX P w K mg base N qual scope f cd A outer s H E).ex:=λb z=>absurd (show b∈([]:List Addr) from z) (by simp);refine ⟨⟨e0.mod,S.kind,rfl,rfl,yi _,λy z c h1 h2=>?_,λy hy=>?_,λy c _ h=>?_,λ_=>hd,Around.frames_deeper e0.frames,.inr ⟨rfl,rfl⟩,λb z=>absurd z (noA b),e0.bs,e0.bsz,λb _ _=>noA b,λb z=>absurd z (noA b),e0.funs,e0.frf⟩,
  rfl,e0.bare,Un.kept hk,⟨_,x.toInCall.ns,λi y v h1 h2 h3=>?_⟩,λy c h=>⟨_,x.cell y c h⟩,e0.hok.fresh (yi _),λy c h=>?_,λp hp=>absurd (show p∈([]:List (Addr×Obj)) from hp) (by simp),e0.hok.kept hk,?_⟩
 ·exact name_of_addr x.apart (PySem.mem_of_lookup h1) (PySem.mem_of_lookup h2)
 ·have hy:scope.names.lookup y=some .cell\/scope.names.lookup y=some .free:=hy;rcases hy with hy|hy
  ·exact Jnl hy
  ·exact absurd rfl (S.nofree _ (PySem.mem_of_lookup hy))
 ·exact yaq (x.above y c (PySem.mem_of_lookup h))
 ·have hi:i < vs.length:=by
   unfold start at h2;by_cases hi:i < vs.length
   ·exact hi
   ·rw [ycb (by simpa using hi)] at h2;rw [ycr] at h2;split at h2 <;> cases h2
  have ha:vs[i]?=some v:=by
   unfold start at h2;rw [ycc (by simpa using hi),ym] at h2;cases e:vs[i]? with
   |none=>rw [e] at h2;cases h2
   |some a=>rw [e] at h2;cases h2;rfl
  obtain ⟨u,hu,rv⟩:=r.get ha;have hp:ps[i]?=some y:=by
   rw [<-S.pre,List.getElem?_take_of_lt (by omega)];exact h1
  have ndP:ps.Nodup:=by rw [<-S.pre];exact S.nd.sublist (List.take_sublist _ _)
  refine ⟨u,rv,?_⟩;rcases S.par y (yaa hp) with k|k
  ·exact .inl ⟨k,Jr3 ndP hp hu k⟩
  ·obtain ⟨c,e⟩:=Jnl (n:=s.heap.objs.size+1) k;refine .inr ⟨.inl k,c,e,?_⟩;have q:=x.cell y c e;rw [Jr2 ndP hp hu (by show scope.names.lookup y≠_;rw [k];decide)] at q;exact q
 ·exact .inl (e0.hok.fresh (yaq (x.above y c (PySem.mem_of_lookup h))))
 ·unfold start;show _=N.length;rw [yas,yf,ybs];omega
theorem fn_of {CX:CXT} {P:Program} {w:World} {K:PySem.W.Frag} {mg:Str->Option Value} {base:Heap} {k:Nat} {f:Addr} {name qual:Str} {params:Arguments} {body:List Stmt} {scope:Scope} {dV kV doc pm cdv ct oc:Value} {an od:Option Addr}
  {osl:Array (Option Value)} {N ps:List Str} {sp:Sp} (lk:K.lookup f=some ⟨oc,od,.func (PySem.W.fnOf name qual params body scope dV kV doc pm an cdv ct),osl⟩) (hcd:PySem.W.codeIn K cdv qual=true) (S:Jk0 N ps scope)
  (len:∀vs H Q E,sp vs H Q E->vs.length=ps.length)
  (hbody:∀(A:Around) (outer:List Env) (s:Shared) (H:Hp) (vs:List V) (Q:VK) (E:XK),Room k (A.deeper (envOfC qual scope s.heap.objs.size f cdv))->sp vs H Q E->
   ∃t,PSs (Jve CX P w K mg base N qual scope f cdv A outer s H E) body t/\t {nx:=λ_ H'=>Q .non H',rt:=Q} (start N vs) H):
  FnOk P w K mg base CX (k+1) f (PySem.W.fnOf name qual params body scope dV kV doc pm an cdv ct) ps sp:=by
 refine ⟨len,λA outer s H args us vs Q E hr e0 hb r hsp=>?_⟩;have hl:=len _ _ _ _ hsp;have KX:K.In s.heap:=e0.mod.kin.keeps λb o e=>(e0.bs b o e).1;have lim:s.heap.NoLimit:=e0.mod.nolimit.keeps λb o e=>(e0.bs b o e).1;have hkind:∀y∈ps.zip us,scope.names.lookup y.1=some .local\/(scope.names.lookup y.1=some .cell/\((cellsFrom (s.heap.objs.size+1) scope.names []).lookup y.1).isSome=true):=λ⟨n,v⟩ hy=>by
  rcases S.par n (List.of_mem_zip hy).1 with q|q
  ·exact .inl q
  ·exact .inr ⟨q,PySem.W.cellsFrom_some _ _ _ (.inl q)⟩
 refine codeAny_call_function hr.depth (KX _ _ lk) rfl S.co S.gen rfl (PySem.W.codeRec_of KX hcd) (hb _ _ _ _ ?_);refine wpAny_newFunctionEnv_cells S.kind hkind λenv he s1 x=>?_;subst he;refine ⟨lim.keeps x.toInCall.keep,codeAny_func ?_⟩;obtain ⟨t,ht,hq⟩:=hbody A outer s H vs Q E (hr.deeper _) hsp;have I:Inv (Jve CX P w K mg base N qual scope f cdv A outer s H E) [] (start N vs) H s1:=Juo S hr.hd e0 hl r x;refine wpAny_mono (ht [] s1 (start N vs) H _ I hq) (λfl s' hs=>?_) λe s' hs=>hs;have fin:∀{σ':St} {H':Hp} {v:V} {u:Value},Inv (Jve CX P w K mg base N qual scope f cdv A outer s H E) [] σ' H' s'->RelV v u->Q v H'->CE outer P w H s Q u s':=
  λ{σ' H' v u} J rv q=>⟨v,H',J.os,J.bare,J.base,J.hok,rv,q⟩
 cases fl with
 |ret u=>
  obtain ⟨v,σ',H',J,rv,q⟩:=hs;exact fin J rv q
 |next=>
  obtain ⟨σ',H',J,q⟩:=hs;exact fin (v:=V.non) (u:=Value.none) J rfl q
 |brk=>
  obtain ⟨_,_,_,q⟩:=hs;exact False.elim q
 |cont=>
  obtain ⟨_,_,_,q⟩:=hs;exact False.elim q
end L2
namespace L2
open PySem PySem.Spec PyProof.Rows
section
variable {X:Cx} {x:Str} {p pos:Pos} {e:Expr} {es:List Expr} {t:TA} {id T:String} {r:List V->Hp->VK->Prop}
noncomputable def tCB (r:List V->Hp->VK->Prop) (t:TA):TE:=λσ H Q=>t σ H λvs H1=>r vs H1 Q
theorem Jjz (hc:Jlv X (.builtin id) r) (hg:Gl X x) (hm:X.mg x=none) (hv:bootBuiltins x=some (.builtin id)) (ha:PA X (e::es) t) (hn:x≠"__name__" :=by decide) (hdb:(x==("__debug__" :Str))=false:=by decide)
  (he:starEach (e::es) X.env=(false,eval e X.env)::starEach es X.env:=by rfl) (hpl:(backTo pos (starEach es X.env)).any (·.1)=false:=by rfl):PE X (.Call (.Name x p) (e::es) [] pos) (tCB r t):=by
 intro pins s σ H Q I h;refine wpAny_Call_Name_kw (Joa I hg hm hv ?_ hn hdb);exact PyProof.Rows.callWith_builtin1 (thn (ha pos pins s σ H _ I h) λus s1 ⟨vs,H1,I1,r1,q1⟩=>hc pins s1 σ H1 vs us Q I1 r1 q1) he hpl
theorem Jko (hc:Jlv X (.type T) r) (hg:Gl X x) (hm:X.mg x=none) (hv:bootBuiltins x=some (.type T)) (ha:PA X (e::es) t) (hn:x≠"__name__" :=by decide) (hdb:(x==("__debug__" :Str))=false:=by decide)
  (he:starEach (e::es) X.env=(false,eval e X.env)::starEach es X.env:=by rfl) (hpl:(backTo pos (starEach es X.env)).any (·.1)=false:=by rfl):PE X (.Call (.Name x p) (e::es) [] pos) (tCB r t):=by
 intro pins s σ H Q I h;refine wpAny_Call_Name_kw (Joa I hg hm hv ?_ hn hdb);exact PyProof.Rows.callWith_type1 (thn (ha pos pins s σ H _ I h) λus s1 ⟨vs,H1,I1,r1,q1⟩=>hc pins s1 σ H1 vs us Q I1 r1 q1) he hpl
end
end L2
namespace HT
open PySem PyProof.Rows
section
open PySem.SeqAt
open PySem.AutoSeq1 (wpAny_loadPart')
open PySem.MeetsSeq PySem.MeetsSeq2 PySem.MeetsSeq3
end
section
variable {prog:Program} {w:World} {A:Around} {E:Value->Shared->Prop} {s:Shared}
noncomputable def sIx (n d:Nat):Option Int->Nat
 |none=>d
 |some v=>if v < 0 then (v+(n:Int)).toNat else min v.toNat n
theorem sIx_none (n d:Nat):sIx n d none=d:=rfl
theorem sIx_nat (n d k:Nat):sIx n d (some (k:Int))=min k n:=by
 show (if (k:Int) < 0 then ((k:Int)+(n:Int)).toNat else min (k:Int).toNat n)=min k n;rw [if_neg (by omega),ybf]
end
end HT
namespace L2
open PySem PySem.Spec PyProof.Rows
noncomputable abbrev TO:=St->Hp->(Option Int->Hp->Prop)->Prop
noncomputable def PO (X:Cx) (e:Option Expr) (t:TO):Prop:=
 ∀(pins:List (Addr×Obj)) (s:Shared) (σ:St) (H:Hp) (Q:Option Int->Hp->Prop),Inv X pins σ H s->t σ H Q->
  wpAny (model X.prog X.w) X.A (evalPart e X.env) (λu s'=>∃o H',Inv X pins σ H' s'/\IsPart u o/\Q o H') X.xe s
noncomputable def Yef:TO:=λ_ H Q=>Q none H
noncomputable def tPart (t:TE):TO:=λσ H Q=>t σ H λx H1=>∃i,x= .int i/\Q (some i) H1
section
variable {X:Cx} {e:Expr} {te:TE} {lo hi:Option Expr} {tl th:TO} {pos p2:Pos}
theorem Jqn:PO X none Yef:=by
 intro pins s σ H Q I h;rw [evalPart_none];exact wpAny_pure ⟨none,H,I,.none,h⟩
theorem Jqo (h:PE X e te):PO X (some e) (tPart te):=by
 intro pins s σ H Q I hw;rw [evalPart_some];refine thn (h pins s σ H _ I hw) λu s1 zq=>?_;obtain ⟨x,H1,I1,r1,q1⟩:=zq;obtain ⟨i,rfl,q⟩:=q1;obtain ⟨t,rfl⟩:=r1;exact ⟨some i,H1,I1,.int i t,q⟩
noncomputable def SlR (X:Cx) (r:V->Option Int->Option Int->Hp->VK->Prop):Prop:=
 ∀(pins:List (Addr×Obj)) (s:Shared) (σ:St) (H:Hp) (x:V) (v vl vu:Value) (lo hi:Option Int) (sl:Addr) (Q:VK),Inv X pins σ H s->RelV x v->s.heap.IsSliceOf sl vl vu .none->IsPart vl lo->IsPart vu hi->r x lo hi H Q->
  ∃T id,typeLookup (.type T) "__getitem__" =pure (some (.builtin id))/\s.TypeIs v T/\wpAny (model X.prog X.w) X.A (getItem v (.ref sl)) (EP X pins σ Q) X.xe s
noncomputable def tSl (r:V->Option Int->Option Int->Hp->VK->Prop) (te:TE) (tl th:TO):TE:=λσ H Q=>te σ H λx H1=>tl σ H1 λl H2=>th σ H2 λu H3=>r x l u H3 Q
theorem Jor {r:V->Option Int->Option Int->Hp->VK->Prop} (hr:SlR X r) (he:PE X e te) (hl:PO X lo tl) (hu:PO X hi th):PE X (.Subscript e (.Slice lo hi none p2) pos) (tSl r te tl th):=by
 intro pins s σ H Q I h;refine Subscript_ (thn (he pins s σ H _ I h) λv s1 zq=>?_);obtain ⟨x,H1,I1,r1,q1⟩:=zq;refine wpAny_Slice (thn (hl pins s1 σ H1 _ I1 q1) λvl s2 ⟨l,H2,I2,pl,q2⟩=>thn (hu pins s2 σ H2 _ I2 q2) λvu s3 zq=>?_);obtain ⟨u,H3,I3,pu,q3⟩:=zq;rw [evalPart_none];refine wpAny_pure ?_;have I4:Inv X pins σ H3 {s3 with heap:=s3.heap.push {cls:=.type "slice",data:=.fields #[vl,vu,.none]}}:=I3.kept (t':=s3.toks) λb ob q=>yj _ q;obtain ⟨T,id,hT,ht,hg⟩:=hr pins {s3 with heap:=s3.heap.push {cls:=.type "slice",data:=.fields #[vl,vu,.none]}} σ H3 x v vl vu l u s3.heap.objs.size Q I4 r1 (Heap.IsSliceOf.new ..) pl pu q3;show wpAny (model X.prog X.w) X.A (subscriptTail e (.Slice lo hi none p2) v (.ref s3.heap.objs.size)) (EP X pins σ Q) X.xe {s3 with heap:=s3.heap.push {cls:=.type "slice",data:=.fields #[vl,vu,.none]}};exact tail_any (ops:=[.ref s3.heap.objs.size,v]) ht hT hg (by with_unfolding_all rfl)
noncomputable def Jmf (xs:List V) (lo hi:Option Int):List V:=(xs.drop (HT.sIx xs.length 0 lo)).take (HT.sIx xs.length xs.length hi - HT.sIx xs.length 0 lo)
theorem Jwl (xs:List V) (lo hi:Option Int):(Jmf xs lo hi).length<=xs.length:=by
 unfold Jmf;rw [yaj,List.length_drop];omega
end
end L2
namespace L2
open PySem PySem.Spec PyProof.Rows
noncomputable def ixN (n:Nat) (i:Int):Option Nat:=if 0<=i then (if i < n then some i.toNat else none) else if -(n:Int)<=i then some (i+n).toNat else none
noncomputable def atI {α:Type} (xs:List α) (i:Int):Option α:=(ixN xs.length i).bind λj=>xs[j]?
theorem Jzf {n:Nat} {i:Int} {j:Nat} (h:ixN n i=some j):seqIndex? i n=some j/\j < n/\ -(n:Int)<=i/\i < n:=by
 unfold ixN at h;by_cases h0:0<=i
 ·rw [if_pos h0] at h;by_cases h1:i < n
  ·rw [if_pos h1] at h;have e:i.toNat=j:=yae.inj h;exact ⟨by rw [seqIndex_of h0 h1,e],by omega,by omega,h1⟩
  ·rw [if_neg h1] at h;cases h
 ·rw [if_neg h0] at h;by_cases h1: -(n:Int)<=i
  ·rw [if_pos h1] at h;have e:(i+n).toNat=j:=yae.inj h;exact ⟨by rw [seqIndex_neg (by omega) h1,e],by omega,h1,by omega⟩
  ·rw [if_neg h1] at h;cases h
theorem Jva {α:Type} {xs:List α} {i:Int} {v:α} (h:atI xs i=some v):∃j,seqIndex? i xs.length=some j/\xs[j]?=some v/\j < xs.length/\ -(xs.length:Int)<=i/\i < xs.length:=by
 unfold atI at h;cases e:ixN xs.length i with
 |none=>rw [e] at h;cases h
 |some j=>
  rw [e] at h;obtain ⟨h1,h2,h3,h4⟩:=Jzf e;exact ⟨j,h1,h,h2,h3,h4⟩
theorem Jl8 {α:Type} {xs:List α} {j:Nat} {v:α} (h:xs[j]?=some v):atI xs (j:Int)=some v:=by
 have hj:j < xs.length:=(yq.mp h).1;have e:ixN xs.length (j:Int)=some j:=by
  unfold ixN;rw [if_pos (by omega),if_pos (by omega)];simp
 unfold atI;rw [e];exact h
noncomputable def Ycw (b:Expr):Prop:=∀o i,subscripted b false o i=operate [o,i] (getItem o i)
noncomputable def IxR (X:Cx) (r:R2):Prop:=
 ∀(value slice:Expr) (pins:List (Addr×Obj)) (s:Shared) (σ:St) (H:Hp) (x y:V) (v u:Value) (Q:VK),Inv X pins σ H s->RelV x v->RelV y u->r x y H Q->
  subscripted slice false v u=operate [v,u] (getItem v u)->wpAny (model X.prog X.w) X.A (subscriptTail value slice v u) (EP X pins σ Q) X.xe s
noncomputable def MtR (X:Cx) (id:String) (r:V->List V->Hp->VK->Prop):Prop:=
 ∀(pins:List (Addr×Obj)) (s:Shared) (σ:St) (H:Hp) (x:V) (xs:List V) (v:Value) (us:List Value) (Q:VK),Inv X pins σ H s->RelV x v->Vals xs us->r x xs H Q->
  wpAny (model X.prog X.w) X.A (call (.builtin id) (v::us)) (EP X pins σ Q) X.xe s
section
variable {X:Cx} {a b:Expr} {ta tb:TE} {pos:Pos}
theorem Jk9 {r:R2} (hr:IxR X r) (ha:PE X a ta) (hb:PE X b tb) (hs:Ycw b):PE X (.Subscript a b pos) (tOp r ta tb):=by
 intro pins s σ H Q I h;exact Subscript_ (binT ha hb I h λv u s2 x y H2 I2 rx ry q=>hr a b pins s2 σ H2 x y v u Q I2 rx ry q (hs _ _))
noncomputable def rIxL (K:PySem.W.Frag):R2:=λx y H Q=>∃p xs i v,x= .ref p/\y= .int i/\SqL K H p xs/\atI xs i=some v/\Q v H
noncomputable def rIxT (K:PySem.W.Frag):R2:=λx y H Q=>∃p xs i v,x= .ref p/\y= .int i/\SqT K H p xs/\atI xs i=some v/\Q v H
noncomputable def rIxS:R2:=λx y H Q=>∃z i c,x= .str z/\y= .int i/\z.length<=sizeLine/\atI z.cps.toList i=some c/\Q (.str ⟨#[c]⟩) H
theorem Jki:IxR X (rIxL X.K):=by
 intro value slice pins s σ H x y v u Q I rx ry h hs;obtain ⟨p,xs,i,z,rfl,rfl,hq,he,q⟩:=h;cases rx;obtain ⟨t,rfl⟩:=ry;obtain ⟨its,r,pl,hz⟩:=I.list hq;obtain ⟨j,h1,h2,h3,h4,h5⟩:=Jva he;obtain ⟨w,ew,rw'⟩:=r.get h2;have hl:=r.length;have hn:=Jr9;have fin:EP X pins σ Q w s:=⟨z,H,I,rw',q⟩;by_cases h0:0<=i
 ·have hj:i.toNat=j:=by
   rw [seqIndex_of h0 h5] at h1;exact yae.inj h1
  exact item_listR pl.isList h0 (by omega) (by rw [hj];simpa using ew) fin hs
 ·have hj:(i+(its.toArray.size:Int)).toNat=j:=by
   rw [seqIndex_neg (by omega) h4] at h1;rw [yu,<-hl];exact yae.inj h1
  exact subscriptTail_builtinR (x:=w) pl.isList.typeIs slot_list_getitem.lookup
   (wpAny_getItem_list_neg (Q:=λr s'=>r=w/\EP X pins σ Q r s') pl.isList (by omega) (by rw [yu] <;> omega) (by omega) (by rw [hj];simpa using ew) ⟨rfl,fin⟩) hs
theorem Jku:IxR X (rIxT X.K):=by
 intro value slice pins s σ H x y v u Q I rx ry h hs;obtain ⟨p,xs,i,z,rfl,rfl,hq,he,q⟩:=h;cases rx;obtain ⟨t,rfl⟩:=ry;obtain ⟨its,r,pl,hz⟩:=I.tuple hq;obtain ⟨j,h1,h2,h3,h4,h5⟩:=Jva he;obtain ⟨w,ew,rw'⟩:=r.get h2;have hl:=r.length;have hn:=Jr9;have fin:EP X pins σ Q w s:=⟨z,H,I,rw',q⟩;exact subscriptTail_builtinR (x:=w) pl.typeIs slot_tuple_getitem.lookup
  (getItem_tuple (j:=j) (Q:=λr s'=>r=w/\EP X pins σ Q r s') pl (by omega) (by omega) (by rw [yu,<-hl];exact h1) (by simpa using ew) ⟨rfl,fin⟩) hs
theorem ix_str:IxR X rIxS:=by
 intro value slice pins s σ H x y v u Q I rx ry h hs;obtain ⟨z,i,c,rfl,rfl,hz,he,q⟩:=h;obtain ⟨t,rfl⟩:=rx;obtain ⟨t',rfl⟩:=ry;obtain ⟨j,h1,h2,h3,h4,h5⟩:=Jva he;have hl:z.cps.toList.length=z.length:=by simp [Str.length]
 rw [hl] at h1 h4 h5;have hn:=Jr9;exact tail_any (typeIs_str s z t) slot_str_getitem.lookup (getItem_str (c:=c) (by
  have e1:decide (i < -(2^63:Int))=false:=decide_eq_false (by omega);have e2:decide (i≥2^63)=false:=decide_eq_false (by omega);rw [e1,e2,Bool.or_false]) (by rw [h1];simpa using h2) ⟨.str ⟨#[c]⟩,H,I.tok _,⟨_,rfl⟩,q⟩) hs
theorem Jy9 (its:List Value) (n j:Nat) (u:Value):Obj.mapSeq (·.setIfInBounds j u) {cls:=.type "list",data:=.seq its.toArray n}={cls:=.type "list",data:=.seq (its.set j u).toArray n}:=by
 simp [Obj.mapSeq]
theorem Inv.lst {pins:List (Addr×Obj)} {σ:St} {H:Hp} {s:Shared} {p:Addr} {xs:List V} (I:Inv X pins σ H s) (h:H p=some (.lst xs)):
  ∃(its:List Value) (n:Nat),Vals xs its/\s.heap.get? p=some {cls:=.type "list",data:=.seq its.toArray n}/\xs.length<=sizeLine:=by
 obtain ⟨z,its,n,r,e⟩:=I.hok p _ h;exact ⟨its,n,r,e,z⟩
theorem Inv.lstUpd {pins:List (Addr×Obj)} {σ:St} {H:Hp} {s:Shared} {p:Addr} {xs ys:List V} {its its':List Value} {n n':Nat} {f:Obj->Obj} (I:Inv X pins σ H s) (h:H p=some (.lst xs))
  (ho:s.heap.get? p=some {cls:=.type "list",data:=.seq its.toArray n}) (hf:f {cls:=.type "list",data:=.seq its.toArray n}={cls:=.type "list",data:=.seq its'.toArray n'}) (r:Vals ys its') (hz:ys.length<=sizeLine) (t:Nat):
  Inv X pins σ (upd H p (.lst ys)) {s with heap:=s.heap.update p f,toks:=t}:=by
 have e:(s.heap.update p f).get? p=some {cls:=.type "list",data:=.seq its'.toArray n'}:=by
  rw [ybj f ho (by rw [hf] <;> rfl),hf]
 refine I.write (x:=p) (e:=p) (by rw [h];trivial) (.inl rfl) (λb u hb q=>(ybc _ _ (yk hb)).trans q) ⟨_,e⟩ ?_;exact ⟨hz,its',n',r,e⟩
noncomputable def rSetL:V->V->V->Hp->(Hp->Prop)->Prop:=λo i v H Q=>∃p xs k j,o= .ref p/\i= .int k/\H p=some (.lst xs)/\ixN xs.length k=some j/\Q (upd H p (.lst (xs.set j v)))
theorem Jqu:PSet X rSetL:=by
 intro pins s σ H o i v ov iv u Q I ro ri rv h;obtain ⟨p,xs,k,j,rfl,rfl,hp,hj,q⟩:=h;cases ro;obtain ⟨t,rfl⟩:=ri;obtain ⟨its,n,r,ho,hz⟩:=I.lst hp;obtain ⟨h1,h2,h3,h4⟩:=Jzf hj;have hl:=r.length;have hn:=Jr9;have I':Inv X pins σ (upd H p (.lst (xs.set j v))) {s with heap:=s.heap.update p (Obj.mapSeq (·.setIfInBounds j u))}:=
  I.lstUpd hp ho (Jy9 its n j u) (r.set rv j) (by rw [List.length_set];exact hz) s.toks
 by_cases h0:0<=k
 ·have hk:k.toNat=j:=by
   rw [seqIndex_of h0 h4] at h1;exact yae.inj h1
  exact PySem.W.ki_setAt ho h0 (by omega) (by rw [yu,<-hl];exact h4) (by rw [hk];exact ⟨_,I',q⟩)
 ·have hk:(k+(its.toArray.size:Int)).toNat=j:=by
   rw [seqIndex_neg (by omega) h3] at h1;rw [yu,<-hl];exact yae.inj h1
  exact PySem.W.ki_setBack ho (by omega) (by rw [yu,<-hl];exact h3) (by omega) (by rw [hk];exact ⟨_,I',q⟩)
theorem Jw6 (lo hi:Option Int) (n:Nat):(sliceBounds lo hi none n).1=((HT.sIx n 0 lo:Nat):Int)/\(sliceBounds lo hi none n).2.1=((HT.sIx n n hi:Nat):Int)/\(sliceBounds lo hi none n).2.2=1:=by
 refine ⟨?_,?_,rfl⟩
 ·cases lo with
  |none=>simp [sliceBounds,HT.sIx]
  |some i=>
   simp only [sliceBounds,HT.sIx,Option.getD_none,show (1:Int) > 0 by decide,if_true];by_cases h:i < 0
   ·simp only [h,if_true] <;> omega
   ·simp only [h,if_false] <;> omega
 ·cases hi with
  |none=>simp [sliceBounds,HT.sIx]
  |some i=>
   simp only [sliceBounds,HT.sIx,Option.getD_none,show (1:Int) > 0 by decide,if_true];by_cases h:i < 0
   ·simp only [h,if_true] <;> omega
   ·simp only [h,if_false] <;> omega
theorem Juc (its:List Value) (lo hi:Option Int):slicePick its.toArray lo hi none=((its.drop (HT.sIx its.length 0 lo)).take (HT.sIx its.length its.length hi - HT.sIx its.length 0 lo)).toArray:=by
 obtain ⟨h1,h2,h3⟩:=Jw6 lo hi its.toArray.size;unfold slicePick;rw [h1,h2,h3];simp only [sliceRange_one,pick_run,yu] <;> rfl
noncomputable def rSlL (K:PySem.W.Frag):V->Option Int->Option Int->Hp->VK->Prop:=λx lo hi H Q=>∃a xs,x= .ref a/\SqL K H a xs/\∀p,H p=none->Q (.ref p) (upd H p (.lst (Jmf xs lo hi)))
theorem Jqv:SlR X (rSlL X.K):=by
 intro pins s σ H x v vl vu lo hi sl Q I rx hs pl pu h;obtain ⟨a,xs,rfl,hx,q⟩:=h;cases rx;obtain ⟨its,r,ht,hz⟩:=I.list hx;have hlen:=r.length;refine ⟨"list",_,slot_list_getitem.lookup,ht.isList.typeIs,?_⟩;refine wpAny_getItem_list_slice ht.isList hs pl pu .none (by simp) ?_ (by rw [yu] <;> omega);rw [Juc,<-hlen];refine ⟨.ref s.heap.objs.size,_,I.laid (t':=s.toks) (o:=.lst (Jmf xs lo hi)) (λb ob q=>yj _ q) (yi _) ?_,rfl,q _ (I.hok.fresh (yi _))⟩;exact ⟨yai (Jwl xs lo hi) hz,_,0,(r.drop (HT.sIx xs.length 0 lo)).take (HT.sIx xs.length xs.length hi - HT.sIx xs.length 0 lo),yp _ rfl⟩
noncomputable def Jpl:V->Bool
 | .non=>true
 | .bl _=>true
 | .int _=>true
 | .str _=>true
 |_=>false
noncomputable def eqV:V->V->Bool
 | .non,.non=>true
 | .bl a,.bl b=>a==b
 | .bl a,.int b=>(if a then 1 else 0)==b
 | .int a,.bl b=>a==(if b then 1 else 0)
 | .int a,.int b=>a==b
 | .str a,.str b=>a==b
 |_,_=>false
theorem eqAt_V {A:Around} {s:Shared} {y x:V} {u v:Value} (ry:RelV y u) (rx:RelV x v) (fy:Jpl y=true) (fx:Jpl x=true):SeqAt.EqAt A s u v (eqV y x):=by
 cases y with
 |non=>
  cases ry;cases x with
  |non=>cases rx;exact SeqAt.EqAt.same _
  |bl b=>cases rx;exact SeqAt.EqAt.none_bool b
  |int b=>obtain ⟨t,rfl⟩:=rx;exact SeqAt.EqAt.none_int b t
  |str b=>obtain ⟨t,rfl⟩:=rx;exact SeqAt.EqAt.none_str b t
  |_=>exact absurd (show false=true from fx) yab
 |bl a=>
  cases ry;cases x with
  |non=>cases rx;exact SeqAt.EqAt.bool_none a
  |bl b=>cases rx;exact SeqAt.EqAt.bool_bool a b
  |int b=>obtain ⟨t,rfl⟩:=rx;exact SeqAt.EqAt.bool_int a b t
  |str b=>obtain ⟨t,rfl⟩:=rx;exact SeqAt.EqAt.bool_str a b t
  |_=>exact absurd (show false=true from fx) yab
 |int a=>
  obtain ⟨t',rfl⟩:=ry;cases x with
  |non=>cases rx;exact SeqAt.EqAt.int_none a t'
  |bl b=>cases rx;exact SeqAt.EqAt.int_bool a t' b
  |int b=>obtain ⟨t,rfl⟩:=rx;exact SeqAt.EqAt.int_int a t' b t
  |str b=>obtain ⟨t,rfl⟩:=rx;exact SeqAt.EqAt.int_str a t' b t
  |_=>exact absurd (show false=true from fx) yab
 |str a=>
  obtain ⟨t',rfl⟩:=ry;cases x with
  |non=>cases rx;exact SeqAt.EqAt.str_none a t'
  |bl b=>cases rx;exact SeqAt.EqAt.str_bool a t' b
  |int b=>obtain ⟨t,rfl⟩:=rx;exact SeqAt.EqAt.str_int a t' b t
  |str b=>obtain ⟨t,rfl⟩:=rx;exact SeqAt.EqAt.str_str a t' b t
  |_=>exact absurd (show false=true from fx) yab
 |_=>exact absurd (show false=true from fy) yab
noncomputable def eqU (x:V) (u:Value):Bool:=match u with
 | .none=>eqV .non x
 | .bool b=>eqV (.bl b) x
 | .int i _=>eqV (.int i) x
 | .str z _=>eqV (.str z) x
 |_=>false
theorem Yat {x y:V} {u:Value} (r:RelV y u) (f:Jpl y=true):eqU x u=eqV y x:=by
 cases y with
 |non=>cases r;rfl
 |bl b=>cases r;rfl
 |int i=>obtain ⟨t,rfl⟩:=r;rfl
 |str z=>obtain ⟨t,rfl⟩:=r;rfl
 |_=>exact absurd (show false=true from f) yab
theorem Jqh {x:V}:∀{xs:List V} {us:List Value},Vals xs us->xs.all Jpl=true->us.any (eqU x)=xs.any λy=>eqV y x
 |_,_,.nil,_=>rfl
 |y::xs,u::us,.cons r t,f=>by
  rw [List.all_cons,yag] at f;rw [List.any_cons,List.any_cons,Yat r f.1,Jqh t f.2]
theorem Jod {A:Around} {s:Shared} {x:V} {v:Value} (rx:RelV x v) (fx:Jpl x=true):∀{xs:List V} {us:List Value},Vals xs us->xs.all Jpl=true->∀u∈us,SeqAt.EqAt A s u v (eqU x u)
 |_,_,.nil,_=>λu hu=>by cases hu
 |y::xs,u::us,.cons r t,f=>λu' hu=>by
  rw [List.all_cons,yag] at f;rcases yo.mp hu with rfl|hu
  ·rw [Yat r f.1];exact eqAt_V r rx f.1 fx
  ·exact Jod rx fx t f.2 u' hu
noncomputable def inV (x:V) (xs:List V):Bool:=xs.any λy=>eqV y x
noncomputable def rIn (K:PySem.W.Frag) (neg:Bool):R2:=λx y H Q=>∃p xs,y= .ref p/\(SqL K H p xs\/SqT K H p xs)/\Jpl x=true/\xs.all Jpl=true/\Q (.bl (if neg then !inV x xs else inV x xs)) H
theorem Yk:OpR X (compareOp .In) (rIn X.K false):=by
 intro pins s σ H x y v u Q I rx ry h;obtain ⟨p,xs,rfl,hq,fx,fs,q⟩:=h;cases ry;rcases hq with hq|hq
 ·obtain ⟨its,r,pl,hz⟩:=I.list hq;refine SeqAt.in_listAt (eqU x) pl.isList (λw hw=>Jod rx fx r fs w (by simpa using hw)) ⟨.bl _,H,I,rfl,?_⟩;rw [show its.toArray.any (eqU x)=its.any (eqU x) by simp,Jqh r fs];exact q
 ·obtain ⟨its,r,pl,hz⟩:=I.tuple hq;refine SeqAt.in_tupleAt (eqU x) pl (λw hw=>Jod rx fx r fs w (by simpa using hw)) ⟨.bl _,H,I,rfl,?_⟩;rw [show its.toArray.any (eqU x)=its.any (eqU x) by simp,Jqh r fs];exact q
theorem Jvx:OpR X (compareOp .NotIn) (rIn X.K true):=by
 intro pins s σ H x y v u Q I rx ry h;obtain ⟨p,xs,rfl,hq,fx,fs,q⟩:=h;cases ry;rcases hq with hq|hq
 ·obtain ⟨its,r,pl,hz⟩:=I.list hq;refine SeqAt.notIn_listAt (eqU x) pl.isList (λw hw=>Jod rx fx r fs w (by simpa using hw)) ⟨.bl _,H,I,rfl,?_⟩;rw [show its.toArray.any (eqU x)=its.any (eqU x) by simp,Jqh r fs];exact q
 ·obtain ⟨its,r,pl,hz⟩:=I.tuple hq;refine SeqAt.notIn_tupleAt (eqU x) pl (λw hw=>Jod rx fx r fs w (by simpa using hw)) ⟨.bl _,H,I,rfl,?_⟩;rw [show its.toArray.any (eqU x)=its.any (eqU x) by simp,Jqh r fs];exact q
theorem Jk4:Jlv X (.builtin "len") (λxs H Q=>∃p ys,xs= [.ref p]/\(SqL X.K H p ys\/SqT X.K H p ys)/\Q (.int ys.length) H):=by
 intro pins s σ H xs us Q I r h;obtain ⟨p,ys,rfl,hq,q⟩:=h;obtain ⟨u,rfl,rx⟩:=Jms r;cases rx;have hn:=Jr9;rcases hq with hq|hq
 ·obtain ⟨its,r',pl,hz⟩:=I.list hq;have hlen:=r'.length;exact Calls.call_len_list pl.isList (by simp only [yu] <;> omega) ⟨.int ys.length,H,I.tok _,⟨s.toks+1,by rw [yu,hlen]⟩,q⟩
 ·obtain ⟨its,r',pl,hz⟩:=I.tuple hq;have hlen:=r'.length;exact len_tuple pl (by simp only [yu] <;> omega) ⟨.int ys.length,H,I.tok _,⟨s.toks+1,by rw [yu,hlen]⟩,q⟩
theorem Jvb:Jlv X (.builtin "len") (λxs H Q=>∃z,xs= [.str z]/\z.length<=sizeLine/\Q (.int z.length) H):=by
 intro pins s σ H xs us Q I r h;obtain ⟨z,rfl,hz,q⟩:=h;obtain ⟨u,rfl,t,rfl⟩:=Jms r;have hn:=Jr9;exact len_str (by omega) ⟨.int z.length,H,I.tok _,⟨_,rfl⟩,q⟩
theorem Jl5:Jlv X (.type "tuple") (λxs H Q=>∃p ys,xs= [.ref p]/\((SqL X.K H p ys/\∀l,H l=none->Q (.ref l) (upd H l (.tup ys)))\/(SqT X.K H p ys/\Q (.ref p) H))):=by
 intro pins s σ H xs us Q I r h;obtain ⟨p,ys,rfl,h⟩:=h;obtain ⟨u,rfl,rx⟩:=Jms r;cases rx;rcases h with ⟨hq,q⟩|⟨hq,q⟩
 ·obtain ⟨its,r',pl,hz⟩:=I.list hq;have hlen:=r'.length;refine call_tuple_list pl.isList (λh' kp=>?_) (by simp only [yu] <;> omega);have I1:Inv X pins σ H {s with heap:=h'}:=I.kept (t':=s.toks) kp;have I2:Inv X pins σ (upd H h'.objs.size (.tup ys)) {s with heap:=h'.push {cls:=.type "tuple",data:=.seq its.toArray}}:=
   I1.laid (t':=s.toks) (λb o e=>yj _ e) (yi _) (show ObjOk X.prog X.w _ _ _ (.tup ys) from ⟨hz,its,r',IsTup.new _ _⟩)
  exact ⟨.ref h'.objs.size,_,I2,rfl,q _ (I1.hok.fresh (yi _))⟩
 ·obtain ⟨its,r',pl,hz⟩:=I.tuple hq;exact call_tuple_same pl ⟨.ref p,H,I,rfl,q⟩
noncomputable def tyV (K:PySem.W.Frag) (T:String) (x:V) (H:Hp):Prop:=match x with
 | .str _=>T="str"
 | .int _=>T="int"
 | .ref p=>(T="list" /\∃xs,SqL K H p xs)\/(T="tuple" /\∃o,K.lookup p=some o/\o.cls= .type "tuple" /\o.dict=none)\/
   (T="dict" /\((∃kvs,H p=some (.dK kvs))\/∃kvs,H p=some (.dT kvs)))\/(T="set" /\∃S n,H p=some (.set S n))
 |_=>False
theorem tyV_is {pins:List (Addr×Obj)} {σ:St} {H:Hp} {s:Shared} {T:String} {x:V} {v:Value} (I:Inv X pins σ H s) (r:RelV x v) (ty:tyV X.K T x H):
  s.TypeIs v T/\∀a,v= .ref a->∃ob,s.heap.get? a=some ob/\ob.dict=none:=by
 cases x with
 |str z=>
  obtain ⟨t,rfl⟩:=r;cases (show T="str" from ty);exact ⟨typeIs_str s z t,λ_ e=>nomatch e⟩
 |int i=>
  obtain ⟨t,rfl⟩:=r;cases (show T="int" from ty);exact ⟨typeIs_int s i t,λ_ e=>nomatch e⟩
 |ref p=>
  cases r;rcases ty with ⟨rfl,xs,hq⟩|⟨rfl,o,hk,hc,hd⟩|⟨rfl,hk⟩|⟨rfl,S,n,hk⟩
  ·obtain ⟨its,_,pl,_⟩:=I.list hq;refine ⟨pl.isList.typeIs,λa e=>?_⟩;cases e;obtain ⟨o,n,e,c,hd,_⟩:=pl;exact ⟨o,e,hd⟩
  ·refine ⟨⟨o,I.kIn p o hk,hc⟩,λa e=>?_⟩;cases e;exact ⟨o,I.kIn _ o hk,hd⟩
  ·have z:∃o,s.heap.get? p=some o/\o.ExactDict:=by
    rcases hk with ⟨kvs,hk⟩|⟨kvs,hk⟩
    ·obtain ⟨_,_,_,_,o,_,_,e,ex,_⟩:=I.hok p _ hk;exact ⟨o,e,ex⟩
    ·obtain ⟨_,_,_,_,o,_,_,e,ex,_⟩:=I.hok p _ hk;exact ⟨o,e,ex⟩
   obtain ⟨o,e,ex⟩:=z;refine ⟨⟨o,e,ex.1⟩,λa e2=>?_⟩;cases e2;exact ⟨o,e,ex.2.1⟩
  ·obtain ⟨o,_,_,_,e,ex,_⟩:=I.hok p _ hk;refine ⟨⟨o,e,ex.1⟩,λa e2=>?_⟩;cases e2;exact ⟨o,e,ex.2.1⟩
 |_=>exact False.elim ty
noncomputable def tBM (K:PySem.W.Frag) (T:String) (r:V->List V->Hp->VK->Prop) (to:TE) (t:TA):TE:=λσ H Q=>to σ H λx H1=>tyV K T x H1/\t σ H1 λxs H2=>r x xs H2 Q
variable {o e:Expr} {es:List Expr} {to:TE} {t:TA} {name:Str} {apos cpos:Pos} {T id:String} {r:V->List V->Hp->VK->Prop}
theorem Juz (pa:PlainAttrs T) (slot:Slot T name id) (hty:typeOf (.builtin id)=pure (.type "method_descriptor")) (hm:MtR X id r) (ho:PE X o to) (ha:PA X (e::es) t)
  (hbase:attributeBase o name X.env (eval o X.env)=eval o X.env:=by rfl)
  (hfew:((backTo cpos (starEach (e::es) X.env)).all (λx=>!x.1)&&(backToKw cpos (keywordEach [] X.env)).all (λx=>x.1.isSome)
   &&decide ((e::es).length+([]:List Keyword).length+(if ([]:List Keyword).isEmpty then 0 else 1) < 30))=true:=by rfl)
  (hline:(apos.endLine==cpos.line)=true:=by rfl) (hs:starEach (e::es) X.env=(false,eval e X.env)::starEach es X.env:=by rfl) (hplain:(backTo cpos (starEach es X.env)).any (·.1)=false:=by rfl):
  PE X (.Call (.Attribute o name apos) (e::es) [] cpos) (tBM X.K T r to t):=by
 intro pins s σ H Q I h;refine wpAny_Call_method_late hbase hfew hline rfl (thn (ho pins s σ H _ I h) λv s1 zq=>?_);obtain ⟨x,H1,I1,r1,ty,q1⟩:=zq;obtain ⟨h1,h2⟩:=tyV_is I1 r1 ty;refine ⟨T,id,pa,slot,hty,h1,h2,?_⟩;have hA:=ha cpos pins s1 σ H1 _ I1 q1;rw [hs] at hA⊢;refine Calls.callWith_builtin (by show (false||(backTo cpos (starEach es X.env)).any (·.1))=false;rw [hplain] <;> rfl) (Calls.evalArgs_plain ?_);exact thn hA λus s2 ⟨vs,H2,I2,r2,q2⟩=>hm pins s2 σ H2 x vs v us Q I2 r1 r2 q2
end
end L2
namespace L2
open PySem PySem.Spec PyProof.Rows
noncomputable def MtM (X:Cx) (id:String) (r:V->List V->Hp->VK->Prop):Prop:=
 ∀(pins:List (Addr×Obj)) (s:Shared) (σ:St) (H:Hp) (x:V) (xs:List V) (v:Value) (us:List Value) (Q:VK),Inv X pins σ H s->RelV x v->Vals xs us->r x xs H Q->
  wpAny (model X.prog X.w) X.A (call (.builtin id) (v::us)) (EP X pins σ Q) X.xe s
theorem Vals.one:∀{x:V} {us:List Value},Vals [x] us->∃u,us= [u]/\RelV x u
 |_,_,.cons r .nil=>⟨_,rfl,r⟩
theorem Vals.rep {xs:List V} {us:List Value} (h:Vals xs us):∀k:Nat,Vals (yw k xs).flatten (yw k us).flatten
 |0=>.nil
 |k+1=>by
  rw [ybt,ybt,yck,yck];exact Vals.append h (Vals.rep h k)
theorem Juk (its:List Value):∀(k:Nat) (acc:List Value),
  List.foldl (λx1 x2=>x1++x2) acc.toArray (yw k its.toArray)=(acc++(yw k its).flatten).toArray
 |0,acc=>by simp
 |k+1,acc=>by
  have e:acc.toArray++its.toArray=(acc++its).toArray:=by simp
  have e2:(acc++its)++(yw k its).flatten=acc++(yw (k+1) its).flatten:=by
   rw [ybt,yck,ycl]
  rw [<-e2,<-Juk its k (acc++its),<-e,ybt,List.foldl_cons]
section
variable {X:Cx} {pins:List (Addr×Obj)} {σ:St} {H:Hp} {s:Shared} {l b:Addr} {xs ys zs:List V}
theorem Inv.lset {its its':List Value} {n:Nat} {f:Array Value->Array Value} {t':Nat} (I:Inv X pins σ H s) (hH:H l=some (.lst xs))
  (e:s.heap.get? l=some {cls:=.type "list",data:=.seq its.toArray n}) (hf:f its.toArray=its'.toArray) (hv:Vals ys its') (hz:ys.length<=sizeLine):
  Inv X pins σ (upd H l (.lst ys)) {s with heap:=s.heap.update l (Obj.mapSeq f),toks:=t'}:=by
 have q:=PySem.IsL.update e f;rw [hf] at q;refine I.write (x:=l) (e:=l) (by rw [hH];exact trivial) (.inl rfl) (λb' u hb hu=>(ybc s.heap (Obj.mapSeq f) (yk hb)).trans hu) ⟨_,q⟩ ?_;exact ⟨hz,its',_,hv,q⟩
theorem Inv.lnew {its:List Value} {t':Nat} (I:Inv X pins σ H s) (hv:Vals ys its) (hz:ys.length<=sizeLine):
  Inv X pins σ (upd H s.heap.objs.size (.lst ys)) {s with heap:=s.heap.push {cls:=.type "list",data:=.seq its.toArray},toks:=t'}:=
 I.laid (λ_ _ q=>yj _ q) (yi _) ⟨hz,its,0,hv,yp _ rfl⟩
theorem Inv.fresh (I:Inv X pins σ H s):H s.heap.objs.size=none:=I.hok.fresh (yi _)
theorem Inv.lstM (I:Inv X pins σ H s) (hH:H l=some (.lst xs)):xs.length<=sizeLine/\∃(its:List Value) (n:Nat),Vals xs its/\xs.length=its.length/\s.heap.get? l=some {cls:=.type "list",data:=.seq its.toArray n}:=by
 obtain ⟨z,its,n,r,e⟩:=I.hok l _ hH;exact ⟨z,its,n,r,r.length,e⟩
theorem Yb7 {n:Nat} (h:n<=sizeLine):Builtin.List.listTooLong n=false:=by
 unfold Builtin.List.listTooLong;exact decide_eq_false (by omega)
end
section
variable {X:Cx}
noncomputable def Ydl:V->List V->Hp->VK->Prop:=λx vs H Q=>∃l xs y,x= .ref l/\vs= [y]/\H l=some (.lst xs)/\xs.length < sizeLine/\Q .non (upd H l (.lst (xs++ [y])))
theorem Jmk:MtM X "list.append" Ydl:=by
 intro pins s σ H x vs v us Q I rx rv h;obtain ⟨l,xs,y,rfl,rfl,hH,hz,q⟩:=h;cases rx;obtain ⟨u,rfl,ru⟩:=rv.one;obtain ⟨z,its,n,r,hl,e⟩:=I.lstM hH;refine call_meets F.slot_list_append ⟨_,e,rfl⟩ F.entry_list_append (F.args_list_append_2 _ _) (PySem.list_append l its.toArray n u (by rw [yu];omega)) ⟨e,?_⟩;refine ⟨.non,_,I.lset (its':=its++ [u]) hH e (by simp) (r.append (.cons ru .nil)) ?_,rfl,q⟩;rw [yas,List.length_singleton];omega
noncomputable def rCat:R2:=λx y H Q=>∃l b xs zs,x= .ref l/\y= .ref b/\H l=some (.lst xs)/\H b=some (.lst zs)/\xs.length+zs.length<=sizeLine/\∀p,H p=none->Q (.ref p) (upd H p (.lst (xs++zs)))
theorem Jrg:OpR X (binaryOp .Add) rCat:=by
 intro pins s σ H x y v u Q I rx ry h;obtain ⟨l,b,xs,zs,rfl,rfl,hH,hB,hz,q⟩:=h;cases rx;cases ry;obtain ⟨z,its,n,r,hl,e⟩:=I.lstM hH;obtain ⟨z2,its2,n2,r2,hl2,e2⟩:=I.lstM hB;refine PySem.P.add_list e e2 ?_ (by rw [yu,yu];omega);have ea:its.toArray++its2.toArray=(its++its2).toArray:=by simp
 rw [ea];exact ⟨.ref _,_,I.lnew (t':=s.toks) (r.append r2) (by rw [yas];omega),rfl,q _ I.fresh⟩
noncomputable def rRep:R2:=λx y H Q=>∃l k xs,x= .ref l/\y= .int k/\H l=some (.lst xs)/\ -(2^63)<=k/\k < 2^63/\xs.length*k.toNat<=sizeLine/\
 ∀p,H p=none->Q (.ref p) (upd H p (.lst (yw k.toNat xs).flatten))
theorem Yda {α:Type} (xs:List α) (k:Nat):(yw k xs).flatten.length=k*xs.length:=by
 induction k with
 |zero=>simp
 |succ k ih=>rw [ybt,yck,yas,ih,Nat.succ_mul,Nat.add_comm]
theorem op_rep:OpR X (binaryOp .Mult) rRep:=by
 intro pins s σ H x y v u Q I rx ry h;obtain ⟨l,k,xs,rfl,rfl,hH,h1,h2,hz,q⟩:=h;cases rx;obtain ⟨t,rfl⟩:=ry;obtain ⟨z,its,n,r,hl,e⟩:=I.lstM hH;have hlen:its.toArray.size*k.toNat<=sizeLine:=by rw [yu,<-hl];exact hz
 have hcap:¬its.toArray.size*k.toNat > (2^63 - 1)/8:=by
  have:(sizeLine:Nat)<=(2^63 - 1)/8:=by decide
  omega
 have hfit:¬(!Builtin.List.listFitsIndex k)=true:=by
  rw [fitsIndex_both h1 h2];exact yab
 have hlong:¬Builtin.List.listTooLong (its.toArray.size*k.toNat)=true:=by
  rw [Yb7 hlen];exact yab
 have hnew:List.foldl (λx1 x2=>x1++x2) #[] (yw (if its.toArray.isEmpty=true then 0 else k.toNat) its.toArray)=(yw k.toNat its).flatten.toArray:=by
  have f0:∀m:Nat,List.foldl (λx1 x2=>x1++x2) #[] (yw m its.toArray)=(yw m its).flatten.toArray:=λm=>by
   have:=Juk its m [];rw [List.nil_append] at this;exact this
  rw [f0];cases its with
  |nil=>simp
  |cons a r'=>rw [if_neg (by simp)]
 refine wpAny_binaryOp_repeat_ref (T:="list") (U:="int") (by decide) ⟨_,e,rfl⟩ (λs'=>typeIs_int s' k t) noFill_list_mul F.fills_int_mul F.slot_int_rmul repeat_list F.slot_int_index.lookup
  (call_meets F.slot_int_rmul (typeIs_int s k t) F.entry_int_rmul (F.args_int_rmul_2 _ _) (int___rmul___int_list k t l its.toArray n)
   ⟨e,rfl,⟨_,e,rfl⟩,call_meets F.slot_list_mul ⟨_,e,rfl⟩ F.entry_list_mul (F.args_list_mul_2 _ _) (AutoListH.list___mul___list_int_3 l its.toArray n k t hfit hcap hlong) ⟨e,?_⟩⟩)
 rw [hnew];exact ⟨.ref _,_,I.lnew (t':=s.toks) (r.rep k.toNat) (by rw [Yda,Nat.mul_comm];exact hz),rfl,q _ I.fresh⟩
end
section
variable {prog:Program} {w:World} {A:Around} {E:Value->Shared->Prop} {s:Shared}
end
section
variable {X:Cx}
end
end L2
namespace L2
open PySem PySem.Spec PyProof.Rows
section
variable {κ:Type} [DecidableEq κ]
noncomputable def Jrm (kvs:List (κ×V)) (k:κ):Option V:=(kvs.find? λkv=>decide (kv.1=k)).map (·.2)
theorem Jtn {p:κ×V} {r:List (κ×V)} {k:κ} (e:p.1=k):Jrm (p::r) k=some p.2:=by simp [Jrm,ycd,e]
theorem Jtm {p:κ×V} {r:List (κ×V)} {k:κ} (e:¬p.1=k):Jrm (p::r) k=Jrm r k:=by simp [Jrm,ycd,e]
theorem RelO.isSome_eq {o:Option V} {u:Option Value} (r:RelO o u):o.isSome=u.isSome:=by
 cases o with
 |none=>cases u with
  |none=>rfl
  |some _=>exact (show False from r).elim
 |some _=>cases u with
  |none=>exact (show False from r).elim
  |some _=>rfl
theorem KV.val {kvs:List (κ×V)} {vs:List (κ×Value)} (r:KV kvs vs) (k:κ):RelO (Jrm kvs k) (valueAt vs k):=by
 unfold KV at r
 induction r with
 |nil=>exact True.intro
 | @cons p q ps qs h t ih=>
  obtain ⟨h1,h2⟩:=h;by_cases e:p.1=k
  ·have e':q.1=k:=h1.symm.trans e;have b:valueAt (q::qs) k=some q.2:=by simp [valueAt,ycd,e']
   rw [Jtn e,b];exact h2
  ·have e':¬q.1=k:=λz=>e (h1.trans z);have b:valueAt (q::qs) k=valueAt qs k:=by simp [valueAt,ycd,e']
   rw [Jtm e,b];exact ih
theorem KV.length {kvs:List (κ×V)} {vs:List (κ×Value)} (r:KV kvs vs):kvs.length=vs.length:=Paired.length r
end
theorem Jwu {P:Program} {w:World} {k:Key} {u:Value} (r:RelV (kV k) u):(Jk6 P w).is k u=true:=by
 cases k with
 |inl i=>obtain ⟨t,e⟩:=(show ∃t,u=Value.int i t from r);subst e;exact Joe P w i t
 |inr x=>obtain ⟨t,e⟩:=(show ∃t,u=Value.str x t from r);subst e;exact Jof P w x t
theorem Jup {P:Program} {w:World}:∀{ks:List Key} {us:List Value},Vals (ks.map kV) us->ItemsAre (Jk6 P w) ks us
 | [],_,r=>by rw [List.map_nil] at r;cases r;exact .nil
 |k::ks,_,r=>by
  rw [yax] at r;cases r with
  |cons h t=>exact .cons (Jwu h) (Jup t)
noncomputable abbrev KT (H:Hp):List (List Key×V)->List (List Key×Addr×Value)->Prop:=Paired λp q=>p.1=q.1/\H q.2.1=some (.tup (p.1.map kV))/\RelV p.2 q.2.2
theorem KT.val {H:Hp} {kvs:List (List Key×V)} {xs:List (List Key×Addr×Value)} (r:KT H kvs xs) (k:List Key):RelO (Jrm kvs k) ((atKey xs k).map (·.2)):=by
 induction r with
 |nil=>exact True.intro
 | @cons p q ps qs h t ih=>
  obtain ⟨h1,_,h2⟩:=h;by_cases e:p.1=k
  ·have e':q.1=k:=h1.symm.trans e;have b:atKey (q::qs) k=some q.2:=by simp [atKey,ycd,e']
   rw [Jtn e,b];exact h2
  ·have e':¬q.1=k:=λz=>e (h1.trans z);have b:atKey (q::qs) k=atKey qs k:=by simp [atKey,ycd,e']
   rw [Jtm e,b];exact ih
section
variable {P:Program} {w:World} {H:Hp} {h:Heap} {a:Addr}
theorem rd_of {u:HO} (ok:HOk P w H h) (e:Rd H a u):ObjOk P w H h a u:=e.ok ok
theorem Jwo {kvs:List (Key×V)} (ok:HOk P w H h) (e:Rd H a (.dK kvs)):kvs.length<=sizeLine/\(a==sysModules)=false/\∃vs,KV kvs vs/\h.DictOf (Jk6 P w) a vs:=
 show ObjOk P w H h a (.dK kvs) from rd_of ok e
theorem Jy4 {ks:List Key} (ok:HOk P w H h) (e:H a=some (.tup (ks.map kV))):(tupleKind (Jk6 P w)).is h ks a:=by
 obtain ⟨_,its,r,o,h1,h2,n,h3⟩:=(show ObjOk P w H h a (.tup (ks.map kV)) from ok a _ e);exact ⟨o,its.toArray,n,h1,h2,h3,by simpa using Jup r⟩
theorem Yar {kvs:List (List Key×V)} (ok:HOk P w H h) (e:Rd H a (.dT kvs)):kvs.length<=sizeLine/\(a==sysModules)=false/\
  ∃xs,KT H kvs xs/\h.DictOfH (tupleKind (Jk6 P w)) a xs:=by
 obtain ⟨z,y,xs,r,o,es,ep,h1,h2,h3,h4,h5⟩:=(show ObjOk P w H h a (.dT kvs) from rd_of ok e);refine ⟨z,y,xs,r,o,es,ep,h1,h2,h3,h4,λx hx=>?_,h5⟩;have all:∀{l:List (List Key×V)} {m:List (List Key×Addr×Value)},KT H l m->∀x∈m,(tupleKind (Jk6 P w)).is h x.1 x.2.1:=by
  intro l m q
  induction q with
  |nil=>intro x hx;exact nomatch hx
  | @cons p q ps qs hq t ih=>
   intro x hx;rcases yo.mp hx with e|hx
   ·subst e;exact Jy4 ok (by rw [<-hq.1];exact hq.2.1)
   ·exact ih x hx
 exact all r x hx
end
noncomputable def DGet (H:Hp) (a:Addr) (y:V) (r:Option V):Prop:=
 (∃kvs k,Rd H a (.dK kvs)/\y=kV k/\r=Jrm kvs k)\/∃kvs k b,Rd H a (.dT kvs)/\y= .ref b/\H b=some (.tup (k.map kV))/\r=Jrm kvs k
section
variable {X:Cx} {pins:List (Addr×Obj)} {σ:St} {H:Hp} {s:Shared} {a:Addr} {y v:V} {u r:Value} {o:Option V} {A:Around} {E:Value->Shared->Prop}
theorem Inv.big (I:Inv X pins σ H s):sysModules < s.heap.objs.size:=by
 have h:mainGlobals < s.heap.objs.size:=(I.mod.glob.keeps I.bk).lt;exact ybp (by decide) h
theorem d_in {Q:Value->Shared->Prop} (hu:A.units+1 < cLine) (I:Inv X pins σ H s) (g:DGet H a y o) (ry:RelV y u) (h:∀s',Inv X pins σ H s'->Q (.bool o.isSome) s'):
  wpAny (model X.prog X.w) A (compareOp .In u (.ref a)) Q E s:=by
 rcases g with ⟨kvs,k,e,ey,l⟩|⟨kvs,k,b,e,ey,eb,l⟩
 ·subst ey;obtain ⟨z,hd,vs,rel,dd⟩:=Jwo I.hok e;refine wpAny_in_of (Jwu ry) hd dd.mapOf ?_;rw [<-(rel.val k).isSome_eq,<-l];exact h _ (I.tok _)
 ·subst ey;cases (show u=Value.ref b from ry);obtain ⟨z,hd,xs,rel,dd⟩:=Yar I.hok e;refine wpAny_in_heap (tupleKind_room_in1 hu) (Jy4 I.hok eb) hd dd ?_;have q:=(rel.val k).isSome_eq;rw [Option.isSome_map] at q;rw [<-q,<-l];exact h _ (I.tok _)
theorem Ycz {Q:Value->Shared->Prop} (hu:A.units+1 < cLine) (I:Inv X pins σ H s) (g:DGet H a y o) (ry:RelV y u) (h:∀s',Inv X pins σ H s'->Q (.bool (!o.isSome)) s'):
  wpAny (model X.prog X.w) A (compareOp .NotIn u (.ref a)) Q E s:=by
 rcases g with ⟨kvs,k,e,ey,l⟩|⟨kvs,k,b,e,ey,eb,l⟩
 ·subst ey;obtain ⟨z,hd,vs,rel,dd⟩:=Jwo I.hok e;refine wpAny_notIn_of (Jwu ry) hd dd.mapOf ?_;rw [<-(rel.val k).isSome_eq,<-l];exact h _ (I.tok _)
 ·subst ey;cases (show u=Value.ref b from ry);obtain ⟨z,hd,xs,rel,dd⟩:=Yar I.hok e;refine wpAny_notIn_heap (tupleKind_room_in1 hu) (Jy4 I.hok eb) hd dd ?_;have q:=(rel.val k).isSome_eq;rw [Option.isSome_map] at q;rw [<-q,<-l];exact h _ (I.tok _)
theorem dk_new {P:Program} {w:World} {H':Hp} {h':Heap} {kvs:List (Key×V)} {vs:List (Key×Value)} (z:kvs.length<=sizeLine) (hd:(a==sysModules)=false) (rel:KV kvs vs) (dd:h'.DictOf (Jk6 P w) a vs):
  ObjOk P w H' h' a (.dK kvs):=⟨z,hd,vs,rel,dd⟩
end
section
variable {X:Cx} {pins:List (Addr×Obj)} {σ:St} {H:Hp} {s:Shared} {a:Addr} {kvs:List (Key×V)} {k:Key} {u:Value} {A:Around} {E:Value->Shared->Prop}
end
noncomputable def NoSl (i:Expr):Prop:=∀ov iv,subscripted i false ov iv=operate [ov,iv] (getItem ov iv)
theorem Yec {prog:Program} {w:World} {A:Around} {E:Value->Shared->Prop} {s:Shared} {env:Env} {value slice:Expr} {pos:Pos} {T id:String} {Q:Value->Shared->Prop}
  (hl:typeLookup (.type T) "__getitem__" =pure (some (.builtin id))) (hs:NoSl slice)
  (h:wpAny (model prog w) A (eval value env) (λo s₁=>wpAny (model prog w) A (eval slice env) (λi s₂=>s₂.TypeIs o T/\wpAny (model prog w) A (getItem o i) Q E s₂) E s₁) E s):
  wpAny (model prog w) A (eval (.Subscript value slice pos) env) Q E s:=by
 refine Subscript_ (wpAny_mono h (λo s₁ h₁=>wpAny_mono h₁ (λi s₂ h₂=>?_) λ_ _ x=>x) λ_ _ x=>x);obtain ⟨hT,h₂⟩:=h₂;unfold subscriptTail;refine wpAny_bind ?_;rw [getitemInPython_of_ne hT.not_modules];refine wpAny_bind (wpAny_specialOf hT hl ?_);have fin:wpAny (model prog w) A (subscripted slice false o i) (λr s₃=>wpAny (model prog w) A (letTemporaryGo value o r >>=λ_=>pure r) Q E s₃) E s₂:=by
  rw [hs o i];exact wpAny_operating (wpAny_mono h₂ (λr s₃ h₃=>wpAny_bind (wpAny_letTemporaryGo (wpAny_pure h₃))) λ_ _ x=>x)
 first
  |exact wpAny_pure (wpAny_bind fin)
  |exact wpAny_bind (wpAny_pure (wpAny_bind fin))
  |exact wpAny_bind fin
section
variable {X:Cx} {o i e value:Expr} {pos pos' tpos:Pos} {td ty tv:TE}
end
section
variable {X:Cx} {pos:Pos}
end
structure M1 (X:Cx) (o:Expr) (m:Str) (apos:Pos) (e:Expr) (cpos:Pos):Prop where
 base:attributeBase o m X.env (eval o X.env)=eval o X.env
 few:((backTo cpos (starEach [e] X.env)).all (λx=>!x.1)&&(backToKw cpos (keywordEach [] X.env)).all (λx=>x.1.isSome)
  &&decide (([e]:List Expr).length+([]:List Keyword).length+(if ([]:List Keyword).isEmpty then 0 else 1) < 30))=true
 line:(apos.endLine==cpos.line)=true
 trees:backTo cpos (starEach [e] X.env)= [(false,eval e X.env)]
structure M2 (X:Cx) (o:Expr) (m:Str) (apos:Pos) (e f:Expr) (cpos:Pos):Prop where
 base:attributeBase o m X.env (eval o X.env)=eval o X.env
 few:((backTo cpos (starEach [e,f] X.env)).all (λx=>!x.1)&&(backToKw cpos (keywordEach [] X.env)).all (λx=>x.1.isSome)
  &&decide (([e,f]:List Expr).length+([]:List Keyword).length+(if ([]:List Keyword).isEmpty then 0 else 1) < 30))=true
 line:(apos.endLine==cpos.line)=true
 trees:backTo cpos (starEach [e,f] X.env)= [(false,eval e X.env),(false,eval f X.env)]
noncomputable def IsD (H:Hp) (a:Addr):Prop:=(∃kvs,Rd H a (.dK kvs))\/∃kvs,Rd H a (.dT kvs)
theorem Yb1 {X:Cx} {pins:List (Addr×Obj)} {σ:St} {H:Hp} {s:Shared} {a:Addr} (I:Inv X pins σ H s) (d:IsD H a):
  s.TypeIs (.ref a) "dict" /\(∀b,Value.ref a= .ref b->∃ob,s.heap.get? b=some ob/\ob.dict=none)/\(a==sysModules)=false:=by
 rcases d with ⟨kvs,e⟩|⟨kvs,e⟩
 ·obtain ⟨_,hd,vs,_,dd⟩:=Jwo I.hok e;refine ⟨dd.typeIs,λb q=>?_,hd⟩;cases q;obtain ⟨ob,_,_,h1,h2,_⟩:=dd;exact ⟨ob,h1,h2.2.1⟩
 ·obtain ⟨_,hd,xs,_,dd⟩:=Yar I.hok e;refine ⟨dd.typeIs,λb q=>?_,hd⟩;cases q;obtain ⟨ob,_,_,h1,h2,_⟩:=dd;exact ⟨ob,h1,h2.2.1⟩
section
variable {X:Cx} {pins:List (Addr×Obj)} {σ:St} {H:Hp} {s:Shared} {a:Addr} {y d:V} {u r:Value} {o:Option V} {A:Around} {E:Value->Shared->Prop}
end
section
variable {X:Cx} {o e f:Expr} {apos cpos:Pos} {td ty tx:TE}
end
section
variable {X:Cx} {pins:List (Addr×Obj)} {σ:St} {H:Hp} {s:Shared} {a:Addr} {kvs:List (Key×V)} {A:Around} {E:Value->Shared->Prop}
end
section
variable {X:Cx} {pins:List (Addr×Obj)} {σ:St} {H:Hp} {s:Shared} {a:Addr} {y:V} {u:Value} {A:Around} {E:Value->Shared->Prop}
end
end L2
namespace Att
open PySem PySem.W PySem.Calls PyProof.Rows
theorem Jrx {P:Params} {h:Heap}:∀(ns:List Int) (vs:List Value),WellAll P h vs (ns.map WData.int)->IntsAre vs ns:=by
 intro ns
 induction ns with
 |nil=>
  intro vs w;rw [List.map_nil] at w;cases w;exact .nil
 |cons n ns ih=>
  intro vs w;rw [yax] at w;cases w with
  |cons a b=>
   cases a;exact .cons _ _ (ih _ b)
theorem Yv {l:OpenLaw} {n:Nat} (hn:l.most=some n) {P:Params} {h:Heap} {args:List WData} {vals:List Value}
  (hpre:l.row.toRowW.claim.pre args=true) (hwl:WellAll P h vals args):
  ∃a vs ns,vals= [Value.ref a]/\args= [WData.list (ns.map WData.int)]/\h.get? a=some {cls:=.type "list",data:=.seq vs.toArray}/\IntsAre vs ns/\ns.length<=n:=by
 have hsh:WShape.hasAll [] args [.list .int]=true:=(pre_splitW hpre).1;have hc:l.pre.holds [] {args:=args}=true:=(pre_splitW hpre).2;obtain ⟨d,r,rfl,h1,h2⟩:=hasAllW_cons hsh;obtain rfl:=hasAllW_nil h2;obtain ⟨xs,rfl,h3⟩:=hasW_list h1;obtain ⟨ns,rfl⟩:=items_int h3;have hlen:ns.length<=n:=by
  unfold OpenLaw.pre at hc;have h4:(WTm.not (.lt (.lit (.int (n:Int))) (.len (.arg 0)))).holds [] {args:=[.list (ns.map .int)]}=true:=by
   have h4:=(holds_andW hc).1;rw [hn] at h4;exact h4
  have h5:=condW_of h4 (w_not (w_lt w_lit (w_len_list (w_arg rfl))));rw [yf] at h5;refine Nat.le_of_not_lt λq=>?_;have q':(n:Int) < ((ns.length:Nat):Int):=by omega
  first
   | (rw [decide_eq_true q'] at h5; exact absurd h5 (by decide))
   | (simp at h5; omega)
 cases hwl with
 |cons w1 w2=>
  cases w2;cases w1 with
  |list ho hall=>exact ⟨_,_,ns,rfl,rfl,ho,Jrx ns _ hall,hlen⟩
theorem Yp (l:OpenLaw) (args:List WData):l.row.toRowW.claim.post args (.bool true) args=true:=
 postW_of (r:=l.row.toRowW) (X:=(true==true))
  (show WShape.has [] (.bool true) .bool=true by first|rfl|decide|simp [WShape.has,WShape.arms,WShape.armsAll])
  (show (WTm.eq .res (.lit (.bool true))).value [] {args:=args,res:=some (.bool true),after:=args}=some (.bool (true==true)) from w_eq_bool (w_res rfl) w_lit) rfl
theorem attach_call {l:OpenLaw} {n:Nat} {q:Program} {loose:List Str} {XP:(Str->Option Value)->Heap->Prop} {YP:World->Heap->Prop} {d:DefRec}
  (hn:l.most=some n) (hdf:d.params.defaults= [])
  (call:∀(w:World) (s₀ s₁:Shared) (mg mb:Str->Option Value) (fa:Addr) (o:Obj) (pm cd doc:Value) (a:Addr) (vs:List Value) (ns:List Int),
   Ground q loose [] XP w s₀ mg mb s₁.heap->YP w s₁.heap->
   s₁.heap.get? fa=some o->o.data= .func (docDef d.name d.params d.body d.scope pm cd doc)->s₁.heap.CodeRec cd d.name->mg d.name=some (.ref fa)->
   s₁.heap.get? a=some {cls:=.type "list",data:=.seq vs.toArray}->IntsAre vs ns->ns.length<=n->s₁.gens= #[]->
   codeAny (model l.prog w) callerA (.call (.ref fa) ⟨[.ref a],[]⟩) (λr s'=>r= .ok (.ret (.bool true))/\OldK s₁.heap s'.heap/\s'.os=s₁.os/\AllBare s'.gens) s₁):
  WalkO q loose XP YP l.row.toRowW d [] (λf vs=>PySem.call f vs):=by
 intro w s₀ s₁ mg mb G Y fa o pm cd doc dV kV ho hd hcd hD hmg hg args vals as hpre hlay hrd hwl hlo;obtain rfl:dV= .none:=Dflts.none hD hdf;obtain rfl:kV= .none:=Dflts.noKw hD;obtain ⟨a,vs,ns,rfl,rfl,hobj,hints,hlen⟩:=Yv hn hpre hwl;refine enter_call (codeAny_mono (call w s₀ s₁ mg mb fa o pm cd doc a vs ns G Y ho (fd_plain hd) hcd hmg hobj hints hlen hg) λr s' hq=>?_);obtain ⟨rfl,h2,h3,h4⟩:=hq;exact ⟨.inl ⟨.bool true,.bool true,[],rfl,λ_=>rfl,.bool true,Yp l _,λ_=>⟨yby.nil,λ_ hm=>(nomatch hm)⟩⟩,h2,h3,h4⟩
section
variable {prog:Program} {w:World} {A:Around} {E:Value->Shared->Prop} {s:Shared} {K:Frag}
end
end Att
namespace L2
open PySem PySem.Spec PyProof.Rows
theorem Jv7:∀{vs:List Value} {ns:List Int},IntsAre vs ns->Vals (ns.map V.int) vs
 |_,_,.nil=>.nil
 |_,_,.cons n t h=>.cons ⟨t,rfl⟩ (Jv7 h)
end L2
namespace L2
open PySem PySem.Spec PyProof.Rows
noncomputable abbrev KOf {K:PySem.W.Frag} {h:Heap} (_:K.In h):PySem.W.Frag:=K
end L2
namespace L2
open PySem PySem.Spec PyProof.Rows
noncomputable def Jk8 (s:Stmt) (j:Nat):Stmt:=match s with
 | .ClassDef _ _ _ body _ _ _ _ _ _ _=>body.getD j (.Pass ⟨0,0,0,0⟩)
 |_=>.Pass ⟨0,0,0,0⟩
noncomputable def Jl0 (s:Stmt):Arguments:=match s with
 | .FunctionDef _ a _ _ _ _ _ _ _ _=>a
 |_=>{posonlyargs:=[],args:=[],vararg:=none,kwonlyargs:=[],kw_defaults:=[],kwarg:=none,defaults:=[]}
noncomputable def Jks (s:Stmt):List Stmt:=match s with
 | .FunctionDef _ _ b _ _ _ _ _ _ _=>b
 |_=>[]
noncomputable def Jju (s:Stmt):Scope:=match s with
 | .FunctionDef _ _ _ _ _ _ sc _ _ _=>sc
 |_=>{kind:=.function,names:=[],isGenerator:=false,isCoroutine:=false}
noncomputable abbrev CX0:CXT:=λ_ _ _ _ _ _=>False
noncomputable abbrev E0:XK:=λ_ _ _=>False
theorem Jql {X:Cx}:Jsb CX0 X E0:=λ_ _ _ _ _ _ _ h=>h.elim
structure Fun (K:PySem.W.Frag) (x qual:Str) (st:Stmt) (f:Addr) (fd:FuncData):Prop where
 ex:∃(oc:Value) (od:Option Addr) (kV doc pm:Value) (an:Option Addr) (cdv ct:Value) (osl:Array (Option Value)),
  fd=PySem.W.fnOf x qual (Jl0 st) (Jks st) (Jju st) .none kV doc pm an cdv ct/\K.lookup f=some ⟨oc,od,.func fd,osl⟩/\PySem.W.codeIn K cdv qual=true
 kp:PySem.W.keepIn K (.ref f)=true
section
variable {P:Program} {w:World} {K:PySem.W.Frag} {mg:Str->Option Value} {base:Heap}
theorem Fun.ok {x qual:Str} {st:Stmt} {f:Addr} {fd:FuncData} {N ps:List Str} {k:Nat} {sp:Sp} (F:Fun K x qual st f fd) (S:Jk0 N ps (Jju st)) (len:∀vs H Q E,sp vs H Q E->vs.length=ps.length)
  (hbody:∀(cdv:Value) (A:Around) (outer:List Env) (s:Shared) (H:Hp) (vs:List V) (Q:VK) (E:XK),Room k (A.deeper (envOfC qual (Jju st) s.heap.objs.size f cdv))->sp vs H Q E->
   ∃t,PSs (Jve CX0 P w K mg base N qual (Jju st) f cdv A outer s H E).nox (Jks st) t/\t {nx:=λ_ H'=>Q .non H',rt:=Q} (start N vs) H):FnOk P w K mg base CX0 (k+1) f fd ps sp:=by
 obtain ⟨oc,od,kV,doc,pm,an,cdv,ct,osl,rfl,lk,hcd⟩:=F.ex;refine fn_of lk hcd S len λA outer s H vs Q E hr hsp=>?_;obtain ⟨t,h,q⟩:=hbody cdv A outer s H vs Q E hr hsp;exact ⟨t,h.nox,q⟩
theorem Fun.binds {x qual:Str} {st:Stmt} {f:Addr} {fd:FuncData} {ps:List Str} (F:Fun K x qual st f fd)
  (h:∀(kV doc pm:Value) (an:Option Addr) (cdv ct:Value) (us:List Value),us.length=ps.length->bindArgs (PySem.W.fnOf x qual (Jl0 st) (Jks st) (Jju st) .none kV doc pm an cdv ct) ⟨us,[]⟩=pure (ps.zip us)):Binds K fd ps []:=by
 obtain ⟨oc,od,kV,doc,pm,an,cdv,ct,osl,rfl,lk,hcd⟩:=F.ex;exact .all (h kV doc pm an cdv ct)
theorem Jvf {x qual:Str} {st:Stmt} {f:Addr} {oc:Value} {od an:Option Addr} {osl:Array (Option Value)} {kV doc pm cdv ct:Value} (l:K.lookup f=some ⟨oc,od,.func (PySem.W.fnOf x qual (Jl0 st) (Jks st) (Jju st) .none kV doc pm an cdv ct),osl⟩)
  (c:PySem.W.codeIn K cdv qual=true) (k:PySem.W.keepIn K (.ref f)=true):Fun K x qual st f (PySem.W.fnOf x qual (Jl0 st) (Jks st) (Jju st) .none kV doc pm an cdv ct):=⟨⟨oc,od,kV,doc,pm,an,cdv,ct,osl,rfl,l,c⟩,k⟩
end
section
variable {X:Cx}
theorem pv (i:Nat) {x:Str} {pos:Pos} (hN:X.N[i]?=some x:=by rfl) (hv:Vis X.env.scope x:=by first|exact ye rfl|exact Or.inr (ye rfl)|exact Or.inr (Or.inr rfl)) (hd:(x==("__debug__" :Str))=false:=by decide)
  (hcd:(x==("__classdict__" :Str))=false:=by decide):PE X (.Name x pos) (tVar i):=Ybd hN hv hd hcd
end
theorem Jkt {A B:Prop} (h:B):if false=true then A else B:=by
 rw [if_neg yab];exact h
theorem Jm7 {A B:Prop} (h:A):if true=true then A else B:=by
 rw [if_pos rfl];exact h
theorem Jnu {c A B:Prop} [Decidable c] (h1:c->A) (h2:¬c->B):if c then A else B:=by
 by_cases h:c
 ·rw [if_pos h];exact h1 h
 ·rw [if_neg h];exact h2 h
noncomputable def Same (H H':Hp):Prop:=∀b o,H b=some o->H' b=some o
theorem Same.refl (H:Hp):Same H H:=λ_ _ h=>h
theorem Same.trans {H H1 H2:Hp} (a:Same H H1) (b:Same H1 H2):Same H H2:=λc o h=>b c o (a c o h)
theorem Same.seq {K:PySem.W.Frag} {H H':Hp} {a:Addr} {xs:List V} (e:Same H H') (h:SqL K H a xs):SqL K H' a xs:=by
 rcases h with (h|⟨o,h⟩)|h
 ·exact .inl (.inl (e _ _ h))
 ·exact .inl (.inr ⟨o,e _ _ h⟩)
 ·exact .inr h
section
variable {κ:Type} [DecidableEq κ]
end
end L2
set_option Elab.async false
set_option linter.all false
set_option maxRecDepth 100000
set_option maxHeartbeats 4000000
namespace L2
open PySem PySem.Spec PyProof.Rows
noncomputable def Jm6 (cells:List (Str×Addr)):List (Str×NameKind)->List (Str×Addr)->List (Str×Addr)
 | [],acc=>acc
 | (n,k) :: r,acc=>if (k == NameKind.free) = true then (match cells.lookup n with | some c=>Jm6 cells r ((n,c) :: acc) | none=>Jm6 cells r acc) else Jm6 cells r acc
theorem Jn1 {cells:List (Str×Addr)}:∀(ns:List (Str×NameKind)) (acc:List (Str×Addr)),(∀x c,acc.lookup x=some c->cells.lookup x=some c)->∀x c,(Jm6 cells ns acc).lookup x=some c->cells.lookup x=some c
 | [],_,h,x,c,e=>h x c e
 | (n,k) :: r,acc,h,x,c,e=>by
  unfold Jm6 at e;by_cases hk:(k==NameKind.free)=true
  ·rw [if_pos hk] at e;cases hc:cells.lookup n with
   |none=>rw [hc] at e;exact Jn1 r acc h x c e
   |some d=>
    rw [hc] at e;refine Jn1 r ((n,d)::acc) (λy b q=>?_) x c e;rw [ybb] at q;by_cases hy:(y==n)=true
    ·rw [hy] at q;have hy':y=n:=beq_iff_eq.mp hy;rw [hy',hc];exact q
    ·have hy':(y==n)=false:=by simpa using hy
     rw [hy'] at q;exact h y b q
  ·rw [if_neg hk] at e;exact Jn1 r acc h x c e
theorem Jns {cells:List (Str×Addr)}:∀(ns:List (Str×NameKind)) (acc:List (Str×Addr)) (x:Str),(acc.lookup x).isSome=true->((Jm6 cells ns acc).lookup x).isSome=true
 | [],_,_,h=>h
 | (n,k) :: r,acc,x,h=>by
  unfold Jm6;by_cases hk:(k==NameKind.free)=true
  ·rw [if_pos hk];cases hc:cells.lookup n with
   |none=>exact Jns r acc x h
   |some d=>
    refine Jns r ((n,d)::acc) x ?_;rw [ybb];cases hy:x==n with
    |true=>rfl
    |false=>exact h
  ·rw [if_neg hk];exact Jns r acc x h
theorem Jmi {cells:List (Str×Addr)} {x:Str}:∀(ns:List (Str×NameKind)) (acc:List (Str×Addr)),(x,NameKind.free)∈ns->(∃c,cells.lookup x=some c)->((Jm6 cells ns acc).lookup x).isSome=true
 | [],_,h,_=>by simp at h
 | (n,k) :: r,acc,h,hc=>by
  unfold Jm6;rcases yo.mp h with e|e
  ·cases e;obtain ⟨c,hc⟩:=hc;rw [if_pos (by decide),hc];exact Jns r _ x (by rw [ybb,beq_self_eq_true];rfl)
  ·by_cases hk:(k==NameKind.free)=true
   ·rw [if_pos hk];cases hd:cells.lookup n with
    |none=>exact Jmi r acc e hc
    |some d=>exact Jmi r _ e hc
   ·rw [if_neg hk];exact Jmi r acc e hc
theorem Jpj {sc:Scope} {env:Env} (h:∀y∈sc.names,y.2= .free->∃c,env.cells.lookup y.1=some c):closureFor sc env=pure (Jm6 env.cells sc.names []):=by
 have key:∀(ns:List (Str×NameKind)) (acc:List (Str×Addr)),(∀y∈ns,y.2= .free->∃c,env.cells.lookup y.1=some c)->
   (forIn ns acc λ(x:Str×NameKind) (r:List (Str×Addr))=>if (x.2==NameKind.free)=true then (cellOf env x.1 >>=λc=>pure (ForInStep.yield ((x.1,c)::r)):Sem _) else pure (ForInStep.yield r))=(pure (Jm6 env.cells ns acc):Sem _):=by
  intro ns
  induction ns with
  |nil=>intro acc _;rfl
  |cons y r ih=>
   intro acc hy;obtain ⟨n,k⟩:=y;rw [yce];unfold Jm6;by_cases hk:(k==NameKind.free)=true
   ·have hk':k= .free:=by simpa using hk
    obtain ⟨c,hc⟩:=hy (n,k) yal hk';have hc':env.cells.lookup n=some c:=hc;simp only [hk,if_true];have e1:cellOf env n=pure c:=by unfold cellOf;rw [hc']
    rw [e1,hc'];exact ih _ λz hz=>hy z (yaf _ hz)
   ·simp only [hk,if_false];exact ih _ λz hz=>hy z (yaf _ hz)
 have k0:=key sc.names [] h;unfold closureFor
 first
  |exact k0
  | (refine Eq.trans ?_ (congrArg (λm : Sem (List (Str × Addr))=>m >>= λr=>pure r) k0); rfl)
noncomputable def blk (X:Cx) (sc:Scope) (N:List Str) (C:Addr) (s:Shared) (H:Hp) (fp:List Addr) (pn:List (Addr×Obj)):Cx:=
 {X with N:=N,s₀:=s,H₀:=H,env:=compEnvC sc (Jm6 X.env.cells sc.names []) C X.env,outer:=X.stack,ex:=fp,fn:=λ_=>false,pn:=pn,xe:=λ_ _=>False}
noncomputable def Jzz (ini:List (Option Nat)) (σ:St):St:=ini.map λo=>match o with|none=>none|some j=>(σ[j]?).join
noncomputable def scB (sc:Scope):Bool:=decide (sc.kind= .function)&&sc.names.all (λy=>decide (y.2≠ .cell))&&sc.names.all (λy=>!decide (y.2= .local)||decide (sc.names.lookup y.1=some .local))
noncomputable def frB (outer:List (Str×NameKind)) (sc:Scope):Bool:=sc.names.all λy=>!decide (y.2= .free)||(decide (outer.lookup y.1=some .cell)||decide (outer.lookup y.1=some .free))
noncomputable def iniB (No N:List Str) (ini:List (Option Nat)) (outer:List (Str×NameKind)) (sc:Scope):Bool:=
 (N.zip ini).all λy=>match y.2 with|none=>true|some j=>decide (No[j]?=some y.1)&&decide (sc.names.lookup y.1=some .free)&&(decide (outer.lookup y.1=some .cell)||decide (outer.lookup y.1=some .free))
noncomputable def PIf (X:Cx) (ifs:List Expr) (t:TT):Prop:=
 ∀(pins:List (Addr×Obj)) (s:Shared) (σ:St) (H:Hp) (Q:Bool->Hp->Prop),Inv X pins σ H s->t σ H Q->
  wpAny (model X.prog X.w) X.A (forIn ifs true λc r=>if r=true then do let ok<-isTrue c X.env (eval c X.env);pure (ForInStep.yield ok) else pure (ForInStep.yield r)) (TP X pins σ Q) X.xe s
noncomputable def Ya3:TT:=λ_ H Q=>Q true H
theorem Jkp {X:Cx}:PIf X [] Ya3:=λ_ _ _ H _ I h=>wpAny_tests_nil ⟨H,I,h⟩
theorem Jnh {X:Cx} {c:Expr} {t:TT} (h:PT X c t):PIf X [c] t:=λpins s σ H Q I q=>wpAny_tests_one (h pins s σ H Q I q)
noncomputable def Yce (wi:TI) (ini:List (Option Nat)) (g:TG) (tt:TT) (te:TE):TE:=λσ H Q=>wi σ H λJ H1=>∀D,H1 D=none->∃W:Nat->Nat->St->Hp->Prop,(∃m,W 0 m (Jzz ini σ) (upd H1 D (.lst [])))/\
 ∀i m σ' H',W i m σ' H'->(J.stop i H'/\Q (.ref D) H')\/(J.go i H'/\∃N:St->Hp->Prop,(∀σ2 H2,N σ2 H2->∃m',m' < m/\W (i+1) m' σ2 H2)/\
  ∀x H2,J.yld i H' x H2->g x σ' H2 λσ3 H3=>tt σ3 H3 λb H4=>if b=true then te σ3 H4 (λv H5=>∃ys,H5 D=some (.lst ys)/\ys.length < sizeLine/\N σ3 (upd H5 D (.lst (ys++ [v])))) else N σ3 H4)
section
variable {prog:Program} {w:World} {A:Around} {R:Result->Shared->Prop} {s:Shared}
theorem Jvd {elt target iter:Expr} {ifs:List Expr} {scope:Scope} {pos:Pos} {it acc:Value} {env:Env} (I:Nat->Shared->Prop)
  (turn:∀n s,I n s->wpAny (model prog w) A (pyNext it) (λr s1=>match r with
   |none=>R (.ok .next) s1
   |some v=>wpAny (model prog w) A (letOwnedTupleGo target it v) (λ_ s1'=>wpAny (model prog w) A (assign target env v) (λ_ s2=>
     wpAny (model prog w) A (forIn ifs true λc r=>if r=true then do let ok<-isTrue c env (eval c env);pure (ForInStep.yield ok) else pure (ForInStep.yield r)) (λok s3=>
      if ok=true then wpAny (model prog w) A (eval elt env) (λx s4=>
       wpAny (model prog w) A (call (.builtin "list.append") [acc,x]) (λ_ s5=>∃m,m < n/\I m s5) (λ_ _=>False) s4) (λ_ _=>False) s3
      else ∃m,m < n/\I m s3) (λ_ _=>False) s2) (λ_ _=>False) s1') (λ_ _=>False) s1) (λ_ _=>False) s)
  (n:Nat) (h:I n s):codeAny (model prog w) A (.compLoop (.ListComp elt [⟨target,iter,ifs,0⟩] scope pos) 0 it acc env) R s:=by
 refine codeAny_loop rfl I (λn s hI=>?_) n h;show wpAny _ A ((compTurn (.ListComp elt [⟨target,iter,ifs,0⟩] scope pos) 0 it acc env).onRaise (λx=>do noteFrame x env;theTreesLotGoes x)) _ _ s;refine wpAny_noted (wpAny_noRaise ?_);rw [compTurn_list];refine wpAny_bind (wpAny_standAt (wpAny_bind (wpAny_mono (turn n s hI) (λr s1 h1=>?_) λ_ _ h'=>h')));cases r with
 |none=>exact wpAny_pure h1
 |some v=>
  refine wpAny_bind (wpAny_mono h1 (λ_ s1' h1'=>?_) λ_ _ h'=>h');refine wpAny_bind (wpAny_mono h1' (λ_ s2 h2=>wpAny_bind (wpAny_mono h2 (λok s3 h3=>?_) λ_ _ h'=>h')) λ_ _ h'=>h');cases ok with
  |false=>exact wpAny_pure ⟨rfl,h3⟩
  |true=>
   exact wpAny_bind (wpAny_bind (wpAny_mono h3 (λx s4 h4=>wpAny_bind (wpAny_mono h4 (λ_ s5 h5=>wpAny_pure (wpAny_pure ⟨rfl,h5⟩)) λ_ _ h'=>h')) λ_ _ h'=>h'))
end
section
variable {X:Cx} {pins:List (Addr×Obj)} {σ:St} {H:Hp} {s:Shared}
theorem blk_ok {sc:Scope} {N:List Str} {C:Addr} {fp:List Addr} {pn:List (Addr×Obj)} (I:Inv X pins σ H s) (hk:sc.kind= .function) (hcell:∀y∈sc.names,y.2≠ .cell)
  (hfr:∀y∈sc.names,y.2= .free->X.env.kindOf y.1=some .cell\/X.env.kindOf y.1=some .free) (hC:C=s.heap.objs.size) (hf:∀b∈fp,Jqy X pins H b/\b < s.heap.objs.size):(blk X sc N C s H fp pn).Ok:=by
 have hin:∀x c,(Jm6 X.env.cells sc.names []).lookup x=some c->X.env.cells.lookup x=some c:=Jn1 sc.names [] (λx c e=>by simp at e);refine ⟨I.ok.mod,hk,I.ok.glob,I.ok.blt,ybx hC.symm,λx y c h1 h2=>I.ok.inj x y c (hin _ _ h1) (hin _ _ h2),λx hx=>?_,λx c h _=>(by cases h),I.ok.hd,I.ok.frames,.inl rfl,λb hb=>?_,I.bs,yai I.ok.bsz I.sz,λb o e hb=>?_,λb hb z=>?_,I.stack,I.stkFree⟩
 ·have hx':(relabel sc X.env).names.lookup x=some .cell\/(relabel sc X.env).names.lookup x=some .free:=hx;have hm:(x,NameKind.free)∈sc.names:=by
   have:∀k,(relabel sc X.env).names.lookup x=some k->(k= .cell\/k= .free)->(x,NameKind.free)∈sc.names:=λk e hkk=>by
    have m:=PySem.mem_of_lookup e;obtain ⟨⟨n',k'⟩,m1,m2⟩:=ybd.mp m;dsimp only at m2;by_cases hc:(k'==NameKind.free&&X.env.scope.kind== .function&&X.env.kindOf n'==some .cell)=true
    ·rw [if_pos hc] at m2;have e1:n'=x:=congrArg Prod.fst m2;have e2:k'=NameKind.free:=by simp at hc;exact hc.1.1
     rw [<-e1,<-e2];exact m1
    ·rw [if_neg hc] at m2;have e1:n'=x:=congrArg Prod.fst m2;have e2:k'=k:=congrArg Prod.snd m2;rcases hkk with z|z
     ·exact absurd (e2.trans z) (hcell _ m1)
     ·rw [<-e1,<-z,<-e2];exact m1
   rcases hx' with e|e
   ·exact this _ e (.inl rfl)
   ·exact this _ e (.inr rfl)
  have hh:=Jmi (cells:=X.env.cells) sc.names [] hm (I.ok.has x (hfr _ hm rfl));exact yca.mp hh
 ·obtain ⟨⟨f0,f1,f2,f3,f4,f5⟩,lt⟩:=hf b hb;exact ⟨λz=>yr lt (z.trans hC),λx c e=>f4 x c (hin _ _ e)⟩
 ·obtain ⟨⟨f0,f1,f2,f3,f4,f5⟩,lt⟩:=hf b hb;rcases f3 with z|z
  ·exact I.ok.noex b o e z
  ·exact absurd (yap (yg (I.ok.bs b o e).1) z) (yay _)
 ·obtain ⟨⟨f0,f1,f2,f3,f4,f5⟩,lt⟩:=hf b hb;rcases yo.mp (I.stkSub b z) with e|e
  ·exact f1 e
  ·exact f2 e
theorem Ycx {sc:Scope} {N:List Str} {ini:List (Option Nat)} {fp:List Addr} {h1:Heap} {t':Nat} (I:Inv X pins σ H s) (hk:sc.kind= .function) (hcell:∀y∈sc.names,y.2≠ .cell)
  (hfr:∀y∈sc.names,y.2= .free->X.env.kindOf y.1=some .cell\/X.env.kindOf y.1=some .free) (hf:∀b∈fp,Jqy X pins H b/\b < s.heap.objs.size) (hlen:N.length=ini.length)
  (hini:∀(i:Nat) (x:Str) (j:Nat),N[i]?=some x->ini[i]?=some (some j)->X.N[j]?=some x/\sc.names.lookup x=some .free/\(X.env.kindOf x=some .cell\/X.env.kindOf x=some .free))
  (hn:h1.Ns s.heap.objs.size (λ_=>none)) (kp:∀b o,s.heap.get? b=some o->h1.get? b=some o):
  Inv (blk X sc N s.heap.objs.size s H fp (X.pn++pins)) [] (Jzz ini σ) H {s with heap:=h1,toks:=t'}:=by
 have hin:∀x c,(Jm6 X.env.cells sc.names []).lookup x=some c->X.env.cells.lookup x=some c:=Jn1 sc.names [] (λx c e=>by simp at e);refine ⟨blk_ok I hk hcell hfr rfl hf,rfl,I.bare,Un.kept kp,⟨_,hn,λi x v e1 e2 e3=>?_⟩,λx c e=>?_,I.hok.fresh (yi _),λx c e=>(I.freeC x c (hin _ _ e)).imp id λz=>⟨rfl,z.2⟩,λp hp=>?_,I.hok.kept kp,?_⟩
 ·have e1':N[i]?=some x:=e1;have e2':(Jzz ini σ)[i]?=some (some v):=e2;unfold Jzz at e2';rw [ym] at e2';cases hi:ini[i]? with
  |none=>rw [hi] at e2';cases e2'
  |some o=>
   rw [hi] at e2';cases o with
   |none=>cases e2'
   |some j=>
    have e4:(σ[j]?).join=some v:=yae.inj e2';have e5:σ[j]?=some (some v):=by
     cases q:σ[j]? with
     |none=>rw [q] at e4;cases e4
     |some z=>rw [q] at e4;exact congrArg some e4
    obtain ⟨a1,a2,a3⟩:=hini i x j e1' hi;obtain ⟨m,hm,hl⟩:=I.loc;have hvis:Vis X.env.scope x:=by
     rcases a3 with z|z
     ·exact .inr (.inl z)
     ·exact .inr (.inr z)
    obtain ⟨u,r,l⟩:=hl j x v a1 e5 hvis;refine ⟨u,r,.inr ⟨?_,?_⟩⟩
    ·have hm2:=PySem.mem_of_lookup a2;have e3':Vis (relabel sc X.env) x:=e3;rcases e3' with z|z|z
     ·exfalso;have m1:=PySem.mem_of_lookup z;obtain ⟨⟨n',k'⟩,m2,m3⟩:=ybd.mp m1;dsimp only at m3;have key:∀{ns:List (Str×NameKind)},ns.lookup x=some .free->(ns.map λ(n,k)=>if (k==NameKind.free&&X.env.scope.kind== .function&&X.env.kindOf n==some .cell) then (n,NameKind.cell) else (n,k)).lookup x≠some .local:=by
       intro ns
       induction ns with
       |nil=>intro q;simp at q
       |cons y r ih=>
        obtain ⟨n,k⟩:=y;intro q;rw [ybb] at q;rw [yax];dsimp only;cases hx:x==n with
        |true=>
         rw [hx] at q;have q':k= .free:=yae.inj q;subst q';split
         ·rw [ybb,hx];intro z;cases z
         ·rw [ybb,hx];intro z;cases z
        |false=>
         rw [hx] at q;split
         ·rw [ybb,hx];exact ih q
         ·rw [ybb,hx];exact ih q
      exact key a2 z
     ·exact .inl z
     ·exact .inr z
    ·rcases l with ⟨k1,_⟩|⟨_,c,hc,hcl⟩
     ·exfalso;rcases a3 with z|z
      ·rw [z] at k1;cases k1
      ·rw [z] at k1;cases k1
     ·have hh:=Jmi (cells:=X.env.cells) sc.names [] (PySem.mem_of_lookup a2) ⟨c,hc⟩;obtain ⟨c',hc'⟩:=yca.mp hh;have:c'=c:=by
       have q:=hin _ _ hc';rw [hc] at q;exact (yae.inj q).symm
      subst this;obtain ⟨oc,hoc,hod⟩:=hcl;exact ⟨c',hc',oc,kp _ _ hoc,hod⟩
 ·obtain ⟨v,oc,hoc,hod⟩:=I.cell x c (hin _ _ e);exact ⟨v,oc,kp _ _ hoc,hod⟩
 ·have hp':p∈X.pn++pins:=by simpa [blk] using hp
  obtain ⟨e,n,ne,nf,d⟩:=I.pin p hp';refine ⟨kp _ _ e,n,yr (yg e),λz=>?_,d⟩;rcases yo.mp (I.stkSub p.1 z) with q|q
  ·exact ne q
  ·exact nf q
 ·unfold Jzz;show (ini.map _).length=N.length;rw [yf];exact hlen.symm
end
end L2
namespace L2
open PySem PySem.Spec PyProof.Rows
section
variable {X:Cx} {elt iter tg:Expr} {ifs:List Expr} {sc:Scope} {pos:Pos} {N:List Str} {ini:List (Option Nat)} {wi:TI} {g:TG} {tt:TT} {te:TE}
theorem Juh {pins:List (Addr×Obj)} {σ:St} {H:Hp} {s:Shared} {Q:VK} {use:Option (Value->Sem Unit)} {Q':Value->Shared->Prop} {p:Pos} (hc:X.calm=true) (hi:PI X tg iter wi)
  (hsc:scB sc=true) (hfr:frB X.env.scope.names sc=true) (hlen:N.length=ini.length) (hini:iniB X.N N ini X.env.scope.names sc=true)
  (hg:∀C s H fp pn,PG (blk X sc N C s H fp pn) tg g) (ht:∀C s H fp pn,PIf (blk X sc N C s H fp pn) ifs tt) (he:∀C s H fp pn,PE (blk X sc N C s H fp pn) elt te)
  (hs:∀x,foldedSetIterable iter X.env x=pure x) (I:Inv X pins σ H s) (h:Yce wi ini g tt te σ H Q)
  (hfin:∀(D:Addr) (H':Hp) (s':Shared) (C:Addr) (m:Str->Option Value),Inv X pins σ H' s'->Jqy X pins H' C->s'.heap.Ns C m->Q (.ref D) H'->compPost (model X.prog X.w) X.A X.xe use Q' (.ref D) C (.ok .next) s'):
  wpAny (model X.prog X.w) X.A (comprehension (.ListComp elt [⟨tg,iter,ifs,0⟩] sc pos) sc X.env p (newList []) false (eval iter X.env) use) Q' X.xe s:=by
 have hsc':=hsc;unfold scB at hsc';rw [yag,yag] at hsc';obtain ⟨⟨hk0,hcell0⟩,hnames0⟩:=hsc';have hk:sc.kind= .function:=of_decide_eq_true hk0;have hcell:∀y∈sc.names,y.2≠ .cell:=λy hy=>of_decide_eq_true (yar.mp hcell0 y hy);have hnames:∀y∈sc.names,y.2= .local->sc.names.lookup y.1=some .local:=λy hy hl=>by
  have q:=yar.mp hnames0 y hy;rw [decide_eq_true hl] at q;exact of_decide_eq_true (by simpa using q)
 have hfrP:∀y∈sc.names,y.2= .free->X.env.kindOf y.1=some .cell\/X.env.kindOf y.1=some .free:=λy hy hl=>by
  have q:=yar.mp hfr y hy;rw [decide_eq_true hl] at q;have q2:decide (X.env.scope.names.lookup y.1=some .cell)=true\/decide (X.env.scope.names.lookup y.1=some .free)=true:=by simpa using q
  rcases q2 with z|z
  ·exact .inl (of_decide_eq_true z)
  ·exact .inr (of_decide_eq_true z)
 have hiniP:∀(i:Nat) (x:Str) (j:Nat),N[i]?=some x->ini[i]?=some (some j)->X.N[j]?=some x/\sc.names.lookup x=some .free/\(X.env.kindOf x=some .cell\/X.env.kindOf x=some .free):=λi x j e1 e2=>by
  have hm:(x,some j)∈N.zip ini:=by
   refine yaa (i:=i) ?_;rw [ycs];exact ⟨e1,e2⟩
  have q:=yar.mp hini _ hm;dsimp only at q;rw [yag,yag,Bool.or_eq_true] at q;obtain ⟨⟨q1,q2⟩,q3⟩:=q;refine ⟨of_decide_eq_true q1,of_decide_eq_true q2,?_⟩;rcases q3 with z|z
  ·exact .inl (of_decide_eq_true z)
  ·exact .inr (of_decide_eq_true z)
 refine wpAny_comprehension_free (use:=use) rfl hs (Jpj λy hy hl=>I.ok.has y.1 (hfrP y hy hl)) hk hnames ?_;refine thn (hi pins s σ H _ I h) λv s1 h1=>thn h1 λitv s2 h2=>?_;obtain ⟨it,fp,tn,J,H2,e,I2,T,st2,f2,step⟩:=h2;subst e;refine wpAny_newObj_type (wpAny_newFunctionEnv hcell (by intro y hy;simp at hy) (λh1 hns1 hsb1=>?_) hk);dsimp only at hns1 hsb1⊢;have hD:H2 s2.heap.objs.size=none:=I2.hok.fresh (yi _);have kp3:∀b o,s2.heap.get? b=some o->(s2.heap.push {cls:=.type "list",dict:=none,data:=.seq ([]:List Value).toArray}).get? b=some o:=λb o e=>yj _ e;have I3:Inv X pins σ (upd H2 s2.heap.objs.size (.lst [])) {s2 with heap:=s2.heap.push {cls:=.type "list",dict:=none,data:=.seq ([]:List Value).toArray}}:=
  I2.laid (t':=s2.toks) kp3 (yi _) ⟨yan _,[],0,.nil,yp _ rfl⟩
 obtain ⟨W,⟨m0,w0⟩,turn⟩:=step s2.heap.objs.size hD;generalize hs3:({s2 with heap:=s2.heap.push {cls:=.type "list",dict:=none,data:=.seq ([]:List Value).toArray}}:Shared)=s3 at I3;have e3h:s3.heap=s2.heap.push {cls:=.type "list",dict:=none,data:=.seq ([]:List Value).toArray}:=by rw [<-hs3]
 rw [<-e3h] at hns1 hsb1 kp3⊢;have sz3:s2.heap.objs.size < s3.heap.objs.size:=by rw [e3h,yad];exact ybh _
 have hf3:∀b∈fp,Jqy X pins (upd H2 s2.heap.objs.size (.lst [])) b/\b < s3.heap.objs.size:=λb hb=>by
  obtain ⟨o,eo,_⟩:=T.obj 0 _ st2 b hb;have lt:=yg eo;obtain ⟨f0,fr⟩:=f2 b hb;exact ⟨⟨by rw [Jjx (yr lt)];exact f0,fr⟩,ybp lt sz3⟩
 have kp4:∀b o,s3.heap.get? b=some o->h1.get? b=some o:=λb o e=>(hsb1.2 b (yr (yg e))).trans (yj _ e);have I4:Inv (blk X sc N s3.heap.objs.size s3 (upd H2 s2.heap.objs.size (.lst [])) fp (X.pn++pins)) [] (Jzz ini σ) (upd H2 s2.heap.objs.size (.lst [])) {s3 with heap:=h1,toks:=s3.toks+([]:List (Str×Value)).length}:=
  Ycx I3 hk hcell hfrP hf3 hlen hiniP hns1 kp4
 have st4:tn 0 h1:=T.keep 0 _ _ st2 λb hb o e=>kp4 b o (kp3 b o e);have e4s:({s2 with heap:=h1,toks:=s2.toks+([]:List (Str×Value)).length}:Shared)={s3 with heap:=h1,toks:=s3.toks+([]:List (Str×Value)).length}:=by rw [<-hs3]
 have stat:∀{H':Hp},(∀b∈fp,H' b=none)->∀b∈fp,Jqy (blk X sc N s3.heap.objs.size s3 (upd H2 s2.heap.objs.size (.lst [])) fp (X.pn++pins)) [] H' b:=λ{H'} hn b hb=>by
  obtain ⟨⟨f0,f1,f2',f3,f4,f5⟩,lt⟩:=hf3 b hb;refine ⟨hn b hb,yr lt,λz=>?_,.inl hb,λx c e=>f4 x c (Jn1 sc.names [] (λx c e=>by simp at e) x c e),λp hp=>f5 p (by simpa [blk] using hp)⟩;rcases yo.mp (I3.stkSub b z) with q|q
  ·exact f1 q
  ·exact f2' q
 have loop:∀s4:Shared,s4={s3 with heap:=h1,toks:=s3.toks+([]:List (Str×Value)).length}->codeAny (model X.prog X.w) X.A (.compLoop (.ListComp elt [⟨tg,iter,ifs,0⟩] sc pos) 0 (.ref it) (.ref s2.heap.objs.size) (compEnvC sc (Jm6 X.env.cells sc.names []) s3.heap.objs.size X.env))
   (compPost (model X.prog X.w) X.A X.xe use Q' (.ref s2.heap.objs.size) s3.heap.objs.size) s4:=by
  rintro s4 rfl;refine Jvd (λn s'=>∃i σ' H',Inv (blk X sc N s3.heap.objs.size s3 (upd H2 s2.heap.objs.size (.lst [])) fp (X.pn++pins)) [] σ' H' s'/\tn i s'.heap/\(∀b∈fp,H' b=none)/\W i n σ' H') ?_ m0
   ⟨0,_,_,I4,st4,λb hb=>(hf3 b hb).1.1,w0⟩
  rintro n s5 ⟨i,σ5,H5,I5,st5,fr5,w5⟩;rcases turn i n σ5 H5 w5 with ⟨stop,q⟩|⟨go,N',hN',step'⟩
  ·refine thn (T.done (blk X sc N s3.heap.objs.size s3 (upd H2 s2.heap.objs.size (.lst [])) fp (X.pn++pins)) rfl rfl rfl hc i [] s5 σ5 H5 _ I5 (stat fr5) st5 stop) λr s6 ⟨hr,I6⟩=>?_;subst hr;have un:Un (frs X.stack) fp H2 H5 s2.heap s6.heap:=(Un.laid (fs:=frs X.stack) (ex:=fp) kp3 (yi _) hD).trans I6.base;have os6:s6.os=s2.os:=I6.os.trans (show s3.os=s2.os by rw [<-hs3]);have IX:Inv X pins σ H5 s6:=I2.call' (ch:=fp) os6 un I6.hok I6.bare λb hb=>by
    obtain ⟨⟨f0,f1,f2',f3,f4,f5⟩,lt⟩:=hf3 b hb;exact ⟨f3,f1,f4,f5⟩
   obtain ⟨m,hm,_⟩:=I6.loc;exact hfin _ H5 s6 s3.heap.objs.size m IX (I2.fpOk (yaq sz3) I6.free) hm q
  ·refine thn (T.item (blk X sc N s3.heap.objs.size s3 (upd H2 s2.heap.objs.size (.lst [])) fp (X.pn++pins)) rfl rfl rfl hc i [] s5 σ5 H5 _ I5 (stat fr5) st5 go) λr s6 ⟨u,hr,h6⟩=>?_;subst hr;refine thn h6 λ_ s7 zq=>?_;obtain ⟨x,H7,I7,r7,y7,st7,fr7⟩:=zq;have I7':=I7.pinned (stat fr7) (T.obj _ _ st7);refine thn (hg _ _ _ _ _ _ s7 σ5 H7 x u _ I7' r7 (step' x H7 y7)) λ_ s8 zq=>?_;obtain ⟨σ8,H8,I8,q8⟩:=zq;refine thn (ht _ _ _ _ _ _ s8 σ8 H8 _ I8 q8) λok s9 zq=>?_;obtain ⟨H9,I9,q9⟩:=zq;have again:∀{σ':St} {H':Hp} {s':Shared},Inv (blk X sc N s3.heap.objs.size s3 (upd H2 s2.heap.objs.size (.lst [])) fp (X.pn++pins)) ([]++Jt6 fp s7.heap) σ' H' s'->N' σ' H'->
     ∃m,m < n/\∃i σ' H',Inv (blk X sc N s3.heap.objs.size s3 (upd H2 s2.heap.objs.size (.lst [])) fp (X.pn++pins)) [] σ' H' s'/\tn i s'.heap/\(∀b∈fp,H' b=none)/\W i m σ' H':=λ{σ' H' s'} J n'=>by
    obtain ⟨m',hm,w'⟩:=hN' σ' H' n';refine ⟨m',hm,i+1,σ',H',J.unpinned,T.keep _ _ _ st7 λb hb o e=>(J.pin (b,o) (ybi _ (ybi _ (Jnx hb e)))).1,λb hb=>?_,w'⟩;obtain ⟨o,e,d⟩:=T.obj _ _ st7 b hb;exact (J.pin (b,o) (ybi _ (ybi _ (Jnx hb e)))).2.1
   cases ok with
   |false=>
    rw [if_neg yab] at q9⊢;exact again I9 q9
   |true=>
    rw [if_pos rfl] at q9⊢;refine thn (he _ _ _ _ _ _ s9 σ8 H9 _ I9 q9) λv10 s10 zq=>?_;obtain ⟨x10,H10,I10,r10,ys,hys,hyl,q10⟩:=zq;refine thn (Jmk _ s10 σ8 H10 (.ref s2.heap.objs.size) [x10] _ [v10] (λ_ H'=>N' σ8 H') I10 rfl (.cons r10 .nil) ⟨_,ys,x10,rfl,rfl,hys,hyl,q10⟩) λ_ s11 zq=>?_;obtain ⟨_,H11,I11,_,q11⟩:=zq;exact again I11 q11
 have fin:=codeAny_compStart_list (R:=compPost (model X.prog X.w) X.A X.xe use Q' (.ref s2.heap.objs.size) s3.heap.objs.size) (loop _ rfl) (T.self X.A 0 {s3 with heap:=h1,toks:=s3.toks+([]:List (Str×Value)).length} _ _ st4 (loop _ rfl));rw [<-e4s] at fin;exact fin
theorem Jkl (hc:X.calm=true) (hi:PI X tg iter wi) (hg:∀C s H fp pn,PG (blk X sc N C s H fp pn) tg g) (ht:∀C s H fp pn,PIf (blk X sc N C s H fp pn) ifs tt) (he:∀C s H fp pn,PE (blk X sc N C s H fp pn) elt te)
  (hsc:scB sc=true:=by rfl) (hfr:frB X.env.scope.names sc=true:=by rfl) (hlen:N.length=ini.length:=by rfl) (hini:iniB X.N N ini X.env.scope.names sc=true:=by rfl)
  (hs:∀x,foldedSetIterable iter X.env x=pure x:=by intro _;rfl):PE X (.ListComp elt [⟨tg,iter,ifs,0⟩] sc pos) (Yce wi ini g tt te):=by
 intro pins s σ H Q I h;rw [eval_ListComp];refine Juh (use:=none) hc hi hsc hfr hlen hini hg ht he hs I h λD H' s' C m I' f hn q=>?_;obtain ⟨f0,f1,f2,f3,f4,f5⟩:=f;exact ⟨m,hn,λh' sb=>⟨.ref D,H',I'.turned (it:=C) (t':=s'.toks) (λb o hb e=>(sb.2 b hb).trans e) f0 f1 f3 f4 f5,rfl,q⟩⟩
noncomputable def tSetC (i:Nat) (te:TE):TS:=λD σ H=>te σ H λv H1=>D.nx (σ.set i (some v)) H1
theorem Jnz {i:Nat} {y:Str} {py spos:Pos} (hN:X.N.Nodup) (hiy:X.N[i]?=some y) (hx:Loc X.env.scope y) (hc:X.calm=true) (hi:PI X tg iter wi) (hg:∀C s H fp pn,PG (blk X sc N C s H fp pn) tg g) (ht:∀C s H fp pn,PIf (blk X sc N C s H fp pn) ifs tt) (he:∀C s H fp pn,PE (blk X sc N C s H fp pn) elt te)
  (hf:X.fn y=true\/X.env.scope.names.lookup y=some .local:=by first|exact .inl rfl|exact .inr rfl|assumption)
  (hsw:swapsWith (.ListComp elt [⟨tg,iter,ifs,0⟩] sc pos) (some (.Name y py)) spos.line X.env=pure true:=by rfl)
  (hsc:scB sc=true:=by rfl) (hfr:frB X.env.scope.names sc=true:=by rfl) (hlen:N.length=ini.length:=by rfl) (hini:iniB X.N N ini X.env.scope.names sc=true:=by rfl)
  (hs:∀x,foldedSetIterable iter X.env x=pure x:=by intro _;rfl):PS X (.Assign [.Name y py] (.ListComp elt [⟨tg,iter,ifs,0⟩] sc pos) spos) (tSetC i (Yce wi ini g tt te)):=by
 intro pins s σ H D I h;rw [exec_Assign_Name_used _ _ _ _ hsw];refine wpAny_bind (wpAny_standAt (wpAny_bind ?_));show wpAny _ X.A (do let _<-comprehension (.ListComp elt [⟨tg,iter,ifs,0⟩] sc pos) sc X.env _ (newList []) false (eval iter X.env) (some (assign (.Name y py) X.env))) _ _ s;refine wpAny_bind (wpAny_mono (Juh (use:=some (assign (.Name y py) X.env)) (Q':=λ_ s'=>SP X pins D .next s') hc hi hsc hfr hlen hini hg ht he hs I h λD' H' s' C m I' f hn q=>?_) (λ_ s' hq=>wpAny_pure (wpAny_pure hq)) λ_ _ e=>e);obtain ⟨f0,f1,f2,f3,f4,f5⟩:=f;show wpAny _ X.A (assign (.Name y py) X.env (.ref D')) _ _ _;refine wpAny_assign_Name (Jv4 I' hN hiy hx (v:=.ref D') rfl (λs'' I'' sb=>?_) hf);obtain ⟨a,sb,ha⟩:=sb;have hCa:C≠a:=by
  rcases ha with z|z
  ·rw [z];exact f1
  ·exact λe=>f4 y a z e.symm
 refine ⟨m,hn.sameBut sb hCa,λh' sb'=>⟨_,H',I''.turned (it:=C) (t':=s''.toks) (λb o hb e=>(sb'.2 b hb).trans e) f0 f1 f3 f4 f5,q⟩⟩
end
section
variable {g:TG} {tt:TT} {te:TE} {H:Hp} {D:Addr} {σ:St} {R:Hp->Prop}
theorem Jm3 {lo:Int} {n:Nat} (Pv:Nat->St->Hp->Prop) (h0:Pv 0 σ H)
  (hs:∀i σ H,i < n->Pv i σ H->g (.int (lo+i)) σ H λσ3 H3=>tt σ3 H3 λb H4=>if b=true then te σ3 H4 (λv H5=>∃ys,H5 D=some (.lst ys)/\ys.length < sizeLine/\Pv (i+1) σ3 (upd H5 D (.lst (ys++ [v])))) else Pv (i+1) σ3 H4)
  (hd:∀σ H,Pv n σ H->R H):
  ∃W:Nat->Nat->St->Hp->Prop,(∃m,W 0 m σ H)/\∀i m σ' H',W i m σ' H'->((Itr lo n).stop i H'/\R H')\/((Itr lo n).go i H'/\∃N:St->Hp->Prop,(∀σ2 H2,N σ2 H2->∃m',m' < m/\W (i+1) m' σ2 H2)/\
   ∀x H2,(Itr lo n).yld i H' x H2->g x σ' H2 λσ3 H3=>tt σ3 H3 λb H4=>if b=true then te σ3 H4 (λv H5=>∃ys,H5 D=some (.lst ys)/\ys.length < sizeLine/\N σ3 (upd H5 D (.lst (ys++ [v])))) else N σ3 H4):=by
 refine ⟨λi m σ H=>m=n - i/\i<=n/\Pv i σ H,⟨n,by simp,yan _,h0⟩,?_⟩;rintro i m σ H ⟨rfl,hi,p⟩;by_cases hlt:i < n
 ·refine .inr ⟨hlt,Pv (i+1),λσ' H' p'=>⟨n - (i+1),by omega,rfl,hlt,p'⟩,λx H' y=>?_⟩;obtain ⟨e,y⟩:=y;subst e y;exact hs i σ _ hlt p
 ·have e:i=n:=by omega
  subst e;exact .inl ⟨yi _,hd σ H p⟩
theorem Jlf {K:PySem.W.Frag} {a:Addr} {xs:List V} (Pv:Nat->St->Hp->Prop) (h0:Pv 0 σ H) (hl:∀i σ H,i<=xs.length->Pv i σ H->SqL K H a xs)
  (hs:∀i x σ H,xs[i]?=some x->Pv i σ H->g x σ H λσ3 H3=>tt σ3 H3 λb H4=>if b=true then te σ3 H4 (λv H5=>∃ys,H5 D=some (.lst ys)/\ys.length < sizeLine/\Pv (i+1) σ3 (upd H5 D (.lst (ys++ [v])))) else Pv (i+1) σ3 H4)
  (hd:∀σ H,Pv xs.length σ H->R H):
  ∃W:Nat->Nat->St->Hp->Prop,(∃m,W 0 m σ H)/\∀i m σ' H',W i m σ' H'->((Itl K a).stop i H'/\R H')\/((Itl K a).go i H'/\∃N:St->Hp->Prop,(∀σ2 H2,N σ2 H2->∃m',m' < m/\W (i+1) m' σ2 H2)/\
   ∀x H2,(Itl K a).yld i H' x H2->g x σ' H2 λσ3 H3=>tt σ3 H3 λb H4=>if b=true then te σ3 H4 (λv H5=>∃ys,H5 D=some (.lst ys)/\ys.length < sizeLine/\N σ3 (upd H5 D (.lst (ys++ [v])))) else N σ3 H4):=by
 refine ⟨λi m σ H=>m=xs.length - i/\i<=xs.length/\Pv i σ H,⟨xs.length,by simp,yan _,h0⟩,?_⟩;rintro i m σ H ⟨rfl,hi,p⟩;have q:=hl i σ H hi p;by_cases hlt:i < xs.length
 ·refine .inr ⟨⟨xs,xs[i],q,by simp [hlt]⟩,Pv (i+1),λσ' H' p'=>⟨xs.length - (i+1),by omega,rfl,hlt,p'⟩,λx H' y=>?_⟩;obtain ⟨e,y⟩:=y;subst e;exact hs i x σ _ (y xs q) p
 ·have e:i=xs.length:=by omega
  subst e;exact .inl ⟨⟨xs,q,yi _⟩,hd σ H p⟩
end
theorem Jl1 {i:Nat} {v:V} {σ:St} {H:Hp} {A B:St->Hp->Prop} (h:A (σ.set i (some v)) H):Jnn i v σ H λσ3 H3=>Ya3 σ3 H3 λb H4=>if b=true then A σ3 H4 else B σ3 H4:=by
 show if true=true then A (σ.set i (some v)) H else B (σ.set i (some v)) H
 rw [if_pos rfl];exact h
noncomputable def sgn (c:Nat):V:=.str ⟨#[c]⟩
noncomputable def Its (z:Str):It:=⟨λi _=>i < z.cps.size,λi H x H'=>H'=H/\∃c,z.cps[i]?=some c/\x=sgn c,λi _=>z.cps.size=i⟩
noncomputable def iStr (tl:TE):TI:=λσ H R=>tl σ H λx H1=>∃z,x= .str z/\R (Its z) H1
theorem Jxq {P:Program} {w:World} {K:PySem.W.Frag} {tg:Expr} {z:Str} {it:Addr} {n:String} {fl:Nat->Array Value} {St:Nat->Heap->Prop}
  (Wk:∀A':Around,A'.handled=none->Walks P w A' it [it] [it] z.cps.size (SignAt z) St) (hst:∀i h,St i h->∃o,h.get? it=some o/\o.cls= .type n/\∃a,o.data= .fields a)
  (hn: ["enumerate","zip","dict_itemiterator","dict_reverseitemiterator","odict_iterator","itertools.zip_longest","itertools.pairwise"].contains n=false)
  (hself:∀(A:Around) (i:Nat) (s:Shared) (Q:Value->Shared->Prop) (E:Value->Shared->Prop),St i s.heap->Q (.ref it) s->wpAny (model P w) A (pyIter (.ref it)) Q E s):Jqz P w K tg (Its z) [it] it St where
 mem:=by simp
 obj:=λi h st b hb=>by
  have e:b=it:=by simpa using hb
  subst e;obtain ⟨o,e,_,a,d⟩:=hst i h st;exact ⟨o,e,λv z=>by rw [d] at z;cases z⟩
 keep:=λi h h' st k=>by
  have W0:=Wk callerA rfl;exact W0.frame i h h' st λb hb o e=>k b hb o e
 item:=by
  intro X hP hw hK hc i pins s σ H E I hf st hg;subst hP hw hK;obtain ⟨f0,f1,f2,f3,f4,f5⟩:=hf it (by simp);have W:=Wk X.A (I.ok.hd hc);refine W.item i s _ _ hg st λv h' tk hv st' kk=>?_;obtain ⟨c,u,hcp,rfl⟩:=hv;have I1:Inv X pins σ H {s with heap:=h',toks:=tk}:=I.turned (λb o hb e=>kk b o (by simpa using hb) e) f0 f1 f3 f4 f5;obtain ⟨o,e,cl,a,d⟩:=hst _ _ st';exact ⟨_,rfl,Jws (s:={s with heap:=h',toks:=tk}) e cl d hn ⟨sgn c,H,I1,⟨u,rfl⟩,⟨rfl,c,hcp,rfl⟩,st',λb hb=>(hf b hb).1⟩⟩
 done:=by
  intro X hP hw hK hc i pins s σ H E I hf st hg;subst hP hw hK;obtain ⟨f0,f1,f2,f3,f4,f5⟩:=hf it (by simp);have W:=Wk X.A (I.ok.hd hc);have hg':z.cps.size=i:=hg;subst hg';exact W.done s _ _ st λh' tk kk=>⟨rfl,I.turned (λb o hb e=>kk b o (by simpa using hb) e) f0 f1 f3 f4 f5⟩
 self:=hself
theorem pi_str {X:Cx} {tg l:Expr} {tl:TE} (hl:PE X l tl):PI X tg l (iStr tl):=by
 intro pins s σ H R I h;refine thn (hl pins s σ H _ I h) λv s1 zq=>?_;obtain ⟨x,H1,I1,r1,z,e,q⟩:=zq;subst e;obtain ⟨t,rfl⟩:=r1;have fin:∀(o:Obj) (St:Nat->Heap->Prop) (n:String),Jqz X.prog X.w X.K tg (Its z) [s1.heap.objs.size] s1.heap.objs.size St->St 0 (s1.heap.push o)->PIE X pins σ tg R (.ref s1.heap.objs.size) {s1 with heap:=s1.heap.push o}:=λo St n T st0=>by
  refine ⟨s1.heap.objs.size,[s1.heap.objs.size],St,Its z,H1,rfl,I1.kept (t':=s1.toks) λb o e=>yj _ e,T,st0,λb hb=>?_,q⟩;have e:b=s1.heap.objs.size:=by simpa using hb
  subst e;exact I1.fpOk (yi _) (I1.hok.fresh (yi _))
 cases ha:z.cps.all (· < 128)
 ·refine wpAny_pyIter_wide ha (fin _ (λi h=>h.IsStrIter s1.heap.objs.size "str_iterator" z t i) "str_iterator" (Jxq (n:="str_iterator") (fl:=λ_=>#[]) (λA' hA=>Walks.strWide hA _ z t) (λi h st=>?_) (by decide) (λA i s Q E st q=>wpAny_pyIter_striter_wide st q)) ⟨_,yp _ rfl,rfl,rfl⟩);obtain ⟨o,e,c,d⟩:=st;exact ⟨o,e,c,_,d⟩
 ·refine wpAny_pyIter_ascii ha (fin _ (λi h=>h.IsStrIter s1.heap.objs.size "str_ascii_iterator" z t i) "str_ascii_iterator" (Jxq (n:="str_ascii_iterator") (fl:=λ_=>#[]) (λA' hA=>Walks.strAscii hA _ z t) (λi h st=>?_) (by decide) (λA i s Q E st q=>wpAny_pyIter_striter_ascii st q)) ⟨_,yp _ rfl,rfl,rfl⟩);obtain ⟨o,e,c,d⟩:=st;exact ⟨o,e,c,_,d⟩
theorem Yal {z:Str} {g:TG} {tt:TT} {te:TE} {H:Hp} {D:Addr} {σ:St} {R:Hp->Prop} (Pv:Nat->St->Hp->Prop) (h0:Pv 0 σ H)
  (hs:∀i c σ H,z.cps[i]?=some c->Pv i σ H->g (sgn c) σ H λσ3 H3=>tt σ3 H3 λb H4=>if b=true then te σ3 H4 (λv H5=>∃ys,H5 D=some (.lst ys)/\ys.length < sizeLine/\Pv (i+1) σ3 (upd H5 D (.lst (ys++ [v])))) else Pv (i+1) σ3 H4)
  (hd:∀σ H,Pv z.cps.size σ H->R H):
  ∃W:Nat->Nat->St->Hp->Prop,(∃m,W 0 m σ H)/\∀i m σ' H',W i m σ' H'->((Its z).stop i H'/\R H')\/((Its z).go i H'/\∃N:St->Hp->Prop,(∀σ2 H2,N σ2 H2->∃m',m' < m/\W (i+1) m' σ2 H2)/\
   ∀x H2,(Its z).yld i H' x H2->g x σ' H2 λσ3 H3=>tt σ3 H3 λb H4=>if b=true then te σ3 H4 (λv H5=>∃ys,H5 D=some (.lst ys)/\ys.length < sizeLine/\N σ3 (upd H5 D (.lst (ys++ [v])))) else N σ3 H4):=by
 refine ⟨λi m σ H=>m=z.cps.size - i/\i<=z.cps.size/\Pv i σ H,⟨z.cps.size,by simp,yan _,h0⟩,?_⟩;rintro i m σ H ⟨rfl,hi,p⟩;by_cases hlt:i < z.cps.size
 ·refine .inr ⟨hlt,Pv (i+1),λσ' H' p'=>⟨z.cps.size - (i+1),by omega,rfl,hlt,p'⟩,λx H' y=>?_⟩;obtain ⟨e,c,hcp,y⟩:=y;subst e y;exact hs i c σ _ hcp p
 ·have e:i=z.cps.size:=by omega
  subst e;exact .inl ⟨rfl,hd σ H p⟩
end L2
namespace L2
open PySem PySem.Spec PyProof.Rows
section
variable {X:Cx}
theorem Jop:OpR X (binaryOp .FloorDiv) (rI (λ_ j=>0 < j/\j.natAbs.log2 < 9000) λi j=>.int (i/j)):=opI λi j _ _ _ _ _ hc q=>by
 have h1:(0:Int) < j:=hc.1;exact floordiv_int (by omega) (by rw [Int.fdiv_eq_ediv_of_nonneg i (by omega)];exact q) (.inl (PyProof.noPylong_of_log2 hc.2))
noncomputable def clsV:V->Option Value
 | .ty n=>some (.type n)
 | .ref a=>some (.ref a)
 |_=>none
noncomputable def rAll (K:PySem.W.Frag):List V->Hp->VK->Prop:=λxs H Q=>∃(a:Addr) (bs:List Bool),xs= [.ref a]/\SqL K H a (bs.map V.bl)/\Q (.bl (bs.all id)) H
theorem Jmz (hc:X.calm=true):Jlv X (.builtin "all") (rAll X.K):=by
 intro pins s σ H xs us Q I r h;obtain ⟨a,bs,rfl,hq,q⟩:=h;obtain ⟨u,rfl,ru⟩:=Jms r;cases ru;obtain ⟨its,rv,pl,hz⟩:=I.list hq;have hlen:=rv.length;refine call_all_walk (wpAny_pyIter_list pl.isList ⟨s.heap.objs.size,[s.heap.objs.size,a],[s.heap.objs.size],its.toArray.size,_,_,λi=>bs.getD i true,rfl,Walks.list (prog:=X.prog) (w:=X.w) (A:=X.A.in1) (show X.A.in1.handled=none from I.ok.hd hc) s.heap.objs.size a ?_ its.toArray,⟨⟨_,yp _ rfl,rfl,rfl⟩,pl.isList.at λo e=>yj _ e⟩,?_,λh' tk k=>?_⟩)
 ·obtain ⟨o,_,e,_⟩:=pl;exact yr (yg e)
 ·intro i v s' Q' E' hv hq';have hv':its[i]?=some v:=by simpa using hv
  have hi:i < its.length:=(yq.mp hv').1;have hb:i < bs.length:=by rw [yf] at hlen;omega
  obtain ⟨u',hu',ru'⟩:=rv.get (i:=i) (x:=V.bl bs[i]) (by rw [ym,yn hb];rfl);rw [hv'] at hu';cases hu';cases ru';refine wpAny_truthy_bool ?_;have:bs.getD i true=bs[i]:=by rw [yy,yn hb];rfl
  rw [<-this];exact hq'
 ·have e:((yt its.toArray.size).all λi=>bs.getD i true)=bs.all id:=by
   have hl2:its.toArray.size=bs.length:=by rw [yf] at hlen;rw [yu];exact hlen.symm
   rw [hl2,ybn,yar,yar];constructor
   ·intro hh b hb;obtain ⟨i,hi,rfl⟩:=List.getElem_of_mem hb;have:=hh i (yac.mpr hi);rw [yy,yn hi] at this;exact this
   ·intro hh i hi;have hi':=yac.mp hi;rw [yy,yn hi'];exact hh _ (ybu hi')
  rw [e];exact ⟨.bl _,H,I.kept λb o e=>k b o (λz=>by
   have z':b=s.heap.objs.size:=by simpa using z
   exact absurd (yg e) (by rw [z'];exact yay _)) (yj _ e),rfl,q⟩
end
mutual
inductive DatV (K:PySem.W.Frag) (H:Hp):V->PyData->Prop
 |non:DatV K H .non .none
 |bl (b:Bool):DatV K H (.bl b) (.bool b)
 |int (i:Int):DatV K H (.int i) (.int i)
 |str (z:Str):DatV K H (.str z) (.str z)
 |lst {a:Addr} {xs:List V} {ds:List PyData}:SqL K H a xs->DatVs K H xs ds->DatV K H (.ref a) (.list ds)
 |tup {a:Addr} {xs:List V} {ds:List PyData}:SqT K H a xs->DatVs K H xs ds->DatV K H (.ref a) (.tuple ds)
inductive DatVs (K:PySem.W.Frag) (H:Hp):List V->List PyData->Prop
 |nil:DatVs K H [] []
 |cons {x:V} {d:PyData} {xs:List V} {ds:List PyData}:DatV K H x d->DatVs K H xs ds->DatVs K H (x::xs) (d::ds)
end
section
variable {X:Cx} {pins:List (Addr×Obj)} {σ:St} {H:Hp} {s:Shared}
mutual
theorem DatV.reads (I:Inv X pins σ H s):∀{x:V} {d:PyData},DatV X.K H x d->∀{v:Value},RelV x v->∃as,Reads s.heap v d as
 |_,_,.non,_,r=>by cases r;exact ⟨_,.none⟩
 |_,_,.bl b,_,r=>by cases r;exact ⟨_,.bool b⟩
 |_,_,.int i,_,r=>by obtain ⟨t,rfl⟩:=r;exact ⟨_,.int i t⟩
 |_,_,.str z,_,r=>by obtain ⟨t,rfl⟩:=r;exact ⟨_,.str z t⟩
 |_,_,.lst (a:=a) hq hd,_,r=>by
  cases r;obtain ⟨its,rv,⟨o,n,e,c,dd,dt⟩,_⟩:=I.list hq;obtain ⟨as,ra⟩:=DatVs.reads I hd rv;exact ⟨_,.list e c dt (by simpa using ra)⟩
 |_,_,.tup (a:=a) hq hd,_,r=>by
  cases r;obtain ⟨its,rv,⟨o,e,c,n,dt⟩,_⟩:=I.tuple hq;obtain ⟨as,ra⟩:=DatVs.reads I hd rv;exact ⟨_,.tuple e c dt (by simpa using ra)⟩
theorem DatVs.reads (I:Inv X pins σ H s):∀{xs:List V} {ds:List PyData},DatVs X.K H xs ds->∀{us:List Value},Vals xs us->∃as,ReadsAll s.heap us ds as
 |_,_,.nil,_,r=>by cases r;exact ⟨_,.nil⟩
 |_,_,.cons h t,_,r=>by
  cases r with
  |cons r1 r2=>
   obtain ⟨as,ra⟩:=DatV.reads I h r1;obtain ⟨bs,rb⟩:=DatVs.reads I t r2;exact ⟨_,.cons ra rb⟩
end
noncomputable def rEqD (K:PySem.W.Frag) (neg:Bool):R2:=λx y H Q=>∃d e,DatV K H x d/\DatV K H y e/\SeqAt.shaped d=true/\SeqAt.shaped e=true/\Q (.bl (if neg then !PyData.eqv d e else PyData.eqv d e)) H
theorem op_eqD (hu:X.A.units+64 < cLine):OpR X (compareOp .Eq) (rEqD X.K false):=by
 intro pins s σ H x y v u Q I rx ry h;obtain ⟨d,e,hd,he,sd,se,q⟩:=h;obtain ⟨as,ra⟩:=hd.reads I rx;obtain ⟨bs,rb⟩:=he.reads I ry;exact eq_dataH ra rb sd se hu (Jkm I q rfl)
theorem Jyi (hu:X.A.units+64 < cLine):OpR X (compareOp .NotEq) (rEqD X.K true):=by
 intro pins s σ H x y v u Q I rx ry h;obtain ⟨d,e,hd,he,sd,se,q⟩:=h;obtain ⟨as,ra⟩:=hd.reads I rx;obtain ⟨bs,rb⟩:=he.reads I ry;exact ne_dataH ra rb sd se hu (Jkm I q rfl)
end
end L2
namespace L2
open PySem PySem.Spec PyProof.Rows
theorem Jka:bootBuiltins "isinstance" =some (.builtin "isinstance"):=by decide +kernel
theorem Jkw:bootBuiltins "len" =some (.builtin "len"):=by decide +kernel
theorem Jpt:bootBuiltins "max" =some (.builtin "max"):=by decide +kernel
theorem Jo7:bootBuiltins "min" =some (.builtin "min"):=by decide +kernel
theorem Jpr:bootBuiltins "all" =some (.builtin "all"):=by decide +kernel
theorem Jps:bootBuiltins "int" =some (.type "int"):=by decide +kernel
theorem bt_str:bootBuiltins "str" =some (.type "str"):=by decide +kernel
theorem Jz7:bootBuiltins "bool" =some (.type "bool"):=by decide +kernel
theorem Jp3:bootBuiltins "list" =some (.type "list"):=by decide +kernel
theorem Jl7:bootBuiltins "tuple" =some (.type "tuple"):=by decide +kernel
structure FT (K:PySem.W.Frag) (mg:Str->Option Value) (x:Str) (st:Stmt) (ps:List Str) (f:Addr) (fd:FuncData):Prop where
 mgx:mg x=some (.ref f)
 fn:Fun K x x st f fd
 bd:Binds K fd ps []
section
variable {X:Cx} {x:Str} {st:Stmt} {ps:List Str} {f:Addr} {fd:FuncData} {sp:Sp} {k j:Nat} {p pos:Pos} {e:Expr} {es:List Expr} {t:TA}
theorem Jjw (F:FT X.K X.mg x st ps f fd) (G:FnOk X.prog X.w X.K X.mg X.base CX0 k f fd ps sp) (hr:Room j X.A) (hk:k<=j) (ha:PA X (e::es) t) (hg:Gl X x:=by rfl) (hdb:(x==("__debug__" :Str))=false:=by decide)
  (he:starEach (e::es) X.env=(false,eval e X.env)::starEach es X.env:=by rfl) (hpl:(backTo pos (starEach es X.env)).any (·.1)=false:=by rfl):PE X (.Call (.Name x p) (e::es) [] pos) (tCall sp [] E0 t):=
 Ydh G (hr.mono hk) hg F.mgx F.fn.kp F.bd .nil Jql ha hdb he hpl
end
theorem Same.upd {H:Hp} {D:Addr} {o:HO} (h:H D=none):Same H (upd H D o):=λb u e=>by rw [Jjx (Jjy e h)];exact e
noncomputable def Strm (H:Hp) (p:Addr):Prop:=∃a b c:Int,H p=some (.lst [.int a,.int b,.int c])
noncomputable def But (p:Addr) (H H':Hp):Prop:=(∀b o,b≠p->H b=some o->H' b=some o)/\Strm H' p
theorem But.trans {p:Addr} {H H1 H2:Hp} (a:But p H H1) (b:But p H1 H2):But p H H2:=⟨λc o n e=>b.1 c o n (a.1 c o n e),b.2⟩
theorem But.refl {p:Addr} {H:Hp} (s:Strm H p):But p H H:=⟨λ_ _ _ e=>e,s⟩
theorem But.same {p:Addr} {H H1 H2:Hp} (a:But p H H1) (b:Same H1 H2):But p H H2:=⟨λc o n e=>b c o (a.1 c o n e),let ⟨x,y,z,e⟩:=a.2;⟨x,y,z,b p _ e⟩⟩
theorem Strm.same {p:Addr} {H H1:Hp} (a:Strm H p) (b:Same H H1):Strm H1 p:=by obtain ⟨x,y,z,e⟩:=a;exact ⟨x,y,z,b p _ e⟩
theorem But.free {p:Addr} {H H':Hp} (s:Strm H p) (b:But p H H') {D:Addr} (h:H' D=none):H D=none:=by
 by_cases e:D=p
 ·obtain ⟨x,y,z,q⟩:=b.2;rw [e,q] at h;cases h
 ·cases q:H D with
  |none=>rfl
  |some o=>
   rw [b.1 D o e q] at h;cases h
theorem But.updD {p D:Addr} {H H':Hp} {o:HO} (b:But p H H') (hD:H D=none) (ne:D≠p):But p H (upd H' D o):=by
 refine ⟨λc u n e=>?_,?_⟩
 ·rw [Jjx (Jjy e hD)];exact b.1 c u n e
 ·obtain ⟨x,y,z,q⟩:=b.2;exact ⟨x,y,z,by rw [Jjx (yk ne)];exact q⟩
theorem Strm.ne {p D:Addr} {H:Hp} (s:Strm H p) (hD:H D=none):D≠p:=by
 obtain ⟨x,y,z,q⟩:=s;exact (Jjy q hD).symm
theorem Jne {p:Addr} {H:Hp} {a:Addr} {o:HO} (s:Strm H p) (h:H a=some o) (hn:∀x y z:Int,o≠ .lst [.int x,.int y,.int z]):a≠p:=by
 intro e;obtain ⟨x,y,z,q⟩:=s;rw [e,q] at h;exact hn x y z (yae.inj h).symm
noncomputable def spTake:Sp:=λvs H Q _=>∃(p:Addr) (m:Int),vs= [.ref p,.int m]/\Strm H p/\0 < m/\m.natAbs.log2 < 9000/\∀(r:Int) (H':Hp),0<=r->r < m->But p H H'->Q (.int r) H'
noncomputable def Yc9:Sp:=λvs H Q _=>∃c:Int,vs= [.int c]/\∀(p:Addr) (H':Hp),H p=none->Same H H'->Strm H' p->Q (.ref p) H'
noncomputable def spCell (K:PySem.W.Frag):Sp:=λvs H Q _=>∃(a:Addr) (ns:List Int) (k:Nat),vs= [.ref a,.int k]/\SqL K H a (ns.map V.int)/\∀n:Int,Q (.int n) H
theorem Jze {ns:List Int} {k:Nat} (h:k < ns.length):atI (ns.map V.int) (k:Int)=some (.int ns[k]):=Jl8 (by rw [ym,yn h];rfl)
theorem Jvh {A:Around} {k:Nat} (hr:Room k A):A.units+64 < cLine:=hr.units
end L2
namespace L2
open PySem PySem.Spec PyProof.Rows Builtin Builtin.ObjectAttr
noncomputable abbrev VEm:List Value:=[.type "ValueError",.type "Exception",.type "BaseException",.type "object"]
noncomputable def xcB (K:PySem.W.Frag) (C fI:Addr):Bool:=
 PySem.W.findIn K (.ref C) "__getattribute__" ==some (some (.builtin "BaseException.__getattribute__"))&&PySem.W.findIn K (.ref C) "__getattr__" ==some none&&PySem.W.findIn K (.ref C) "__setattr__" ==some (some (.builtin "object.__setattr__"))&&
 PySem.W.findIn K (.ref C) "__init__" ==some (some (.ref fI))&&PySem.W.typeIn K (.ref fI)==some (.type "function")&&PySem.W.keepIn K (.ref C)&&PySem.W.hasDictIn K C&&PySem.W.mroIn K C (.type "BaseException")==some true&&PySem.W.mroIn K C (.type "object")==some true&&
 PySem.W.findIn K (.ref C) "__class__" ==some (some (.builtin "object.__class__"))&&PySem.W.specialIn K (.builtin "object.__class__") "__get__" ==some (some (.builtin "getset_descriptor.__get__"))&&PySem.W.takesIn K (.builtin "object.__class__")==some true
structure XCls (K:PySem.W.Frag) (C W fI:Addr):Prop where
 obj:∃(nm q:Str) (N:Addr) (bs:List Value) (sn:List Str) (sub:List Value) (ab:Bool) (col:Option Bool) (dd:Option Addr) (k0 k1 k2 k3 k5:Option Value),
  K.lookup C=some (excClassObj nm q C N bs (.ref W::VEm) true sn sub ab col dd k0 k1 k2 k3 k5 "ValueError.__new__")
 tl:PySem.W.tailIn K VEm (.ref W::VEm)=true
 all:xcB K C fI=true
theorem Jl9 {K:PySem.W.Frag} {C fI:Addr} (h:xcB K C fI=true):
  (PySem.W.findIn K (.ref C) "__getattribute__" =some (some (.builtin "BaseException.__getattribute__"))/\PySem.W.findIn K (.ref C) "__getattr__" =some none/\PySem.W.findIn K (.ref C) "__setattr__" =some (some (.builtin "object.__setattr__")))/\
  (PySem.W.findIn K (.ref C) "__init__" =some (some (.ref fI))/\PySem.W.typeIn K (.ref fI)=some (.type "function")/\PySem.W.keepIn K (.ref C)=true/\PySem.W.hasDictIn K C=true)/\PySem.W.mroIn K C (.type "BaseException")=some true/\PySem.W.mroIn K C (.type "object")=some true/\
  PySem.W.findIn K (.ref C) "__class__" =some (some (.builtin "object.__class__"))/\PySem.W.specialIn K (.builtin "object.__class__") "__get__" =some (some (.builtin "getset_descriptor.__get__"))/\PySem.W.takesIn K (.builtin "object.__class__")=some true:=by
 unfold xcB at h;simp only [yag,beq_iff_eq] at h;obtain ⟨⟨⟨⟨⟨⟨⟨⟨⟨⟨⟨a,b⟩,c⟩,d⟩,e⟩,f⟩,g⟩,i⟩,j⟩,k⟩,l⟩,m⟩:=h;exact ⟨⟨a,b,c⟩,⟨d,e,f,g⟩,i,j,k,l,m⟩
section
variable {K:PySem.W.Frag} {C W fI:Addr} (c:XCls K C W fI)
include c
theorem XCls.ga:PySem.W.findIn K (.ref C) "__getattribute__" =some (some (.builtin "BaseException.__getattribute__")):=(Jl9 c.all).1.1
theorem XCls.gh:PySem.W.findIn K (.ref C) "__getattr__" =some none:=(Jl9 c.all).1.2.1
theorem XCls.sa:PySem.W.findIn K (.ref C) "__setattr__" =some (some (.builtin "object.__setattr__")):=(Jl9 c.all).1.2.2
theorem XCls.ini:PySem.W.findIn K (.ref C) "__init__" =some (some (.ref fI)):=(Jl9 c.all).2.1.1
theorem XCls.fn:PySem.W.typeIn K (.ref fI)=some (.type "function"):=(Jl9 c.all).2.1.2.1
theorem XCls.kp:PySem.W.keepIn K (.ref C)=true:=(Jl9 c.all).2.1.2.2.1
theorem XCls.hd:PySem.W.hasDictIn K C=true:=(Jl9 c.all).2.1.2.2.2
theorem XCls.mb:PySem.W.mroIn K C (.type "BaseException")=some true:=(Jl9 c.all).2.2.1
theorem XCls.mo:PySem.W.mroIn K C (.type "object")=some true:=(Jl9 c.all).2.2.2.1
theorem XCls.cl:PySem.W.findIn K (.ref C) "__class__" =some (some (.builtin "object.__class__")):=(Jl9 c.all).2.2.2.2.1
theorem XCls.cg:PySem.W.specialIn K (.builtin "object.__class__") "__get__" =some (some (.builtin "getset_descriptor.__get__")):=(Jl9 c.all).2.2.2.2.2.1
theorem XCls.ct:PySem.W.takesIn K (.builtin "object.__class__")=some true:=(Jl9 c.all).2.2.2.2.2.2
end
theorem Yaa (self:Value) (C W:Addr):refuseLoop self "__setattr__" (.ref C:: .ref W::VEm)=pure ():=by
 rw [refuseLoop_ref,refuseLoop_ref];exact PySem.F.store_ValueError.passes self
theorem XCls.mro {K:PySem.W.Frag} {C W fI:Addr} (c:XCls K C W fI):∃cd,PySem.W.clsIn K C=some cd/\cd.mro= .ref C:: .ref W::VEm/\cd.hasDict=true:=by
 obtain ⟨nm,q,N,bs,sn,sub,ab,col,dd,k0,k1,k2,k3,k5,l⟩:=c.obj;unfold PySem.W.clsIn;rw [l];exact ⟨_,rfl,rfl,rfl⟩
section
variable {prog:Program} {w:World} {A:Around} {E:Value->Shared->Prop} {s:Shared} {K:PySem.W.Frag} {x C W fI:Addr} {ox:Obj} {od:Option Obj} {name:Str}
theorem Yei:builtinKind "BaseException.__getattribute__" =some .slot:=by decide +kernel
theorem Ycp:splitId "BaseException.__getattribute__" =some ("BaseException","__getattribute__"):=by decide +kernel
theorem Jzr {r:Found} {tk:Tok} {R:Result->Shared->Prop} (c:XCls K C W fI) (X:K.In s.heap) (I:PySem.W.InstAt s.heap x ox C od) (hf:PySem.W.findObj K C od name=some r)
  (h:wpAny (model prog w) A.in1 (match r with| .value v=>ret v| .bind g b=>bindTo g b (.ref x) (.ref C)| .missing=>unsupported "none")
   (λfin s'=>match fin with| .done f=>R (.ok f) s'| .again c'=>c'.quiet=true/\codeAny (model prog w) A c' R s') (λe s'=>R (.error e) s') s) (hr:r≠ .missing):
  codeAny (model prog w) A (.call (.builtin "BaseException.__getattribute__") ⟨[.ref x,.str name tk],[]⟩) R s:=by
 have T0:=I.type (M:=model prog w);have T3:=PySem.W.looks_find (M:=model prog w) X I hf;have T4:PySem.W.Looks (model prog w) s.heap (isInstance (.ref x) (.type "BaseException")) true:=T0.andThen (PySem.W.looks_mroIn X c.mb);have ck:∀{Q':Unit->Shared->Prop} {E':Value->Shared->Prop} {A':Around},Q' () s->wpAny (model prog w) A' (checkBuiltinCall "BaseException.__getattribute__" ⟨[.ref x,.str name tk],[]⟩) Q' E' s:=λ{Q' E' A'} q=>
  @PySem.W.check_slot (model prog w) A' E' s "BaseException.__getattribute__" "BaseException" "__getattribute__" (.ref x) [.str name tk] [] Q' Yei Ycp T4 (F.args_bexc_ga (.ref x) (.str name tk)) q
 refine codeAny_call_builtin F.excAttr_ValueError.ga.plain F.entry_bexc_ga (ck ?_);unfold Builtin.«object.__getattribute__»;refine wpAny_bind (wpAny_pure (wpAny_bind (wpAny_pure (wpAny_bind (T0.here (wpAny_bind (T3.here ?_)))))));cases r with
 |missing=>exact absurd rfl hr
 |value v=>exact h
 |bind gg b=>exact h
theorem xc_get {v:Value} {expr:Bool} {Q:Value->Shared->Prop} (c:XCls K C W fI) (X:K.In s.heap) (I:PySem.W.InstAt s.heap x ox C od) (hf:PySem.W.findObj K C od name=some (.value v)) (hh:PySem.W.handedIn v=true)
  (q:Q v {s with toks:=s.toks+1}):wpAny (model prog w) A (getAttr (.ref x) name expr) Q E s:=by
 obtain ⟨hp,g,d,t,os⟩:=s;have T0:=I.type (M:=model prog w);have T1:=PySem.W.looks_findIn (M:=model prog w) X c.ga;have T2:=PySem.W.looks_findIn (M:=model prog w) X c.gh;unfold getAttr getAttrBy;refine wpAny_bind (wpAny_mkText (wpAny_holding (wpAny_bind (T0.at (wpAny_bind (T1.at ?_))))));show wpAny _ _ (getAttrByItsOwn (.ref x) _ (.ref C) _ _ _) _ _ _;unfold getAttrByItsOwn;refine wpAny_bind (show wpAny _ _ (typeLookup (.ref C) "__getattr__") _ _ _ from T2.at ?_);have e0:callGetattribute (.ref x) (.str name t) (.builtin "BaseException.__getattribute__") expr=boundAndCalled (.builtin "BaseException.__getattribute__") (.ref x) (.str name t):=by cases expr <;> rfl
 rw [e0];unfold boundAndCalled;rw [F.excAttr_ValueError.ga.bind];refine wpAny_bind (wpAny_attempt (wpAny_holding (wpAny_bind (wpAny_pure (wpAny_call (Jzr (s:=⟨hp,g,d,t+1,os⟩) (r:=.value v) c X I hf ?_ (λz=>nomatch z)))))));refine wpAny_pure ?_;show wpAny _ _ (handedOut v) _ _ _;rw [PySem.W.handedOut_of hh];exact wpAny_pure q
end
end L2
namespace L2
open PySem PySem.Spec PyProof.Rows Builtin Builtin.ObjectAttr
section
variable {prog:Program} {w:World} {A:Around} {E:Value->Shared->Prop} {s:Shared} {K:PySem.W.Frag} {x C W fI:Addr} {ox:Obj} {od:Option Obj} {name:Str} {v:Value}
theorem xc_osa {tk:Tok} {R:Result->Shared->Prop} (c:XCls K C W fI) (X:K.In s.heap) (I:PySem.W.InstAt s.heap x ox C od) (hn:PySem.W.findIn K (.ref C) name=some none)
  (h:wpAny (model prog w) A.in1 (storeInOwnDict (.ref x) (.ref C) (.str name tk) name v false)
   (λfin s'=>match fin with| .done f=>R (.ok f) s'| .again c'=>c'.quiet=true/\codeAny (model prog w) A c' R s') (λe s'=>R (.error e) s') s):
  codeAny (model prog w) A (.call (.builtin "object.__setattr__") ⟨[.ref x,.str name tk,v],[]⟩) R s:=by
 have SF:=PySem.F.store_object;obtain ⟨cd,hc,hm,_⟩:=c.mro;have T0:=I.type (M:=model prog w);have sub:PySem.W.Looks (model prog w) s.heap (isInstance (.ref x) (.type "object")) true:=T0.andThen (PySem.W.looks_mroIn X c.mo);have hmr:PySem.W.Looks (model prog w) s.heap (mroOf (.ref C)) cd.mro:=(PySem.W.looks_clsIn X hc).andThen .now;have T2:=PySem.W.looks_findIn (M:=model prog w) X hn;refine codeAny_call_builtin SF.slot.plain SF.entry (@PySem.W.check_slot (model prog w) _ _ s "object.__setattr__" "object" "__setattr__" (.ref x) [.str name tk,v] [] _ SF.kind SF.split sub (SF.args (.ref x) (.str name tk) v) ?_);rw [PySem.W.osa_eq,refuse_eq];refine wpAny_bind (wpAny_bind (T0.here (wpAny_bind (hmr.here ?_))));rw [hm,Yaa];exact wpAny_pure (wpAny_bind (T0.here (wpAny_bind (T2.here (wpAny_bind (wpAny_pure h))))))
theorem Jz4 {vs:Array Value} {Q:Unit->Shared->Prop} (c:XCls K C W fI) (X:K.In s.heap) (hx:s.heap.get? x=some ox) (hcl:ox.cls= .ref C) (hdi:ox.dict=none) (hd:ox.data= .fields vs) (hn:PySem.W.findIn K (.ref C) name=some none)
  (h:∀h',(∀b u,b≠x->s.heap.get? b=some u->h'.get? b=some u)->h'.get? x=some {ox with dict:=some s.heap.objs.size}->h'.Ns1 s.heap.objs.size (λy=>if y=name then some v else none)->Q () {s with heap:=h',toks:=s.toks+2}):
  wpAny (model prog w) A (setAttr (.ref x) name v) Q E s:=by
 have I:PySem.W.InstAt s.heap x ox C none:=⟨hx,hcl,by unfold PySem.W.notCls;rw [hd],by rw [hdi];trivial⟩;obtain ⟨cd,hc,_,hdct⟩:=c.mro;refine PySem.W.set_plain X I c.sa (xc_osa (s:={s with toks:=s.toks+1}) c X I hn ?_);obtain ⟨oc,odi,oda,osl⟩:=ox;dsimp only at hcl hdi hd;subst hcl hdi hd;refine wpAny_bind (wpAny_pure (wpAny_bind (wpAny_bind (wpAny_loadPart hx (wpAny_bind (PySem.W.Looks.here (s:={s with toks:=s.toks+1}) (PySem.W.looks_clsIn X hc) ?_))))));rw [hdct];dsimp only;simp only [Bool.not_true,Bool.false_eq_true,if_false,typeHasDict,Bool.or_false];have e1:(s.heap.push {cls:=.type "dict",data:=.dict #[]}).get? x=some ⟨.ref C,none,.fields vs,osl⟩:=yj _ hx;have nx:s.heap.objs.size≠x:=yaw (yg hx);have n0:(s.heap.push {cls:=.type "dict",data:=.dict #[]}).Ns s.heap.objs.size (λ_=>none):=⟨_,#[],_,yp s.heap rfl,rfl,(λe he=>absurd he (by simp)),λ_=>rfl⟩;refine wpAny_bind (wpAny_alloc (wpAny_bind (wpAny_update e1 ?_)));have e2:=ybj (λo=>{o with dict:=some s.heap.objs.size}) e1 rfl;have n1:((s.heap.push {cls:=.type "dict",data:=.dict #[]}).update x λo=>{o with dict:=some s.heap.objs.size}).Ns1 s.heap.objs.size (λ_=>none):=
  (Heap.Ns1.of_empty n0).at λo q=>by rw [ybc _ _ (yk nx)];exact q
 refine wpAny_pure (wpAny_bind (wpAny_pure (wpAny_bind ?_)));refine wpAny_nsSet1 n1 λh' n2 sb=>?_;obtain ⟨oD,esD,epD,hoD,hdD,hcD⟩:=n2.count (PySem.Within.cons name v PySem.Within.nil);refine wpAny_bind (wpAny_lookBehind hoD (by rw [hdD];exact pastItsLine_dict (yai hcD (Nat.le_add_left 1 sizeLine))) ?_);refine wpAny_pure (h h' (λb u hb q=>?_) ((sb.2 _ (yk nx)).trans e2) n2);have nb:b≠s.heap.objs.size:=yr (yg q);rw [sb.2 b nb,ybc _ _ (yk hb)];exact yj _ q
end
noncomputable abbrev Yac (us:List Value):Obj:={cls:=.type "tuple",data:=.seq us.toArray}
noncomputable abbrev xObj (C:Addr) (t:Addr):Obj:={cls:=.ref C,data:=.fields #[.ref t,.none,.none,.none,.bool false,.none]}
section
variable {prog:Program} {w:World} {A:Around} {E:Value->Shared->Prop} {K:PySem.W.Frag} {C W fI:Addr} {us:List Value} {hp:Heap} {g:Array GenState} {d:Drawn} {t:Nat} {os:OsState}
theorem Ycq {Q:PySem.Fin->Shared->Prop} (c:XCls K C W fI) (X:K.In hp) (hz:us.length<=sizeLine)
  (h:wpAny (model prog w) A (call (.ref fI) (.ref (hp.objs.size+1)::us)) (λr s'=>r= .none/\Q (.done (.ret (.ref (hp.objs.size+1)))) s') E ⟨(hp.push (Yac us)).push (xObj C hp.objs.size),g,d,t,os⟩):
  wpAny (model prog w) A (Builtin.«type.__call__» ⟨.ref C::us,[]⟩) Q E ⟨hp,g,d,t,os⟩:=by
 obtain ⟨nm,q,N,bs,sn,sub,ab,col,dd,k0,k1,k2,k3,k5,l⟩:=c.obj;have FV:=F.excBase_ValueError;have kC:=X _ _ l;have TL:OwnTail hp VEm (.ref W::VEm):=PySem.W.tail_of_in X c.tl;have up:∀b o,hp.get? b=some o->((hp.push (Yac us)).push (xObj C hp.objs.size)).get? b=some o:=λb o e=>yj _ (yj _ e);have gE:((hp.push (Yac us)).push (xObj C hp.objs.size)).get? (hp.objs.size+1)=some ({cls:=.ref C,data:=.fields #[.ref hp.objs.size,.none,.none,.none,.bool false,.none]}:Obj):=Heap.get?_push_at (by simp only [yad]) rfl;have X2:=X.keeps up;have kC2:=X2 _ _ l;have hcC:(Value.ref C:: .ref W::VEm).contains (.ref C)=true:=by simp
 repeat (first|with_reducible refine wpAny_loadPart_at kC ?_|with_reducible refine wpAny_madeBy_exc kC ?_|wp_step)
 refine codeAny_call_builtin_code (Code.quiet_builtin _ FV.quiet) (wpAny_check_new_subT FV TL kC (codeAny_exc_new_subT FV TL kC ?_ hz));show wpAny _ _ _ _ _ _;unfold isInstance
 repeat (first|with_reducible refine wpAny_loadPart_at gE ?_|(with_reducible refine wpAny_isSubtype_exc kC2 ?_;rw [hcC])|wp_step)
 show wpAny _ _ (typeLookup (.ref C) _) _ _ _;refine (PySem.W.looks_findIn X2 c.ini).at (wpAny_holding (wpAny_bind ((PySem.W.bind_fn X2 _ c.fn).at ?_)));refine wpAny_bind (wpAny_mono h (λr s' hr=>?_) λ_ _ z=>z);obtain ⟨rfl,hQ⟩:=hr
 wp_walk
 exact hQ
theorem Yej {s:Shared} {Q:Value->Shared->Prop} (c:XCls K C W fI) (X:K.In s.heap) (hz:us.length<=sizeLine)
  (h:wpAny (model prog w) (A.under (.builtin "type.__call__" ⟨.ref C::us,[]⟩)) (call (.ref fI) (.ref (s.heap.objs.size+1)::us)) (λr s'=>r= .none/\Q (.ref (s.heap.objs.size+1)) s') E {s with heap:=(s.heap.push (Yac us)).push (xObj C s.heap.objs.size)}):
  wpAny (model prog w) A (call (.ref C) us) Q E s:=by
 obtain ⟨hp,g,d,t,os⟩:=s;obtain ⟨nm,q,N,bs,sn,sub,ab,col,dd,k0,k1,k2,k3,k5,l⟩:=c.obj;have kC:=X _ _ l;have v1:=tc_lookup;have v2:=tc_bind (.ref C);have hT:(⟨hp,g,d,t,os⟩:Shared).TypeIs (.ref C) "type" :=⟨_,kC,rfl⟩;refine wpAny_call (codeAny_of_tree ?_);show wpAny _ _ (callAny (.ref C) _) _ _ _
 repeat (any_goals (first|assumption|with_reducible refine wpAny_loadPart_at kC ?_|wp_step))
 exact ⟨rfl,codeAny_call_builtin_at (Code.quiet_builtin _ (by decide +kernel)) entry_typeCall (wpAny_check_type_call_sub kC (Ycq c X hz h))⟩
end
end L2
namespace L2
open PySem PySem.Spec PyProof.Rows
noncomputable def XO (e C:Addr) (dx:Option Addr) (fr:Bool):HO:=.ext λh=>∃o vs,h.get? e=some o/\o.cls= .ref C/\o.dict=dx/\o.data= .fields vs/\(∃t,vs[0]?=some (.ref t))/\∃y,vs[1]?=some y/\(fr=true->y= .none)
noncomputable def XD (dx:Addr) (fs:List (Str×V)):HO:=.ext λh=>∃mA,h.Ns1 dx mA/\(∀f,RelO (fs.lookup f) (mA f))/\PySem.Within mA (fs.map (·.1))/\fs.length<=1000
section
variable {P:Program} {w:World} {H:Hp} {h:Heap} {e C dx:Addr} {od:Option Addr} {fr:Bool} {fs:List (Str×V)}
theorem Ycr {o:Obj} {vs:Array Value} (he:h.get? e=some o) (h1:o.cls= .ref C) (h2:o.dict=od) (h3:o.data= .fields vs) (h4:∃t,vs[0]?=some (.ref t)) (h5:∃y,vs[1]?=some y/\(fr=true->y= .none)):ObjOk P w H h e (XO e C od fr):=
 ⟨⟨o,vs,he,h1,h2,h3,h4,h5⟩,⟨o,he⟩,λ_ _ ⟨o,vs,a,r⟩ k=>⟨o,vs,k o a,r⟩⟩
theorem Jrn (hok:HOk P w H h) (q:H e=some (XO e C od fr)):∃o vs,h.get? e=some o/\o.cls= .ref C/\o.dict=od/\o.data= .fields vs/\(∃t,vs[0]?=some (.ref t))/\∃y,vs[1]?=some y/\(fr=true->y= .none):=(hok e _ q).1
theorem xd_ok {mA:Str->Option Value} (n:h.Ns1 dx mA) (r:∀f,RelO (fs.lookup f) (mA f)) (w':PySem.Within mA (fs.map (·.1))) (z:fs.length<=1000):ObjOk P w H h dx (XD dx fs):=
 ⟨⟨mA,n,r,w',z⟩,(let ⟨o,_,_,q,_⟩:=n;⟨o,q⟩),λ_ _ ⟨m,a,r⟩ k=>⟨m,a.at k,r⟩⟩
theorem xd_get (hok:HOk P w H h) (q:H dx=some (XD dx fs)):∃mA,h.Ns1 dx mA/\(∀f,RelO (fs.lookup f) (mA f))/\PySem.Within mA (fs.map (·.1))/\fs.length<=1000:=(hok dx _ q).1
theorem Jzs (hok:HOk P w H h) (q:H e=some (XO e C (some dx) fr)) (qd:H dx=some (XD dx fs)):∃(ox oD:Obj) (mA:Str->Option Value),PySem.W.InstAt h e ox C (some oD)/\(∀n,PySem.W.lookIn n oD=some (mA n))/\∀f,RelO (fs.lookup f) (mA f):=by
 obtain ⟨o,vs,he,hc,hd,hf,_⟩:=Jrn hok q;obtain ⟨mA,n1,r,_⟩:=xd_get hok qd;obtain ⟨oD,hD,hl⟩:=Jur n1;exact ⟨o,oD,mA,⟨he,hc,by unfold PySem.W.notCls;rw [hf],by rw [hd];exact hD⟩,hl,r⟩
end
section
variable {X:Cx} {pins:List (Addr×Obj)} {σ:St} {H:Hp} {s:Shared} {e C W fI dx:Addr} {fs:List (Str×V)} {fr:Bool} {f:Str} {v:V} {A:Around} {E:Value->Shared->Prop}
theorem Jxw {b:Bool} {Q:Value->Shared->Prop} (I:Inv X pins σ H s) (q:H e=some (XO e C (some dx) fr)) (qd:H dx=some (XD dx fs)) (c:XCls X.K C W fI) (n:NoAttr X.K C f) (l:fs.lookup f=some v)
  (h:∀u s',Inv X pins σ H s'->RelV v u->Q u s'):wpAny (model X.prog X.w) A (getAttr (.ref e) f b) Q E s:=by
 obtain ⟨ox,oD,mA,J,hl,r⟩:=Jzs I.hok q qd;obtain ⟨u,hu,ru⟩:=RelO.some_of (v:=v) (o:=mA f) (by rw [<-l];exact r f);exact xc_get c I.kIn J (PySem.W.findObj_own c.hd n rfl (by rw [hl,hu])) (Jun ru) (h u _ (I.tok _) ru)
theorem Ycs {y:V} {u:Value} {Q:Unit->Shared->Prop} (I:Inv X pins σ H s) (q:H e=some (XO e C none fr)) (c:XCls X.K C W fI) (n:NoAttr X.K C f) (ry:RelV y u)
  (h:∀dx s',H dx=none->dx≠e->Inv X pins σ (upd (upd H dx (XD dx [(f,y)])) e (XO e C (some dx) fr)) s'->Q () s'):wpAny (model X.prog X.w) A (setAttr (.ref e) f u) Q E s:=by
 obtain ⟨o,vs,he,hc,hd,hf,h0,h1⟩:=Jrn I.hok q;have ne:s.heap.objs.size≠e:=yaw (yg he);have hn:H s.heap.objs.size=none:=I.hok.fresh (yi _);refine Jz4 c I.kIn he hc hd hf n λh' kp ke n1=>h s.heap.objs.size _ hn ne ?_;have hD:h'.get? s.heap.objs.size≠none:=by obtain ⟨oD,_,_,q1,_⟩:=n1;rw [q1];exact λz=>nomatch z
 have qd:∀m:Hp,ObjOk X.prog X.w m h' s.heap.objs.size (XD s.heap.objs.size [(f,y)]):=λm=>xd_ok n1 (λg=>by
  by_cases z:g=f
  ·have zb:(g==f)=true:=beq_iff_eq.mpr z;simp only [ybo,zb,if_pos z];exact ry
  ·have zb:(g==f)=false:=beq_eq_false_iff_ne.mpr z;simp only [ybo,zb,if_neg z];exact True.intro) (λg hg=>by
  by_cases z:g=f
  ·rw [z];simp
  ·exact absurd (if_neg z) hg) (by simp)
 have un1:Un X.fs [] H (upd (upd H s.heap.objs.size (XD s.heap.objs.size [(f,y)])) e (XO e C (some s.heap.objs.size) fr)) s.heap h':=by
  have nb:∀b ob,s.heap.get? b=some ob->b≠s.heap.objs.size:=λb ob z=>yr (yg z);have sm:∀b u',H b=some u'->u'≠XO e C none fr->upd (upd H s.heap.objs.size (XD s.heap.objs.size [(f,y)])) e (XO e C (some s.heap.objs.size) fr) b=some u':=λb u' z d=>by
   rw [Jjx (λw':b=e=>d (by rw [w',q] at z;exact (yae.inj z).symm)),Jjx (Jjy z hn)];exact z
  refine ⟨λb ob z n _ _=>kp b ob (λw'=>by rw [w',q] at n;cases n) z,λb ob z n _ _=>⟨ob.slots,kp b ob (λw'=>by rw [w',q] at n;cases n) z⟩,λb ob z n _=>?_,λb ob z _=>?_,λb xs z=>sm b _ z (λw'=>by cases w'),λb ob u' z=>sm b _ z (λw'=>by cases w'),λb ps z=>⟨#[],by rw [sm b _ z (λw'=>by cases w')];simp⟩⟩
  ·rw [Jjx (λw'=>by rw [w',q] at n;cases n),Jjx (nb b ob z)];exact n
  ·by_cases w':b=e
   ·exact ⟨_,by rw [w'];exact ke⟩
   ·exact ⟨ob,kp b ob w' z⟩
 refine I.un (t':=s.toks+2) un1 λb ob z=>?_;by_cases w1:b=e
 ·subst w1;rw [Jjq] at z;cases z;exact Ycr ke hc rfl hf h0 h1
 ·rw [Jjx w1] at z;by_cases w2:b=s.heap.objs.size
  ·subst w2;rw [Jjq] at z;cases z;exact qd _
  ·rw [Jjx w2] at z;have keep:∀c' u',H c'=some u'->u'≠XO e C none fr->upd (upd H s.heap.objs.size (XD s.heap.objs.size [(f,y)])) e (XO e C (some s.heap.objs.size) fr) c'=some u':=λc' u' zz d=>by
    rw [Jjx (λw':c'=e=>d (by rw [w',q] at zz;exact (yae.inj zz).symm)),Jjx (Jjy zz hn)];exact zz
   refine (I.hok b ob z).stay (λc' v' hc' zz=>kp c' v' ?_ zz) (λc' zz=>keep c' _ zz (λw'=>by cases w')) (λc' xs zz=>keep c' _ zz (λw'=>by cases w')) λc' xs zz=>keep c' _ zz (λw'=>by cases w');rcases hc' with rfl|hc'
   ·exact w1
   ·rintro rfl;rw [q] at hc';cases hc'
theorem Inv.xmade {us:List Value} (I:Inv X pins σ H s):Inv X pins σ (upd H (s.heap.objs.size+1) (XO (s.heap.objs.size+1) C none true)) {s with heap:=(s.heap.push (Yac us)).push (xObj C s.heap.objs.size)}:=by
 have I1:=I.kept (h':=s.heap.push (Yac us)) (t':=s.toks) λb u q=>yj _ q;refine I1.laid (a:=s.heap.objs.size+1) (t':=s.toks) (λb u q=>yj _ q) (ybx (yad _ _)) ?_;exact Ycr (Heap.get?_push_at (by simp only [yad]) rfl) rfl rfl rfl ⟨_,rfl⟩ ⟨_,rfl,λ_=>rfl⟩
end
noncomputable def tFldX (K:PySem.W.Frag) (ta:TE) (f:Str):TE:=λσ H Q=>ta σ H λx H1=>∃e C W fI dx fs v fr,x= .ref e/\H1 e=some (XO e C (some dx) fr)/\H1 dx=some (XD dx fs)/\XCls K C W fI/\NoAttr K C f/\fs.lookup f=some v/\Q v H1
noncomputable def sFldN (K:PySem.W.Frag) (ta tv:TE) (f:Str):TS:=λD σ H=>tv σ H λy H1=>ta σ H1 λx H2=>∃e C W fI fr,x= .ref e/\H2 e=some (XO e C none fr)/\XCls K C W fI/\NoAttr K C f/\∀dx,H2 dx=none->dx≠e->
 D.nx σ (upd (upd H2 dx (XD dx [(f,y)])) e (XO e C (some dx) fr))
noncomputable def tExc (C:Addr) (sp:Sp) (t:TA):TE:=λσ H Q=>t σ H λvs H1=>vs.length<=1000/\∀e,H1 e=none->sp (.ref e::vs) (upd H1 e (XO e C none true)) (λv H2=>v= .non/\Q (.ref e) H2) E0
section
variable {X:Cx} {o e value:Expr} {f:Str} {pos pos' tpos p:Pos} {ta tv:TE} {C W fI:Addr} {fd:FuncData} {ps:List Str} {sp:Sp} {k j:Nat} {x:Str} {es:List Expr} {t:TA}
theorem Jzj (he:PE X e ta) (hb:attributeBase e f X.env (eval e X.env)=eval e X.env):PE X (.Attribute e f pos) (tFldX X.K ta f):=by
 intro pins s σ H Q I h;refine Jz6 hb (thn (he pins s σ H _ I h) λu s1 zq=>?_);obtain ⟨x,H1,I1,rx,a,C,W,fI,dx,fs,v,fr,ex,q,qd,c,n,l,k⟩:=zq;subst ex;obtain rfl:u=Value.ref a:=rx;exact Jxw I1 q qd c n l λu' s2 I2 ru=>⟨v,H1,I2,ru,k⟩
theorem Jmw (ha:PE X o ta) (hv:PE X value tv) (hs:swapsWith value (some (.Attribute o f pos')) pos.line X.env=pure false):PS X (.Assign [.Attribute o f pos'] value pos) (sFldN X.K ta tv f):=by
 intro pins s σ H D I h;refine plainObj_wpAny_Assign_Attribute (thn (hv pins s σ H _ I h) λu s1 ⟨y,H1,I1,ry,q⟩=>thn (ha pins s1 σ H1 _ I1 q) λov s2 zq=>?_) hs;obtain ⟨x,H2,I2,rx,a,C,W,fI,fr,ex,ea,c,n,q2⟩:=zq;subst ex;obtain rfl:ov=Value.ref a:=rx;exact Ycs I2 ea c n ry λdx s3 h1 h2 I3=>⟨σ,_,I3,q2 dx h1 h2⟩
theorem Ydp {pins:List (Addr×Obj)} {σ:St} {H:Hp} {s:Shared} {Q:VK} {us:List Value} {vs:List V} (c:XCls X.K C W fI) (G:FnOk X.prog X.w X.K X.mg X.base CX0 k fI fd ps sp) (hr:Room (k+1) X.A) (hb:Binds X.K fd ps []) (I:Inv X pins σ H s) (r:Vals vs us) (hz:vs.length<=1000)
  (h:∀e,H e=none->sp (.ref e::vs) (upd H e (XO e C none true)) (λv H2=>v= .non/\Q (.ref e) H2) E0):wpAny (model X.prog X.w) X.A (call (.ref C) us) (EP X pins σ Q) X.xe s:=by
 have hq:=h (s.heap.objs.size+1) (I.hok.fresh (Nat.le_succ _));have I2:=Inv.xmade (C:=C) (us:=us) I;have r2:Vals (V.ref (s.heap.objs.size+1)::vs) (Value.ref (s.heap.objs.size+1)::us):=.cons rfl r;have hl:(Value.ref (s.heap.objs.size+1)::us++ []).length=ps.length:=by
  rw [yaz,<-r2.length,G.len _ _ _ _ hq]
 refine Yej c I.kIn (by rw [<-r.length];exact yai hz (by decide)) (wpAny_call (codeAny_mono (G.run _ X.stack _ _ ⟨Value.ref (s.heap.objs.size+1)::us,[]⟩ (Value.ref (s.heap.objs.size+1)::us) _ _ E0 (hr.make C us [])
  (I2.env0.make C us []) (by have:=hb _ (Value.ref (s.heap.objs.size+1)::us) I2.kIn hl;rw [yaz] at this;exact this) r2 hq) λr s' hq'=>?_))
 cases r with
 |error e=>exact False.elim hq'
 |ok fl=>
  cases fl with
  |ret u=>
   obtain ⟨v,H',I3,rv,ev,q3⟩:=I2.after hq';subst ev;exact ⟨rv,⟨V.ref (s.heap.objs.size+1),H',I3,rfl,q3⟩⟩
  |next=>exact False.elim hq'
  |brk=>exact False.elim hq'
  |cont=>exact False.elim hq'
theorem Jlj (c:XCls X.K C W fI) (G:FnOk X.prog X.w X.K X.mg X.base CX0 k fI fd ps sp) (hr:Room j X.A) (hk:k+1<=j) (hb:Binds X.K fd ps []) (hm:X.mg x=some (.ref C)) (ha:PA X (e::es) t) (hg:Gl X x:=by rfl)
  (hdb:(x==("__debug__" :Str))=false:=by decide) (he:starEach (e::es) X.env=(false,eval e X.env)::starEach es X.env:=by rfl) (hpl:(backTo pos (starEach es X.env)).any (·.1)=false:=by rfl):
  PE X (.Call (.Name x p) (e::es) [] pos) (tExc C sp t):=by
 intro pins s σ H Q I h;refine wpAny_Call_Name_kw (Jnv I hg hm ?_ hdb);refine PySem.W.callWith_K (h₀:=X.base) I.ok.mod.kin c.kp (thn (ha pos pins s σ H _ I h) λus s1 ⟨vs,H1,I1,r,z,q⟩=>⟨I1.kIn,?_⟩) he hpl;exact Ydp c G (hr.mono hk) hb I1 r z q
end
section
variable {K:PySem.W.Frag} {C W fI:Addr} {x:Addr}
theorem xkit (c:XCls K C W fI):PySem.W.KitX K (.ref x) (.ref C) (λh=>∃ox od,PySem.W.InstAt h x ox C (some od)) where
 ty:=λ_ _ _ ⟨_,_,I⟩=>I.type
 it:=λ_ _ X _=>by
  obtain ⟨nm,q,N,bs,sn,sub,ab,col,dd,k0,k1,k2,k3,k5,l⟩:=c.obj;intro A' Q' E' s' k q;unfold isType loadHead;exact wpAny_bind (wpAny_loadPart (k _ _ (X _ _ l)) (wpAny_pure q))
 ne:=λh tp dd its n sl X htp=>by
  obtain ⟨nm,q,N,bs,sn,sub,ab,col,dd,k0,k1,k2,k3,k5,l⟩:=c.obj;refine Bool.eq_false_iff.mpr λz=>?_;have e:C=tp:=Value.ref.inj (beq_iff_eq.mp z);subst e;have z:=congrArg (Option.map (·.cls)) ((X _ _ l).symm.trans htp);simp at z
 ca:=λ{prog w A E Q s} X ⟨ox,od,I⟩ kq=>by
  have hf:PySem.W.findObj K C (some od) "__class__" =some (.bind (.builtin "getset_descriptor.__get__") (.builtin "object.__class__")):=PySem.W.findObj_data (by obtain ⟨cd,hc,_⟩:=c.mro;rw [hc];rfl) c.cl c.cg c.ct;obtain ⟨hp,g,d,t,os⟩:=s;have T0:=I.type (M:=model prog w);have T1:=PySem.W.looks_findIn (M:=model prog w) X c.ga;have T2:=PySem.W.looks_findIn (M:=model prog w) X c.gh;unfold getAttr? getAttrBy? getAttrBy;refine wpAny_bind (wpAny_mkText (wpAny_bind (wpAny_attempt (wpAny_holding (wpAny_bind (T0.at (wpAny_bind (T1.at ?_))))))));show wpAny _ _ (getAttrByItsOwn (.ref x) _ (.ref C) _ _ _) _ _ _;unfold getAttrByItsOwn;refine wpAny_bind (show wpAny _ _ (typeLookup (.ref C) "__getattr__") _ _ _ from T2.at ?_);show wpAny _ _ ((holding _ (boundAndCalled (.builtin "BaseException.__getattribute__") (.ref x) (.str "__class__" t))).attempt >>=_) _ _ _;unfold boundAndCalled;rw [F.excAttr_ValueError.ga.bind];refine wpAny_bind (wpAny_attempt (wpAny_holding (wpAny_bind (wpAny_pure (wpAny_call (Jzr (s:=⟨hp,g,d,t+1,os⟩) c X I hf ?_ (λz=>nomatch z)))))));show wpAny _ _ (holding [_] (call _ [_,.ref x,.ref C]) >>=ret) _ _ _;refine wpAny_bind (wpAny_holding (wpAny_call (PySem.W.class_get (s:=⟨hp,g,d,t+1,os⟩) X I c.mo (wpAny_pure ?_))));show wpAny _ _ (handedOut (.ref C)) _ _ _;rw [PySem.W.handedOut_of rfl];exact wpAny_pure (wpAny_pure kq)
end
end L2
namespace L2
open PySem PySem.Spec PyProof.Rows
section
variable {M:Model} {A:Around} {E:Value->Shared->Prop} {s:Shared} {env:Env} {outer:List Env} {base:Heap} {L e T:Addr} {oe oT:Obj} {vs ts:Array Value} {Q:Unit->Shared->Prop}
theorem Jux {head:Value} {hadNext:Bool} (hfr:A.frames=some (env::outer)) (hl:s.heap.FunFrames base (env::outer)) (hf:env.frame=some L) (he:s.heap.get? e=some oe) (hd:oe.data= .fields vs) (hz:1 < vs.size)
  (hQ:∀h' T,(∀b o,s.heap.get? b=some o->b∉frs (env::outer)->b≠e->h'.get? b=some o)->(∀b o,s.heap.get? b=some o->b≠e->∃sl,h'.get? b=some {o with slots:=sl})->s.heap.objs.size<=T->
   h'.get? e=some (oe.mapFields (·.setIfInBounds 1 (.ref T)))->(∃oT ts,h'.get? T=some oT/\oT.data= .fields ts/\ts[3]?=some (rawInt L))->Q () {s with heap:=h'}):
  wpAny M A (do let a<-frameOf env;let pl<-entryPlaceOf L hadNext;let b<-EntryCells.newEntry head a .none (rawInt L) .none pl;setField (.ref e) 1 b) Q E s:=by
 have hen:e∉frs (env::outer):=λz=>by
  obtain ⟨_,o,ho,nf⟩:=hl.mem z;rw [he] at ho;cases ho;exact nf vs hd
 refine wpAny_bind (wpAny_frameOf_fun hfr hl hf λh1 sl1=>wpAny_bind (wpAny_entryPlaceOf λpl hpl=>?_));unfold EntryCells.newEntry newFields;have he1:h1.get? e=some oe:=(sl1.2.1 e hen).trans he;have nT:h1.objs.size≠e:=yaw (yg he1);refine wpAny_bind (wpAny_newObj_type (wpAny_setField (yj _ he1) hd hz (hQ _ h1.objs.size (λb o hb hn ne=>?_) (λb o hb ne=>?_) (ybx sl1.1.symm) (ybj _ (yj _ he1) (Obj.isFreed_of_fields (Obj.data_mapFields hd _))) ?_)) (hpl.sizeOk5 _ _ _ _ _))
 ·rw [ybc _ _ (yk ne)];exact yj _ ((sl1.2.1 b hn).trans hb)
 ·obtain ⟨sl,q⟩:=sl1.2.2 b o hb;exact ⟨sl,by rw [ybc _ _ (yk ne)];exact yj _ q⟩
 ·refine ⟨_,_,(ybc _ _ (yk nT)).trans (yp h1 rfl),rfl,?_⟩
  first|(simp;done)|(rcases hpl with rfl|⟨_,_,_,_,_,_,_,rfl⟩ <;> simp)
theorem Jyd (hfr:A.frames=some (env::outer)) (hl:s.heap.FunFrames base (env::outer)) (hf:env.frame=some L) (he:s.heap.get? e=some oe) (hd:oe.data= .fields vs) (h1:vs[1]?=some .none)
  (hQ:∀h' T,(∀b o,s.heap.get? b=some o->b∉frs (env::outer)->b≠e->h'.get? b=some o)->(∀b o,s.heap.get? b=some o->b≠e->∃sl,h'.get? b=some {o with slots:=sl})->s.heap.objs.size<=T->
   h'.get? e=some (oe.mapFields (·.setIfInBounds 1 (.ref T)))->(∃oT ts,h'.get? T=some oT/\oT.data= .fields ts/\ts[3]?=some (rawInt L))->Q () {s with heap:=h'}):
  wpAny M A (noteFrame (.ref e) env) Q E s:=by
 unfold noteFrame;simp only [hf];refine wpAny_bind (wpAny_field he hd h1 ?_);rw [if_neg (by decide:¬(Value.none !=Value.none)=true)];exact Jux hfr hl hf he hd (ybz.mp h1).1 hQ
theorem Yg (hfr:A.frames=some (env::outer)) (hl:s.heap.FunFrames base (env::outer)) (hf:env.frame=some L) (he:s.heap.get? e=some oe) (hd:oe.data= .fields vs) (h1:vs[1]?=some (.ref T))
  (hT:s.heap.get? T=some oT) (hdT:oT.data= .fields ts) (h3:ts[3]?=some .none) (ne:T≠e)
  (hQ:∀h' T',(∀b o,s.heap.get? b=some o->b∉frs (env::outer)->b≠e->b≠T->h'.get? b=some o)->(∀b o,s.heap.get? b=some o->b≠e->b≠T->∃sl,h'.get? b=some {o with slots:=sl})->s.heap.objs.size<=T'->
   h'.get? e=some (oe.mapFields (·.setIfInBounds 1 (.ref T')))->(∃oT ts,h'.get? T'=some oT/\oT.data= .fields ts/\ts[3]?=some (rawInt L))->Q () {s with heap:=h'}):
  wpAny M A (noteFrame (.ref e) env) Q E s:=by
 unfold noteFrame;simp only [hf];refine wpAny_bind (wpAny_field he hd h1 ?_);rw [if_pos (by simp:(Value.ref T !=Value.none)=true)];refine wpAny_bind (wpAny_field hT hdT h3 ?_);rw [if_neg (by simp [rawInt]:¬(Value.none==rawInt L)=true)];have ot:∀b,b≠T->(s.heap.update T (Obj.mapFields (·.setIfInBounds 3 Value.none))).get? b=s.heap.get? b:=λb hb=>ybc _ _ (yk hb);have nr:∀b o,s.heap.get? b=some o->(∀ws,o.data≠ .fields ws)->b≠T:=λb o hb nf z=>by
  rw [z,hT] at hb;cases hb;exact nf ts hdT
 refine wpAny_bind (wpAny_setField hT hdT (ybz.mp h3).1 ?_);refine Jux (s:={s with heap:=s.heap.update T (Obj.mapFields (·.setIfInBounds 3 Value.none))}) hfr (hl.of_keeps λb o hb nf=>⟨o,(ot b (nr b o hb nf)).trans hb,rfl⟩) hf ((ot e (yk ne)).trans he) hd (ybz.mp h1).1 λh' T' k1 k2 k3 k4 k5=>?_;refine hQ h' T' (λb o hb hn h1 h2=>k1 b o ((ot b h2).trans hb) hn h1) (λb o hb h1 h2=>k2 b o ((ot b h2).trans hb) h1) ?_ k4 k5;have z:(s.heap.update T (Obj.mapFields (·.setIfInBounds 3 Value.none))).objs.size=s.heap.objs.size:=Heap.size_after_update ..;rw [<-z];exact k3
end
noncomputable def Flt (X:Cx) (pins:List (Addr×Obj)) (H:Hp) (h:Heap) (e:Addr) (fl:Value):Prop:=
 ∃oe vs T oT ts,h.get? e=some oe/\oe.data= .fields vs/\vs[1]?=some (.ref T)/\H T=none/\h.get? T=some oT/\oT.data= .fields ts/\ts[3]?=some fl/\X.s₀.heap.objs.size<=T/\∀p∈X.pn++pins,p.1≠T
noncomputable def Jz5 (X:Cx):Prop:=X.stack=X.env::X.outer/\X.env.frame=some X.env.locals
section
variable {X:Cx} {pins:List (Addr×Obj)} {σ:St} {H:Hp} {s:Shared} {e C:Addr} {od:Option Addr} {fr fr':Bool} {A:Around} {M:Model} {E:Value->Shared->Prop} {Q:Unit->Shared->Prop} {fl:Value} {h':Heap}
theorem Inv.freeOf (I:Inv X pins σ H s) {b:Addr} {o:Obj} {ts:Array Value} (hb:s.heap.get? b=some o) (hd:o.data= .fields ts):b≠X.env.locals/\∀x c,X.env.cells.lookup x=some c->c≠b:=by
 refine ⟨λz=>?_,λx c e z=>?_⟩
 ·obtain ⟨m,⟨o',es,ep,ho',hd',_⟩,_⟩:=I.loc;rw [z,ho'] at hb;cases hb;rw [hd'] at hd;cases hd
 ·obtain ⟨v,o',ho',hd'⟩:=I.cell x c e;rw [z,hb] at ho';cases ho';rw [hd] at hd';cases hd'
theorem Inv.fly {ch:List Addr} (I:Inv X pins σ H s) (q:H e=some (XO e C od fr)) (hch:∀b∈ch,X.s₀.heap.objs.size<=b/\H b=none/\(∃o ts,s.heap.get? b=some o/\o.data= .fields ts)/\∀p∈X.pn++pins,p.1≠b)
  (k:∀b o,s.heap.get? b=some o->b∉frs X.stack->b≠e->b∉ch->h'.get? b=some o) (ks:∀b o,s.heap.get? b=some o->b≠e->b∉ch->∃sl,h'.get? b=some {o with slots:=sl})
  (new:ObjOk X.prog X.w (upd H e (XO e C od fr')) h' e (XO e C od fr')):Inv X pins σ (upd H e (XO e C od fr')) {s with heap:=h'}:=by
 have ne:∀b u,H b=some u->u≠XO e C od fr->b≠e:=λb u z d w'=>d (by rw [w',q] at z;exact (yae.inj z).symm);have nn:∀b,H b=none->b≠e:=λb z w'=>by rw [w',q] at z;cases z
 have u:Un (frs X.stack) ch H (upd H e (XO e C od fr')) s.heap h':=by
  refine ⟨λb o hb n hs hc=>k b o hb hs (nn b n) hc,λb o hb n _ hc=>ks b o hb (nn b n) hc,λb o _ n _=>by rw [Jjx (nn b n)];exact n,λb o hb hc=>?_,λb xs z=>?_,λb o u z=>?_,λb ps z=>⟨#[],?_⟩⟩
  ·by_cases w':b=e
   ·rw [w'];exact new.2.1
   ·obtain ⟨sl,z⟩:=ks b o hb w' hc;exact ⟨_,z⟩
  ·rw [Jjx (ne b _ z (λw'=>by cases w'))];exact z
  ·rw [Jjx (ne b _ z (λw'=>by cases w'))];exact z
  ·rw [Jjx (ne b _ z (λw'=>by cases w')),z];simp
 refine I.call (g':=s.gens) (d':=s.drawn) (t':=s.toks) (ch:=ch) u (λb o z=>?_) I.bare λb hb=>?_
 ·by_cases w':b=e
  ·subst w';rw [Jjq] at z;cases z;exact new
  ·rw [Jjx w'] at z;refine (I.hok b o z).stay (λc v hc zz=>k c v zz ?_ ?_ ?_) (λc zz=>by rw [Jjx (ne c _ zz (λw'=>by cases w'))];exact zz) (λc xs zz=>by rw [Jjx (ne c _ zz (λw'=>by cases w'))];exact zz) λc xs zz=>by rw [Jjx (ne c _ zz (λw'=>by cases w'))];exact zz
   ·intro hs;have:=I.stkFree c hs;rcases hc with rfl|hc
    ·rw [this] at z;cases z
    ·rw [this] at hc;cases hc
   ·rcases hc with rfl|hc
    ·exact w'
    ·exact ne c _ hc (λw'=>by cases w')
   ·intro hb;have:=(hch c hb).2.1;rcases hc with rfl|hc
    ·rw [this] at z;cases z
    ·rw [this] at hc;cases hc
 ·obtain ⟨h1,_,⟨o,ts,ho,hd⟩,h4⟩:=hch b hb;exact ⟨.inr h1,(I.freeOf ho hd).1,(I.freeOf ho hd).2,h4⟩
theorem Jvo (I:Inv X pins σ H s) (hs:Jz5 X) (hA:A.frames=some X.stack) (q:H e=some (XO e C od fr)) (hfl:fr=true\/Flt X pins H s.heap e .none)
  (h:∀s',Inv X pins σ (upd H e (XO e C od false)) s'->Flt X pins (upd H e (XO e C od false)) s'.heap e (rawInt X.env.locals)->Q () s'):wpAny M A (noteFrame (.ref e) X.env) Q E s:=by
 obtain ⟨o,vs,he,hc,hd,hf,⟨t0,h0⟩,y,h1,hy⟩:=Jrn I.hok q;have hA':A.frames=some (X.env::X.outer):=by rw [hA,hs.1]
 have FF:s.heap.FunFrames X.base (X.env::X.outer):=by rw [<-hs.1];exact I.stack
 have sub:∀b,b∉frs X.stack->b∉frs (X.env::X.outer):=λb z w'=>z (by rw [hs.1];exact w');have new:∀{h':Heap} {T:Addr},h'.get? e=some (o.mapFields (·.setIfInBounds 1 (.ref T)))->ObjOk X.prog X.w (upd H e (XO e C od false)) h' e (XO e C od false):=λ{h' T} z=>by
  have hz:1 < vs.size:=(ybz.mp h1).1;refine Ycr z ((Obj.cls_mapFields _ _).trans hc) ?_ (Obj.data_mapFields hf _) ⟨t0,by rw [Array.getElem?_setIfInBounds_ne (by decide)];exact h0⟩ ⟨.ref T,by simp [hz],λz=>nomatch z⟩;obtain ⟨_,_,dt,_⟩:=o;cases dt <;> first|exact hd|cases hf
 have fin:∀{h':Heap} {T:Addr},Inv X pins σ (upd H e (XO e C od false)) {s with heap:=h'}->s.heap.objs.size<=T->h'.get? e=some (o.mapFields (·.setIfInBounds 1 (.ref T)))->(∃oT ts,h'.get? T=some oT/\oT.data= .fields ts/\ts[3]?=some (rawInt X.env.locals))->Q () {s with heap:=h'}:=λ{h' T} J k3 k4 ⟨oT,ts,k5,k6,k7⟩=>by
  have hz:1 < vs.size:=(ybz.mp h1).1;refine h _ J ⟨_,_,T,oT,ts,k4,Obj.data_mapFields hf _,by simp [hz],?_,k5,k6,k7,yai I.sz k3,λp hp z=>?_⟩
  ·rw [Jjx (λz=>absurd (yg he) (by rw [<-z];exact yat.mpr k3))];exact I.hok.fresh k3
  ·obtain ⟨z1,_⟩:=I.pin p hp;exact absurd (yg z1) (by rw [z];exact yat.mpr k3)
 by_cases hfr:y= .none
 ·subst hfr;refine Jyd hA' FF hs.2 he hf h1 λh' T k1 k2 k3 k4 k5=>fin (I.fly (ch:=[]) q (λb z=>absurd z (by simp)) (λb o hb hn ne _=>k1 b o hb (sub b hn) ne) (λb o hb ne _=>k2 b o hb ne) (new k4)) k3 k4 k5
 ·rcases hfl with z|⟨oe,ws,T,oT,ts,z1,z2,z3,z4,z5,z6,z7,z8,z9⟩
  ·exact absurd (hy z) hfr
  ·rw [he] at z1;cases z1;rw [hf] at z2;cases z2;have ne:T≠e:=λw'=>by rw [w',q] at z4;cases z4
   refine Yg hA' FF hs.2 he hf z3 z5 z6 z7 ne λh' T' k1 k2 k3 k4 k5=>fin (I.fly (ch:=[T]) q (λb hb=>?_) (λb o hb hn ne hc=>k1 b o hb (sub b hn) ne (by simpa using hc)) (λb o hb ne hc=>k2 b o hb ne (by simpa using hc)) (new k4)) k3 k4 k5;obtain rfl:b=T:=by simpa using hb
   exact ⟨z8,z4,⟨oT,ts,z5,z6⟩,z9⟩
theorem Jnm (I:Inv X pins σ H s) (q:H e=some (XO e C od fr)) (hfl:Flt X pins H s.heap e fl) (h:∀s',Inv X pins σ H s'->Flt X pins H s'.heap e .none->Q () s'):wpAny M A (setFlight (.ref e) none) Q E s:=by
 obtain ⟨oe,vs,T,oT,ts,z1,z2,z3,z4,z5,z6,z7,z8,z9⟩:=hfl;have hz:3 < ts.size:=(ybz.mp z7).1;have ne:T≠e:=λw'=>by rw [w',q] at z4;cases z4
 have ot:∀b,b≠T->(s.heap.update T (Obj.mapFields (·.setIfInBounds 3 Value.none))).get? b=s.heap.get? b:=λb hb=>ybc _ _ (yk hb);refine wpAny_setFlight_none z1 z2 z3 z5 z6 hz (h _ (I.turned (it:=T) (t':=s.toks) (λb o hb z=>(ot b hb).trans z) z4 (I.freeOf z5 z6).1 (.inr z8) (I.freeOf z5 z6).2 z9) ?_);exact ⟨oe,vs,T,_,_,(ot e (yk ne)).trans z1,z2,z3,z4,ybj _ z5 (Obj.isFreed_of_fields (Obj.data_mapFields z6 _)),Obj.data_mapFields z6 _,by simp [hz],z8,z9⟩
end
noncomputable def CXX (P:Program) (w:World):CXT:=λouter H s E ev s'=>∃e C dx H',ev= .ref e/\s'.os=s.os/\AllBare s'.gens/\Un (frs outer) [] H H' s.heap s'.heap/\HOk P w H' s'.heap/\H' e=some (XO e C (some dx) false)/\
 (∃oe vs T oT ts,s'.heap.get? e=some oe/\oe.data= .fields vs/\vs[1]?=some (.ref T)/\H' T=none/\s'.heap.get? T=some oT/\oT.data= .fields ts/\ts[3]?=some .none/\s.heap.objs.size<=T)/\E (.ref C) (some e) H'
noncomputable def Jro (X:Cx) (R:St->XK):Prop:=∀pins σ H s e C dx fr,Inv X pins σ H s->H e=some (XO e C (some dx) fr)->(fr=true\/Flt X pins H s.heap e .none)->R σ (.ref C) (some e) (upd H e (XO e C (some dx) false))->X.xe (.ref e) s
theorem Jkz {P:Program} {w:World} {K:PySem.W.Frag} {mg:Str->Option Value} {base:Heap} {N:List Str} {qual:Str} {scope:Scope} {f:Addr} {cd:Value} {A:Around} {outer:List Env} {s:Shared} {H:Hp} {E:XK}:
  Jro (Jve (CXX P w) P w K mg base N qual scope f cd A outer s H E) (λ_=>E):=by
 intro pins σ H1 s1 e C dx fr I q hfl hE;show wpAny _ _ (leaving _ _) _ _ _;unfold leaving;refine wpAny_bind (Jvo I ⟨rfl,rfl⟩ I.ok.frames q hfl λs2 I2 f2=>Jnm I2 Jjq f2 λs3 I3 f3=>?_);obtain ⟨oe,vs,T,oT,ts,z1,z2,z3,z4,z5,z6,z7,z8,_⟩:=f3;exact ⟨e,C,dx,_,rfl,I3.os,I3.bare,I3.base,I3.hok,Jjq,⟨oe,vs,T,oT,ts,z1,z2,z3,z4,z5,z6,z7,z8⟩,hE⟩
theorem upd_id {H:Hp} {a:Addr} {o:HO} (h:H a=some o):upd H a o=H:=by
 funext b;unfold upd;split
 ·rename_i z;rw [z,h]
 ·rfl
section
variable {X:Cx} {pins:List (Addr×Obj)} {σ:St} {H:Hp} {s s':Shared} {R:St->XK} {ev:Value}
theorem Yek (hw:Jro X R) (I:Inv X pins σ H s) (h:CXX X.prog X.w X.stack H s (R σ) ev s'):X.xe ev s':=by
 obtain ⟨e,C,dx,H',rfl,ho,hg,un,hok,q,⟨oe,vs,T,oT,ts,z1,z2,z3,z4,z5,z6,z7,z8⟩,hR⟩:=h;have I':Inv X pins σ H' s':=I.call' (ch:=[]) ho un hok hg λb z=>absurd z (by simp);refine hw pins σ H' s' e C dx false I' q (.inr ⟨oe,vs,T,oT,ts,z1,z2,z3,z4,z5,z6,z7,yai I.sz z8,λp hp z=>?_⟩) (by rw [upd_id q];exact hR);obtain ⟨y1,_⟩:=I.pin p hp;exact absurd (yg y1) (by rw [z];exact yat.mpr z8)
end
theorem FnOk.calm {P:Program} {w:World} {K:PySem.W.Frag} {mg:Str->Option Value} {base:Heap} {k:Nat} {f:Addr} {fd:FuncData} {ps:List Str} {sp:Sp} (G:FnOk P w K mg base (CXX P w) k f fd ps sp):FnOk P w K mg base CX0 k f fd ps (λvs H Q _=>sp vs H Q E0):=
 ⟨λvs H Q _ h=>G.len vs H Q E0 h,λA outer s H args us vs Q E hr he hb hv hs=>codeAny_mono (G.run A outer s H args us vs Q E0 hr he hb hv hs) λr s' hq=>by
  cases r with
  |error e=>obtain ⟨_,_,_,_,_,_,_,_,_,_,_,z⟩:=hq;exact z.elim
  |ok fl=>cases fl <;> exact hq⟩
theorem Fun.okX {P:Program} {w:World} {K:PySem.W.Frag} {mg:Str->Option Value} {base:Heap} {x qual:Str} {st:Stmt} {f:Addr} {fd:FuncData} {N ps:List Str} {k:Nat} {sp:Sp} (F:Fun K x qual st f fd) (S:Jk0 N ps (Jju st)) (len:∀vs H Q E,sp vs H Q E->vs.length=ps.length)
  (hbody:∀(cdv:Value) (A:Around) (outer:List Env) (s:Shared) (H:Hp) (vs:List V) (Q:VK) (E:XK),Room k (A.deeper (envOfC qual (Jju st) s.heap.objs.size f cdv))->sp vs H Q E->
   ∃t,PSs (Jve (CXX P w) P w K mg base N qual (Jju st) f cdv A outer s H E) (Jks st) t/\t {nx:=λ_ H'=>Q .non H',rt:=Q} (start N vs) H):FnOk P w K mg base (CXX P w) (k+1) f fd ps sp:=by
 obtain ⟨oc,od,kV,doc,pm,an,cdv,ct,osl,rfl,lk,hcd⟩:=F.ex;exact fn_of lk hcd S len λA outer s H vs Q E hr hsp=>hbody cdv A outer s H vs Q E hr hsp
noncomputable def tCallX (sp:Sp) (R:St->XK) (t:TA):TE:=λσ H Q=>t σ H λvs H1=>sp vs H1 Q (R σ)
section
variable {X:Cx} {k j:Nat} {f C:Addr} {fd:FuncData} {ps:List Str} {sp:Sp} {R:St->XK} {x m:Str} {p pos apos:Pos} {e o:Expr} {es:List Expr} {ta:TE} {t:TA}
theorem Ydq {pins:List (Addr×Obj)} {σ:St} {H:Hp} {s:Shared} {Q:VK} {us:List Value} {vs:List V} (G:FnOk X.prog X.w X.K X.mg X.base (CXX X.prog X.w) k f fd ps sp) (hw:Jro X R) (hr:Room k X.A) (hb:Binds X.K fd ps [])
  (I:Inv X pins σ H s) (r:Vals vs us) (h:sp vs H Q (R σ)):wpAny (model X.prog X.w) X.A (call (.ref f) us) (EP X pins σ Q) X.xe s:=by
 have hl:(us++ []).length=ps.length:=by rw [yaz,<-r.length,G.len _ _ _ _ h]
 have hb':=hb s us I.kIn hl;rw [yaz] at hb';refine wpAny_call (codeAny_mono (G.run X.A X.stack s H ⟨us,[]⟩ us vs Q (R σ) hr I.env0 hb' r h) λr s' hq=>?_);cases r with
 |error e=>exact Yek hw I hq
 |ok fl=>
  cases fl with
  |ret u=>exact I.after hq
  |next=>exact False.elim hq
  |brk=>exact False.elim hq
  |cont=>exact False.elim hq
theorem Jlk {st:Stmt} (F:FT X.K X.mg x st ps f fd) (G:FnOk X.prog X.w X.K X.mg X.base (CXX X.prog X.w) k f fd ps sp) (hw:Jro X R) (hr:Room j X.A) (hk:k<=j) (ha:PA X (e::es) t) (hg:Gl X x:=by rfl)
  (hdb:(x==("__debug__" :Str))=false:=by decide) (he:starEach (e::es) X.env=(false,eval e X.env)::starEach es X.env:=by rfl) (hpl:(backTo pos (starEach es X.env)).any (·.1)=false:=by rfl):
  PE X (.Call (.Name x p) (e::es) [] pos) (tCallX sp R t):=by
 intro pins s σ H Q I h;refine wpAny_Call_Name_kw (Jnv I hg F.mgx ?_ hdb);refine PySem.W.callWith_K (h₀:=X.base) I.ok.mod.kin F.fn.kp (thn (ha pos pins s σ H _ I h) λus s1 ⟨vs,H1,I1,r,q⟩=>⟨I1.kIn,?_⟩) he hpl;exact Ydq G hw (hr.mono hk) F.bd I1 r q
end
end L2
namespace L2
open PySem PySem.Spec PyProof.Rows
noncomputable def Ybp (K:PySem.W.Frag) (R:St->XK) (te:TE):TS:=λ_ σ H=>te σ H λv H1=>∃e C W fI dx,v= .ref e/\H1 e=some (XO e C (some dx) true)/\XCls K C W fI/\R σ (.ref C) (some e) (upd H1 e (XO e C (some dx) false))
section
variable {X:Cx} {R:St->XK} {x:Expr} {pos:Pos} {te:TE}
theorem Jkv (hw:Jro X R) (hc:X.calm=true) (hx:PE X x te):PS X (.Raise (some x) none pos) (Ybp X.K R te):=by
 intro pins s σ H D I h;rw [arm_exec_Raise];refine wpAny_bind (wpAny_standAt ?_);show wpAny _ _ (raiseStmt X.env (some (do let v<-eval x X.env;standAt pos;pure v)) none) _ _ _;unfold raiseStmt;refine wpAny_bind (wpAny_bind (thn (hx pins s σ H _ I h) λu s1 ⟨y,H1,I1,ry,e,C,W,fI,dx,ey,q,c,k⟩=>wpAny_bind (wpAny_standAt (wpAny_pure ?_))));subst ey;obtain rfl:u=Value.ref e:=ry;obtain ⟨o,vs,he,hcl,hd,hf,h0,y,h1,hy⟩:=Jrn I1.hok q;have hy':=hy rfl;subst hy';have fin:X.xe (.ref e) s1:=hw pins σ H1 s1 e C dx true I1 q (.inl rfl) k;have hh:X.A.handled=none:=I.ok.hd hc;obtain ⟨nm,qn,N,bs,sn,sub,ab,col,dd,k0,k1,k2,k3,k5,l⟩:=c.obj;have kC:=I1.kIn _ _ l;have hcB:(Value.ref C:: .ref W::VEm).contains (.type "BaseException")=true:=by simp
 obtain ⟨oc,odi,oda,osl⟩:=o;dsimp only at hcl hd hf;subst hcl hd hf;obtain ⟨hp,g,d,tk,os⟩:=s1
 repeat (first|with_reducible refine wpAny_loadPart_at he ?_|with_reducible refine wpAny_loadPart_at kC ?_|(with_reducible refine wpAny_isSubtype_exc kC ?_;rw [hcB])|with_reducible refine wpAny_field he rfl h1 ?_|wp_step)
 exact wpAny_raiseNew_none hh fin
end
structure Jzt (K:PySem.W.Frag) (C:Addr):Prop where
 obj:∃(dd:Option Addr) (cd:ClassData) (sl:Array (Option Value)),K.lookup C=some ⟨.type "type",dd,.cls cd,sl⟩
 mb:PySem.W.mroIn K C (.type "BaseException")=some true
theorem XCls.e {K:PySem.W.Frag} {C W fI:Addr} (c:XCls K C W fI):Jzt K C:=by
 obtain ⟨nm,qn,N,bs,sn,sub,ab,col,dd,k0,k1,k2,k3,k5,l⟩:=c.obj;exact ⟨⟨_,_,_,l⟩,c.mb⟩
section
variable {prog:Program} {w:World} {A:Around} {E:Value->Shared->Prop} {s:Shared} {K:PySem.W.Frag} {e C C0:Addr} {oe:Obj} {b:Bool}
theorem Jsr {Q:Bool->Shared->Prop} (X:K.In s.heap) (c0:Jzt K C0) (he:s.heap.get? e=some oe) (hc:oe.cls= .ref C) (hm:PySem.W.mroIn K C (.ref C0)=some b) (q:Q b s):wpAny (model prog w) A (excMatches (.ref e) (.ref C0)) Q E s:=by
 obtain ⟨dd,cd,sl,l⟩:=c0.obj;have k0:=X _ _ l;have f0:=tc_notTuple;have m1:=PySem.W.looks_mroIn (M:=model prog w) X c0.mb;have m2:=PySem.W.looks_mroIn (M:=model prog w) X hm;obtain ⟨oc,odi,oda,osl⟩:=oe;dsimp only at hc;subst hc;obtain ⟨hp,g,d,tk,os⟩:=s;unfold excMatches
 repeat (first|with_reducible refine wpAny_loadPart_at he ?_|with_reducible refine wpAny_loadPart_at k0 ?_|with_reducible refine m1.at ?_|with_reducible refine m2.at ?_|wp_step)
 cases b <;> (repeat wp_step) <;> exact q
end
noncomputable def Cx.caught (X:Cx) (e:Addr):Cx:={X with A:=X.A.mark (some (.ref e)),calm:=false,xe:=λ_ _=>False}
noncomputable def Cx.tried (X:Cx) (pins:List (Addr×Obj)) (R:St->XK):Cx:=
 {X with pn:=X.pn++pins,xe:=λev s'=>∃σ H e C dx fr,ev= .ref e/\Inv X pins σ H s'/\H e=some (XO e C (some dx) fr)/\(fr=true\/Flt X pins H s'.heap e .none)/\R σ (.ref C) (some e) (upd H e (XO e C (some dx) false))}
section
variable {X:Cx} {pins pins':List (Addr×Obj)} {σ:St} {H:Hp} {s:Shared} {R:St->XK} {e:Addr}
theorem Inv.caught (I:Inv X pins σ H s) (e:Addr):Inv (X.caught e) pins σ H s:=
 ⟨⟨I.ok.mod,I.ok.kind,I.ok.glob,I.ok.blt,I.ok.above,I.ok.inj,I.ok.has,I.ok.cab,(λz=>nomatch z),I.ok.frames,I.ok.stk,I.ok.exf,I.ok.bs,I.ok.bsz,I.ok.noex,I.ok.exfs,I.ok.funs,I.ok.frf⟩,I.os,I.bare,I.base,I.loc,I.cell,I.free,I.freeC,I.pin,I.hok,I.len⟩
theorem Inv.uncaught (ok:X.Ok) (I:Inv (X.caught e) pins σ H s):Inv X pins σ H s:=⟨ok,I.os,I.bare,I.base,I.loc,I.cell,I.free,I.freeC,I.pin,I.hok,I.len⟩
theorem Inv.tried (I:Inv X pins σ H s) (R:St->XK):Inv (X.tried pins R) [] σ H s:=
 ⟨⟨I.ok.mod,I.ok.kind,I.ok.glob,I.ok.blt,I.ok.above,I.ok.inj,I.ok.has,I.ok.cab,I.ok.hd,I.ok.frames,I.ok.stk,I.ok.exf,I.ok.bs,I.ok.bsz,I.ok.noex,I.ok.exfs,I.ok.funs,I.ok.frf⟩,I.os,I.bare,I.base,I.loc,I.cell,I.free,I.freeC,(λp hp=>I.pin p (by rw [yaz] at hp;exact hp)),I.hok,I.len⟩
theorem Inv.untried (I:Inv (X.tried pins R) pins' σ H s):Inv X pins σ H s:=
 ⟨⟨I.ok.mod,I.ok.kind,I.ok.glob,I.ok.blt,I.ok.above,I.ok.inj,I.ok.has,I.ok.cab,I.ok.hd,I.ok.frames,I.ok.stk,I.ok.exf,I.ok.bs,I.ok.bsz,I.ok.noex,I.ok.exfs,I.ok.funs,I.ok.frf⟩,I.os,I.bare,I.base,I.loc,I.cell,I.free,I.freeC,(λp hp=>I.pin p (List.mem_append_left _ hp)),I.hok,I.len⟩
theorem xw_try:Jro (X.tried pins R) R:=λpins' σ H s e C dx fr I q hfl hR=>⟨σ,H,e,C,dx,fr,rfl,I.untried,q,hfl.imp id λ⟨oe,vs,T,oT,ts,z1,z2,z3,z4,z5,z6,z7,z8,z9⟩=>⟨oe,vs,T,oT,ts,z1,z2,z3,z4,z5,z6,z7,z8,λp hp=>z9 p (List.mem_append_left _ hp)⟩,hR⟩
theorem SP.map {X Y:Cx} {pl pm:List (Addr×Obj)} {D:Ends} {f:Flow} {s':Shared} (hI:∀σ H,Inv X pl σ H s'->Inv Y pm σ H s') (h:SP X pl D f s'):SP Y pm D f s':=by
 cases f with
 |next=>obtain ⟨σ',H',I,q⟩:=h;exact ⟨σ',H',hI _ _ I,q⟩
 |brk=>obtain ⟨σ',H',I,q⟩:=h;exact ⟨σ',H',hI _ _ I,q⟩
 |cont=>obtain ⟨σ',H',I,q⟩:=h;exact ⟨σ',H',hI _ _ I,q⟩
 |ret u=>obtain ⟨v,σ',H',I,r,q⟩:=h;exact ⟨v,σ',H',hI _ _ I,r,q⟩
theorem Ya9 {M:Model} {A:Around} {E:Value->Shared->Prop} {i:Nat} {n:Str} {pos:Pos} {Q:Unit->Shared->Prop} (I:Inv X pins σ H s) (hN:X.N.Nodup) (hi:X.N[i]?=some n) (hk:X.env.scope.names.lookup n=some .local)
  (h:∀s',Inv X pins (σ.set i none) H s'->Q () s'):wpAny M A (do bindName X.env n .none;unbindBehindTheSuite X.env n pos) Q E s:=by
 obtain ⟨m,hn,hl⟩:=id I.loc;have hcls:(X.env.scope.kind== .class||(X.env.scope.kind== .module&&X.env.locals !=X.env.globals))=false:=by rw [I.ok.kind];rfl
 have cne:=I.cne;refine wpAny_nameGoes_keeps hk hn hcls λh' v hn' sb=>h _ ?_;obtain ⟨oL,_,_,hoL,_⟩:=id hn;have lo:∀b o,X.s₀.heap.get? b=some o->b≠X.env.locals:=λb o z=>yr (yap (yg z) I.ok.above);refine ⟨I.ok,I.os,I.bare,⟨λb o z n hb hx=>(sb.2 b (lo b o z)).trans (I.base.keep b o z n hb hx),λb o z n hb hx=>?_,I.base.free,λb o z hx=>?_,I.base.tups,I.base.frzs,I.base.tbls⟩,⟨_,hn',λj y v' e1 e2 e3=>?_⟩,λy c z=>?_,I.free,I.freeC,λp hp=>?_,λb ob z=>?_,by simpa using I.len⟩
 ·obtain ⟨sl,z1⟩:=I.base.slot b o z n hb hx;exact ⟨sl,(sb.2 b (lo b o z)).trans z1⟩
 ·obtain ⟨o',z1⟩:=I.base.there b o z hx;exact ⟨o',(sb.2 b (lo b o z)).trans z1⟩
 ·have hj:j≠i:=λz=>by
   subst z;have:j < σ.length:=by rw [I.len];exact (yq.mp hi).1
   rw [List.getElem?_set_self this] at e2;cases e2
  rw [ycj (yk hj)] at e2;obtain ⟨u',r',q⟩:=hl j y v' e1 e2 e3;refine ⟨u',r',?_⟩;rcases q with ⟨k,z⟩|⟨k,c,z,zz⟩
  ·refine .inl ⟨k,?_⟩;have:y≠n:=λz=>hj (Jsw hN e1 (z▸hi));show (if y=n then v else m y)=some u';rw [if_neg this];exact z
  ·exact .inr ⟨k,c,z,zz.sameBut sb (cne y c z)⟩
 ·obtain ⟨w',zz⟩:=I.cell y c z;exact ⟨w',zz.sameBut sb (cne y c z)⟩
 ·obtain ⟨z,n,ne,nf,d⟩:=I.pin p hp;exact ⟨(sb.2 p.1 ne).trans z,n,ne,nf,d⟩
 ·refine (I.hok b ob z).stay (λc w' hc q=>(sb.2 c ?_).trans q) (λ_ q=>q) (λ_ _ q=>q) λ_ _ q=>q;rintro rfl;rcases hc with rfl|hc
  ·rw [I.free] at z;cases z
  ·rw [I.free] at hc;cases hc
end
noncomputable abbrev TH:=Ends->St->Value->Option Addr->Hp->Prop
noncomputable def PH (X:Cx) (hs:List ExceptHandler) (th:TH):Prop:=
 ∀(pins:List (Addr×Obj)) (s:Shared) (σ:St) (H:Hp) (D:Ends) (e C dx:Addr),Inv X pins σ H s->H e=some (XO e C (some dx) false)->Flt X pins H s.heap e .none->th D σ (.ref C) (some e) H->
  wpAny (model X.prog X.w) X.A (handleBy (.ref e) X.env hs) (SP X pins D) X.xe s
noncomputable def hNil:TH:=λ_ _ _ _ _=>False
theorem Ybe {X:Cx}:PH X [] hNil:=λ_ _ _ _ _ _ _ _ _ _ _ h=>h.elim
noncomputable def Ends.less (D:Ends) (i:Nat):Ends:=⟨λσ H=>D.nx (σ.set i none) H,D.rt,λσ H=>D.bk (σ.set i none) H,λσ H=>D.ct (σ.set i none) H⟩
noncomputable def hAs (K:PySem.W.Frag) (C0:Addr) (i:Nat) (ts:Addr->TS) (th:TH):TH:=λD σ c eo H=>∃e C b,c= .ref C/\eo=some e/\PySem.W.mroIn K C (.ref C0)=some b/\if b=true then ts e (D.less i) (σ.set i (some (.ref e))) H else th D σ c eo H
section
variable {X:Cx} {x n:Str} {np pos:Pos} {C0:Addr} {i:Nat} {b₀:Stmt} {suite:List Stmt} {rest:List ExceptHandler} {ts:Addr->TS} {th:TH}
theorem ph_as (c0:Jzt X.K C0) (hm:X.mg x=some (.ref C0)) (hN:X.N.Nodup) (hi:X.N[i]?=some n) (hl:X.env.scope.names.lookup n=some .local) (hsu:∀e,PSs (X.caught e) (b₀::suite) (ts e)) (hr:PH X rest th) (hg:Gl X x:=by rfl)
  (hdb:(x==("__debug__" :Str))=false:=by decide):PH X (.ExceptHandler (some (.Name x np)) (some n) (b₀::suite) pos::rest) (hAs X.K C0 i ts th):=by
 rintro pins s σ H D e C dx I q hfl ⟨e',C',b,hC,he,hmr,h⟩;cases hC;cases he;obtain ⟨o,vs,go,gc,_⟩:=Jrn I.hok q;refine wpAny_handleBy_cons (codeAny_handlers_test (Jnv (X:=X.caught e) (I.caught e) hg hm (Jsr I.kIn c0 go gc hmr ?_) hdb)) (λz=>by cases z);cases b with
 |false=>exact hr pins s σ H D e C dx I q hfl h
 |true=>
  refine codeAny_handlers_suite_as (Jnm I q hfl λs1 I1 f1=>Jp2 (v:=.ref e) I1 hN hi (.inl hl) rfl (λs2 I2=>?_) (.inr hl));refine wpAny_mono (hsu e pins s2 _ H (D.less i) (I2.caught e) h) (λf s3 hf=>?_) λ_ _ z=>False.elim z;have go:∀{f:Flow} {σ':St} {H':Hp},Inv (X.caught e) pins σ' H' s3->(∀s',Inv X pins (σ'.set i none) H' s'->SP X pins D f s')->wpAny (model X.prog X.w) X.A (do bindName X.env n .none;unbindBehindTheSuite X.env n pos) (λ_ s'=>SP X pins D f s') X.xe s3:=
   λ{f σ' H'} I3 k=>Ya9 (Inv.uncaught I.ok I3) hN hi hl k
  cases f with
  |next=>obtain ⟨σ',H',I3,k⟩:=hf;exact go I3 λs' I'=>⟨_,H',I',k⟩
  |brk=>obtain ⟨σ',H',I3,k⟩:=hf;exact go I3 λs' I'=>⟨_,H',I',k⟩
  |cont=>obtain ⟨σ',H',I3,k⟩:=hf;exact go I3 λs' I'=>⟨_,H',I',k⟩
  |ret u=>obtain ⟨v,σ',H',I3,r,k⟩:=hf;exact go I3 λs' I'=>⟨v,_,H',I',r,k⟩
end
noncomputable def tTry (tb:List (Addr×Obj)->(St->XK)->TS) (th:TH):TS:=λD σ H=>∀pins,tb pins (λσ' c e H'=>th D σ' c e H') D σ H
theorem Ybh {X:Cx} {body:List Stmt} {h₀:ExceptHandler} {hs:List ExceptHandler} {pos:Pos} {tb:List (Addr×Obj)->(St->XK)->TS} {th:TH} (hst:Jz5 X) (hb:∀pins R,Jro (X.tried pins R) R->PSs (X.tried pins R) body (tb pins R)) (hh:PH X (h₀::hs) th):
  PS X (.Try body (h₀::hs) [] [] pos) (tTry tb th):=by
 intro pins s σ H D I h;refine wpAny_Try_except (wpAny_mono (hb pins (λσ' c e H'=>th D σ' c e H') xw_try [] s σ H D (I.tried _) (h pins)) (λf s1 hf=>?_) λev s1 hx=>?_)
 ·have hf':SP X pins D f s1:=hf.map λ_ _ J=>J.untried;cases f with
  |next=>exact wpAny_execs_nil hf'
  |brk=>exact hf'
  |cont=>exact hf'
  |ret u=>exact hf'
 ·obtain ⟨σ',H',e,C,dx,fr,rfl,I',q,hfl,hR⟩:=hx;exact Jvo I' hst I'.ok.frames q hfl λs2 I2 f2=>Jnm I2 Jjq f2 λs3 I3 f3=>hh pins s3 σ' _ D e C dx I3 Jjq f3 hR
end L2
namespace L2
open PySem PySem.Spec PyProof.Rows
structure FM (K:PySem.W.Frag) (x qual:Str) (st:Stmt) (ps:List Str) (f:Addr) (fd:FuncData):Prop where
 fn:Fun K x qual st f fd
 bd:Binds K fd ps []
structure YCls (K:PySem.W.Frag) (C:Addr):Prop where
 ya:PySem.W.findIn K (.ref C) "__class__" =some (some (.builtin "object.__class__"))
 yb:PySem.W.specialIn K (.builtin "object.__class__") "__get__" =some (some (.builtin "getset_descriptor.__get__"))
 yc:PySem.W.takesIn K (.builtin "object.__class__")=some true
 yd:PySem.W.mroIn K C (.type "object")=some true
theorem YCls.ty {K:PySem.W.Frag} {C a dx:Addr} {H:Hp} {fs:List (Str×V)} (y:YCls K C) (c:Cls K C) (e:H a=some (.ins C dx fs)):Jr0 K H (.ref a) (.ref C):=.ins e c y.ya y.yb y.yc y.yd
noncomputable def Jn8 (K:PySem.W.Frag) (f:Str):Sp:=λvs H Q _=>∃e C W fI y,vs= [.ref e,y]/\H e=some (XO e C none true)/\XCls K C W fI/\NoAttr K C f/\∀dx,H dx=none->dx≠e->Q .non (upd (upd H dx (XD dx [(f,y)])) e (XO e C (some dx) true))
theorem Y3 {K:PySem.W.Frag} {C W fI:Addr} {f:Str} {y:V} {H:Hp} {Q:VK} (c:XCls K C W fI) (n:NoAttr K C f) (k:∀e dx,H e=none->H dx=none->dx≠e->Q (.ref e) (upd (upd H dx (XD dx [(f,y)])) e (XO e C (some dx) true))):
  [y].length<=1000/\∀e,H e=none->Jn8 K f (.ref e:: [y]) (upd H e (XO e C none true)) (λv H2=>v= .non/\Q (.ref e) H2) E0:=by
 refine ⟨by simp,λe he=>⟨e,C,W,fI,y,rfl,Jjq,c,n,λdx h1 h2=>⟨rfl,?_⟩⟩⟩;have z:=k e dx he (by rw [Jjx h2] at h1;exact h1) h2;have e2:upd (upd (upd H e (XO e C none true)) dx (XD dx [(f,y)])) e (XO e C (some dx) true)=upd (upd H dx (XD dx [(f,y)])) e (XO e C (some dx) true):=by
  funext b;unfold upd;split
  ·rfl
  ·split <;> rfl
 rw [e2];exact z
end L2
namespace L2
open PySem PySem.Spec PyProof.Rows
section
variable {X:Cx} {pins:List (Addr×Obj)} {σ:St} {H:Hp} {s:Shared}
theorem Inv.turnTup {ch:List Addr} {T:Addr} {xs:List V} {h':Heap} {t':Nat} (I:Inv X pins σ H s) (hch:∀b∈ch,Jqy X pins H b) (k:∀b o,b∉ch->s.heap.get? b=some o->h'.get? b=some o) (hT:s.heap.objs.size<=T)
  (new:ObjOk X.prog X.w (upd H T (.tup xs)) h' T (.tup xs)):Inv X pins σ (upd H T (.tup xs)) {s with heap:=h',toks:=t'}:=by
 have hn:H T=none:=I.hok.fresh hT;have nb:∀b o,s.heap.get? b=some o->b≠T:=λb o z w'=>absurd (yg z) (by rw [w'];exact yat.mpr hT);have nt:∀b u,H b=some u->b≠T:=λb u z=>Jjy z hn;have nc:∀b u,H b=some u->b∉ch:=λb u z w'=>by rw [(hch b w').1] at z;cases z
 have u:Un (frs X.stack) ch H (upd H T (.tup xs)) s.heap h':=by
  refine ⟨λb o hb n hs hc=>k b o hc hb,λb o hb n _ hc=>⟨o.slots,k b o hc hb⟩,λb o hb n _=>by rw [Jjx (nb b o hb)];exact n,λb o hb hc=>⟨o,k b o hc hb⟩,λb ys z=>by rw [Jjx (nt b _ z)];exact z,λb o v z=>by rw [Jjx (nt b _ z)];exact z,λb ps z=>⟨#[],by rw [Jjx (nt b _ z),z];simp⟩⟩
 refine I.call (g':=s.gens) (d':=s.drawn) (ch:=ch) u (λb o z=>?_) I.bare λb hb=>?_
 ·by_cases w':b=T
  ·subst w';rw [Jjq] at z;cases z;exact new
  ·rw [Jjx w'] at z;refine (I.hok b o z).stay (λc v hc zz=>k c v ?_ zz) (λc zz=>by rw [Jjx (nt c _ zz)];exact zz) (λc ys zz=>by rw [Jjx (nt c _ zz)];exact zz) λc ys zz=>by rw [Jjx (nt c _ zz)];exact zz
   rcases hc with rfl|hc
   ·exact nc c o z
   ·exact nc c _ hc
 ·obtain ⟨_,h1,_,h3,h4,h5⟩:=hch b hb;exact ⟨h3,h1,h4,h5⟩
theorem Inv.turnMany {ch:List Addr} {h':Heap} {t':Nat} (I:Inv X pins σ H s) (hch:∀b∈ch,Jqy X pins H b) (k:∀b o,b∉ch->s.heap.get? b=some o->h'.get? b=some o):Inv X pins σ H {s with heap:=h',toks:=t'}:=by
 have nc:∀b u,H b=some u->b∉ch:=λb u z w'=>by rw [(hch b w').1] at z;cases z
 have u:Un (frs X.stack) ch H H s.heap h':=
  ⟨λb o hb n hs hc=>k b o hc hb,λb o hb n _ hc=>⟨o.slots,k b o hc hb⟩,λb o hb n _=>n,λb o hb hc=>⟨o,k b o hc hb⟩,λb ys z=>z,λb o v z=>z,λb ps z=>⟨#[],by rw [z];simp⟩⟩
 refine I.call (g':=s.gens) (d':=s.drawn) (ch:=ch) u (λb o z=>(I.hok b o z).stay (λc v hc zz=>k c v ?_ zz) (λ_ zz=>zz) (λ_ _ zz=>zz) λ_ _ zz=>zz) I.bare λb hb=>?_
 ·rcases hc with rfl|hc
  ·exact nc c o z
  ·exact nc c _ hc
 ·obtain ⟨_,h1,_,h3,h4,h5⟩:=hch b hb;exact ⟨h3,h1,h4,h5⟩
end
theorem Yah:bootBuiltins "zip" =some (.type "zip"):=by decide +kernel
end L2
namespace L2
open PySem PySem.Spec PyProof.Rows
section
variable {X:Cx} {pins:List (Addr×Obj)} {σ:St} {H:Hp} {s:Shared}
inductive TyX (K:PySem.W.Frag) (H:Hp):V->Value->Prop where
 |of {x:V} {t:Value}:Jr0 K H x t->TyX K H x t
 |exc {e C W fI dx:Addr} {fs:List (Str×V)} {fr:Bool}:H e=some (XO e C (some dx) fr)->H dx=some (XD dx fs)->XCls K C W fI->TyX K H (.ref e) (.ref C)
theorem TyX.kit {x:V} {u t:Value} (I:Inv X pins σ H s) (rx:RelV x u) (ty:TyX X.K H x t):u≠ .builtin "__main__.__loader__#opaque" /\∃Hh,PySem.W.KitX X.K u t Hh/\Hh s.heap:=by
 cases ty with
 |exc q qd c=>
  obtain rfl:u=Value.ref _:=rx;obtain ⟨ox,oD,mA,J,_,_⟩:=Jzs I.hok q qd;exact ⟨(λz=>nomatch z),_,xkit c,ox,oD,J⟩
 |of ty=>
  cases ty with
  |non=>cases (show u=Value.none from rx);exact ⟨(λz=>nomatch z),_,PySem.W.kitx_none,trivial⟩
  |bl y=>cases (show u=Value.bool y from rx);exact ⟨(λz=>nomatch z),_,PySem.W.kitx_bool,trivial⟩
  |int i=>obtain ⟨t,q⟩:=(show ∃t,u=Value.int i t from rx);cases q;exact ⟨(λz=>nomatch z),_,PySem.W.kitx_int,trivial⟩
  |str y=>obtain ⟨t,q⟩:=(show ∃t,u=Value.str y t from rx);cases q;exact ⟨(λz=>nomatch z),_,PySem.W.kitx_str,trivial⟩
  |flt y=>obtain ⟨t,q⟩:=(show ∃t,u=Value.float y t from rx);cases q;exact ⟨(λz=>nomatch z),_,PySem.W.kitx_float,trivial⟩
  | @lst a xs ea=>
   cases (show u=Value.ref a from rx);obtain ⟨_,_,n,_,h1⟩:=(show ObjOk X.prog X.w H s.heap a (.lst xs) from I.hok a _ ea);exact ⟨(λz=>nomatch z),_,PySem.W.kitx_list,_,h1,rfl⟩
  | @frz a ob xs ea=>
   cases (show u=Value.ref a from rx);obtain ⟨_,_,_,n,_,h1⟩:=(show ObjOk X.prog X.w H s.heap a (.frz ob (.lst xs)) from I.hok a _ ea);exact ⟨(λz=>nomatch z),_,PySem.W.kitx_list,_,h1,rfl⟩
  | @tup a xs ea=>
   cases (show u=Value.ref a from rx);obtain ⟨_,_,_,o,h1,h2,_⟩:=(show ObjOk X.prog X.w H s.heap a (.tup xs) from I.hok a _ ea);exact ⟨(λz=>nomatch z),_,PySem.W.kitx_tuple,o,h1,h2⟩
  | @dK a kvs ea=>
   cases (show u=Value.ref a from rx);obtain ⟨_,_,vs,_,o,es,ep,h1,h2,_⟩:=(show ObjOk X.prog X.w H s.heap a (.dK kvs) from I.hok a _ ea);exact ⟨(λz=>nomatch z),_,PySem.W.kitx_dict,o,h1,h2.1⟩
  | @dT a kvs ea=>
   cases (show u=Value.ref a from rx);obtain ⟨_,_,xs,_,o,es,ep,h1,h2,_⟩:=(show ObjOk X.prog X.w H s.heap a (.dT kvs) from I.hok a _ ea);exact ⟨(λz=>nomatch z),_,PySem.W.kitx_dict,o,h1,h2.1⟩
  | @ins a C dx fs ea cl ha hn htk hm=>
   cases (show u=Value.ref a from rx);obtain ⟨mA,O,_⟩:=Js6 I.hok ea;obtain ⟨od,J,_⟩:=O.look;exact ⟨(λz=>nomatch z),_,PySem.W.kitx_own (cl.get _) cl.hd ha hn htk hm,J⟩
noncomputable def rIsA (K:PySem.W.Frag):List V->Hp->VK->Prop:=λxs H Q=>∃x c u t b,xs= [x,c]/\clsV c=some u/\TyX K H x t/\PySem.W.kitOne K t u=some b/\Q (.bl b) H
theorem Jle:Jlv X (.builtin "isinstance") (rIsA X.K):=by
 rintro pins s σ H vs us Q I r ⟨x,c,u,t,b,rfl,hc,ty,ek,k⟩;obtain ⟨v,w',rfl,r1,r2⟩:=Jxv r;have e2:w'=u:=by
  cases c with
  |ty n=>cases hc;cases r2;rfl
  |ref a=>cases hc;cases r2;rfl
  |_=>cases hc
 subst e2;obtain ⟨hx,Hh,Z,p⟩:=ty.kit I r1;exact PySem.W.kia_one Z I.kIn p ek hx λtk=>⟨.bl b,H,I.tok _,rfl,k⟩
theorem Jwk:∀{cs:List V} {us ws:List Value},cs.mapM clsV=some us->Vals cs ws->ws=us
 | [],us,_,e,.nil=>by cases e;rfl
 |c::cs,us,_,e,.cons r t=>by
  rw [List.mapM_cons] at e;simp only [Option.bind_eq_bind,Option.bind_eq_some_iff,Option.pure_def,yae.injEq] at e;obtain ⟨u,hu,us',hus,rfl⟩:=e;rw [Jwk hus t];cases c with
  |ty n=>cases hu;cases r;rfl
  |ref a=>cases hu;cases r;rfl
  |_=>cases hu
noncomputable def rIsT (K:PySem.W.Frag):List V->Hp->VK->Prop:=λxs H Q=>∃x p cs us t b,xs= [x,.ref p]/\H p=some (.tup cs)/\cs.mapM clsV=some us/\TyX K H x t/\PySem.W.kitAny K t us=some b/\Q (.bl b) H
theorem Jse:Jlv X (.builtin "isinstance") (rIsT X.K):=by
 rintro pins s σ H vs us Q I r ⟨x,p,cs,us',t,b,rfl,hp,hc,ty,ek,k⟩;obtain ⟨v,w',rfl,r1,r2⟩:=Jxv r;obtain rfl:w'=Value.ref p:=r2;obtain ⟨hx,Hh,Z,q⟩:=ty.kit I r1;obtain ⟨_,its,rv,o,h1,h2,n,h3⟩:=(show ObjOk X.prog X.w H s.heap p (.tup cs) from I.hok p _ hp);have e:=Jwk hc rv;subst e;obtain ⟨oc,odi,oda,osl⟩:=o;dsimp only at h2 h3;subst h2 h3;exact PySem.W.kia_tup Z I.kIn q h1 ek hx λtk=>⟨.bl b,H,I.tok _,rfl,k⟩
noncomputable def iSeq (K:PySem.W.Frag) (tl:TE):TI:=λσ H R=>tl σ H λx H1=>∃a,x= .ref a/\(((∃xs,SqL K H1 a xs)/\R (Itl K a) H1)\/((∃xs,SqT K H1 a xs)/\R (Itt K a) H1))
theorem pi_seq {tg l:Expr} {tl:TE} (hl:PE X l tl):PI X tg l (iSeq X.K tl):=by
 intro pins s σ H R I h;refine thn (hl pins s σ H _ I h) λv s1 zq=>?_;obtain ⟨x,H1,I1,r1,a,e,q1⟩:=zq;subst e;cases r1;have fin:∀{J:It} {tn:Nat->Heap->Prop} {o:Obj},Jqz X.prog X.w X.K tg J [s1.heap.objs.size] s1.heap.objs.size tn->tn 0 (s1.heap.push o)->R J H1->PIE X pins σ tg R (.ref s1.heap.objs.size) {s1 with heap:=s1.heap.push o}:=λ{J tn o} T st q=>by
  refine ⟨s1.heap.objs.size,[s1.heap.objs.size],tn,J,H1,rfl,I1.kept (t':=s1.toks) λb o e=>yj _ e,T,st,λb hb=>?_,q⟩;have e:b=s1.heap.objs.size:=by simpa using hb
  subst e;exact I1.fpOk (yi _) (I1.hok.fresh (yi _))
 rcases q1 with ⟨⟨xs,hq⟩,q⟩|⟨⟨xs,hq⟩,q⟩
 ·obtain ⟨its,rv,p,hz⟩:=I1.list hq;exact wpAny_pyIter_list p.isList (fin (Jv5 a _) ⟨_,yp _ rfl,rfl,rfl⟩ q)
 ·obtain ⟨its,rv,p,hz⟩:=I1.tuple hq;exact wpAny_pyIter_tuple (show s1.heap.IsTuple a its.toArray from p) (fin (Jti a _) ⟨_,yp _ rfl,rfl,rfl⟩ q)
end
noncomputable def Jyx (P:Program) (w:World) (K:PySem.W.Frag) (mg:Str->Option Value) (base:Heap) (j:Nat) (m:Str) (ta:TE) (t:TA):TE:=λσ H Q=>ta σ H λx H1=>∃a C dx fs f fd ps sp k,x= .ref a/\H1 a=some (.ins C dx fs)/\fs.lookup m=none/\Cls K C/\Jp8 K C m f/\FnOk P w K mg base CX0 k f fd ps sp/\k<=j/\Binds K fd ps []/\
 t σ H1 λvs H2=>sp (x::vs) H2 Q E0
section
variable {X:Cx} {j:Nat} {m:Str} {apos pos:Pos} {e o:Expr} {es:List Expr} {ta:TE} {t:TA} {R:St->XK}
theorem Jt4 {pl:Sem Bool} (he:PE X o ta) (hr:Room j X.A) (ha:PA X (e::es) t)
  (hst:starEach (e::es) X.env=(false,eval e X.env)::starEach es X.env:=by rfl) (hpl:(backTo pos (starEach es X.env)).any (·.1)=false:=by rfl)
  (ht:eval (.Call (.Attribute o m apos) (e::es) [] pos) X.env=(do
   let ov<-eval o X.env
   standAt apos.atName
   let (f,first)<-holding [ov] (getMethod ov m pl)
   callWith pos f first (backTo pos (starEach (e::es) X.env)) (backToKw pos (keywordEach [] X.env))):=by rfl):
  PE X (.Call (.Attribute o m apos) (e::es) [] pos) (Jyx X.prog X.w X.K X.mg X.base j m ta t):=by
 intro pins s σ H Q I h;refine PySem.W.methodCall_KW (pl:=pl) (thn (he pins s σ H _ I h) λu s1 zq=>?_) ht;obtain ⟨x,H1,I1,rx,a,C,dx,fs,f,fd,ps,sp,k,ex,ea,l,c,hm,G,hk,hb,q⟩:=zq;subst ex;obtain rfl:u=Value.ref a:=rx;refine Jsk I1 ea c hm l ?_;refine PySem.W.callWith_K (first:=[.ref a]) (h₀:=X.base) I.ok.mod.kin hm.kp (thn (ha pos pins s1 σ H1 _ I1 q) λus s2 ⟨vs,H2,I2,r,q2⟩=>⟨I2.kIn,?_⟩) hst hpl;exact Jyn (us:=.ref a::us) (vs:=.ref a::vs) (dvs:=[]) (ds:=[]) G (hr.mono hk) hb .nil Jql I2 (.cons rfl r) (by rw [yaz];exact q2)
theorem Jp7 {pl:Sem Bool} (he:PE X o ta) (hr:Room j X.A)
  (ht:eval (.Call (.Attribute o m apos) [] [] pos) X.env=(do
   let ov<-eval o X.env
   standAt apos.atName
   let (f,first)<-holding [ov] (getMethod ov m pl)
   callWith pos f first (backTo pos (starEach [] X.env)) (backToKw pos (keywordEach [] X.env))):=by rfl):
  PE X (.Call (.Attribute o m apos) [] [] pos) (Jyx X.prog X.w X.K X.mg X.base j m ta Jxo):=by
 intro pins s σ H Q I h;refine PySem.W.methodCall_KW (pl:=pl) (thn (he pins s σ H _ I h) λu s1 zq=>?_) ht;obtain ⟨x,H1,I1,rx,a,C,dx,fs,f,fd,ps,sp,k,ex,ea,l,c,hm,G,hk,hb,q⟩:=zq;subst ex;obtain rfl:u=Value.ref a:=rx;refine Jsk I1 ea c hm l ?_;exact PySem.W.callWith_K0 (first:=[.ref a]) I1.kIn hm.kp (Jyn (us:=[.ref a]) (vs:=[.ref a]) (dvs:=[]) (ds:=[]) G (hr.mono hk) hb .nil Jql I1 (.cons rfl .nil) q)
end
end L2
namespace L2
open PySem PySem.Spec PyProof.Rows
theorem Jkc {n:Nat} (h:n<=2000):n < sizeLine:=ycm h (by decide)
theorem Jrk (n:Nat) (h:n<=2000):n<=sizeLine:=yaq (Jkc h)
noncomputable def tpB (t:Value):Bool:=[Value.type "bool",.type "str",.type "NoneType",.type "list",.type "tuple",.type "dict"].contains t
noncomputable def Tm (K:PySem.W.Frag) (H:Hp) (x:V):Prop:=(∃i:Int,x= .int i)\/∃t,TyX K H x t/\tpB t=true
noncomputable def Jkq:V->Int->Int->Bool
 | .int i,lo,hi=>decide (lo<=i)&&decide (i<=hi)
 |_,_,_=>false
theorem tp_int {K:PySem.W.Frag} {t:Value} (h:tpB t=true):PySem.W.kitOne K t (.type "int")=some (t== .type "bool")/\PySem.W.kitOne K t (.type "bool")=some (t== .type "bool"):=by
 unfold tpB at h;simp only [List.contains_cons,List.contains_nil,Bool.or_false,Bool.or_eq_true,beq_iff_eq] at h;rcases h with rfl|rfl|rfl|rfl|rfl|rfl <;> exact ⟨rfl,rfl⟩
theorem Yde {K:PySem.W.Frag} {H:Hp} {x:V} {t:Value} (ty:TyX K H x t) (h:tpB t=true):∀lo hi,Jkq x lo hi=false:=by
 intro lo hi;cases ty with
 |exc=>rfl
 |of ty=>
  cases ty <;> first|rfl|(exfalso;revert h;decide)
noncomputable def Yea (K:PySem.W.Frag):Sp:=λvs H Q _=>∃(x:V) (lo hi:Int),vs= [x,.int lo,.int hi]/\Tm K H x/\Q (.bl (Jkq x lo hi)) H
theorem TyX.same {K:PySem.W.Frag} {H H':Hp} {x:V} {t:Value} (s:∀b o,x= .ref b->H b=some o->H' b=some o) (sx:∀b fs,H b=some (XD b fs)->H' b=some (XD b fs)) (ty:TyX K H x t):TyX K H' x t:=by
 cases ty with
 |exc q qd c=>exact .exc (s _ _ rfl q) (sx _ _ qd) c
 |of ty=>
  refine .of ?_;cases ty with
  |non=>exact .non
  |bl b=>exact .bl b
  |int i=>exact .int i
  |str z=>exact .str z
  |flt z=>exact .flt z
  |lst e=>exact .lst (s _ _ rfl e)
  |frz e=>exact .frz (s _ _ rfl e)
  |tup e=>exact .tup (s _ _ rfl e)
  |dK e=>exact .dK (s _ _ rfl e)
  |dT e=>exact .dT (s _ _ rfl e)
  |ins e a b c d f=>exact .ins (s _ _ rfl e) a b c d f
theorem Tm.same {K:PySem.W.Frag} {H H':Hp} {x:V} (s:Same H H') (h:Tm K H x):Tm K H' x:=by
 rcases h with h|⟨t,ty,e⟩
 ·exact .inl h
 ·exact .inr ⟨t,ty.same (λb o _ q=>s b o q) (λb fs q=>s b _ q),e⟩
theorem Yd3 {K:PySem.W.Frag} {q:Addr} {xs:List V} {g:TG} {tb:TS} {D:Ends} {σ:St} {H:Hp} (Pv:Nat->St->Hp->Prop) (h0:Pv 0 σ H) (hl:(∀i σ H,i<=xs.length->Pv i σ H->SqL K H q xs)\/(∀i σ H,i<=xs.length->Pv i σ H->SqT K H q xs))
  (hs:∀i x σ H,xs[i]?=some x->Pv i σ H->g x σ H λσ2 H2=>tb {D with nx:=Pv (i+1),ct:=Pv (i+1),bk:=D.nx} σ2 H2) (hd:∀σ H,Pv xs.length σ H->D.nx σ H):
  ((∃xs,SqL K H q xs)/\∃W:Nat->Nat->St->Hp->Prop,(∃m,W 0 m σ H)/\∀i m σ H,W i m σ H->
   ((Itl K q).stop i H/\D.nx σ H)\/((Itl K q).go i H/\∃N:St->Hp->Prop,(∀σ' H',N σ' H'->∃m',m' < m/\W (i+1) m' σ' H')/\∀x H',(Itl K q).yld i H x H'->g x σ H' λσ2 H2=>tb {D with nx:=N,ct:=N,bk:=D.nx} σ2 H2))\/
  ((∃xs,SqT K H q xs)/\∃W:Nat->Nat->St->Hp->Prop,(∃m,W 0 m σ H)/\∀i m σ H,W i m σ H->
   ((Itt K q).stop i H/\D.nx σ H)\/((Itt K q).go i H/\∃N:St->Hp->Prop,(∀σ' H',N σ' H'->∃m',m' < m/\W (i+1) m' σ' H')/\∀x H',(Itt K q).yld i H x H'->g x σ H' λσ2 H2=>tb {D with nx:=N,ct:=N,bk:=D.nx} σ2 H2)):=by
 rcases hl with hl|hl
 ·exact .inl ⟨⟨xs,hl 0 σ H (yan _) h0⟩,Jwr Pv h0 hl hs hd⟩
 ·exact .inr ⟨⟨xs,hl 0 σ H (yan _) h0⟩,Yd4 Pv h0 hl hs hd⟩
theorem Jmc {K:PySem.W.Frag} {R:L2.St->XK} {C W fI:Addr} {f:Str} {i:Nat} {y:V} {σ:L2.St} {H:Hp} {D:Ends} (c:XCls K C W fI) (n:NoAttr K C f) (hi:σ[i]?=some (some y))
  (k:∀e dx,H e=none->H dx=none->dx≠e->R σ (.ref C) (some e) (upd (upd (upd H dx (XD dx [(f,y)])) e (XO e C (some dx) true)) e (XO e C (some dx) false))):Ybp K R (tExc C (Jn8 K f) (Jll (tVar i) Jxo)) D σ H:=by
 refine ⟨y,hi,?_⟩;exact Y3 (Q:=λv H1=>∃e C W fI dx,v= .ref e/\H1 e=some (XO e C (some dx) true)/\XCls K C W fI/\R σ (.ref C) (some e) (upd H1 e (XO e C (some dx) false))) c n λe dx h1 h2 h3=>⟨e,C,W,fI,dx,rfl,Jjq,c,k e dx h1 h2 h3⟩
theorem iteD {c A B:Prop} [Decidable c] (hc:c) (h:A):if decide c=true then A else B:=by
 rw [decide_eq_true hc];exact Jm7 h
theorem Y7 {c A B:Prop} [Decidable c] (hc:¬c) (h:B):if decide c=true then A else B:=by
 rw [decide_eq_false hc];exact Jkt h
noncomputable def Jl3:Expr->Bool
 | .Starred _ _=>true
 |_=>false
theorem Ya1 (e:Expr) (es:List Expr) (env:Env) (h:Jl3 e=false):starEach (e::es) env=(false,eval e env)::starEach es env:=by
 cases e <;> first|rfl|cases h
theorem Jn9 {X:Cx} {e:Expr} {es:List Expr} {te:TE} {t:TA} (ha:PE X e te) (hr:PA X es t) (hs:Jl3 e=false:=by rfl):PA X (e::es) (Jll te t):=Jjp ha hr (Ya1 e es X.env hs)
theorem pa4 {X:Cx} {e0:Expr} {t0:TE} {e1:Expr} {t1:TE} {e2:Expr} {t2:TE} {e3:Expr} {t3:TE} (h0:PE X e0 t0) (h1:PE X e1 t1) (h2:PE X e2 t2) (h3:PE X e3 t3) (s0:Jl3 e0=false:=by rfl) (s1:Jl3 e1=false:=by rfl) (s2:Jl3 e2=false:=by rfl) (s3:Jl3 e3=false:=by rfl):PA X [e0,e1,e2,e3] (Jll t0 (Jll t1 (Jll t2 (Jll t3 (Jxo))))):=Jn9 h0 (Jn9 h1 (Jn9 h2 (Jn9 h3 (Jjr) s3) s2) s1) s0
theorem pa5 {X:Cx} {e0:Expr} {t0:TE} {e1:Expr} {t1:TE} {e2:Expr} {t2:TE} {e3:Expr} {t3:TE} {e4:Expr} {t4:TE} (h0:PE X e0 t0) (h1:PE X e1 t1) (h2:PE X e2 t2) (h3:PE X e3 t3) (h4:PE X e4 t4) (s0:Jl3 e0=false:=by rfl) (s1:Jl3 e1=false:=by rfl) (s2:Jl3 e2=false:=by rfl) (s3:Jl3 e3=false:=by rfl) (s4:Jl3 e4=false:=by rfl):PA X [e0,e1,e2,e3,e4] (Jll t0 (Jll t1 (Jll t2 (Jll t3 (Jll t4 (Jxo)))))):=Jn9 h0 (Jn9 h1 (Jn9 h2 (Jn9 h3 (Jn9 h4 (Jjr) s4) s3) s2) s1) s0
theorem pa6 {X:Cx} {e0:Expr} {t0:TE} {e1:Expr} {t1:TE} {e2:Expr} {t2:TE} {e3:Expr} {t3:TE} {e4:Expr} {t4:TE} {e5:Expr} {t5:TE} (h0:PE X e0 t0) (h1:PE X e1 t1) (h2:PE X e2 t2) (h3:PE X e3 t3) (h4:PE X e4 t4) (h5:PE X e5 t5) (s0:Jl3 e0=false:=by rfl) (s1:Jl3 e1=false:=by rfl) (s2:Jl3 e2=false:=by rfl) (s3:Jl3 e3=false:=by rfl) (s4:Jl3 e4=false:=by rfl) (s5:Jl3 e5=false:=by rfl):PA X [e0,e1,e2,e3,e4,e5] (Jll t0 (Jll t1 (Jll t2 (Jll t3 (Jll t4 (Jll t5 (Jxo))))))):=Jn9 h0 (Jn9 h1 (Jn9 h2 (Jn9 h3 (Jn9 h4 (Jn9 h5 (Jjr) s5) s4) s3) s2) s1) s0
theorem pa7 {X:Cx} {e0:Expr} {t0:TE} {e1:Expr} {t1:TE} {e2:Expr} {t2:TE} {e3:Expr} {t3:TE} {e4:Expr} {t4:TE} {e5:Expr} {t5:TE} {e6:Expr} {t6:TE} (h0:PE X e0 t0) (h1:PE X e1 t1) (h2:PE X e2 t2) (h3:PE X e3 t3) (h4:PE X e4 t4) (h5:PE X e5 t5) (h6:PE X e6 t6) (s0:Jl3 e0=false:=by rfl) (s1:Jl3 e1=false:=by rfl) (s2:Jl3 e2=false:=by rfl) (s3:Jl3 e3=false:=by rfl) (s4:Jl3 e4=false:=by rfl) (s5:Jl3 e5=false:=by rfl) (s6:Jl3 e6=false:=by rfl):PA X [e0,e1,e2,e3,e4,e5,e6] (Jll t0 (Jll t1 (Jll t2 (Jll t3 (Jll t4 (Jll t5 (Jll t6 (Jxo)))))))):=Jn9 h0 (Jn9 h1 (Jn9 h2 (Jn9 h3 (Jn9 h4 (Jn9 h5 (Jn9 h6 (Jjr) s6) s5) s4) s3) s2) s1) s0
end L2
namespace L2
open PySem PySem.Spec PyProof.Rows PySem.W
section
variable {X:Cx}
theorem Jn4 {K:PySem.W.Frag} (h:X.K=K):IxR X (rIxL K):=by subst h;exact Jki
theorem Js7 {K:PySem.W.Frag} (h:X.K=K):IxR X (rIxT K):=by subst h;exact Jku
theorem Jug {K:PySem.W.Frag} (h:X.K=K):Jlv X (.builtin "isinstance") (rIsA K):=by subst h;exact Jle
end
end L2
namespace L2
open PySem PySem.Spec PyProof.Rows PySem.W
section
variable {prog:Program} {w:World} {A:Around} {E:Value->Shared->Prop} {s:Shared}
end
section
variable {X:Cx} {pos:Pos}
end
end L2
namespace L2
open PySem PySem.Spec PyProof.Rows PySem.W
structure FnOkC (P:Program) (w:World) (K:PySem.W.Frag) (mg:Str->Option Value) (base:Heap) (k:Nat) (f:Addr) (fd:FuncData) (ps:List Str) (sp:Sp):Prop where
 len:∀vs H Q E,sp vs H Q E->vs.length=ps.length
 run:∀(e:Addr) (A:Around) (outer:List Env) (s:Shared) (H:Hp) (args:Args) (us:List Value) (vs:List V) (Q:VK) (E:XK),Room k A->Env0 P w K mg base A outer s H->BindsTo s fd args (ps.zip us)->Vals vs us->sp vs H Q E->
  codeAny (model P w) (A.mark (some (.ref e))) (.call (.ref f) args) (CR CX0 outer P w H s Q E) s
section
variable {P:Program} {w:World} {K:PySem.W.Frag} {mg:Str->Option Value} {base:Heap}
end
section
variable {X:Cx} {x:Str} {st:Stmt} {ps:List Str} {f:Addr} {fd:FuncData} {sp:Sp} {k j:Nat} {p pos:Pos} {e:Expr} {es:List Expr} {t:TA} {er:Addr}
end
end L2
namespace L2
open PySem PySem.Spec PyProof.Rows PySem.W
noncomputable def stU (acc:List Str) (z:Str):List Str:=if acc.contains z=true then acc else acc++ [z]
noncomputable def uq (zs:List Str):List Str:=zs.foldl stU []
noncomputable def inU (zs:List Str):Key->Bool
 | .inl _=>false
 | .inr z=>(uq zs).contains z
theorem Jzp (zs:List Str) (z:Str):uq (zs++ [z])=stU (uq zs) z:=by unfold uq;rw [List.foldl_append];rfl
theorem uq_len (zs:List Str):(uq zs).length<=zs.length:=by
 have h:∀(l acc:List Str),(l.foldl stU acc).length<=acc.length+l.length:=by
  intro l
  induction l with
  |nil=>intro acc;simp
  |cons z r ih=>
   intro acc;rw [List.foldl_cons];have h1:=ih (stU acc z);have h2:(stU acc z).length<=acc.length+1:=by unfold stU;split <;> simp
   rw [ybe];omega
 simpa [uq] using h zs []
theorem Jxu {zs:List Str} (h:zs.Nodup):uq zs=zs:=by
 have g:∀(l acc:List Str),(acc++l).Nodup->l.foldl stU acc=acc++l:=by
  intro l
  induction l with
  |nil=>intro acc _;simp
  |cons z r ih=>
   intro acc hn;rw [List.foldl_cons];have hz:acc.contains z=false:=by
    cases e:acc.contains z with
    |false=>rfl
    |true=>
     have hm:z∈acc:=ycn.mp e;exact absurd rfl ((List.nodup_append.mp hn).2.2 z hm z yal)
   have e:stU acc z=acc++ [z]:=by unfold stU;rw [hz];rfl
   rw [e,ih (acc++ [z]) (by simpa using hn)];simp
 simpa [uq] using g zs [] (by simpa using h)
theorem Yaz (zs:List Str) (z:Str) (k:Key):inU (zs++ [z]) k=(inU zs k||decide (k= .inr z)):=by
 cases k with
 |inl i=>simp [inU]
 |inr y=>
  show (uq (zs++ [z])).contains y=((uq zs).contains y||decide ((.inr y:Key)= .inr z));have e:decide ((.inr y:Key)= .inr z)=decide (y=z):=by
   by_cases h:y=z
   ·subst h;simp
   ·rw [decide_eq_false h,decide_eq_false (λq=>h (Sum.inr.inj q))]
  rw [Jzp,e];unfold stU;split
  ·rename_i hc
   by_cases h:y=z
   ·subst h;rw [hc];simp
   ·simp [h]
  ·rw [ybn];simp [ycn]
theorem Yeh (zs:List Str) (z:Str):(uq (zs++ [z])).length=if inU zs (.inr z)=true then (uq zs).length else (uq zs).length+1:=by
 rw [Jzp];show (stU (uq zs) z).length=if (uq zs).contains z=true then _ else _
 unfold stU;split <;> simp
section
variable {prog:Program} {w:World} {A:Around} {R:Result->Shared->Prop} {I:Addr} {fp wr:List Addr} {n:Nat} {P:Nat->Value->Prop} {St:Nat->Heap->Prop}
theorem Jqt {h h':Heap} {a:Addr} {S T:Key->Bool} {m m':Nat} (hS:h.SetOf (Jk6 prog w) a S m) (k:∀o,h.get? a=some o->h'.get? a=some o) (e:∀x,S x=T x) (en:m=m'):h'.SetOf (Jk6 prog w) a T m':=by
 obtain rfl:S=T:=funext e;subst en;obtain ⟨o,es,ep,t,ho,rest⟩:=hS;exact ⟨o,es,ep,t,k o ho,rest⟩
theorem Jyy (W:Walks prog w A.in1 I fp wr n P St) (S:Addr) (hSf:S∉fp) (zs:List Str) (hn:zs.length=n) (hP:∀i v,P i v->∃z t,zs[i]?=some z/\v= .str z t) (hb:n+1 < scanBound):
  ∀(k i:Nat) (s:Shared),n - i=k->i<=n->St i s.heap->s.heap.SetOf (Jk6 prog w) S (inU (zs.take i)) (uq (zs.take i)).length->
   (∀h' tk,(∀b o,b≠S->b∉wr->s.heap.get? b=some o->h'.get? b=some o)->h'.SetOf (Jk6 prog w) S (inU zs) (uq zs).length->R (.ok (.ret .none)) {s with heap:=h',toks:=tk})->
   codeAny (model prog w) A (.builtin "set.update.loop" ⟨[.ref S,.ref I],[]⟩) R s:=by
 have hSw:S∉wr:=λh=>hSf (W.sub _ h);intro k
 induction k with
 |zero=>
  intro i s hk hi hst hS hR;obtain rfl:i=n:=by omega
  refine codeAny_builtin PyProof.Rows.F.entry_set_update_loop ?_;rw [Around.under_plainId PyProof.Rows.F.plain_set_update_loop _];refine wpAny_bind (W.done s _ _ hst λh' tk km=>?_);refine wpAny_pure (hR h' tk (λb o _ nb e=>km b o nb e) (Jqt hS (λo e=>km S o hSw e) (λx=>?_) ?_))
  ·rw [yak (by omega)]
  ·rw [yak (by omega)]
 |succ k ih=>
  intro i s hk hi hst hS hR;have hlt:i < n:=by omega
  refine codeAny_builtin PyProof.Rows.F.entry_set_update_loop ?_;rw [Around.under_plainId PyProof.Rows.F.plain_set_update_loop _];refine wpAny_bind (W.item i s _ _ hlt hst λv h1 tk hv hst1 km=>?_);obtain ⟨z,t,hz,rfl⟩:=hP i v hv;have et:zs.take (i+1)=zs.take i++ [z]:=by rw [yao,hz];rfl
  have hS1:h1.SetOf (Jk6 prog w) S (inU (zs.take i)) (uq (zs.take i)).length:=Jqt hS (λo e=>km S o hSw e) (λ_=>rfl) rfl;have room:(uq (zs.take i)).length+1 < scanBound:=by
   have h1:=uq_len (zs.take i);rw [yaj] at h1;omega
  refine wpAny_bind (wpAny_holding ?_);unfold setAdd;refine wpAny_holding (wpAny_bind ((Jk6 prog w).pyHash (k:=.inr z) (Jof _ _ _ _) ?_));refine wpAny_setAddHashed_of (knd:=Jk6 prog w) (k:=.inr z) (Jof _ _ _ _) rfl hS1 room λh2 sb hS2=>?_;refine wpAny_pure ⟨plainId_quiet PyProof.Rows.F.plain_set_update_loop _,ih (i+1) _ (by omega) hlt (W.frame _ _ _ hst1 λb hbf o e=>?_) (Jqt hS2 (λo e=>e) (λx=>?_) ?_) λh3 tk3 k3 hS3=>?_⟩
  ·show h2.get? b=some o;rw [sb.2 b (λq=>hSf (by rw [<-q];exact hbf))];exact e
  ·rw [et,Yaz]
  ·rw [et,Yeh]
  ·exact hR h3 tk3 (λb o nS nw e=>k3 b o nS nw (by show h2.get? b=some o;rw [sb.2 b nS];exact km b o nw e)) hS3
end
section
variable {prog:Program} {w:World} {A:Around} {E:Value->Shared->Prop} {s:Shared}
set_option maxRecDepth 100000 in
set_option maxHeartbeats 3200000 in
theorem Yw {l:Addr} {items:Array Value} {zs:List Str} {Q:Value->Shared->Prop} (hh:A.handled=none) (hl:s.heap.IsList l items) (hz:zs.length=items.size) (hi:∀(i:Nat) (v:Value),items[i]?=some v->∃z t,zs[i]?=some z/\v= .str z t) (hb:items.size+1 < scanBound)
  (h:∀(h':Heap) (tk:Nat),h'.SetOf (Jk6 prog w) s.heap.objs.size (inU zs) (uq zs).length->(∀b o,s.heap.get? b=some o->h'.get? b=some o)->Q (.ref s.heap.objs.size) {s with heap:=h',toks:=tk}):wpAny (model prog w) A (call (.type "set") [.ref l]) Q E s:=by
 obtain ⟨cc,tl,hmro⟩:=F.called_set.mro;have hmade:=F.called_set.made;have hsub:=F.called_set.sub;refine wpAny_call (codeAny_of_tree ?_);show wpAny _ _ (callAny (.type "set") _) _ _ _;refine wpAny_pure ⟨Code.quiet_builtin _ (by decide +kernel),codeAny_builtin F.entry_type_call ?_⟩;rw [Around.under_plain (weight_type_call_type "set" [.ref l] []) rfl];have g1:=F.called_set.notType;have g2:=F.called_set.canCreate;have g3:=F.typeCall_set_1 (.ref l)
 repeat (any_goals (first|assumption|wp_step))
 refine codeAny_mono (code_set_new_1 (.ref l) (E:=E) (Q₁:=λobj s1=>∃led:Bool,obj= .ref s.heap.objs.size/\s1={s with heap:=s.heap.push {cls:=.type "set",dict:=none,data:=.set #[] 0 (.fresh 0 0 led)}}) λled=>⟨led,rfl,rfl⟩) λr s1 hr=>?_;cases r with
 |error e=>exact hr
 |ok fl=>
  cases fl with
  |ret obj=>
   obtain ⟨led,rfl,rfl⟩:=hr;have hS:(s.heap.push {cls:=.type "set",dict:=none,data:=.set #[] 0 (.fresh 0 0 led)}).get? s.heap.objs.size=some {cls:=.type "set",dict:=none,data:=.set #[] 0 (.fresh 0 0 led)}:=yp _ rfl;have hT:Shared.TypeIs {s with heap:=s.heap.push {cls:=.type "set",dict:=none,data:=.set #[] 0 (.fresh 0 0 led)}} (.ref s.heap.objs.size) "set" :=⟨_,hS,rfl⟩;have g4:=F.called_set.init.lookup;have g5:=F.called_set.init.bind (.ref s.heap.objs.size)
   repeat (any_goals (first|assumption|wp_step))
   refine codeAny_mono (codeAny_call_builtin (R:=wants (λr s2=>r= .none/\∃h' tk,s2={s with heap:=h',toks:=tk}/\h'.SetOf (Jk6 prog w) s.heap.objs.size (inU zs) (uq zs).length/\(∀b o,s.heap.get? b=some o->h'.get? b=some o)) E) F.called_set.init.plain F.entry_set_init (check_set_init_1 hT ?_)) λr2 s2 hr2=>?_
   ·obtain ⟨⟨oc,od,oda,osl⟩,hol,hcl,nl,hdl⟩:=hl;simp only at hcl hdl;subst hcl hdl;have hol':(s.heap.push {cls:=.type "set",dict:=none,data:=.set #[] 0 (.fresh 0 0 led)}).get? l=some {cls:=.type "list",dict:=od,data:=.seq items nl,slots:=osl}:=yj _ hol;have g6:=F.sub_list_set;have g7:=F.sub_list_frozenset;have g8:(Value.type "list" ==Value.type "dict")=false:=by decide
    have hl1:(s.heap.push {cls:=.type "set",dict:=none,data:=.set #[] 0 (.fresh 0 0 led)}).IsList l items:=⟨_,hol',rfl,nl,rfl⟩;unfold Builtin.«set.__init__» noKeywords Builtin.Frozenset.updateFrom;generalize hPI:pyIter=PI
    wp_walk
    subst hPI;refine wpAny_pyIter_list hl1 (wpAny_bind (wpAny_runValue ?_));have lS:l < s.heap.objs.size:=yg hol;have h3:A.in1.in1.in1.handled=none:=by simp [hh]
    have nI:l≠(s.heap.push {cls:=.type "set",dict:=none,data:=.set #[] 0 (.fresh 0 0 led)}).objs.size:=by rw [yad];exact yr (ybk lS)
    have nS:s.heap.objs.size∉ [(s.heap.push {cls:=.type "set",dict:=none,data:=.set #[] 0 (.fresh 0 0 led)}).objs.size,l]:=by
     rw [yad];simp only [yo,yv,or_false,not_or];exact ⟨yr (ybh _),yaw lS⟩
    refine Jyy (Walks.list h3 _ l nI items) s.heap.objs.size nS zs hz hi hb (items.size - 0) 0 _ (by omega) (yan _) ⟨⟨_,yp _ rfl,rfl,rfl⟩,hl1.push _⟩ ?S0 ?R0
    case S0=>
     have q:((s.heap.push {cls:=.type "set",dict:=none,data:=.set #[] 0 (.fresh 0 0 led)}).push {cls:=.type "list_iterator",data:=.fields #[.ref l,.int 0 0]}).get? s.heap.objs.size=some {cls:=.type "set",dict:=none,data:=.set #[] 0 (.fresh 0 0 led)}:=yj _ hS;refine ⟨_,#[],0,_,q,⟨rfl,rfl,rfl⟩,rfl,λe he=>by simp at he,λx=>?_,by decide,by rfl,rfl⟩;cases x <;> simp [inU,uq]
    case R0=>
     intro h' tk km hS';show wpAny _ _ _ _ _ _;refine wpAny_pure ?_;show wpAny _ _ (ret Value.none) _ _ _;refine wpAny_pure ⟨rfl,h',tk,rfl,hS',λb o e=>?_⟩;have lb:b < s.heap.objs.size:=yg e;refine km b o (yr lb) ?_ (yj _ (yj _ e));rw [yad];simp only [yo,yv,or_false];exact yr (ybk lb)
   ·cases r2 with
    |error e=>exact hr2
    |ok fl2=>
     cases fl2 with
     |ret r=>
      obtain ⟨rfl,h',tk,rfl,hS',hk'⟩:=hr2
      repeat (any_goals (first|assumption|wp_step))
      exact h _ _ hS' hk'
     |_=>exact hr2.elim
  |_=>exact hr.elim
end
noncomputable def TxS (P:Program) (w:World) (a:Addr) (zs:List Str):HO:=.ext λh=>h.SetOf (Jk6 P w) a (inU zs) (uq zs).length
theorem txs_ok {P:Program} {w:World} {H:Hp} {h:Heap} {a:Addr} {zs:List Str} (hS:h.SetOf (Jk6 P w) a (inU zs) (uq zs).length):ObjOk P w H h a (TxS P w a zs):=
 ⟨hS,(let ⟨o,_,_,_,ho,_⟩:=hS;⟨o,ho⟩),λ_ _ p k=>Jqt p k (λ_=>rfl) rfl⟩
section
variable {X:Cx}
theorem Jsg (hc:X.calm=true):Jlv X (.type "set") (λxs H Q=>∃(l:Addr) (zs:List Str),xs= [.ref l]/\SqL X.K H l (zs.map V.str)/\zs.length<=2000/\∀a,H a=none->Q (.ref a) (upd H a (TxS X.prog X.w a zs))):=by
 intro pins s σ H xs us Q I r h;obtain ⟨l,zs,rfl,hq,hz,q⟩:=h;obtain ⟨u,rfl,ru⟩:=Jms r;obtain rfl:u=Value.ref l:=ru;obtain ⟨its,rv,pl,_⟩:=I.list hq;have hlen:=rv.length;rw [yf] at hlen;refine Yw (zs:=zs) (I.ok.hd hc) pl.isList (by simpa using hlen) (λi v hv=>?_) (by simp only [yu];unfold scanBound;omega) λh' tk hS kk=>⟨.ref s.heap.objs.size,_,I.laid (a:=s.heap.objs.size) (o:=TxS X.prog X.w s.heap.objs.size zs) (t':=tk) kk (yi _) (txs_ok hS),rfl,q _ (I.hok.fresh (yi _))⟩
 ·have hv':its[i]?=some v:=by simpa using hv
  have hlt:i < zs.length:=by have:=(yq.mp hv').1;omega
  obtain ⟨u,hu,ru⟩:=rv.get (i:=i) (x:=V.str zs[i]) (by rw [ym,yn hlt];rfl);rw [hv'] at hu;cases hu;obtain ⟨t,rfl⟩:=ru;exact ⟨zs[i],t,yn hlt,rfl⟩
theorem Jsf:Jlv X (.builtin "len") (λxs H Q=>∃(a:Addr) (zs:List Str),xs= [.ref a]/\H a=some (TxS X.prog X.w a zs)/\Q (.int (uq zs).length) H):=by
 intro pins s σ H xs us Q I r h;obtain ⟨a,zs,rfl,ha,q⟩:=h;obtain ⟨u,rfl,ru⟩:=Jms r;obtain rfl:u=Value.ref a:=ru;obtain ⟨o,es,ep,t,ho,hex,hd,_,_,hb,hf,hn⟩:=(I.hok a _ ha).1;refine call_len_set ho hex hd hf (by unfold scanBound at hb;omega) ?_;rw [hn];exact ⟨.int _,H,I.tok _,⟨_,rfl⟩,q⟩
end
end L2
namespace L2
open PySem PySem.Spec PyProof.Rows PySem.W
theorem Jpu:bootBuiltins "sum" =some (.builtin "sum"):=by decide +kernel
theorem Yag:bootBuiltins "set" =some (.type "set"):=by decide +kernel
theorem Jqk:bootBuiltins "enumerate" =some (.type "enumerate"):=by decide +kernel
noncomputable def Sml (ns:List Int):Prop:=ns.length<=2000/\∀n∈ns,-1000000<=n/\n<=1000000
theorem Jsa (ns:List Int):∀i,i<=ns.length->preSum (λj=>ns.getD j 0) i=(ns.take i).sum
 |0,_=>by simp [preSum]
 |i+1,h=>by
  have ih:=Jsa ns i (by omega);have hlt:i < ns.length:=by omega
  have e:ns.take (i+1)=ns.take i++ [ns[i]]:=by rw [yao,yn hlt];rfl
  have e2:ns.getD i 0=ns[i]:=by simp [List.getD,yn hlt]
  rw [e,List.sum_append];simp only [List.sum_cons,List.sum_nil];show preSum (λj=>ns.getD j 0) i+ns.getD i 0=_;rw [ih,e2];omega
theorem Ycc:∀(l:List Int),(∀n∈l,-1000000<=n/\n<=1000000)-> -1000000*(l.length:Int)<=l.sum/\l.sum<=1000000*(l.length:Int)
 | [],_=>by simp
 |n::r,h=>by
  have h1:=h n yal;have h2:=Ycc r λm hm=>h m (yaf _ hm);rw [List.sum_cons,ybe];constructor <;> omega
section
variable {X:Cx}
noncomputable def rSum (K:PySem.W.Frag):List V->Hp->VK->Prop:=λxs H Q=>∃(a:Addr) (ns:List Int),xs= [.ref a]/\(SqL K H a (ns.map V.int)\/SqT K H a (ns.map V.int))/\Sml ns/\Q (.int ns.sum) H
theorem Jn0 (hc:X.calm=true):Jlv X (.builtin "sum") (rSum X.K):=by
 intro pins s σ H xs us Q I r h;obtain ⟨a,ns,rfl,hq,hs,q⟩:=h;obtain ⟨u,rfl,ru⟩:=Jms r;obtain rfl:u=Value.ref a:=ru;have fit:∀j,j < ns.length->InLong ((λj=>ns.getD j 0) j)/\InLong (preSum (λj=>ns.getD j 0) (j+1)):=λj hj=>by
  have e2:ns.getD j 0=ns[j]:=by simp [List.getD,yn hj]
  have b1:=hs.2 _ (ybu hj);have b2:=Ycc (ns.take (j+1)) λm hm=>hs.2 m (List.mem_of_mem_take hm);have b3:((ns.take (j+1)).length:Int)<=2000:=by have:=hs.1;rw [yaj];omega
  rw [Jsa ns (j+1) (by omega)];refine ⟨?_,?_⟩
  ·show InLong (ns.getD j 0);rw [e2];unfold InLong;constructor <;> omega
  ·unfold InLong;constructor <;> omega
 have fin:∀{its:List Value} (rv:Vals (ns.map V.int) its) (i:Nat) (v:Value),its.toArray[i]?=some v->∃t,v= .int ((λj=>ns.getD j 0) i) t:=λ{its} rv i v hv=>by
  have hv':its[i]?=some v:=by simpa using hv
  have hl:=rv.length;rw [yf] at hl;have hi:i < ns.length:=by have:=(yq.mp hv').1;omega
  obtain ⟨u',hu',ru'⟩:=rv.get (i:=i) (x:=V.int ns[i]) (by rw [ym,yn hi];rfl);rw [hv'] at hu';cases hu';obtain ⟨t,rfl⟩:=ru';exact ⟨t,by simp [List.getD,yn hi]⟩
 rcases hq with hq|hq
 ·obtain ⟨its,rv,pl,_⟩:=I.list hq;have hl:=rv.length;rw [yf] at hl;have ne:a≠s.heap.objs.size:=by obtain ⟨o,_,e,_⟩:=pl;exact yr (yg e)
  refine call_sum_walk (wpAny_pyIter_list pl.isList ⟨s.heap.objs.size,_,_,its.toArray.size,_,_,λj=>ns.getD j 0,rfl,Walks.list (prog:=X.prog) (w:=X.w) (A:=X.A.in1) (show X.A.in1.handled=none from I.ok.hd hc) s.heap.objs.size a ne its.toArray,⟨⟨_,yp _ rfl,rfl,rfl⟩,pl.isList.push _⟩,λb hb=>?_,fin rv,λj hj=>fit j (by simp only [yu] at hj;omega),λh' tk t' k=>?_⟩)
  ·rw [yad];simp only [yo,yv,or_false] at hb;rcases hb with rfl|rfl
   ·exact ybh _
   ·obtain ⟨o,_,e,_⟩:=pl;exact ybk (yg e)
  ·have e:preSum (λj=>ns.getD j 0) its.toArray.size=ns.sum:=by
    rw [Jsa ns _ (by simp only [yu];omega),yak (by simp only [yu];omega)]
   rw [e];exact ⟨.int _,H,I.kept λb o e=>k b o (λz=>by
    have z':b=s.heap.objs.size:=by simpa using z
    exact absurd (yg e) (by rw [z'];exact yay _)) (yj _ e),⟨_,rfl⟩,q⟩
 ·obtain ⟨its,rv,pt,_⟩:=I.tuple hq;have hl:=rv.length;rw [yf] at hl;have ne:a≠s.heap.objs.size:=by obtain ⟨o,e,_⟩:=pt;exact yr (yg e)
  refine call_sum_walk (wpAny_pyIter_tuple (show s.heap.IsTuple a its.toArray from pt) ⟨s.heap.objs.size,_,_,its.toArray.size,_,_,λj=>ns.getD j 0,rfl,Walks.tuple (prog:=X.prog) (w:=X.w) (A:=X.A.in1) (show X.A.in1.handled=none from I.ok.hd hc) s.heap.objs.size a ne its.toArray,⟨⟨_,yp _ rfl,rfl,rfl⟩,Heap.IsTuple.push pt _⟩,λb hb=>?_,fin rv,λj hj=>fit j (by simp only [yu] at hj;omega),λh' tk t' k=>?_⟩)
  ·rw [yad];simp only [yo,yv,or_false] at hb;rcases hb with rfl|rfl
   ·exact ybh _
   ·obtain ⟨o,e,_⟩:=pt;exact ybk (yg e)
  ·have e:preSum (λj=>ns.getD j 0) its.toArray.size=ns.sum:=by
    rw [Jsa ns _ (by simp only [yu];omega),yak (by simp only [yu];omega)]
   rw [e];exact ⟨.int _,H,I.kept λb o e=>k b o (λz=>by
    have z':b=s.heap.objs.size:=by simpa using z
    exact absurd (yg e) (by rw [z'];exact yay _)) (yj _ e),⟨_,rfl⟩,q⟩
end
end L2
namespace L2
open PySem PySem.Spec PyProof.Rows PySem.W
noncomputable def ItE (K:PySem.W.Frag) (a:Addr):It:=⟨λi H=>∃xs x,SqL K H a xs/\xs[i]?=some x,
 λi H x H'=>∃T u,H T=none/\x= .ref T/\(∀xs,SqL K H a xs->xs[i]?=some u)/\H'=upd H T (.tup [.int i,u]),
 λi H=>∃xs,SqL K H a xs/\i=xs.length⟩
noncomputable def EnuSt (e it l:Addr) (i:Nat) (h:Heap):Prop:=(∃old,IsEnum h e it i old)/\h.IsListIter it l i
theorem EnuSt.obj {e it l:Addr} {i:Nat} {h:Heap} (st:EnuSt e it l i h):∀b∈ [e,it],∃o,h.get? b=some o/\∀v,o.data≠ .cell v:=λb hb=>by
 obtain ⟨⟨old,h1⟩,⟨o4,h4,_,d4⟩⟩:=st;simp only [yo,yv,or_false] at hb;rcases hb with rfl|rfl
 ·exact ⟨_,h1,λv z=>by cases z⟩
 ·exact ⟨o4,h4,λv z=>by rw [d4] at z;cases z⟩
theorem Ycj {P:Program} {w:World} {K:PySem.W.Frag} {elts:List Expr} {kt:Nat} {pt:Pos} (e it l:Addr) (n1:e≠it) (n2:l≠e) (n3:l≠it):
  Jqz P w K (.Tuple elts kt pt) (ItE K l) [e,it] e (EnuSt e it l) where
 mem:=by simp
 obj:=λi h st=>st.obj
 keep:=λi h h' st k=>by
  obtain ⟨⟨old,h1⟩,h2⟩:=st;exact ⟨⟨old,k e (by simp) _ h1⟩,h2.at λo q=>k it (by simp) o q⟩
 item:=by
  intro X hP hw hK hc i pins s σ H E I hf st hg;subst hP hw hK;obtain ⟨xs,x,q1,hx⟩:=hg;obtain ⟨its,rv,p1,_⟩:=I.list q1;obtain ⟨u,hu,ru⟩:=rv.get hx;have W:=WalksT.enumerate (prog:=X.prog) (w:=X.w) (I.ok.hd hc) e it l n1 n2 n3 its.toArray;obtain ⟨s1,s2⟩:=st;have li:i < its.length:=(yq.mp hu).1;refine W.item i s _ _ (by simp only [yu];omega) ⟨s1,s2,p1.isList⟩ λT vals h' tk hP fT tT mid kk=>?_;refine ⟨_,rfl,W.go elts kt pt i T _ _ _ mid λh'' st'' kk2=>?_⟩;obtain ⟨t,a,ha,rfl⟩:=hP;have ea:a=u:=by simpa [hu] using ha.symm
  subst ea;obtain ⟨t1,t2,_⟩:=st'';have kT:h''.IsTuple T #[.int i t,a]:=by
   obtain ⟨o,q,r⟩:=tT;exact ⟨o,kk2 T o (W.apart i T h' mid) q,r⟩
  refine ⟨.ref T,upd H T (.tup [.int i,x]),I.turnTup (ch:=[e,it]) (t':=tk) hf (λc o hc q=>kk2 c o hc (kk c o hc q)) fT ⟨(show 2<=sizeLine by decide),[.int i t,a],.cons ⟨t,rfl⟩ (.cons ru .nil),kT⟩,rfl,⟨T,x,I.hok.fresh fT,rfl,λxs' hq=>by rw [I.list_inj hq q1];exact hx,rfl⟩,⟨t1,t2⟩,λc hc=>?_⟩;have hcn:=(hf c hc).1;rw [Jjx (λw'=>?_)]
  ·exact hcn
  ·subst w';obtain ⟨o,q,_⟩:=EnuSt.obj (show EnuSt e it l i s.heap from ⟨s1,s2⟩) c hc;exact absurd (yg q) (yat.mpr fT)
 done:=by
  intro X hP hw hK hc i pins s σ H E I hf st hg;subst hP hw hK;obtain ⟨xs,q1,hi⟩:=hg;obtain ⟨its,rv,p1,_⟩:=I.list q1;have W:=WalksT.enumerate (prog:=X.prog) (w:=X.w) (I.ok.hd hc) e it l n1 n2 n3 its.toArray;obtain ⟨s1,s2⟩:=st;have e1:=rv.length;have ei:i=its.toArray.size:=by simp only [yu];omega
  subst ei;refine W.done s _ _ ⟨s1,s2,p1.isList⟩ λh' tk kk=>⟨rfl,?_⟩;exact I.turnMany (ch:=[e,it]) hf λc o hc q=>kk c o hc q
 self:=λ_ _ _ _ _ st h=>let ⟨_,q⟩:=st.1;wpAny_pyIter_enum q h
noncomputable def iEnu (K:PySem.W.Frag) (ta:TA):TI:=λσ H R=>ta σ H λvs H1=>∃a,vs= [.ref a]/\(∃xs,SqL K H1 a xs)/\R (ItE K a) H1
theorem Jw0 {X:Cx} {elts:List Expr} {kt:Nat} {pt:Pos} {a:Expr} {ta:TA} {p pos:Pos} (hg:Gl X "enumerate") (hm:X.mg "enumerate" =none) (ha:PA X [a] ta) (hs:starEach [a] X.env= [(false,eval a X.env)]:=by rfl):
  PI X (.Tuple elts kt pt) (.Call (.Name "enumerate" p) [a] [] pos) (iEnu X.K ta):=by
 intro pins s σ H R I h;refine Call_ (Joa I hg hm Jqk (PyProof.Rows.callWith_type1 (thn (ha pos pins s σ H _ I h) λus s1 zq=>?_) (by rw [hs];rfl) rfl));obtain ⟨vs,H1,I1,r1,q1⟩:=zq;obtain ⟨l,rfl,⟨xs,q1⟩,q⟩:=q1;obtain ⟨u,rfl,r2⟩:=Jms r1;obtain rfl:u=Value.ref l:=r2;obtain ⟨its,rv,p1,_⟩:=I1.list q1;have a1:l < s1.heap.objs.size:=by obtain ⟨o,n,e,_⟩:=p1;exact yg e
 refine call_enumerate_list p1.isList λh' z1 z2 z3 kk=>?_;have I2:Inv X pins σ H1 {s1 with heap:=h'}:=I1.kept (t':=s1.toks) kk;refine wpAny_pyIter_enum z1 ⟨_,_,_,_,H1,rfl,I2,Ycj (s1.heap.objs.size+1) s1.heap.objs.size l (Nat.succ_ne_self _) (yr (ybk a1)) (yr a1),⟨⟨_,z1⟩,z2⟩,λc hc=>?_,q⟩;have hc':s1.heap.objs.size<=c:=by
  simp only [yo,yv,or_false] at hc;rcases hc with rfl|rfl
  ·exact Nat.le_succ _
  ·exact yi _
 exact I1.fpOk hc' (I1.hok.fresh hc')
end L2
namespace L2
open PySem PySem.Spec PyProof.Rows PySem.W
section
variable {prog:Program} {w:World} {A:Around} {E:Value->Shared->Prop} {s:Shared}
theorem Jwa {it t:Addr} {i:Nat} {items:Array Value} {x:Value} {Q:Value->Shared->Prop} (hit:s.heap.IsTupleIter it t i) (ht:s.heap.IsTuple t items) (hx:items[i]?=some x)
  (hQ:∀h',h'.IsTupleIter it t (i+1)->yam it s.heap h'->Q x {s with heap:=h'}):wpAny (model prog w) A (Builtin.SmallTypes.nextOf (.ref it)) Q E s:=by
 obtain ⟨o,ho,hc,hd⟩:=id hit;obtain ⟨ol,hol,_,nl,hdl⟩:=ht;have hT:s.TypeIs (.ref it) "tuple_iterator" :=⟨o,ho,hc⟩;unfold Builtin.SmallTypes.nextOf;refine wpAny_bind (wpAny_callSpecial?_slot (name:=Str.ofString "__next__") hT slot_tupleiter_next (wpAny_call_entry slot_tupleiter_next hT entry_tupleiter_next ?_ (args_tupleiter_next _)));refine wpAny_bind (m:=field (.ref it) 0) (wpAny_field ho hd (x:=.ref t) rfl ?_);show wpAny _ _ (if (Value.ref t==Value.none)=true then _ else _) _ _ s;rw [if_neg (show ¬((Value.ref t==Value.none)=true) from yab)];refine wpAny_bind (m:=field (.ref it) 1) (wpAny_field ho hd (x:=.int i 0) rfl ?_);refine wpAny_bind (m:=seqItems? (.ref t)) (wpAny_seqItems hol hdl ?_);simp only [ybf,hx];refine wpAny_bind (wpAny_setField ho hd (by simp) (wpAny_pure ⟨x,rfl,wpAny_pure (hQ _ ⟨_,ybj _ ho (Obj.isFreed_of_fields (Obj.data_mapFields hd _)),(Obj.cls_mapFields ..).trans hc,?_⟩ (yam.update ..))⟩));rw [Obj.data_mapFields hd];simp [rawInt]
theorem Jxp {it t:Addr} {i:Nat} {items:Array Value} {Q:Value->Shared->Prop} (hh:A.handled=none) (hit:s.heap.IsTupleIter it t i) (ht:s.heap.IsTuple t items) (hx:items[i]?=none)
  (hE:∀h' e,Heap.ExtBut it s.heap h'->(∃o,h'.get? e=some o/\o.cls= .type "StopIteration")->E (.ref e) {s with heap:=h'}):wpAny (model prog w) A (Builtin.SmallTypes.nextOf (.ref it)) Q E s:=by
 obtain ⟨o,ho,hc,hd⟩:=id hit;obtain ⟨ol,hol,_,nl,hdl⟩:=ht;have hT:s.TypeIs (.ref it) "tuple_iterator" :=⟨o,ho,hc⟩;unfold Builtin.SmallTypes.nextOf;refine wpAny_bind (wpAny_callSpecial?_slot (name:=Str.ofString "__next__") hT slot_tupleiter_next (wpAny_call_entry slot_tupleiter_next hT entry_tupleiter_next ?_ (args_tupleiter_next _)));refine wpAny_bind (m:=field (.ref it) 0) (wpAny_field ho hd (x:=.ref t) rfl ?_);show wpAny _ _ (if (Value.ref t==Value.none)=true then _ else _) _ _ s;rw [if_neg (show ¬((Value.ref t==Value.none)=true) from yab)];refine wpAny_bind (m:=field (.ref it) 1) (wpAny_field ho hd (x:=.int i 0) rfl ?_);refine wpAny_bind (m:=seqItems? (.ref t)) (wpAny_seqItems hol hdl ?_);simp only [ybf,hx];refine wpAny_bind (wpAny_rule (wpAny_bind (wpAny_setField ho hd (by simp) ?_)));refine wpAny_bind (m:=newExc (.type "StopIteration") []) ?_;simp only [newExc,newTuple];refine wpAny_bind (wpAny_newObj_type (wpAny_bind (m:=firstArgMember _ _) (wpAny_of_eq (a:=Value.none) (by first|rfl|(simp only [firstArgMember];rfl)) (wpAny_newObj_type ?_ (by size_fits)))) (by size_fits));simp only [raiseNew];refine wpAny_bind (wpAny_handled ?_)
 first|rw [show A.in1.handled=none from hh]|rw [hh]
 exact wpAny_bind (wpAny_pure (wpAny_throw (hE _ _ (((yam.update ..).extBut.push _).push _) ⟨_,yp _ rfl,rfl⟩)))
end
theorem Jr6 {prog:Program} {w:World} {A:Around} (hh:A.handled=none) (it l:Addr) (hne:l≠it) (items:Array Value):
  Draws prog w A it [it,l] items.size (λi v=>items[i]?=some v) (λi h=>h.IsTupleIter it l i/\h.IsTuple l items) where
 live:=λ_ _ st=>let ⟨o,ho,_⟩:=st.1;⟨o,ho⟩
 frame:=λ_ _ _ st hk=>⟨st.1.at λo e=>hk it (by simp) o e,st.2.at λo e=>hk l (by simp) o e⟩
 item:=λi s Q E hi st hQ=>Jwa st.1 st.2 (x:=items[i]) (by simp [hi]) λh' hit' hs'=>hQ _ h' s.toks (by simp [hi]) ⟨hit',st.2.extBut hs'.extBut hne⟩ hs'
 done:=λs Q E st hE=>Jxp hh st.1 st.2 (by simp) hE
end L2
namespace L2
open PySem PySem.Spec PyProof.Rows PySem.W
set_option maxRecDepth 100000 in
set_option maxHeartbeats 2000000 in
theorem Yas (l:Addr) (items:Array Value) (n:Nat) (dct:Option Addr) (sl:Array (Option Value)):
  Meets (Builtin.«enumerate.__new__» ⟨[.type "enumerate",.ref l],[]⟩) (λ_ R s=>s.heap.get? l=some {cls:=.type "tuple",dict:=dct,data:=.seq items n,slots:=sl}/\
   R (.ok (.ret (.ref (s.heap.push {cls:=.type "tuple_iterator",data:=.fields #[.ref l,.int 0 0]}).objs.size)))
    {s with heap:=(s.heap.push {cls:=.type "tuple_iterator",data:=.fields #[.ref l,.int 0 0]}).push {cls:=.type "enumerate",data:=.fields #[.none,.bool false,.ref s.heap.objs.size,rawInt 0,.none,.none]}}):=
 .of_wp λprog w A R s h=>by
  obtain ⟨hp,g,d,tk,os⟩:=s;obtain ⟨hl,h⟩:=h;have e1:=sub_enumerate;have e2:Heap.IsTuple (Shared.heap ⟨hp,g,d,tk,os⟩) l items:=⟨_,hl,rfl,n,rfl⟩
  wp_walk using AutoSeq1.wpAny_loadPart' hl
  refine wpAny_stack_any λst=>wpAny_pure ?_;split
  ·rename_i c _ _ _ _ _
   cases (c==Value.type "enumerate")
   ·wp_walk using AutoSeq1.wpAny_loadPart' hl,wpAny_pyIter_tuple e2
    exact ⟨_,rfl,h⟩
   ·wp_walk using AutoSeq1.wpAny_loadPart' hl,wpAny_pyIter_tuple e2
    exact ⟨_,rfl,h⟩
  ·wp_walk using AutoSeq1.wpAny_loadPart' hl,wpAny_pyIter_tuple e2
   exact ⟨_,rfl,h⟩
section
variable {prog:Program} {w:World} {A:Around} {E:Value->Shared->Prop} {s:Shared}
theorem Jzv {l:Addr} {items:Array Value} {Q:Value->Shared->Prop} (hL:s.heap.IsTuple l items)
  (h:∀h',IsEnum h' (s.heap.objs.size+1) s.heap.objs.size 0 .none->h'.IsTupleIter s.heap.objs.size l 0->(∀b o,s.heap.get? b=some o->h'.get? b=some o)->Q (.ref (s.heap.objs.size+1)) {s with heap:=h'}):
  wpAny (model prog w) A (call (.type "enumerate") [.ref l]) Q E s:=by
 obtain ⟨⟨c,dct,dt,sl⟩,hl,hc,n,hd⟩:=hL;replace hc:c= .type "tuple" :=hc;replace hd:dt= .seq items n:=hd;subst hc hd;refine callType_new F.called_enumerate (by decide) (F.typeCall_enumerate_1 _) (F.newCall_enumerate_1 _) (λobj=>F.args_object_init_2 obj _) F.entry_enumerate_new (Yas l items n dct sl) ⟨hl,?_⟩;have hz:(s.heap.push {cls:=.type "tuple_iterator",data:=.fields #[.ref l,.int 0 0]}).objs.size=s.heap.objs.size+1:=yad ..;show _/\_;rw [hz];have he:IsEnum ((s.heap.push {cls:=.type "tuple_iterator",data:=.fields #[.ref l,.int 0 0]}).push {cls:=.type "enumerate",data:=.fields #[.none,.bool false,.ref s.heap.objs.size,rawInt 0,.none,.none]}) (s.heap.objs.size+1) s.heap.objs.size 0 .none:=by
  have q:=yp (s.heap.push {cls:=.type "tuple_iterator",data:=.fields #[.ref l,.int 0 0]}) (o:={cls:=.type "enumerate",data:=.fields #[.none,.bool false,.ref s.heap.objs.size,rawInt 0,.none,.none]}) rfl;rw [hz] at q;exact q
 exact ⟨⟨_,he,rfl⟩,h _ he ⟨_,yj _ (yp _ rfl),rfl,rfl⟩ λb o x=>yj _ (yj _ x)⟩
end
noncomputable def ItU (K:PySem.W.Frag) (a:Addr):It:=⟨λi H=>∃xs x,SqT K H a xs/\xs[i]?=some x,
 λi H x H'=>∃T u,H T=none/\x= .ref T/\(∀xs,SqT K H a xs->xs[i]?=some u)/\H'=upd H T (.tup [.int i,u]),
 λi H=>∃xs,SqT K H a xs/\i=xs.length⟩
noncomputable def EnuTt (e it l:Addr) (i:Nat) (h:Heap):Prop:=(∃old,IsEnum h e it i old)/\h.IsTupleIter it l i
theorem EnuTt.obj {e it l:Addr} {i:Nat} {h:Heap} (st:EnuTt e it l i h):∀b∈ [e,it],∃o,h.get? b=some o/\∀v,o.data≠ .cell v:=λb hb=>by
 obtain ⟨⟨old,h1⟩,⟨o4,h4,_,d4⟩⟩:=st;simp only [yo,yv,or_false] at hb;rcases hb with rfl|rfl
 ·exact ⟨_,h1,λv z=>by cases z⟩
 ·exact ⟨o4,h4,λv z=>by rw [d4] at z;cases z⟩
theorem Ya5 {P:Program} {w:World} {K:PySem.W.Frag} {elts:List Expr} {kt:Nat} {pt:Pos} (e it l:Addr) (n1:e≠it) (n2:l≠e) (n3:l≠it):
  Jqz P w K (.Tuple elts kt pt) (ItU K l) [e,it] e (EnuTt e it l) where
 mem:=by simp
 obj:=λi h st=>st.obj
 keep:=λi h h' st k=>by
  obtain ⟨⟨old,h1⟩,h2⟩:=st;exact ⟨⟨old,k e (by simp) _ h1⟩,h2.at λo q=>k it (by simp) o q⟩
 item:=by
  intro X hP hw hK hc i pins s σ H E I hf st hg;subst hP hw hK;obtain ⟨xs,x,q1,hx⟩:=hg;obtain ⟨its,rv,p1,_⟩:=I.tuple q1;obtain ⟨u,hu,ru⟩:=rv.get hx;have hh:X.A.in1.handled=none:=I.ok.hd hc;have W:=WalksT.enumerateD (prog:=X.prog) (w:=X.w) (A:=X.A) (Jr6 hh it l n3 its.toArray) e n1 (by simp [n1,yk n2]) (by simp);obtain ⟨s1,s2⟩:=st;have li:i < its.length:=(yq.mp hu).1;refine W.item i s _ _ (by simp only [yu];omega) ⟨s1,s2,p1⟩ λT vals h' tk hP fT tT mid kk=>?_;refine ⟨_,rfl,W.go elts kt pt i T _ _ _ mid λh'' st'' kk2=>?_⟩;obtain ⟨t,a,ha,rfl⟩:=hP;have ea:a=u:=by simpa [hu] using ha.symm
  subst ea;obtain ⟨t1,t2,_⟩:=st'';have kT:h''.IsTuple T #[.int i t,a]:=by
   obtain ⟨o,q,r⟩:=tT;exact ⟨o,kk2 T o (W.apart i T h' mid) q,r⟩
  refine ⟨.ref T,upd H T (.tup [.int i,x]),I.turnTup (ch:=[e,it]) (t':=tk) hf (λc o hc q=>kk2 c o hc (kk c o hc q)) fT ⟨(show 2<=sizeLine by decide),[.int i t,a],.cons ⟨t,rfl⟩ (.cons ru .nil),kT⟩,rfl,⟨T,x,I.hok.fresh fT,rfl,λxs' hq=>by rw [I.tuple_inj hq q1];exact hx,rfl⟩,⟨t1,t2⟩,λc hc=>?_⟩;have hcn:=(hf c hc).1;rw [Jjx (λw'=>?_)]
  ·exact hcn
  ·subst w';obtain ⟨o,q,_⟩:=EnuTt.obj (show EnuTt e it l i s.heap from ⟨s1,s2⟩) c hc;exact absurd (yg q) (yat.mpr fT)
 done:=by
  intro X hP hw hK hc i pins s σ H E I hf st hg;subst hP hw hK;obtain ⟨xs,q1,hi⟩:=hg;obtain ⟨its,rv,p1,_⟩:=I.tuple q1;have hh:X.A.in1.handled=none:=I.ok.hd hc;have W:=WalksT.enumerateD (prog:=X.prog) (w:=X.w) (A:=X.A) (Jr6 hh it l n3 its.toArray) e n1 (by simp [n1,yk n2]) (by simp);obtain ⟨s1,s2⟩:=st;have e1:=rv.length;have ei:i=its.toArray.size:=by simp only [yu];omega
  subst ei;refine W.done s _ _ ⟨s1,s2,p1⟩ λh' tk kk=>⟨rfl,?_⟩;exact I.turnMany (ch:=[e,it]) hf λc o hc q=>kk c o hc q
 self:=λ_ _ _ _ _ st h=>let ⟨_,q⟩:=st.1;wpAny_pyIter_enum q h
noncomputable def iEnuT (K:PySem.W.Frag) (ta:TA):TI:=λσ H R=>ta σ H λvs H1=>∃a,vs= [.ref a]/\(∃xs,SqT K H1 a xs)/\R (ItU K a) H1
theorem Jxa {X:Cx} {elts:List Expr} {kt:Nat} {pt:Pos} {a:Expr} {ta:TA} {p pos:Pos} (hg:Gl X "enumerate") (hm:X.mg "enumerate" =none) (ha:PA X [a] ta) (hs:starEach [a] X.env= [(false,eval a X.env)]:=by rfl):
  PI X (.Tuple elts kt pt) (.Call (.Name "enumerate" p) [a] [] pos) (iEnuT X.K ta):=by
 intro pins s σ H R I h;refine Call_ (Joa I hg hm Jqk (PyProof.Rows.callWith_type1 (thn (ha pos pins s σ H _ I h) λus s1 zq=>?_) (by rw [hs];rfl) rfl));obtain ⟨vs,H1,I1,r1,q1⟩:=zq;obtain ⟨l,rfl,⟨xs,q1⟩,q⟩:=q1;obtain ⟨u,rfl,r2⟩:=Jms r1;obtain rfl:u=Value.ref l:=r2;obtain ⟨its,rv,p1,_⟩:=I1.tuple q1;have a1:l < s1.heap.objs.size:=by obtain ⟨o,e,_⟩:=p1;exact yg e
 refine Jzv (show s1.heap.IsTuple l its.toArray from p1) λh' z1 z2 kk=>?_;have I2:Inv X pins σ H1 {s1 with heap:=h'}:=I1.kept (t':=s1.toks) kk;refine wpAny_pyIter_enum z1 ⟨_,_,_,_,H1,rfl,I2,Ya5 (s1.heap.objs.size+1) s1.heap.objs.size l (Nat.succ_ne_self _) (yr (ybk a1)) (yr a1),⟨⟨_,z1⟩,z2⟩,λc hc=>?_,q⟩;have hc':s1.heap.objs.size<=c:=by
  simp only [yo,yv,or_false] at hc;rcases hc with rfl|rfl
  ·exact Nat.le_succ _
  ·exact yi _
 exact I1.fpOk hc' (I1.hok.fresh hc')
end L2
namespace L2
open PySem PySem.Spec PyProof.Rows PySem.W
noncomputable abbrev Jly (h:Heap) (T:Addr) (a b c:Value):Prop:=h.get? T=some {cls:=.type "tuple",data:=.seq #[a,b,c]}
noncomputable abbrev DrA (prog:Program) (w:World) (i l:Addr) (n:Nat) (P:Nat->Value->Prop) (St:Nat->Heap->Prop):Prop:=∀A:Around,A.handled=none->Draws prog w A i [i,l] n P St
structure Z3 (z TI TO i1 i2 i3 l1 l2 l3:Addr):Prop where
 nd: [z,TI,TO,i1,i2,i3].Nodup
 m1:l1∉ [z,TI,TO,i1,i2,i3]
 m2:l2∉ [z,TI,TO,i1,i2,i3]
 m3:l3∉ [z,TI,TO,i1,i2,i3]
section
variable {prog:Program} {w:World} {A:Around} {E:Value->Shared->Prop} {s:Shared}
theorem Jz1 {T:Addr} {a b c x:Value} {k:Nat} {Q:Unit->Shared->Prop} (hT:Jly s.heap T a b c)
  (h:∀h',h'.get? T=some {cls:=.type "tuple",data:=.seq ((#[a,b,c]:Array Value).setIfInBounds k x)}->yam T s.heap h'->Q () {s with heap:=h'}):wpAny (model prog w) A (updateSeq T (·.setIfInBounds k x)) Q E s:=by
 refine wpAny_updateSeq hT rfl (h _ ?_ (yam.update ..));rw [ybj _ hT rfl];simp [Obj.mapSeq]
variable {z TI TO i1 i2 i3 l1 l2 l3:Addr} {n k:Nat} {P1 P2 P3:Nat->Value->Prop} {S1 S2 S3:Nat->Heap->Prop} {a b c:Value}
theorem Yem {n2:Nat} {Q:Value->Shared->Prop} (Z:Z3 z TI TO i1 i2 i3 l1 l2 l3) (hz:IsZip s.heap z TI TO .none) (hTI:Jly s.heap TI (.ref i1) (.ref i2) (.ref i3)) (hTO:Jly s.heap TO a b c)
  (hh:A.handled=none) (D1:DrA prog w i1 l1 n P1 S1) (D2:DrA prog w i2 l2 n2 P2 S2) (D3:DrA prog w i3 l3 n P3 S3) (hk:k < n) (hk2:k < n2) (t1:S1 k s.heap) (t2:S2 k s.heap) (t3:S3 k s.heap)
  (hQ:∀x y u h' tk,P1 k x->P2 k y->P3 k u->IsZip h' z TI TO (rawInt s.heap.objs.size)->Jly h' TO x y u->S1 (k+1) h'->S2 (k+1) h'->S3 (k+1) h'->Jly h' s.heap.objs.size x y u->
   (∀d o,d≠z->d≠TO->d≠i1->d≠i2->d≠i3->s.heap.get? d=some o->h'.get? d=some o)->Q (.ref s.heap.objs.size) {s with heap:=h',toks:=tk}):
  wpAny (model prog w) A (Builtin.«zip.__next__» ⟨[.ref z],[]⟩) (λfin s'=>∃v,fin= .done (.ret v)/\Q v s') E s:=by
 obtain ⟨nd,m1,m2,m3⟩:=Z;simp only [yba,yo,yv,or_false,not_or,ybl,and_true,not_false_eq_true] at nd m1 m2 m3;obtain ⟨⟨zTI,zTO,z1,z2,z3⟩,⟨TITO,TI1,TI2,TI3⟩,⟨TO1,TO2,TO3⟩,⟨n12,n13⟩,n23⟩:=nd;obtain ⟨l1z,l1TI,l1TO,l11,l12,l13⟩:=m1;obtain ⟨l2z,l2TI,l2TO,l21,l22,l23⟩:=m2;obtain ⟨l3z,l3TI,l3TO,l31,l32,l33⟩:=m3;have fr:∀{S:Nat->Heap->Prop} {P:Nat->Value->Prop} {i l b:Addr} {m n':Nat} {h h':Heap},DrA prog w i l n' P S->i≠b->l≠b->yam b h h'->S m h->S m h':=λD e1 e2 sb st=>
  (D A hh).frame _ _ _ st λd hd o e=>by
   simp only [yo,yv,or_false] at hd;rcases hd with rfl|rfl
   ·exact sb.extBut _ _ e1 e
   ·exact sb.extBut _ _ e2 e
 show wpAny _ _ (field (.ref z) 2 >>=_) _ _ _;refine wpAny_bind (wpAny_field hz rfl (x:=.bool false) rfl ?_);refine wpAny_bind (m:=field (.ref z) 3) (wpAny_field hz rfl (x:=.ref TI) rfl ?_);refine wpAny_bind (wpAny_seqItems hTI rfl ?_);refine wpAny_bind (m:=Builtin.SmallTypes.ownedTupleIsFree (.ref z)) ?_;unfold Builtin.SmallTypes.ownedTupleIsFree;refine wpAny_bind (wpAny_field hz rfl (x:=.none) rfl (wpAny_pure ?_));simp only [if_true];refine wpAny_bind (wpAny_rule (wpAny_bind (wpAny_field hz rfl (x:=.ref TO) rfl (wpAny_bind (wpAny_setField_rec hz (by simp) λh1 hz1 s1=>?_)))));replace hz1:IsZip h1 z TI TO .ellipsis:=hz1;refine wpAny_bind ?_;simp only [List.zipIdx_cons,List.zipIdx_nil,yce,List.forIn_nil];refine wpAny_bind (wpAny_bind (wpAny_onRaise ?_));refine wpAny_bind (m:=Builtin.SmallTypes.nextOf (.ref i1)) ((D1 A hh).item k _ _ _ hk (fr D1 (yk z1) l1z s1 t1) λx h2 k2 px u1 s2=>wpAny_pure ?_);have o2:Jly h2 TO a b c:=s2.extBut _ _ TO1 (s1.extBut _ _ (yk zTO) hTO);refine wpAny_bind (wpAny_seqItems o2 rfl (wpAny_bind (Jz1 o2 λh3 o3 s3=>wpAny_bind (wpAny_letGo (wpAny_pure ?_)))));replace o3:Jly h3 TO x b c:=o3;refine wpAny_bind (wpAny_bind (wpAny_onRaise ?_));refine wpAny_bind (m:=Builtin.SmallTypes.nextOf (.ref i2)) ((D2 A hh).item k _ _ _ hk2 (fr D2 (yk TO2) l2TO s3 (fr D2 (yk n12) l21 s2 (fr D2 (yk z2) l2z s1 t2))) λy h4 k4 py u2 s4=>wpAny_pure ?_);have o4:Jly h4 TO x b c:=s4.extBut _ _ TO2 o3;refine wpAny_bind (wpAny_seqItems o4 rfl (wpAny_bind (Jz1 o4 λh5 o5 s5=>wpAny_bind (wpAny_letGo (wpAny_pure ?_)))));replace o5:Jly h5 TO x y c:=o5;refine wpAny_bind (wpAny_bind (wpAny_onRaise ?_));refine wpAny_bind (m:=Builtin.SmallTypes.nextOf (.ref i3)) ((D3 A hh).item k _ _ _ hk (fr D3 (yk TO3) l3TO s5 (fr D3 (yk n23) l32 s4 (fr D3 (yk TO3) l3TO s3 (fr D3 (yk n13) l31 s2 (fr D3 (yk z3) l3z s1 t3))))) λu h6 k6 pu u3 s6=>wpAny_pure ?_);have o6:Jly h6 TO x y c:=s6.extBut _ _ TO3 o5;refine wpAny_bind (wpAny_seqItems o6 rfl (wpAny_bind (Jz1 o6 λh7 o7 s7=>wpAny_bind (wpAny_letGo (wpAny_pure (wpAny_pure ?_))))));replace o7:Jly h7 TO x y u:=o7;refine wpAny_bind (wpAny_seqItems o7 rfl (wpAny_bind (wpAny_newTuple ?_)));have sz:h7.objs.size=s.heap.objs.size:=by rw [s7.1,s6.1,s5.1,s4.1,s3.1,s2.1,s1.1]
 have zz:IsZip h7 z TI TO .ellipsis:=s7.extBut _ _ zTO (s6.extBut _ _ z3 (s5.extBut _ _ zTO (s4.extBut _ _ z2 (s3.extBut _ _ zTO (s2.extBut _ _ z1 hz1)))));have kk:∀d o,d≠z->d≠TO->d≠i1->d≠i2->d≠i3->s.heap.get? d=some o->h7.get? d=some o:=λd o c1 c2 c3 c4 c5 e=>
  s7.extBut _ _ c2 (s6.extBut _ _ c5 (s5.extBut _ _ c2 (s4.extBut _ _ c4 (s3.extBut _ _ c2 (s2.extBut _ _ c3 (s1.extBut _ _ c1 e))))))
 have w1:S1 (k+1) h7:=fr D1 (yk TO1) l1TO s7 (fr D1 n13 l13 s6 (fr D1 (yk TO1) l1TO s5 (fr D1 n12 l12 s4 (fr D1 (yk TO1) l1TO s3 u1))));have w2:S2 (k+1) h7:=fr D2 (yk TO2) l2TO s7 (fr D2 n23 l23 s6 (fr D2 (yk TO2) l2TO s5 u2));have w3:S3 (k+1) h7:=fr D3 (yk TO3) l3TO s7 u3;have zlt:z < h7.objs.size:=yg zz;refine wpAny_bind (m:=Builtin.SmallTypes.ownedTupleHandOut (.ref z) (.ref h7.objs.size)) ?_;unfold Builtin.SmallTypes.ownedTupleHandOut;have zp:IsZip (h7.push {cls:=.type "tuple",data:=.seq #[x,y,u]}) z TI TO .ellipsis:=yj _ zz;refine wpAny_bind (wpAny_setField_rec zp (by simp) λh8 hz8 s8=>?_);replace hz8:IsZip h8 z TI TO (rawInt h7.objs.size):=hz8;refine wpAny_setField_rec hz8 (by simp) λh9 hz9 s9=>?_;replace hz9:IsZip h9 z TI TO (rawInt h7.objs.size):=hz9;have up:∀d o,d≠z->h7.get? d=some o->h9.get? d=some o:=λd o c1 e=>s9.extBut _ _ c1 (s8.extBut _ _ c1 (yj _ e));have nw:Jly h9 h7.objs.size x y u:=s9.extBut _ _ (yaw zlt) (s8.extBut _ _ (yaw zlt) (yp _ rfl));have fz:∀{S:Nat->Heap->Prop} {P:Nat->Value->Prop} {i l:Addr} {m n':Nat},DrA prog w i l n' P S->i≠z->l≠z->S m h7->S m h9:=λD e1 e2 st=>(D A hh).frame _ _ _ st λd hd o e=>by
  simp only [yo,yv,or_false] at hd;rcases hd with rfl|rfl
  ·exact up _ _ e1 e
  ·exact up _ _ e2 e
 rw [sz] at hz9 nw;refine wpAny_pure ⟨_,rfl,?_⟩;show Q (.ref h7.objs.size) _;rw [sz];exact hQ x y u h9 _ px py pu hz9 (up _ _ (yk zTO) o7) (fz D1 (yk z1) l1z w1) (fz D2 (yk z2) l2z w2) (fz D3 (yk z3) l3z w3) nw λd o c1 c2 c3 c4 c5 e=>up d o c1 (kk d o c1 c2 c3 c4 c5 e)
theorem z3_end {Q:Fin->Shared->Prop} (Z:Z3 z TI TO i1 i2 i3 l1 l2 l3) (hz:IsZip s.heap z TI TO .none) (hTI:Jly s.heap TI (.ref i1) (.ref i2) (.ref i3))
  (hh:A.handled=none) (D1:DrA prog w i1 l1 n P1 S1) (t1:S1 n s.heap)
  (hE:∀h' e,(∀d o,d≠z->d≠i1->s.heap.get? d=some o->h'.get? d=some o)->(∃o,h'.get? e=some o/\o.cls= .type "StopIteration")->E (.ref e) {s with heap:=h'}):
  wpAny (model prog w) A (Builtin.«zip.__next__» ⟨[.ref z],[]⟩) Q E s:=by
 obtain ⟨nd,m1,_,_⟩:=Z;simp only [yba,yo,yv,or_false,not_or,ybl,and_true,not_false_eq_true] at nd m1;obtain ⟨⟨zTI,zTO,z1,z2,z3⟩,_⟩:=nd;obtain ⟨l1z,l1TI,l1TO,l11,l12,l13⟩:=m1;show wpAny _ _ (field (.ref z) 2 >>=_) _ _ _;refine wpAny_bind (wpAny_field hz rfl (x:=.bool false) rfl ?_);refine wpAny_bind (m:=field (.ref z) 3) (wpAny_field hz rfl (x:=.ref TI) rfl ?_);refine wpAny_bind (wpAny_seqItems hTI rfl ?_);refine wpAny_bind (m:=Builtin.SmallTypes.ownedTupleIsFree (.ref z)) ?_;unfold Builtin.SmallTypes.ownedTupleIsFree;refine wpAny_bind (wpAny_field hz rfl (x:=.none) rfl (wpAny_pure ?_));simp only [if_true];refine wpAny_bind (wpAny_rule (wpAny_bind (wpAny_field hz rfl (x:=.ref TO) rfl (wpAny_bind (wpAny_setField_rec hz (by simp) λh1 hz1 s1=>?_)))));replace hz1:IsZip h1 z TI TO .ellipsis:=hz1;refine wpAny_bind ?_;simp only [List.zipIdx_cons,List.zipIdx_nil,yce,List.forIn_nil];refine wpAny_bind (wpAny_bind (wpAny_onRaise ?_));refine wpAny_bind (m:=Builtin.SmallTypes.nextOf (.ref i1)) ((D1 A hh).done _ _ _ ((D1 A hh).frame _ _ _ t1 λd hd o e=>?_) λh2 e s2 he=>?_)
 ·simp only [yo,yv,or_false] at hd;rcases hd with rfl|rfl
  ·exact s1.extBut _ _ (yk z1) e
  ·exact s1.extBut _ _ l1z e
 ·obtain ⟨oe,hoe,hce⟩:=he;have hz2:IsZip h2 z TI TO .ellipsis:=s2 _ _ z1 hz1;have ez:e≠z:=λq=>by subst q;rw [hz2] at hoe;cases hoe;simp at hce
  exact wpAny_setField_rec hz2 (by simp) λh3 _ s3=>hE h3 e (λd o c1 c2 q=>s3.extBut _ _ c1 (s2 _ _ c2 (s1.extBut _ _ c1 q))) ⟨oe,s3.extBut _ _ ez hoe,hce⟩
end
end L2
namespace L2
open PySem PySem.Spec PyProof.Rows PySem.W
noncomputable def Z3St (z TI TO i1 i2 i3:Addr) (S1 S2 S3:Nat->Heap->Prop) (i:Nat) (h:Heap):Prop:=IsZip h z TI TO .none/\Jly h TI (.ref i1) (.ref i2) (.ref i3)/\(∃a b c,Jly h TO a b c)/\S1 i h/\S2 i h/\S3 i h
section
variable {prog:Program} {w:World} {z TI TO i1 i2 i3 l1 l2 l3:Addr} {n:Nat} {P1 P2 P3:Nat->Value->Prop} {S1 S2 S3:Nat->Heap->Prop}
theorem Yco {n2:Nat} {A:Around} (hh:A.handled=none) (Z:Z3 z TI TO i1 i2 i3 l1 l2 l3) (D1:DrA prog w i1 l1 n P1 S1) (hn:n<=n2) (D2:DrA prog w i2 l2 n2 P2 S2) (D3:DrA prog w i3 l3 n P3 S3):
  WalksT prog w A z [z,TI,TO,i1,i2,i3,l1,l2,l3] [z,TO,i1,i2,i3] n (λi vals=>∃x y u,P1 i x/\P2 i y/\P3 i u/\vals= #[x,y,u]) (Z3St z TI TO i1 i2 i3 S1 S2 S3)
   (λi T h=>IsZip h z TI TO (rawInt T)/\Jly h TI (.ref i1) (.ref i2) (.ref i3)/\(∃a b c,Jly h TO a b c)/\S1 (i+1) h/\S2 (i+1) h/\S3 (i+1) h/\T∉ [z,TO,i1,i2,i3]) where
 sub:=λc hc=>by simp at hc⊢;rcases hc with rfl|rfl|rfl|rfl|rfl <;> simp
 frame:=λi h h' hst hk=>by
  obtain ⟨hz,hTI,⟨a,b,c,hTO⟩,h1,h2,h3⟩:=hst;exact ⟨hk z (by simp) _ hz,hk TI (by simp) _ hTI,⟨a,b,c,hk TO (by simp) _ hTO⟩,(D1 A hh).frame _ _ _ h1 λd hd o e=>hk d (by simp at hd;rcases hd with rfl|rfl <;> simp) o e,
   (D2 A hh).frame _ _ _ h2 λd hd o e=>hk d (by simp at hd;rcases hd with rfl|rfl <;> simp) o e,(D3 A hh).frame _ _ _ h3 λd hd o e=>hk d (by simp at hd;rcases hd with rfl|rfl <;> simp) o e⟩
 item:=λi s Q E hi hst hQ=>by
  obtain ⟨hz,hTI,⟨a,b,c,hTO⟩,h1,h2,h3⟩:=hst;have hT:s.TypeIs (.ref z) "zip" :=⟨_,hz,rfl⟩;have nd:=Z.nd;simp only [yba,yo,yv,or_false,not_or,ybl,and_true,not_false_eq_true] at nd;obtain ⟨⟨zTI,_⟩,⟨TITO,TI1,TI2,TI3⟩,_⟩:=nd;obtain ⟨e1,g1⟩:=(D1 A hh).live _ _ h1;obtain ⟨e2,g2⟩:=(D2 A hh).live _ _ h2;obtain ⟨e3,g3⟩:=(D3 A hh).live _ _ h3;unfold pyNext;refine wpAny_bind (wpAny_attempt (wpAny_callSpecial?_slot (name:=Str.ofString "__next__") hT F.slot_zip_next (wpAny_call_entry F.slot_zip_next hT F.entry_zip_next
   (Yem (A:=A.in1) Z hz hTI hTO hh D1 D2 D3 hi (yap hi hn) h1 h2 h3 λx y u h' tk px py pu a1 a2 a3 a4 a5 a6 hk=>wpAny_pure ?_) (F.args_zip_next_1 _))))
  refine hQ s.heap.objs.size #[x,y,u] h' tk ⟨x,y,u,px,py,pu,rfl⟩ (yi _) ⟨_,a6,rfl,_,rfl⟩ ⟨a1,hk _ _ (yk zTI) TITO TI1 TI2 TI3 hTI,⟨_,_,_,a2⟩,a3,a4,a5,?_⟩ λd o hd e=>hk d o (λq=>hd (by simp [q])) (λq=>hd (by simp [q])) (λq=>hd (by simp [q])) (λq=>hd (by simp [q])) (λq=>hd (by simp [q])) e;have lt:∀{d o},s.heap.get? d=some o->s.heap.objs.size≠d:=λe=>yaw (yg e);simp only [yo,yv,or_false,not_or];exact ⟨lt hz,lt hTO,lt g1,lt g2,lt g3⟩
 go:=λelts k pos i T s Q E hm hQ=>by
  obtain ⟨hz,hTI,⟨a,b,c,hTO⟩,h1,h2,h3,_⟩:=hm;have nd:=Z.nd;have m1:=Z.m1;have m2:=Z.m2;have m3:=Z.m3;simp only [yba,yo,yv,or_false,not_or,ybl,and_true,not_false_eq_true] at nd m1 m2 m3;obtain ⟨⟨zTI,zTO,z1,z2,z3⟩,_⟩:=nd;have fz:∀{S:Nat->Heap->Prop} {P:Nat->Value->Prop} {j l:Addr} {m n':Nat} {h':Heap},DrA prog w j l n' P S->j≠z->l≠z->yam z s.heap h'->S m s.heap->S m h':=λD e1 e2 sb st=>(D A hh).frame _ _ _ st λd hd o e=>by
   simp only [yo,yv,or_false] at hd;rcases hd with rfl|rfl
   ·exact sb.extBut _ _ e1 e
   ·exact sb.extBut _ _ e2 e
  exact wpAny_letOwnedTupleGo_zip hz λh' hz' sb=>hQ h' ⟨hz',sb.extBut _ _ (yk zTI) hTI,⟨a,b,c,sb.extBut _ _ (yk zTO) hTO⟩,fz D1 (yk z1) m1.1 sb h1,fz D2 (yk z2) m2.1 sb h2,fz D3 (yk z3) m3.1 sb h3⟩ λd o hd e=>sb.extBut _ _ (λq=>hd (by simp [q])) e
 apart:=λi T h hm hT=>hm.2.2.2.2.2.2 hT
 done:=λs Q E hst hQ=>by
  obtain ⟨hz,hTI,_,h1,h2,h3⟩:=hst;have hT:s.TypeIs (.ref z) "zip" :=⟨_,hz,rfl⟩;unfold pyNext;refine wpAny_bind (wpAny_attempt (wpAny_callSpecial?_slot (name:=Str.ofString "__next__") hT F.slot_zip_next (wpAny_call_entry F.slot_zip_next hT F.entry_zip_next
   (z3_end (A:=A.in1) Z hz hTI hh D1 h1 λh' e hk he=>?_) (F.args_zip_next_1 _))))
  obtain ⟨o,ho,hc⟩:=he;refine wpAny_bind (wpAny_isInstance (T:="StopIteration") (b:=true) ⟨o,ho,hc⟩ isSubtype_stop (wpAny_pure ?_));exact hQ h' s.toks λd o' hd e'=>hk d o' (λq=>hd (by simp [q])) (λq=>hd (by simp [q])) e'
 self:=λi s Q E hst hQ=>wpAny_pyIter_zip hst.1 hQ
end
end L2
namespace L2
open PySem PySem.Spec PyProof.Rows PySem.W
noncomputable def SqB (K:PySem.W.Frag) (H:Hp) (l:Addr):Bool->List V->Prop
 |false,xs=>SqL K H l xs
 |true,xs=>SqT K H l xs
noncomputable def IsB (h:Heap) (l:Addr):Bool->Array Value->Prop
 |false,items=>h.IsList l items
 |true,items=>h.IsTuple l items
noncomputable def IS (it l:Addr):Bool->Nat->Heap->Prop
 |false,i,h=>h.IsListIter it l i
 |true,i,h=>h.IsTupleIter it l i
noncomputable def itO (l:Addr):Bool->Obj
 |false=>{cls:=.type "list_iterator",data:=.fields #[.ref l,.int 0 0]}
 |true=>{cls:=.type "tuple_iterator",data:=.fields #[.ref l,.int 0 0]}
theorem IS.at {it l:Addr} {b:Bool} {i:Nat} {h h':Heap} (x:IS it l b i h) (k:∀o,h.get? it=some o->h'.get? it=some o):IS it l b i h':=by
 cases b
 ·exact Heap.IsListIter.at x k
 ·exact Heap.IsTupleIter.at x k
theorem IS.obj {it l:Addr} {b:Bool} {i:Nat} {h:Heap} (x:IS it l b i h):∃o,h.get? it=some o/\∀v,o.data≠ .cell v:=by
 cases b
 ·obtain ⟨o,e,_,d⟩:=x;exact ⟨o,e,λv z=>by rw [d] at z;cases z⟩
 ·obtain ⟨o,e,_,d⟩:=x;exact ⟨o,e,λv z=>by rw [d] at z;cases z⟩
theorem drA {prog:Program} {w:World} {it l:Addr} (b:Bool) (ne:l≠it) (items:Array Value):DrA prog w it l items.size (λi v=>items[i]?=some v) (λi h=>IS it l b i h/\IsB h l b items):=λA hh=>by
 cases b
 ·exact Draws.list hh it l ne items
 ·exact Jr6 hh it l ne items
section
variable {prog:Program} {w:World} {A:Around} {E:Value->Shared->Prop} {s:Shared}
theorem IsB.push {h:Heap} {l:Addr} {b:Bool} {items:Array Value} (x:IsB h l b items) (o:Obj):IsB (h.push o) l b items:=by
 cases b
 ·exact Heap.IsList.push x o
 ·exact Heap.IsTuple.push x o
theorem IsB.lt {h:Heap} {l:Addr} {b:Bool} {items:Array Value} (x:IsB h l b items):l < h.objs.size:=by
 cases b
 ·obtain ⟨o,e,_⟩:=x;exact yg e
 ·obtain ⟨o,e,_⟩:=x;exact yg e
theorem Jwt {l:Addr} {b:Bool} {items:Array Value} {Q:Value->Shared->Prop} (x:IsB s.heap l b items) (hQ:Q (.ref s.heap.objs.size) {s with heap:=s.heap.push (itO l b)}):wpAny (model prog w) A (pyIter (.ref l)) Q E s:=by
 cases b
 ·exact wpAny_pyIter_list x hQ
 ·exact wpAny_pyIter_tuple x hQ
end
noncomputable abbrev zA (h:Heap) (l1:Addr) (b1:Bool):Heap:=h.push (itO l1 b1)
noncomputable abbrev zB (h:Heap) (l1 l2:Addr) (b1 b2:Bool):Heap:=(zA h l1 b1).push (itO l2 b2)
noncomputable abbrev zC (h:Heap) (l1 l2 l3:Addr) (b1 b2 b3:Bool):Heap:=(zB h l1 l2 b1 b2).push (itO l3 b3)
noncomputable abbrev zD (h:Heap) (l1 l2 l3:Addr) (b1 b2 b3:Bool):Heap:=(zC h l1 l2 l3 b1 b2 b3).push {cls:=.type "tuple",data:=.seq #[.ref h.objs.size,.ref (zA h l1 b1).objs.size,.ref (zB h l1 l2 b1 b2).objs.size]}
noncomputable abbrev zE (h:Heap) (l1 l2 l3:Addr) (b1 b2 b3:Bool):Heap:=(zD h l1 l2 l3 b1 b2 b3).push {cls:=.type "tuple",data:=.seq #[.none,.none,.none]}
noncomputable abbrev zF (h:Heap) (l1 l2 l3:Addr) (b1 b2 b3:Bool):Heap:=(zE h l1 l2 l3 b1 b2 b3).push {cls:=.type "zip",data:=.fields #[.none,.bool false,.bool false,.ref (zC h l1 l2 l3 b1 b2 b3).objs.size,.ref (zD h l1 l2 l3 b1 b2 b3).objs.size]}
set_option maxRecDepth 100000 in
set_option maxHeartbeats 2000000 in
theorem Ycv (l1 l2 l3:Addr) (b1 b2 b3:Bool) (xs ys us:Array Value):
  Meets (Builtin.«zip.__new__» ⟨[.type "zip",.ref l1,.ref l2,.ref l3],[]⟩) (λ_ R s=>IsB s.heap l1 b1 xs/\IsB s.heap l2 b2 ys/\IsB s.heap l3 b3 us/\
   R (.ok (.ret (.ref (zE s.heap l1 l2 l3 b1 b2 b3).objs.size))) {s with heap:=zF s.heap l1 l2 l3 b1 b2 b3}):=
 .of_wp λprog w A R s h=>by
  obtain ⟨hp,g,d,tk,os⟩:=s;obtain ⟨hl1,hl2,hl3,h⟩:=h;have e0:=sub_zip;have e1:IsB (Shared.heap ⟨hp,g,d,tk,os⟩) l1 b1 xs:=hl1;have e2:IsB (Shared.heap ⟨hp.push (itO l1 b1),g,d,tk,os⟩) l2 b2 ys:=IsB.push hl2 _;have e3:IsB (Shared.heap ⟨(hp.push (itO l1 b1)).push (itO l2 b2),g,d,tk,os⟩) l3 b3 us:=IsB.push (IsB.push hl3 _) _
  wp_walk using Jwt e1,Jwt e2,Jwt e3
  exact ⟨_,rfl,h⟩
theorem Jtj (a b c:Value):checkTypeCall "zip" ⟨[a,b,c],[]⟩=pure ():=by kernel_rfl
theorem Jtr (a b c:Value):checkBuiltinCall "zip.__new__" ⟨[.type "zip",a,b,c],[]⟩=pure ():=by kernel_rfl
end L2
namespace L2
open PySem PySem.Spec PyProof.Rows PySem.W
theorem Jwi (a b c d:Value):argsOk "object.__init__" ⟨[a,b,c,d],[]⟩:=by
 unfold argsOk;rw [signature?_of (id:="object.__init__") (n:=['_','_','t','i','n','i','_','_']) (o:=['t','c','e','j','b','o']) (by kernel_rfl) F.owner_object];kernel_rfl
section
variable {prog:Program} {w:World} {A:Around} {E:Value->Shared->Prop} {s:Shared}
theorem Jzy {l1 l2 l3:Addr} {b1 b2 b3:Bool} {xs ys us:Array Value} {Q:Value->Shared->Prop} (h1:IsB s.heap l1 b1 xs) (h2:IsB s.heap l2 b2 ys) (h3:IsB s.heap l3 b3 us)
  (h:∀h',IsZip h' (s.heap.objs.size+5) (s.heap.objs.size+3) (s.heap.objs.size+4) .none->Jly h' (s.heap.objs.size+3) (.ref s.heap.objs.size) (.ref (s.heap.objs.size+1)) (.ref (s.heap.objs.size+2))->
   Jly h' (s.heap.objs.size+4) .none .none .none->IS s.heap.objs.size l1 b1 0 h'->IS (s.heap.objs.size+1) l2 b2 0 h'->IS (s.heap.objs.size+2) l3 b3 0 h'->
   (∀c o,s.heap.get? c=some o->h'.get? c=some o)->Q (.ref (s.heap.objs.size+5)) {s with heap:=h'}):
  wpAny (model prog w) A (call (.type "zip") [.ref l1,.ref l2,.ref l3]) Q E s:=by
 refine callType_new F.called_zip (by decide) (Jtj _ _ _) (Jtr _ _ _) (λobj=>Jwi obj _ _ _) F.entry_zip_new (Ycv l1 l2 l3 b1 b2 b3 xs ys us) ⟨h1,h2,h3,?_⟩;have z1:(zA s.heap l1 b1).objs.size=s.heap.objs.size+1:=yad ..;have z2:(zB s.heap l1 l2 b1 b2).objs.size=s.heap.objs.size+2:=by rw [yad,z1]
 have z3:(zC s.heap l1 l2 l3 b1 b2 b3).objs.size=s.heap.objs.size+3:=by rw [yad,z2]
 have z4:(zD s.heap l1 l2 l3 b1 b2 b3).objs.size=s.heap.objs.size+4:=by rw [yad,z3]
 have z5:(zE s.heap l1 l2 l3 b1 b2 b3).objs.size=s.heap.objs.size+5:=by rw [yad,z4]
 have p:∀{h:Heap} {c:Addr} {o q:Obj},h.get? c=some o->(h.push q).get? c=some o:=λe=>yj _ e;have g6:(zF s.heap l1 l2 l3 b1 b2 b3).get? (zE s.heap l1 l2 l3 b1 b2 b3).objs.size=some _:=yp _ rfl;have g5:(zF s.heap l1 l2 l3 b1 b2 b3).get? (zD s.heap l1 l2 l3 b1 b2 b3).objs.size=some _:=p (yp _ rfl);have g4:(zF s.heap l1 l2 l3 b1 b2 b3).get? (zC s.heap l1 l2 l3 b1 b2 b3).objs.size=some _:=p (p (yp _ rfl));have fr:∀(l:Addr) (b:Bool),(itO l b).isFreed=false:=λl b=>by cases b <;> rfl
 have g3:(zF s.heap l1 l2 l3 b1 b2 b3).get? (zB s.heap l1 l2 b1 b2).objs.size=some (itO l3 b3):=p (p (p (yp _ (fr _ _))));have g2:(zF s.heap l1 l2 l3 b1 b2 b3).get? (zA s.heap l1 b1).objs.size=some (itO l2 b2):=p (p (p (p (yp _ (fr _ _)))));have g1:(zF s.heap l1 l2 l3 b1 b2 b3).get? s.heap.objs.size=some (itO l1 b1):=p (p (p (p (p (yp _ (fr _ _))))));have is:∀{it l:Addr} {b:Bool} {h:Heap},h.get? it=some (itO l b)->IS it l b 0 h:=λ{it l b h} e=>by
  cases b
  ·exact ⟨_,e,rfl,rfl⟩
  ·exact ⟨_,e,rfl,rfl⟩
 show _/\_;rw [z3,z4,z5] at g6;rw [z1,z2,z3] at g4;rw [z4] at g5;rw [z2] at g3;rw [z1] at g2;rw [z5];exact ⟨⟨_,g6,rfl⟩,h _ g6 g4 g5 (is g1) (is g2) (is g3) λc o x=>p (p (p (p (p (p x)))))⟩
end
end L2
namespace L2
open PySem PySem.Spec PyProof.Rows PySem.W
section
variable {X:Cx} {pins:List (Addr×Obj)} {σ:St} {H:Hp} {s:Shared}
theorem Inv.seqB {l:Addr} {b:Bool} {xs:List V} (I:Inv X pins σ H s) (h:SqB X.K H l b xs):∃its,Vals xs its/\IsB s.heap l b its.toArray:=by
 cases b
 ·obtain ⟨its,rv,p,_⟩:=I.list h;exact ⟨its,rv,p.isList⟩
 ·obtain ⟨its,rv,p,_⟩:=I.tuple h;exact ⟨its,rv,p⟩
theorem Inv.seqB_inj {l:Addr} {b:Bool} {xs ys:List V} (I:Inv X pins σ H s) (h:SqB X.K H l b xs) (h':SqB X.K H l b ys):xs=ys:=by
 cases b
 ·exact I.list_inj h h'
 ·exact I.tuple_inj h h'
end
noncomputable def Jwf (K:PySem.W.Frag) (l1 l2 l3:Addr) (b1 b2 b3:Bool):It:=
 ⟨λi H=>∃xs ys us,SqB K H l1 b1 xs/\SqB K H l2 b2 ys/\SqB K H l3 b3 us/\xs.length<=ys.length/\xs.length=us.length/\i < xs.length,
  λi H x H'=>∃T p q r,H T=none/\x= .ref T/\(∀xs,SqB K H l1 b1 xs->xs[i]?=some p)/\(∀ys,SqB K H l2 b2 ys->ys[i]?=some q)/\(∀us,SqB K H l3 b3 us->us[i]?=some r)/\H'=upd H T (.tup [p,q,r]),
  λi H=>∃xs ys us,SqB K H l1 b1 xs/\SqB K H l2 b2 ys/\SqB K H l3 b3 us/\xs.length<=ys.length/\xs.length=us.length/\i=xs.length⟩
noncomputable def Z3T (z TI TO i1 i2 i3 l1 l2 l3:Addr) (b1 b2 b3:Bool) (i:Nat) (h:Heap):Prop:=IsZip h z TI TO .none/\Jly h TI (.ref i1) (.ref i2) (.ref i3)/\(∃a b c,Jly h TO a b c)/\IS i1 l1 b1 i h/\IS i2 l2 b2 i h/\IS i3 l3 b3 i h
theorem Z3T.obj {z TI TO i1 i2 i3 l1 l2 l3:Addr} {b1 b2 b3:Bool} {i:Nat} {h:Heap} (st:Z3T z TI TO i1 i2 i3 l1 l2 l3 b1 b2 b3 i h):∀b∈ [z,TI,TO,i1,i2,i3],∃o,h.get? b=some o/\∀v,o.data≠ .cell v:=λb hb=>by
 obtain ⟨h1,h2,⟨x,y,u,h3⟩,h4,h5,h6⟩:=st;simp only [yo,yv,or_false] at hb;rcases hb with rfl|rfl|rfl|rfl|rfl|rfl
 ·exact ⟨_,h1,λv z=>by cases z⟩
 ·exact ⟨_,h2,λv z=>by cases z⟩
 ·exact ⟨_,h3,λv z=>by cases z⟩
 ·exact h4.obj
 ·exact h5.obj
 ·exact h6.obj
theorem Z3.ne {z TI TO i1 i2 i3 l1 l2 l3:Addr} (Z:Z3 z TI TO i1 i2 i3 l1 l2 l3):l1≠i1/\l2≠i2/\l3≠i3:=by
 obtain ⟨_,m1,m2,m3⟩:=Z;simp only [yo,yv,or_false,not_or] at m1 m2 m3;exact ⟨m1.2.2.2.1,m2.2.2.2.2.1,m3.2.2.2.2.2⟩
theorem Ya8 {P:Program} {w:World} {K:PySem.W.Frag} {elts:List Expr} {kt:Nat} {pt:Pos} (z TI TO i1 i2 i3 l1 l2 l3:Addr) (b1 b2 b3:Bool) (Z:Z3 z TI TO i1 i2 i3 l1 l2 l3):
  Jqz P w K (.Tuple elts kt pt) (Jwf K l1 l2 l3 b1 b2 b3) [z,TI,TO,i1,i2,i3] z (Z3T z TI TO i1 i2 i3 l1 l2 l3 b1 b2 b3) where
 mem:=by simp
 obj:=λi h st=>st.obj
 keep:=λi h h' st k=>by
  obtain ⟨h1,h2,⟨a,c,d,h3⟩,h4,h5,h6⟩:=st;exact ⟨k z (by simp) _ h1,k TI (by simp) _ h2,⟨a,c,d,k TO (by simp) _ h3⟩,h4.at λo e=>k i1 (by simp) o e,h5.at λo e=>k i2 (by simp) o e,h6.at λo e=>k i3 (by simp) o e⟩
 item:=by
  intro X hP hw hK hc i pins s σ H E I hf st hg;subst hP hw hK;obtain ⟨xs,ys,us,q1,q2,q3,e12,e13,hi⟩:=hg;obtain ⟨its,rv,p1⟩:=I.seqB q1;obtain ⟨jts,rv2,p2⟩:=I.seqB q2;obtain ⟨kts,rv3,p3⟩:=I.seqB q3;have a1:=rv.length;have a2:=rv2.length;have a3:=rv3.length;obtain ⟨n1,n2,n3⟩:=Z.ne;have D1:=drA (prog:=X.prog) (w:=X.w) b1 n1 its.toArray;have D2:=drA (prog:=X.prog) (w:=X.w) b2 n2 jts.toArray;have D3:=drA (prog:=X.prog) (w:=X.w) b3 n3 kts.toArray;rw [show kts.toArray.size=its.toArray.size by simp only [yu];omega] at D3;have W:=Yco (I.ok.hd hc) Z D1 (by simp only [yu];omega) D2 D3;have st0:=st;obtain ⟨s1,s2,s3,s4,s5,s6⟩:=st;refine W.item i s _ _ (by simp only [yu];omega) ⟨s1,s2,s3,⟨s4,p1⟩,⟨s5,p2⟩,⟨s6,p3⟩⟩ λT vals h' tk hP fT tT mid kk=>?_;refine ⟨_,rfl,W.go elts kt pt i T _ _ _ mid λh'' st'' kk2=>?_⟩;obtain ⟨x,y,u,hx,hy,hu,rfl⟩:=hP;obtain ⟨u1,hu1,r1⟩:=rv.get (i:=i) (x:=xs[i]) (yn hi);obtain ⟨u2,hu2,r2⟩:=rv2.get (i:=i) (x:=ys[i]'(by omega)) (yn (by omega));obtain ⟨u3,hu3,r3⟩:=rv3.get (i:=i) (x:=us[i]'(by omega)) (yn (by omega));obtain rfl:x=u1:=by simpa [hu1] using hx.symm
  obtain rfl:y=u2:=by simpa [hu2] using hy.symm
  obtain rfl:u=u3:=by simpa [hu3] using hu.symm
  obtain ⟨t1,t2,t3,t4,t5,t6⟩:=st'';have kT:h''.IsTuple T #[x,y,u]:=by
   obtain ⟨o,q,r⟩:=tT;exact ⟨o,kk2 T o (W.apart i T h' mid) q,r⟩
  have cht:∀c,c∈ [z,TO,i1,i2,i3]->c∈ [z,TI,TO,i1,i2,i3]:=λc hc=>by simp at hc⊢;rcases hc with rfl|rfl|rfl|rfl|rfl <;> simp
  refine ⟨.ref T,upd H T (.tup [xs[i],ys[i]'(by omega),us[i]'(by omega)]),I.turnTup (ch:=[z,TO,i1,i2,i3]) (t':=tk) (λc hc=>hf c (cht c hc)) (λc o hc e=>kk2 c o hc (kk c o hc e)) fT ⟨(show 3<=sizeLine by decide),[x,y,u],.cons r1 (.cons r2 (.cons r3 .nil)),kT⟩,rfl,
   ⟨T,_,_,_,I.hok.fresh fT,rfl,λxs' hq=>by rw [I.seqB_inj hq q1];exact yn hi,λys' hq=>by rw [I.seqB_inj hq q2];exact yn (by omega),λus' hq=>by rw [I.seqB_inj hq q3];exact yn (by omega),rfl⟩,⟨t1,t2,t3,t4.1,t5.1,t6.1⟩,λc hc=>?_⟩
  have hcn:=(hf c hc).1;rw [Jjx (λw'=>?_)]
  ·exact hcn
  ·subst w';obtain ⟨o,e,_⟩:=Z3T.obj st0 c hc;exact absurd (yg e) (yat.mpr fT)
 done:=by
  intro X hP hw hK hc i pins s σ H E I hf st hg;subst hP hw hK;obtain ⟨xs,ys,us,q1,q2,q3,e12,e13,hi⟩:=hg;obtain ⟨its,rv,p1⟩:=I.seqB q1;obtain ⟨jts,rv2,p2⟩:=I.seqB q2;obtain ⟨kts,rv3,p3⟩:=I.seqB q3;have a1:=rv.length;have a2:=rv2.length;have a3:=rv3.length;obtain ⟨n1,n2,n3⟩:=Z.ne;have D1:=drA (prog:=X.prog) (w:=X.w) b1 n1 its.toArray;have D2:=drA (prog:=X.prog) (w:=X.w) b2 n2 jts.toArray;have D3:=drA (prog:=X.prog) (w:=X.w) b3 n3 kts.toArray;rw [show kts.toArray.size=its.toArray.size by simp only [yu];omega] at D3;have W:=Yco (I.ok.hd hc) Z D1 (by simp only [yu];omega) D2 D3;obtain ⟨s1,s2,s3,s4,s5,s6⟩:=st;have ei:i=its.toArray.size:=by simp only [yu];omega
  subst ei;refine W.done s _ _ ⟨s1,s2,s3,⟨s4,p1⟩,⟨s5,p2⟩,⟨s6,p3⟩⟩ λh' tk kk=>⟨rfl,?_⟩;exact I.turnMany (ch:=[z,TO,i1,i2,i3]) (λc hc=>hf c (by simp at hc⊢;rcases hc with rfl|rfl|rfl|rfl|rfl <;> simp)) λc o hc e=>kk c o hc e
 self:=λ_ _ _ _ _ st h=>wpAny_pyIter_zip st.1 h
noncomputable def iZip3 (K:PySem.W.Frag) (b1 b2 b3:Bool) (ta:TA):TI:=λσ H R=>ta σ H λvs H1=>∃a b c,vs= [.ref a,.ref b,.ref c]/\(∃xs,SqB K H1 a b1 xs)/\(∃ys,SqB K H1 b b2 ys)/\(∃us,SqB K H1 c b3 us)/\R (Jwf K a b c b1 b2 b3) H1
theorem Js9 {X:Cx} {elts:List Expr} {kt:Nat} {pt:Pos} {a b c:Expr} {ta:TA} {p pos:Pos} (b1 b2 b3:Bool) (hg:Gl X "zip") (hm:X.mg "zip" =none) (ha:PA X [a,b,c] ta) (hs:starEach [a,b,c] X.env= [(false,eval a X.env),(false,eval b X.env),(false,eval c X.env)]:=by rfl) (hs2:starEach [b,c] X.env= [(false,eval b X.env),(false,eval c X.env)]:=by rfl):
  PI X (.Tuple elts kt pt) (.Call (.Name "zip" p) [a,b,c] [] pos) (iZip3 X.K b1 b2 b3 ta):=by
 intro pins s σ H R I h;refine Call_ (Joa I hg hm Yah (PyProof.Rows.callWith_type1 (thn (ha pos pins s σ H _ I h) λus s1 zq=>?_) (by rw [hs,hs2]) (by rw [hs2];rfl)));obtain ⟨vs,H1,I1,r1,q1⟩:=zq;obtain ⟨l1,l2,l3,rfl,⟨xs,q1⟩,⟨ys,q2⟩,⟨zs,q3⟩,q⟩:=q1;obtain ⟨u,v,y,rfl,r1,r2,r3⟩:∃u v y,us= [u,v,y]/\RelV (.ref l1) u/\RelV (.ref l2) v/\RelV (.ref l3) y:=by
  cases r1 with
  |cons a1 t1=>
   cases t1 with
   |cons a2 t2=>
    cases t2 with
    |cons a3 t3=>
     cases t3;exact ⟨_,_,_,rfl,a1,a2,a3⟩
 obtain rfl:u=Value.ref l1:=r1;obtain rfl:v=Value.ref l2:=r2;obtain rfl:y=Value.ref l3:=r3;obtain ⟨its,rv,p1⟩:=I1.seqB q1;obtain ⟨jts,rv2,p2⟩:=I1.seqB q2;obtain ⟨kts,rv3,p3⟩:=I1.seqB q3;have a1:=p1.lt;have a2:=p2.lt;have a3:=p3.lt;refine Jzy p1 p2 p3 λh' z1 z2 z3 z4 z5 z6 kk=>?_;have I2:Inv X pins σ H1 {s1 with heap:=h'}:=I1.kept (t':=s1.toks) kk;have ap:Z3 (s1.heap.objs.size+5) (s1.heap.objs.size+3) (s1.heap.objs.size+4) s1.heap.objs.size (s1.heap.objs.size+1) (s1.heap.objs.size+2) l1 l2 l3:=by
  generalize hN:s1.heap.objs.size=N at*;have big:∀l:Addr,l < N->l∉ [N+5,N+3,N+4,N,N+1,N+2]:=λl hl hm=>by
   simp only [yo,yv,or_false] at hm;have le:N<=l:=by rcases hm with rfl|rfl|rfl|rfl|rfl|rfl <;> first|exact yi _|exact Nat.le_add_right _ _
   exact yat.mpr le hl
  exact ⟨by simp,big _ a1,big _ a2,big _ a3⟩
 refine wpAny_pyIter_zip z1 ⟨_,_,_,_,H1,rfl,I2,Ya8 _ _ _ _ _ _ l1 l2 l3 b1 b2 b3 ap,⟨z1,z2,⟨_,_,_,z3⟩,z4,z5,z6⟩,λd hd=>?_,q⟩;have hd':s1.heap.objs.size<=d:=by
  simp only [yo,yv,or_false] at hd;rcases hd with rfl|rfl|rfl|rfl|rfl|rfl <;> omega
 exact I1.fpOk hd' (I1.hok.fresh hd')
section
variable {K:PySem.W.Frag} {g:TG} {σ:St} {H:Hp}
theorem Jsi {l1 l2 l3 D:Addr} {b1 b2 b3:Bool} {xs ys us:List V} {tt:TT} {te:TE} {R:Hp->Prop} (Pv:Nat->St->Hp->Prop) (h0:Pv 0 σ H) (hl:∀i σ H,i<=xs.length->Pv i σ H->SqB K H l1 b1 xs/\SqB K H l2 b2 ys/\SqB K H l3 b3 us) (e1:xs.length<=ys.length) (e2:xs.length=us.length)
  (hs:∀i x y u σ H T,xs[i]?=some x->ys[i]?=some y->us[i]?=some u->Pv i σ H->H T=none->g (.ref T) σ (upd H T (.tup [x,y,u])) λσ3 H3=>tt σ3 H3 λb H4=>if b=true then te σ3 H4 (λv H5=>∃vs,H5 D=some (.lst vs)/\vs.length < sizeLine/\Pv (i+1) σ3 (upd H5 D (.lst (vs++ [v])))) else Pv (i+1) σ3 H4)
  (hd:∀σ H,Pv xs.length σ H->R H):
  ∃W:Nat->Nat->St->Hp->Prop,(∃m,W 0 m σ H)/\∀i m σ' H',W i m σ' H'->((Jwf K l1 l2 l3 b1 b2 b3).stop i H'/\R H')\/((Jwf K l1 l2 l3 b1 b2 b3).go i H'/\∃N:St->Hp->Prop,(∀σ2 H2,N σ2 H2->∃m',m' < m/\W (i+1) m' σ2 H2)/\
   ∀x H2,(Jwf K l1 l2 l3 b1 b2 b3).yld i H' x H2->g x σ' H2 λσ3 H3=>tt σ3 H3 λb H4=>if b=true then te σ3 H4 (λv H5=>∃vs,H5 D=some (.lst vs)/\vs.length < sizeLine/\N σ3 (upd H5 D (.lst (vs++ [v])))) else N σ3 H4):=by
 refine ⟨λi m σ H=>m=xs.length - i/\i<=xs.length/\Pv i σ H,⟨xs.length,by simp,yan _,h0⟩,?_⟩;rintro i m σ H ⟨rfl,hi,p⟩;obtain ⟨q1,q2,q3⟩:=hl i σ H hi p;by_cases hlt:i < xs.length
 ·refine .inr ⟨⟨xs,ys,us,q1,q2,q3,e1,e2,hlt⟩,Pv (i+1),λσ' H' p'=>⟨xs.length - (i+1),by omega,rfl,hlt,p'⟩,λx H' y=>?_⟩;obtain ⟨T,u,v,w',hT,rfl,hu,hv,hw,rfl⟩:=y;exact hs i u v w' σ _ T (hu xs q1) (hv ys q2) (hw us q3) p hT
 ·have e:i=xs.length:=by omega
  subst e;exact .inl ⟨⟨xs,ys,us,q1,q2,q3,e1,e2,rfl⟩,hd σ H p⟩
theorem Jr5 {l1 l2 l3 D:Addr} {b1 b2 b3:Bool} {xs ys us:List V} {tt:TT} {te:TE} {R:Hp->Prop} (Pv:Nat->St->Hp->Prop) (h0:Pv 0 σ H) (hl:∀i σ H,i<=xs.length->Pv i σ H->SqB K H l1 b1 xs/\SqB K H l2 b2 ys/\SqB K H l3 b3 us) (e1:xs.length=ys.length) (e2:xs.length=us.length)
  (hs:∀i x y u σ H T,xs[i]?=some x->ys[i]?=some y->us[i]?=some u->Pv i σ H->H T=none->g (.ref T) σ (upd H T (.tup [x,y,u])) λσ3 H3=>tt σ3 H3 λb H4=>if b=true then te σ3 H4 (λv H5=>∃vs,H5 D=some (.lst vs)/\vs.length < sizeLine/\Pv (i+1) σ3 (upd H5 D (.lst (vs++ [v])))) else Pv (i+1) σ3 H4)
  (hd:∀σ H,Pv xs.length σ H->R H):
  ∃W:Nat->Nat->St->Hp->Prop,(∃m,W 0 m σ H)/\∀i m σ' H',W i m σ' H'->((Jwf K l1 l2 l3 b1 b2 b3).stop i H'/\R H')\/((Jwf K l1 l2 l3 b1 b2 b3).go i H'/\∃N:St->Hp->Prop,(∀σ2 H2,N σ2 H2->∃m',m' < m/\W (i+1) m' σ2 H2)/\
   ∀x H2,(Jwf K l1 l2 l3 b1 b2 b3).yld i H' x H2->g x σ' H2 λσ3 H3=>tt σ3 H3 λb H4=>if b=true then te σ3 H4 (λv H5=>∃vs,H5 D=some (.lst vs)/\vs.length < sizeLine/\N σ3 (upd H5 D (.lst (vs++ [v])))) else N σ3 H4):=Jsi Pv h0 hl (ybx e1) e2 hs hd
theorem Jzd {a:Addr} {xs:List V} {tb:TS} {D:Ends} (Pv:Nat->St->Hp->Prop) (h0:Pv 0 σ H) (hl:∀i σ H,i<=xs.length->Pv i σ H->SqL K H a xs)
  (hs:∀i x σ H T,xs[i]?=some x->Pv i σ H->H T=none->g (.ref T) σ (upd H T (.tup [.int i,x])) λσ2 H2=>tb {D with nx:=Pv (i+1),ct:=Pv (i+1),bk:=D.nx} σ2 H2) (hd:∀σ H,Pv xs.length σ H->D.nx σ H):
  ∃W:Nat->Nat->St->Hp->Prop,(∃m,W 0 m σ H)/\∀i m σ H,W i m σ H->
   ((ItE K a).stop i H/\D.nx σ H)\/((ItE K a).go i H/\∃N:St->Hp->Prop,(∀σ' H',N σ' H'->∃m',m' < m/\W (i+1) m' σ' H')/\∀x H',(ItE K a).yld i H x H'->g x σ H' λσ2 H2=>tb {D with nx:=N,ct:=N,bk:=D.nx} σ2 H2):=by
 refine ⟨λi m σ H=>m=xs.length - i/\i<=xs.length/\Pv i σ H,⟨xs.length,by simp,yan _,h0⟩,?_⟩;rintro i m σ H ⟨rfl,hi,p⟩;have q:=hl i σ H hi p;by_cases hlt:i < xs.length
 ·refine .inr ⟨⟨xs,xs[i],q,by simp [hlt]⟩,Pv (i+1),λσ' H' p'=>⟨xs.length - (i+1),by omega,rfl,hlt,p'⟩,λx H' y=>?_⟩;obtain ⟨T,u,hT,rfl,hu,rfl⟩:=y;exact hs i u σ _ T (hu xs q) p hT
 ·have e:i=xs.length:=by omega
  subst e;exact .inl ⟨⟨xs,q,rfl⟩,hd σ H p⟩
theorem Jwq {a:Addr} {xs:List V} {tb:TS} {D:Ends} (Pv:Nat->St->Hp->Prop) (h0:Pv 0 σ H) (hl:∀i σ H,i<=xs.length->Pv i σ H->SqT K H a xs)
  (hs:∀i x σ H T,xs[i]?=some x->Pv i σ H->H T=none->g (.ref T) σ (upd H T (.tup [.int i,x])) λσ2 H2=>tb {D with nx:=Pv (i+1),ct:=Pv (i+1),bk:=D.nx} σ2 H2) (hd:∀σ H,Pv xs.length σ H->D.nx σ H):
  ∃W:Nat->Nat->St->Hp->Prop,(∃m,W 0 m σ H)/\∀i m σ H,W i m σ H->
   ((ItU K a).stop i H/\D.nx σ H)\/((ItU K a).go i H/\∃N:St->Hp->Prop,(∀σ' H',N σ' H'->∃m',m' < m/\W (i+1) m' σ' H')/\∀x H',(ItU K a).yld i H x H'->g x σ H' λσ2 H2=>tb {D with nx:=N,ct:=N,bk:=D.nx} σ2 H2):=by
 refine ⟨λi m σ H=>m=xs.length - i/\i<=xs.length/\Pv i σ H,⟨xs.length,by simp,yan _,h0⟩,?_⟩;rintro i m σ H ⟨rfl,hi,p⟩;have q:=hl i σ H hi p;by_cases hlt:i < xs.length
 ·refine .inr ⟨⟨xs,xs[i],q,by simp [hlt]⟩,Pv (i+1),λσ' H' p'=>⟨xs.length - (i+1),by omega,rfl,hlt,p'⟩,λx H' y=>?_⟩;obtain ⟨T,u,hT,rfl,hu,rfl⟩:=y;exact hs i u σ _ T (hu xs q) p hT
 ·have e:i=xs.length:=by omega
  subst e;exact .inl ⟨⟨xs,q,rfl⟩,hd σ H p⟩
end
end L2
namespace L2
open PySem PySem.Spec PyProof.Rows PySem.W
section
variable {X:Cx}
theorem Jyh {K:PySem.W.Frag} (h:X.K=K):OpR X (compareOp .In) (rIn K false):=by subst h;exact Yk
theorem Jm2 {K:PySem.W.Frag} {e:Expr} {f:Str} {ta:TE} {pos:Pos} (h:X.K=K) (he:PE X e ta) (hb:attributeBase e f X.env (eval e X.env)=eval e X.env):PE X (.Attribute e f pos) (tFld K ta f):=by subst h;exact Jky he hb
end
end L2
namespace L2
open PySem PySem.Spec PyProof.Rows PySem.W
section
variable {X:Cx} {pos:Pos}
theorem Jng {K:PySem.W.Frag} {es:List Expr} {k:Nat} {t:TGs} {n:Nat} (h1:X.K=K) (hc:X.calm=true) (h:PGs X es t)
  (hn:(assignEach es X.env).length=n:=by rfl) (hst:(assignEach es X.env).findIdx? (·.1)=none:=by rfl):PG X (.Tuple es k pos) (gTup K n t):=by
 subst h1;exact Jq7 hc h hn hst
end
section
variable {g:TG} {tt:TT} {te:TE} {H:Hp} {D:Addr} {σ:St} {R:Hp->Prop}
theorem Yam {K:PySem.W.Frag} {a:Addr} {xs:List V} (Pv:Nat->St->Hp->Prop) (h0:Pv 0 σ H) (hl:∀i σ H,i<=xs.length->Pv i σ H->SqT K H a xs)
  (hs:∀i x σ H,xs[i]?=some x->Pv i σ H->g x σ H λσ3 H3=>tt σ3 H3 λb H4=>if b=true then te σ3 H4 (λv H5=>∃ys,H5 D=some (.lst ys)/\ys.length < sizeLine/\Pv (i+1) σ3 (upd H5 D (.lst (ys++ [v])))) else Pv (i+1) σ3 H4)
  (hd:∀σ H,Pv xs.length σ H->R H):
  ∃W:Nat->Nat->St->Hp->Prop,(∃m,W 0 m σ H)/\∀i m σ' H',W i m σ' H'->((Itt K a).stop i H'/\R H')\/((Itt K a).go i H'/\∃N:St->Hp->Prop,(∀σ2 H2,N σ2 H2->∃m',m' < m/\W (i+1) m' σ2 H2)/\
   ∀x H2,(Itt K a).yld i H' x H2->g x σ' H2 λσ3 H3=>tt σ3 H3 λb H4=>if b=true then te σ3 H4 (λv H5=>∃ys,H5 D=some (.lst ys)/\ys.length < sizeLine/\N σ3 (upd H5 D (.lst (ys++ [v])))) else N σ3 H4):=by
 refine ⟨λi m σ H=>m=xs.length - i/\i<=xs.length/\Pv i σ H,⟨xs.length,by simp,yan _,h0⟩,?_⟩;rintro i m σ H ⟨rfl,hi,p⟩;have q:=hl i σ H hi p;by_cases hlt:i < xs.length
 ·refine .inr ⟨⟨xs,xs[i],q,by simp [hlt]⟩,Pv (i+1),λσ' H' p'=>⟨xs.length - (i+1),by omega,rfl,hlt,p'⟩,λx H' y=>?_⟩;obtain ⟨e,y⟩:=y;subst e;exact hs i x σ _ (y xs q) p
 ·have e:i=xs.length:=by omega
  subst e;exact .inl ⟨⟨xs,q,yi _⟩,hd σ H p⟩
end
theorem Jn2 {K:PySem.W.Frag} {a D:Addr} {xs:List V} {te:TE} {R:Hp->Prop} {H:Hp} {o:Option V} {rest:List (Option V)} (ys:List V) (hD:H D=none) (el:ys.length=xs.length) (sz:xs.length<=2000) (hq:H a=some (.lst xs))
  (he:∀(i:Nat) (x y:V) (H':Hp) (Q:VK),xs[i]?=some x->ys[i]?=some y->Same H H'->(∀H5,Same H' H5->Q y H5)->te (some x::rest) H' Q) (hd:∀H',Same H H'->H' D=some (.lst ys)->R H'):
  ∃W:Nat->Nat->St->Hp->Prop,(∃m,W 0 m (o::rest) (upd H D (.lst [])))/\∀i m σ' H',W i m σ' H'->((Itl K a).stop i H'/\R H')\/((Itl K a).go i H'/\∃N:St->Hp->Prop,(∀σ2 H2,N σ2 H2->∃m',m' < m/\W (i+1) m' σ2 H2)/\
   ∀x H2,(Itl K a).yld i H' x H2->Jnn 0 x σ' H2 λσ3 H3=>Ya3 σ3 H3 λb H4=>if b=true then te σ3 H4 (λv H5=>∃ys,H5 D=some (.lst ys)/\ys.length < sizeLine/\N σ3 (upd H5 D (.lst (ys++ [v])))) else N σ3 H4):=by
 refine Jlf (λi σ H'=>(∃o,σ=o::rest)/\H' D=some (.lst (ys.take i))/\Same H H') ⟨⟨_,rfl⟩,Jjq,Same.upd hD⟩ (λi σ H' _ ⟨_,_,sm⟩=>SqL.of (sm _ _ hq)) ?_ ?_
 ·rintro i x σ H' hx ⟨⟨o,rfl⟩,hDs,sm⟩;have hi:i < ys.length:=by rw [el];exact (yq.mp hx).1
  refine Jl1 (he i x ys[i] H' _ hx (yn hi) sm λH5 s5=>⟨_,s5 _ _ hDs,?_,⟨_,rfl⟩,?_,λc u z=>?_⟩)
  ·rw [yaj];exact Jkc (by omega)
  ·rw [Jjq,yao,yn hi];rfl
  ·rw [Jjx (Jjy z hD)];exact s5 _ _ (sm _ _ z)
 ·rintro σ H' ⟨_,hDs,sm⟩;rw [yak (by omega)] at hDs;exact hd H' sm hDs
theorem Jr4 {K:PySem.W.Frag} {a D:Addr} {xs:List V} {te:TE} {R:Hp->Prop} {H:Hp} {o:Option V} {rest:List (Option V)} (ys:List V) (hD:H D=none) (el:ys.length=xs.length) (sz:xs.length<=2000) (hq:H a=some (.tup xs))
  (he:∀(i:Nat) (x y:V) (H':Hp) (Q:VK),xs[i]?=some x->ys[i]?=some y->Same H H'->(∀H5,Same H' H5->Q y H5)->te (some x::rest) H' Q) (hd:∀H',Same H H'->H' D=some (.lst ys)->R H'):
  ∃W:Nat->Nat->St->Hp->Prop,(∃m,W 0 m (o::rest) (upd H D (.lst [])))/\∀i m σ' H',W i m σ' H'->((Itt K a).stop i H'/\R H')\/((Itt K a).go i H'/\∃N:St->Hp->Prop,(∀σ2 H2,N σ2 H2->∃m',m' < m/\W (i+1) m' σ2 H2)/\
   ∀x H2,(Itt K a).yld i H' x H2->Jnn 0 x σ' H2 λσ3 H3=>Ya3 σ3 H3 λb H4=>if b=true then te σ3 H4 (λv H5=>∃ys,H5 D=some (.lst ys)/\ys.length < sizeLine/\N σ3 (upd H5 D (.lst (ys++ [v])))) else N σ3 H4):=by
 refine Yam (λi σ H'=>(∃o,σ=o::rest)/\H' D=some (.lst (ys.take i))/\Same H H') ⟨⟨_,rfl⟩,Jjq,Same.upd hD⟩ (λi σ H' _ ⟨_,_,sm⟩=>SqT.of (sm _ _ hq)) ?_ ?_
 ·rintro i x σ H' hx ⟨⟨o,rfl⟩,hDs,sm⟩;have hi:i < ys.length:=by rw [el];exact (yq.mp hx).1
  refine Jl1 (he i x ys[i] H' _ hx (yn hi) sm λH5 s5=>⟨_,s5 _ _ hDs,?_,⟨_,rfl⟩,?_,λc u z=>?_⟩)
  ·rw [yaj];exact Jkc (by omega)
  ·rw [Jjq,yao,yn hi];rfl
  ·rw [Jjx (Jjy z hD)];exact s5 _ _ (sm _ _ z)
 ·rintro σ H' ⟨_,hDs,sm⟩;rw [yak (by omega)] at hDs;exact hd H' sm hDs
end L2
namespace L2
open PySem PySem.Spec PyProof.Rows PySem.W
section
variable {X:Cx}
end
end L2
namespace L2
open PySem PySem.Spec PyProof.Rows PySem.W
section
variable {X:Cx}
end
end L2
namespace L2
open PySem PySem.Spec PyProof.Rows PySem.W
end L2
namespace L2
open PySem PySem.Spec PyProof.Rows PySem.W
end L2
namespace L2
open PySem PySem.Spec PyProof.Rows PySem.W
structure Z4 (z TI TO i1 i2 i3 i4 l1 l2 l3 l4:Addr):Prop where
 nd: [z,TI,TO,i1,i2,i3,i4].Nodup
 m1:l1∉ [z,TI,TO,i1,i2,i3,i4]
 m2:l2∉ [z,TI,TO,i1,i2,i3,i4]
 m3:l3∉ [z,TI,TO,i1,i2,i3,i4]
 m4:l4∉ [z,TI,TO,i1,i2,i3,i4]
section
variable {prog:Program} {w:World} {A:Around} {E:Value->Shared->Prop} {s:Shared}
variable {z TI TO i1 i2 i3 i4 l1 l2 l3 l4:Addr} {n k:Nat} {P1 P2 P3 P4:Nat->Value->Prop} {S1 S2 S3 S4:Nat->Heap->Prop} {a b c d0:Value}
end
section
variable {prog:Program} {w:World} {z TI TO i1 i2 i3 i4 l1 l2 l3 l4:Addr} {n:Nat} {P1 P2 P3 P4:Nat->Value->Prop} {S1 S2 S3 S4:Nat->Heap->Prop}
end
end L2
namespace L2
open PySem PySem.Spec PyProof.Rows PySem.W
section
variable {prog:Program} {w:World} {A:Around} {E:Value->Shared->Prop} {s:Shared}
end
section
variable {K:PySem.W.Frag} {g:TG} {σ:St} {H:Hp}
end
end L2
namespace L2
open PySem PySem.Spec PyProof.Rows PySem.W
theorem Yo {X:Cx} {P:Program} {w:World} {K:PySem.W.Frag} {mg:Str->Option Value} {base:Heap} {o e:Expr} {es:List Expr} {m:Str} {ta:TE} {t:TA} {apos pos:Pos} {j:Nat} {pl:Sem Bool} (h1:X.prog=P) (h2:X.w=w) (h3:X.K=K) (h4:X.mg=mg) (h5:X.base=base) (he:PE X o ta) (hr:Room j X.A) (ha:PA X (e::es) t)
  (hst:starEach (e::es) X.env=(false,eval e X.env)::starEach es X.env:=by rfl) (hpl:(backTo pos (starEach es X.env)).any (·.1)=false:=by rfl)
  (ht:eval (.Call (.Attribute o m apos) (e::es) [] pos) X.env=(do
   let ov<-eval o X.env
   standAt apos.atName
   let (f,first)<-holding [ov] (getMethod ov m pl)
   callWith pos f first (backTo pos (starEach (e::es) X.env)) (backToKw pos (keywordEach [] X.env))):=by rfl):
  PE X (.Call (.Attribute o m apos) (e::es) [] pos) (Jyx P w K mg base j m ta t):=by
 subst h1 h2 h3 h4 h5;exact Jt4 (pl:=pl) he hr ha hst hpl ht
end L2
namespace L2
open PySem PySem.Spec PyProof.Rows PySem.W
end L2
namespace L2
open PySem PySem.Spec PyProof.Rows PySem.W
section
variable {X:Cx}
end
end L2
namespace L2
open PySem PySem.Spec PyProof.Rows PySem.W
section
variable {X:Cx}
end
end L2
namespace L2
open PySem PySem.Spec PyProof.Rows PySem.W
theorem ft_mk {K:PySem.W.Frag} {h:Heap} {mg:Str->Option Value} (X:K.In h) (G:h.Ns mainGlobals mg) {q:Str} {st:Stmt} {ps:List Str} {f:Addr} {od an:Option Addr} {sl:Array (Option Value)} {oc kV dc pm cd ct:Value} (a:PySem.W.nsIn K mainGlobals q=some (some (.ref f)))
  (l:K.lookup f=some ⟨oc,od,.func (PySem.W.fnOf q q (Jl0 st) (Jks st) (Jju st) .none kV dc pm an cd ct),sl⟩) (c:PySem.W.codeIn K cd q=true) (k:PySem.W.keepIn K (.ref f)=true)
  (hb:∀(kV doc pm:Value) (an:Option Addr) (cdv ct:Value) (us:List Value),us.length=ps.length->bindArgs (PySem.W.fnOf q q (Jl0 st) (Jks st) (Jju st) .none kV doc pm an cdv ct) ⟨us,[]⟩=pure (ps.zip us)):FT K mg q st ps f (PySem.W.fnOf q q (Jl0 st) (Jks st) (Jju st) .none kV dc pm an cd ct):=
 ⟨PySem.W.mg_of X G a,Jvf (st:=st) l c k,(Jvf (st:=st) l c k).binds hb⟩
theorem fm_mk {K:PySem.W.Frag} {n q:Str} {st:Stmt} {ps:List Str} {f:Addr} {od an:Option Addr} {sl:Array (Option Value)} {oc kV dc pm cd ct:Value}
  (l:K.lookup f=some ⟨oc,od,.func (PySem.W.fnOf n q (Jl0 st) (Jks st) (Jju st) .none kV dc pm an cd ct),sl⟩) (c:PySem.W.codeIn K cd q=true) (k:PySem.W.keepIn K (.ref f)=true)
  (hb:∀(kV doc pm:Value) (an:Option Addr) (cdv ct:Value) (us:List Value),us.length=ps.length->bindArgs (PySem.W.fnOf n q (Jl0 st) (Jks st) (Jju st) .none kV doc pm an cdv ct) ⟨us,[]⟩=pure (ps.zip us)):FM K n q st ps f (PySem.W.fnOf n q (Jl0 st) (Jks st) (Jju st) .none kV dc pm an cd ct):=
 ⟨Jvf (st:=st) l c k,(Jvf (st:=st) l c k).binds hb⟩
theorem xc_mk {K:PySem.W.Frag} {C W fI:Addr} {nm q:Str} {N:Addr} {bs:List Value} {sn:List Str} {sub:List Value} {ab:Bool} {col:Option Bool} {dd:Option Addr} {u v w x y:Option Value}
  (l:K.lookup C=some (excClassObj nm q C N bs (.ref W::VEm) true sn sub ab col dd u v w x y "ValueError.__new__")) (t:PySem.W.tailIn K VEm (.ref W::VEm)=true) (a:xcB K C fI=true):XCls K C W fI:=⟨⟨_,_,_,_,_,_,_,_,_,_,_,_,_,_,l⟩,t,a⟩
theorem ec_mk {K:PySem.W.Frag} {C:Addr} {dd:Option Addr} {cl:ClassData} {s:Array (Option Value)} (l:K.lookup C=some ⟨.type "type",dd,.cls cl,s⟩) (m:PySem.W.mroIn K C (.type "BaseException")=some true):Jzt K C:=⟨⟨_,_,_,l⟩,m⟩
end L2
namespace L2
open PySem PySem.Spec PyProof.Rows PySem.W
section
variable {K:PySem.W.Frag} {g:TG} {σ:St} {H:Hp}
theorem Yak {a D:Addr} {xs:List V} {tt:TT} {te:TE} {R:Hp->Prop} (Pv:Nat->St->Hp->Prop) (h0:Pv 0 σ H) (hl:∀i σ H,i<=xs.length->Pv i σ H->SqL K H a xs)
  (hs:∀i x σ H T,xs[i]?=some x->Pv i σ H->H T=none->g (.ref T) σ (upd H T (.tup [.int i,x])) λσ3 H3=>tt σ3 H3 λb H4=>if b=true then te σ3 H4 (λv H5=>∃vs,H5 D=some (.lst vs)/\vs.length < sizeLine/\Pv (i+1) σ3 (upd H5 D (.lst (vs++ [v])))) else Pv (i+1) σ3 H4)
  (hd:∀σ H,Pv xs.length σ H->R H):
  ∃W:Nat->Nat->St->Hp->Prop,(∃m,W 0 m σ H)/\∀i m σ' H',W i m σ' H'->((ItE K a).stop i H'/\R H')\/((ItE K a).go i H'/\∃N:St->Hp->Prop,(∀σ2 H2,N σ2 H2->∃m',m' < m/\W (i+1) m' σ2 H2)/\
   ∀x H2,(ItE K a).yld i H' x H2->g x σ' H2 λσ3 H3=>tt σ3 H3 λb H4=>if b=true then te σ3 H4 (λv H5=>∃vs,H5 D=some (.lst vs)/\vs.length < sizeLine/\N σ3 (upd H5 D (.lst (vs++ [v])))) else N σ3 H4):=by
 refine ⟨λi m σ H=>m=xs.length - i/\i<=xs.length/\Pv i σ H,⟨xs.length,by simp,yan _,h0⟩,?_⟩;rintro i m σ H ⟨rfl,hi,p⟩;have q:=hl i σ H hi p;by_cases hlt:i < xs.length
 ·refine .inr ⟨⟨xs,xs[i],q,by simp [hlt]⟩,Pv (i+1),λσ' H' p'=>⟨xs.length - (i+1),by omega,rfl,hlt,p'⟩,λx H' y=>?_⟩;obtain ⟨T,u,hT,rfl,hu,rfl⟩:=y;exact hs i u σ _ T (hu xs q) p hT
 ·have e:i=xs.length:=by omega
  subst e;exact .inl ⟨⟨xs,q,rfl⟩,hd σ H p⟩
end
end L2
namespace L2
open PySem PySem.Spec PyProof.Rows PySem.W
noncomputable abbrev Jm8 (h:Heap) (T:Addr) (a b:Value):Prop:=h.get? T=some {cls:=.type "tuple",data:=.seq #[a,b]}
structure Z2 (z TI TO i1 i2 l1 l2:Addr):Prop where
 nd: [z,TI,TO,i1,i2].Nodup
 m1:l1∉ [z,TI,TO,i1,i2]
 m2:l2∉ [z,TI,TO,i1,i2]
section
variable {prog:Program} {w:World} {A:Around} {E:Value->Shared->Prop} {s:Shared}
theorem Ycl {T:Addr} {a b x:Value} {k:Nat} {Q:Unit->Shared->Prop} (hT:Jm8 s.heap T a b)
  (h:∀h',h'.get? T=some {cls:=.type "tuple",data:=.seq ((#[a,b]:Array Value).setIfInBounds k x)}->yam T s.heap h'->Q () {s with heap:=h'}):wpAny (model prog w) A (updateSeq T (·.setIfInBounds k x)) Q E s:=by
 refine wpAny_updateSeq hT rfl (h _ ?_ (yam.update ..));rw [ybj _ hT rfl];simp [Obj.mapSeq]
variable {z TI TO i1 i2 l1 l2:Addr} {n k:Nat} {P1 P2:Nat->Value->Prop} {S1 S2:Nat->Heap->Prop} {a b:Value}
theorem Yel {Q:Value->Shared->Prop} (Z:Z2 z TI TO i1 i2 l1 l2) (hz:IsZip s.heap z TI TO .none) (hTI:Jm8 s.heap TI (.ref i1) (.ref i2)) (hTO:Jm8 s.heap TO a b)
  (hh:A.handled=none) (D1:DrA prog w i1 l1 n P1 S1) (D2:DrA prog w i2 l2 n P2 S2) (hk:k < n) (t1:S1 k s.heap) (t2:S2 k s.heap)
  (hQ:∀x y h' tk,P1 k x->P2 k y->IsZip h' z TI TO (rawInt s.heap.objs.size)->Jm8 h' TO x y->S1 (k+1) h'->S2 (k+1) h'->Jm8 h' s.heap.objs.size x y->
   (∀d o,d≠z->d≠TO->d≠i1->d≠i2->s.heap.get? d=some o->h'.get? d=some o)->Q (.ref s.heap.objs.size) {s with heap:=h',toks:=tk}):
  wpAny (model prog w) A (Builtin.«zip.__next__» ⟨[.ref z],[]⟩) (λfin s'=>∃v,fin= .done (.ret v)/\Q v s') E s:=by
 obtain ⟨nd,m1,m2⟩:=Z;simp only [yba,yo,yv,or_false,not_or,ybl,and_true,not_false_eq_true] at nd m1 m2;obtain ⟨⟨zTI,zTO,z1,z2⟩,⟨TITO,TI1,TI2⟩,⟨TO1,TO2⟩,n12⟩:=nd;obtain ⟨l1z,l1TI,l1TO,l11,l12⟩:=m1;obtain ⟨l2z,l2TI,l2TO,l21,l22⟩:=m2;have fr:∀{S:Nat->Heap->Prop} {P:Nat->Value->Prop} {i l b:Addr} {m:Nat} {h h':Heap},DrA prog w i l n P S->i≠b->l≠b->yam b h h'->S m h->S m h':=λD e1 e2 sb st=>
  (D A hh).frame _ _ _ st λd hd o e=>by
   simp only [yo,yv,or_false] at hd;rcases hd with rfl|rfl
   ·exact sb.extBut _ _ e1 e
   ·exact sb.extBut _ _ e2 e
 show wpAny _ _ (field (.ref z) 2 >>=_) _ _ _;refine wpAny_bind (wpAny_field hz rfl (x:=.bool false) rfl ?_);refine wpAny_bind (m:=field (.ref z) 3) (wpAny_field hz rfl (x:=.ref TI) rfl ?_);refine wpAny_bind (wpAny_seqItems hTI rfl ?_);refine wpAny_bind (m:=Builtin.SmallTypes.ownedTupleIsFree (.ref z)) ?_;unfold Builtin.SmallTypes.ownedTupleIsFree;refine wpAny_bind (wpAny_field hz rfl (x:=.none) rfl (wpAny_pure ?_));simp only [if_true];refine wpAny_bind (wpAny_rule (wpAny_bind (wpAny_field hz rfl (x:=.ref TO) rfl (wpAny_bind (wpAny_setField_rec hz (by simp) λh1 hz1 s1=>?_)))));replace hz1:IsZip h1 z TI TO .ellipsis:=hz1;refine wpAny_bind ?_;simp only [List.zipIdx_cons,List.zipIdx_nil,yce,List.forIn_nil];refine wpAny_bind (wpAny_bind (wpAny_onRaise ?_));refine wpAny_bind (m:=Builtin.SmallTypes.nextOf (.ref i1)) ((D1 A hh).item k _ _ _ hk (fr D1 (yk z1) l1z s1 t1) λx h2 k2 px u1 s2=>wpAny_pure ?_);have o2:Jm8 h2 TO a b:=s2.extBut _ _ TO1 (s1.extBut _ _ (yk zTO) hTO);refine wpAny_bind (wpAny_seqItems o2 rfl (wpAny_bind (Ycl o2 λh3 o3 s3=>wpAny_bind (wpAny_letGo (wpAny_pure ?_)))));replace o3:Jm8 h3 TO x b:=o3;refine wpAny_bind (wpAny_bind (wpAny_onRaise ?_));refine wpAny_bind (m:=Builtin.SmallTypes.nextOf (.ref i2)) ((D2 A hh).item k _ _ _ hk (fr D2 (yk TO2) l2TO s3 (fr D2 (yk n12) l21 s2 (fr D2 (yk z2) l2z s1 t2))) λy h4 k4 py u2 s4=>wpAny_pure ?_);have o4:Jm8 h4 TO x b:=s4.extBut _ _ TO2 o3;refine wpAny_bind (wpAny_seqItems o4 rfl (wpAny_bind (Ycl o4 λh5 o5 s5=>wpAny_bind (wpAny_letGo (wpAny_pure (wpAny_pure ?_))))));replace o5:Jm8 h5 TO x y:=o5;refine wpAny_bind (wpAny_seqItems o5 rfl (wpAny_bind (wpAny_newTuple ?_)));have sz:h5.objs.size=s.heap.objs.size:=by rw [s5.1,s4.1,s3.1,s2.1,s1.1]
 have zz:IsZip h5 z TI TO .ellipsis:=s5.extBut _ _ zTO (s4.extBut _ _ z2 (s3.extBut _ _ zTO (s2.extBut _ _ z1 hz1)));have kk:∀d o,d≠z->d≠TO->d≠i1->d≠i2->s.heap.get? d=some o->h5.get? d=some o:=λd o c1 c2 c3 c4 e=>
  s5.extBut _ _ c2 (s4.extBut _ _ c4 (s3.extBut _ _ c2 (s2.extBut _ _ c3 (s1.extBut _ _ c1 e))))
 have w1:S1 (k+1) h5:=fr D1 (yk TO1) l1TO s5 (fr D1 n12 l12 s4 (fr D1 (yk TO1) l1TO s3 u1));have w2:S2 (k+1) h5:=fr D2 (yk TO2) l2TO s5 u2;have zlt:z < h5.objs.size:=yg zz;refine wpAny_bind (m:=Builtin.SmallTypes.ownedTupleHandOut (.ref z) (.ref h5.objs.size)) ?_;unfold Builtin.SmallTypes.ownedTupleHandOut;have zp:IsZip (h5.push {cls:=.type "tuple",data:=.seq #[x,y]}) z TI TO .ellipsis:=yj _ zz;refine wpAny_bind (wpAny_setField_rec zp (by simp) λh8 hz8 s8=>?_);replace hz8:IsZip h8 z TI TO (rawInt h5.objs.size):=hz8;refine wpAny_setField_rec hz8 (by simp) λh9 hz9 s9=>?_;replace hz9:IsZip h9 z TI TO (rawInt h5.objs.size):=hz9;have up:∀d o,d≠z->h5.get? d=some o->h9.get? d=some o:=λd o c1 e=>s9.extBut _ _ c1 (s8.extBut _ _ c1 (yj _ e));have nw:Jm8 h9 h5.objs.size x y:=s9.extBut _ _ (yaw zlt) (s8.extBut _ _ (yaw zlt) (yp _ rfl));have fz:∀{S:Nat->Heap->Prop} {P:Nat->Value->Prop} {i l:Addr} {m:Nat},DrA prog w i l n P S->i≠z->l≠z->S m h5->S m h9:=λD e1 e2 st=>(D A hh).frame _ _ _ st λd hd o e=>by
  simp only [yo,yv,or_false] at hd;rcases hd with rfl|rfl
  ·exact up _ _ e1 e
  ·exact up _ _ e2 e
 rw [sz] at hz9 nw;refine wpAny_pure ⟨_,rfl,?_⟩;show Q (.ref h5.objs.size) _;rw [sz];exact hQ x y h9 _ px py hz9 (up _ _ (yk zTO) o5) (fz D1 (yk z1) l1z w1) (fz D2 (yk z2) l2z w2) nw λd o c1 c2 c3 c4 e=>up d o c1 (kk d o c1 c2 c3 c4 e)
theorem z2_end {Q:Fin->Shared->Prop} (Z:Z2 z TI TO i1 i2 l1 l2) (hz:IsZip s.heap z TI TO .none) (hTI:Jm8 s.heap TI (.ref i1) (.ref i2))
  (hh:A.handled=none) (D1:DrA prog w i1 l1 n P1 S1) (t1:S1 n s.heap)
  (hE:∀h' e,(∀d o,d≠z->d≠i1->s.heap.get? d=some o->h'.get? d=some o)->(∃o,h'.get? e=some o/\o.cls= .type "StopIteration")->E (.ref e) {s with heap:=h'}):
  wpAny (model prog w) A (Builtin.«zip.__next__» ⟨[.ref z],[]⟩) Q E s:=by
 obtain ⟨nd,m1,_⟩:=Z;simp only [yba,yo,yv,or_false,not_or,ybl,and_true,not_false_eq_true] at nd m1;obtain ⟨⟨zTI,zTO,z1,z2⟩,_⟩:=nd;obtain ⟨l1z,l1TI,l1TO,l11,l12⟩:=m1;show wpAny _ _ (field (.ref z) 2 >>=_) _ _ _;refine wpAny_bind (wpAny_field hz rfl (x:=.bool false) rfl ?_);refine wpAny_bind (m:=field (.ref z) 3) (wpAny_field hz rfl (x:=.ref TI) rfl ?_);refine wpAny_bind (wpAny_seqItems hTI rfl ?_);refine wpAny_bind (m:=Builtin.SmallTypes.ownedTupleIsFree (.ref z)) ?_;unfold Builtin.SmallTypes.ownedTupleIsFree;refine wpAny_bind (wpAny_field hz rfl (x:=.none) rfl (wpAny_pure ?_));simp only [if_true];refine wpAny_bind (wpAny_rule (wpAny_bind (wpAny_field hz rfl (x:=.ref TO) rfl (wpAny_bind (wpAny_setField_rec hz (by simp) λh1 hz1 s1=>?_)))));replace hz1:IsZip h1 z TI TO .ellipsis:=hz1;refine wpAny_bind ?_;simp only [List.zipIdx_cons,List.zipIdx_nil,yce,List.forIn_nil];refine wpAny_bind (wpAny_bind (wpAny_onRaise ?_));refine wpAny_bind (m:=Builtin.SmallTypes.nextOf (.ref i1)) ((D1 A hh).done _ _ _ ((D1 A hh).frame _ _ _ t1 λd hd o e=>?_) λh2 e s2 he=>?_)
 ·simp only [yo,yv,or_false] at hd;rcases hd with rfl|rfl
  ·exact s1.extBut _ _ (yk z1) e
  ·exact s1.extBut _ _ l1z e
 ·obtain ⟨oe,hoe,hce⟩:=he;have hz2:IsZip h2 z TI TO .ellipsis:=s2 _ _ z1 hz1;have ez:e≠z:=λq=>by subst q;rw [hz2] at hoe;cases hoe;simp at hce
  exact wpAny_setField_rec hz2 (by simp) λh3 _ s3=>hE h3 e (λd o c1 c2 q=>s3.extBut _ _ c1 (s2 _ _ c2 (s1.extBut _ _ c1 q))) ⟨oe,s3.extBut _ _ ez hoe,hce⟩
end
noncomputable def Z2St (z TI TO i1 i2:Addr) (S1 S2:Nat->Heap->Prop) (i:Nat) (h:Heap):Prop:=IsZip h z TI TO .none/\Jm8 h TI (.ref i1) (.ref i2)/\(∃a b,Jm8 h TO a b)/\S1 i h/\S2 i h
section
variable {prog:Program} {w:World} {z TI TO i1 i2 l1 l2:Addr} {n:Nat} {P1 P2:Nat->Value->Prop} {S1 S2:Nat->Heap->Prop}
theorem Ycn {A:Around} (hh:A.handled=none) (Z:Z2 z TI TO i1 i2 l1 l2) (D1:DrA prog w i1 l1 n P1 S1) (D2:DrA prog w i2 l2 n P2 S2):
  WalksT prog w A z [z,TI,TO,i1,i2,l1,l2] [z,TO,i1,i2] n (λi vals=>∃x y,P1 i x/\P2 i y/\vals= #[x,y]) (Z2St z TI TO i1 i2 S1 S2)
   (λi T h=>IsZip h z TI TO (rawInt T)/\Jm8 h TI (.ref i1) (.ref i2)/\(∃a b,Jm8 h TO a b)/\S1 (i+1) h/\S2 (i+1) h/\T∉ [z,TO,i1,i2]) where
 sub:=λc hc=>by simp at hc⊢;rcases hc with rfl|rfl|rfl|rfl <;> simp
 frame:=λi h h' hst hk=>by
  obtain ⟨hz,hTI,⟨a,b,hTO⟩,h1,h2⟩:=hst;exact ⟨hk z (by simp) _ hz,hk TI (by simp) _ hTI,⟨a,b,hk TO (by simp) _ hTO⟩,(D1 A hh).frame _ _ _ h1 λd hd o e=>hk d (by simp at hd;rcases hd with rfl|rfl <;> simp) o e,
   (D2 A hh).frame _ _ _ h2 λd hd o e=>hk d (by simp at hd;rcases hd with rfl|rfl <;> simp) o e⟩
 item:=λi s Q E hi hst hQ=>by
  obtain ⟨hz,hTI,⟨a,b,hTO⟩,h1,h2⟩:=hst;have hT:s.TypeIs (.ref z) "zip" :=⟨_,hz,rfl⟩;have nd:=Z.nd;simp only [yba,yo,yv,or_false,not_or,ybl,and_true,not_false_eq_true] at nd;obtain ⟨⟨zTI,_⟩,⟨TITO,TI1,TI2⟩,_⟩:=nd;obtain ⟨e1,g1⟩:=(D1 A hh).live _ _ h1;obtain ⟨e2,g2⟩:=(D2 A hh).live _ _ h2;unfold pyNext;refine wpAny_bind (wpAny_attempt (wpAny_callSpecial?_slot (name:=Str.ofString "__next__") hT F.slot_zip_next (wpAny_call_entry F.slot_zip_next hT F.entry_zip_next
   (Yel (A:=A.in1) Z hz hTI hTO hh D1 D2 hi h1 h2 λx y h' tk px py a1 a2 a3 a4 a6 hk=>wpAny_pure ?_) (F.args_zip_next_1 _))))
  refine hQ s.heap.objs.size #[x,y] h' tk ⟨x,y,px,py,rfl⟩ (yi _) ⟨_,a6,rfl,_,rfl⟩ ⟨a1,hk _ _ (yk zTI) TITO TI1 TI2 hTI,⟨_,_,a2⟩,a3,a4,?_⟩ λd o hd e=>hk d o (λq=>hd (by simp [q])) (λq=>hd (by simp [q])) (λq=>hd (by simp [q])) (λq=>hd (by simp [q])) e;have lt:∀{d o},s.heap.get? d=some o->s.heap.objs.size≠d:=λe=>yaw (yg e);simp only [yo,yv,or_false,not_or];exact ⟨lt hz,lt hTO,lt g1,lt g2⟩
 go:=λelts k pos i T s Q E hm hQ=>by
  obtain ⟨hz,hTI,⟨a,b,hTO⟩,h1,h2,_⟩:=hm;have nd:=Z.nd;have m1:=Z.m1;have m2:=Z.m2;simp only [yba,yo,yv,or_false,not_or,ybl,and_true,not_false_eq_true] at nd m1 m2;obtain ⟨⟨zTI,zTO,z1,z2⟩,_⟩:=nd;have fz:∀{S:Nat->Heap->Prop} {P:Nat->Value->Prop} {j l:Addr} {m:Nat} {h':Heap},DrA prog w j l n P S->j≠z->l≠z->yam z s.heap h'->S m s.heap->S m h':=λD e1 e2 sb st=>(D A hh).frame _ _ _ st λd hd o e=>by
   simp only [yo,yv,or_false] at hd;rcases hd with rfl|rfl
   ·exact sb.extBut _ _ e1 e
   ·exact sb.extBut _ _ e2 e
  exact wpAny_letOwnedTupleGo_zip hz λh' hz' sb=>hQ h' ⟨hz',sb.extBut _ _ (yk zTI) hTI,⟨a,b,sb.extBut _ _ (yk zTO) hTO⟩,fz D1 (yk z1) m1.1 sb h1,fz D2 (yk z2) m2.1 sb h2⟩ λd o hd e=>sb.extBut _ _ (λq=>hd (by simp [q])) e
 apart:=λi T h hm hT=>hm.2.2.2.2.2 hT
 done:=λs Q E hst hQ=>by
  obtain ⟨hz,hTI,_,h1,h2⟩:=hst;have hT:s.TypeIs (.ref z) "zip" :=⟨_,hz,rfl⟩;unfold pyNext;refine wpAny_bind (wpAny_attempt (wpAny_callSpecial?_slot (name:=Str.ofString "__next__") hT F.slot_zip_next (wpAny_call_entry F.slot_zip_next hT F.entry_zip_next
   (z2_end (A:=A.in1) Z hz hTI hh D1 h1 λh' e hk he=>?_) (F.args_zip_next_1 _))))
  obtain ⟨o,ho,hc⟩:=he;refine wpAny_bind (wpAny_isInstance (T:="StopIteration") (b:=true) ⟨o,ho,hc⟩ isSubtype_stop (wpAny_pure ?_));exact hQ h' s.toks λd o' hd e'=>hk d o' (λq=>hd (by simp [q])) (λq=>hd (by simp [q])) e'
 self:=λi s Q E hst hQ=>wpAny_pyIter_zip hst.1 hQ
end
noncomputable abbrev xD (h:Heap) (l1 l2:Addr) (b1 b2:Bool):Heap:=(zB h l1 l2 b1 b2).push {cls:=.type "tuple",data:=.seq #[.ref h.objs.size,.ref (zA h l1 b1).objs.size]}
noncomputable abbrev xE (h:Heap) (l1 l2:Addr) (b1 b2:Bool):Heap:=(xD h l1 l2 b1 b2).push {cls:=.type "tuple",data:=.seq #[.none,.none]}
noncomputable abbrev xF (h:Heap) (l1 l2:Addr) (b1 b2:Bool):Heap:=(xE h l1 l2 b1 b2).push {cls:=.type "zip",data:=.fields #[.none,.bool false,.bool false,.ref (zB h l1 l2 b1 b2).objs.size,.ref (xD h l1 l2 b1 b2).objs.size]}
set_option maxRecDepth 100000 in
set_option maxHeartbeats 2000000 in
theorem Ycu (l1 l2:Addr) (b1 b2:Bool) (xs ys:Array Value):
  Meets (Builtin.«zip.__new__» ⟨[.type "zip",.ref l1,.ref l2],[]⟩) (λ_ R s=>IsB s.heap l1 b1 xs/\IsB s.heap l2 b2 ys/\
   R (.ok (.ret (.ref (xE s.heap l1 l2 b1 b2).objs.size))) {s with heap:=xF s.heap l1 l2 b1 b2}):=
 .of_wp λprog w A R s h=>by
  obtain ⟨hp,g,d,tk,os⟩:=s;obtain ⟨hl1,hl2,h⟩:=h;have e0:=sub_zip;have e1:IsB (Shared.heap ⟨hp,g,d,tk,os⟩) l1 b1 xs:=hl1;have e2:IsB (Shared.heap ⟨hp.push (itO l1 b1),g,d,tk,os⟩) l2 b2 ys:=IsB.push hl2 _
  wp_walk using Jwt e1,Jwt e2
  exact ⟨_,rfl,h⟩
theorem Js4 (a b:Value):checkTypeCall "zip" ⟨[a,b],[]⟩=pure ():=by kernel_rfl
theorem Jsu (a b:Value):checkBuiltinCall "zip.__new__" ⟨[.type "zip",a,b],[]⟩=pure ():=by kernel_rfl
theorem Jv9 (a b c:Value):argsOk "object.__init__" ⟨[a,b,c],[]⟩:=by
 unfold argsOk;rw [signature?_of (id:="object.__init__") (n:=['_','_','t','i','n','i','_','_']) (o:=['t','c','e','j','b','o']) (by kernel_rfl) F.owner_object];kernel_rfl
section
variable {prog:Program} {w:World} {A:Around} {E:Value->Shared->Prop} {s:Shared}
theorem Jzx {l1 l2:Addr} {b1 b2:Bool} {xs ys:Array Value} {Q:Value->Shared->Prop} (h1:IsB s.heap l1 b1 xs) (h2:IsB s.heap l2 b2 ys)
  (h:∀h',IsZip h' (s.heap.objs.size+4) (s.heap.objs.size+2) (s.heap.objs.size+3) .none->Jm8 h' (s.heap.objs.size+2) (.ref s.heap.objs.size) (.ref (s.heap.objs.size+1))->
   Jm8 h' (s.heap.objs.size+3) .none .none->IS s.heap.objs.size l1 b1 0 h'->IS (s.heap.objs.size+1) l2 b2 0 h'->
   (∀c o,s.heap.get? c=some o->h'.get? c=some o)->Q (.ref (s.heap.objs.size+4)) {s with heap:=h'}):
  wpAny (model prog w) A (call (.type "zip") [.ref l1,.ref l2]) Q E s:=by
 refine callType_new F.called_zip (by decide) (Js4 _ _) (Jsu _ _) (λobj=>Jv9 obj _ _) F.entry_zip_new (Ycu l1 l2 b1 b2 xs ys) ⟨h1,h2,?_⟩;have z1:(zA s.heap l1 b1).objs.size=s.heap.objs.size+1:=yad ..;have z2:(zB s.heap l1 l2 b1 b2).objs.size=s.heap.objs.size+2:=by rw [yad,z1]
 have z3:(xD s.heap l1 l2 b1 b2).objs.size=s.heap.objs.size+3:=by rw [yad,z2]
 have z4:(xE s.heap l1 l2 b1 b2).objs.size=s.heap.objs.size+4:=by rw [yad,z3]
 have p:∀{h:Heap} {c:Addr} {o q:Obj},h.get? c=some o->(h.push q).get? c=some o:=λe=>yj _ e;have g5:(xF s.heap l1 l2 b1 b2).get? (xE s.heap l1 l2 b1 b2).objs.size=some _:=yp _ rfl;have g4:(xF s.heap l1 l2 b1 b2).get? (xD s.heap l1 l2 b1 b2).objs.size=some _:=p (yp _ rfl);have g3:(xF s.heap l1 l2 b1 b2).get? (zB s.heap l1 l2 b1 b2).objs.size=some _:=p (p (yp _ rfl));have fr:∀(l:Addr) (b:Bool),(itO l b).isFreed=false:=λl b=>by cases b <;> rfl
 have g2:(xF s.heap l1 l2 b1 b2).get? (zA s.heap l1 b1).objs.size=some (itO l2 b2):=p (p (p (yp _ (fr _ _))));have g1:(xF s.heap l1 l2 b1 b2).get? s.heap.objs.size=some (itO l1 b1):=p (p (p (p (yp _ (fr _ _)))));have is:∀{it l:Addr} {b:Bool} {h:Heap},h.get? it=some (itO l b)->IS it l b 0 h:=λ{it l b h} e=>by
  cases b
  ·exact ⟨_,e,rfl,rfl⟩
  ·exact ⟨_,e,rfl,rfl⟩
 show _/\_;rw [z2,z3,z4] at g5;rw [z1,z2] at g3;rw [z3] at g4;rw [z1] at g2;rw [z4];exact ⟨⟨_,g5,rfl⟩,h _ g5 g3 g4 (is g1) (is g2) λc o x=>p (p (p (p (p x))))⟩
end
noncomputable def Jwe (K:PySem.W.Frag) (l1 l2:Addr) (b1 b2:Bool):It:=
 ⟨λi H=>∃xs ys,SqB K H l1 b1 xs/\SqB K H l2 b2 ys/\xs.length=ys.length/\i < xs.length,
  λi H x H'=>∃T p q,H T=none/\x= .ref T/\(∀xs,SqB K H l1 b1 xs->xs[i]?=some p)/\(∀ys,SqB K H l2 b2 ys->ys[i]?=some q)/\H'=upd H T (.tup [p,q]),
  λi H=>∃xs ys,SqB K H l1 b1 xs/\SqB K H l2 b2 ys/\xs.length=ys.length/\i=xs.length⟩
noncomputable def Z2T (z TI TO i1 i2 l1 l2:Addr) (b1 b2:Bool) (i:Nat) (h:Heap):Prop:=IsZip h z TI TO .none/\Jm8 h TI (.ref i1) (.ref i2)/\(∃a b,Jm8 h TO a b)/\IS i1 l1 b1 i h/\IS i2 l2 b2 i h
theorem Z2T.obj {z TI TO i1 i2 l1 l2:Addr} {b1 b2:Bool} {i:Nat} {h:Heap} (st:Z2T z TI TO i1 i2 l1 l2 b1 b2 i h):∀b∈ [z,TI,TO,i1,i2],∃o,h.get? b=some o/\∀v,o.data≠ .cell v:=λb hb=>by
 obtain ⟨h1,h2,⟨x,y,h3⟩,h4,h5⟩:=st;simp only [yo,yv,or_false] at hb;rcases hb with rfl|rfl|rfl|rfl|rfl
 ·exact ⟨_,h1,λv z=>by cases z⟩
 ·exact ⟨_,h2,λv z=>by cases z⟩
 ·exact ⟨_,h3,λv z=>by cases z⟩
 ·exact h4.obj
 ·exact h5.obj
theorem Z2.ne {z TI TO i1 i2 l1 l2:Addr} (Z:Z2 z TI TO i1 i2 l1 l2):l1≠i1/\l2≠i2:=by
 obtain ⟨_,m1,m2⟩:=Z;simp only [yo,yv,or_false,not_or] at m1 m2;exact ⟨m1.2.2.2.1,m2.2.2.2.2⟩
theorem Ya7 {P:Program} {w:World} {K:PySem.W.Frag} {elts:List Expr} {kt:Nat} {pt:Pos} (z TI TO i1 i2 l1 l2:Addr) (b1 b2:Bool) (Z:Z2 z TI TO i1 i2 l1 l2):
  Jqz P w K (.Tuple elts kt pt) (Jwe K l1 l2 b1 b2) [z,TI,TO,i1,i2] z (Z2T z TI TO i1 i2 l1 l2 b1 b2) where
 mem:=by simp
 obj:=λi h st=>st.obj
 keep:=λi h h' st k=>by
  obtain ⟨h1,h2,⟨a,c,h3⟩,h4,h5⟩:=st;exact ⟨k z (by simp) _ h1,k TI (by simp) _ h2,⟨a,c,k TO (by simp) _ h3⟩,h4.at λo e=>k i1 (by simp) o e,h5.at λo e=>k i2 (by simp) o e⟩
 item:=by
  intro X hP hw hK hc i pins s σ H E I hf st hg;subst hP hw hK;obtain ⟨xs,ys,q1,q2,e12,hi⟩:=hg;obtain ⟨its,rv,p1⟩:=I.seqB q1;obtain ⟨jts,rv2,p2⟩:=I.seqB q2;have a1:=rv.length;have a2:=rv2.length;obtain ⟨n1,n2⟩:=Z.ne;have D1:=drA (prog:=X.prog) (w:=X.w) b1 n1 its.toArray;have D2:=drA (prog:=X.prog) (w:=X.w) b2 n2 jts.toArray;rw [show jts.toArray.size=its.toArray.size by simp only [yu];omega] at D2;have W:=Ycn (I.ok.hd hc) Z D1 D2;have st0:=st;obtain ⟨s1,s2,s3,s4,s5⟩:=st;refine W.item i s _ _ (by simp only [yu];omega) ⟨s1,s2,s3,⟨s4,p1⟩,⟨s5,p2⟩⟩ λT vals h' tk hP fT tT mid kk=>?_;refine ⟨_,rfl,W.go elts kt pt i T _ _ _ mid λh'' st'' kk2=>?_⟩;obtain ⟨x,y,hx,hy,rfl⟩:=hP;obtain ⟨u1,hu1,r1⟩:=rv.get (i:=i) (x:=xs[i]) (yn hi);obtain ⟨u2,hu2,r2⟩:=rv2.get (i:=i) (x:=ys[i]'(by omega)) (yn (by omega));obtain rfl:x=u1:=by simpa [hu1] using hx.symm
  obtain rfl:y=u2:=by simpa [hu2] using hy.symm
  obtain ⟨t1,t2,t3,t4,t5⟩:=st'';have kT:h''.IsTuple T #[x,y]:=by
   obtain ⟨o,q,r⟩:=tT;exact ⟨o,kk2 T o (W.apart i T h' mid) q,r⟩
  have cht:∀c,c∈ [z,TO,i1,i2]->c∈ [z,TI,TO,i1,i2]:=λc hc=>by simp at hc⊢;rcases hc with rfl|rfl|rfl|rfl <;> simp
  refine ⟨.ref T,upd H T (.tup [xs[i],ys[i]'(by omega)]),I.turnTup (ch:=[z,TO,i1,i2]) (t':=tk) (λc hc=>hf c (cht c hc)) (λc o hc e=>kk2 c o hc (kk c o hc e)) fT ⟨(show 2<=sizeLine by decide),[x,y],.cons r1 (.cons r2 .nil),kT⟩,rfl,
   ⟨T,_,_,I.hok.fresh fT,rfl,λxs' hq=>by rw [I.seqB_inj hq q1];exact yn hi,λys' hq=>by rw [I.seqB_inj hq q2];exact yn (by omega),rfl⟩,⟨t1,t2,t3,t4.1,t5.1⟩,λc hc=>?_⟩
  have hcn:=(hf c hc).1;rw [Jjx (λw'=>?_)]
  ·exact hcn
  ·subst w';obtain ⟨o,e,_⟩:=Z2T.obj st0 c hc;exact absurd (yg e) (yat.mpr fT)
 done:=by
  intro X hP hw hK hc i pins s σ H E I hf st hg;subst hP hw hK;obtain ⟨xs,ys,q1,q2,e12,hi⟩:=hg;obtain ⟨its,rv,p1⟩:=I.seqB q1;obtain ⟨jts,rv2,p2⟩:=I.seqB q2;have a1:=rv.length;have a2:=rv2.length;obtain ⟨n1,n2⟩:=Z.ne;have D1:=drA (prog:=X.prog) (w:=X.w) b1 n1 its.toArray;have D2:=drA (prog:=X.prog) (w:=X.w) b2 n2 jts.toArray;rw [show jts.toArray.size=its.toArray.size by simp only [yu];omega] at D2;have W:=Ycn (I.ok.hd hc) Z D1 D2;obtain ⟨s1,s2,s3,s4,s5⟩:=st;have ei:i=its.toArray.size:=by simp only [yu];omega
  subst ei;refine W.done s _ _ ⟨s1,s2,s3,⟨s4,p1⟩,⟨s5,p2⟩⟩ λh' tk kk=>⟨rfl,?_⟩;exact I.turnMany (ch:=[z,TO,i1,i2]) (λc hc=>hf c (by simp at hc⊢;rcases hc with rfl|rfl|rfl|rfl <;> simp)) λc o hc e=>kk c o hc e
 self:=λ_ _ _ _ _ st h=>wpAny_pyIter_zip st.1 h
noncomputable def iZip2 (K:PySem.W.Frag) (b1 b2:Bool) (ta:TA):TI:=λσ H R=>ta σ H λvs H1=>∃a b,vs= [.ref a,.ref b]/\(∃xs,SqB K H1 a b1 xs)/\(∃ys,SqB K H1 b b2 ys)/\R (Jwe K a b b1 b2) H1
theorem Jw1 {X:Cx} {elts:List Expr} {kt:Nat} {pt:Pos} {a b:Expr} {ta:TA} {p pos:Pos} (b1 b2:Bool) (hg:Gl X "zip") (hm:X.mg "zip" =none) (ha:PA X [a,b] ta) (hs:starEach [a,b] X.env= [(false,eval a X.env),(false,eval b X.env)]:=by rfl) (hs2:starEach [b] X.env= [(false,eval b X.env)]:=by rfl):
  PI X (.Tuple elts kt pt) (.Call (.Name "zip" p) [a,b] [] pos) (iZip2 X.K b1 b2 ta):=by
 intro pins s σ H R I h;refine Call_ (Joa I hg hm Yah (PyProof.Rows.callWith_type1 (thn (ha pos pins s σ H _ I h) λus s1 zq=>?_) (by rw [hs,hs2]) (by rw [hs2];rfl)));obtain ⟨vs,H1,I1,r1,q1⟩:=zq;obtain ⟨l1,l2,rfl,⟨xs,q1⟩,⟨ys,q2⟩,q⟩:=q1;obtain ⟨u,v,rfl,r1,r2⟩:=Jxv r1;obtain rfl:u=Value.ref l1:=r1;obtain rfl:v=Value.ref l2:=r2;obtain ⟨its,rv,p1⟩:=I1.seqB q1;obtain ⟨jts,rv2,p2⟩:=I1.seqB q2;have a1:=p1.lt;have a2:=p2.lt;refine Jzx p1 p2 λh' z1 z2 z3 z4 z5 kk=>?_;have I2:Inv X pins σ H1 {s1 with heap:=h'}:=I1.kept (t':=s1.toks) kk;have ap:Z2 (s1.heap.objs.size+4) (s1.heap.objs.size+2) (s1.heap.objs.size+3) s1.heap.objs.size (s1.heap.objs.size+1) l1 l2:=by
  generalize hN:s1.heap.objs.size=N at*;have big:∀l:Addr,l < N->l∉ [N+4,N+2,N+3,N,N+1]:=λl hl hm=>by
   simp only [yo,yv,or_false] at hm;have le:N<=l:=by rcases hm with rfl|rfl|rfl|rfl|rfl <;> first|exact yi _|exact Nat.le_add_right _ _
   exact yat.mpr le hl
  exact ⟨by simp,big _ a1,big _ a2⟩
 refine wpAny_pyIter_zip z1 ⟨_,_,_,_,H1,rfl,I2,Ya7 _ _ _ _ _ l1 l2 b1 b2 ap,⟨z1,z2,⟨_,_,z3⟩,z4,z5⟩,λd hd=>?_,q⟩;have hd':s1.heap.objs.size<=d:=by
  simp only [yo,yv,or_false] at hd;rcases hd with rfl|rfl|rfl|rfl|rfl <;> omega
 exact I1.fpOk hd' (I1.hok.fresh hd')
section
variable {K:PySem.W.Frag} {g:TG} {σ:St} {H:Hp}
theorem Jui {l1 l2 D:Addr} {b1 b2:Bool} {xs ys:List V} {tt:TT} {te:TE} {R:Hp->Prop} (Pv:Nat->St->Hp->Prop) (h0:Pv 0 σ H) (hl:∀i σ H,i<=xs.length->Pv i σ H->SqB K H l1 b1 xs/\SqB K H l2 b2 ys) (e1:xs.length=ys.length)
  (hs:∀i x y σ H T,xs[i]?=some x->ys[i]?=some y->Pv i σ H->H T=none->g (.ref T) σ (upd H T (.tup [x,y])) λσ3 H3=>tt σ3 H3 λb H4=>if b=true then te σ3 H4 (λv H5=>∃vs,H5 D=some (.lst vs)/\vs.length < sizeLine/\Pv (i+1) σ3 (upd H5 D (.lst (vs++ [v])))) else Pv (i+1) σ3 H4)
  (hd:∀σ H,Pv xs.length σ H->R H):
  ∃W:Nat->Nat->St->Hp->Prop,(∃m,W 0 m σ H)/\∀i m σ' H',W i m σ' H'->((Jwe K l1 l2 b1 b2).stop i H'/\R H')\/((Jwe K l1 l2 b1 b2).go i H'/\∃N:St->Hp->Prop,(∀σ2 H2,N σ2 H2->∃m',m' < m/\W (i+1) m' σ2 H2)/\
   ∀x H2,(Jwe K l1 l2 b1 b2).yld i H' x H2->g x σ' H2 λσ3 H3=>tt σ3 H3 λb H4=>if b=true then te σ3 H4 (λv H5=>∃vs,H5 D=some (.lst vs)/\vs.length < sizeLine/\N σ3 (upd H5 D (.lst (vs++ [v])))) else N σ3 H4):=by
 refine ⟨λi m σ H=>m=xs.length - i/\i<=xs.length/\Pv i σ H,⟨xs.length,by simp,yan _,h0⟩,?_⟩;rintro i m σ H ⟨rfl,hi,p⟩;obtain ⟨q1,q2⟩:=hl i σ H hi p;by_cases hlt:i < xs.length
 ·refine .inr ⟨⟨xs,ys,q1,q2,e1,hlt⟩,Pv (i+1),λσ' H' p'=>⟨xs.length - (i+1),by omega,rfl,hlt,p'⟩,λx H' y=>?_⟩;obtain ⟨T,u,v,hT,rfl,hu,hv,rfl⟩:=y;exact hs i u v σ _ T (hu xs q1) (hv ys q2) p hT
 ·have e:i=xs.length:=by omega
  subst e;exact .inl ⟨⟨xs,ys,q1,q2,e1,rfl⟩,hd σ H p⟩
theorem turn2 {i j:Nat} {T:Addr} {x y:V} {σ:L2.St} {H:Hp} {A B:L2.St->Hp->Prop} (hT:SqT K H T [x,y]) (h:A ((σ.set i (some x)).set j (some y)) H):
  gTup K 2 (Jum (Jnn i) (Jum (Jnn j) gNil)) (.ref T) σ H λσ3 H3=>Ya3 σ3 H3 λb H4=>if b=true then A σ3 H4 else B σ3 H4:=by
 refine ⟨T,_,rfl,hT,rfl,_,_,rfl,_,_,rfl,rfl,?_⟩;show if true=true then A ((σ.set i (some x)).set j (some y)) H else B ((σ.set i (some x)).set j (some y)) H
 rw [if_pos rfl];exact h
end
end L2
namespace L2
open PySem PySem.Spec PyProof.Rows PySem.W
section
variable {X:Cx}
structure ECmp (K:PySem.W.Frag) (C:Addr):Prop where
 e:PySem.W.findIn K (.ref C) "__eq__" =some (some (.builtin "object.__eq__"))
 s:PySem.W.mroIn K C (.type "str")=some false
 o:PySem.W.mroIn K C (.type "object")=some true
end
end L2
namespace L2
open PySem PySem.Spec PyProof.Rows PySem.W
inductive Oth (K:PySem.W.Frag) (H:Hp):V->Prop where
 |flat {y:V}:Jpl y=true->Oth K H y
 |lst {p:Addr} {xs:List V}:H p=some (.lst xs)->Oth K H (.ref p)
 |tup {p:Addr} {xs:List V}:H p=some (.tup xs)->Oth K H (.ref p)
 |dct {p:Addr} {kvs:List (Key×V)}:H p=some (.dK kvs)->Oth K H (.ref p)
 |ins {p C dx:Addr} {fs:List (Str×V)}:H p=some (.ins C dx fs)->ECmp K C->Oth K H (.ref p)
section
variable {X:Cx}
theorem Ju1 {K:PySem.W.Frag} (h:X.K=K):OpR X (compareOp .NotIn) (rIn K true):=by subst h;exact Jvx
end
end L2
namespace L2
open PySem PySem.Spec PyProof.Rows PySem.W
section
variable {X:Cx}
end
end L2
namespace L2
open PySem PySem.Spec PyProof.Rows
section
variable {H:Hp} {lb:Array (Nat×Nat×Str)}
theorem TrOk.triples {l:List Value} (x:TrOk H lb l):TriplesOk l:=by
 fun_induction TrOk H lb l with
 |case1=>exact True.intro
 |case2 l _ c _ v r ih=>exact ih x.2
 |case3=>exact x.elim
theorem TrOk.hit {pos:Pos} {v:Value} {l:List Value} (x:TrOk H lb l) (h:codeAmong pos l=some v):∃(q:Str) (a:Addr),(pos.line,pos.col,q)∈lb/\v= .ref a/\H a=some (.cod q):=by
 fun_induction TrOk H lb l with
 |case1=>cases h
 |case2 l _ c _ v' r ih=>
  obtain ⟨⟨n,m,q,a,h1,h2,h3,h4,h5⟩,h6⟩:=x;unfold codeAmong at h;split at h
  ·rename_i hc
   cases h;simp only [yag,beq_iff_eq] at hc;have e1:n=pos.line:=by omega
   have e2:m=pos.col:=by omega
   rw [e1,e2] at h1;exact ⟨q,a,h1,h4,h5⟩
  ·exact ih h6 h
 |case3=>exact x.elim
theorem TrOk.snoc {pos:Pos} {q:Str} {a:Addr} (hm:(pos.line,pos.col,q)∈lb) (ha:H a=some (.cod q)) {l:List Value} (x:TrOk H lb l):TrOk H lb (l++ [rawInt pos.line,rawInt pos.col,.ref a]):=by
 fun_induction TrOk H lb l with
 |case1=>exact ⟨⟨_,_,q,a,hm,rfl,rfl,rfl,ha⟩,True.intro⟩
 |case2 l _ c _ v r ih=>exact ⟨x.1,ih x.2⟩
 |case3=>exact x.elim
end
noncomputable def cdfB (vs:Array Value) (c P:Addr):Bool:=
 (match (vs[11]?:Option Value) with|some (.ref p)=>p==P|_=>false)&&(match vs.getD 11 .none with| .ref p=>p==P|_=>false)&&(match vs.getD 18 .none with| .str _ _=>true|_=>false)&&(match vs.getD 7 .none with| .int _ _=>true|_=>false)&&
 (match vs.getD 9 .none with| .bool _=>true|_=>false)&&(match vs.getD 10 .none with| .int _ _=>true|_=>false)&&!(c==P)
structure Nst (K:PySem.W.Frag) (f c P:Addr):Prop where
 fn:∃(oc:Value) (od:Option Addr) (fd:FuncData) (sl:Array (Option Value)),K.lookup f=some ⟨oc,od,.func fd,sl⟩/\fd.code= .ref c
 hd:∃(od:Option Addr) (vs:Array Value) (sl:Array (Option Value)),K.lookup c=some ⟨.type "code",od,.fields vs,sl⟩/\cdfB vs c P=true
theorem Nst.code {K:PySem.W.Frag} {f c P:Addr} {h:Heap} (n:Nst K f c P) (X:K.In h):PySem.W.CodeHd h c P:=by
 obtain ⟨od,vs,sl,lk,b⟩:=n.hd;unfold cdfB at b;simp only [yag] at b;obtain ⟨⟨⟨⟨⟨⟨b1,b2⟩,b3⟩,b4⟩,b5⟩,b6⟩,b7⟩:=b;have e1:vs[11]?=some (.ref P):=by
  split at b1
  ·rename_i p e;rw [e,beq_iff_eq.mp b1]
  ·cases b1
 have e2:vs.getD 11 .none= .ref P:=by
  split at b2
  ·rename_i p e;rw [e,beq_iff_eq.mp b2]
  ·cases b2
 have e3:∃x t,vs.getD 18 .none= .str x t:=by
  split at b3
  ·rename_i x t e;exact ⟨x,t,e⟩
  ·cases b3
 have e4:∃x t,vs.getD 7 .none= .int x t:=by
  split at b4
  ·rename_i x t e;exact ⟨x,t,e⟩
  ·cases b4
 have e5:∃x,vs.getD 9 .none= .bool x:=by
  split at b5
  ·rename_i x e;exact ⟨x,e⟩
  ·cases b5
 have e6:∃x t,vs.getD 10 .none= .int x t:=by
  split at b6
  ·rename_i x t e;exact ⟨x,t,e⟩
  ·cases b6
 obtain ⟨f1,t1,e3⟩:=e3;obtain ⟨f2,t2,e4⟩:=e4;obtain ⟨f3,e5⟩:=e5;obtain ⟨f4,t4,e6⟩:=e6;exact ⟨_,vs,f1,t1,f2,t2,f3,f4,t4,X _ _ lk,rfl,rfl,e1,e2,e3,e4,e5,e6,by simpa using b7⟩
noncomputable def Bmn (mg:Str->Option Value) (base:Heap):Prop:=∃bm ob,mg "__builtins__" =some (.ref bm)/\bm≠builtinsNs/\base.get? bm=some ob/\ob.cls= .type "module" /\ob.dict=some builtinsNs/\ob.data= .plain
noncomputable def Clo (f:Addr) (name qual:Str) (st:Stmt) (clos:List (Str×Addr)) (c:Addr):HO:=
 .ext λh=>∃doc pm ct:Value,h.get? f=some {cls:=.type "function",data:=.func (PySem.W.fnX name qual (Jl0 st) (Jks st) (Jju st) clos .none .none doc pm none (.ref c) ct)}
theorem Jwj {P:Program} {w:World} {H:Hp} {h:Heap} {f:Addr} {name qual:Str} {st:Stmt} {clos:List (Str×Addr)} {c:Addr} {doc pm ct:Value}
  (e:h.get? f=some {cls:=.type "function",data:=.func (PySem.W.fnX name qual (Jl0 st) (Jks st) (Jju st) clos .none .none doc pm none (.ref c) ct)}):ObjOk P w H h f (Clo f name qual st clos c):=
 ⟨⟨doc,pm,ct,e⟩,⟨_,e⟩,λ_ _ ⟨d,p,t,z⟩ k=>⟨d,p,t,k _ z⟩⟩
section
variable {X:Cx} {pins:List (Addr×Obj)} {σ:St} {H:Hp} {s:Shared} {M:Model} {A:Around} {E:Value->Shared->Prop} {name qual:Str} {st:Stmt} {pos:Pos} {firstLine:Nat} {c P:Addr} {lb:Array (Nat×Nat×Str)} {clos:List (Str×Addr)} {Q:Value->Shared->Prop}
theorem Yap (I:Inv X pins σ H s) (hcd:X.env.code= .ref c) (C:PySem.W.CodeHd X.base c P) (B:Bmn X.mg X.base) (ht:H P=some (.tbl lb)) (hm:(pos.line,pos.col,qual)∈lb) (hu:∀q,(pos.line,pos.col,q)∈lb->q=qual)
  (hcl:closureFor (Jju st) X.env=pure clos)
  (h:∀s' f c' H',Inv X pins σ H' s'->Same H H'->H f=none->H' f=some (Clo f name qual st clos c')->H' c'=some (.cod qual)->Q (.ref f) s'):
  wpAny M A (makeFunction name qual (Jl0 st) (.stmts (Jks st)) (Jju st) X.env [] [] [] pos firstLine) Q E s:=by
 obtain ⟨ts,eP,tr⟩:=I.hok P _ ht;have hg:s.heap.Ns mainGlobals X.mg:=I.mod.glob.keeps I.bk;have CH:=C.keeps I.bk;have hgP:mainGlobals≠P:=λz=>by
  obtain ⟨o,es,ep,e1,e2,_⟩:=hg;rw [z,eP] at e1;cases e1;cases e2
 have BA:s.heap.BuiltinsAt X.mg P:=by
  obtain ⟨bm,ob,b1,b2,b3,b4,b5,b6⟩:=B;have b3':=I.bk _ _ b3;refine ⟨bm,ob,b1,b2,λz=>?_,λz=>?_,b3',b4,b5,b6⟩
  ·obtain ⟨o,es,ep,e1,e2,_⟩:=hg;rw [<-z,b3'] at e1;cases e1;rw [b6] at e2;cases e2
  ·rw [z,eP] at b3';cases b3';cases b4
 cases hq:codeAmong pos ts.toList with
 |some v=>
  obtain ⟨q,a,m1,rfl,m2⟩:=tr.hit hq;obtain rfl:=hu q m1;refine PySem.W.makeFunction_hit (P:=P) (ps:=ts) hcl I.ok.glob hg hcd CH eP tr.triples hq BA λctv doc h' tk hk hsz=>?_;have hf:H h'.objs.size=none:=I.hok.fresh hsz;have J:=I.laid (a:=h'.objs.size) (o:=Clo h'.objs.size name q st clos a) (t':=tk) (h':=h'.push {cls:=.type "function",data:=.func (PySem.W.fnX name q (Jl0 st) (Jks st) (Jju st) clos .none .none doc ((X.mg "__name__").getD .none) none (.ref a) ctv)})
   (λb u z=>yj _ (hk b u z)) hsz (Jwj (yp _ rfl))
  exact h _ _ a _ J (Same.upd hf) hf Jjq (by rw [Jjx (Jjy m2 hf)];exact m2)
 |none=>
  refine PySem.W.makeFunction_K (P:=P) (ps:=ts) hcl I.ok.glob hg hcd CH eP tr.triples hq hgP BA λc' ctv doc h' tk hx hge hlt hrec htb=>?_;have hc':H c'=none:=I.hok.fresh hge;have hf:H h'.objs.size=none:=I.hok.fresh (yai hge (yaq hlt));have nfc:h'.objs.size≠c':=yaw hlt;have nP:∀b,H b=none->b≠P:=λb z w'=>by rw [w',ht] at z;cases z
  let H':Hp:=upd (upd H c' (.cod qual)) h'.objs.size (Clo h'.objs.size name qual st clos c');let o':Obj:={cls:=.type "function",data:=.func (PySem.W.fnX name qual (Jl0 st) (Jks st) (Jju st) clos .none .none doc ((X.mg "__name__").getD .none) none (.ref c') ctv)};have hS:Same H H':=(Same.upd hc').trans (Same.upd (by rw [Jjx nfc];exact hf));have hkp:∀b o,b≠P->s.heap.get? b=some o->(h'.push o').get? b=some o:=λb o n z=>yj _ (hx b o n z);have hc1:H' c'=some (.cod qual):=by show upd (upd H c' _) _ _ c'=_;rw [Jjx (yk nfc),Jjq]
  have bl:∀b o,s.heap.get? b=some o->b≠c'/\b≠h'.objs.size:=λb o z=>by
   have q:=yap (yg z) hge;exact ⟨yr q,yr (ybp q hlt)⟩
  have J:Inv X pins σ H' {s with heap:=h'.push o',toks:=tk}:=by
   refine I.un (t':=tk) ⟨λb o z n _ _=>hkp b o (nP b n) z,λb o z n _ _=>⟨o.slots,hkp b o (nP b n) z⟩,λb o z n _=>?_,λb o z _=>?_,λb xs z=>hS _ _ z,λb o u z=>hS _ _ z,λb ps z=>⟨#[],by rw [hS _ _ z];simp⟩⟩ λb u z=>?_
   ·show upd (upd H c' _) _ _ b=none;rw [Jjx (bl b o z).2,Jjx (bl b o z).1];exact n
   ·by_cases w':b=P
    ·exact ⟨_,by rw [w'];exact yj _ htb⟩
    ·exact ⟨o,hkp b o w' z⟩
   ·by_cases w1:b=h'.objs.size
    ·have z':H' b=some (Clo h'.objs.size name qual st clos c'):=by rw [w1];exact Jjq
     rw [z'] at z;cases z;rw [w1];exact Jwj (yp _ rfl)
    ·by_cases w2:b=c'
     ·rw [w2,hc1] at z;cases z;rw [w2];exact hrec.keeps λ_ _ z=>yj _ z
     ·have z':H b=some u:=by
       have:H' b=H b:=by show upd (upd H c' _) _ _ b=_;rw [Jjx w1,Jjx w2]
       rw [<-this];exact z
      by_cases w3:b=P
      ·rw [w3,ht] at z';cases z';refine ⟨_,by rw [w3];exact yj _ htb,?_⟩;rw [Array.toList_append];exact TrOk.snoc hm hc1 (tr.mono λb q z=>hS _ _ z)
      ·refine (I.hok b u z').stay (λc v hc zz=>hkp c v ?_ zz) (λc zz=>hS _ _ zz) (λc xs zz=>hS _ _ zz) λc q zz=>hS _ _ zz;rcases hc with rfl|hc
       ·exact w3
       ·intro w';rw [w',ht] at hc;cases hc
  exact h _ _ c' H' J hS hf Jjq hc1
end
end L2
namespace L2
open PySem PySem.Spec PyProof.Rows
noncomputable def CelAt (H:Hp) (c:Addr) (v:V):Prop:=∃o u,H c=some (celF o)/\o.data= .cell (some u)/\RelV v u
theorem CelAt.same {H H':Hp} {c:Addr} {v:V} (s:Same H H') (h:CelAt H c v):CelAt H' c v:=by obtain ⟨o,u,a,b,d⟩:=h;exact ⟨o,u,s _ _ a,b,d⟩
noncomputable def CloAt (H:Hp) (f:Addr) (name qual:Str) (st:Stmt) (caps:List (Str×V)):Prop:=
 ∃(clos:List (Str×Addr)) (c:Addr),H f=some (Clo f name qual st clos c)/\H c=some (.cod qual)/\(∀x y b,clos.lookup x=some b->clos.lookup y=some b->x=y)/\(∀y∈(Jju st).names,y.2= .free->∃b,clos.lookup y.1=some b)/\
  (∀x b,clos.lookup x=some b->∃v,CelAt H b v)/\∀x v,(x,v)∈caps->∃b,clos.lookup x=some b/\CelAt H b v
theorem CloAt.same {H H':Hp} {f:Addr} {name qual:Str} {st:Stmt} {caps:List (Str×V)} (s:Same H H') (h:CloAt H f name qual st caps):CloAt H' f name qual st caps:=
 let ⟨clos,c,a,b,d,e,g,k⟩:=h
 ⟨clos,c,s _ _ a,s _ _ b,d,e,λx b z=>let ⟨v,q⟩:=g x b z;⟨v,q.same s⟩,λx v z=>let ⟨b,q1,q2⟩:=k x v z;⟨b,q1,q2.same s⟩⟩
theorem CloAt.but {p:Addr} {H H':Hp} {f:Addr} {name qual:Str} {st:Stmt} {caps:List (Str×V)} (sp:Strm H p) (s:But p H H') (h:CloAt H f name qual st caps):CloAt H' f name qual st caps:=by
 obtain ⟨clos,c,a,b,d,e,g,k⟩:=h;have kp:∀b o,H b=some o->(∀x y z:Int,o≠ .lst [.int x,.int y,.int z])->H' b=some o:=λb o z n=>s.1 b o (Jne sp z n) z;have ce:∀b v,CelAt H b v->CelAt H' b v:=λb v ⟨o,u,q1,q2,q3⟩=>⟨o,u,kp _ _ q1 (λ_ _ _ z=>by cases z),q2,q3⟩;exact ⟨clos,c,kp _ _ a (λ_ _ _ z=>by cases z),kp _ _ b (λ_ _ _ z=>by cases z),d,e,λx b z=>let ⟨v,q⟩:=g x b z;⟨v,ce _ _ q⟩,λx v z=>let ⟨b,q1,q2⟩:=k x v z;⟨b,q1,ce _ _ q2⟩⟩
noncomputable def IsF (H:Hp) (f:Addr):Prop:=∃name qual st clos c,H f=some (Clo f name qual st clos c)
theorem CloAt.isf {H:Hp} {f:Addr} {name qual:Str} {st:Stmt} {caps:List (Str×V)} (h:CloAt H f name qual st caps):IsF H f:=by obtain ⟨clos,c,a,_⟩:=h;exact ⟨name,qual,st,clos,c,a⟩
noncomputable def Cx.fix (X:Cx) (cn:Str->Bool):Cx:={X with fn:=λx=>X.fn x&&!cn x}
open Classical in
noncomputable def Jrl (X:Cx) (cn:Str->Bool) (h:Heap) (H:Hp):Hp:=λb=>if ∃x,cn x=true/\X.fn x=true/\X.env.cells.lookup x=some b then (h.get? b).map celF else H b
section
variable {X:Cx} {pins:List (Addr×Obj)} {σ:St} {H:Hp} {s:Shared} {cn:Str->Bool}
theorem Jw9 {h:Heap} {b:Addr} {o:Obj} {x:Str} (h1:cn x=true) (h2:X.fn x=true) (h3:X.env.cells.lookup x=some b) (e:h.get? b=some o):Jrl X cn h H b=some (celF o):=by
 unfold Jrl;rw [if_pos ⟨x,h1,h2,h3⟩,e];rfl
theorem Jqx {h:Heap} {b:Addr} (n:¬∃x,cn x=true/\X.fn x=true/\X.env.cells.lookup x=some b):Jrl X cn h H b=H b:=by
 unfold Jrl;rw [if_neg n]
theorem Ych (I:Inv X pins σ H s) {b:Addr} {o:HO} (e:H b=some o):Jrl X cn s.heap H b=some o:=by
 rw [Jqx]
 ·exact e
 ·rintro ⟨x,_,h2,h3⟩;rcases I.freeC x b h3 with n|⟨f,_⟩
  ·rw [n] at e;cases e
  ·rw [h2] at f;cases f
theorem Inv.fix (I:Inv X pins σ H s) (cn:Str->Bool):Inv (X.fix cn) pins σ (Jrl X cn s.heap H) s/\Same H (Jrl X cn s.heap H):=by
 have hS:Same H (Jrl X cn s.heap H):=λb o e=>Ych I e;have hn:∀b,H b=none->(∀x,cn x=true->X.fn x=true->X.env.cells.lookup x≠some b)->Jrl X cn s.heap H b=none:=λb e n=>by
  rw [Jqx]
  ·exact e
  ·rintro ⟨x,h1,h2,h3⟩;exact n x h1 h2 h3
 refine ⟨⟨⟨I.ok.mod,I.ok.kind,I.ok.glob,I.ok.blt,I.ok.above,I.ok.inj,I.ok.has,λx c hx hc=>I.ok.cab x c ?_ hc,I.ok.hd,I.ok.frames,I.ok.stk,I.ok.exf,I.ok.bs,I.ok.bsz,I.ok.noex,I.ok.exfs,I.ok.funs,I.ok.frf⟩,I.os,I.bare,
  ⟨I.base.keep,I.base.slot,λb o e n hx=>?_,I.base.there,λb xs e=>hS _ _ (I.base.tups b xs e),λb o u e=>hS _ _ (I.base.frzs b o u e),λb ps e=>?_⟩,I.loc,I.cell,?_,λx c e=>?_,λp hp=>?_,λb u e=>?_,I.len⟩,hS⟩
 ·have hx':(X.fn x&&!cn x)=true:=hx;rw [yag] at hx';exact hx'.1
 ·exact hn b (I.base.free b o e n hx) λx _ h2 h3=>absurd (yap (yg e) (I.ok.cab x b h2 h3)) (yay _)
 ·obtain ⟨m,q⟩:=I.base.tbls b ps e;exact ⟨m,hS _ _ q⟩
 ·exact hn _ I.free λx _ _ h3=>I.cne x _ h3 rfl
 ·have e':X.env.cells.lookup x=some c:=e;by_cases hc:cn x=true/\X.fn x=true
  ·obtain ⟨v,o,ho,hd⟩:=I.cell x c e';refine .inr ⟨?_,o,Jw9 hc.1 hc.2 e' ho⟩;show (X.fn x&&!cn x)=false;rw [hc.1];simp
  ·have out:Jrl X cn s.heap H c=H c:=Jqx λ⟨y,h1,h2,h3⟩=>hc (by rw [I.ok.inj x y c e' h3];exact ⟨h1,h2⟩);rcases I.freeC x c e' with n|⟨f,o,q⟩
   ·exact .inl (out.trans n)
   ·refine .inr ⟨?_,o,out.trans q⟩;show (X.fn x&&!cn x)=false;rw [f];rfl
 ·obtain ⟨e,n,ne,nf,d⟩:=I.pin p hp;refine ⟨e,hn _ n λx _ _ h3=>?_,ne,nf,d⟩;obtain ⟨v,o,ho,hd⟩:=I.cell x _ h3;rw [e] at ho;cases ho;exact d v hd
 ·by_cases hb:∃x,cn x=true/\X.fn x=true/\X.env.cells.lookup x=some b
  ·obtain ⟨x,h1,h2,h3⟩:=hb;obtain ⟨v,o,ho,hd⟩:=I.cell x b h3;rw [Jw9 h1 h2 h3 ho] at e;cases e;exact ⟨ho,True.intro,⟨o,ho⟩,λ_ _ _ _=>True.intro⟩
  ·rw [Jqx hb] at e;exact (I.hok b u e).stay (λ_ _ _ q=>q) (λ_ q=>hS _ _ q) (λ_ _ q=>hS _ _ q) λ_ _ q=>hS _ _ q
theorem Inv.celAt (I:Inv X pins σ H s) (J:Inv (X.fix cn) pins σ (Jrl X cn s.heap H) s) {j:Nat} {x:Str} {v:V} (h1:X.N[j]?=some x) (h2:σ[j]?=some (some v)) (hv:X.env.kindOf x=some .cell\/X.env.kindOf x=some .free) (hc:cn x=true) (hf:X.fn x=true):
  ∃b,X.env.cells.lookup x=some b/\CelAt (Jrl X cn s.heap H) b v:=by
 obtain ⟨m,_,hl⟩:=I.loc;have hvis:Vis X.env.scope x:=hv.elim (λz=>.inr (.inl z)) λz=>.inr (.inr z);obtain ⟨u,r,l⟩:=hl j x v h1 h2 hvis;rcases l with ⟨k,_⟩|⟨k,b,e,o,ho,hd⟩
 ·rcases hv with z|z
  ·rw [k] at z;cases z
  ·rw [k] at z;cases z
 ·exact ⟨b,e,o,u,Jw9 hc hf e ho,hd,r⟩
end
noncomputable def Fin (X:Cx) (H:Hp) (s:Shared):Prop:=s.os=X.s₀.os/\AllBare s.gens/\Un X.fs X.ex X.H₀ H X.s₀.heap s.heap/\HOk X.prog X.w H s.heap
theorem Inv.fin {X:Cx} {pins:List (Addr×Obj)} {σ:St} {H:Hp} {s:Shared} (I:Inv X pins σ H s):Fin X H s:=⟨I.os,I.bare,I.base,I.hok⟩
noncomputable def SB (X:Cx) (D:Ends) (f:Flow) (s':Shared):Prop:=
 match f with
 | .next=>∃σ' H',Fin X H' s'/\D.nx σ' H'
 | .brk=>∃σ' H',Fin X H' s'/\D.bk σ' H'
 | .cont=>∃σ' H',Fin X H' s'/\D.ct σ' H'
 | .ret u=>∃v H',Fin X H' s'/\RelV v u/\D.rt v H'
theorem SP.sb {X:Cx} {pins:List (Addr×Obj)} {D:Ends} {f:Flow} {s':Shared} (h:SP X pins D f s'):SB X D f s':=by
 cases f with
 |next=>obtain ⟨σ',H',I,q⟩:=h;exact ⟨σ',H',I.fin,q⟩
 |brk=>obtain ⟨σ',H',I,q⟩:=h;exact ⟨σ',H',I.fin,q⟩
 |cont=>obtain ⟨σ',H',I,q⟩:=h;exact ⟨σ',H',I.fin,q⟩
 |ret u=>obtain ⟨v,σ',H',I,r,q⟩:=h;exact ⟨v,H',I.fin,r,q⟩
noncomputable def PB (X:Cx) (st:List Stmt) (t:TS):Prop:=
 ∀(pins:List (Addr×Obj)) (s:Shared) (σ:St) (H:Hp) (D:Ends),Inv X pins σ H s->t D σ H->wpAny (model X.prog X.w) X.A (execs st X.env) (SB X D) X.xe s
section
variable {X:Cx} {st:Stmt} {rest:List Stmt} {t u:TS}
theorem PSs.pb {l:List Stmt} (h:PSs X l t):PB X l t:=λpins s σ H D I q=>thn (h pins s σ H D I q) λ_ _ z=>z.sb
theorem Jvy (h1:PS X st t) (h2:PB X rest u):PB X (st::rest) (Jqw t u):=by
 intro pins s σ H D I h;refine wpAny_execs_cons (thn (h1 pins s σ H {D with nx:=u D} I h) λf s1 q=>?_);cases f with
 |next=>
  obtain ⟨σ',H',I',q⟩:=q;exact h2 pins s1 σ' H' D I' q
 |ret v=>exact SP.sb (D:=D) q
 |brk=>exact SP.sb (D:=D) q
 |cont=>exact SP.sb (D:=D) q
end
theorem Jnb {cells:List (Str×Addr)} {x:Str} {b:Addr}:∀(ns:List (Str×NameKind)) (acc:List (Str×Addr)),(Jm6 cells ns acc).lookup x=some b->acc.lookup x=none->(x,NameKind.free)∈ns
 | [],_,e,n=>by unfold Jm6 at e;rw [n] at e;cases e
 | (y,k) :: r,acc,e,n=>by
  unfold Jm6 at e;by_cases hk:(k==NameKind.free)=true
  ·rw [if_pos hk] at e;have hk':k= .free:=by simpa using hk
   subst hk';by_cases hx:x=y
   ·subst hx;exact yal
   ·cases hc:cells.lookup y with
    |none=>rw [hc] at e;exact yaf _ (Jnb r acc e n)
    |some d=>
     rw [hc] at e;refine yaf _ (Jnb r _ e ?_);rw [ybb,beq_eq_false_iff_ne.mpr hx];exact n
  ·rw [if_neg hk] at e;exact yaf _ (Jnb r acc e n)
noncomputable def Jqp (s:Stmt):Pos:=match s with
 | .FunctionDef _ _ _ _ _ _ _ _ _ p=>p
 |_=>⟨0,0,0,0⟩
noncomputable def tDef (P:Addr) (lb:Array (Nat×Nat×Str)) (i:Nat) (name qual:Str) (st:Stmt) (caps:List (Str×Nat)) (t:TS):TS:=λD σ H=>H P=some (.tbl lb)/\∃vs:List V,(∀y∈caps.zip vs,σ[y.1.2]?=some (some y.2))/\caps.length=vs.length/\
 ∀f H',Same H H'->H f=none->CloAt H' f name qual st ((caps.map (·.1)).zip vs)->t D (σ.set i (some (.ref f))) H'
section
variable {X:Cx} {rest:List Stmt} {t:TS} {st:Stmt} {name qual:Str} {i:Nat} {c P:Addr} {lb:Array (Nat×Nat×Str)} {caps:List (Str×Nat)}
theorem Yba {f₀:Addr} (n:Nst X.K f₀ c P) (B:Bmn X.mg X.base) (hcd:X.env.code= .ref c) (hst:st= .FunctionDef name (Jl0 st) (Jks st) [] none [] (Jju st) none name (Jqp st))
  (hd:(Jl0 st).defaults= []) (hk:(Jl0 st).kw_defaults= []) (ha:annTrees (Jl0 st) none X.env= []) (hq:qualnameIn X.env name name=qual) (hm:((Jqp st).line,(Jqp st).col,qual)∈lb) (hu:∀q,((Jqp st).line,(Jqp st).col,q)∈lb->q=qual)
  (hN:X.N.Nodup) (hi:X.N[i]?=some name) (hx:X.env.scope.names.lookup name=some .local)
  (hcap:∀y∈caps,X.N[y.2]?=some y.1/\y.2≠i/\(Jju st).names.lookup y.1=some .free/\X.fn y.1=true/\X.env.scope.names.lookup y.1=some .cell)
  (hall:∀y∈(Jju st).names,y.2= .free->y.1∈caps.map (·.1))
  (hr:PB (X.fix λx=>(caps.map (·.1)).contains x) rest t):PB X (st::rest) (tDef P lb i name qual st caps t):=by
 intro pins s σ H D I h;obtain ⟨ht,vs,hvs,hlen,h⟩:=h;have hcel:∀y∈caps,X.env.scope.names.lookup y.1=some .cell:=λy hy=>(hcap y hy).2.2.2.2;have hfr:∀y∈(Jju st).names,y.2= .free->∃b,X.env.cells.lookup y.1=some b:=λy hy hyf=>by
  obtain ⟨z,hz,ez⟩:=ybd.mp (hall y hy hyf);rw [<-ez];exact I.ok.has z.1 (.inl (hcel z hz))
 have hcl:=Jpj (env:=X.env) hfr;refine wpAny_execs_cons ?_;rw [hst];refine PySem.W.nestDef_K hd hk ha ?_;rw [hq];refine Yap I hcd (n.code I.mod.kin) B ht hm hu hcl λs1 f c' H1 I1 s01 hf hclo hcod=>?_;refine Jp2 I1 hN hi (.inl hx) (v:=.ref f) rfl (λs2 I2=>?_) (.inr hx);obtain ⟨J,sJ⟩:=I2.fix (λx=>(caps.map (·.1)).contains x);have hS:=s01.trans sJ;have hin:∀x b,(Jm6 X.env.cells (Jju st).names []).lookup x=some b->X.env.cells.lookup x=some b:=λx b e=>Jn1 (cells:=X.env.cells) _ [] (λx c e=>by simp at e) x b e;have cel:∀(k:Nat) (y:Str×Nat) (v:V),caps[k]?=some y->vs[k]?=some v->∃b,X.env.cells.lookup y.1=some b/\CelAt (Jrl X (λx=>(caps.map (·.1)).contains x) s2.heap H1) b v:=λk y v e1 e2=>by
  have hy:=yaa e1;obtain ⟨c1,c2,c3,c4,_⟩:=hcap y hy;have hσ:σ[y.2]?=some (some v):=hvs (y,v) (yaa (i:=k) (by rw [ycs];exact ⟨e1,e2⟩));refine I2.celAt J c1 (by rw [ycj (yk c2)];exact hσ) (.inl (hcel y hy)) ?_ c4;exact ycn.mpr (List.mem_map_of_mem hy)
 refine hr pins s2 _ _ D J (h f _ hS hf ⟨_,c',sJ _ _ hclo,sJ _ _ hcod,λx y b h1 h2=>I.ok.inj x y b ?_ ?_,λy hy hyf=>?_,λx b e=>?_,λx v e=>?_⟩)
 ·exact hin x b h1
 ·exact hin y b h2
 ·have hh:=Jmi (cells:=X.env.cells) (x:=y.1) (Jju st).names [] (by rw [<-hyf];exact hy) (hfr y hy hyf);exact yca.mp hh
 ·obtain ⟨y,hy,rfl⟩:=ybd.mp (hall (x,.free) (Jnb (Jju st).names [] e (by simp)) rfl);obtain ⟨k,hk⟩:=List.getElem?_of_mem hy;have hk':k < vs.length:=by rw [<-hlen];exact (yq.mp hk).1
  obtain ⟨b',e1,e2⟩:=cel k y vs[k] hk (yn hk');have e3:=hin _ _ e;rw [e1] at e3;cases e3;exact ⟨_,e2⟩
 ·obtain ⟨k,hk⟩:=List.getElem?_of_mem e;rw [ycs,ym] at hk;obtain ⟨k1,k2⟩:=hk;cases hy:caps[k]? with
  |none=>rw [hy] at k1;cases k1
  |some y=>
   rw [hy] at k1;cases k1;obtain ⟨b,e1,e2⟩:=cel k y v hy k2;have hm:=yaa hy;have hh:=Jmi (cells:=X.env.cells) (x:=y.1) (Jju st).names [] (PySem.mem_of_lookup (hcap y hm).2.2.1) ⟨b,e1⟩;obtain ⟨b',e3⟩:=yca.mp hh;have e4:=hin _ _ e3;rw [e1] at e4;cases e4;exact ⟨_,e3,e2⟩
end
end L2
namespace L2
open PySem PySem.Spec PyProof.Rows
theorem Fun.okN {CX:CXT} {P:Program} {w:World} {K:PySem.W.Frag} {mg:Str->Option Value} {base:Heap} {x qual:Str} {st:Stmt} {f c T:Addr} {fd:FuncData} {N ps:List Str} {k:Nat} {sp:Sp} (F:Fun K x qual st f fd) (n:Nst K f c T) (S:Jk0 N ps (Jju st)) (len:∀vs H Q E,sp vs H Q E->vs.length=ps.length)
  (hbody:∀(A:Around) (outer:List Env) (s:Shared) (H:Hp) (vs:List V) (Q:VK) (E:XK),Room k (A.deeper (envOfC qual (Jju st) s.heap.objs.size f (.ref c)))->sp vs H Q E->
   ∃t,PB (Jve CX P w K mg base N qual (Jju st) f (.ref c) A outer s H E) (Jks st) t/\t {nx:=λ_ H'=>Q .non H',rt:=Q} (start N vs) H):FnOk P w K mg base CX (k+1) f fd ps sp:=by
 obtain ⟨oc,od,kV,doc,pm,an,cdv,ct,osl,rfl,lk,hcd⟩:=F.ex;have ec:cdv= .ref c:=by
  obtain ⟨oc',od',fd',sl',l',e'⟩:=n.fn;rw [lk] at l';cases l';exact e'
 subst ec;refine ⟨len,λA outer s H args us vs Q E hr e0 hb r hsp=>?_⟩;have hl:=len _ _ _ _ hsp;have KX:K.In s.heap:=e0.mod.kin.keeps λb o e=>(e0.bs b o e).1;have lim:s.heap.NoLimit:=e0.mod.nolimit.keeps λb o e=>(e0.bs b o e).1;refine codeAny_call_function hr.depth (KX _ _ lk) rfl S.co S.gen rfl (PySem.W.codeRec_of KX hcd) (hb _ _ _ _ ?_);refine wpAny_newFunctionEnv_cells S.kind (λ⟨y,v⟩ hy=>?_) λenv he s1 z=>?_
 ·exact (S.par y (List.of_mem_zip hy).1).imp id λq=>⟨q,PySem.W.cellsFrom_some _ _ _ (.inl q)⟩
 subst he;refine ⟨lim.keeps z.toInCall.keep,codeAny_func ?_⟩;obtain ⟨t,ht,hq⟩:=hbody A outer s H vs Q E (hr.deeper _) hsp;refine wpAny_mono (ht [] s1 (start N vs) H _ (Juo S hr.hd e0 hl r z) hq) (λfl s' hs=>?_) λe s' hs=>hs;cases fl with
 |ret u=>
  obtain ⟨v,H',⟨a1,a2,a3,a4⟩,rv,q⟩:=hs;exact ⟨v,H',a1,a2,a3,a4,rv,q⟩
 |next=>
  obtain ⟨σ',H',⟨a1,a2,a3,a4⟩,q⟩:=hs;exact ⟨.non,H',a1,a2,a3,a4,rfl,q⟩
 |brk=>
  obtain ⟨_,_,_,q⟩:=hs;exact False.elim q
 |cont=>
  obtain ⟨_,_,_,q⟩:=hs;exact False.elim q
theorem Jmo:∀(ns:List (Str×NameKind)) (n:Nat) (acc:List (Str×Addr)),cellsFrom n ns acc=cellsFrom n ns []++acc
 | [],_,_=>rfl
 | (x,k) :: r,n,acc=>by
  unfold cellsFrom;split
  ·rw [Jmo r (n+1) ((x,n)::acc),Jmo r (n+1) [(x,n)],ycl];rfl
  ·exact Jmo r n acc
theorem Jnr {x:Str} {b:Addr}:∀(ns:List (Str×NameKind)) (n:Nat) (acc:List (Str×Addr)),(cellsFrom n ns acc).lookup x=some b->acc.lookup x=none->(x,NameKind.cell)∈ns
 | [],_,_,e,m=>by unfold cellsFrom at e;rw [m] at e;cases e
 | (y,k) :: r,n,acc,e,m=>by
  unfold cellsFrom at e;split at e
  ·rename_i hk
   have hk':k= .cell:=by simpa using hk
   subst hk';by_cases hx:x=y
   ·subst hx;exact yal
   ·refine yaf _ (Jnr r _ _ e ?_);rw [ybb,beq_eq_false_iff_ne.mpr hx];exact m
  ·exact yaf _ (Jnr r _ _ e m)
theorem Jmj {α β:Type} [BEq α] {x:α}:∀(l m:List (α×β)),(l++m).lookup x=(l.lookup x).or (m.lookup x)
 | [],_=>rfl
 | (y,v) :: r,m=>by
  rw [List.cons_append,ybb,ybb];split
  ·rfl
  ·exact Jmj r m
section
variable {M:Model} {A:Around} {E:Value->Shared->Prop} {s₀ s:Shared} {m cm:Str->Option Value} {env:Env} {cs:List (Str×Addr)}
theorem Jxz (f:Str×Value->PUnit->Sem (ForInStep PUnit)) (hf:∀n v u,f (n,v) u=(do storeName env n v;pure (.yield ⟨⟩))) (hk:env.scope.kind= .function) (sub:∀n c,cs.lookup n=some c->env.cells.lookup n=some c):
  ∀(bs:List (Str×Value)) (m cm:Str->Option Value) (s:Shared) (Q:PUnit->Shared->Prop),InCallC s₀ env.locals m cs cm s->(∀x∈bs,env.kindOf x.1=some .local\/(env.kindOf x.1=some .cell/\(cs.lookup x.1).isSome=true))->
   (∀s',InCallC s₀ env.locals (bindL env.kindOf bs m) cs (bindC env.kindOf bs cm) s'->Q ⟨⟩ s')->wpAny M A (forIn bs ⟨⟩ f) Q E s
 | [],m,cm,s,Q,x,_,h=>by rw [List.forIn_nil];exact wpAny_pure (h s x)
 | (n,v) :: r,m,cm,s,Q,x,hb,h=>by
  rw [yce,hf];have hr:=λy hy=>hb y (yaf (n,v) hy);obtain ⟨h0,t0,e0⟩:=x.toInCall.same;rcases hb (n,v) yal with hl|⟨hl,hc⟩
  ·refine wpAny_bind (wpAny_bind (wpAny_storeName_local hl x.toInCall.ns (λh' hn hs=>wpAny_pure (Jxz f hf hk sub r (λy=>if y=n then some v else m y) cm _ Q ⟨⟨?_,hn,λb o z=>?_,x.toInCall.fresh⟩,λk c z=>?_,x.apart,x.above⟩ hr λs'' x''=>h s'' ?_)) (by rw [hk];rfl)))
   ·rw [e0];exact ⟨h',_,rfl⟩
   ·exact hs.extBut b o (yr (yap (yg z) x.toInCall.fresh)) (x.toInCall.keep b o z)
   ·exact (x.cell k c z).sameBut hs (yaw (x.above k c (mem_of_lookup z)))
   ·unfold bindL bindC;rw [if_pos hl,if_pos hl];exact x''
  ·obtain ⟨c,hc⟩:=yca.mp hc;have hnl:¬env.kindOf n=some .local:=by rw [hl];decide
   have hL:=x.above n c (mem_of_lookup hc);refine wpAny_bind (wpAny_bind (wpAny_storeName_cell hk hl (sub n c hc) (x.cell n c hc) λh' hn hs=>wpAny_pure (Jxz f hf hk sub r m (λy=>if y=n then some v else cm y) _ Q ⟨⟨?_,x.toInCall.ns.sameBut hs (yr hL),λb o z=>?_,x.toInCall.fresh⟩,λk c' z=>?_,x.apart,x.above⟩ hr λs'' x''=>h s'' ?_)))
   ·rw [e0];exact ⟨h',_,rfl⟩
   ·exact hs.extBut b o (yr (ybp (yap (yg z) x.toInCall.fresh) hL)) (x.toInCall.keep b o z)
   ·by_cases w':k=n
    ·subst w';rw [hc] at z;cases z;simpa using hn
    ·rw [if_neg w'];exact (x.cell k c' z).sameBut hs λe=>w' (name_of_addr x.apart (mem_of_lookup z) (e▸mem_of_lookup hc))
   ·unfold bindL bindC;rw [if_neg hnl,if_neg hnl];exact x''
theorem Ydc {scope:Scope} {globals:Addr} {clos:List (Str×Addr)} {bs:List (Str×Value)} {qual:Str} {func:Option Addr} {code:Value} {builtins:Addr} {Q:Env->Shared->Prop} (hk:scope.kind= .function)
  (hb:∀x∈bs,scope.names.lookup x.1=some .local\/(scope.names.lookup x.1=some .cell/\((cellsFrom (s.heap.objs.size+1) scope.names []).lookup x.1).isSome=true))
  (hQ:∀env,env=newEnv scope s.heap.objs.size globals (cellsFrom (s.heap.objs.size+1) scope.names []++clos) qual func code none builtins->
   ∀s',InCallC s env.locals (bindL env.kindOf bs λ_=>none) (cellsFrom (s.heap.objs.size+1) scope.names []) (bindC env.kindOf bs λ_=>none) s'->Q env s'):
  wpAny M A (newFunctionEnv scope globals clos bs qual func code none builtins) Q E s:=by
 simp only [newFunctionEnv,Option.isSome_none,Bool.false_eq_true,if_false];refine wpAny_bind (wpAny_alloc (wpAny_bind (wpAny_layCells _ (λn kd cl=>by cases h:kd==NameKind.cell <;> simp [h]) _ _ _ _ ?_)));have z:({s with heap:=s.heap.push {cls:=.type "frame",data:=.dict #[]}}:Shared).heap.objs.size=s.heap.objs.size+1:=yad ..;rw [z,Jmo];have ok:=cellsFrom_ok scope.names (s.heap.push {cls:=.type "frame",data:=.dict #[]}) (s.heap.objs.size+1) [] ⟨λ_ _ hm=>(nomatch hm),.nil⟩ (ybx z.symm);rw [show (s.heap.push {cls:=.type "frame",data:=.dict #[]}).objs.size=s.heap.objs.size+1 from yad ..] at ok;refine wpAny_bind (Jxz (s₀:=s) (cs:=cellsFrom (s.heap.objs.size+1) scope.names []) (env:=newEnv scope s.heap.objs.size globals (cellsFrom (s.heap.objs.size+1) scope.names []++clos) qual func code none builtins) _ (λ_ _ _=>rfl) hk (λn c e=>?_) bs (λ_=>none) (λ_=>none) _ _ ?_ hb λs' x=>wpAny_pure (hQ _ rfl s' x))
 ·show (cellsFrom (s.heap.objs.size+1) scope.names []++clos).lookup n=some c;rw [Jmj,e];rfl
 ·exact ⟨⟨⟨_,_,rfl⟩,(Heap.Ns.new s.heap (.type "frame")).keeps (pushCells_keeps _ _),λb o e=>pushCells_keeps _ _ b o (yj _ e),yi _⟩,λn c hc=>(ok.empty n c (mem_of_lookup hc)).1,ok.apart,λn c hm=>(ok.empty n c hm).2⟩
end
end L2
namespace L2
open PySem PySem.Spec PyProof.Rows
structure Jo6 (N ps fr:List Str) (sc:Scope):Prop where
 kind:sc.kind= .function
 co:sc.isCoroutine=false
 gen:sc.isGenerator=false
 nd:N.Nodup
 pre:N.take (ps.length+fr.length)=ps++fr
 par:∀x∈ps,sc.names.lookup x=some .local\/sc.names.lookup x=some .cell
 frs:∀x∈fr,sc.names.lookup x=some .free
 nof:∀y∈sc.names,y.2= .cell->sc.names.lookup y.1=some .cell
noncomputable def Jwm (CX:CXT) (P:Program) (w:World) (K:PySem.W.Frag) (mg:Str->Option Value) (base:Heap) (N:List Str) (qual:Str) (scope:Scope) (clos:List (Str×Addr)) (f:Addr) (cd:Value) (A:Around) (outer:List Env) (s:Shared) (H:Hp) (E:XK):Cx where
 prog:=P
 w:=w
 K:=K
 mg:=mg
 base:=base
 A:=A.deeper (PySem.W.envX qual scope s.heap.objs.size f cd (cellsFrom (s.heap.objs.size+1) scope.names []++clos))
 N:=N
 s₀:=s
 H₀:=H
 env:=PySem.W.envX qual scope s.heap.objs.size f cd (cellsFrom (s.heap.objs.size+1) scope.names []++clos)
 outer:=outer
 stack:=PySem.W.envX qual scope s.heap.objs.size f cd (cellsFrom (s.heap.objs.size+1) scope.names []++clos)::outer
 ex:=[]
 calm:=true
 fn:=λx=>decide (scope.names.lookup x=some .cell)
 pn:=[]
 xe:=λe s'=>wpAny (model P w) (A.deeper (PySem.W.envX qual scope s.heap.objs.size f cd (cellsFrom (s.heap.objs.size+1) scope.names []++clos))) (leaving (PySem.W.envX qual scope s.heap.objs.size f cd (cellsFrom (s.heap.objs.size+1) scope.names []++clos)) e) (λ_ s''=>CX outer H s E e s'') (λe' s''=>CX outer H s E e' s'') s'
theorem Ya2 {N:List Str} {vs:List V} {i:Nat} {v:V} (h:(start N vs)[i]?=some (some v)):vs[i]?=some v:=by
 unfold start at h;by_cases hi:i < vs.length
 ·rw [ycc (by simpa using hi),ym] at h;cases e:vs[i]? with
  |none=>rw [e] at h;cases h
  |some a=>rw [e] at h;cases h;rfl
 ·rw [ycb (by simpa using hi),ycr] at h;split at h <;> cases h
theorem Jy3 {CX:CXT} {P:Program} {w:World} {K:PySem.W.Frag} {mg:Str->Option Value} {base:Heap} {N ps fr:List Str} {qual:Str} {scope:Scope} {clos:List (Str×Addr)} {f:Addr} {cd:Value} {A:Around} {outer:List Env} {s s1:Shared} {H:Hp} {E:XK} {us:List Value} {vs cs:List V}
  (S:Jo6 N ps fr scope) (hd:A.handled=none) (e0:Env0 P w K mg base A outer s H) (hl:vs.length=ps.length) (hlc:cs.length=fr.length) (r:Vals vs us)
  (inj:∀x y b,clos.lookup x=some b->clos.lookup y=some b->x=y) (has:∀y∈scope.names,y.2= .free->∃b,clos.lookup y.1=some b) (cel:∀x b,clos.lookup x=some b->∃v,CelAt H b v) (cap:∀x v,(x,v)∈fr.zip cs->∃b,clos.lookup x=some b/\CelAt H b v)
  (x:InCallC s s.heap.objs.size (bindL (PySem.W.envX qual scope s.heap.objs.size f cd (cellsFrom (s.heap.objs.size+1) scope.names []++clos)).kindOf (ps.zip us) λ_=>none) (cellsFrom (s.heap.objs.size+1) scope.names []) (bindC (PySem.W.envX qual scope s.heap.objs.size f cd (cellsFrom (s.heap.objs.size+1) scope.names []++clos)).kindOf (ps.zip us) λ_=>none) s1):
  Inv (Jwm CX P w K mg base N qual scope clos f cd A outer s H E) [] (start N (vs++cs)) H s1:=by
 have hpl:ps.length+fr.length<=N.length:=by have:=congrArg List.length S.pre;rw [yaj,yas] at this;omega
 obtain ⟨h1,tk,rfl,hk⟩:=x.done;have noA:∀b:Addr,b∉(Jwm CX P w K mg base N qual scope clos f cd A outer s H E).ex:=λb z=>absurd (show b∈([]:List Addr) from z) (by simp);have cobj:∀b v,CelAt H b v->∃o u,H b=some (celF o)/\s.heap.get? b=some o/\o.data= .cell (some u)/\RelV v u:=λb v ⟨o,u,q1,q2,q3⟩=>⟨o,u,q1,(e0.hok b _ q1).1,q2,q3⟩;have two:∀y b,(cellsFrom (s.heap.objs.size+1) scope.names []++clos).lookup y=some b->(cellsFrom (s.heap.objs.size+1) scope.names []).lookup y=some b\/((cellsFrom (s.heap.objs.size+1) scope.names []).lookup y=none/\clos.lookup y=some b):=λy b e=>by
  rw [Jmj] at e;cases q:(cellsFrom (s.heap.objs.size+1) scope.names []).lookup y with
  |none=>rw [q] at e;exact .inr ⟨rfl,e⟩
  |some d=>rw [q] at e;exact .inl e
 have low:∀y b,clos.lookup y=some b->b < s.heap.objs.size:=λy b e=>by
  obtain ⟨v,q⟩:=cel y b e;obtain ⟨o,u,_,q2,_⟩:=cobj b v q;exact yg q2
 have high:∀y b,(cellsFrom (s.heap.objs.size+1) scope.names []).lookup y=some b->s.heap.objs.size < b:=λy b e=>x.above y b (PySem.mem_of_lookup e);refine ⟨⟨e0.mod,S.kind,rfl,rfl,yi _,λy z c h1 h2=>?_,λy hy=>?_,λy c hy h=>?_,λ_=>hd,Around.frames_deeper e0.frames,.inr ⟨rfl,rfl⟩,λb z=>absurd z (noA b),e0.bs,e0.bsz,λb _ _=>noA b,λb z=>absurd z (noA b),e0.funs,e0.frf⟩,
  rfl,e0.bare,Un.kept hk,⟨_,x.toInCall.ns,λi y v h1 h2 h3=>?_⟩,λy c h=>?_,e0.hok.fresh (yi _),λy c h=>?_,λp hp=>absurd (show p∈([]:List (Addr×Obj)) from hp) (by simp),e0.hok.kept hk,?_⟩
 ·rcases two y c h1 with a|⟨_,a⟩
  ·rcases two z c h2 with b|⟨_,b⟩
   ·exact name_of_addr x.apart (PySem.mem_of_lookup a) (PySem.mem_of_lookup b)
   ·exact absurd (ybp (high y c a) (low z c b)) (yay _)
  ·rcases two z c h2 with b|⟨_,b⟩
   ·exact absurd (ybp (high z c b) (low y c a)) (yay _)
   ·exact inj y z c a b
 ·have hy:scope.names.lookup y=some .cell\/scope.names.lookup y=some .free:=hy;show ∃c,(cellsFrom (s.heap.objs.size+1) scope.names []++clos).lookup y=some c;rw [Jmj];cases q:(cellsFrom (s.heap.objs.size+1) scope.names []).lookup y with
  |some d=>exact ⟨d,rfl⟩
  |none=>
   rcases hy with hy|hy
   ·obtain ⟨c,e⟩:=Jnl (n:=s.heap.objs.size+1) hy;rw [q] at e;cases e
   ·exact has _ (PySem.mem_of_lookup hy) rfl
 ·rcases two y c h with a|⟨a,_⟩
  ·exact yaq (high y c a)
  ·have hy':decide (scope.names.lookup y=some .cell)=true:=hy;obtain ⟨c',e⟩:=Jnl (n:=s.heap.objs.size+1) (of_decide_eq_true hy');rw [a] at e;cases e
 ·have ha:=Ya2 h2;have h1:N[i]?=some y:=h1;have hi:i < vs.length+cs.length:=by have:=(yq.mp ha).1;rw [yas] at this;exact this
  have hp:(ps++fr)[i]?=some y:=by rw [<-S.pre,List.getElem?_take_of_lt (by omega)];exact h1
  by_cases hv:i < vs.length
  ·rw [ycc hv] at ha;rw [ycc (by omega)] at hp;obtain ⟨u,hu,rv⟩:=r.get ha;have ndP:ps.Nodup:=(List.nodup_append.mp (by rw [<-S.pre];exact S.nd.sublist (List.take_sublist _ _))).1;refine ⟨u,rv,?_⟩;rcases S.par y (yaa hp) with k|k
   ·exact .inl ⟨k,Jr3 ndP hp hu k⟩
   ·obtain ⟨c,e⟩:=Jnl (n:=s.heap.objs.size+1) k;refine .inr ⟨.inl k,c,?_,?_⟩
    ·show (cellsFrom (s.heap.objs.size+1) scope.names []++clos).lookup y=some c;rw [Jmj,e];rfl
    ·have q:=x.cell y c e;rw [Jr2 ndP hp hu (by show scope.names.lookup y≠_;rw [k];decide)] at q;exact q
  ·rw [ycb (by omega)] at ha;rw [ycb (by omega)] at hp;obtain ⟨b,e1,e2⟩:=cap y v (yaa (i:=i - vs.length) (by rw [ycs];exact ⟨by rw [hl];exact hp,ha⟩));have kf:=S.frs y (yaa hp);obtain ⟨o,u,_,q2,q3,q4⟩:=cobj b v e2;refine ⟨u,q4,.inr ⟨.inr kf,b,?_,o,hk _ _ q2,q3⟩⟩;show (cellsFrom (s.heap.objs.size+1) scope.names []++clos).lookup y=some b;rw [Jmj];cases q:(cellsFrom (s.heap.objs.size+1) scope.names []).lookup y with
   |none=>exact e1
   |some d=>
    have:=S.nof _ (Jnr scope.names _ [] q rfl) rfl;rw [kf] at this;cases this
 ·rcases two y c h with a|⟨_,a⟩
  ·exact ⟨_,x.cell y c a⟩
  ·obtain ⟨v,q⟩:=cel y c a;obtain ⟨o,u,_,q2,q3,_⟩:=cobj c v q;exact ⟨_,o,hk _ _ q2,q3⟩
 ·rcases two y c h with a|⟨a1,a⟩
  ·exact .inl (e0.hok.fresh (yaq (high y c a)))
  ·obtain ⟨v,q⟩:=cel y c a;obtain ⟨o,u,q1,_⟩:=cobj c v q;refine .inr ⟨decide_eq_false λz=>?_,o,q1⟩;obtain ⟨c',e⟩:=Jnl (n:=s.heap.objs.size+1) z;rw [a1] at e;cases e
 ·unfold start;show _=N.length;rw [yas,yf,ybs,yas];omega
structure CloOk (P:Program) (w:World) (K:PySem.W.Frag) (mg:Str->Option Value) (base:Heap) (CX:CXT) (k:Nat) (f:Addr) (sp:Sp):Prop where
 isf:∀vs H Q E,sp vs H Q E->IsF H f
 run:∀(A:Around) (outer:List Env) (s:Shared) (H:Hp) (us:List Value) (vs:List V) (Q:VK) (E:XK),Room k A->Env0 P w K mg base A outer s H->Vals vs us->sp vs H Q E->codeAny (model P w) A (.call (.ref f) ⟨us,[]⟩) (CR CX outer P w H s Q E) s
noncomputable def Jzn (name qual:Str) (st:Stmt) (fr:List Str) (sp:List V->Sp) (f:Addr):Sp:=λvs H Q E=>∃cs,CloAt H f name qual st (fr.zip cs)/\sp cs vs H Q E
theorem Yaj {CX:CXT} {P:Program} {w:World} {K:PySem.W.Frag} {mg:Str->Option Value} {base:Heap} {k:Nat} {name qual:Str} {st:Stmt} {N ps fr:List Str} {sp:List V->Sp} (S:Jo6 N ps fr (Jju st))
  (hb:∀(clos:List (Str×Addr)) (doc pm:Value) (c:Addr) (ct:Value) (us:List Value),us.length=ps.length->bindArgs (PySem.W.fnX name qual (Jl0 st) (Jks st) (Jju st) clos .none .none doc pm none (.ref c) ct) ⟨us,[]⟩=pure (ps.zip us))
  (len:∀cs vs H Q E,sp cs vs H Q E->vs.length=ps.length/\cs.length=fr.length)
  (hbody:∀(f c:Addr) (clos:List (Str×Addr)) (A:Around) (outer:List Env) (s:Shared) (H:Hp) (vs cs:List V) (Q:VK) (E:XK),Room k (A.deeper (PySem.W.envX qual (Jju st) s.heap.objs.size f (.ref c) (cellsFrom (s.heap.objs.size+1) (Jju st).names []++clos)))->sp cs vs H Q E->
   ∃t,PSs (Jwm CX P w K mg base N qual (Jju st) clos f (.ref c) A outer s H E) (Jks st) t/\t {nx:=λ_ H'=>Q .non H',rt:=Q} (start N (vs++cs)) H) (f:Addr):
  CloOk P w K mg base CX (k+1) f (Jzn name qual st fr sp f):=by
 refine ⟨λvs H Q E ⟨cs,h,_⟩=>h.isf,λA outer s H us vs Q E hr e0 r zq=>?_⟩;obtain ⟨cs,⟨clos,c,h1,h2,h3,h4,h5,h6⟩,hsp⟩:=zq;obtain ⟨hl,hlc⟩:=len _ _ _ _ _ hsp;have hlu:us.length=ps.length:=by rw [<-r.length];exact hl
 have lim:s.heap.NoLimit:=e0.mod.nolimit.keeps λb o e=>(e0.bs b o e).1;obtain ⟨⟨doc,pm,ct,ho⟩,_⟩:=e0.hok f _ h1;refine codeAny_call_function hr.depth ho rfl S.co S.gen rfl (show s.heap.CodeRec (.ref c) qual from e0.hok c _ h2) ?_;rw [hb clos doc pm c ct us hlu];refine wpAny_pure (Ydc S.kind (λ⟨y,v⟩ hy=>?_) λenv he s1 z=>?_)
 ·exact (S.par y (List.of_mem_zip hy).1).imp id λq=>⟨q,PySem.W.cellsFrom_some _ _ _ (.inl q)⟩
 subst he;refine ⟨lim.keeps z.toInCall.keep,codeAny_func ?_⟩;obtain ⟨t,ht,hq⟩:=hbody f c clos A outer s H vs cs Q E (hr.deeper _) hsp;refine wpAny_mono (ht [] s1 (start N (vs++cs)) H _ (Jy3 S hr.hd e0 hl hlc r h3 h4 h5 h6 z) hq) (λfl s' hs=>?_) λe s' hs=>hs;cases fl with
 |ret u=>
  obtain ⟨v,σ',H',J,rv,q⟩:=hs;exact ⟨v,H',J.os,J.bare,J.base,J.hok,rv,q⟩
 |next=>
  obtain ⟨σ',H',J,q⟩:=hs;exact ⟨.non,H',J.os,J.bare,J.base,J.hok,rfl,q⟩
 |brk=>
  obtain ⟨_,_,_,q⟩:=hs;exact False.elim q
 |cont=>
  obtain ⟨_,_,_,q⟩:=hs;exact False.elim q
theorem Yct {P:Program} {w:World} {K:PySem.W.Frag} {mg:Str->Option Value} {base:Heap} {N:List Str} {qual:Str} {scope:Scope} {clos:List (Str×Addr)} {f:Addr} {cd:Value} {A:Around} {outer:List Env} {s:Shared} {H:Hp} {E:XK}:
  Jro (Jwm (CXX P w) P w K mg base N qual scope clos f cd A outer s H E) (λ_=>E):=by
 intro pins σ H1 s1 e C dx fr I q hfl hE;show wpAny _ _ (leaving _ _) _ _ _;unfold leaving;refine wpAny_bind (Jvo I ⟨rfl,rfl⟩ I.ok.frames q hfl λs2 I2 f2=>Jnm I2 Jjq f2 λs3 I3 f3=>?_);obtain ⟨oe,vs,T,oT,ts,z1,z2,z3,z4,z5,z6,z7,z8,_⟩:=f3;exact ⟨e,C,dx,_,rfl,I3.os,I3.bare,I3.base,I3.hok,Jjq,⟨oe,vs,T,oT,ts,z1,z2,z3,z4,z5,z6,z7,z8⟩,hE⟩
noncomputable def Jyw (i:Nat) (sp:Addr->Sp) (R:St->XK) (t:TA):TE:=λσ H Q=>∃f,σ[i]?=some (some (.ref f))/\t σ H λvs H1=>sp f vs H1 Q (R σ)
section
variable {X:Cx} {CX:CXT} {k j i:Nat} {sp:Addr->Sp} {x:Str} {p pos:Pos} {e:Expr} {es:List Expr} {t:TA} {R:St->XK}
theorem Ju3 (G:∀f,CloOk X.prog X.w X.K X.mg X.base CX k f (sp f)) (hr:Room j X.A) (hk:k<=j) (hx:∀pins σ H s e s',Inv X pins σ H s->CX X.stack H s (R σ) e s'->X.xe e s') (ha:PA X (e::es) t) (hN:X.N[i]?=some x) (hv:Vis X.env.scope x)
  (hd:(x==("__debug__" :Str))=false) (hcd:(x==("__classdict__" :Str))=false) (he:starEach (e::es) X.env=(false,eval e X.env)::starEach es X.env) (hpl:(backTo pos (starEach es X.env)).any (·.1)=false):
  PE X (.Call (.Name x p) (e::es) [] pos) (Jyw i sp R t):=by
 intro pins s σ H Q I h;obtain ⟨f,hf,h⟩:=h;refine wpAny_Call_Name_kw (thn (Ybd hN hv hd hcd pins s σ H (λv H'=>v= .ref f/\H'=H) I ⟨_,hf,rfl,rfl⟩) λu s1 zq=>?_);obtain ⟨v,H',I1,r,e1,e2⟩:=zq;subst e1 e2;cases r;have hat:∀{s2:Shared} {H2:Hp},Inv X pins σ H2 s2->IsF H2 f->PySem.W.FnAt f s2.heap:=λJ ⟨name,qual,st,clos,c,z⟩=>by
  obtain ⟨⟨doc,pm,ct,q⟩,_⟩:=J.hok f _ z;exact ⟨_,_,_,_,q⟩
 rw [he];refine PySem.W.callWith_of (P:=PySem.W.FnAt f) (by show ((false||(backTo pos (starEach es X.env)).any (·.1))||false)=false;rw [hpl];rfl) PySem.W.keeps_F (Calls.evalArgs_plain ?_);have ha':=ha pos pins s1 σ H' _ I1 h;rw [he] at ha';refine thn ha' λus s2 ⟨vs,H2,I2,r2,q2⟩=>⟨hat I2 ((G f).isf _ _ _ _ q2),?_⟩;refine wpAny_call (codeAny_mono ((G f).run X.A X.stack s2 H2 us vs Q (R σ) (hr.mono hk) I2.env0 r2 q2) λr s' hq=>?_);cases r with
 |error e=>exact hx pins σ H2 s2 e s' I2 hq
 |ok fl=>
  cases fl with
  |ret u=>exact I2.after hq
  |next=>exact False.elim hq
  |brk=>exact False.elim hq
  |cont=>exact False.elim hq
theorem Jqm (G:∀f,CloOk X.prog X.w X.K X.mg X.base CX0 k f (sp f)) (hr:Room j X.A) (hk:k<=j) (i:Nat) (ha:PA X (e::es) t) (hN:X.N[i]?=some x:=by rfl) (hv:Vis X.env.scope x:=by first|exact ye rfl|exact Or.inr (ye rfl)|exact Or.inr (Or.inr rfl))
  (hd:(x==("__debug__" :Str))=false:=by decide) (hcd:(x==("__classdict__" :Str))=false:=by decide) (he:starEach (e::es) X.env=(false,eval e X.env)::starEach es X.env:=by rfl) (hpl:(backTo pos (starEach es X.env)).any (·.1)=false:=by rfl):
  PE X (.Call (.Name x p) (e::es) [] pos) (Jyw i sp (λ_=>E0) t):=Ju3 G hr hk (λ_ _ _ _ _ _ _ z=>z.elim) ha hN hv hd hcd he hpl
end
end L2
namespace L2
open PySem PySem.Spec PyProof.Rows
theorem nst_mk {K:PySem.W.Frag} {f c P:Addr} {oc:Value} {od od':Option Addr} {fd:FuncData} {sl sl':Array (Option Value)} {vs:Array Value} (l:K.lookup f=some ⟨oc,od,.func fd,sl⟩) (e:fd.code= .ref c)
  (lc:K.lookup c=some ⟨.type "code",od', .fields vs,sl'⟩) (_:vs[11]?=some (.ref P)) (hb:cdfB vs c P=true):Nst K f c P:=⟨⟨oc,od,fd,sl,l,e⟩,⟨od',vs,sl',lc,hb⟩⟩
theorem Jus {β:Type}:∀{l:List (Addr×β)},(l.map (·.1)).Nodup->∀p∈l,l.lookup p.1=some p.2
 |q::r,h,p,hp=>by
  have h':(q.1::r.map (·.1)).Nodup:=h;obtain ⟨h1,h2⟩:=yba.mp h';rw [ybb];rcases yo.mp hp with rfl|hp
  ·rw [beq_self_eq_true]
  ·have ne:(p.1==q.1)=false:=beq_eq_false_iff_ne.mpr λz=>h1 (by rw [<-z];exact List.mem_map_of_mem hp);rw [ne];exact Jus h2 p hp
theorem Jss {β:Type}:∀{l:List (Addr×β)} {a:Addr} {v:β},l.lookup a=some v->(a,v)∈l
 | (b,x) :: r,a,v,e=>by
  rw [ybb] at e;cases hb:a==b with
  |true=>rw [hb] at e;cases e;rw [eq_of_beq hb];exact .head _
  |false=>rw [hb] at e;exact .tail _ (Jss e)
theorem Yb {P:Program} {w:World} {K:PySem.W.Frag} {mg mb:Str->Option Value} {CX:CXT} {k:Nat} {fa a:Addr} {fd:FuncData} {x:Str} {sp:Sp} {s₁:Shared} {vs:List Value} {ns:List Int} {tabs:List (Addr×Array (Nat×Nat×Str))}
  (KX:K.In s₁.heap) (hns:s₁.heap.Ns mainGlobals mg) (hb:s₁.heap.Ns builtinsNs mb) (hbb:∀x:Str,x≠"__name__" ->mb x=bootBuiltins x) (hlim:s₁.heap.NoLimit) (hg:s₁.gens= #[])
  (ha:s₁.heap.get? a=some {cls:=.type "list",data:=.seq vs.toArray}) (hi:IntsAre vs ns) (hl:ns.length<=sizeLine) (hr:Room k callerA)
  (hT:∀p∈tabs,isCodeTable s₁.heap p.1/\s₁.heap.get? p.1=some (PySem.W.tabObj #[])) (hnd:(tabs.map (·.1)).Nodup) (hK:PySem.W.noTabs K=true) (hbm:Bmn mg s₁.heap)
  (F:∀base:Heap,K.In base->base.Ns mainGlobals mg->Bmn mg base->FnOk P w K mg base CX k fa fd [x] sp) (hbind:∀(s:Shared) (u:Value),BindsTo s fd ⟨[u],[]⟩ [(x,u)])
  (hsp:∀H:Hp,(∀p∈tabs,H p.1=some (.tbl p.2))->SqL K H a (ns.map V.int)->sp [.ref a] H (λv _=>v= .bl true) λ_ _ _=>False)
  (hCX:∀H e s',CX [] H s₁ (λ_ _ _=>False) e s'->False):
  codeAny (model P w) callerA (.call (.ref fa) ⟨[.ref a],[]⟩) (λr s'=>r= .ok (.ret (.bool true))/\OldK s₁.heap s'.heap/\s'.os=s₁.os/\AllBare s'.gens) s₁:=by
 have rv:=Jv7 hi;have lenV:=hi.length;let so:Obj:={cls:=.type "list",data:=.seq vs.toArray};let H:Hp:=λb=>if b=a/\K.lookup a=none then some (.frz so (.lst (ns.map V.int))) else (tabs.lookup b).map HO.tbl
 have three:∀b,H b=none\/(b=a/\K.lookup a=none/\H b=some (.frz so (.lst (ns.map V.int))))\/∃lb,(b,lb)∈tabs/\H b=some (.tbl lb):=λb=>by
  by_cases h:b=a/\K.lookup a=none
  ·exact .inr (.inl ⟨h.1,h.2,if_pos h⟩)
  ·have e:H b=(tabs.lookup b).map HO.tbl:=if_neg h;cases q:tabs.lookup b with
   |none=>exact .inl (by rw [e,q];rfl)
   |some lb=>exact .inr (.inr ⟨lb,Jss q,by rw [e,q];rfl⟩)
 have hnon:∀b o,s₁.heap.get? b=some o->(∀xs n,o.data≠ .seq xs n)->(∀xs,o.data≠ .fields xs)->H b=none:=λb o e n1 n2=>by
  rcases three b with z|⟨rfl,_,_⟩|⟨lb,m,_⟩
  ·exact z
  ·rw [ha] at e;cases e;exact absurd rfl (n1 _ _)
  ·rw [(hT _ m).2] at e;cases e;exact absurd rfl (n2 _)
 have htb:∀p∈tabs,H p.1=some (.tbl p.2):=λp hp=>by
  have n:¬(p.1=a/\K.lookup a=none):=λz=>by
   have e:=(hT p hp).2;rw [z.1,ha] at e;cases e
  show (if p.1=a/\K.lookup a=none then _ else _)=_;rw [if_neg n,Jus hnd p hp];rfl
 have hok:HOk P w H s₁.heap:=λb u z=>by
  rcases three b with e|⟨rfl,_,e⟩|⟨lb,m,e⟩
  ·rw [e] at z;cases z
  ·rw [e] at z;cases z;exact ⟨ha,by rw [yf];exact hl,vs,_,rv,ha⟩
  ·rw [e] at z;cases z;exact ⟨#[],(hT _ m).2,True.intro⟩
 have hS:SqL K H a (ns.map V.int):=by
  cases hk:K.lookup a with
  |some o=>
   have e:=KX a o hk;rw [ha] at e;cases e;exact .inr ⟨_,vs.toArray,_,hk,rfl,rfl,rfl,by rw [yu,lenV];exact hl,by simpa using rv⟩
  |none=>exact .inl (.inr ⟨so,if_pos ⟨rfl,hk⟩⟩)
 have nsK:∀{b:Addr} {m:Str->Option Value},s₁.heap.Ns b m->(Jvg s₁.heap H).Ns b m:=λ{b m} ⟨o,es,ep,e,d,r⟩=>⟨o,es,ep,Jsl e (hnon b o e (λxs n z=>by rw [d] at z;cases z) λxs z=>by rw [d] at z;cases z),d,r⟩;have hKb:K.In (Jvg s₁.heap H):=λb o e=>Jsl (KX b o e) (by
  rcases three b with z|⟨rfl,z,_⟩|⟨lb,m,_⟩
  ·exact z
  ·rw [z] at e;cases e
  ·exfalso;have q:=KX b o e;rw [(hT _ m).2] at q;cases q;have h2:=yar.mp hK (b,_) (PySem.W.mem_of_lookupK e);exact absurd (show false=true from h2) yab)
 have hBb:Bmn mg (Jvg s₁.heap H):=by
  obtain ⟨bm,ob,b1,b2,b3,b4,b5,b6⟩:=hbm;exact ⟨bm,ob,b1,b2,Jsl b3 (hnon bm ob b3 (λxs n z=>by rw [b6] at z;cases z) λxs z=>by rw [b6] at z;cases z),b4,b5,b6⟩
 have hM:Mod K mg (Jvg s₁.heap H):=⟨hKb,nsK hns,⟨mb,nsK hb,hbb⟩,let ⟨mc,h1,h2⟩:=hlim;⟨mc,nsK h1,h2⟩⟩;have e0:Env0 P w K mg (Jvg s₁.heap H) callerA [] s₁ H:=⟨rfl,hM,λb o e=>Ydg e,ybx (Y2 _ _),trivial,λb hb=>absurd (show b∈([]:List Addr) from hb) (by simp),hok,.of_eq hg⟩;refine codeAny_mono ((F _ hKb (nsK hns) hBb).run callerA [] s₁ H ⟨[.ref a],[]⟩ [.ref a] [.ref a] _ _ hr e0 (hbind s₁ (.ref a)) (.cons rfl .nil) (hsp H htb hS)) λr s' h=>?_;cases r with
 |error e=>exact (hCX H e s' h).elim
 |ok fl=>
  cases fl with
  |next=>exact False.elim h
  |brk=>exact False.elim h
  |cont=>exact False.elim h
  |ret u=>
   obtain ⟨v,H',os,bare,un,hok',r',q⟩:=h;have q':v= .bl true:=q;subst q';obtain rfl:u=Value.bool true:=r';have all:∀b o,s₁.heap.get? b=some o->s'.heap.get? b=some o\/(isCodeTable s₁.heap b/\o=PySem.W.tabObj #[]/\∃ts,s'.heap.get? b=some (PySem.W.tabObj ts)):=λb o e=>by
    rcases three b with z|⟨rfl,_,z⟩|⟨lb,m,z⟩
    ·exact .inl (un.keep b o e z (by intro y;exact absurd (show b∈([]:List Addr) from y) (by simp)) (by simp))
    ·obtain ⟨e2,_⟩:=hok' _ _ (un.frzs _ _ _ z);rw [ha] at e;cases e;exact .inl e2
    ·obtain ⟨more,z2⟩:=un.tbls b lb z;obtain ⟨ts,e2,_⟩:=hok' b _ z2;have e3:=(hT _ m).2;rw [e] at e3;cases e3;exact .inr ⟨(hT _ m).1,rfl,ts,e2⟩
   refine ⟨rfl,⟨λb o e=>?_,λb o e=>?_⟩,os,bare⟩
   ·rcases all b o e with z|⟨t,rfl,ts,z⟩
    ·exact .inl z
    ·exact .inr (.inl ⟨t,rfl,#[],ts,rfl,by rw [Array.empty_append];exact z⟩)
   ·rcases all b o e with z|⟨t,rfl,ts,z⟩
    ·exact ⟨o,z⟩
    ·exact ⟨_,z⟩
noncomputable def Yad (q:Program) (K:PySem.W.Frag) (h:Heap):Prop:=∀(y:Str) (d:DefRec) (c P:Addr),(recsOf q).find? (λe=>e.name==y)=some d->PySem.W.tabIn K y=some (c,P)->PySem.W.CodeHd h c P/\h.get? P=some (PySem.W.tabObj #[])
theorem walk_ofT {l:PySem.W.OpenLaw} {n k:Nat} {q:Program} {loose:List Str} {XP:(Str->Option Value)->Heap->Prop} {YP:World->Heap->Prop} {d:DefRec} {K:Params->PySem.W.Frag} {CX:CXT} {x:Str}
  (hn:l.most=some n) (hn2:n<=sizeLine) (hdf:d.params.defaults= []) (hr:Room k callerA) (hY:∀(w:World) (h:Heap),YP w h->(K w.params).In h) (hK:∀w:World,PySem.W.noTabs (K w.params)=true)
  (F:∀(w:World) (mg:Str->Option Value) (fa:Addr) (h:Heap),(K w.params).In h->h.Ns mainGlobals mg->Yad q (K w.params) h->mg d.name=some (.ref fa)->
   ∃(fd:FuncData) (sp:Sp) (tabs:List (Addr×Array (Nat×Nat×Str))),(∀(s:Shared) (u:Value),BindsTo s fd ⟨[u],[]⟩ [(x,u)])/\(∀p∈tabs,isCodeTable h p.1/\h.get? p.1=some (PySem.W.tabObj #[]))/\(tabs.map (·.1)).Nodup/\
    (∀base:Heap,(K w.params).In base->base.Ns mainGlobals mg->Bmn mg base->FnOk l.prog w (K w.params) mg base CX k fa fd [x] sp)/\
    ∀(H:Hp) (a:Addr) (ns:List Int),ns.length<=n->(∀p∈tabs,H p.1=some (.tbl p.2))->SqL (K w.params) H a (ns.map V.int)->sp [.ref a] H (λv _=>v= .bl true) λ_ _ _=>False)
  (hCX:∀(H:Hp) (s:Shared) (e:Value) (s':Shared),CX [] H s (λ_ _ _=>False) e s'->False):
  PySem.W.WalkO q loose XP YP l.row.toRowW d [] (λf vs=>PySem.call f vs):=by
 refine Att.attach_call hn hdf λw s₀ s₁ mg mb fa o pm cd doc a vs ns G Y ho hd hcd hmg hobj hints hlen hg=>?_;have KX:=hY w _ Y;obtain ⟨fd,sp,tabs,hb,hT,hnd,hF,hsp⟩:=F w mg fa _ KX G.T.g (λy d c P e1 e2=>PySem.W.tab_of G.T KX e1 e2) hmg;exact Yb KX G.T.g G.T.b G.T.builtins G.T.nolimit hg hobj hints (yai hlen hn2) hr hT hnd (hK w) G.T.bmain hF hb (λH h1 h2=>hsp H a ns hlen h1 h2) λH e s'=>hCX H s₁ e s'
theorem tab_kn {q:Program} {K:PySem.W.Frag} {h:Heap} {c P:Addr} {y:Str} {d:DefRec} (T:Yad q K h) (e1:(recsOf q).find? (λe=>e.name==y)=some d) (e2:PySem.W.tabIn K y=some (c,P)):isCodeTable h P/\h.get? P=some (PySem.W.tabObj #[]):=
 let ⟨a,b⟩:=T y d c P e1 e2
 ⟨(a.tab b).isCodeTable,b⟩
end L2
namespace L2
open PySem PySem.Spec PyProof.Rows PySem.W
theorem Yau {K:PySem.W.Frag} {l1 l2:Addr} {b1 b2:Bool} {xs ys:List V} {g:TG} {tb:TS} {D:Ends} {σ:St} {H:Hp} (Pv:Nat->St->Hp->Prop) (h0:Pv 0 σ H) (hl:∀i σ H,i<=xs.length->Pv i σ H->SqB K H l1 b1 xs/\SqB K H l2 b2 ys) (e1:xs.length=ys.length)
  (hs:∀i x y σ H T,xs[i]?=some x->ys[i]?=some y->Pv i σ H->H T=none->g (.ref T) σ (upd H T (.tup [x,y])) λσ2 H2=>tb {D with nx:=Pv (i+1),ct:=Pv (i+1),bk:=D.nx} σ2 H2) (hd:∀σ H,Pv xs.length σ H->D.nx σ H):
  ∃W:Nat->Nat->St->Hp->Prop,(∃m,W 0 m σ H)/\∀i m σ H,W i m σ H->((Jwe K l1 l2 b1 b2).stop i H/\D.nx σ H)\/((Jwe K l1 l2 b1 b2).go i H/\∃N:St->Hp->Prop,(∀σ' H',N σ' H'->∃m',m' < m/\W (i+1) m' σ' H')/\
   ∀x H',(Jwe K l1 l2 b1 b2).yld i H x H'->g x σ H' λσ2 H2=>tb {D with nx:=N,ct:=N,bk:=D.nx} σ2 H2):=by
 refine ⟨λi m σ H=>m=xs.length - i/\i<=xs.length/\Pv i σ H,⟨xs.length,by simp,yan _,h0⟩,?_⟩;rintro i m σ H ⟨rfl,hi,p⟩;obtain ⟨q1,q2⟩:=hl i σ H hi p;by_cases hlt:i < xs.length
 ·refine .inr ⟨⟨xs,ys,q1,q2,e1,hlt⟩,Pv (i+1),λσ' H' p'=>⟨xs.length - (i+1),by omega,rfl,hlt,p'⟩,λx H' y=>?_⟩;obtain ⟨T,u,v,hT,rfl,hu,hv,rfl⟩:=y;exact hs i u v σ _ T (hu xs q1) (hv ys q2) p hT
 ·have e:i=xs.length:=by omega
  subst e;exact .inl ⟨⟨xs,ys,q1,q2,e1,rfl⟩,hd σ H p⟩
theorem Ycy {P:Program} {w:World} {K:PySem.W.Frag} {mg:Str->Option Value} {base:Heap} {k:Nat} {name qual:Str} {st:Stmt} {N ps fr:List Str} {sp:List V->Sp} (S:Jo6 N ps fr (Jju st))
  (hb:∀(clos:List (Str×Addr)) (doc pm:Value) (c:Addr) (ct:Value) (us:List Value),us.length=ps.length->bindArgs (PySem.W.fnX name qual (Jl0 st) (Jks st) (Jju st) clos .none .none doc pm none (.ref c) ct) ⟨us,[]⟩=pure (ps.zip us))
  (len:∀cs vs H Q E,sp cs vs H Q E->vs.length=ps.length/\cs.length=fr.length)
  (hbody:∀(f c:Addr) (clos:List (Str×Addr)) (A:Around) (outer:List Env) (s:Shared) (H:Hp) (vs cs:List V) (Q:VK) (E:XK),Room k (A.deeper (PySem.W.envX qual (Jju st) s.heap.objs.size f (.ref c) (cellsFrom (s.heap.objs.size+1) (Jju st).names []++clos)))->sp cs vs H Q E->
   ∃t,PSs (Jwm CX0 P w K mg base N qual (Jju st) clos f (.ref c) A outer s H E).nox (Jks st) t/\t {nx:=λ_ H'=>Q .non H',rt:=Q} (start N (vs++cs)) H) (f:Addr):CloOk P w K mg base CX0 (k+1) f (Jzn name qual st fr sp f):=
 Yaj S hb len (λf c clos A outer s H vs cs Q E hr h=>let ⟨t,h1,h2⟩:=hbody f c clos A outer s H vs cs Q E hr h;⟨t,h1.nox,h2⟩) f
theorem Yb2 {l c:Nat} {q:Str}:(l,c,q)∈ #[(l,c,q)]:=by simp
theorem Jzh {l c:Nat} {q q':Str} (h:(l,c,q')∈ #[(l,c,q)]):q'=q:=by simpa using h
noncomputable def nst (s:Stmt) (j:Nat):Stmt:=(Jks s).getD j (.Pass ⟨0,0,0,0⟩)
end L2
namespace L2
open PySem PySem.Spec PyProof.Rows PySem.W
theorem KV.get {kvs:List (Key×V)} {vs:List (Key×Value)} (r:KV kvs vs):∀{i:Nat} {k:Key} {x:V},kvs[i]?=some (k,x)->∃u,vs[i]?=some (k,u)/\RelV x u:=by
 induction r with
 |nil=>intro i k x h;simp at h
 | @cons a b l1 l2 h t ih=>
  intro i k x e;cases i with
  |zero=>
   obtain rfl:a=(k,x):=by simpa using e
   obtain ⟨k',u⟩:=b;obtain ⟨e1,e2⟩:=h;cases e1;exact ⟨u,rfl,e2⟩
  |succ j=>exact ih (by simpa using e)
theorem Jyl {P:Program} {w:World} {k:Key} {u:Value} (h:(Jk6 P w).is k u=true):RelV (kV k) u:=by
 rw [Jyb] at h;cases k with
 |inl i=>
  cases u <;> simp [Jrp,Value.isInt] at h;subst h;exact ⟨_,rfl⟩
 |inr x=>
  obtain ⟨t,e⟩:=Value.isStrOf_shape (x:=x) (v:=u) h;exact ⟨t,e⟩
section
variable {X:Cx} {pins:List (Addr×Obj)} {σ:St} {H:Hp} {s:Shared}
theorem Inv.frz {a:Addr} {o:Obj} {kvs:List (Key×V)} (I:Inv X pins σ H s) (e:H a=some (.dK kvs)) (ho:s.heap.get? a=some o):Inv X pins σ (upd H a (.frz o (.dK kvs))) s:=by
 have mu:Mut (H a):=by rw [e];trivial
 exact I.un (t':=s.toks) (Un.write mu (.inl rfl) (λb u _ q=>q) ⟨o,ho⟩) (HOk.write I.hok mu (.inl rfl) (λb u _ q=>q) ⟨o,ho⟩ ⟨ho,I.hok a _ e⟩)
theorem Jsj {a:Addr} {o:Obj} {kvs:List (Key×V)} (I:Inv X pins σ H s) (ea:H a=some (.frz o (.dK kvs))):
  kvs.length<=sizeLine/\(a==sysModules)=false/\∃vs es ep,KV kvs vs/\o.data= .dict es ep/\s.heap.DictAt (Jk6 X.prog X.w) a vs ep:=by
 obtain ⟨e1,z,hd,vs,rel,o',es,ep,e2,x,d,r⟩:=(show ObjOk X.prog X.w H s.heap a (.frz o (.dK kvs)) from I.hok a _ ea);rw [e1] at e2;cases e2;exact ⟨z,hd,vs,es,ep,rel,d,o,es,e1,x,d,r⟩
end
noncomputable def Itv (a:Addr) (o:Obj) (kvs:List (Key×V)):It:=
 ⟨λi H=>H a=some (.frz o (.dK kvs))/\i < kvs.length,λi H x H'=>H'=H/\∃k,kvs[i]?=some (k,x),λi H=>H a=some (.frz o (.dK kvs))/\kvs.length<=i⟩
noncomputable def VSt (it a:Addr) (o:Obj) (n i:Nat) (h:Heap):Prop:=∃es ep,o.data= .dict es ep/\h.IsValIter it a i n ep
theorem Ya6 {P:Program} {w:World} {K:PySem.W.Frag} {tg:Expr} (a it:Addr) (o:Obj) (kvs:List (Key×V)):Jqz P w K tg (Itv a o kvs) [it] it (VSt it a o kvs.length) where
 mem:=by simp
 obj:=λi h st b hb=>by
  have e:b=it:=by simpa using hb
  subst e;obtain ⟨es,ep,_,o',e,c,d⟩:=st;exact ⟨o',e,λv z=>by rw [d] at z;cases z⟩
 keep:=λi h h' st k=>by
  obtain ⟨es,ep,q,o',e,c,d⟩:=st;exact ⟨es,ep,q,o',k it (by simp) o' e,c,d⟩
 item:=by
  intro X hP hw hK hc i pins s σ H E I hf st hg;subst hP hw hK;obtain ⟨ea,hi⟩:=hg;obtain ⟨es,ep,ed,st⟩:=st;obtain ⟨_,_,vs,es',ep',rel,ed',da⟩:=Jsj I ea;rw [ed] at ed';cases ed';have hl:=rel.length;have hx:kvs[i]?=some (kvs[i].1,kvs[i].2):=by simp [hi]
  obtain ⟨u,hu,ru⟩:=rel.get hx;obtain ⟨f0,f1,f2,f3,f4,f5⟩:=hf it (by simp);rw [hl] at st;refine wpAny_pyNext_values_item st da hu λh' st' sb=>?_;have I1:Inv X pins σ H {s with heap:=h'}:=I.turned (t':=s.toks) (λb o hb e=>(sb.2 b hb).trans e) f0 f1 f3 f4 f5;obtain ⟨o',e,c,d⟩:=id st';exact ⟨u,rfl,Jws (s:={s with heap:=h'}) e c d (by decide) ⟨_,H,I1,ru,⟨rfl,_,hx⟩,⟨es,ep,ed,by rw [hl];exact st'⟩,λb hb=>(hf b hb).1⟩⟩
 done:=by
  intro X hP hw hK hc i pins s σ H E I hf st hg;subst hP hw hK;obtain ⟨ea,hi⟩:=hg;obtain ⟨es,ep,ed,st⟩:=st;obtain ⟨_,_,vs,es',ep',rel,ed',da⟩:=Jsj I ea;rw [ed] at ed';cases ed';have hl:=rel.length;obtain ⟨f0,f1,f2,f3,f4,f5⟩:=hf it (by simp);rw [hl] at st;exact wpAny_pyNext_values_end (I.ok.hd hc) st da (by simp;omega) λh' eb=>⟨rfl,I.turned (t':=s.toks) (λb o hb e=>eb b o hb e) f0 f1 f3 f4 f5⟩
 self:=λ_ _ _ _ _ st h=>let ⟨_,_,_,q⟩:=st;wpAny_pyIter_valiter q h
noncomputable def iVals (td:TE):TI:=λσ H R=>td σ H λx H1=>∃a o kvs,x= .ref a/\H1 a=some (.frz o (.dK kvs))/\R (Itv a o kvs) H1
theorem Ydi {X:Cx} {tg o:Expr} {td:TE} {apos cpos:Pos} (ho:PE X o td) (hbase:attributeBase o "values" X.env (eval o X.env)=eval o X.env:=by rfl) (hline:(apos.endLine==cpos.line)=true:=by rfl):
  PI X tg (.Call (.Attribute o "values" apos) [] [] cpos) (iVals td):=by
 intro pins s σ H R I h;refine wpAny_Call_method0_late hbase hline (thn (ho pins s σ H _ I h) λv s1 zq=>?_);obtain ⟨x,H1,I1,r1,q1⟩:=zq;obtain ⟨a,ob,kvs,rfl,ea,q⟩:=q1;obtain rfl:v=Value.ref a:=r1;obtain ⟨t1,t2,_⟩:=Yb1 I1 (.inl ⟨kvs,.inr ⟨ob,ea⟩⟩);refine ⟨"dict","dict.values",PySem.F.plainAttrs_dict,PySem.F.slot_dict_values,PySem.F.type_dict_values,t1,t2,Calls.callWith_builtin rfl (PySem.evalArgs_none ?_)⟩;obtain ⟨z,hd,vs,es,ep,rel,ed,da⟩:=Jsj I1 ea;refine call_meetsIn PySem.F.slot_dict_values da.dictOf.typeIs PySem.F.entry_dict_values (PySem.F.args_dict_values_1 _) (meets_dict_values (Jk6 X.prog X.w) a hd) ⟨⟨vs,da.dictOf⟩,?_⟩;refine wpAny_pyIter_values (knd:=Jk6 X.prog X.w) (d:=a) (kvs:=vs) (ep:=ep) ⟨_,yp _ rfl,rfl,rfl⟩ (da.keep λb o e=>yj _ e) ?_;refine ⟨_,[_],_,_,H1,rfl,I1.kept (t':=s1.toks) λb o e=>yj _ (yj _ e),Ya6 a _ ob kvs,⟨es,ep,ed,_,yp _ rfl,rfl,by rw [rel.length];rfl⟩,λb hb=>?_,q⟩;have le:s1.heap.objs.size<=b:=by
  rw [ybq.mp hb];simp [Heap.push]
 exact I1.fpOk le (I1.hok.fresh le)
noncomputable def Iti (a:Addr) (o:Obj) (kvs:List (Key×V)):It:=
 ⟨λi H=>H a=some (.frz o (.dK kvs))/\i < kvs.length,λi H x H'=>∃T k u,H T=none/\x= .ref T/\kvs[i]?=some (k,u)/\H'=upd H T (.tup [kV k,u]),λi H=>H a=some (.frz o (.dK kvs))/\kvs.length<=i⟩
noncomputable def ISt (it a:Addr) (o:Obj) (n i:Nat) (h:Heap):Prop:=∃es ep,o.data= .dict es ep/\∃ok ov,IsItemIter h it a i n ep ok ov
theorem Jyz {P:Program} {w:World} {K:PySem.W.Frag} {elts:List Expr} {kt:Nat} {pt:Pos} (a it:Addr) (o:Obj) (kvs:List (Key×V)):Jqz P w K (.Tuple elts kt pt) (Iti a o kvs) [it] it (ISt it a o kvs.length) where
 mem:=by simp
 obj:=λi h st b hb=>by
  have e:b=it:=by simpa using hb
  subst e;obtain ⟨es,ep,_,ok,ov,e⟩:=st;exact ⟨_,e,λv z=>by cases z⟩
 keep:=λi h h' st k=>by
  obtain ⟨es,ep,q,ok,ov,e⟩:=st;exact ⟨es,ep,q,ok,ov,k it (by simp) _ e⟩
 item:=by
  intro X hP hw hK hc i pins s σ H E I hf st hg;subst hP hw hK;obtain ⟨ea,hi⟩:=hg;obtain ⟨es,ep,ed,ok,ov,st⟩:=st;obtain ⟨_,_,vs,es',ep',rel,ed',da⟩:=Jsj I ea;rw [ed] at ed';cases ed';have hl:=rel.length;have hx:kvs[i]?=some (kvs[i].1,kvs[i].2):=by simp [hi]
  obtain ⟨u,hu,ru⟩:=rel.get hx;rw [hl] at st;refine wpAny_pyNext_items_item st da hu λkey h' hk st' tT sz kk=>?_;refine ⟨_,rfl,wpAny_letOwnedTupleGo_items (s:={s with heap:=h'}) st' λh'' st'' sb=>?_⟩;have ne:s.heap.objs.size≠it:=λw'=>absurd (yg st) (by rw [<-w'];exact yay _);have tT2:h''.get? s.heap.objs.size=some {cls:=.type "tuple",data:=.seq #[key,u]}:=(sb.2 _ ne).trans tT;refine ⟨.ref s.heap.objs.size,upd H s.heap.objs.size (.tup [kV kvs[i].1,kvs[i].2]),I.turnTup (ch:=[it]) (t':=s.toks) hf (λc o hc q=>(sb.2 c (by simpa using hc)).trans (kk c o (by simpa using hc) q)) (yi _)
   ⟨(show 2<=sizeLine by decide),[key,u],.cons (Jyl hk) (.cons ru .nil),⟨_,tT2,rfl,_,rfl⟩⟩,rfl,⟨_,_,_,I.hok.fresh (yi _),rfl,hx,rfl⟩,⟨es,ep,ed,_,_,by rw [hl];exact st''⟩,λc hc=>?_⟩
  have e:c=it:=by simpa using hc
  subst e;rw [Jjx (yk ne)];exact (hf c hc).1
 done:=by
  intro X hP hw hK hc i pins s σ H E I hf st hg;subst hP hw hK;obtain ⟨ea,hi⟩:=hg;obtain ⟨es,ep,ed,ok,ov,st⟩:=st;obtain ⟨_,_,vs,es',ep',rel,ed',da⟩:=Jsj I ea;rw [ed] at ed';cases ed';have hl:=rel.length;obtain ⟨f0,f1,f2,f3,f4,f5⟩:=hf it (by simp);rw [hl] at st;exact wpAny_pyNext_items_end (I.ok.hd hc) st da (by simp;omega) λh' eb=>⟨rfl,I.turned (t':=s.toks) (λb o hb e=>eb b o hb e) f0 f1 f3 f4 f5⟩
 self:=λ_ _ _ _ _ st h=>let ⟨_,_,_,_,_,q⟩:=st;kcp_self q h
noncomputable def iItems (td:TE):TI:=λσ H R=>td σ H λx H1=>∃a o kvs,x= .ref a/\H1 a=some (.frz o (.dK kvs))/\R (Iti a o kvs) H1
theorem Ybf {X:Cx} {elts:List Expr} {kt:Nat} {pt:Pos} {o:Expr} {td:TE} {apos cpos:Pos} (ho:PE X o td) (hbase:attributeBase o "items" X.env (eval o X.env)=eval o X.env:=by rfl) (hline:(apos.endLine==cpos.line)=true:=by rfl):
  PI X (.Tuple elts kt pt) (.Call (.Attribute o "items" apos) [] [] cpos) (iItems td):=by
 intro pins s σ H R I h;refine wpAny_Call_method0_late hbase hline (thn (ho pins s σ H _ I h) λv s1 zq=>?_);obtain ⟨x,H1,I1,r1,q1⟩:=zq;obtain ⟨a,ob,kvs,rfl,ea,q⟩:=q1;obtain rfl:v=Value.ref a:=r1;obtain ⟨t1,t2,_⟩:=Yb1 I1 (.inl ⟨kvs,.inr ⟨ob,ea⟩⟩);refine ⟨"dict","dict.items",PySem.F.plainAttrs_dict,PySem.F.slot_dict_items,PySem.F.type_dict_items,t1,t2,Calls.callWith_builtin rfl (PySem.evalArgs_none ?_)⟩;obtain ⟨z,hd,vs,es,ep,rel,ed,da⟩:=Jsj I1 ea;refine call_meetsIn PySem.F.slot_dict_items da.dictOf.typeIs PySem.F.entry_dict_items (PySem.F.args_dict_items_1 _) (meets_dict_items (Jk6 X.prog X.w) a hd) ⟨⟨vs,da.dictOf⟩,?_⟩;refine wpAny_pyIter_items (knd:=Jk6 X.prog X.w) (d:=a) (kvs:=vs) (ep:=ep) ⟨_,yp _ rfl,rfl,rfl⟩ (da.keep λb o e=>yj _ e) ?_;refine ⟨_,[_],_,_,H1,rfl,I1.kept (t':=s1.toks) λb o e=>yj _ (yj _ e),Jyz a _ ob kvs,⟨es,ep,ed,.none,.none,by rw [rel.length];exact yp _ rfl⟩,λb hb=>?_,q⟩;have le:s1.heap.objs.size<=b:=by
  rw [ybq.mp hb];simp [Heap.push]
 exact I1.fpOk le (I1.hok.fresh le)
section
variable {g:TG} {tt:TT} {te:TE} {H:Hp} {D:Addr} {σ:St} {R:Hp->Prop}
theorem Y0 {a:Addr} {o:Obj} {kvs:List (Key×V)} (Pv:Nat->St->Hp->Prop) (h0:Pv 0 σ H) (hl:∀i σ H,i<=kvs.length->Pv i σ H->H a=some (.frz o (.dK kvs)))
  (hs:∀i k x σ H,kvs[i]?=some (k,x)->Pv i σ H->g x σ H λσ3 H3=>tt σ3 H3 λb H4=>if b=true then te σ3 H4 (λv H5=>∃ys,H5 D=some (.lst ys)/\ys.length < sizeLine/\Pv (i+1) σ3 (upd H5 D (.lst (ys++ [v])))) else Pv (i+1) σ3 H4)
  (hd:∀σ H,Pv kvs.length σ H->R H):
  ∃W:Nat->Nat->St->Hp->Prop,(∃m,W 0 m σ H)/\∀i m σ' H',W i m σ' H'->((Itv a o kvs).stop i H'/\R H')\/((Itv a o kvs).go i H'/\∃N:St->Hp->Prop,(∀σ2 H2,N σ2 H2->∃m',m' < m/\W (i+1) m' σ2 H2)/\
   ∀x H2,(Itv a o kvs).yld i H' x H2->g x σ' H2 λσ3 H3=>tt σ3 H3 λb H4=>if b=true then te σ3 H4 (λv H5=>∃ys,H5 D=some (.lst ys)/\ys.length < sizeLine/\N σ3 (upd H5 D (.lst (ys++ [v])))) else N σ3 H4):=by
 refine ⟨λi m σ H=>m=kvs.length - i/\i<=kvs.length/\Pv i σ H,⟨kvs.length,by simp,yan _,h0⟩,?_⟩;rintro i m σ H ⟨rfl,hi,p⟩;have q:=hl i σ H hi p;by_cases hlt:i < kvs.length
 ·refine .inr ⟨⟨q,hlt⟩,Pv (i+1),λσ' H' p'=>⟨kvs.length - (i+1),by omega,rfl,hlt,p'⟩,λx H' y=>?_⟩;obtain ⟨e,k,y⟩:=y;subst e;exact hs i k x σ _ y p
 ·have e:i=kvs.length:=by omega
  subst e;exact .inl ⟨⟨q,yi _⟩,hd σ H p⟩
theorem Jy1 {a:Addr} {o:Obj} {kvs:List (Key×V)} (Pv:Nat->St->Hp->Prop) (h0:Pv 0 σ H) (hl:∀i σ H,i<=kvs.length->Pv i σ H->H a=some (.frz o (.dK kvs)))
  (hs:∀i k x σ H T,kvs[i]?=some (k,x)->Pv i σ H->H T=none->g (.ref T) σ (upd H T (.tup [kV k,x])) λσ3 H3=>tt σ3 H3 λb H4=>if b=true then te σ3 H4 (λv H5=>∃ys,H5 D=some (.lst ys)/\ys.length < sizeLine/\Pv (i+1) σ3 (upd H5 D (.lst (ys++ [v])))) else Pv (i+1) σ3 H4)
  (hd:∀σ H,Pv kvs.length σ H->R H):
  ∃W:Nat->Nat->St->Hp->Prop,(∃m,W 0 m σ H)/\∀i m σ' H',W i m σ' H'->((Iti a o kvs).stop i H'/\R H')\/((Iti a o kvs).go i H'/\∃N:St->Hp->Prop,(∀σ2 H2,N σ2 H2->∃m',m' < m/\W (i+1) m' σ2 H2)/\
   ∀x H2,(Iti a o kvs).yld i H' x H2->g x σ' H2 λσ3 H3=>tt σ3 H3 λb H4=>if b=true then te σ3 H4 (λv H5=>∃ys,H5 D=some (.lst ys)/\ys.length < sizeLine/\N σ3 (upd H5 D (.lst (ys++ [v])))) else N σ3 H4):=by
 refine ⟨λi m σ H=>m=kvs.length - i/\i<=kvs.length/\Pv i σ H,⟨kvs.length,by simp,yan _,h0⟩,?_⟩;rintro i m σ H ⟨rfl,hi,p⟩;have q:=hl i σ H hi p;by_cases hlt:i < kvs.length
 ·refine .inr ⟨⟨q,hlt⟩,Pv (i+1),λσ' H' p'=>⟨kvs.length - (i+1),by omega,rfl,hlt,p'⟩,λx H' y=>?_⟩;obtain ⟨T,k,u,hT,rfl,y,rfl⟩:=y;exact hs i k u σ _ T y p hT
 ·have e:i=kvs.length:=by omega
  subst e;exact .inl ⟨⟨q,yi _⟩,hd σ H p⟩
end
end L2
namespace L2
open PySem PySem.Spec PyProof.Rows PySem.W
theorem Jvk:typeLookup (.type "list") "keys" =pure none:=by rw [typeLookup_type,builtinLookup_eq_fast];kernel_rfl
section
variable {prog:Program} {w:World} {A:Around} {E:Value->Shared->Prop} {s:Shared} {a:Addr} {its:Array Value} {n:Nat}
theorem Jsn {Q:Option Value->Shared->Prop} (hx:s.heap.get? a=some {cls:=.type "list",data:=.seq its n}) (hA:A.handled=none)
  (h:∀h' tk,(∀b o,s.heap.get? b=some o->h'.get? b=some o)->Q none {s with heap:=h',toks:=tk}):
  wpAny (model prog w) A (getAttr? (.ref a) "keys") Q E s:=by
 obtain ⟨hp,g,d,tk,os⟩:=s;have hT:∀tk',(⟨hp,g,d,tk',os⟩:Shared).TypeIs (.ref a) "list" :=λ_=>⟨_,hx,rfl⟩;have f1:=sub_AttributeError;have f3:=PySem.F.slot_list_getattribute.lookup;have f4:=PySem.F.slot_list_getattribute.bind (.ref a);have f5:=am_list_getattr_none;unfold getAttr? getAttrBy? getAttrBy
 repeat (any_goals (first|assumption|exact hT _|((with_reducible show wpAny _ _ (call (Value.builtin "list.__getattribute__") _ _) _ _ _);refine call_meets PySem.F.slot_list_getattribute (hT _) am_entry_list_getattribute (PySem.F.args_list_getattribute_2 _ _) (meets_getattribute_miss_list a its n #[] "keys" _ Jvk (by decide) (by size_fits)) ⟨hx,hA,λh' tk' e hx'=>?_⟩)|wp_step))
 obtain ⟨t',u',he⟩:=hx'.there;show wpAny _ _ (getattributeRaised _ _ _ _ _ _ _) _ _ _;unfold getattributeRaised
 repeat (any_goals (first|assumption|wp_step))
 exact h _ _ hx'.keeps
end
theorem Juj:entryFor table "dict.update.loop" =some Builtin.«dict.update.loop»:=entryFor_of_tree (by kernel_rfl)
section
variable {prog:Program} {w:World} {K:Type} [DecidableEq K] {knd:KeyKind prog w K} {A:Around}
theorem Ya4 {α:Type} {l:List α} {i:Nat} {x:α} (h:l[i]?=some x):l.take (i+1)=l.take i++ [x]:=by
 rw [yao,h];rfl
theorem Jwd {vs:List (K×Value)} {i:Nat} {k:K} {v:Value} (nd:(vs.map (·.1)).Nodup) (h:vs[i]?=some (k,v)):valueAt (vs.take i) k=none:=by
 unfold valueAt;rw [List.find?_eq_none.mpr]
 ·rfl
 ·intro p hp;obtain ⟨j,hj,rfl⟩:=List.mem_take_iff_getElem.mp hp;simp only [decide_eq_true_eq];intro e;have hi:=(yq.mp h).1;have ev:vs[i]=(k,v):=(yq.mp h).2;have q:=List.pairwise_iff_getElem.mp nd j i (by simp;omega) (by simp;omega) (by omega);exact q (by simp [e,ev])
theorem dul {s₀:Shared} {its:Array Value} {L n it:Addr} {vs:List (K×Value)} {R:Result->Shared->Prop} (hh:A.handled=none) (nd:(vs.map (·.1)).Nodup) (hz:vs.length<=sizeLine) (hi:its.size=vs.length) (hL:s₀.heap.IsList L its)
  (hp:∀(i:Nat) (k:K) (v:Value),vs[i]?=some (k,v)->∃T key o m,its[i]?=some (Value.ref T)/\s₀.heap.get? T=some o/\o.cls= .type "tuple" /\o.data= .seq #[key,v] m/\knd.is k key=true)
  (hn:s₀.heap.objs.size<=n) (hit:s₀.heap.objs.size<=it) (ne:n≠it)
  (hR:∀h' tk,(∀b o,s₀.heap.get? b=some o->h'.get? b=some o)->h'.DictOf knd n vs->R (.ok (.ret .none)) {s₀ with heap:=h',toks:=tk}):
  ∀(j i:Nat) (h:Heap) (tk:Nat),i+j=vs.length->(∀b o,s₀.heap.get? b=some o->h.get? b=some o)->h.DictOf knd n (vs.take i)->h.IsListIter it L i->
   codeAny (model prog w) A (.builtin "dict.update.loop" ⟨[.ref n,.ref it,rawInt i,.none],[]⟩) R {s₀ with heap:=h,toks:=tk}:=by
 intro j
 induction j with
 |zero=>
  intro i h tk e keep hd st;have ei:i=vs.length:=by omega
  subst ei;rw [List.take_length] at hd;refine codeAny_builtin Juj ?_;unfold Builtin.«dict.update.loop»;refine wpAny_bind (wpAny_pyNext_list_end (s:={s₀ with heap:=h,toks:=tk}) hh st (items:=its) ?_ (by simp;omega) λh' eb=>?_)
  ·obtain ⟨o,q,r⟩:=hL;exact ⟨o,keep _ _ q,r⟩
  ·show wpAny _ _ (Builtin.Dict.addKeywords n [] >>=λ_=>ret .none) _ _ _;refine wpAny_bind (wpAny_pure (wpAny_pure ?_));have kk:∀b o,s₀.heap.get? b=some o->h'.get? b=some o:=λb o q=>eb b o (λz=>absurd (yg q) (by rw [z];exact yat.mpr hit)) (keep b o q);exact hR h' tk kk (hd.extBut eb ne)
 |succ j ih=>
  intro i h tk e keep hd st;refine codeAny_builtin Juj ?_;unfold Builtin.«dict.update.loop»;have hi':i < vs.length:=by omega
  have hx:vs[i]?=some (vs[i].1,vs[i].2):=by simp [hi']
  obtain ⟨T,key,o,m,hT,ho,hc,hdt,hk⟩:=hp i _ _ hx;have kT:∀b o,s₀.heap.get? b=some o->b≠it:=λb o q z=>absurd (yg q) (by rw [z];exact yat.mpr hit);refine wpAny_bind (wpAny_pyNext_list_item (s:={s₀ with heap:=h,toks:=tk}) st (items:=its) ?_ hT λh' st' sb=>?_)
  ·obtain ⟨o,q,r⟩:=hL;exact ⟨o,keep _ _ q,r⟩
  have keep1:∀b o,s₀.heap.get? b=some o->h'.get? b=some o:=λb o q=>(sb.2 b (kT b o q)).trans (keep b o q);have tyT:Shared.TypeIs {s₀ with heap:=h',toks:=tk} (.ref T) "tuple" :=⟨o,keep1 _ _ ho,hc⟩;refine wpAny_bind (wpAny_holding (wpAny_bind (wpAny_tryCatch ?_)));unfold Builtin.Dict.pairItems;refine wpAny_bind (wpAny_typeOf tyT ?_);rw [if_pos (by decide)];refine wpAny_bind (wpAny_seqItems (keep1 _ _ ho) hdt (wpAny_pure ?_));show wpAny _ _ (holding [key,vs[i].2] (dictSet n key vs[i].2)) _ _ _;refine wpAny_holding (wpAny_dictSet_pairs (s:={s₀ with heap:=h',toks:=tk}) hk (hd.sameBut sb ne) (hsz:=by rw [yaj];omega) λh2 hd2 sb2=>?_);refine wpAny_pure ⟨Code.quiet_builtin _ (by decide +kernel),?_⟩;rw [stored_absent (Jwd nd hx),<-Ya4 hx] at hd2;refine ih (i+1) h2 (tk+1) (by omega) (λb o q=>(sb2.2 b (λz=>absurd (yg q) (by rw [z];exact yat.mpr hn))).trans (keep1 b o q)) hd2 ?_;obtain ⟨o',q,r⟩:=st';exact ⟨o',(sb2.2 it (yk ne)).trans q,r⟩
end
noncomputable def Jv8 (H:Hp):List V->List (Key×V)->Prop:=Paired λx p=>∃T,x= .ref T/\H T=some (.tup [kV p.1,p.2])
theorem Jsd {X:Cx} (hc:X.calm=true):Jlv X (.type "dict") (λxs H Q=>∃L ts kvs,xs= [V.ref L]/\H L=some (.lst ts)/\Jv8 H ts kvs/\kvs.length<=1000/\(kvs.map (·.1)).Nodup/\
  ∀p o,H p=none->Q (.ref p) (upd H p (.frz o (.dK kvs)))):=by
 intro pins s σ H xs us Q I r h;obtain ⟨L,ts,kvs,rfl,eL,pr,z,nd,q⟩:=h;obtain ⟨u,rfl,r2⟩:=Jms r;obtain rfl:u=Value.ref L:=r2;obtain ⟨zL,its,m,rv,hL⟩:=(show ObjOk X.prog X.w H s.heap L (.lst ts) from I.hok L _ eL);have szL:(1000:Nat)<=sizeLine:=by rw [sizeLine_eq];decide
 have ex:∃vs:List (Key×Value),KV kvs vs/\∀(i:Nat) (k:Key) (v:Value),vs[i]?=some (k,v)->∃T key o m,its.toArray[i]?=some (Value.ref T)/\s.heap.get? T=some o/\o.cls= .type "tuple" /\o.data= .seq #[key,v] m/\(Jk6 X.prog X.w).is k key=true:=by
  have one:∀(x:V) (p:Key×V),(∃T,x= .ref T/\H T=some (.tup [kV p.1,p.2]))->∀w',RelV x w'->∃v:Value,RelV p.2 v/\∃T key o m,w'=Value.ref T/\s.heap.get? T=some o/\o.cls= .type "tuple" /\o.data= .seq #[key,v] m/\(Jk6 X.prog X.w).is p.1 key=true:=by
   rintro x p ⟨T,rfl,eT⟩ w' rw';obtain rfl:w'=Value.ref T:=rw';obtain ⟨_,jts,rj,o,e1,e2,m,e3⟩:=(show ObjOk X.prog X.w H s.heap T (.tup _) from I.hok T _ eT);cases rj with
   | @cons _ key _ _ k1 rj=>
    cases rj with
    | @cons _ v _ _ k2 rj=>
     cases rj;exact ⟨v,k2,T,key,o,m,rfl,e1,e2,e3,Jwu k1⟩
  clear hL eL r z nd q zL
  induction pr generalizing its with
  |nil=>cases rv;exact ⟨[],.nil,λi k v e=>by simp at e⟩
  | @cons x p l1 l2 hx t ih=>
   cases rv with
   | @cons _ w' _ its' k1 k2=>
    obtain ⟨vs,a1,a2⟩:=ih _ k2;obtain ⟨v,b1,T,key,o,m,b2,b3⟩:=one x p hx w' k1;refine ⟨(p.1,v)::vs,.cons ⟨rfl,b1⟩ a1,λi k v' e=>?_⟩;cases i with
    |zero=>
     simp at e;obtain ⟨rfl,rfl⟩:=e;exact ⟨T,key,o,m,by simp [b2],b3⟩
    |succ j=>
     obtain ⟨T,key,o,m,c1,c2⟩:=a2 j k v' (by simpa using e);exact ⟨T,key,o,m,by simpa using c1,c2⟩
 obtain ⟨vs,rel,hp⟩:=ex;have el:its.toArray.size=vs.length:=by
  have e1:=rv.length;have e2:=Paired.length pr;have e3:=rel.length;simp;omega
 have ndv:(vs.map (·.1)).Nodup:=by
  have e:∀{a:List (Key×V)} {b:List (Key×Value)},KV a b->a.map (·.1)=b.map (·.1):=by
   intro a b h
   induction h with
   |nil=>rfl
   |cons h t ih=>rw [yax,yax,ih,h.1]
  rw [<-e rel];exact nd
 refine callType_codes (Q₁:=λobj s₁=>obj= .ref s.heap.objs.size/\s₁={s with heap:=s.heap.push {cls:=.type "dict",data:=.dict #[]}}) PySem.F.kt_called_dict (PySem.F.kt_typeCall_dict_1 _) PySem.F.entry_dict_init (kt_code_dict_new _ ⟨rfl,rfl⟩) ?_;rintro obj s₁ ⟨rfl,rfl⟩;have hnew:(s.heap.push {cls:=.type "dict",data:=.dict #[]}).DictOf (Jk6 X.prog X.w) s.heap.objs.size []:=Heap.DictOf.new s.heap;have hL1:(s.heap.push {cls:=.type "dict",data:=.dict #[]}).get? L=some {cls:=.type "list",data:=.seq its.toArray m}:=yj _ hL;refine ⟨hnew.typeIs,PySem.F.args_dict_init_2 _ _,?_⟩;unfold Builtin.«dict.__init__»;refine wpAny_bind ?_;unfold Builtin.Dict.selfAndRest;refine wpAny_bind (wpAny_notOrdered_dict hnew.typeIs ?_);show wpAny _ _ (pure (s.heap.objs.size,[Value.ref L])) _ _ _;refine wpAny_pure ?_;show wpAny _ _ (Builtin.Dict.updateFrom "dict.__init__" s.heap.objs.size (.ref L) [] .none) _ _ _;unfold Builtin.Dict.updateFrom;refine wpAny_bind (wpAny_typeOf (T:="list") ⟨_,hL1,rfl⟩ ?_);rw [if_pos (by decide)];refine wpAny_bind (Jsn hL1 (I.ok.hd hc) λh1 tk1 kp1=>?_);show wpAny _ _ (rule _ >>=_) _ _ _;refine wpAny_bind (wpAny_rule ?_);have hL2:h1.IsList L its.toArray:=⟨_,kp1 _ _ hL1,rfl,_,rfl⟩;refine wpAny_bind (wpAny_pyIter_list hL2 ?_);refine wpAny_pure ⟨Code.quiet_builtin _ (by decide +kernel),?_⟩;have sz1:s.heap.objs.size < h1.objs.size:=yg (kp1 s.heap.objs.size _ (yp _ rfl));refine dul (A:=X.A.in1) (s₀:=s) (its:=its.toArray) (L:=L) (n:=s.heap.objs.size) (it:=h1.objs.size) (vs:=vs) (knd:=Jk6 X.prog X.w) (I.ok.hd hc) ndv (by have:=rel.length;omega) el ⟨_,hL,rfl,_,rfl⟩ hp (yi _) (yaq sz1) (yr sz1) (λh' tk kp dd=>?_) vs.length 0 (h1.push {cls:=.type "list_iterator",data:=.fields #[.ref L,.int 0 0]}) tk1 (Nat.zero_add _)
  (λb o e=>yj _ (kp1 b o (yj _ e))) ?_ ?_
 ·refine ⟨rfl,?_⟩;have I2:Inv X pins σ (upd H s.heap.objs.size (.dK kvs)) {s with heap:=h',toks:=tk}:=I.laid (a:=s.heap.objs.size) (o:=.dK kvs) (t':=tk) kp (yi _) (dk_new (by omega) (beq_eq_false_iff_ne.mpr (yk (yr I.big))) rel dd);obtain ⟨o,es,ep,e,_⟩:=id dd;have I3:=I2.frz (Jjq ..) e;refine ⟨.ref s.heap.objs.size,_,I3,rfl,?_⟩;have eu:upd (upd H s.heap.objs.size (.dK kvs)) s.heap.objs.size (.frz o (.dK kvs))=upd H s.heap.objs.size (.frz o (.dK kvs)):=by
   funext b;unfold upd;split <;> rfl
  rw [eu];exact q _ o (I.hok.fresh (yi _))
 ·obtain ⟨o,es,ep,e,r⟩:=hnew;exact ⟨o,es,ep,yj _ (kp1 _ _ e),r⟩
 ·exact ⟨_,yp _ rfl,rfl,rfl⟩
end L2
namespace L2
open PySem PySem.Spec PyProof.Rows PySem.W
noncomputable def rAny (K:PySem.W.Frag):List V->Hp->VK->Prop:=λxs H Q=>∃(a:Addr) (bs:List Bool),xs= [.ref a]/\SqL K H a (bs.map V.bl)/\Q (.bl (bs.any id)) H
theorem Yai {X:Cx} {K:PySem.W.Frag} (hK:X.K=K) (hc:X.calm=true):Jlv X (.builtin "any") (rAny K):=by
 subst hK;intro pins s σ H xs us Q I r h;obtain ⟨a,bs,rfl,hq,q⟩:=h;obtain ⟨u,rfl,ru⟩:=Jms r;cases ru;obtain ⟨its,rv,pl,hz⟩:=I.list hq;have hlen:=rv.length;refine call_any_walk (wpAny_pyIter_list pl.isList ⟨s.heap.objs.size,[s.heap.objs.size,a],[s.heap.objs.size],its.toArray.size,_,_,λi=>bs.getD i false,rfl,Walks.list (prog:=X.prog) (w:=X.w) (A:=X.A.in1) (show X.A.in1.handled=none from I.ok.hd hc) s.heap.objs.size a ?_ its.toArray,⟨⟨_,yp _ rfl,rfl,rfl⟩,pl.isList.at λo e=>yj _ e⟩,?_,λh' tk k=>?_⟩)
 ·obtain ⟨o,_,e,_⟩:=pl;exact yr (yg e)
 ·intro i v s' Q' E' hv hq';have hv':its[i]?=some v:=by simpa using hv
  have hi:i < its.length:=(yq.mp hv').1;have hb:i < bs.length:=by rw [yf] at hlen;omega
  obtain ⟨u',hu',ru'⟩:=rv.get (i:=i) (x:=V.bl bs[i]) (by rw [ym,yn hb];rfl);rw [hv'] at hu';cases hu';cases ru';refine wpAny_truthy_bool ?_;have:bs.getD i false=bs[i]:=by rw [yy,yn hb];rfl
  rw [<-this];exact hq'
 ·have e:((yt its.toArray.size).any λi=>bs.getD i false)=bs.any id:=by
   have hl2:its.toArray.size=bs.length:=by rw [yf] at hlen;rw [yu];exact hlen.symm
   rw [hl2,ybn,yco,yco];constructor
   ·rintro ⟨i,hi,hh⟩;have hi':=yac.mp hi;rw [yy,yn hi'] at hh;exact ⟨_,ybu hi',hh⟩
   ·rintro ⟨b,hb,hh⟩;obtain ⟨i,hi,rfl⟩:=List.getElem_of_mem hb;refine ⟨i,yac.mpr hi,?_⟩;rw [yy,yn hi];exact hh
  rw [e];exact ⟨.bl _,H,I.kept λb o e=>k b o (λz=>by
   have z':b=s.heap.objs.size:=by simpa using z
   exact absurd (yg e) (by rw [z'];exact yay _)) (yj _ e),rfl,q⟩
theorem Jzw {X:Cx}:Jlv X (.type "range") (λxs H Q=>∃i j,xs= [V.int i,V.int j]/\∀p,H p=none->Q (.ref p) (upd H p (.rng i j))):=by
 intro pins s σ H xs us Q I r h;obtain ⟨i,j,rfl,q⟩:=h;cases r with
 |cons r1 r=>
  cases r with
  |cons r2 r=>
   cases r;obtain ⟨t1,rfl⟩:=r1;obtain ⟨t2,rfl⟩:=r2;refine call_range_2 ⟨.ref s.heap.objs.size,_,I.laid (a:=s.heap.objs.size) (o:=.rng i j) (λb o e=>yj _ e) (yi _) ⟨_,_,_,yp _ rfl⟩,rfl,q _ (I.hok.fresh (yi _))⟩
theorem Jzq {xs:List V} {acc:Array Value} {n:Nat} {P:Nat->Value->Prop} (e:xs.length=n) (h:ItemsOf P acc n) (hP:∀(i:Nat) (v:Value),i < n->P i v->∃x,xs[i]?=some x/\RelV x v):Vals xs acc.toList:=by
 obtain ⟨h1,h2⟩:=h;have go:∀(xs:List V) (l:List Value),xs.length=l.length->(∀(i:Nat) (v:Value),l[i]?=some v->∃x,xs[i]?=some x/\RelV x v)->Vals xs l:=by
  intro xs
  induction xs with
  |nil=>
   intro l e _;cases l with
   |nil=>exact .nil
   |cons _ _=>simp at e
  |cons x xs ih=>
   intro l e hl;cases l with
   |nil=>simp at e
   |cons v l=>
    obtain ⟨y,e1,r1⟩:=hl 0 v rfl;simp at e1;subst e1;exact .cons r1 (ih l (by simpa using e) λi v' e'=>by simpa using hl (i+1) v' (by simpa using e'))
 refine go xs acc.toList (by simp only [ybg];exact e.trans h1.symm) λi v e'=>?_;have e2:acc[i]?=some v:=by rw [<-Array.getElem?_toList];exact e'
 exact hP i v (by have:=(ybz.mp e2).1;omega) (h2 i v e2)
theorem Jto {X:Cx} (hc:X.calm=true):Jlv X (.type "list") (λxs H Q=>∃p i j,xs= [V.ref p]/\H p=some (.rng i j)/\ -1000<=i/\i<=1000/\ -1000<=j/\j<=1000/\
  ∀l,H l=none->Q (.ref l) (upd H l (.lst ((yt (j - i).toNat).map λk:Nat=>V.int (i+k))))):=by
 intro pins s σ H xs us Q I r h;obtain ⟨p,i,j,rfl,hp,h1,h2,h3,h4,q⟩:=h;obtain ⟨u,rfl,r2⟩:=Jms r;obtain rfl:u=Value.ref p:=r2;obtain ⟨t,u,v,e⟩:=(show ObjOk X.prog X.w H s.heap p (.rng i j) from I.hok p _ hp);refine call_list_range (n:=(j - i).toNat) (I.ok.hd hc) e (small_one (by omega) (by omega) (by omega) (by omega)) (by rw [rangeSize_one];split <;> omega) (by omega) λh' tk acc c kp hl hI=>?_;have rv:Vals ((yt (j - i).toNat).map λk:Nat=>V.int (i+k)) acc.toList:=by
  refine Jzq (n:=(j - i).toNat) (by simp) hI λk w' lt hw=>?_;obtain ⟨t,rfl⟩:=hw;exact ⟨.int (i+k),by simp [lt],t,by simp⟩
 refine ⟨.ref s.heap.objs.size,_,I.laid (a:=s.heap.objs.size) (o:=.lst _) (t':=tk) kp (yi _) ⟨?_,acc.toList,c,rv,by simpa using hl⟩,rfl,q _ (I.hok.fresh (yi _))⟩;rw [sizeLine_eq,yf,yau];omega
theorem Jvc {X:Cx} (hc:X.calm=true):Jlv X (.type "list") (λxs H Q=>∃p o kvs,xs= [V.ref p]/\H p=some (.frz o (.dK kvs))/\∀l,H l=none->Q (.ref l) (upd H l (.lst (kvs.map λkv=>kV kv.1)))):=by
 intro pins s σ H xs us Q I r h;obtain ⟨p,o,kvs,rfl,hp,q⟩:=h;obtain ⟨u,rfl,r2⟩:=Jms r;obtain rfl:u=Value.ref p:=r2;obtain ⟨z,hd,vs,es,ep,rel,ed,da⟩:=Jsj I hp;refine kdl_call (kdl_dict (knd:=Jk6 X.prog X.w) (kvs:=vs) (ep:=ep) hd) (I.ok.hd hc) da (by rw [<-rel.length];exact z) λh' tk acc c kp hl hI=>?_;have rv:Vals (kvs.map λkv=>kV kv.1) acc.toList:=by
  refine Jzq (n:=vs.length) (by rw [yf];exact rel.length) hI λk w' lt hw=>?_;obtain ⟨key,x,e1,e2⟩:=hw;have lk:k < kvs.length:=by rw [rel.length];exact lt
  obtain ⟨u,e3,_⟩:=rel.get (i:=k) (k:=kvs[k].1) (x:=kvs[k].2) (by simp [lk]);rw [e1] at e3;cases e3;exact ⟨kV kvs[k].1,by simp [lk],Jyl e2⟩
 refine ⟨.ref s.heap.objs.size,_,I.laid (a:=s.heap.objs.size) (o:=.lst _) (t':=tk) kp (yi _) ⟨?_,acc.toList,c,rv,by simpa using hl⟩,rfl,q _ (I.hok.fresh (yi _))⟩;rw [yf];exact z
end L2
namespace L2
open PySem PySem.Spec PyProof.Rows PySem.W
noncomputable def Jpq (xs:Array Nat):Prop:=∀i k,i < k->k < xs.size->xs.getD i 0 < xs.getD k 0
theorem Jzl {xs:Array Nat} (h:Jpq xs) {i k:Nat} (ik:i<=k) (hk:k < xs.size):xs.getD i 0<=xs.getD k 0:=by
 rcases Nat.lt_or_eq_of_le ik with q|q
 ·exact yaq (h i k q hk)
 ·rw [q];exact yi _
theorem Yaw {xs:Array Nat} {i:Nat} (h:i < xs.size) (a b:Nat):xs.getD i a=xs.getD i b:=by simp [ybm,h]
theorem Yae {xs:Array Nat} {j:Nat} (rs:Jpq xs):∀(fuel lo hi:Nat),hi - lo<=fuel->lo<=hi->hi<=xs.size->(∀i,i < lo->xs.getD i 0 < j)->(∀i,hi<=i->i < xs.size->j<=xs.getD i 0)->
  SetTable.below.go xs j fuel lo hi<=xs.size/\(∀i,i < SetTable.below.go xs j fuel lo hi->xs.getD i 0 < j)/\∀i,SetTable.below.go xs j fuel lo hi<=i->i < xs.size->j<=xs.getD i 0:=by
 intro fuel
 induction fuel with
 |zero=>
  intro lo hi h1 h2 h3 h4 h5;have e:lo=hi:=by omega
  subst e;exact ⟨h3,h4,h5⟩
 |succ fuel ih=>
  intro lo hi h1 h2 h3 h4 h5;unfold SetTable.below.go;by_cases lt:lo < hi
  ·rw [if_pos lt];have hm:(lo+hi)/2 < xs.size:=by omega
   dsimp only;rw [Yaw hm j 0];by_cases c:xs.getD ((lo+hi)/2) 0 < j
   ·rw [if_pos c];refine ih ((lo+hi)/2+1) hi (by omega) (by omega) h3 (λi hi'=>?_) h5;exact ycm (Jzl rs (by omega) hm) c
   ·rw [if_neg c];refine ih lo ((lo+hi)/2) (by omega) (by omega) (by omega) h4 λi hi' hs=>?_;exact yai (Nat.le_of_not_lt c) (Jzl rs hi' hs)
  ·rw [if_neg lt];have e:lo=hi:=by omega
   subst e;exact ⟨h3,h4,h5⟩
theorem Jqj {xs:Array Nat} (rs:Jpq xs) (j:Nat):SetTable.below xs j<=xs.size/\(∀i,i < SetTable.below xs j->xs.getD i 0 < j)/\∀i,SetTable.below xs j<=i->i < xs.size->j<=xs.getD i 0:=
 Yae rs xs.size 0 xs.size (by omega) (by omega) (yi _) (λi h=>absurd h (ycf _)) λi h1 h2=>absurd h2 (yat.mpr h1)
theorem Jxx {xs:Array Nat} (rs:Jpq xs) {i:Nat} (hi:i < xs.size):SetTable.below xs (xs.getD i 0+1)=i+1:=by
 obtain ⟨h1,h2,h3⟩:=Jqj rs (xs.getD i 0+1);generalize SetTable.below xs (xs.getD i 0+1)=k at*;by_cases lt:k<=i
 ·have:=h3 i lt hi;omega
 ·by_cases gt:i+1 < k
  ·have q:=h2 (i+1) gt;have q2:=rs i (i+1) (ybh _) (by omega);omega
  ·omega
theorem Jxy {xs:Array Nat} (rs:Jpq xs):SetTable.below xs 0=0:=by
 obtain ⟨h1,h2,h3⟩:=Jqj rs 0;generalize SetTable.below xs 0=k at*;by_cases lt:0 < k
 ·exact absurd (h2 0 lt) (ycf _)
 ·omega
theorem Jtq {α:Type} (xs:Array α) (p:Nat) (x:α) (hp:p<=xs.size):(SetTable.insertAt xs p x).toList=xs.toList.take p++x::xs.toList.drop p:=by
 unfold SetTable.insertAt;simp [Array.toList_extract,yak]
theorem risA_iff {xs:Array Nat}:Jpq xs↔xs.toList.Pairwise (· < ·):=by
 rw [List.pairwise_iff_getElem];constructor
 ·intro h i k hi hk ik;have:=h i k ik (by simpa using hk);simp at hi hk;simpa [ybm,hi,hk] using this
 ·intro h i k ik hk;have hi:i < xs.size:=ybp ik hk;have:=h i k (by simpa using hi) (by simpa using hk) ik;simpa [ybm,hi,hk] using this
theorem Ys {t:SetTable} {j:Nat} (rs:Jpq t.place) (nj:j∉t.place.toList):Jpq (t.put j).1.place:=by
 show Jpq (SetTable.insertAt t.place (SetTable.below t.place j) j);obtain ⟨h1,h2,h3⟩:=Jqj rs j;generalize SetTable.below t.place j=k at*;rw [risA_iff,Jtq _ _ _ h1];have pw:=risA_iff.mp rs;have get:∀x∈t.place.toList.take k,x < j:=λx hx=>by
  obtain ⟨i,hi,rfl⟩:=List.mem_take_iff_getElem.mp hx;have lt:i < t.place.size:=by simp at hi;omega
  have:=h2 i (by omega);simpa [ybm,lt] using this
 have get2:∀x∈t.place.toList.drop k,j < x:=λx hx=>by
  obtain ⟨i,hi,rfl⟩:=List.mem_drop_iff_getElem.mp hx;have lt:k+i < t.place.size:=by simp at hi;omega
  have:=h3 (k+i) (by omega) lt;have e:t.place.getD (k+i) 0=t.place.toList[k+i]'(by simpa using lt):=by simp [ybm,lt]
  rw [e] at this;refine Nat.lt_of_le_of_ne this λq=>nj ?_;rw [q];exact ybu _
 rw [List.pairwise_append,List.pairwise_cons];refine ⟨pw.sublist (List.take_sublist _ _),⟨get2,pw.sublist (List.drop_sublist _ _)⟩,λa ha b hb=>?_⟩;rcases yo.mp hb with rfl|hb
 ·exact get a ha
 ·exact ybp (get a ha) (get2 b hb)
theorem Ybx {t:SetTable} {j:Nat} (rs:Jpq t.place) (h:∀i,t.slot j≠ .live i):j∉t.place.toList:=λhm=>by
 obtain ⟨i,hi,e⟩:=List.getElem_of_mem hm;obtain ⟨h1,h2,h3⟩:=Jqj rs j;have lt:i < t.place.size:=by simpa using hi
 have ei:t.place.getD i 0=j:=by simpa [ybm,lt] using e
 have ek:SetTable.below t.place j=i:=by
  rcases Nat.lt_trichotomy (SetTable.below t.place j) i with q|q|q
  ·have:=h3 _ (yi _) (ybp q lt);have:=rs _ i q lt;omega
  ·exact q
  ·have:=h2 i q;omega
 refine h i ?_;unfold SetTable.slot;dsimp only;rw [ek,if_pos];have:t.place[i]?=some j:=by
  rw [ycg lt];simp [ybm,lt] at ei;rw [ei]
 rw [this];simp
theorem Jpi (t:SetTable) (p:SetTable.Probe):(t.advance p).dummy=p.dummy:=by
 unfold SetTable.advance;split <;> rfl
theorem Ybg {t:SetTable} {f:Nat->Int} {h:Int}:∀(fuel:Nat) (p:SetTable.Probe) (j:Nat) (d:Option Nat),(∀x,p.dummy=some x->t.slot x= .dummy)->SetTable.probe.go t f h fuel p=some (.empty j d)->
  t.slot j= .empty/\∀x,d=some x->t.slot x= .dummy:=by
 intro fuel
 induction fuel with
 |zero=>intro p j d _ e;simp [SetTable.probe.go] at e
 |succ fuel ih=>
  intro p j d hd e;unfold SetTable.probe.go at e;split at e
  ·rename_i es
   simp at e;obtain ⟨rfl,rfl⟩:=e;exact ⟨es,hd⟩
  ·rename_i es
   refine ih _ j d ?_ e;intro x hx;rw [Jpi] at hx;simp at hx;rw [<-hx];exact es
  ·split at e
   ·simp at e
   ·refine ih _ j d ?_ e;intro x hx;rw [Jpi] at hx;exact hd x hx
theorem Yav {t:SetTable} {h:Int} {j:Nat} {b:Bool} (rs:Jpq t.place) (e:t.freeSlot h=some (j,b)):j∉t.place.toList:=by
 unfold SetTable.freeSlot at e;split at e
 ·rename_i jj d ep
  unfold SetTable.probe at ep;obtain ⟨q1,q2⟩:=Ybg _ _ _ _ (λx hx=>by simp [SetTable.probeStart] at hx) ep;simp at e;obtain ⟨e1,_⟩:=e;refine Ybx rs λi z=>?_;cases d with
  |none=>
   simp at e1;rw [<-e1,q1] at z;cases z
  |some x=>
   simp at e1;have:=q2 x rfl;rw [<-e1,this] at z;cases z
 ·simp at e
noncomputable def Jpg (b:Bool) (t:SetTable):Prop:=(t.plain=true->Jpq t.place)/\t.led=b
theorem Jmx {b:Bool} {t:SetTable} (n:Nat) (h:t.led=b):Jpg b (t.standIn n):=⟨λz=>by simp [SetTable.standIn] at z,h⟩
theorem Jww {b:Bool} {t:SetTable} (es:Array (Int×Value)) (h:Int) (x:Value) (g:Jpg b t):Jpg b (layNew t es h x).2.1:=by
 unfold layNew;split
 ·rename_i j wd e
  dsimp only;unfold SetTable.orStandIn;split
  ·exact ⟨λz=>Ys (g.1 z) (Yav (g.1 z) e),g.2⟩
  ·exact Jmx _ g.2
 ·exact Jmx _ g.2
theorem Yb3 {α:Type} (f:Nat->Option α):∀l:List Nat,((l.filterMap λj=>(f j).map (j,·)).map (·.1)).Sublist l:=by
 intro l
 induction l with
 |nil=>exact List.Sublist.refl _
 |cons a l ih=>
  rw [yci];cases f a with
  |none=>exact ih.trans (List.sublist_cons_self _ _)
  |some y=>exact ih.cons₂ a
theorem Jym {b:Bool} {t:SetTable} (es:Array (Int×Value)) (n:Nat) (g:Jpg b t):Jpg b (relayAll t es n).2.1:=by
 unfold relayAll;split
 ·rename_i t' order e
  dsimp only;split
  ·unfold SetTable.relaid SetTable.laid at e;obtain ⟨owner,_,e⟩:=Option.bind_eq_some_iff.mp e;simp only [Option.pure_def,yae.injEq,Prod.mk.injEq] at e;obtain ⟨e1,_⟩:=e;subst e1;exact ⟨λ_=>risA_iff.mpr (List.pairwise_lt_range.sublist (Yb3 (λj=>owner.getD j none) _)),g.2⟩
  ·exact Jmx _ g.2
 ·exact Jmx _ g.2
end L2
namespace L2
open PySem PySem.Spec PyProof.Rows PySem.W
section
variable {prog:Program} {w:World} {K:Type} [DecidableEq K] {knd:KeyKind prog w K} {A:Around} {E:Value->Shared->Prop} {s:Shared} {b:Bool}
variable (knd) in
noncomputable def Apart (l:List (Int×Value)):Prop:=l.Pairwise λe e'=>∀k,knd.is k e.2=true->knd.is k e'.2=true->False
theorem Apart.perm {l l':List (Int×Value)} (h:Apart knd l) (p:l'.Perm l):Apart knd l':=(p.pairwise_iff λ{x y} q k a b=>q k b a).mpr h
variable (knd) (b) in
noncomputable def SetG (h:Heap) (a:Addr) (S:K->Bool) (n:Nat):Prop:=
 ∃o es ep t,h.get? a=some o/\o.ExactSet/\o.data= .set es ep t/\ElemsOf knd es.toList/\(∀k,S k=true↔∃e∈es.toList,knd.is k e.2=true)/\es.size < scanBound/\t.fits es.size=true/\es.size<=n/\Jpg b t/\Apart knd es.toList
theorem Jxj {h:Heap} {a:Addr} {o:Obj} {es:Array (Int×Value)} {ep:Nat} {t:SetTable} (ho:h.get? a=some o) (hd:o.data= .set es ep t) (es':Array (Int×Value)) (t':SetTable):
  (h.update a (Obj.putSet es' t')).get? a=some {o with data:=.set es' (ep+1) t'}:=by
 have:=ybj (Obj.putSet es' t') ho (by rw [putSet_of es' t' hd];rfl);rw [putSet_of es' t' hd] at this;exact this
theorem Jv1 {g:Bool->Sem Unit} (hg:∀(c:Bool) (s₁:Shared) (Q':Unit->Shared->Prop),Q' () s₁->wpAny (model prog w) A (g c) Q' E s₁)
  {a:Addr} {o:Obj} {es:Array (Int×Value)} {ep:Nat} {t:SetTable} (ho:s.heap.get? a=some o) (hex:o.ExactSet) (hd:o.data= .set es ep t)
  {es1:Array (Int×Value)} {t2:SetTable} {S':K->Bool} (hel1:ElemsOf knd es1.toList) (hmem1:∀k',S' k'=true↔∃e∈es1.toList,knd.is k' e.2=true)
  (hb1:es1.size < scanBound) (hf2:t2.fits es1.size=true) (hg2:Jpg b t2) (hap:Apart knd es1.toList) {wasDummy:Bool} {R:Option Bool->Shared->Prop}
  (h:∀h',yam a s.heap h'->SetG knd b h' a S' es1.size->R (some true) {s with heap:=h'}):
  wpAny (model prog w) A (do
    storeSet a es1 t2
    if (!wasDummy&&t2.tooFull)=true then do
      g (relayAll t2 es1 (SetTable.grown es1.size)).2.2
      storeSet a (relayAll t2 es1 (SetTable.grown es1.size)).1 (relayAll t2 es1 (SetTable.grown es1.size)).2.1
      pure (some true)
     else pure (some true)) R E s:=by
 refine wpAny_bind (wpAny_storeSet_of ho hd ?_ (fits_of_scanBound hb1));have ho1:=Jxj ho hd es1 t2;have hsb1:=yam.update s.heap a (Obj.putSet es1 t2);split
 ·have hp:=relayAll_perm t2 es1 (SetTable.grown es1.size);have hfr:=relayAll_fits t2 es1 (SetTable.grown es1.size);have hgr:=Jym es1 (SetTable.grown es1.size) hg2;generalize relayAll t2 es1 (SetTable.grown es1.size)=Rl at hp hfr hgr⊢;obtain ⟨es2,t3,gave2⟩:=Rl;dsimp only at hp hfr hgr⊢;have hsz:es2.size=es1.size:=by rw [<-ybg,hp.length_eq,ybg]
  refine wpAny_bind (hg _ _ _ ?_);refine wpAny_bind (wpAny_storeSet_of ho1 rfl ?_ (fits_of_scanBound (by rw [hsz];exact hb1)));refine wpAny_pure (h _ (hsb1.trans (yam.update _ a _)) ?_);rw [<-hsz];exact ⟨_,es2,_,t3,Jxj ho1 rfl es2 t3,hex,rfl,hel1.perm hp,λk'=>(hmem1 k').trans ⟨λ⟨e,he,q⟩=>⟨e,hp.mem_iff.mpr he,q⟩,λ⟨e,he,q⟩=>⟨e,hp.mem_iff.mp he,q⟩⟩,by rw [hsz];exact hb1,hfr,yi _,hgr,hap.perm hp⟩
 ·exact wpAny_pure (h _ hsb1 ⟨_,es1,_,t2,ho1,hex,rfl,hel1,hmem1,hb1,hf2,yi _,hg2,hap⟩)
theorem Yay {t:SetTable} (g:Jpg b t):Jpg b {t with plain:=false}:=⟨λz=>(by cases z),g.2⟩
theorem SetG.le {h:Heap} {a:Addr} {S:K->Bool} {n m:Nat} (x:SetG knd b h a S n) (nm:n<=m):SetG knd b h a S m:=by
 obtain ⟨o,es,ep,t,h1,h2,h3,h4,h5,h6,h7,h8,h9⟩:=x;exact ⟨o,es,ep,t,h1,h2,h3,h4,h5,h6,h7,yai h8 nm,h9⟩
theorem SetG.at {h h':Heap} {a:Addr} {S S':K->Bool} {n:Nat} (x:SetG knd b h a S n) (k:∀o,h.get? a=some o->h'.get? a=some o) (e:∀k,S k=S' k):SetG knd b h' a S' n:=by
 obtain rfl:S=S':=funext e;obtain ⟨o,es,ep,t,h1,r⟩:=x;exact ⟨o,es,ep,t,k o h1,r⟩
theorem Ybr {a:Addr} {S:K->Bool} {n:Nat} {k:K} {x:Value} {Q:Bool->Shared->Prop} (hkey:knd.is k x=true) (hsc:x.scannable=true) (hS:SetG knd b s.heap a S n) (hroom:n+1 < scanBound)
  (h:∀h' c,yam a s.heap h'->SetG knd b h' a (λk'=>S k'||decide (k'=k)) (n+1)->Q c {s with heap:=h'}):wpAny (model prog w) A (setAddHashed a x (knd.hash k)) Q E s:=by
 obtain ⟨o,es,ep,t,ho,hex,hd,hel,hmem,hb,hf,hn,hG,hap⟩:=hS;unfold setAddHashed setAddHashedIn;refine wpAny_holding (wpAny_bind (wpAny_setState_of ho hd hf ?_));dsimp only;rw [byScan_of hsc hb hel,if_pos rfl];unfold setAddByScan;refine wpAny_bind (wpAny_bind (wpAny_rule (wpAny_bind (wpAny_setScan_of hkey ho hd hf hel ?_))));cases hr:List.findIdx? (λe=>knd.is k e.2) es.toList with
 |some j=>
  dsimp only;obtain ⟨hj,hpj,_⟩:=List.findIdx?_eq_some_iff_getElem.mp hr;have hSk:S k=true:=(hmem k).mpr ⟨es.toList[j],ybu hj,hpj⟩;refine wpAny_pure (wpAny_pure ?_);have e:s={s with heap:=s.heap}:=by cases s;rfl
  rw [e];exact h s.heap _ (yam.refl a s.heap) ⟨o,es,ep,t,ho,hex,hd,hel,λk'=>by
   rw [Bool.or_eq_true,decide_eq_true_eq,<-hmem k'];exact ⟨λhk=>hk.elim id (λe=>e▸hSk),.inl⟩,hb,hf,Nat.le_succ_of_le hn,hG,hap⟩
 |none=>
  dsimp only;have none':∀e∈es.toList,knd.is k e.2=false:=λe he=>by simpa using List.findIdx?_eq_none_iff.mp hr e he
  have hgw:∀(c:Bool) (s₁:Shared) (Q':Unit->Shared->Prop),Q' () s₁->wpAny (model prog w) A (match c with|true=>rule "set.scan.the-table-gave-way" |false=>pure ()) Q' E s₁:=
   λc s₁ Q' hq=>by cases c <;> first|exact wpAny_pure hq|exact wpAny_rule hq
  have hperm:=layNew_perm t es (knd.hash k) x;have hfits:=layNew_fits t es (knd.hash k) x;have hgood:=Jww es (knd.hash k) x hG;generalize layNew t es (knd.hash k) x=L at hperm hfits hgood⊢;obtain ⟨es1,t1,wasDummy,gave⟩:=L;dsimp only at hperm hfits hgood⊢;rw [Array.toList_push] at hperm;have hsz1:es1.size=es.size+1:=by rw [<-ybg,hperm.length_eq,yas,ybg];rfl
  have hel1:ElemsOf knd es1.toList:=(hel.push hkey hsc).perm hperm;have hmem1:∀k',(S k'||decide (k'=k))=true↔∃e∈es1.toList,knd.is k' e.2=true:=mem_push_iff hkey hmem hperm;have hap1:Apart knd es1.toList:=by
   refine Apart.perm ?_ hperm;refine List.pairwise_append.mpr ⟨hap,List.pairwise_singleton _ _,λe he e' he' k' q1 q2=>?_⟩;obtain rfl:e'=(knd.hash k,x):=by simpa using he'
   have ek:k'=k:=knd.inj x k' k q2 hkey;rw [ek,none' e he] at q1;cases q1
  refine wpAny_bind (hgw _ _ _ ?_);have hend:∀h',yam a s.heap h'->SetG knd b h' a (λk'=>S k'||decide (k'=k)) es1.size->Q true {s with heap:=h'}:=λh' hsb hS'=>h h' true hsb (hS'.le (by rw [hsz1];exact Nat.succ_le_succ hn));have hb1:es1.size < scanBound:=by rw [hsz1];omega
  split
  ·refine wpAny_bind ?_;rw [hashByValue_scannable 8 hsc];refine wpAny_pure ?_;refine Jv1 (b:=b) hgw ho hex hd hel1 hmem1 hb1 ?_ ?_ hap1 ?_
   ·split
    ·exact hfits
    ·exact SetTable.fits_plain_off hfits
   ·split
    ·exact hgood
    ·exact Yay hgood
   ·intro h' hsb hS';exact wpAny_pure (hend h' hsb hS')
  ·refine wpAny_bind (wpAny_pure ?_);rw [if_pos rfl];refine Jv1 (b:=b) hgw ho hex hd hel1 hmem1 hb1 hfits hgood hap1 ?_;intro h' hsb hS';exact wpAny_pure (hend h' hsb hS')
end
end L2
namespace L2
open PySem PySem.Spec PyProof.Rows PySem.W
noncomputable def Jni (w:World):Bool:=!w.params.followText "set-order"
noncomputable def inZ (ns:List Int):Key->Bool
 | .inl i=>ns.contains i
 | .inr _=>false
theorem Yb0 (zs:List Int) (z:Int) (k:Key):(inZ zs k||decide (k= .inl z))=inZ (zs++ [z]) k:=by
 cases k with
 |inr y=>simp [inZ]
 |inl y=>
  show (zs.contains y||decide ((.inl y:Key)= .inl z))=(zs++ [z]).contains y;rw [ybn];simp [ycn]
section
variable {prog:Program} {w:World} {A:Around} {R:Result->Shared->Prop} {I:Addr} {fp wr:List Addr} {n:Nat} {P:Nat->Value->Prop} {St:Nat->Heap->Prop}
theorem Y4 (W:Walks prog w A.in1 I fp wr n P St) (S:Addr) (hSf:S∉fp) (zs:List Int) (hn:zs.length=n) (hP:∀i v,P i v->∃z t,zs[i]?=some z/\v= .int z t) (hb:n+1 < scanBound):
  ∀(k i:Nat) (s:Shared),n - i=k->i<=n->St i s.heap->SetG (Jk6 prog w) (Jni w) s.heap S (inZ (zs.take i)) i->
   (∀h' tk,(∀b o,b≠S->b∉wr->s.heap.get? b=some o->h'.get? b=some o)->SetG (Jk6 prog w) (Jni w) h' S (inZ zs) n->R (.ok (.ret .none)) {s with heap:=h',toks:=tk})->
   codeAny (model prog w) A (.builtin "set.update.loop" ⟨[.ref S,.ref I],[]⟩) R s:=by
 have hSw:S∉wr:=λh=>hSf (W.sub _ h);intro k
 induction k with
 |zero=>
  intro i s hk hi hst hS hR;obtain rfl:i=n:=by omega
  refine codeAny_builtin PyProof.Rows.F.entry_set_update_loop ?_;rw [Around.under_plainId PyProof.Rows.F.plain_set_update_loop _];refine wpAny_bind (W.done s _ _ hst λh' tk km=>?_);refine wpAny_pure (hR h' tk (λb o _ nb e=>km b o nb e) (hS.at (λo e=>km S o hSw e) λx=>?_));rw [yak (by omega)]
 |succ k ih=>
  intro i s hk hi hst hS hR;have hlt:i < n:=by omega
  refine codeAny_builtin PyProof.Rows.F.entry_set_update_loop ?_;rw [Around.under_plainId PyProof.Rows.F.plain_set_update_loop _];refine wpAny_bind (W.item i s _ _ hlt hst λv h1 tk hv hst1 km=>?_);obtain ⟨z,t,hz,rfl⟩:=hP i v hv;have et:zs.take (i+1)=zs.take i++ [z]:=by rw [yao,hz];rfl
  have hS1:SetG (Jk6 prog w) (Jni w) h1 S (inZ (zs.take i)) i:=hS.at (λo e=>km S o hSw e) λ_=>rfl;refine wpAny_bind (wpAny_holding ?_);unfold setAdd;refine wpAny_holding (wpAny_bind ((Jk6 prog w).pyHash (k:=.inl z) (Joe _ _ _ _) ?_));refine Ybr (knd:=Jk6 prog w) (k:=.inl z) (Joe _ _ _ _) rfl hS1 (by omega) λh2 _ sb hS2=>?_;refine wpAny_pure ⟨plainId_quiet PyProof.Rows.F.plain_set_update_loop _,ih (i+1) _ (by omega) hlt (W.frame _ _ _ hst1 λb hbf o e=>?_) (hS2.at (λo e=>e) λx=>?_) λh3 tk3 k3 hS3=>?_⟩
  ·show h2.get? b=some o;rw [sb.2 b (λq=>hSf (by rw [<-q];exact hbf))];exact e
  ·rw [et,Yb0]
  ·exact hR h3 tk3 (λb o nS nw e=>k3 b o nS nw (by show h2.get? b=some o;rw [sb.2 b nS];exact km b o nw e)) hS3
end
section
variable {prog:Program} {w:World} {A:Around} {E:Value->Shared->Prop} {s:Shared}
theorem Ybv (a:Value) {Q₁:Value->Shared->Prop} (h:Q₁ (.ref s.heap.objs.size) {s with heap:=s.heap.push {cls:=.type "set",dict:=none,data:=.set #[] 0 (.fresh 0 0 (Jni w))}}):
  codeAny (model prog w) A (.call (.builtin "set.__new__") ⟨[.type "set",a],[]⟩) (wants Q₁ E) s:=by
 refine codeAny_of_tree ?_;show wpAny _ A.in1 (do checkBuiltinCall "set.__new__" ⟨[.type "set",a],[]⟩;again (.builtin "set.__new__" ⟨[.type "set",a],[]⟩)) _ _ s;refine wpAny_bind (wpAny_of_eq (F.newCall_set_1 a) (wpAny_pure ⟨plainId_quiet F.plain_set_new _,codeAny_builtin F.entry_set_new ?_⟩));rw [Around.under_plainId F.plain_set_new _];unfold Builtin.«set.__new__» Builtin.Frozenset.newClass;have hsub:=sub_set_self;obtain ⟨hp,g,d,tk,os⟩:=s;dsimp only
 wp_walk
 refine wpAny_askSetting (wpAny_pure ?_);dsimp only;simp only [newObj];exact wpAny_bind (wpAny_alloc (wpAny_pure (wpAny_pure h)))
end
section
variable {prog:Program} {w:World} {A:Around} {E:Value->Shared->Prop} {s:Shared}
set_option maxRecDepth 100000 in
set_option maxHeartbeats 3200000 in
theorem Ybt {l:Addr} {items:Array Value} {zs:List Int} {Q:Value->Shared->Prop} (hh:A.handled=none) (hl:s.heap.IsList l items) (hz:zs.length=items.size) (hi:∀(i:Nat) (v:Value),items[i]?=some v->∃z t,zs[i]?=some z/\v= .int z t) (hb:items.size+1 < scanBound)
  (h:∀(h':Heap) (tk:Nat),SetG (Jk6 prog w) (Jni w) h' s.heap.objs.size (inZ zs) zs.length->(∀b o,s.heap.get? b=some o->h'.get? b=some o)->Q (.ref s.heap.objs.size) {s with heap:=h',toks:=tk}):wpAny (model prog w) A (call (.type "set") [.ref l]) Q E s:=by
 obtain ⟨cc,tl,hmro⟩:=F.called_set.mro;have hmade:=F.called_set.made;have hsub:=F.called_set.sub;refine wpAny_call (codeAny_of_tree ?_);show wpAny _ _ (callAny (.type "set") _) _ _ _;refine wpAny_pure ⟨Code.quiet_builtin _ (by decide +kernel),codeAny_builtin F.entry_type_call ?_⟩;rw [Around.under_plain (weight_type_call_type "set" [.ref l] []) rfl];have g1:=F.called_set.notType;have g2:=F.called_set.canCreate;have g3:=F.typeCall_set_1 (.ref l)
 repeat (any_goals (first|assumption|wp_step))
 refine codeAny_mono (Ybv (.ref l) (E:=E) (Q₁:=λobj s1=>obj= .ref s.heap.objs.size/\s1={s with heap:=s.heap.push {cls:=.type "set",dict:=none,data:=.set #[] 0 (.fresh 0 0 (Jni w))}}) ⟨rfl,rfl⟩) λr s1 hr=>?_;cases r with
 |error e=>exact hr
 |ok fl=>
  cases fl with
  |ret obj=>
   obtain ⟨rfl,rfl⟩:=hr;have hS:(s.heap.push {cls:=.type "set",dict:=none,data:=.set #[] 0 (.fresh 0 0 (Jni w))}).get? s.heap.objs.size=some {cls:=.type "set",dict:=none,data:=.set #[] 0 (.fresh 0 0 (Jni w))}:=yp _ rfl;have hT:Shared.TypeIs {s with heap:=s.heap.push {cls:=.type "set",dict:=none,data:=.set #[] 0 (.fresh 0 0 (Jni w))}} (.ref s.heap.objs.size) "set" :=⟨_,hS,rfl⟩;have g4:=F.called_set.init.lookup;have g5:=F.called_set.init.bind (.ref s.heap.objs.size)
   repeat (any_goals (first|assumption|wp_step))
   refine codeAny_mono (codeAny_call_builtin (R:=wants (λr s2=>r= .none/\∃h' tk,s2={s with heap:=h',toks:=tk}/\SetG (Jk6 prog w) (Jni w) h' s.heap.objs.size (inZ zs) zs.length/\(∀b o,s.heap.get? b=some o->h'.get? b=some o)) E) F.called_set.init.plain F.entry_set_init (check_set_init_1 hT ?_)) λr2 s2 hr2=>?_
   ·obtain ⟨⟨oc,od,oda,osl⟩,hol,hcl,nl,hdl⟩:=hl;simp only at hcl hdl;subst hcl hdl;have hol':(s.heap.push {cls:=.type "set",dict:=none,data:=.set #[] 0 (.fresh 0 0 (Jni w))}).get? l=some {cls:=.type "list",dict:=od,data:=.seq items nl,slots:=osl}:=yj _ hol;have g6:=F.sub_list_set;have g7:=F.sub_list_frozenset;have g8:(Value.type "list" ==Value.type "dict")=false:=by decide
    have hl1:(s.heap.push {cls:=.type "set",dict:=none,data:=.set #[] 0 (.fresh 0 0 (Jni w))}).IsList l items:=⟨_,hol',rfl,nl,rfl⟩;unfold Builtin.«set.__init__» noKeywords Builtin.Frozenset.updateFrom;generalize hPI:pyIter=PI
    wp_walk
    subst hPI;refine wpAny_pyIter_list hl1 (wpAny_bind (wpAny_runValue ?_));have lS:l < s.heap.objs.size:=yg hol;have h3:A.in1.in1.in1.handled=none:=by simp [hh]
    have nI:l≠(s.heap.push {cls:=.type "set",dict:=none,data:=.set #[] 0 (.fresh 0 0 (Jni w))}).objs.size:=by rw [yad];exact yr (ybk lS)
    have nS:s.heap.objs.size∉ [(s.heap.push {cls:=.type "set",dict:=none,data:=.set #[] 0 (.fresh 0 0 (Jni w))}).objs.size,l]:=by
     rw [yad];simp only [yo,yv,or_false,not_or];exact ⟨yr (ybh _),yaw lS⟩
    refine Y4 (Walks.list h3 _ l nI items) s.heap.objs.size nS zs hz hi hb (items.size - 0) 0 _ (by omega) (yan _) ⟨⟨_,yp _ rfl,rfl,rfl⟩,hl1.push _⟩ ?S0 ?R0
    case S0=>
     have q:((s.heap.push {cls:=.type "set",dict:=none,data:=.set #[] 0 (.fresh 0 0 (Jni w))}).push {cls:=.type "list_iterator",data:=.fields #[.ref l,.int 0 0]}).get? s.heap.objs.size=some {cls:=.type "set",dict:=none,data:=.set #[] 0 (.fresh 0 0 (Jni w))}:=yj _ hS;refine ⟨_,#[],0,_,q,⟨rfl,rfl,rfl⟩,rfl,λe he=>by simp at he,λx=>?_,by decide,by rfl,yi _,⟨λ_ i k _ hk=>by simp [SetTable.fresh] at hk,rfl⟩,yby.nil⟩;cases x <;> simp [inZ]
    case R0=>
     intro h' tk km hS';show wpAny _ _ _ _ _ _;refine wpAny_pure ?_;show wpAny _ _ (ret Value.none) _ _ _;refine wpAny_pure ⟨rfl,h',tk,rfl,by rw [hz];exact hS',λb o e=>?_⟩;have lb:b < s.heap.objs.size:=yg e;refine km b o (yr lb) ?_ (yj _ (yj _ e));rw [yad];simp only [yo,yv,or_false];exact yr (ybk lb)
   ·cases r2 with
    |error e=>exact hr2
    |ok fl2=>
     cases fl2 with
     |ret r=>
      obtain ⟨rfl,h',tk,rfl,hS',hk'⟩:=hr2
      repeat (any_goals (first|assumption|wp_step))
      exact h _ _ hS' hk'
     |_=>exact hr2.elim
  |_=>exact hr.elim
end
end L2
namespace L2
open PySem PySem.Spec PyProof.Rows PySem.W
theorem sit_slot_next:Slot "set_iterator" "__next__" "set_iterator.__next__" :=
 .of (owner:="set_iterator") (n:="__next__") (by rw [typeLookup_type,builtinLookup_eq_fast];kernel_rfl) (by decide +kernel) (by decide +kernel) (by decide +kernel)
  (by first|exact .inl (by decide +kernel)|exact .inr (by decide +kernel)) (by rw [isSubtype_type];kernel_rfl)
theorem Jmd:entryFor table "set_iterator.__next__" =some Builtin.«set_iterator.__next__»:=entryFor_of_tree (by kernel_rfl)
theorem Jv3:Manifest.owners.lookup (String.ofList ['r','o','t','a','r','e','t','i','_','t','e','s'].reverse)=some Manifest.sig_set_iterator:=by kernel_rfl
theorem Jmp (a:Value):argsOk "set_iterator.__next__" ⟨[a],[]⟩:=by
 unfold argsOk;rw [signature?_of (id:="set_iterator.__next__") (n:=['_','_','t','x','e','n','_','_']) (o:=['r','o','t','a','r','e','t','i','_','t','e','s']) (by kernel_rfl) Jv3];kernel_rfl
theorem Jte:entryFor table "set.__iter__" =some Builtin.«frozenset.__iter__»:=
 entryFor_alias (id':="frozenset.__iter__") (by kernel_rfl) (by first|rfl|decide +kernel) (by decide +kernel) (by kernel_rfl)
section
variable {M:Model} {A:Around} {E:Value->Shared->Prop} {s:Shared}
theorem Jpv {α:Type}:∀{l:List α} {i:Nat} (h:i < l.length),(l[i]::l.eraseIdx i).Perm l
 | [],_,h=>absurd h (ycf _)
 |_::_,0,_=>List.Perm.refl _
 |a::l,i+1,h=>by
  have ih:=Jpv (l:=l) (i:=i) (by simpa using h);show (l[i]'(by simpa using h)::a::l.eraseIdx i).Perm (a::l);exact (List.Perm.swap _ _ _).trans (ih.cons a)
theorem Jy0 {src:Source} {n:Nat} {Q:Nat->Shared->Prop} (hn:n≠0) (h:∀i d,i < n->Q i {s with drawn:=d}):wpAny M A (choose src n) Q E s:=
 λ_ _ _=>⟨hn,h _ _ (Nat.mod_lt _ (Nat.pos_of_ne_zero hn))⟩
theorem Yaq {α:Type}:∀(n:Nat) (xs:List α) (s:Shared) (Q:List α->Shared->Prop),xs.length=n->(∀ys d,ys.Perm xs->Q ys {s with drawn:=d})->wpAny M A (drawOrder n xs) Q E s:=by
 intro n
 induction n with
 |zero=>
  intro xs s Q e h;have:xs= []:=List.length_eq_zero_iff.mp e;subst this;unfold drawOrder;exact wpAny_pure (h [] s.drawn (List.Perm.refl _))
 |succ n ih=>
  intro xs s Q e h;cases xs with
  |nil=>simp at e
  |cons x xs=>
   unfold drawOrder;refine wpAny_bind (Jy0 (by simp) λi d hi=>?_);have ei:(x::xs)[i]?=some (x::xs)[i]:=yn hi;rw [ei];refine wpAny_bind (ih ((x::xs).eraseIdx i) _ _ (by rw [List.length_eraseIdx_of_lt hi];omega) λys d2 p=>wpAny_pure ?_);exact h _ d2 ((p.cons _).trans (Jpv hi))
end
theorem Ydj {α:Type} (next:Nat->Nat):∀(fuel k:Nat) (left:List α) (out:Array α),left.length=fuel->(pickOrder.go next fuel k left out).toList.Perm (out.toList++left):=by
 intro fuel
 induction fuel with
 |zero=>
  intro k left out e;have:left= []:=List.length_eq_zero_iff.mp e;subst this;unfold pickOrder.go;simp
 |succ fuel ih=>
  intro k left out e;unfold pickOrder.go;have lt:next k%left.length < left.length:=Nat.mod_lt _ (by omega);rw [yn lt];dsimp only;refine (ih _ _ _ (by rw [List.length_eraseIdx_of_lt lt];omega)).trans ?_;rw [Array.toList_push,ycl];exact List.Perm.append_left _ (Jpv lt)
theorem Jri {α:Type} (next:Nat->Nat) (xs:Array α):(pickOrder next xs).toList.Perm xs.toList:=by
 have:=Ydj next xs.size 0 xs.toList #[] (by simp);unfold pickOrder;simpa using this
section
variable {prog:Program} {w:World} {A:Around} {E:Value->Shared->Prop} {s:Shared} {it a T:Addr} {i ep slot next p m:Nat} {x:Value} {h0:Int} {tk:Tok} {o oT:Obj} {es:Array (Int×Value)} {t:SetTable} {ps:Array Value} {Q:Option Value->Shared->Prop}
noncomputable abbrev Jph (h:Heap) (it a:Addr) (first:Value) (i n ep:Nat):Prop:=h.get? it=some {cls:=.type "set_iterator",dict:=none,data:=.fields #[first,.int i 0,.ref a,.int n 0,.int ep 0],slots:=#[]}
theorem Jv2 (hit:Jph s.heap it a (rawInt slot) i es.size ep) (ho:s.heap.get? a=some o) (hd:o.data= .set es ep t) (hf:t.fits es.size=true)
  (hp:∀(A:Around) (Q:Option (Value×Nat)->Shared->Prop) (E:Value->Shared->Prop),Q (some (x,next)) s->wpAny (model prog w) A (setNext a slot i ep) Q E s)
  (hQ:∀h',Jph h' it a (rawInt next) (i+1) es.size ep->(∀b o,b≠it->s.heap.get? b=some o->h'.get? b=some o)->Q (some x) {s with heap:=h'}):
  wpAny (model prog w) A (pyNext (.ref it)) Q E s:=by
 have hT:s.TypeIs (.ref it) "set_iterator" :=⟨_,hit,rfl⟩;unfold pyNext;refine wpAny_bind (wpAny_attempt (wpAny_callSpecial?_slot (name:=Str.ofString "__next__") hT sit_slot_next (wpAny_call_entry sit_slot_next hT Jmd ?_ (Jmp _))));unfold Builtin.«set_iterator.__next__»;refine wpAny_bind (wpAny_pure (wpAny_bind (wpAny_fieldsOf hit rfl ?_)));show wpAny _ _ (setEntries a >>=_) _ _ _;refine wpAny_bind (wpAny_setEntries_of ho hd hf ?_);rw [if_neg (by simp)];show wpAny _ _ (setNext a slot i ep >>=_) _ _ _;refine wpAny_bind (hp _ _ _ ?_);show wpAny _ _ (setField (.ref it) 0 (rawInt next) >>=_) _ _ _;refine wpAny_bind (wpAny_setField_rec hit (by simp) λh1 he1 sb1=>?_);refine wpAny_bind (wpAny_setField_rec (s:={s with heap:=h1}) he1 (by simp) λh2 he2 sb2=>?_);refine wpAny_pure ⟨_,rfl,wpAny_pure (hQ h2 ?_ λb o hb e=>(sb2.2 b hb).trans ((sb1.2 b hb).trans e))⟩;simp [rawInt] at he2;exact he2
theorem Jxm (hh:A.handled=none) (hit:Jph s.heap it a (rawInt slot) i es.size ep) (ho:s.heap.get? a=some o) (hd:o.data= .set es ep t) (hf:t.fits es.size=true)
  (hp:∀(A:Around) (Q:Option (Value×Nat)->Shared->Prop) (E:Value->Shared->Prop),Q none s->wpAny (model prog w) A (setNext a slot i ep) Q E s)
  (hQ:∀h',Heap.ExtBut it s.heap h'->Q none {s with heap:=h'}):wpAny (model prog w) A (pyNext (.ref it)) Q E s:=by
 have hT:s.TypeIs (.ref it) "set_iterator" :=⟨_,hit,rfl⟩;unfold pyNext;refine wpAny_bind (wpAny_attempt (wpAny_callSpecial?_slot (name:=Str.ofString "__next__") hT sit_slot_next (wpAny_call_entry sit_slot_next hT Jmd ?_ (Jmp _))));unfold Builtin.«set_iterator.__next__»;refine wpAny_bind (wpAny_pure (wpAny_bind (wpAny_fieldsOf hit rfl ?_)));show wpAny _ _ (setEntries a >>=_) _ _ _;refine wpAny_bind (wpAny_setEntries_of ho hd hf ?_);rw [if_neg (by simp)];show wpAny _ _ (setNext a slot i ep >>=_) _ _ _;refine wpAny_bind (hp _ _ _ ?_);show wpAny _ _ (setField (.ref it) 2 .none >>=_) _ _ _;refine wpAny_bind (wpAny_setField hit rfl (by simp) ?_);show wpAny _ _ (newExc (.type "StopIteration") [] >>=_) _ _ _;refine wpAny_bind ?_;simp only [newExc,newTuple];refine wpAny_bind (wpAny_newObj_type ?_ (by size_fits));refine wpAny_bind (m:=firstArgMember _ _) (wpAny_of_eq (a:=Value.none) (by first|rfl|(simp only [firstArgMember];rfl)) ?_);refine wpAny_newObj_type ?_ (by size_fits);simp only [raiseNew];refine wpAny_bind (wpAny_handled ?_);rw [show A.in1.handled=none from hh];refine wpAny_bind (wpAny_pure (wpAny_throw ?_));refine wpAny_bind (wpAny_isInstance (T:="StopIteration") (b:=true) ⟨_,yp _ rfl,rfl⟩ isSubtype_stop ?_);exact wpAny_pure (hQ _ (((yam.update ..).extBut.push _).push _))
theorem Yx (hit:Jph s.heap it a (.ref T) i es.size ep) (ho:s.heap.get? a=some o) (hd:o.data= .set es ep t) (hf:t.fits es.size=true) (hT:s.heap.get? T=some oT) (dT:oT.data= .seq ps m)
  (hp:ps[i]?=some (rawInt p)) (hx:es[p]?=some (h0,x)) (hQ:∀h',Jph h' it a (.ref T) (i+1) es.size ep->(∀b o,b≠it->s.heap.get? b=some o->h'.get? b=some o)->Q (some x) {s with heap:=h'}):
  wpAny (model prog w) A (pyNext (.ref it)) Q E s:=by
 have hTy:s.TypeIs (.ref it) "set_iterator" :=⟨_,hit,rfl⟩;unfold pyNext;refine wpAny_bind (wpAny_attempt (wpAny_callSpecial?_slot (name:=Str.ofString "__next__") hTy sit_slot_next (wpAny_call_entry sit_slot_next hTy Jmd ?_ (Jmp _))));unfold Builtin.«set_iterator.__next__»;refine wpAny_bind (wpAny_pure (wpAny_bind (wpAny_fieldsOf hit rfl ?_)));show wpAny _ _ (setEntries a >>=_) _ _ _;refine wpAny_bind (wpAny_setEntries_of ho hd hf ?_);rw [if_neg (by simp)];show wpAny _ _ (seqItems? (.ref T) >>=_) _ _ _;refine wpAny_bind (wpAny_seqItems hT dT ?_);dsimp only;rw [show ((i:Nat):Int).toNat=i from ybf i,hp];show wpAny _ _ (setNextDrawn a p ep >>=_) _ _ _;unfold setNextDrawn;refine wpAny_bind (wpAny_bind (wpAny_setState_of ho hd hf ?_));dsimp only;rw [if_neg (by simp),hx];refine wpAny_pure ?_;show wpAny _ _ (setField (.ref it) 1 (rawInt ((i:Int)+1)) >>=_) _ _ _;refine wpAny_bind (wpAny_setField_rec hit (by simp) λh1 he1 sb1=>?_);refine wpAny_pure ⟨_,rfl,wpAny_pure (hQ h1 ?_ λb o hb e=>(sb1.2 b hb).trans e)⟩;simp [rawInt] at he1;exact he1
theorem Ybw (hh:A.handled=none) (hit:Jph s.heap it a (.ref T) i es.size ep) (ho:s.heap.get? a=some o) (hd:o.data= .set es ep t) (hf:t.fits es.size=true) (hT:s.heap.get? T=some oT) (dT:oT.data= .seq ps m)
  (hp:ps[i]?=none) (hQ:∀h',Heap.ExtBut it s.heap h'->Q none {s with heap:=h'}):wpAny (model prog w) A (pyNext (.ref it)) Q E s:=by
 have hTy:s.TypeIs (.ref it) "set_iterator" :=⟨_,hit,rfl⟩;unfold pyNext;refine wpAny_bind (wpAny_attempt (wpAny_callSpecial?_slot (name:=Str.ofString "__next__") hTy sit_slot_next (wpAny_call_entry sit_slot_next hTy Jmd ?_ (Jmp _))));unfold Builtin.«set_iterator.__next__»;refine wpAny_bind (wpAny_pure (wpAny_bind (wpAny_fieldsOf hit rfl ?_)));show wpAny _ _ (setEntries a >>=_) _ _ _;refine wpAny_bind (wpAny_setEntries_of ho hd hf ?_);rw [if_neg (by simp)];show wpAny _ _ (seqItems? (.ref T) >>=_) _ _ _;refine wpAny_bind (wpAny_seqItems hT dT ?_);dsimp only;rw [show ((i:Nat):Int).toNat=i from ybf i,hp];show wpAny _ _ (setField (.ref it) 0 (rawInt 0) >>=_) _ _ _;refine wpAny_bind (wpAny_setField_rec hit (by simp) λh1 he1 sb1=>?_);refine wpAny_bind (wpAny_setField (s:={s with heap:=h1}) he1 rfl (by simp) ?_);show wpAny _ _ (newExc (.type "StopIteration") [] >>=_) _ _ _;refine wpAny_bind ?_;simp only [newExc,newTuple];refine wpAny_bind (wpAny_newObj_type ?_ (by size_fits));refine wpAny_bind (m:=firstArgMember _ _) (wpAny_of_eq (a:=Value.none) (by first|rfl|(simp only [firstArgMember];rfl)) ?_);refine wpAny_newObj_type ?_ (by size_fits);simp only [raiseNew];refine wpAny_bind (wpAny_handled ?_);rw [show A.in1.handled=none from hh];refine wpAny_bind (wpAny_pure (wpAny_throw ?_));refine wpAny_bind (wpAny_isInstance (T:="StopIteration") (b:=true) ⟨_,yp _ rfl,rfl⟩ isSubtype_stop ?_);exact wpAny_pure (hQ _ (((sb1.trans (yam.update ..)).extBut.push _).push _))
end
end L2
namespace L2
open PySem PySem.Spec PyProof.Rows PySem.W
section
variable {prog:Program} {w:World} {A:Around} {E:Value->Shared->Prop} {s:Shared} {it a:Addr} {i ep slot:Nat} {o:Obj} {es:Array (Int×Value)} {t:SetTable}
theorem Jp4 {Q:Bool->Shared->Prop} (h:Q (w.params.followText "set-order") s):wpAny (model prog w) A setsByText Q E s:=by
 unfold setsByText;exact wpAny_bind (wpAny_askSetting (wpAny_pure h))
theorem Juw {Q:Option (Value×Nat)->Shared->Prop} (hb:w.params.followText "set-order" =true) (ho:s.heap.get? a=some o) (hd:o.data= .set es ep t) (hf:t.fits es.size=true)
  (h:Q (((pickOrder (w.params.setOrder a ep) es)[i]?).map λe=>(e.2,slot)) s):wpAny (model prog w) A (setNext a slot i ep) Q E s:=by
 unfold setNext;refine wpAny_bind (wpAny_setState_of ho hd hf ?_);dsimp only;refine wpAny_bind (Jp4 ?_);rw [hb,if_pos rfl,if_neg (by simp)];unfold setWalk;refine wpAny_bind (wpAny_bind (wpAny_setState_of ho hd hf ?_));dsimp only;refine wpAny_bind (Jp4 ?_);rw [hb,if_pos rfl];exact wpAny_bind (wpAny_askSetting (wpAny_pure (wpAny_pure h)))
theorem Jsv {Q:Option (Value×Nat)->Shared->Prop} (hb:w.params.followText "set-order" =false) (ho:s.heap.get? a=some o) (hd:o.data= .set es ep t) (hf:t.fits es.size=true) (hl:t.led=true) (hp:(!t.plain&&decide (es.size > 1))=false)
  (h:Q (match es[SetTable.below t.place slot]?,t.place[SetTable.below t.place slot]? with|some (_,x),some j=>some (x,j+1)|_,_=>none) s):wpAny (model prog w) A (setNext a slot i ep) Q E s:=by
 unfold setNext;refine wpAny_bind (wpAny_setState_of ho hd hf ?_);dsimp only;refine wpAny_bind (Jp4 ?_);rw [hb,if_neg (by simp)];refine wpAny_ite_split (λhab=>?_) (λ_=>?_)
 ·have q:(!t.plain&&decide (es.size > 1))=true:=hab;rw [hp] at q;cases q
 refine wpAny_bind ?_;refine wpAny_ite_split (λhab=>?_) (λ_=>wpAny_pure (wpAny_pure h));have q:(!t.led&&!es.isEmpty)=true:=hab;rw [hl] at q;cases q
end
theorem Jpp:Slot "set_iterator" "__iter__" "set_iterator.__iter__" :=
 .of (owner:="set_iterator") (n:="__iter__") (by rw [typeLookup_type,builtinLookup_eq_fast];kernel_rfl) (by decide +kernel) (by decide +kernel) (by decide +kernel)
  (by first|exact .inl (by decide +kernel)|exact .inr (by decide +kernel)) (by rw [isSubtype_type];kernel_rfl)
theorem Jtf:entryFor table "set_iterator.__iter__" =some Builtin.«dict_keyiterator.__iter__»:=
 entryFor_alias (id':="dict_keyiterator.__iter__") (by kernel_rfl) (by first|rfl|decide +kernel) (by decide +kernel) (by kernel_rfl)
theorem Jub (a:Value):argsOk "set_iterator.__iter__" ⟨[a],[]⟩:=by
 unfold argsOk;rw [signature?_of (id:="set_iterator.__iter__") (n:=['_','_','r','e','t','i','_','_']) (o:=['r','o','t','a','r','e','t','i','_','t','e','s']) (by kernel_rfl) Jv3];kernel_rfl
section
variable {prog:Program} {w:World} {A:Around} {E:Value->Shared->Prop} {s:Shared} {it a:Addr}
theorem Jtg {first:Value} {i n ep:Nat} {Q:Value->Shared->Prop} (hit:Jph s.heap it a first i n ep) (h:Q (.ref it) s):wpAny (model prog w) A (pyIter (.ref it)) Q E s:=by
 have hT:s.TypeIs (.ref it) "set_iterator" :=⟨_,hit,rfl⟩;refine wpAny_pyIter_slot hT Jpp (wpAny_call_entry Jpp hT Jtf ?_ (Jub _));show wpAny _ _ (ret (.ref it)) _ _ s;exact wpAny_pure ⟨_,rfl,"set_iterator",_,hT,sit_slot_next.lookup,h⟩
end
end L2
namespace L2
open PySem PySem.Spec PyProof.Rows PySem.W
section
variable {prog:Program} {w:World} {A:Around} {it a T:Addr} {ep m:Nat} {o oT:Obj} {es:Array (Int×Value)} {t:SetTable} {ps:Array Value}
structure Jsc (w:World) (o:Obj) (es:Array (Int×Value)) (ep:Nat) (t:SetTable):Prop where
 data:o.data= .set es ep t
 fits:t.fits es.size=true
 good:Jpg (Jni w) t
noncomputable def atV (l:List (Int×Value)) (i:Nat) (v:Value):Prop:=(l.map (·.2))[i]?=some v
theorem Yab (hh:A.handled=none) (hb:w.params.followText "set-order" =true) (S:Jsc w o es ep t) (ne:a≠it):
  Walks prog w A it [it,a] [it] es.size (atV (pickOrder (w.params.setOrder a ep) es).toList) (λi h=>h.get? a=some o/\Jph h it a (rawInt (0:Nat)) i es.size ep) where
 sub:=λb hb=>by simp at hb;simp [hb]
 frame:=λi h h' st k=>⟨k a (by simp) _ st.1,k it (by simp) _ st.2⟩
 item:=λi s Q E hi st hQ=>by
  have hl:(pickOrder (w.params.setOrder a ep) es).toList.length=es.size:=(Jri _ es).length_eq.trans (by simp);have hs:i < (pickOrder (w.params.setOrder a ep) es).size:=by simpa [<-hl] using hi
  refine Jv2 (x:=(pickOrder (w.params.setOrder a ep) es)[i].2) (next:=0) st.2 st.1 S.data S.fits (λA Q E h=>Juw hb st.1 S.data S.fits (by rw [ycg hs];exact h)) λh' e1 k1=>?_;exact hQ _ h' s.toks (by show ((pickOrder (w.params.setOrder a ep) es).toList.map (·.2))[i]?=_;simp [hs]) ⟨k1 a _ ne st.1,e1⟩ λb o' hb' q=>k1 b o' (by simpa using hb') q
 done:=λs Q E st hQ=>by
  have hl:(pickOrder (w.params.setOrder a ep) es).toList.length=es.size:=(Jri _ es).length_eq.trans (by simp);refine Jxm hh st.2 st.1 S.data S.fits (λA Q E h=>Juw hb st.1 S.data S.fits (by rw [Array.getElem?_eq_none (by rw [<-hl];simp)];exact h)) λh' eb=>?_;exact hQ h' s.toks λb o' hb' q=>eb b o' (by simpa using hb') q
 self:=λi s Q E st h=>Jtg st.2 h
noncomputable def nxt (t:SetTable) (i:Nat):Nat:=if i=0 then 0 else t.place.getD (i - 1) 0+1
theorem Jud {i:Nat} (rs:Jpq t.place) (hi:i<=t.place.size):SetTable.below t.place (nxt t i)=i:=by
 unfold nxt;by_cases z:i=0
 ·rw [if_pos z,z];exact Jxy rs
 ·rw [if_neg z,Jxx rs (by omega)];omega
theorem Jz3 (hh:A.handled=none) (hb:w.params.followText "set-order" =false) (S:Jsc w o es ep t) (hp:(!t.plain&&decide (es.size > 1))=false) (ne:a≠it):
  Walks prog w A it [it,a] [it] es.size (atV es.toList) (λi h=>h.get? a=some o/\Jph h it a (rawInt (nxt t i)) i es.size ep) where
 sub:=λb hb=>by simp at hb;simp [hb]
 frame:=λi h h' st k=>⟨k a (by simp) _ st.1,k it (by simp) _ st.2⟩
 item:=λi s Q E hi st hQ=>by
  have sz:t.place.size=es.size:=by have:=S.fits;simp [SetTable.fits] at this;exact this.1
  have rs:Jpq t.place:=by
   cases hpl:t.plain with
   |true=>exact S.good.1 hpl
   |false=>
    rw [hpl] at hp;simp at hp;exact λi k ik hk=>by omega
  have led:t.led=true:=by rw [S.good.2];unfold Jni;rw [hb];rfl
  have hi':i < t.place.size:=by rw [sz];exact hi
  refine Jv2 (x:=es[i].2) (next:=nxt t (i+1)) st.2 st.1 S.data S.fits (λA Q E h=>Jsv hb st.1 S.data S.fits led hp ?_) λh' e1 k1=>?_
  ·rw [Jud rs (yaq hi'),ycg hi,ycg hi'];have e:nxt t (i+1)=t.place[i]+1:=by unfold nxt;rw [if_neg (Nat.succ_ne_zero _)];simp [ybm,hi']
   rw [e] at h;exact h
  ·exact hQ _ h' s.toks (by show (es.toList.map (·.2))[i]?=_;simp [hi]) ⟨k1 a _ ne st.1,e1⟩ λb o' hb' q=>k1 b o' (by simpa using hb') q
 done:=λs Q E st hQ=>by
  have sz:t.place.size=es.size:=by have:=S.fits;simp [SetTable.fits] at this;exact this.1
  have rs:Jpq t.place:=by
   cases hpl:t.plain with
   |true=>exact S.good.1 hpl
   |false=>
    rw [hpl] at hp;simp at hp;exact λi k ik hk=>by omega
  have led:t.led=true:=by rw [S.good.2];unfold Jni;rw [hb];rfl
  refine Jxm hh st.2 st.1 S.data S.fits (λA Q E h=>Jsv hb st.1 S.data S.fits led hp ?_) λh' eb=>?_
  ·rw [Jud rs (by omega),Array.getElem?_eq_none (yi _)];exact h
  ·exact hQ h' s.toks λb o' hb' q=>eb b o' (by simpa using hb') q
 self:=λi s Q E st h=>Jtg st.2 h
theorem Jz2 (hh:A.handled=none) (S:Jsc w o es ep t) {ns:List Nat} (pm:ns.Perm (yt es.size)) (dT:oT.data= .seq (ns.map λi:Nat=>rawInt i).toArray m) (ne:a≠it) (nT:T≠it):
  Walks prog w A it [it,a,T] [it] es.size (atV (ns.filterMap (es[·]?))) (λi h=>h.get? a=some o/\h.get? T=some oT/\Jph h it a (.ref T) i es.size ep) where
 sub:=λb hb=>by simp at hb;simp [hb]
 frame:=λi h h' st k=>⟨k a (by simp) _ st.1,k T (by simp) _ st.2.1,k it (by simp) _ st.2.2⟩
 item:=λi s Q E hi st hQ=>by
  have hl:ns.length=es.size:=by rw [pm.length_eq,yau]
  have hi':i < ns.length:=by rw [hl];exact hi
  have hm:ns[i] < es.size:=yac.mp (pm.mem_iff.mp (ybu hi'));refine Yx (p:=ns[i]) (x:=es[ns[i]].2) (h0:=es[ns[i]].1) st.2.2 st.1 S.data S.fits st.2.1 dT (by simp [hi']) (by rw [ycg hm]) λh' e1 k1=>?_;refine hQ _ h' s.toks ?_ ⟨k1 a _ ne st.1,k1 T _ nT st.2.1,e1⟩ λb o' hb' q=>k1 b o' (by simpa using hb') q;show ((ns.filterMap (es[·]?)).map (·.2))[i]?=_;have all:∀(l:List Nat),(∀x∈l,x < es.size)->(l.filterMap (es[·]?)).map (·.2)=l.map λx=>(es.getD x (0,.none)).2:=by
   intro l
   induction l with
   |nil=>intro _;rfl
   |cons x l ih=>
    intro hx;have lx:=hx x (yal ..);rw [yci,ycg lx,yax,yax,ih λy hy=>hx y (yaf _ hy)];simp [ybm,lx]
  rw [all ns λx hx=>yac.mp (pm.mem_iff.mp hx)];simp [hi',ybm,hm]
 done:=λs Q E st hQ=>by
  have hl:ns.length=es.size:=by rw [pm.length_eq,yau]
  refine Ybw hh st.2.2 st.1 S.data S.fits st.2.1 dT (by simp [hl]) λh' eb=>?_;exact hQ h' s.toks λb o' hb' q=>eb b o' (by simpa using hb') q
 self:=λi s Q E st h=>Jtg st.2.2 h
end
end L2
namespace L2
open PySem PySem.Spec PyProof.Rows PySem.W
section
variable {prog:Program} {w:World} {A:Around} {E:Value->Shared->Prop} {s:Shared} {a:Addr} {ep:Nat} {o:Obj} {es:Array (Int×Value)} {t:SetTable}
theorem Ybu {A':Around} (hh:A'.handled=none) (ho:s.heap.get? a=some o) (hex:o.ExactSet) (S:Jsc w o es ep t) (hz:es.size<=sizeLine) {Q:Value->Shared->Prop}
  (h:∀(h1:Heap) (d1:Drawn) (it:Addr) (fp:List Addr) (ord:List (Int×Value)) (St:Nat->Heap->Prop),ord.Perm es.toList->(∀b o,s.heap.get? b=some o->h1.get? b=some o)->s.heap.objs.size<=it->(∀b∈fp,b=a\/s.heap.objs.size<=b)->
   Walks prog w A' it fp [it] es.size (atV ord) St->St 0 h1->Q (.ref it) {s with heap:=h1,drawn:=d1}):
  wpAny (model prog w) A (pyIter (.ref a)) Q E s:=by
 have hT:s.TypeIs (.ref a) "set" :=⟨o,ho,hex.1⟩;refine wpAny_pyIter_slot hT PySem.F.slot_set_iter (wpAny_call_entry PySem.F.slot_set_iter hT Jte ?_ (PySem.F.args_set_iter_1 _));unfold Builtin.«frozenset.__iter__»;refine wpAny_bind ?_;unfold Builtin.Frozenset.slot0;refine wpAny_bind (wpAny_pure (wpAny_pure ?_));refine wpAny_bind ?_;unfold Builtin.Frozenset.sizeOf;refine wpAny_bind (wpAny_setEntries_of ho S.data S.fits (wpAny_pure ?_));refine wpAny_bind ?_;unfold setDrawn;refine wpAny_bind (wpAny_setState_of ho S.data S.fits ?_);dsimp only;refine wpAny_bind (Jp4 (wpAny_pure ?_));have lt:a < s.heap.objs.size:=yg ho;refine wpAny_ite_split (λhab=>?_) (λhab=>?_)
 ·have q:(!w.params.followText "set-order" &&(!t.plain&&decide (es.size > 1)))=true:=hab;refine wpAny_bind (Yaq es.size (yt es.size) _ _ (by simp) λns d pm=>?_);have hl:ns.length=es.size:=by rw [pm.length_eq,yau]
  unfold newTuple;refine wpAny_bind (wpAny_newObj_type ?_ (show (ns.map λi:Nat=>rawInt i).toArray.size<=sizeLine by simp;omega));refine wpAny_bind (wpAny_setEpoch_of (yj _ ho) S.data S.fits ?_);unfold newFields;refine wpAny_bind (wpAny_newObj_type ?_ (by size_fits));refine wpAny_pure ⟨_,rfl,"set_iterator",_,⟨_,yp _ rfl,rfl⟩,sit_slot_next.lookup,?_⟩;refine h _ d _ _ (ns.filterMap (es[·]?)) _ ?_ (λb o e=>yj _ (yj _ e)) ?_ ?_ (Jz2 (T:=s.heap.objs.size) hh S pm rfl ?_ ?_) ⟨yj _ (yj _ ho),yj _ (yp _ rfl),yp _ rfl⟩
  ·have e:(yt es.size).filterMap (es[·]?)=es.toList:=by
    refine List.ext_getElem? λi=>?_;have all:∀(n:Nat),n<=es.size->(yt n).filterMap (es[·]?)=es.toList.take n:=by
     intro n
     induction n with
     |zero=>intro _;rfl
     |succ n ih=>
      intro hn;rw [ybr,List.filterMap_append,ih (by omega),yao];simp [show n < es.size by omega]
    rw [all es.size (yi _),yak (by simp)]
   rw [<-e];exact pm.filterMap _
  ·simp
  ·intro b hb;simp at hb;rcases hb with rfl|rfl|rfl
   ·right;simp
   ·left;rfl
   ·right;exact yi _
  ·rw [yad];exact yr (ybk lt)
  ·rw [yad];exact yr (ybh _)
 ·have q:¬((!w.params.followText "set-order" &&(!t.plain&&decide (es.size > 1)))=true):=hab;refine wpAny_bind (wpAny_pure (wpAny_bind (wpAny_setEpoch_of ho S.data S.fits ?_)));unfold newFields;refine wpAny_bind (wpAny_newObj_type ?_ (by size_fits));refine wpAny_pure ⟨_,rfl,"set_iterator",_,⟨_,yp _ rfl,rfl⟩,sit_slot_next.lookup,?_⟩;have fpk:∀b∈ [s.heap.objs.size,a],b=a\/s.heap.objs.size<=b:=λb hb=>by
   simp at hb;rcases hb with rfl|rfl
   ·right;exact yi _
   ·left;rfl
  cases hb:w.params.followText "set-order" with
  |true=>exact h _ s.drawn _ _ _ _ (Jri _ es) (λb o e=>yj _ e) (yi _) fpk (Yab hh hb S (yr lt)) ⟨yj _ ho,yp _ rfl⟩
  |false=>
   rw [hb] at q;exact h _ s.drawn _ _ _ _ (List.Perm.refl _) (λb o e=>yj _ e) (yi _) fpk (Jz3 hh hb S (by simpa using q) (yr lt)) ⟨yj _ ho,yp _ rfl⟩
end
end L2
namespace L2
open PySem PySem.Spec PyProof.Rows PySem.W PySem.Calls
section
variable {prog:Program} {w:World} {A:Around} {E:Value->Shared->Prop} {s:Shared} {a:Addr} {ep:Nat} {o:Obj} {es:Array (Int×Value)} {t:SetTable}
theorem Ybs {Q:Bool->Shared->Prop} (hT:s.TypeIs (.ref a) "set") (h:Q false s):wpAny (model prog w) A (Builtin.List.listLengthHint (.ref a)) Q E s:=by
 unfold Builtin.List.listLengthHint;refine wpAny_bind (wpAny_specialOf hT PySem.F.slot_set_len.lookup ?_);generalize hid:("set.__len__" :String)=id0
 wp_delta
 rw [show splitId id0=some ("set","__len__") from by subst hid;decide +kernel];subst hid;refine wpAny_bind (wpAny_isInstance (T:="set") (b:=true) hT (by rw [isSubtype_type];kernel_rfl) ?_);refine wpAny_ite_split (λhab=>absurd hab (by decide)) (λ_=>?_);refine wpAny_ite_split (λ_=>?_) (λhab=>absurd (by decide +kernel) hab);refine wpAny_bind (wpAny_typeOf hT ?_);exact wpAny_pure h
theorem Jyr {R:Result->Shared->Prop} (hh:A.handled=none) (ho:s.heap.get? a=some o) (hex:o.ExactSet) (S:Jsc w o es ep t) (hz:es.size<=sizeLine) (L:Addr) (hLa:L≠a) (res:Value) (hL:s.heap.get? L=some {cls:=.type "list",data:=.seq #[]})
  (hR:∀h' d tk acc c ord,ord.Perm es.toList->(∀b o,b≠L->s.heap.get? b=some o->h'.get? b=some o)->h'.get? L=some {cls:=.type "list",dict:=none,data:=.seq acc c,slots:=#[]}->ItemsOf (atV ord) acc es.size->R (.ok (.ret res)) {s with heap:=h',toks:=tk,drawn:=d}):
  wpAny (model prog w) A.in1 (Builtin.List.listExtendWith (.ref L) (.ref a) res)
   (λfin s'=>match fin with| .done f=>R (.ok f) s'| .again c'=>c'.quiet=true/\codeAny (model prog w) A c' R s') (λe s'=>R (.error e) s') s:=by
 have hT:s.TypeIs (.ref a) "set" :=⟨o,ho,hex.1⟩;unfold Builtin.List.listExtendWith;refine wpAny_bind (wpAny_typeOf hT ?_);have h1:Builtin.List.listSameRef (.ref L) (.ref a)=false:=by simp [Builtin.List.listSameRef,hLa]
 rw [if_neg (by rw [h1];decide)];refine wpAny_bind (Ybu (A':=A.in1) hh ho hex S hz λh1 d1 it fp ord St pm kp li hfp W st=>?_);have lL:L < s.heap.objs.size:=yg hL;have hLf:L∉fp:=λq=>(hfp L q).elim hLa λz=>absurd lL (yat.mpr z);have key:∀(h:Heap) (c:Nat),St 0 h->(∀b o,b≠L->s.heap.get? b=some o->h.get? b=some o)->h.get? L=some {cls:=.type "list",data:=.seq #[] c}->
   codeAny (model prog w) A (.builtin "list.extend.loop" ⟨[.ref L,.ref it,res],[]⟩) R {s with heap:=h,drawn:=d1}:=by
  intro h c hst hk hL1;refine codeAny_extend_loopS W.toS hz L hLf res es.size 0 _ #[] c rfl (yan _) hst hL1 (ItemsOf.nil _) λs' acc' c' hm hS' hacc=>?_;rw [Moved.eq_with hm];refine hR s'.heap d1 s'.toks acc' c' ord pm (λb o hb e=>hm.heap b o (λhmem=>?_) (hk b o hb e)) hS' hacc;rcases yo.mp hmem with e'|hmem
  ·exact hb e'
  ·exact absurd (yg e) (by rw [ybq.mp hmem];exact yat.mpr li)
 have hL1:=kp L _ hL;refine wpAny_bind (wpAny_holding (Ybs ⟨o,kp _ _ ho,hex.1⟩ ?_));refine wpAny_ite_split (λ_=>?_) (λ_=>wpAny_pure ⟨plainId_quiet PySem.F.plain_extend_loop _,key _ 0 st (λb o _ e=>kp b o e) hL1⟩);refine wpAny_bind (wpAny_rule ?_);refine wpAny_bind ?_;show wpAny _ _ (updateSeq L (·.push .none) >>=λ_=>updateSeq L (·.pop)) _ _ _;refine wpAny_bind (wpAny_updateSeq hL1 rfl ?_);have hS₂:=ybj (Obj.mapSeq (·.push Value.none)) hL1 rfl;refine wpAny_updateSeq (hz:=by seq_fits) hS₂ rfl ?_;have hS₃:=ybj (Obj.mapSeq (·.pop)) hS₂ rfl;refine wpAny_pure ⟨plainId_quiet PySem.F.plain_extend_loop _,key _ _ ?_ (λb o hb e=>?_) hS₃⟩
 ·refine W.frame 0 _ _ st λb hb o e=>?_;have hbS:b≠L:=λh=>hLf (h▸hb);exact (ybc _ _ (yk hbS)).trans ((ybc _ _ (yk hbS)).trans e)
 ·exact (ybc _ _ (yk hb)).trans ((ybc _ _ (yk hb)).trans (kp b o e))
theorem Jxk {R:List Value->Shared->Prop} (hh:A.handled=none) (ho:s.heap.get? a=some o) (hex:o.ExactSet) (S:Jsc w o es ep t) (hz:es.size<=sizeLine)
  (h:∀h' d tk acc ord,ord.Perm es.toList->(∀b o,s.heap.get? b=some o->h'.get? b=some o)->s.heap.objs.size < h'.objs.size->ItemsOf (atV ord) acc es.size->R acc.toList {s with heap:=h',toks:=tk,drawn:=d}):wpAny (model prog w) A (collect (.ref a)) R E s:=by
 have lt:a < s.heap.objs.size:=yg ho;unfold collect;refine wpAny_bind (wpAny_runValue (codeAny_builtin entry_proto_collect' ?_));rw [Around.under_plainId PySem.F.plain_proto_collect _];show wpAny _ A.in1 (newList [] >>=λl=>again (.builtin "list.__iadd__" ⟨[l,.ref a],[]⟩)) _ _ s;refine wpAny_bind (wpAny_newObj_type ?_);refine wpAny_pure ⟨plainId_quiet PySem.F.plain_list_iadd _,codeAny_builtin entry_list_iadd' ?_⟩;rw [Around.under_plainId PySem.F.plain_list_iadd _];show wpAny _ A.in1 (Builtin.List.listExtendWith (.ref s.heap.objs.size) (.ref a) (.ref s.heap.objs.size)) _ _ _;have key:=Jyr (prog:=prog) (A:=A) (s:={s with heap:=s.heap.push {cls:=.type "list",data:=.seq ([]:List Value).toArray}})
  (R:=λ(q:Result) (s':Shared)=>∃(h':Heap) (d:Drawn) (tk:Nat) (acc:Array Value) (c:Nat) (ord:List (Int×Value)),q= .ok (.ret (.ref s.heap.objs.size))/\s'={s with heap:=h',toks:=tk,drawn:=d}/\ord.Perm es.toList/\
   (∀b o,s.heap.get? b=some o->h'.get? b=some o)/\h'.get? s.heap.objs.size=some {cls:=.type "list",dict:=none,data:=.seq acc c,slots:=#[]}/\ItemsOf (atV ord) acc es.size)
  hh (yj _ ho) hex S hz s.heap.objs.size (yaw lt) (.ref s.heap.objs.size) (yp _ rfl)
  (λh' d tk acc c ord pm hk hS' hacc=>⟨h',d,tk,acc,c,ord,rfl,rfl,pm,λb o e=>hk b o (yr (yg e)) (yj _ e),hS',hacc⟩)
 refine wpAny_mono key (λfin s' x=>?_) λe s' x=>?_
 ·cases fin with
  |done f=>
   obtain ⟨h',d,tk,acc,c,ord,e,rfl,pm,hk,hS',hacc⟩:=x;cases e;show wpAny _ A (load s.heap.objs.size >>=_) _ _ _;refine wpAny_bind (wpAny_load hS' ?_);exact wpAny_pure (h h' d tk acc ord pm hk (yg hS') hacc)
  |again c₁=>
   refine ⟨x.1,codeAny_mono x.2 λq s₂ y=>?_⟩;obtain ⟨h',d,tk,acc,c,ord,rfl,rfl,pm,hk,hS',hacc⟩:=y;show wpAny _ A (load s.heap.objs.size >>=_) _ _ _;refine wpAny_bind (wpAny_load hS' ?_);exact wpAny_pure (h h' d tk acc ord pm hk (yg hS') hacc)
 ·obtain ⟨_,_,_,_,_,_,e',_⟩:=x;cases e'
theorem Y5 {l l':List Value} (p:l.Perm l'):∀{ns:List Int},IntsAre l' ns->∃ns1,IntsAre l ns1/\ns1.Perm ns:=by
 induction p with
 |nil=>intro ns h;cases h;exact ⟨[],.nil,.nil⟩
 |cons x _ ih=>
  intro ns h;cases h with
  |cons n t h=>
   obtain ⟨ns1,a1,a2⟩:=ih h;exact ⟨n::ns1,.cons n t a1,a2.cons n⟩
 |swap x y l=>
  intro ns h;cases h with
  |cons n t h=>
   cases h with
   |cons m u h=>exact ⟨_,.cons m u (.cons n t h),List.Perm.swap ..⟩
 |trans _ _ ih1 ih2=>
  intro ns h;obtain ⟨n2,a1,a2⟩:=ih2 h;obtain ⟨n1,b1,b2⟩:=ih1 a1;exact ⟨n1,b1,b2.trans a2⟩
theorem Jyt {ns:List Int} {Q:Value->Shared->Prop} (hh:A.handled=none) (ho:s.heap.get? a=some o) (hex:o.ExactSet) (S:Jsc w o es ep t) (h64:es.size < 64) (hI:IntsAre (es.toList.map (·.2)) ns)
  (h:∀h' d tk D c (out:Array Value) (ns':List Int),(∀b o,s.heap.get? b=some o->h'.get? b=some o)->s.heap.objs.size<=D->h'.get? D=some {cls:=.type "list",data:=.seq out c}->IntsAre out.toList ns'->ns'.Perm ns->ns'.Pairwise (·<=·)->
   Q (.ref D) {s with heap:=h',toks:=tk,drawn:=d}):wpAny (model prog w) A (call (.builtin "sorted") [.ref a]) Q E s:=by
 have hz:es.size<=sizeLine:=by rw [sizeLine_eq];omega
 refine Calls.call_function_entry kind_sorted plain_sorted entry_sorted (args_sorted1 _) ?_;unfold Builtin.«sorted»;refine wpAny_bind (m:=checkCount "sorted" 1 1 _) (wpAny_pure ?_);refine wpAny_bind (Jxk (A:=A.in1) hh ho hex S hz λh1 d tk acc ord pm kp lt hI1=>?_);have hl:acc.toList.length=es.size:=by rw [ybg];exact hI1.1
 have ea:acc.toList=ord.map (·.2):=by
  refine List.ext_getElem? λi=>?_;by_cases lt:i < acc.toList.length
  ·have e1:acc.toList[i]?=some acc.toList[i]:=yn lt;have e2:acc[i]?=some acc.toList[i]:=by rw [<-Array.getElem?_toList];exact e1
   rw [e1];exact (hI1.2 i _ e2).symm
  ·rw [List.getElem?_eq_none (yat.mp lt),List.getElem?_eq_none];rw [yf,pm.length_eq,ybg];omega
 obtain ⟨ns1,hI2,p2⟩:∃ns1,IntsAre acc.toList ns1/\ns1.Perm ns:=by
  rw [ea];exact Y5 (pm.map (·.2)) hI
 refine wpAny_bind (wpAny_newList ?_ (by rw [hl];exact hz));have hoL:(h1.push (seqObj "list" acc.toList.toArray 0)).get? h1.objs.size=some (seqObj "list" acc.toList.toArray 0):=yp _ rfl;refine wpAny_bind (wpAny_holding (wpAny_call_entry slot_list_sort ⟨_,hoL,rfl⟩ entry_list_sort (list_sort_tree hoL hI2 (by rw [hl];exact h64) λout ns' a1 a2 a3=>⟨_,rfl,?_⟩) (args_list_sort _)));refine wpAny_pure ⟨_,rfl,?_⟩;obtain ⟨c,e⟩:=sortedHeap_at (h:=h1.push (seqObj "list" acc.toList.toArray 0)) (vs:=acc.toList) (out:=out) (n:=0) hoL;exact h _ d tk h1.objs.size c out ns' (λb o q=>by
  have lb:b < h1.objs.size:=yg (kp b o q);rw [sortedHeap_old (yr lb) (by rw [size_push'];exact ybk lb),Heap.get?_push_ne _ _ _ (yr lb)];exact kp b o q) (yaq lt) e a1 (a2.trans p2) a3
end
end L2
namespace L2
open PySem PySem.Spec PyProof.Rows PySem.W
noncomputable def ZS (P:Program) (w:World) (a:Addr) (zs:List Int):HO:=.ext λh=>SetG (Jk6 P w) (Jni w) h a (inZ zs) zs.length
theorem zs_ok {P:Program} {w:World} {H:Hp} {h:Heap} {a:Addr} {zs:List Int} (hS:SetG (Jk6 P w) (Jni w) h a (inZ zs) zs.length):ObjOk P w H h a (ZS P w a zs):=
 ⟨hS,(let ⟨o,_,_,_,ho,_⟩:=hS;⟨o,ho⟩),λ_ _ p k=>p.at k λ_=>rfl⟩
theorem Inv.drew {X:Cx} {pins:List (Addr×Obj)} {σ:St} {H:Hp} {s:Shared} (d:Drawn) (I:Inv X pins σ H s):Inv X pins σ H {s with drawn:=d}:=
 ⟨I.ok,I.os,I.bare,I.base,I.loc,I.cell,I.free,I.freeC,I.pin,I.hok,I.len⟩
section
variable {X:Cx}
theorem Jtp {K:PySem.W.Frag} (hK:X.K=K) (hc:X.calm=true):Jlv X (.type "set") (λxs H Q=>∃(l:Addr) (zs:List Int),xs= [.ref l]/\SqL K H l (zs.map V.int)/\zs.length<=50/\∀a,H a=none->Q (.ref a) (upd H a (ZS X.prog X.w a zs))):=by
 subst hK;intro pins s σ H xs us Q I r h;obtain ⟨l,zs,rfl,hq,hz,q⟩:=h;obtain ⟨u,rfl,ru⟩:=Jms r;obtain rfl:u=Value.ref l:=ru;obtain ⟨its,rv,pl,_⟩:=I.list hq;have hlen:=rv.length;rw [yf] at hlen;refine Ybt (zs:=zs) (I.ok.hd hc) pl.isList (by simpa using hlen) (λi v hv=>?_) (by simp only [yu];unfold scanBound;omega) λh' tk hS kk=>
  ⟨.ref s.heap.objs.size,_,I.laid (a:=s.heap.objs.size) (o:=ZS X.prog X.w s.heap.objs.size zs) (t':=tk) kk (yi _) (zs_ok hS),rfl,q _ (I.hok.fresh (yi _))⟩
 have hv':its[i]?=some v:=by simpa using hv
 have hlt:i < zs.length:=by have:=(yq.mp hv').1;omega
 obtain ⟨u,hu,ru⟩:=rv.get (i:=i) (x:=V.int zs[i]) (by rw [ym,yn hlt];rfl);rw [hv'] at hu;cases hu;obtain ⟨t,rfl⟩:=ru;exact ⟨zs[i],t,yn hlt,rfl⟩
theorem Yd7 {P:Program} {w:World} {zs:List Int}:∀{l:List (Int×Value)},ElemsOf (Jk6 P w) l->(∀e∈l,∀k,(Jk6 P w).is k e.2=true->inZ zs k=true)->Apart (Jk6 P w) l->
  ∃ns:List Int,IntsAre (l.map (·.2)) ns/\ns.Nodup/\∀n,n∈ns↔∃e∈l,(Jk6 P w).is (.inl n) e.2=true:=by
 intro l
 induction l with
 |nil=>intro _ _ _;exact ⟨[],.nil,ybl,λn=>by simp⟩
 |cons e l ih=>
  intro h1 h2 h3;obtain ⟨ns,a1,a2,a3⟩:=ih h1.tail (λe' he=>h2 e' (yaf _ he)) (List.pairwise_cons.mp h3).2;obtain ⟨⟨k,hk,_⟩,_⟩:=h1.head;have hz:=h2 e (yal ..) k hk;cases k with
  |inr y=>cases hz
  |inl n=>
   obtain ⟨t,et⟩:=(show ∃t,e.2=Value.int n t from Jyl hk);refine ⟨n::ns,by rw [yax,et];exact .cons n t a1,yba.mpr ⟨λhm=>?_,a2⟩,λm=>?_⟩
   ·obtain ⟨e',he',q⟩:=(a3 n).mp hm;exact (List.pairwise_cons.mp h3).1 e' he' _ hk q
   ·rw [yo,a3 m];constructor
    ·rintro (rfl|⟨e',he',q⟩)
     ·exact ⟨e,yal ..,hk⟩
     ·exact ⟨e',yaf _ he',q⟩
    ·rintro ⟨e',he',q⟩;rcases yo.mp he' with rfl|he'
     ·left;have:=(Jk6 P w).inj e'.2 _ _ q hk;exact yah.inj this
     ·exact .inr ⟨e',he',q⟩
theorem Y6 {vs:List Value} {ns:List Int} (h:IntsAre vs ns):Vals (ns.map V.int) vs:=by
 induction h with
 |nil=>exact .nil
 |cons n t _ ih=>exact .cons ⟨t,rfl⟩ ih
theorem Jsh (hc:X.calm=true):Jlv X (.builtin "sorted") (λxs H Q=>∃(a:Addr) (zs:List Int),xs= [.ref a]/\H a=some (ZS X.prog X.w a zs)/\zs.length<=50/\
  ∀l (ns:List Int),H l=none->ns.Pairwise (· < ·)->(∀n,n∈ns↔n∈zs)->Q (.ref l) (upd H l (.lst (ns.map V.int)))):=by
 intro pins s σ H xs us Q I r h;obtain ⟨a,zs,rfl,ha,hz,q⟩:=h;obtain ⟨u,rfl,ru⟩:=Jms r;obtain rfl:u=Value.ref a:=ru;obtain ⟨hS,_,_⟩:=(show ObjOk X.prog X.w H s.heap a (ZS X.prog X.w a zs) from I.hok a _ ha);obtain ⟨o,es,ep,t,ho,hex,hd,hel,hmem,hb,hf,hn,hG,hap⟩:=hS;obtain ⟨ns,hI,nd,mem⟩:=Yd7 (zs:=zs) hel (λe he k hk=>(hmem k).mpr ⟨e,he,hk⟩) hap;refine Jyt (ns:=ns) (I.ok.hd hc) ho hex ⟨hd,hf,hG⟩ (by omega) hI λh' d tk D c out ns' kp hD eD hI' pm pw=>?_;have nd':ns'.Nodup:=pm.nodup_iff.mpr nd;have lt:ns'.Pairwise (· < ·):=by
  refine (pw.and nd').imp ?_;intro x y ⟨h1,h2⟩;exact Int.lt_iff_le_and_ne.mpr ⟨h1,h2⟩
 have mm:∀n,n∈ns'↔n∈zs:=λn=>by
  rw [pm.mem_iff,mem n,<-hmem (.inl n)];show zs.contains n=true↔_;exact ycn
 have len:ns'.length<=50:=by
  have e1:=pm.length_eq;have e2:∀{vs:List Value} {ms:List Int},IntsAre vs ms->vs.length=ms.length:=by
   intro vs ms hh
   induction hh with
   |nil=>rfl
   |cons _ _ _ ih=>simp [ih]
  have e3:=e2 hI;rw [yf,ybg] at e3;omega
 refine ⟨.ref D,_,(I.laid (a:=D) (o:=.lst (ns'.map V.int)) (t':=tk) kp hD ⟨by rw [yf,sizeLine_eq];omega,out.toList,c,Y6 hI',by simpa using eD⟩).drew d,rfl,q D ns' (I.hok.fresh hD) lt mm⟩
end
end L2
namespace L2
open PySem PySem.Spec PyProof.Rows PySem.W
theorem bt_any:bootBuiltins "any" =some (.builtin "any"):=by decide +kernel
theorem Jzu:bootBuiltins "sorted" =some (.builtin "sorted"):=by decide +kernel
theorem Jz8:bootBuiltins "dict" =some (.type "dict"):=by decide +kernel
theorem Yaf:bootBuiltins "range" =some (.type "range"):=by decide +kernel
section
variable {X:Cx}
theorem Jyg (hu:X.A.units+64 < cLine):OpR X (compareOp .In) (λy x H Q=>∃a o,x= .ref a/\DGet H a y o/\Q (.bl o.isSome) H):=by
 intro pins s σ H y x v u Q I ry rx h;obtain ⟨a,o,rfl,g,q⟩:=h;obtain rfl:u=Value.ref a:=rx;exact d_in (by omega) I g ry λs3 I3=>⟨.bl o.isSome,H,I3,rfl,q⟩
theorem Ju2 (hu:X.A.units+64 < cLine):OpR X (compareOp .NotIn) (λy x H Q=>∃a o,x= .ref a/\DGet H a y o/\Q (.bl (!o.isSome)) H):=by
 intro pins s σ H y x v u Q I ry rx h;obtain ⟨a,o,rfl,g,q⟩:=h;obtain rfl:u=Value.ref a:=rx;exact Ycz (by omega) I g ry λs3 I3=>⟨.bl (!o.isSome),H,I3,rfl,q⟩
end
end L2
namespace L2
open PySem PySem.Spec PyProof.Rows PySem.W
section
variable {X:Cx} {CX:CXT} {k j i:Nat} {sp:Addr->Sp} {x:Str} {p pos:Pos} {e:Expr} {es:List Expr} {t:TA} {R:St->XK}
theorem Jv0 {P:Program} {w:World} {K:PySem.W.Frag} {mg:Str->Option Value} {base:Heap} (eP:X.prog=P) (ew:X.w=w) (eK:X.K=K) (em:X.mg=mg) (eb:X.base=base) (G:∀f,CloOk P w K mg base CX0 k f (sp f)) (hr:Room j X.A) (hk:k<=j) (i:Nat) (ha:PA X (e::es) t) (hN:X.N[i]?=some x:=by rfl) (hv:Vis X.env.scope x:=by first|exact ye rfl|exact Or.inr (ye rfl)|exact Or.inr (Or.inr rfl))
  (hd:(x==("__debug__" :Str))=false:=by decide) (hcd:(x==("__classdict__" :Str))=false:=by decide) (he:starEach (e::es) X.env=(false,eval e X.env)::starEach es X.env:=by rfl) (hpl:(backTo pos (starEach es X.env)).any (·.1)=false:=by rfl):
  PE X (.Call (.Name x p) (e::es) [] pos) (Jyw i sp (λ_=>E0) t):=by
 subst eP ew eK em eb;exact Jqm G hr hk i ha hN hv hd hcd he hpl
end
end L2
namespace L2
open PySem PySem.Spec PyProof.Rows PySem.W
section
variable {X:Cx} {o i value:Expr} {pos pos':Pos} {td ty tv:TE}
end
end L2
namespace L2
open PySem PySem.Spec PyProof.Rows PySem.W
noncomputable def DX (P:Program) (w:World) (a:Addr) (o:Obj) (kvs:List (Key×V)):HO:=
 .ext λh=>h.get? a=some o/\kvs.length<=sizeLine/\(a==sysModules)=false/\∃vs es ep,KV kvs vs/\o.data= .dict es ep/\h.DictAt (Jk6 P w) a vs ep
noncomputable def DK (P:Program) (w:World) (H:Hp) (a:Addr) (kvs:List (Key×V)):Prop:=H a=some (.dK kvs)\/(∃o,H a=some (.frz o (.dK kvs)))\/∃o,H a=some (DX P w a o kvs)
section
variable {P:Program} {w:World} {H H':Hp} {h:Heap} {a:Addr} {o:Obj} {kvs:List (Key×V)}
theorem dk_at (ok:HOk P w H h) (d:DK P w H a kvs):kvs.length<=sizeLine/\(a==sysModules)=false/\∃vs,KV kvs vs/\h.DictOf (Jk6 P w) a vs:=by
 rcases d with e|⟨o,e⟩|⟨o,e⟩
 ·exact Jwo ok (.inl e)
 ·exact Jwo ok (.inr ⟨o,e⟩)
 ·obtain ⟨⟨_,z,hd,vs,es,ep,rel,d,da⟩,_⟩:=(show ObjOk P w H h a (DX P w a o kvs) from ok a _ e);exact ⟨z,hd,vs,rel,da.dictOf⟩
end
section
variable {X:Cx} {pins:List (Addr×Obj)} {σ:St} {H:Hp} {s:Shared} {a:Addr} {o:Obj} {kvs:List (Key×V)}
noncomputable def Ycf (P:Program) (w:World) (td ty:TE):TE:=λσ H Q=>td σ H λx H1=>ty σ H1 λy H2=>∃a kvs k v,x= .ref a/\DK P w H2 a kvs/\y=kV k/\Jrm kvs k=some v/\Q v H2
theorem Ybb {o i:Expr} {pos:Pos} {td ty:TE} (ho:PE X o td) (hi:PE X i ty) (hs:NoSl i):PE X (.Subscript o i pos) (Ycf X.prog X.w td ty):=by
 intro pins s σ H Q I h;refine Yec PySem.F.slot_dict_getitem.lookup hs (thn (ho pins s σ H _ I h) λu s1 ⟨x,H1,I1,rx,q1⟩=>thn (hi pins s1 σ H1 _ I1 q1) λiv s2 zq=>?_);obtain ⟨y,H2,I2,ry,a,kvs,k,v,ex,g,ey,l,q2⟩:=zq;subst ex ey;obtain rfl:u=Value.ref a:=rx;obtain ⟨z,hd,vs,rel,dd⟩:=dk_at I2.hok g;obtain ⟨w',hw,rw'⟩:=RelO.some_of (v:=v) (o:=valueAt vs k) (by rw [<-l];exact rel.val k);exact ⟨dd.typeIs,wpAny_getItem_of (Jwu ry) dd.mapOf hw ⟨v,H2,I2.tok _,rw',q2⟩⟩
end
end L2
namespace L2
open PySem PySem.Spec PyProof.Rows PySem.W
section
variable {prog:Program} {w:World} {A:Around} {E:Value->Shared->Prop} {s:Shared}
end
section
variable {X:Cx}
end
end L2
namespace L2
open PySem PySem.Spec PyProof.Rows PySem.W
section
variable {X:Cx}
theorem Yn {P:Program} {w:World} {o i:Expr} {pos:Pos} {td ty:TE} (hP:X.prog=P) (hw:X.w=w) (ho:PE X o td) (hi:PE X i ty) (hs:NoSl i):PE X (.Subscript o i pos) (Ycf P w td ty):=by
 subst hP hw;exact Ybb ho hi hs
end
end L2
namespace L2
open PySem PySem.Spec PyProof.Rows PySem.W
noncomputable def Jxb (z:Str) (k:Nat):Str:=⟨(yw k z.cps).foldl (·++·) #[]⟩
theorem Ybm (a:Array Nat):∀(k:Nat) (acc:Array Nat),((yw k a).foldl (·++·) acc).size=acc.size+k*a.size:=by
 intro k
 induction k with
 |zero=>intro acc;simp
 |succ k ih=>
  intro acc;rw [ybt,List.foldl_cons,ih,Array.size_append,Nat.succ_mul];omega
theorem Jxc (z:Str) (k:Nat):(Jxb z k).length=k*z.length:=by
 show ((yw k z.cps).foldl (·++·) #[]).size=_;rw [Ybm];simp;rfl
section
variable {X:Cx}
theorem Jyj:OpR X (binaryOp .Mult) (λx y H Q=>∃(z:Str) (k:Nat),x= .str z/\y= .int (k:Int)/\k<=100/\1<=z.length/\z.length<=100/\Q (.str (Jxb z k)) H):=by
 intro pins s σ H x y v u Q I rx ry h;obtain ⟨z,k,rfl,rfl,hk,h1,h2,q⟩:=h;obtain ⟨t,rfl⟩:=rx;obtain ⟨t',rfl⟩:=ry;have fin:∀n,EP X pins σ Q (.str (Jxb z k) n) {s with toks:=s.toks+1}:=λn=>⟨.str (Jxb z k),H,I.tok _,⟨_,rfl⟩,q⟩;by_cases c0:k=0
 ·subst c0;exact P.mul_str_none (by decide) (by decide) (fin _)
 have hz:(z.length==0)=false:=by simp;omega
 refine P.mul_str ?_ (λ_ _=>?_) (λ_ _=>?_) ?_
 ·rw [decide_eq_false (by omega),decide_eq_false (by omega)];rfl
 ·have:(100:Int)<=(2^63 - 1)/(k:Int):=by
   refine (Int.le_ediv_iff_mul_le (by omega)).mpr ?_;have:(k:Int)<=100:=by omega
   omega
  omega
 ·show decide _=false;have a1:z.length*(k:Int).toNat<=100*100:=Nat.mul_le_mul h2 (by simpa using hk);refine decide_eq_false ?_;rw [sizeLine_eq];omega
 ·rw [if_neg (by omega),hz,Bool.or_false];by_cases c1:k=1
  ·subst c1;rw [if_pos (by rfl)];refine ⟨.str z,H,I,⟨_,rfl⟩,?_⟩;have e:Jxb z 1=z:=by
    unfold Jxb;cases z;simp
   rw [<-e];exact q
  ·rw [if_neg (by simp;omega)];refine ⟨?_,?_⟩
   ·have a1:k*z.length<=100*100:=Nat.mul_le_mul hk h2;have a2:=Jxc z k;show (Jxb z k).length<=sizeLine;rw [a2,sizeLine_eq];omega
   ·exact fin _
end
end L2
namespace L2
open PySem PySem.Spec PyProof.Rows PySem.W
theorem CloOk.calm {P:Program} {w:World} {K:PySem.W.Frag} {mg:Str->Option Value} {base:Heap} {k:Nat} {f:Addr} {sp:Sp} (G:CloOk P w K mg base (CXX P w) k f sp):CloOk P w K mg base CX0 k f (λvs H Q _=>sp vs H Q E0):=
 ⟨λvs H Q _ h=>G.isf vs H Q E0 h,λA outer s H us vs Q E hr he hv hs=>codeAny_mono (G.run A outer s H us vs Q E0 hr he hv hs) λr s' hq=>by
  cases r with
  |error e=>obtain ⟨_,_,_,_,_,_,_,_,_,_,_,z⟩:=hq;exact z.elim
  |ok fl=>cases fl <;> exact hq⟩
end L2
namespace L2
open PySem PySem.Spec PyProof.Rows PySem.W
noncomputable def hNo (K:PySem.W.Frag) (C0:Addr) (ts:Addr->TS) (th:TH):TH:=λD σ c eo H=>∃e C b,c= .ref C/\eo=some e/\PySem.W.mroIn K C (.ref C0)=some b/\if b=true then ts e D σ H else th D σ c eo H
section
variable {X:Cx} {x:Str} {np pos:Pos} {C0:Addr} {b₀:Stmt} {suite:List Stmt} {rest:List ExceptHandler} {ts:Addr->TS} {th:TH}
theorem ph_no (c0:Jzt X.K C0) (hm:X.mg x=some (.ref C0)) (hsu:∀e,PSs (X.caught e) (b₀::suite) (ts e)) (hr:PH X rest th) (hg:Gl X x:=by rfl)
  (hdb:(x==("__debug__" :Str))=false:=by decide):PH X (.ExceptHandler (some (.Name x np)) none (b₀::suite) pos::rest) (hNo X.K C0 ts th):=by
 rintro pins s σ H D e C dx I q hfl ⟨e',C',b,hC,he,hmr,h⟩;cases hC;cases he;obtain ⟨o,vs,go,gc,_⟩:=Jrn I.hok q;refine wpAny_handleBy_cons (codeAny_handlers_test (Jnv (X:=X.caught e) (I.caught e) hg hm (Jsr I.kIn c0 go gc hmr ?_) hdb)) (λz=>by cases z);cases b with
 |false=>exact hr pins s σ H D e C dx I q hfl h
 |true=>
  refine codeAny_handlers_suite (Jnm I q hfl λs1 I1 f1=>?_);refine wpAny_mono (hsu e pins s1 _ H D (I1.caught e) h) (λf s3 hf=>?_) λ_ _ z=>False.elim z;exact hf.map λ_ _ J=>Inv.uncaught I.ok J
end
end L2

namespace K75
local macro_rules|`(tactic|omega)=>`(tactic|first|lia|omega)
open PySem L2 PyProof.Rows PySem.NumText
noncomputable def top (i:Nat):Stmt:=PySem.Challenge.pw_weirwatch_k75_whole_long_rivers_held.main.body.getD i (.Pass ⟨0,0,0,0⟩)
set_option genInjectivity false in
structure Ad where
 Jeu:Addr
 Jev:FuncData
 Jew:Addr
 Jex:FuncData
 Jey:Addr
 Jez:FuncData
 Jf0:Addr
 Jf1:FuncData
 Jf2:Addr
 Jf3:FuncData
 Jf4:Addr
 Jf5:FuncData
 Jf6:Addr
 Jf7:FuncData
 Jf8:Addr
 Jf9:FuncData
 Jfa:Addr
 Jfb:FuncData
 Jfc:Addr
 Jfd:FuncData
 Jfe:Addr
 Jff:FuncData
 Jfg:Addr
 Jfh:FuncData
 Jfi:Addr
 Jfj:FuncData
 Jfk:Addr
 Jfl:FuncData
 Jfm:Addr
 Jfn:FuncData
 Jfo:Addr
 Jfp:FuncData
 Jfq:Addr
 Jfr:FuncData
 Jfs:Addr
 Jft:FuncData
 Jfu:Addr
 Jfv:FuncData
 Jfw:Addr
 Jfx:FuncData
 Jfy:Addr
 Jfz:FuncData
 Jg0:Addr
 Jg1:FuncData
 Jg2:Addr
 Jg3:FuncData
 Jg4:Addr
 Jg5:FuncData
 Jg6:Addr
 Jg7:FuncData
 Jg8:Addr
 Jg9:FuncData
 Jga:Addr
 Jgb:FuncData
 Jgc:Addr
 Jgd:FuncData
 Jge:Addr
 Jgf:FuncData
 Jgg:Addr
 Jgh:FuncData
 Jgi:Addr
 Jgj:FuncData
 Jgk:Addr
 Jgl:FuncData
 Jgm:Addr
 Jgn:FuncData
 Jgo:Addr
 Jgp:FuncData
 Jgq:Addr
 Jgr:FuncData
 Jgs:Addr
 Jgt:FuncData
 Jgu:Addr
 Jgv:FuncData
 Jgw:Addr
 Jgx:FuncData
 Jgy:Addr
 Jgz:FuncData
 Jh0:Addr
 Jh1:FuncData
 Jh2:Addr
 Jh3:FuncData
 Jh4:Addr
 Jh5:FuncData
 Jh6:Addr
 Jh7:FuncData
 Jh8:Addr
 Jh9:FuncData
 Jha:Addr
 Jhb:FuncData
 Jhc:Addr
 Jhd:FuncData
 Jhe:Addr
 Jhf:FuncData
 Jhg:Addr
 Jhh:FuncData
 Jhi:Addr
 Jhj:FuncData
 Jhk:Addr
 Jhl:FuncData
 Jhm:Addr
 Jhn:FuncData
 Jho:Addr
 Jhp:FuncData
 Jhq:Addr
 Jhr:FuncData
 Jhs:Addr
 Jht:FuncData
 Jhu:Addr
 Jhv:FuncData
 Jhw:Addr
 Jhx:FuncData
 Jhy:Addr
 Jhz:FuncData
 Ji0:Addr
 Ji1:FuncData
 Ji2:Addr
 Ji3:FuncData
 Ji4:Addr
 Ji5:FuncData
 Ji6:Addr
 Ji7:FuncData
 Ji8:Addr
 Ji9:FuncData
 Jia:Addr
 Jib:FuncData
 Jic:Addr
 Jid:FuncData
 Jie:Addr
 Jif:FuncData
 Jig:Addr
 Jih:FuncData
 Jii:Addr
 Jij:FuncData
 Jik:Addr
 Jil:FuncData
 Jim:Addr
 Jin:FuncData
 Jio:Addr
 Jip:FuncData
 Jiq:Addr
 Jir:FuncData
 a_law:Addr
 d_law:FuncData
 Jis:Tok
 Jit:Tok
 Jiu:Tok
 Jiv:Tok
 Jiw:Tok
 Jix:Tok
 Jiy:Tok
 Jiz:Tok
 Jj0:Tok
 Jj1:Tok
 Jj2:Tok
 Jj3:Tok
 Jj4:Addr
 Jj5:Addr
 Jj6:Addr
 Jj7:Addr
 Jj8:Addr
 Jj9:Addr
 Jja:Addr
 Jjb:Addr
 Jjc:Addr
 Jjd:Addr
 Jje:Addr
 Jjf:Addr
 Jjg:Addr
 Jjh:Addr
 Jji:Addr
 Jjj:Addr
 Jjk:Addr
 Jjl:Addr
 Jjm:Addr
 Jjn:Addr
 Jjo:Addr
structure Tx (K:W.Frag) (mg:Str->Option Value) (a:Ad):Prop where
 J0:FT K mg "is_whole" (top 15) ["thing","low","high"] a.Jfc a.Jfd
 J1:FT K mg "is_made_of" (top 16) ["text","signs"] a.Jfe a.Jff
 J2:FT K mg "is_name" (top 17) ["thing"] a.Jfg a.Jfh
 J3:FT K mg "is_row" (top 19) ["thing","lows","highs"] a.Jfi a.Jfj
 J4:FT K mg "is_pair" (top 20) ["thing"] a.Jfk a.Jfl
 J5:FT K mg "is_standing" (top 21) ["river","thing"] a.Jfm a.Jfn
 J6:FT K mg "found_by_rounds" (top 23) ["many","comes"] a.Jfo a.Jfp
 J7:FT K mg "is_safe" (top 24) ["ends","lost"] a.Jfq a.Jfr
 J8:FT K mg "is_promised" (top 27) ["thing"] a.Jfs a.Jft
 J9:FT K mg "refuse_no_bounds" (top 28) ["up","hi"] a.Jfu a.Jfv
 Ja:FT K mg "levels_of" (top 29) ["basin"] a.Jfw a.Jfx
 Jb:FT K mg "ends_alone" (top 30) ["basin","up","level","setting"] a.Jfy a.Jfz
 Jc:FT K mg "ends_by_setting" (top 31) ["basin","up","hi","level"] a.Jg0 a.Jg1
 Jd:FT K mg "lost_alone" (top 32) ["ways"] a.Jg2 a.Jg3
 Je:FT K mg "settings_alone" (top 33) ["basin","up","hi"] a.Jg4 a.Jg5
 Jf:FT K mg "first_safe" (top 34) ["by_setting","lost"] a.Jg6 a.Jg7
 Jg:FT K mg "lone_levels" (top 35) ["basin","up","hi"] a.Jg8 a.Jg9
 Jh:FT K mg "are_numbers" (top 36) ["river","thing"] a.Jga a.Jgb
 Ji:FT K mg "settings_by" (top 37) ["river","numbers"] a.Jgc a.Jgd
 Jj:FT K mg "first_lost" (top 38) ["levels","by_basin"] a.Jge a.Jgf
 Jk:FT K mg "are_promises" (top 39) ["river","numbers"] a.Jgg a.Jgh
 Jl:FT K mg "least_promise" (top 40) ["basin","up"] a.Jgi a.Jgj
 Jm:FT K mg "promises" (top 41) ["river"] a.Jgk a.Jgl
 Jn:FT K mg "refuse_lost" (top 42) ["levels","by_basin"] a.Jgm a.Jgn
 Jo:FT K mg "local_keeper" (top 43) ["river","numbers"] a.Jgo a.Jgp
 Jp:FT K mg "are_marks" (top 48) ["thing","lowest"] a.Jgq a.Jgr
 Jq:FT K mg "kept_marks" (top 49) ["marks","lowest"] a.Jgs a.Jgt
 Jr:FT K mg "refuse_no_level" (top 62) ["thing","low","high"] a.Jhe a.Jhf
 Js:FT K mg "are_unlike" (top 65) ["names"] a.Jhk a.Jhl
 Jt:FT K mg "are_basins" (top 66) ["thing"] a.Jhm a.Jhn
 Ju:FT K mg "are_towns" (top 67) ["thing","basins"] a.Jho a.Jhp
 Jv:FT K mg "_law_cell" (top 70) ["_law_script","_law_k"] a.Jhu a.Jhv
 Jw:FT K mg "_law_stream" (top 71) ["_law_cell_here"] a.Jhw a.Jhx
 Jx:FT K mg "_law_take" (top 72) ["_law_stream_here","_law_many"] a.Jhy a.Jhz
 Jy:FT K mg "_law_marks" (top 73) ["_law_stream_here","_law_least"] a.Ji0 a.Ji1
 Jz:FT K mg "_law_basin" (top 74) ["_law_stream_here","_law_name"] a.Ji2 a.Ji3
 Ja0:FT K mg "_law_gate" (top 75) ["_law_kind","_law_marks_here"] a.Ji4 a.Ji5
 Ja1:FT K mg "_law_made" (top 76) ["_law_told"] a.Ji6 a.Ji7
 Ja2:FT K mg "_law_lets" (top 77) ["_law_told","_law_setting","_law_level"] a.Ji8 a.Ji9
 Ja3:FT K mg "_law_easy" (top 78) ["_law_stream_here","_law_name"] a.Jia a.Jib
 Ja4:FT K mg "_law_river" (top 79) ["_law_stream_here"] a.Jic a.Jid
 Ja5:FT K mg "_law_promised" (top 80) ["_law_river_here","_law_told","_law_stream_here"] a.Jie a.Jif
 Ja6:FT K mg "_law_forced" (top 81) ["_law_told","_law_cloud","_law_gain","_law_wet"] a.Jig a.Jih
 Ja7:FT K mg "_law_rain" (top 82) ["_law_told","_law_cloud","_law_gain","_law_wet","_law_stream_here"] a.Jii a.Jij
 Ja8:FT K mg "_law_turn" (top 83) ["_law_told","_law_levels","_law_settings","_law_rain_here"] a.Jik a.Jil
 Ja9:FT K mg "_law_choice_right" (top 84) ["_law_choice","_law_told"] a.Jim a.Jin
 Jaa:FT K mg "_law_run_right" (top 85) ["_law_river_here","_law_told","_law_numbers","_law_stream_here","_law_many"] a.Jio a.Jip
 Jab:FT K mg "_law_no_keeper" (top 86) ["_law_river_here","_law_many"] a.Jiq a.Jir
 f_law:FT K mg "law" (top 87) ["_law_script"] a.a_law a.d_law
 Jac:mg "LETTERS" =some (.str "abcdefghijklmnopqrstuvwxyz" a.Jis)
 Jad:mg "MOST_LETTERS" =some (.int 8 a.Jit)
 Jae:mg "MOST_PROMISED" =some (.int 12 a.Jiu)
 Jaf:mg "MOST_SETTINGS" =some (.int 4 a.Jiv)
 Jag:mg "HIGHEST_MARK" =some (.int 12 a.Jiw)
 Jah:mg "HIGHEST_LEVEL" =some (.int 1000 a.Jix)
 Jai:mg "HIGHEST" =some (.int 12 a.Jiy)
 Jaj:mg "MOST_RAIN" =some (.int 6 a.Jiz)
 Jak:mg "MOST_WANT" =some (.int 6 a.Jj0)
 Jal:mg "MOST_CLOUD" =some (.int 12 a.Jj1)
 Jam:mg "MOST_BASINS" =some (.int 16 a.Jj2)
 Jan:mg "MOST_TOWNS" =some (.int 3 a.Jj3)
 Jao:mg "all" =none
 Jap:mg "any" =none
 Jaq:mg "bool" =none
 Jar:mg "dict" =none
 Jas:mg "enumerate" =none
 Jat:mg "int" =none
 Jau:mg "isinstance" =none
 Jav:mg "len" =none
 Jaw:mg "list" =none
 Jax:mg "max" =none
 Jay:mg "min" =none
 Jaz:mg "range" =none
 Jb0:mg "set" =none
 Jb1:mg "sorted" =none
 Jb2:mg "str" =none
 Jb3:mg "sum" =none
 Jb4:mg "tuple" =none
 Jb5:mg "zip" =none
 q79:mg "WeirError" =some (.ref a.Jj4)
 Jb6:mg "NoName" =some (.ref a.Jj5)
 Jb7:mg "NoGate" =some (.ref a.Jj6)
 Jb8:mg "NoBasin" =some (.ref a.Jj7)
 Jb9:mg "NoTown" =some (.ref a.Jj8)
 Jba:mg "NoCloud" =some (.ref a.Jj9)
 Jbb:mg "NoRiver" =some (.ref a.Jja)
 Jbc:mg "NoStanding" =some (.ref a.Jjb)
 Jbd:mg "NoNumber" =some (.ref a.Jjc)
 Jbe:mg "NoPromise" =some (.ref a.Jjd)
 Jbf:mg "Gate" =some (.ref a.Jje)
 Jbg:mg "StepGate" =some (.ref a.Jjf)
 Jbh:mg "FlapGate" =some (.ref a.Jjg)
 Jbi:mg "PartGate" =some (.ref a.Jjh)
 Jbj:mg "Basin" =some (.ref a.Jji)
 Jbk:mg "Town" =some (.ref a.Jjj)
 Jbl:mg "River" =some (.ref a.Jjk)
 q96:W.findIn K (.ref a.Jj5) "__init__" =some (some (.ref a.Jeu))
 q97:W.findIn K (.ref a.Jj6) "__init__" =some (some (.ref a.Jew))
 q98:W.findIn K (.ref a.Jj7) "__init__" =some (some (.ref a.Jey))
 q99:W.findIn K (.ref a.Jj8) "__init__" =some (some (.ref a.Jf0))
 Jbm:W.findIn K (.ref a.Jj9) "__init__" =some (some (.ref a.Jf2))
 Jbn:W.findIn K (.ref a.Jja) "__init__" =some (some (.ref a.Jf4))
 Jbo:W.findIn K (.ref a.Jjb) "__init__" =some (some (.ref a.Jf6))
 Jbp:W.findIn K (.ref a.Jjc) "__init__" =some (some (.ref a.Jf8))
 Jbq:W.findIn K (.ref a.Jjd) "__init__" =some (some (.ref a.Jfa))
 Jbr:W.findIn K (.ref a.Jje) "lets" =some (some (.ref a.Jgu))
 Jbs:W.findIn K (.ref a.Jjf) "__init__" =some (some (.ref a.Jgw))
 Jbt:W.findIn K (.ref a.Jjf) "settings" =some (some (.ref a.Jgy))
 Jbu:W.findIn K (.ref a.Jjf) "passes" =some (some (.ref a.Jh0))
 Jbv:W.findIn K (.ref a.Jjg) "__init__" =some (some (.ref a.Jh2))
 Jbw:W.findIn K (.ref a.Jjg) "settings" =some (some (.ref a.Jh4))
 Jbx:W.findIn K (.ref a.Jjg) "passes" =some (some (.ref a.Jh6))
 Jby:W.findIn K (.ref a.Jjh) "__init__" =some (some (.ref a.Jh8))
 Jbz:W.findIn K (.ref a.Jjh) "settings" =some (some (.ref a.Jha))
 Jc0:W.findIn K (.ref a.Jjh) "passes" =some (some (.ref a.Jhc))
 Jc1:W.findIn K (.ref a.Jji) "__init__" =some (some (.ref a.Jhg))
 Jc2:W.findIn K (.ref a.Jjj) "__init__" =some (some (.ref a.Jhi))
 Jc3:W.findIn K (.ref a.Jjk) "__init__" =some (some (.ref a.Jhq))
 Jc4:W.findIn K (.ref a.Jjk) "beginning" =some (some (.ref a.Jhs))
 Jc5:FM K "__init__" "NoName.__init__" (Jk8 (top 3) 0) ["self","thing"] a.Jeu a.Jev
 Jc6:FM K "__init__" "NoGate.__init__" (Jk8 (top 4) 0) ["self","thing"] a.Jew a.Jex
 Jc7:FM K "__init__" "NoBasin.__init__" (Jk8 (top 5) 0) ["self","thing"] a.Jey a.Jez
 Jc8:FM K "__init__" "NoTown.__init__" (Jk8 (top 6) 0) ["self","thing"] a.Jf0 a.Jf1
 Jc9:FM K "__init__" "NoCloud.__init__" (Jk8 (top 7) 0) ["self","thing"] a.Jf2 a.Jf3
 Jca:FM K "__init__" "NoRiver.__init__" (Jk8 (top 8) 0) ["self","thing"] a.Jf4 a.Jf5
 Jcb:FM K "__init__" "NoStanding.__init__" (Jk8 (top 9) 0) ["self","thing"] a.Jf6 a.Jf7
 Jcc:FM K "__init__" "NoNumber.__init__" (Jk8 (top 10) 0) ["self","thing"] a.Jf8 a.Jf9
 Jcd:FM K "__init__" "NoPromise.__init__" (Jk8 (top 11) 0) ["self","basin"] a.Jfa a.Jfb
 Jce:FM K "lets" "Gate.lets" (Jk8 (top 51) 0) ["self","setting","level"] a.Jgu a.Jgv
 Jcf:FM K "__init__" "StepGate.__init__" (Jk8 (top 52) 0) ["self","marks"] a.Jgw a.Jgx
 Jcg:FM K "settings" "StepGate.settings" (Jk8 (top 52) 1) ["self"] a.Jgy a.Jgz
 Jch:FM K "passes" "StepGate.passes" (Jk8 (top 52) 2) ["self","setting","level"] a.Jh0 a.Jh1
 Jci:FM K "__init__" "FlapGate.__init__" (Jk8 (top 53) 0) ["self","marks"] a.Jh2 a.Jh3
 Jcj:FM K "settings" "FlapGate.settings" (Jk8 (top 53) 1) ["self"] a.Jh4 a.Jh5
 Jck:FM K "passes" "FlapGate.passes" (Jk8 (top 53) 2) ["self","setting","level"] a.Jh6 a.Jh7
 Jcl:FM K "__init__" "PartGate.__init__" (Jk8 (top 54) 0) ["self","marks"] a.Jh8 a.Jh9
 Jcm:FM K "settings" "PartGate.settings" (Jk8 (top 54) 1) ["self"] a.Jha a.Jhb
 Jcn:FM K "passes" "PartGate.passes" (Jk8 (top 54) 2) ["self","setting","level"] a.Jhc a.Jhd
 Jco:FM K "__init__" "Basin.__init__" (Jk8 (top 63) 0) ["self","name","low","high","start","rain","gate"] a.Jhg a.Jhh
 Jcp:FM K "__init__" "Town.__init__" (Jk8 (top 64) 0) ["self","name","basin","want"] a.Jhi a.Jhj
 Jcq:FM K "__init__" "River.__init__" (Jk8 (top 68) 0) ["self","cloud","gain","basins","towns"] a.Jhq a.Jhr
 Jcr:FM K "beginning" "River.beginning" (Jk8 (top 68) 2) ["self"] a.Jhs a.Jht
 Jcs:XCls K a.Jj5 a.Jj4 a.Jeu
 Jct:XCls K a.Jj6 a.Jj4 a.Jew
 Jcu:XCls K a.Jj7 a.Jj4 a.Jey
 Jcv:XCls K a.Jj8 a.Jj4 a.Jf0
 Jcw:XCls K a.Jj9 a.Jj4 a.Jf2
 Jcx:XCls K a.Jja a.Jj4 a.Jf4
 Jcy:XCls K a.Jjb a.Jj4 a.Jf6
 Jcz:XCls K a.Jjc a.Jj4 a.Jf8
 Jd0:XCls K a.Jjd a.Jj4 a.Jfa
 Jd1:Jzt K a.Jjd
 Jd2:Cls K a.Jjf
 Jd3:YCls K a.Jjf
 Jd4:Mk K a.Jjf a.Jgw
 Jd5:Jp8 K a.Jjf "lets" a.Jgu
 Jd6:Jp8 K a.Jjf "settings" a.Jgy
 Jd7:Jp8 K a.Jjf "passes" a.Jh0
 Jd8:Cls K a.Jjg
 Jd9:YCls K a.Jjg
 Jda:Mk K a.Jjg a.Jh2
 Jdb:Jp8 K a.Jjg "lets" a.Jgu
 Jdc:Jp8 K a.Jjg "settings" a.Jh4
 Jdd:Jp8 K a.Jjg "passes" a.Jh6
 Jde:Cls K a.Jjh
 Jdf:YCls K a.Jjh
 Jdg:Mk K a.Jjh a.Jh8
 Jdh:Jp8 K a.Jjh "lets" a.Jgu
 Jdi:Jp8 K a.Jjh "settings" a.Jha
 Jdj:Jp8 K a.Jjh "passes" a.Jhc
 Jdk:Cls K a.Jji
 Jdl:YCls K a.Jji
 Jdm:Mk K a.Jji a.Jhg
 Jdn:Cls K a.Jjj
 Jdo:YCls K a.Jjj
 Jdp:Mk K a.Jjj a.Jhi
 Jdq:Cls K a.Jjk
 Jdr:Mk K a.Jjk a.Jhq
 Jds:Jp8 K a.Jjk "beginning" a.Jhs
 Jdt:NoAttr K a.Jj5 "thing"
 Jdu:NoAttr K a.Jj6 "thing"
 Jdv:NoAttr K a.Jj7 "thing"
 Jdw:NoAttr K a.Jj8 "thing"
 Jdx:NoAttr K a.Jjd "basin"
 Jdy:NoAttr K a.Jjf "marks"
 Jdz:NoAttr K a.Jjg "marks"
 Je0:NoAttr K a.Jjh "marks"
 Je1:NoAttr K a.Jji "name"
 Je2:NoAttr K a.Jji "low"
 Je3:NoAttr K a.Jji "high"
 Je4:NoAttr K a.Jji "start"
 Je5:NoAttr K a.Jji "rain"
 Je6:NoAttr K a.Jji "gate"
 Je7:NoAttr K a.Jjj "name"
 Je8:NoAttr K a.Jjj "basin"
 Je9:NoAttr K a.Jjj "want"
 Jea:NoAttr K a.Jjk "cloud"
 Jeb:NoAttr K a.Jjk "gain"
 Jec:NoAttr K a.Jjk "basins"
 Jed:NoAttr K a.Jjk "towns"
 Jee:Nst K a.Jg2 a.Jjl a.Jjm
 Jef:W.tabIn K "lost_alone" =some (a.Jjl,a.Jjm)
 Jeg:Nst K a.Jgo a.Jjn a.Jjo
 Jeh:W.tabIn K "local_keeper" =some (a.Jjn,a.Jjo)
 tnd: [a.Jjm,a.Jjo].Nodup
 Jei:W.kitOne K (.ref a.Jjf) (.ref a.Jje)=some true
 Jej:W.kitOne K (.ref a.Jjg) (.ref a.Jje)=some true
 Jek:W.kitOne K (.ref a.Jjh) (.ref a.Jje)=some true
 Jel:W.kitOne K (.ref a.Jji) (.ref a.Jji)=some true
 Jem:W.kitOne K (.ref a.Jjj) (.ref a.Jjj)=some true
 Jen:W.kitOne K (.ref a.Jjf) (.type "bool")=some false
 Jeo:W.kitOne K (.ref a.Jjg) (.type "bool")=some false
 Jep:W.kitOne K (.ref a.Jjh) (.type "bool")=some false
 Jeq:W.kitAny K (.ref a.Jjf) [.ref a.Jjf,.ref a.Jjg,.ref a.Jjh]=some true
 Jer:W.kitAny K (.ref a.Jjg) [.ref a.Jjf,.ref a.Jjg,.ref a.Jjh]=some true
 Jes:W.kitAny K (.ref a.Jjh) [.ref a.Jjf,.ref a.Jjg,.ref a.Jjh]=some true
 Jet:W.mroIn K a.Jjd (.ref a.Jjd)=some true
noncomputable def Jkx:Int->List V->Bool
 |_,[]=>true
 |lo,.int i::r=>(decide (lo<=i)&&decide (i<=12))&&Jkx (i+1) r
 |_,_::_=>false
noncomputable def Jme (lo:Int) (xs:List V):Bool:=decide (1<=xs.length/\xs.length<=4)&&Jkx lo xs
theorem Jrt (lo:Int) (x:V) (r:List V):Jkx lo (x::r)=(Jkq x lo 12&&match x with| .int i=>Jkx (i+1) r|_=>false):=by
 cases x <;> simp [Jkx,Jkq]
inductive Sq (H:Hp):V->List V->Prop where
 |lst {p:Addr} {xs:List V}:H p=some (.lst xs)->Sq H (.ref p) xs
 |tup {p:Addr} {xs:List V}:H p=some (.tup xs)->Sq H (.ref p) xs
theorem Sq.same {H H':Hp} {x:V} {xs:List V} (s:Same H H') (h:Sq H x xs):Sq H' x xs:=by
 cases h with
 |lst e=>exact .lst (s _ _ e)
 |tup e=>exact .tup (s _ _ e)
theorem Sq.ty {K:W.Frag} {H:Hp} {x:V} {xs:List V} (h:Sq H x xs):∃t,TyX K H x t/\tpB t=true/\W.kitAny K t [.type "list",.type "tuple"]=some true:=by
 cases h with
 |lst e=>exact ⟨_,.of (.lst e),rfl,rfl⟩
 |tup e=>exact ⟨_,.of (.tup e),rfl,rfl⟩
inductive Shp (K:W.Frag) (H:Hp) (lo:Int):V->Bool->Prop where
 |seq {x:V} {xs:List V}:Sq H x xs->(∀y∈xs,Tm K H y)->Shp K H lo x (Jme lo xs)
 |non {x:V} {t:Value}:TyX K H x t->W.kitAny K t [.type "list",.type "tuple"]=some false->Shp K H lo x false
noncomputable def spAre (K:W.Frag):Sp:=λvs H Q _=>∃(x:V) (lo:Int) (b:Bool),vs= [x,.int lo]/\Shp K H lo x b/\∀H',Same H H'->Q (.bl b) H'
noncomputable def Rf (a:Ad) (H H':Hp) (x:V) (c:Value) (eo:Option Addr):Prop:=∃e dx,c= .ref a.Jj6/\eo=some e/\Same H H'/\H' e=some (XO e a.Jj6 (some dx) false)/\H' dx=some (XD dx [("thing",x)])
theorem Rf.of {a:Ad} {H H1 H':Hp} {x:V} {c:Value} {eo:Option Addr} (s:Same H H1) (h:Rf a H1 H' x c eo):Rf a H H' x c eo:=by
 obtain ⟨e,dx,h1,h2,h3,h4,h5⟩:=h;exact ⟨e,dx,h1,h2,s.trans h3,h4,h5⟩
theorem Rf.new {a:Ad} {H:Hp} {x:V} {e dx:Addr} (h1:H e=none) (h2:H dx=none) (ne:dx≠e):Rf a H (upd (upd (upd H dx (XD dx [("thing",x)])) e (XO e a.Jj6 (some dx) true)) e (XO e a.Jj6 (some dx) false)) x (.ref a.Jj6) (some e):=by
 refine ⟨e,dx,rfl,rfl,?_,Jjq,?_⟩
 ·rw [Jmq];intro b o q;rw [Jjx (Jjy q h1),Jjx (Jjy q h2)];exact q
 ·rw [Jjx ne,Jjx ne,Jjq]
noncomputable def spKept (K:W.Frag) (a:Ad):Sp:=λvs H Q E=>∃(x:V) (lo:Int),vs= [x,.int lo]/\
 ((∃xs,Sq H x xs/\(∀y∈xs,Tm K H y)/\Jme lo xs=true/\∀t H',Same H H'->H' t=some (.tup xs)->Q (.ref t) H')\/(Shp K H lo x false/\∀c eo H',Rf a H H' x c eo->E c eo H'))
noncomputable def IsC (a:Ad) (C:Addr):Prop:=C=a.Jjf\/C=a.Jjg\/C=a.Jjh
noncomputable def GateAt (C:Addr) (H:Hp) (g:Addr) (xs:List V):Prop:=∃dx t,H g=some (.ins C dx [("marks",.ref t)])/\H t=some (.tup xs)
theorem GateAt.same {C:Addr} {H H':Hp} {g:Addr} {xs:List V} (s:Same H H') (h:GateAt C H g xs):GateAt C H' g xs:=by obtain ⟨dx,t,h1,h2⟩:=h;exact ⟨dx,t,s _ _ h1,s _ _ h2⟩
noncomputable def Jw7 (K:W.Frag) (a:Ad) (lo:Int):Sp:=λvs H Q E=>∃(p C dx:Addr) (x:V),vs= [.ref p,x]/\H p=some (.ins C dx [])/\Cls K C/\NoAttr K C "marks" /\
 ((∃xs,Sq H x xs/\(∀y∈xs,Tm K H y)/\Jme lo xs=true/\∀t H',Same H H'->H' t=some (.tup xs)->Q .non (upd H' p (.ins C dx [("marks",.ref t)])))\/(Shp K H lo x false/\∀c eo H',Rf a H H' x c eo->E c eo H'))
noncomputable def Yc6 (C:Addr):Sp:=λvs H Q _=>∃(p:Addr) (xs:List V),vs= [.ref p]/\GateAt C H p xs/\Q (.int xs.length) H
inductive GS (K:W.Frag) (a:Ad) (H:Hp):V->Nat->Prop where
 |plain {g C:Addr} {xs:List V}:IsC a C->GateAt C H g xs->xs.length<=4->GS K a H (.ref g) xs.length
theorem GS.same {K:W.Frag} {a:Ad} {H H':Hp} {x:V} {n:Nat} (s:Same H H') (h:GS K a H x n):GS K a H' x n:=by
 cases h with
 |plain i g l=>exact .plain i (g.same s) l
noncomputable def Knd (z:Str):Prop:=z=("step" :Str)\/z=("flap" :Str)\/z=("part" :Str)
noncomputable def Jmv (z:Str):Int:=if z=("part" :Str) then 1 else 0
noncomputable def cOf (a:Ad) (z:Str):Addr:=if z=("step" :Str) then a.Jjf else if z=("flap" :Str) then a.Jjg else a.Jjh
theorem cOf_is {a:Ad} {z:Str}:IsC a (cOf a z):=by
 unfold cOf;split
 ·exact .inl rfl
 ·split
  ·exact .inr (.inl rfl)
  ·exact .inr (.inr rfl)
theorem Juv:¬(("part" :Str)="step"):=by decide +kernel
theorem Juu:¬(("part" :Str)="flap"):=by decide +kernel
theorem Jst:¬(("flap" :Str)="step"):=by decide +kernel
theorem ne_fp:¬(("flap" :Str)="part"):=by decide +kernel
theorem ne_sp:¬(("step" :Str)="part"):=by decide +kernel
theorem Jyv {x y:Str} (h:¬x=y):¬V.str x=V.str y:=λe=>h (V.str.inj e)
noncomputable def LET:Str:="abcdefghijklmnopqrstuvwxyz"
noncomputable def Jwh (g z:Str):Bool:=z.cps.toList.all λc=>decide (c∈g.cps.toList)
noncomputable def Jrw (z:Str):Bool:=decide (1<=z.length/\z.length<=8)&&Jwh LET z
structure Wd (n:Nat) (z:Str):Prop where
 len:z.length<=n
 low:∀c∈z.cps.toList,c < 128
theorem Yd9 (z:Str):z.cps.toList.length=z.length:=ybg
theorem wd_lit {z:Str} {n:Nat} (h:(decide (z.length<=n)&&z.cps.toList.all (λc=>decide (c < 128)))=true):Wd n z:=by
 rw [yag] at h;exact ⟨of_decide_eq_true h.1,λc hc=>of_decide_eq_true (yar.mp h.2 c hc)⟩
noncomputable def Jmt:V->Bool
 | .str z=>Jrw z
 |_=>false
noncomputable def Nmd (K:W.Frag) (H:Hp) (x:V):Prop:=Tm K H x/\∀z,x= .str z->Wd 50 z
noncomputable def spMade:Sp:=λvs H Q _=>∃z g:Str,vs= [.str z,.str g]/\z.length<=2000/\∀H',Same H H'->Q (.bl (Jwh g z)) H'
noncomputable def spName (K:W.Frag):Sp:=λvs H Q _=>∃x:V,vs= [x]/\Nmd K H x/\∀H',Same H H'->Q (.bl (Jmt x)) H'
noncomputable def RfC (C:Addr) (H H':Hp) (x:V) (c:Value) (eo:Option Addr):Prop:=∃e dx,c= .ref C/\eo=some e/\Same H H'/\H' e=some (XO e C (some dx) false)/\H' dx=some (XD dx [("thing",x)])
theorem RfC.of {C:Addr} {H H1 H':Hp} {x:V} {c:Value} {eo:Option Addr} (s:Same H H1) (h:RfC C H1 H' x c eo):RfC C H H' x c eo:=by
 obtain ⟨e,dx,h1,h2,h3,h4,h5⟩:=h;exact ⟨e,dx,h1,h2,s.trans h3,h4,h5⟩
theorem RfC.new {C:Addr} {H:Hp} {x:V} {e dx:Addr} (h1:H e=none) (h2:H dx=none) (ne:dx≠e):RfC C H (upd (upd (upd H dx (XD dx [("thing",x)])) e (XO e C (some dx) true)) e (XO e C (some dx) false)) x (.ref C) (some e):=by
 refine ⟨e,dx,rfl,rfl,?_,Jjq,?_⟩
 ·rw [Jmq];intro b o q;rw [Jjx (Jjy q h1),Jjx (Jjy q h2)];exact q
 ·rw [Jjx ne,Jjx ne,Jjq]
noncomputable def Ya0 (K:W.Frag) (a:Ad):Sp:=λvs H Q E=>∃(x:V) (lo hi:Int),vs= [x,.int lo,.int hi]/\Tm K H x/\((Jkq x lo hi=true/\Q .non H)\/(Jkq x lo hi=false/\∀c eo H',RfC a.Jj7 H H' x c eo->E c eo H'))
inductive Due (n lo hi st rn g:V) (gb:Bool):Option (Nat×V)->Prop
 |name:Jmt n=false->Due n lo hi st rn g gb (some (0,n))
 |low:Jmt n=true->Jkq lo 0 12=false->Due n lo hi st rn g gb (some (1,lo))
 |high (l:Int):Jmt n=true->lo= .int l->Jkq lo 0 12=true->Jkq hi l 12=false->Due n lo hi st rn g gb (some (1,hi))
 |start (l h:Int):Jmt n=true->lo= .int l->hi= .int h->Jkq lo 0 12=true->Jkq hi l 12=true->Jkq st l h=false->Due n lo hi st rn g gb (some (1,st))
 |rain (l h:Int):Jmt n=true->lo= .int l->hi= .int h->Jkq lo 0 12=true->Jkq hi l 12=true->Jkq st l h=true->Jkq rn 0 6=false->Due n lo hi st rn g gb (some (1,rn))
 |gate (l h:Int):Jmt n=true->lo= .int l->hi= .int h->Jkq lo 0 12=true->Jkq hi l 12=true->Jkq st l h=true->Jkq rn 0 6=true->gb=false->Due n lo hi st rn g gb (some (2,g))
 |good (l h:Int):Jmt n=true->lo= .int l->hi= .int h->Jkq lo 0 12=true->Jkq hi l 12=true->Jkq st l h=true->Jkq rn 0 6=true->gb=true->Due n lo hi st rn g gb none
inductive DueT (n b wt:V):Option (Nat×V)->Prop
 |name:Jmt n=false->DueT n b wt (some (0,n))
 |basin:Jmt n=true->Jmt b=false->DueT n b wt (some (0,b))
 |want:Jmt n=true->Jmt b=true->Jkq wt 1 6=false->DueT n b wt (some (3,wt))
 |good:Jmt n=true->Jmt b=true->Jkq wt 1 6=true->DueT n b wt none
noncomputable def clsK (a:Ad):Nat->Addr
 |0=>a.Jj5
 |1=>a.Jj7
 |2=>a.Jj6
 |_=>a.Jj8
noncomputable def GtI (K:W.Frag) (a:Ad) (H:Hp) (g:V) (gb:Bool):Prop:=∃t,TyX K H g t/\W.kitOne K t (.ref a.Jje)=some gb/\W.kitAny K t [.ref a.Jjf,.ref a.Jjg,.ref a.Jjh]=some gb/\
 ∃b,W.kitOne K t (.type "bool")=some b/\(gb=true->b=false)/\t≠ .type "float"
noncomputable def basF (n lo hi st rn g:V):List (Str×V):=[("name",n),("low",lo),("high",hi),("start",st),("rain",rn),("gate",g)]
noncomputable def twnF (n b wt:V):List (Str×V):=[("name",n),("basin",b),("want",wt)]
noncomputable def Ends1 (a:Ad) (d:Option (Nat×V)) (H:Hp) (E:XK) (G:Prop):Prop:=match d with
 |none=>G
 |some (k,x)=>∀c eo H',RfC (clsK a k) H H' x c eo->E c eo H'
noncomputable def Yds (K:W.Frag) (a:Ad):Sp:=λvs H Q E=>∃(p dx:Addr) (n lo hi st rn g:V) (gb:Bool) (d:Option (Nat×V)),vs= [.ref p,n,lo,hi,st,rn,g]/\H p=some (.ins a.Jji dx [])/\Nmd K H n/\Tm K H lo/\Tm K H hi/\Tm K H st/\Tm K H rn/\GtI K a H g gb/\Due n lo hi st rn g gb d/\
 Ends1 a d H E (∀H',Same H H'->Q .non (upd H' p (.ins a.Jji dx (basF n lo hi st rn g))))
noncomputable def spTown (K:W.Frag) (a:Ad):Sp:=λvs H Q E=>∃(p dx:Addr) (n b wt:V) (d:Option (Nat×V)),vs= [.ref p,n,b,wt]/\H p=some (.ins a.Jjj dx [])/\Nmd K H n/\Nmd K H b/\Tm K H wt/\DueT n b wt d/\
 Ends1 a d H E (∀H',Same H H'->Q .non (upd H' p (.ins a.Jjj dx (twnF n b wt))))
theorem Nmd.same {K:W.Frag} {H H':Hp} {x:V} (s:Same H H') (h:Nmd K H x):Nmd K H' x:=⟨h.1.same s,h.2⟩
theorem Jwb {K:W.Frag} {H H':Hp} {x:V} {t:Value} (s:Same H H') (h:TyX K H x t):TyX K H' x t:=h.same (λb o _ q=>s b o q) (λb fs q=>s b _ q)
theorem GtI.same {K:W.Frag} {a:Ad} {H H':Hp} {g:V} {gb:Bool} (s:Same H H') (h:GtI K a H g gb):GtI K a H' g gb:=by obtain ⟨t,ty,r⟩:=h;exact ⟨t,Jwb s ty,r⟩
theorem ty_str {K:W.Frag} {H:Hp} {x:V} {t:Value} (h:TyX K H x t) (e:t= .type "str"):∃z,x= .str z:=by
 cases h with
 |exc=>cases e
 |of ty=>
  cases ty with
  |str z=>exact ⟨z,rfl⟩
  |ins=>cases e
  |non=>exact absurd (Value.type.inj e) (by decide)
  |bl=>exact absurd (Value.type.inj e) (by decide)
  |int=>exact absurd (Value.type.inj e) (by decide)
  |flt=>exact absurd (Value.type.inj e) (by decide)
  |lst=>exact absurd (Value.type.inj e) (by decide)
  |frz=>exact absurd (Value.type.inj e) (by decide)
  |tup=>exact absurd (Value.type.inj e) (by decide)
  |dK=>exact absurd (Value.type.inj e) (by decide)
  |dT=>exact absurd (Value.type.inj e) (by decide)
structure Bsn where
 z:Str
 lo:Int
 hi:Int
 st:Int
 rn:Int
 g:V
 n:Nat
noncomputable def BasAt (K:W.Frag) (a:Ad) (H:Hp) (o:Addr) (B:Bsn):Prop:=∃dx,H o=some (.ins a.Jji dx (basF (.str B.z) (.int B.lo) (.int B.hi) (.int B.st) (.int B.rn) B.g))/\GS K a H B.g B.n
theorem BasAt.same {K:W.Frag} {a:Ad} {H H':Hp} {o:Addr} {B:Bsn} (s:Same H H') (h:BasAt K a H o B):BasAt K a H' o B:=by obtain ⟨dx,h1,h2⟩:=h;exact ⟨dx,s _ _ h1,h2.same s⟩
structure Twn where
 z:Str
 b:Str
 wt:Int
noncomputable def TwnAt (a:Ad) (H:Hp) (o:Addr) (B:Twn):Prop:=∃dx,H o=some (.ins a.Jjj dx (twnF (.str B.z) (.str B.b) (.int B.wt)))
theorem TwnAt.same {a:Ad} {H H':Hp} {o:Addr} {B:Twn} (s:Same H H') (h:TwnAt a H o B):TwnAt a H' o B:=by obtain ⟨dx,h1⟩:=h;exact ⟨dx,s _ _ h1⟩
noncomputable def BasL (K:W.Frag) (a:Ad) (H:Hp):List Addr->List Bsn->Prop
 | [],[]=>True
 |o::os,B::Bs=>BasAt K a H o B/\BasL K a H os Bs
 |_,_=>False
noncomputable def TwnL (a:Ad) (H:Hp):List Addr->List Twn->Prop
 | [],[]=>True
 |o::os,B::Bs=>TwnAt a H o B/\TwnL a H os Bs
 |_,_=>False
theorem BasL.same {K:W.Frag} {a:Ad} {H H':Hp} (s:Same H H'):∀{os:List Addr} {Bs:List Bsn},BasL K a H os Bs->BasL K a H' os Bs:=by
 intro os
 induction os with
 |nil=>
  intro Bs h;cases Bs with
  |nil=>exact True.intro
  |cons B Bs=>exact False.elim h
 |cons o os ih=>
  intro Bs h;cases Bs with
  |nil=>exact False.elim h
  |cons B Bs=>exact ⟨(And.left h).same s,ih (And.right h)⟩
theorem TwnL.same {a:Ad} {H H':Hp} (s:Same H H'):∀{os:List Addr} {Bs:List Twn},TwnL a H os Bs->TwnL a H' os Bs:=by
 intro os
 induction os with
 |nil=>
  intro Bs h;cases Bs with
  |nil=>exact True.intro
  |cons B Bs=>exact False.elim h
 |cons o os ih=>
  intro Bs h;cases Bs with
  |nil=>exact False.elim h
  |cons B Bs=>exact ⟨(And.left h).same s,ih (And.right h)⟩
theorem BasL.len {K:W.Frag} {a:Ad} {H:Hp}:∀{os:List Addr} {Bs:List Bsn},BasL K a H os Bs->os.length=Bs.length
 | [],[],_=>rfl
 |_::_,_::_,⟨_,t⟩=>by rw [ybe,ybe,BasL.len t]
theorem TwnL.len {a:Ad} {H:Hp}:∀{os:List Addr} {Bs:List Twn},TwnL a H os Bs->os.length=Bs.length
 | [],[],_=>rfl
 |_::_,_::_,⟨_,t⟩=>by rw [ybe,ybe,TwnL.len t]
theorem BasL.get {K:W.Frag} {a:Ad} {H:Hp}:∀{os:List Addr} {Bs:List Bsn} {i:Nat} {v:V},BasL K a H os Bs->(os.map V.ref)[i]?=some v->∃o B,v= .ref o/\Bs[i]?=some B/\BasAt K a H o B:=by
 intro os
 induction os with
 |nil=>intro Bs i v h e;simp at e
 |cons o os ih=>
  intro Bs i v h e;cases Bs with
  |nil=>exact False.elim h
  |cons B Bs=>
   cases i with
   |zero=>exact ⟨o,B,by simpa using e.symm,rfl,And.left h⟩
   |succ i=>exact ih (Bs:=Bs) (i:=i) (And.right h) (by simpa using e)
theorem TwnL.get {a:Ad} {H:Hp}:∀{os:List Addr} {Bs:List Twn} {i:Nat} {v:V},TwnL a H os Bs->(os.map V.ref)[i]?=some v->∃o B,v= .ref o/\Bs[i]?=some B/\TwnAt a H o B:=by
 intro os
 induction os with
 |nil=>intro Bs i v h e;simp at e
 |cons o os ih=>
  intro Bs i v h e;cases Bs with
  |nil=>exact False.elim h
  |cons B Bs=>
   cases i with
   |zero=>exact ⟨o,B,by simpa using e.symm,rfl,And.left h⟩
   |succ i=>exact ih (Bs:=Bs) (i:=i) (And.right h) (by simpa using e)
noncomputable def Yca (K:W.Frag):Sp:=λvs H Q _=>∃(l:Addr) (zs:List Str),vs= [.ref l]/\SqL K H l (zs.map V.str)/\zs.length<=2000/\∀H',Same H H'->Q (.bl (decide ((uq zs).length=zs.length))) H'
noncomputable def Yby (K:W.Frag) (a:Ad):Sp:=λvs H Q _=>∃(l:Addr) (os:List Addr) (Bs:List Bsn),vs= [.ref l]/\H l=some (.lst (os.map V.ref))/\BasL K a H os Bs/\(1<=Bs.length/\Bs.length<=16)/\(Bs.map (·.z)).Nodup/\∀H',Same H H'->Q (.bl true) H'
noncomputable def Ye9 (K:W.Frag) (a:Ad):Sp:=λvs H Q _=>∃(l m:Addr) (os ts:List Addr) (Bs:List Bsn) (Ts:List Twn),vs= [.ref m,.ref l]/\H l=some (.lst (os.map V.ref))/\BasL K a H os Bs/\Bs.length<=16/\H m=some (.lst (ts.map V.ref))/\TwnL a H ts Ts/\Ts.length<=3/\(Ts.map (·.z)).Nodup/\(∀t∈Ts,t.b∈Bs.map (·.z))/\∀H',Same H H'->Q (.bl true) H'
section
variable {P:Program} {w:World} {K:W.Frag} {mg:Str->Option Value} {base:Heap} {a:Ad}
theorem Jq9:Jk0 ["self","thing"] ["self","thing"] (Jju (Jk8 (top 4) 0)):=%[|0]
theorem Jn5 (T:Tx K mg a):FnOk P w K mg base CX0 1 a.Jew a.Jex ["self","thing"] (Jn8 K "thing"):=by
 refine %[T.Jc6.fn.ok,Jq9|2]
 ·obtain ⟨e,C,W,fI,y,rfl,_⟩:=h;rfl
 ·obtain ⟨e,C,W,fI,y,rfl,q,c,n,k⟩:=h;refine ⟨_,(Jjt (Jmw (pv 0) (pv 1) rfl)),?_⟩;exact ⟨_,rfl,_,rfl,e,C,W,fI,true,rfl,q,c,n,k⟩
theorem Jxf:Jk0 ["thing","low","high"] ["thing","low","high"] (Jju (top 15)):=%[|0]
theorem Jli (T:Tx K mg a):FnOk P w K mg base CX0 1 a.Jfc a.Jfd ["thing","low","high"] (Yea K):=by
 refine %[T.J0.fn.ok,Jxf|2]
 ·obtain ⟨x,lo,hi,rfl,_⟩:=h;rfl
 ·obtain ⟨x,lo,hi,rfl,tm,k⟩:=h;refine ⟨_,(Jjs (Jkd (PW.pt (Jot (Jkf (Jjz Jle (by rfl) T.Jau Jka (Jjp (pv 0) (Jjp (Jlb (v:=.ty "bool") (by rfl) T.Jaq Jz7 rfl) Jjr)))) (Jou (Jkh (Jkf (Jjz Jle (by rfl) T.Jau Jka (Jjp (pv 0) (Jjp (Jlb (v:=.ty "int") (by rfl) T.Jat Jps rfl) Jjr)))))))) (Jjt (Jk1 Jlg)) Jk3)
   (Jjt (Jk1 (Jt3 Jn7 Jn7 (pv 1) (pv 0) (pv 2))))),?_⟩
  rcases tm with ⟨i,rfl⟩|⟨t,ty,ht⟩
  ·refine ⟨_,rfl,_,_,_,_,_,rfl,rfl,.of (.int i),(by rfl:W.kitOne K (.type "int") (.type "bool")=some false),_,rfl,Jkt ⟨_,rfl,_,_,_,_,_,rfl,rfl,.of (.int i),(by rfl:W.kitOne K (.type "int") (.type "int")=some true),_,rfl,Jkt ?_⟩⟩;refine ⟨_,rfl,_,rfl,_,_,rfl,rfl,_,rfl,?_⟩;have k':Q (.bl (decide (lo<=i)&&decide (i<=hi))) H:=k;by_cases h1:lo<=i
   ·rw [decide_eq_true h1] at k'⊢;exact Jm7 ⟨_,rfl,_,_,rfl,rfl,by simpa using k'⟩
   ·rw [decide_eq_false h1] at k'⊢;exact Jkt (by simpa using k')
  ·rw [Yde ty ht] at k;have e:=tp_int (K:=K) ht;cases eb:(t== .type "bool") with
   |true=>
    rw [eb] at e;exact ⟨_,rfl,_,_,_,_,_,rfl,rfl,ty,e.2,_,rfl,Jm7 (Jm7 k)⟩
   |false=>
    rw [eb] at e;exact ⟨_,rfl,_,_,_,_,_,rfl,rfl,ty,e.2,_,rfl,Jkt ⟨_,rfl,_,_,_,_,_,rfl,rfl,ty,e.1,_,rfl,Jm7 k⟩⟩
theorem sc_are_marks:Jk0 ["thing","lowest","least","mark"] ["thing","lowest"] (Jju (top 48)):=%[|0]
theorem Jvr (T:Tx K mg a):FnOk P w K mg base CX0 2 a.Jgq a.Jgr ["thing","lowest"] (spAre K):=by
 have G_is_whole:=%[Jli|1];refine %[T.Jp.fn.ok,sc_are_marks|2]
 ·obtain ⟨x,lo,b,rfl,_⟩:=h;rfl
 ·obtain ⟨x,lo,b,rfl,sh,k⟩:=h;refine ⟨_,(Jjs (Jkd (Jkh (Jkf (Jjz Jse (by rfl) T.Jau Jka (Jjp (pv 0) (Jjp (Jmm (Jjp (Jlb (v:=.ty "list") (by rfl) T.Jaw Jp3 rfl) (Jjp (Jlb (v:=.ty "tuple") (by rfl) T.Jb4 Jl7 rfl) Jjr))) Jjr))))) (Jjt (Jk1 Jlg)) Jk3)
   (Jjs (Jkd (Jkh (Jos Jn7 Jn7 Jjv (Jjz Jk4 (by rfl) T.Jav Jkw (Jjp (pv 0) Jjr)) (Jlc (by rfl) T.Jaf (v:=.int 4) ⟨_,rfl⟩))) (Jjt (Jk1 Jlg)) Jk3)
   (Jjs (Jk5 (i:=2) sc_are_marks.nd rfl (ye rfl) (pv 1))
   (Jjs (Jmn PassesOwn.never rfl (pi_seq (pv 0)) (Jk2 (i:=3) sc_are_marks.nd rfl (ye rfl)) (Jjs (Jkd (Jkh (Jkf (Jjw T.J0 G_is_whole hr (by decide) (Jjp (pv 3) (Jjp (pv 2) (Jjp (Jlc (by rfl) T.Jag (v:=.int 12) ⟨_,rfl⟩) Jjr)))))) (Jjt (Jk1 Jlg)) Jk3)
    (Jjt (Jk5 (i:=2) sc_are_marks.nd rfl (ye rfl) (Jk7 Jkk (pv 3) Jjv)))))
   (Jjt (Jk1 Jlg)))))),?_⟩
  cases sh with
  | @non t ty e=>
   refine ⟨_,rfl,(show 2<=sizeLine by decide),λp hp=>⟨_,p,_,_,t,_,rfl,Jjq,rfl,ty.same (λb o _ q=>Same.upd hp b o q) (λb fs q=>Same.upd hp b _ q),e,_,rfl,Jm7 (k _ (Same.upd hp))⟩⟩
  | @seq xs sq tms=>
   obtain ⟨t,ty,_,e⟩:=sq.ty (K:=K);refine ⟨_,rfl,(show 2<=sizeLine by decide),λp hp=>⟨_,p,_,_,t,_,rfl,Jjq,rfl,ty.same (λb o _ q=>Same.upd hp b o q) (λb fs q=>Same.upd hp b _ q),e,_,rfl,Jkt ?_⟩⟩;have s1:=Same.upd (o:=.tup [.ty "list",.ty "tuple"]) hp;have sq1:=sq.same s1;obtain ⟨q,rfl⟩:∃q,x= .ref q:=by cases sq <;> exact ⟨_,rfl⟩
   have len:SqL K (upd H p (.tup [.ty "list",.ty "tuple"])) q xs\/SqT K (upd H p (.tup [.ty "list",.ty "tuple"])) q xs:=by
    cases sq1 with
    |lst e=>exact .inl (SqL.of e)
    |tup e=>exact .inr (SqT.of e)
   refine ⟨_,rfl,q,xs,rfl,len,_,_,rfl,rfl,_,rfl,?_⟩;have no:Jme lo xs=false->∀H',Same H H'->Q (.bl false) H':=λz H' s'=>by
    have:=k H' s';rw [z] at this;exact this
   by_cases h1:(1:Int)<=(xs.length:Int)
   ·rw [decide_eq_true h1];refine Jm7 ⟨_,_,rfl,rfl,_,rfl,?_⟩;by_cases h2:(xs.length:Int)<=4
    ·rw [decide_eq_true h2];refine Jkt ⟨_,rfl,?_⟩;have lz:decide (1<=xs.length/\xs.length<=4)=true:=decide_eq_true (by omega);have ar:Jme lo xs=Jkx lo xs:=by unfold Jme;rw [lz,Bool.true_and]
     refine ⟨_,rfl,q,rfl,Yd3 (xs:=xs) (λi σ H'=>∃(l:Int) (o:Option V),σ= [some (.ref q),some (.int lo),some (.int l),o]/\H'=upd H p (.tup [.ty "list",.ty "tuple"])/\Jkx lo xs=Jkx l (xs.drop i)) ⟨lo,_,rfl,rfl,rfl⟩ ?_ ?_ ?_⟩
     ·rcases len with z|z
      ·exact .inl λi σ H' _ ⟨_,_,_,e,_⟩=>by rw [e];exact z
      ·exact .inr λi σ H' _ ⟨_,_,_,e,_⟩=>by rw [e];exact z
     ·rintro i y σ H' hy ⟨l,o,rfl,rfl,em⟩;have hd:xs.drop i=y::xs.drop (i+1):=by
       obtain ⟨hi,rfl⟩:=yq.mp hy;exact List.drop_eq_getElem_cons hi
      refine ⟨_,rfl,_,rfl,y,l,12,rfl,(tms y (yaa hy)).same s1,_,rfl,?_⟩;cases z:Jkq y l 12 with
      |false=>
       refine Jm7 (no ?_ _ s1);rw [ar,em,hd,Jrt,z,Bool.false_and]
      |true=>
       rw [hd,Jrt,z,Bool.true_and] at em;cases y with
       |int i'=>exact Jkt ⟨_,rfl,_,_,rfl,rfl,i'+1,_,rfl,rfl,em⟩
       |_=>cases z
     ·rintro σ H' ⟨l,o,rfl,rfl,em⟩;have e:Jme lo xs=true:=by rw [ar,em,List.drop_of_length_le (yi _)];rfl
      have:=k _ s1;rw [e] at this;exact this
    ·rw [decide_eq_false h2];refine Jm7 (no ?_ _ s1);unfold Jme;rw [decide_eq_false (by omega:¬(1<=xs.length/\xs.length<=4)),Bool.false_and]
   ·rw [decide_eq_false h1];refine Jkt ⟨_,rfl,Jm7 (no ?_ _ s1)⟩;unfold Jme;rw [decide_eq_false (by omega:¬(1<=xs.length/\xs.length<=4)),Bool.false_and]
theorem Ju8:Jk0 ["marks","lowest"] ["marks","lowest"] (Jju (top 49)):=%[|0]
theorem Jnj (T:Tx K mg a):FnOk P w K mg base (CXX P w) 3 a.Jgs a.Jgt ["marks","lowest"] (spKept K a):=by
 have G_are_marks:=%[Jvr|1];have G_NoGate___init__:=%[Jn5|1];refine %[T.Jq.fn.okX,Ju8|2]
 ·obtain ⟨x,lo,rfl,_⟩:=h;rfl
 ·obtain ⟨x,lo,rfl,h⟩:=h;refine ⟨_,(Jjs (Jkd (Jkh (Jkf (Jjw T.Jp G_are_marks hr (by decide) (Jjp (pv 0) (Jjp (pv 1) Jjr))))) (Jjt (Jkv Jkz rfl (Jlj T.Jct G_NoGate___init__ hr (by decide) T.Jc6.bd T.Jb7 (Jjp (pv 0) Jjr)))) Jk3)
   (Jjt (Jk1 (Jko Jl5 (by rfl) T.Jb4 Jl7 (Jjp (pv 0) Jjr))))),?_⟩
  rcases h with ⟨xs,sq,tms,e,k⟩|⟨sh,k⟩
  ·have sh:=Shp.seq (lo:=lo) sq tms;rw [e] at sh;refine ⟨_,rfl,_,rfl,x,lo,true,rfl,sh,λH1 s1=>⟨_,rfl,Jkt ?_⟩⟩;cases sq with
   |lst e=>exact ⟨_,rfl,_,xs,rfl,.inl ⟨SqL.of (s1 _ _ e),λl hl=>k l _ (s1.trans (Same.upd hl)) Jjq⟩⟩
   |tup e=>exact ⟨_,rfl,_,xs,rfl,.inr ⟨SqT.of (s1 _ _ e),k _ _ s1 (s1 _ _ e)⟩⟩
  ·exact ⟨_,rfl,_,rfl,x,lo,false,rfl,sh,λH1 s1=>⟨_,rfl,Jm7 (Jmc T.Jct T.Jdu rfl λe dx h1 h2 h3=>k _ _ _ ((Rf.new h1 h2 h3).of s1))⟩⟩
theorem Jp0:Jk0 ["self","marks"] ["self","marks"] (Jju (Jk8 (top 52) 0)):=%[|0]
theorem Jrc (T:Tx K mg a):FnOk P w K mg base (CXX P w) 4 a.Jgw a.Jgx ["self","marks"] (Jw7 K a 0):=by
 have G_kept_marks:=%[Jnj|1];refine %[T.Jcf.fn.okX,Jp0|2]
 ·obtain ⟨p,C,dx,x,rfl,_⟩:=h;rfl
 ·obtain ⟨p,C,dx,x,rfl,hp,c,n,h⟩:=h;refine ⟨_,(Jjt (Jlx (pv 0) (Jlk T.Jq G_kept_marks Jkz hr (by decide) (Jjp (pv 1) (Jjp Jjv Jjr))) rfl)),?_⟩;rcases h with ⟨xs,sq,tms,e,k⟩|⟨sh,k⟩
  ·exact ⟨_,rfl,x,0,rfl,.inl ⟨xs,sq,tms,e,λt H' s' ht=>⟨_,rfl,p,C,dx,[],rfl,s' _ _ hp,c,n,by simp,k t H' s' ht⟩⟩⟩
  ·exact ⟨_,rfl,x,0,rfl,.inr ⟨sh,k⟩⟩
theorem Jp1:Jk0 ["self"] ["self"] (Jju (Jk8 (top 52) 1)):=%[|0]
theorem Jok (T:Tx K mg a):FnOk P w K mg base CX0 1 a.Jgy a.Jgz ["self"] (Yc6 a.Jjf):=by
 refine %[T.Jcg.fn.ok,Jp1|2]
 ·obtain ⟨p,xs,rfl,_⟩:=h;rfl
 ·obtain ⟨p,xs,rfl,⟨dx,t,h1,h2⟩,k⟩:=h;refine ⟨_,(Jjt (Jk1 (Jjz Jk4 (by rfl) T.Jav Jkw (Jjp (Jky (pv 0) (by rfl)) Jjr)))),?_⟩;exact ⟨_,rfl,p,_,dx,_,_,rfl,h1,T.Jd2,T.Jdy,rfl,t,xs,rfl,.inr (SqT.of h2),k⟩
theorem Jov:Jk0 ["self","marks"] ["self","marks"] (Jju (Jk8 (top 53) 0)):=%[|0]
theorem Jra (T:Tx K mg a):FnOk P w K mg base (CXX P w) 4 a.Jh2 a.Jh3 ["self","marks"] (Jw7 K a 0):=by
 have G_kept_marks:=%[Jnj|1];refine %[T.Jci.fn.okX,Jov|2]
 ·obtain ⟨p,C,dx,x,rfl,_⟩:=h;rfl
 ·obtain ⟨p,C,dx,x,rfl,hp,c,n,h⟩:=h;refine ⟨_,(Jjt (Jlx (pv 0) (Jlk T.Jq G_kept_marks Jkz hr (by decide) (Jjp (pv 1) (Jjp Jjv Jjr))) rfl)),?_⟩;rcases h with ⟨xs,sq,tms,e,k⟩|⟨sh,k⟩
  ·exact ⟨_,rfl,x,0,rfl,.inl ⟨xs,sq,tms,e,λt H' s' ht=>⟨_,rfl,p,C,dx,[],rfl,s' _ _ hp,c,n,by simp,k t H' s' ht⟩⟩⟩
  ·exact ⟨_,rfl,x,0,rfl,.inr ⟨sh,k⟩⟩
theorem Jow:Jk0 ["self"] ["self"] (Jju (Jk8 (top 53) 1)):=%[|0]
theorem Joh (T:Tx K mg a):FnOk P w K mg base CX0 1 a.Jh4 a.Jh5 ["self"] (Yc6 a.Jjg):=by
 refine %[T.Jcj.fn.ok,Jow|2]
 ·obtain ⟨p,xs,rfl,_⟩:=h;rfl
 ·obtain ⟨p,xs,rfl,⟨dx,t,h1,h2⟩,k⟩:=h;refine ⟨_,(Jjt (Jk1 (Jjz Jk4 (by rfl) T.Jav Jkw (Jjp (Jky (pv 0) (by rfl)) Jjr)))),?_⟩;exact ⟨_,rfl,p,_,dx,_,_,rfl,h1,T.Jd8,T.Jdz,rfl,t,xs,rfl,.inr (SqT.of h2),k⟩
theorem Joy:Jk0 ["self","marks"] ["self","marks"] (Jju (Jk8 (top 54) 0)):=%[|0]
theorem Jrb (T:Tx K mg a):FnOk P w K mg base (CXX P w) 4 a.Jh8 a.Jh9 ["self","marks"] (Jw7 K a 1):=by
 have G_kept_marks:=%[Jnj|1];refine %[T.Jcl.fn.okX,Joy|2]
 ·obtain ⟨p,C,dx,x,rfl,_⟩:=h;rfl
 ·obtain ⟨p,C,dx,x,rfl,hp,c,n,h⟩:=h;refine ⟨_,(Jjt (Jlx (pv 0) (Jlk T.Jq G_kept_marks Jkz hr (by decide) (Jjp (pv 1) (Jjp Jjv Jjr))) rfl)),?_⟩;rcases h with ⟨xs,sq,tms,e,k⟩|⟨sh,k⟩
  ·exact ⟨_,rfl,x,1,rfl,.inl ⟨xs,sq,tms,e,λt H' s' ht=>⟨_,rfl,p,C,dx,[],rfl,s' _ _ hp,c,n,by simp,k t H' s' ht⟩⟩⟩
  ·exact ⟨_,rfl,x,1,rfl,.inr ⟨sh,k⟩⟩
theorem Joz:Jk0 ["self"] ["self"] (Jju (Jk8 (top 54) 1)):=%[|0]
theorem Joj (T:Tx K mg a):FnOk P w K mg base CX0 1 a.Jha a.Jhb ["self"] (Yc6 a.Jjh):=by
 refine %[T.Jcm.fn.ok,Joz|2]
 ·obtain ⟨p,xs,rfl,_⟩:=h;rfl
 ·obtain ⟨p,xs,rfl,⟨dx,t,h1,h2⟩,k⟩:=h;refine ⟨_,(Jjt (Jk1 (Jjz Jk4 (by rfl) T.Jav Jkw (Jjp (Jky (pv 0) (by rfl)) Jjr)))),?_⟩;exact ⟨_,rfl,p,_,dx,_,_,rfl,h1,T.Jde,T.Je0,rfl,t,xs,rfl,.inr (SqT.of h2),k⟩
theorem Jpo {j:Nat} {σ:L2.St} {H:Hp} {x:V} {n:Nat} {Q:VK} (T:Tx K mg a) (g:GS K a H x n) (k:Q (.int n) H) (hj:1<=j):
  ∃g' C dx fs f fd ps sp k',x= .ref g'/\H g'=some (.ins C dx fs)/\fs.lookup ("settings" :Str)=none/\Cls K C/\Jp8 K C "settings" f/\FnOk P w K mg base CX0 k' f fd ps sp/\k'<=j/\Binds K fd ps []/\Jxo σ H λvs H2=>sp (x::vs) H2 Q E0:=by
 cases g with
 | @plain g C xs i ga l=>
  obtain ⟨dx,t,h1,h2⟩:=ga;rcases i with rfl|rfl|rfl
  ·exact ⟨g,_,dx,_,_,_,_,_,_,rfl,h1,rfl,T.Jd2,T.Jd6,Jok T,hj,T.Jcg.bd,g,xs,rfl,⟨dx,t,h1,h2⟩,k⟩
  ·exact ⟨g,_,dx,_,_,_,_,_,_,rfl,h1,rfl,T.Jd8,T.Jdc,Joh T,hj,T.Jcj.bd,g,xs,rfl,⟨dx,t,h1,h2⟩,k⟩
  ·exact ⟨g,_,dx,_,_,_,_,_,_,rfl,h1,rfl,T.Jde,T.Jdi,Joj T,hj,T.Jcm.bd,g,xs,rfl,⟨dx,t,h1,h2⟩,k⟩
theorem Jxg:Jk0 ["_law_script","_law_k"] ["_law_script","_law_k"] (Jju (top 70)):=%[|0]
theorem Jwz (T:Tx K mg a):FnOk P w K mg base CX0 1 a.Jhu a.Jhv ["_law_script","_law_k"] (spCell K):=by
 refine %[T.Jv.fn.ok,Jxg|2]
 ·obtain ⟨x,ns,i,rfl,_⟩:=h;rfl
 ·obtain ⟨x,ns,i,rfl,hS,k⟩:=h;refine ⟨_,(Jjs (Jkd (Jke Jzi (pv 1) (Jjz Jk4 (by rfl) T.Jav Jkw (Jjp (pv 0) Jjr)) (Jkg _)) (Jjt (Jk1 (Jk9 Jki (pv 0) (pv 1) (λ_ _=>rfl)))) Jk3)
   (Jjt (Jk1 (Jk7 Jkk (Jk7 Jq6 Jjv (pv 1)) Jjv)))),?_⟩
  refine ⟨_,rfl,_,rfl,x,_,rfl,.inl hS,_,_,rfl,rfl,_,rfl,Jnu (λq=>?_) (λq=>?_)⟩
  ·have hi:i < ns.length:=by
    have q':=of_decide_eq_true q;rw [yf] at q';omega
   exact ⟨_,rfl,_,rfl,x,_,_,_,rfl,rfl,hS,Jze hi,k _⟩
  ·exact ⟨_,rfl,_,_,rfl,rfl,.inl ⟨by decide,by decide⟩,_,_,rfl,rfl,k _⟩
theorem Jua:Jk0 ["_law_cell_here"] ["_law_cell_here"] (Jju (top 71)):=%[|0]
theorem Jtz (T:Tx K mg a):FnOk P w K mg base CX0 1 a.Jhw a.Jhx ["_law_cell_here"] Yc9:=by
 refine %[T.Jw.fn.ok,Jua|2]
 ·obtain ⟨c,rfl,_⟩:=h;rfl
 ·obtain ⟨c,rfl,k⟩:=h;refine ⟨_,(Jjt (Jk1 (Jl4 (Jjp (Jjz (Jmh rfl) (by rfl) T.Jax Jpt (Jjp Jjv (Jjp (Jk7 Jln (pv 0) (Jk7 op_pow Jjv Jjv)) Jjr))) (Jjp (Jk7 Jq5 (pv 0) Jjv) (Jjp Jjv Jjr)))))),?_⟩;refine ⟨_,rfl,_,_,rfl,rfl,⟨by decide,by decide,by decide⟩,_,_,rfl,rfl,_,_,rfl,_,rfl,_,_,rfl,rfl,(by show (0:Int) < 2147483647;decide),Jrk _ (by show 3<=2000;decide),λp hp=>?_⟩;exact k p _ hp (Same.upd hp) ⟨_,_,_,Jjq⟩
theorem sc_law_take:Jk0 ["_law_stream_here","_law_many","_law_digit","_law_number"] ["_law_stream_here","_law_many"] (Jju (top 72)):=%[|0]
theorem Jlr (T:Tx K mg a):FnOk P w K mg base CX0 1 a.Jhy a.Jhz ["_law_stream_here","_law_many"] spTake:=by
 refine %[T.Jx.fn.ok,sc_law_take|2]
 ·obtain ⟨p,m,rfl,_⟩:=h;rfl
 ·obtain ⟨p,m,rfl,⟨a0,b0,c0,hp⟩,hm,hl,k⟩:=h;refine ⟨_,(Jjs (Jt7 (Jk7 Jkk (Jk9 Jki (pv 0) Jjv (λ_ _=>rfl)) Jjv) (Jvz (pv 0) Jjv Jqu))
   (Jjs (Jkd (Jke Juy (Jk9 Jki (pv 0) Jjv (λ_ _=>rfl)) Jjv (Jkg _)) (Jjs (Jk5 (i:=2) sc_law_take.nd rfl (ye rfl) (Jk7 Jq5 (Jk9 Jki (pv 0) Jjv (λ_ _=>rfl)) (pv 1)))
    (Jjs (Jt7 (Jk7 Jop (Jk9 Jki (pv 0) Jjv (λ_ _=>rfl)) (pv 1)) (Jvz (pv 0) Jjv Jqu))
    (Jjt (Jk1 (pv 2))))) Jk3)
   (Jjs (Jk5 (i:=3) sc_law_take.nd rfl (ye rfl) (Jk7 Jq5 (Jk7 Jq6 (Jk7 Jkk (Jk9 Jki (pv 0) Jjv (λ_ _=>rfl)) (Jk7 Jq6 Jjv (Jk9 Jki (pv 0) Jjv (λ_ _=>rfl)))) Jjv) Jjv))
   (Jjs (Jk5 (i:=3) sc_law_take.nd rfl (ye rfl) (Jk7 Jq5 (Jk7 Jq6 (pv 3) (pv 3)) Jjv))
   (Jjt (Jk1 (Jk7 Jq5 (Jk7 Jop (Jk7 Jq5 (Jk7 Jkk (Jk7 Jq6 (pv 3) (Jk7 Jkk (pv 3) Jjv)) (Jk7 Jq6 Jjv (Jk9 Jki (pv 0) Jjv (λ_ _=>rfl)))) Jjv) Jjv) (pv 1)))))))),?_⟩
  refine ⟨_,rfl,p,_,_,_,rfl,rfl,SqL.of hp,rfl,_,_,rfl,rfl,_,rfl,p,_,_,_,rfl,rfl,hp,rfl,?_⟩;refine ⟨_,rfl,p,_,_,_,rfl,rfl,SqL.of Jjq,rfl,_,_,rfl,rfl,_,rfl,Jnu (λ_=>?_) (λ_=>?_)⟩
  ·refine ⟨_,rfl,p,_,_,_,rfl,rfl,SqL.of Jjq,rfl,_,rfl,_,_,rfl,rfl,hm,?_⟩;refine ⟨_,rfl,p,_,_,_,rfl,rfl,SqL.of Jjq,rfl,_,rfl,_,_,rfl,rfl,⟨hm,hl⟩,_,rfl,p,_,_,_,rfl,rfl,Jjq,rfl,?_⟩;refine ⟨_,rfl,k _ _ (Int.emod_nonneg _ (by omega)) (Int.emod_lt_of_pos _ hm) ⟨λb o ne e=>?_,_,_,_,Jjq⟩⟩;rw [Jjx ne,Jjx ne];exact e
  ·refine ⟨_,rfl,p,_,_,_,rfl,rfl,SqL.of Jjq,rfl,_,rfl,p,_,_,_,rfl,rfl,SqL.of Jjq,rfl,_,_,rfl,rfl,.inl ⟨by decide,by decide⟩,_,_,rfl,rfl,_,_,rfl,rfl,.inr ⟨by decide,by decide⟩,_,_,rfl,rfl,(by show (0:Int) < 2147483629;decide),?_⟩;have n1:∀x:Int,-(2^64) < x%2147483629/\x%2147483629 < 2^64:=λx=>by
    have h1:=Int.emod_nonneg x (show (2147483629:Int)≠0 by decide);have h2:=Int.emod_lt_of_pos x (show (0:Int) < 2147483629 by decide);constructor <;> omega
   have n2:∀x:Int,-(2^64) < x%2147483587/\x%2147483587 < 2^64:=λx=>by
    have h1:=Int.emod_nonneg x (show (2147483587:Int)≠0 by decide);have h2:=Int.emod_lt_of_pos x (show (0:Int) < 2147483587 by decide);constructor <;> omega
   refine ⟨_,rfl,_,rfl,_,_,rfl,rfl,.inl (n1 _),_,_,rfl,rfl,(by show (0:Int) < 2147483587;decide),?_⟩;refine ⟨_,rfl,_,rfl,_,_,rfl,rfl,_,_,rfl,rfl,.inl (n2 _),_,rfl,p,_,_,_,rfl,rfl,SqL.of Jjq,rfl,_,_,rfl,rfl,.inl ⟨by decide,by decide⟩,_,_,rfl,rfl,_,_,rfl,rfl,(by show (0:Int) < 2147483647;decide),_,_,rfl,rfl,⟨by decide,by decide⟩,_,rfl,_,_,rfl,rfl,hm,?_⟩;refine k _ _ (Int.emod_nonneg _ (by omega)) (Int.emod_lt_of_pos _ hm) ⟨λb o ne e=>?_,_,_,_,Jjq⟩;rw [Jjx ne];exact e
theorem Jqa:Jk0 ["self","thing"] ["self","thing"] (Jju (Jk8 (top 3) 0)):=%[|0]
theorem Joi (T:Tx K mg a):FnOk P w K mg base CX0 1 a.Jeu a.Jev ["self","thing"] (Jn8 K "thing"):=by
 refine %[T.Jc5.fn.ok,Jqa|2]
 ·obtain ⟨e,C,W,fI,y,rfl,_⟩:=h;rfl
 ·obtain ⟨e,C,W,fI,y,rfl,q,c,n,k⟩:=h;refine ⟨_,(Jjt (Jmw (pv 0) (pv 1) rfl)),?_⟩;exact ⟨_,rfl,_,rfl,e,C,W,fI,true,rfl,q,c,n,k⟩
theorem Jpb:Jk0 ["self","thing"] ["self","thing"] (Jju (Jk8 (top 5) 0)):=%[|0]
theorem Jry (T:Tx K mg a):FnOk P w K mg base CX0 1 a.Jey a.Jez ["self","thing"] (Jn8 K "thing"):=by
 refine %[T.Jc7.fn.ok,Jpb|2]
 ·obtain ⟨e,C,W,fI,y,rfl,_⟩:=h;rfl
 ·obtain ⟨e,C,W,fI,y,rfl,q,c,n,k⟩:=h;refine ⟨_,(Jjt (Jmw (pv 0) (pv 1) rfl)),?_⟩;exact ⟨_,rfl,_,rfl,e,C,W,fI,true,rfl,q,c,n,k⟩
theorem Jqb:Jk0 ["self","thing"] ["self","thing"] (Jju (Jk8 (top 6) 0)):=%[|0]
theorem Jsx (T:Tx K mg a):FnOk P w K mg base CX0 1 a.Jf0 a.Jf1 ["self","thing"] (Jn8 K "thing"):=by
 refine %[T.Jc8.fn.ok,Jqb|2]
 ·obtain ⟨e,C,W,fI,y,rfl,_⟩:=h;rfl
 ·obtain ⟨e,C,W,fI,y,rfl,q,c,n,k⟩:=h;refine ⟨_,(Jjt (Jmw (pv 0) (pv 1) rfl)),?_⟩;exact ⟨_,rfl,_,rfl,e,C,W,fI,true,rfl,q,c,n,k⟩
theorem Ju7:Jk0 ["text","signs"] ["text","signs"] (Jju (top 16)):=%[|0]
theorem Jtx (T:Tx K mg a):FnOk P w K mg base CX0 1 a.Jfe a.Jff ["text","signs"] spMade:=by
 refine %[T.J1.fn.ok,Ju7|2]
 ·obtain ⟨z,g,rfl,_⟩:=h;rfl
 ·obtain ⟨z,g,rfl,hz,k⟩:=h;refine ⟨_,(Jjt (Jk1 (Jjz (Jmz rfl) (by rfl) T.Jao Jpr (Jjp (Jkl (N:=(["sign","signs"]:List Str)) (ini:=[none,some 1]) rfl (pi_str (pv 0)) (λ_ _ _ _ _=>(Jk2 (i:=0) (by decide +kernel:(["sign","signs"]:List Str).Nodup) rfl (ye rfl))) (λ_ _ _ _ _=>Jkp) (λ_ _ _ _ _=>(Jm1 Yl (pv 0) (pv 1) (by with_unfolding_all rfl)))) Jjr)))),?_⟩;refine ⟨_,rfl,z,rfl,λD hD=>?_⟩;refine Yal (z:=z) (D:=D) (λi σ H'=>∃o,σ= [o,some (.str g)]/\H'=upd H D (.lst ((z.cps.toList.take i).map λc=>V.bl (decide (c∈g.cps.toList))))) ?_ ?_ ?_
  ·exact ⟨none,rfl,rfl⟩
  ·rintro i c σ H' hc ⟨o,rfl,rfl⟩;refine Jl1 ⟨_,rfl,_,rfl,⟨#[c]⟩,g,rfl,rfl,_,Jjq,?_,_,rfl,?_⟩
   ·rw [yf,yaj,Yd9];exact Jkc (by omega)
   ·rw [Jmq,StrLaws.found_one];have e:z.cps.toList[i]?=some c:=by simpa using hc
    rw [yao,e];simp
  ·rintro σ H' ⟨o,rfl,rfl⟩;have e:z.cps.toList.take z.cps.size=z.cps.toList:=yak (by simp);refine ⟨D,z.cps.toList.map λc=>decide (c∈g.cps.toList),rfl,SqL.of (by rw [Jjq,e,List.map_map];rfl),?_⟩;have e2:(z.cps.toList.map λc=>decide (c∈g.cps.toList)).all id=Jwh g z:=by
    unfold Jwh;rw [List.all_map];rfl
   rw [e2];exact k _ (Same.upd hD)
theorem Ydf {H:Hp} {x:V} (h:Tm K H x) (n:∀z,x≠ .str z):∃t,TyX K H x t/\W.kitOne K t (.type "str")=some false:=by
 rcases h with ⟨i,rfl⟩|⟨t,ty,ht⟩
 ·exact ⟨_,.of (.int i),rfl⟩
 ·refine ⟨t,ty,?_⟩;unfold tpB at ht;simp only [List.contains_cons,List.contains_nil,Bool.or_false,Bool.or_eq_true,beq_iff_eq] at ht;rcases ht with rfl|rfl|rfl|rfl|rfl|rfl
  ·rfl
  ·obtain ⟨z,e⟩:=ty_str ty rfl;exact absurd e (n z)
  ·rfl
  ·rfl
  ·rfl
  ·rfl
theorem Jyo:Jk0 ["thing"] ["thing"] (Jju (top 17)):=%[|0]
theorem Jsy (T:Tx K mg a):FnOk P w K mg base CX0 2 a.Jfg a.Jfh ["thing"] (spName K):=by
 have G_is_made_of:=%[Jtx|1];refine %[T.J2.fn.ok,Jyo|2]
 ·obtain ⟨x,rfl,_⟩:=h;rfl
 ·obtain ⟨x,rfl,nm,k⟩:=h;refine ⟨_,(Jjs (Jkd (Jkh (Jkf (Jjz Jle (by rfl) T.Jau Jka (Jjp (pv 0) (Jjp (Jlb (v:=.ty "str") (by rfl) T.Jb2 bt_str rfl) Jjr))))) (Jjt (Jk1 Jlg)) Jk3)
   (Jjt (Jk1 (Jt2 (Jt3 Jn7 Jn7 Jjv (Jjz Jvb (by rfl) T.Jav Jkw (Jjp (pv 0) Jjr)) (Jlc (by rfl) T.Jad (v:=.int 8) ⟨_,rfl⟩)) (Jt5 (Jjw T.J1 G_is_made_of hr (by decide) (Jjp (pv 0) (Jjp (Jlc (by rfl) T.Jac (v:=.str "abcdefghijklmnopqrstuvwxyz") ⟨_,rfl⟩) Jjr)))))))),?_⟩
  by_cases hx:∃z,x= .str z
  ·obtain ⟨z,rfl⟩:=hx;have k:∀H',Same H H'->Q (.bl (Jrw z)) H':=k;have hz:z.length<=2000:=by have:=(nm.2 z rfl).len;omega
   refine ⟨_,rfl,_,_,_,_,_,rfl,rfl,.of (.str z),(by rfl:W.kitOne K (.type "str") (.type "str")=some true),_,rfl,Jkt ?_⟩;refine ⟨_,rfl,z,rfl,Jrk _ hz,_,_,rfl,rfl,_,rfl,?_⟩;have no:¬(1<=z.length/\z.length<=8)->Q (.bl false) H:=λq=>by
    have k':=k H (Same.refl H);unfold Jrw at k';rw [decide_eq_false q,Bool.false_and] at k';exact k'
   by_cases h1:(1:Int)<=(z.length:Int)
   ·rw [decide_eq_true h1];refine Jm7 ⟨_,_,rfl,rfl,_,rfl,?_⟩;by_cases h2:(z.length:Int)<=8
    ·rw [decide_eq_true h2];refine Jm7 ⟨_,rfl,z,_,rfl,hz,λH' s'=>?_⟩;have e:Jrw z=Jwh LET z:=by
      unfold Jrw;rw [decide_eq_true (by omega:1<=z.length/\z.length<=8),Bool.true_and]
     have k':=k H' s';rw [e] at k';exact k'
    ·rw [decide_eq_false h2];exact Jkt (no (by omega))
   ·rw [decide_eq_false h1];exact Jkt ⟨_,rfl,Jkt (no (by omega))⟩
  ·obtain ⟨t,ty,e1⟩:=Ydf nm.1 λz e=>hx ⟨z,e⟩;have k':=k H (Same.refl H);have e:Jmt x=false:=by
    cases x with
    |str z=>exact absurd ⟨z,rfl⟩ hx
    |_=>rfl
   rw [e] at k';exact ⟨_,rfl,_,_,_,_,_,rfl,rfl,ty,e1,_,rfl,Jm7 k'⟩
theorem Jqf:Jk0 ["thing","low","high"] ["thing","low","high"] (Jju (top 62)):=%[|0]
theorem Jq4 (T:Tx K mg a):FnOk P w K mg base (CXX P w) 3 a.Jhe a.Jhf ["thing","low","high"] (Ya0 K a):=by
 have G_is_whole:=%[Jli|1];have G_NoBasin___init__:=%[Jry|1];refine %[T.Jr.fn.okX,Jqf|2]
 ·obtain ⟨x,lo,hi,rfl,_⟩:=h;rfl
 ·obtain ⟨x,lo,hi,rfl,tm,h⟩:=h;refine ⟨_,(Jjt (Jkd (Jkh (Jkf (Jjw T.J0 G_is_whole hr (by decide) (Jjp (pv 0) (Jjp (pv 1) (Jjp (pv 2) Jjr)))))) (Jjt (Jkv Jkz rfl (Jlj T.Jcu G_NoBasin___init__ hr (by decide) T.Jc7.bd T.Jb8 (Jjp (pv 0) Jjr)))) Jk3)),?_⟩;refine ⟨_,rfl,_,rfl,_,rfl,x,lo,hi,rfl,tm,_,rfl,?_⟩;rcases h with ⟨e,k⟩|⟨e,k⟩
  ·rw [e];exact Jkt k
  ·rw [e];exact Jm7 (Jmc T.Jcu T.Jdv rfl λe dx h1 h2 h3=>k _ _ _ (RfC.new h1 h2 h3))
theorem Jlt {f:Str} {v:V}:∀{fs:List (Str×V)},(fs.map (·.1)).contains f=false->Jm4 f v fs=fs++ [(f,v)]
 | [],_=>rfl
 | (g,x) :: r,h=>by
  rw [yax,List.contains_cons,Bool.or_eq_false_iff] at h;have ne:¬g=f:=λe=>by
   have:=h.1;rw [e] at this;simp at this
  show (if g=f then (g,v)::r else (g,x)::Jm4 f v r)=_;rw [if_neg ne,Jlt h.2];rfl
theorem Jqr:Jk0 ["self","name","low","high","start","rain","gate"] ["self","name","low","high","start","rain","gate"] (Jju (Jk8 (top 63) 0)):=%[|0]
theorem Jts (T:Tx K mg a):FnOk P w K mg base (CXX P w) 4 a.Jhg a.Jhh ["self","name","low","high","start","rain","gate"] (Yds K a):=by
 have G_is_name:=%[Jsy|1];have G_refuse_no_level:=%[Jq4|1];have G_NoName___init__:=%[Joi|1];have G_NoGate___init__:=%[Jn5|1];refine %[T.Jco.fn.okX,Jqr|2]
 ·obtain ⟨p,dx,n,lo,hi,st,rn,g,gb,d,rfl,_⟩:=h;rfl
 ·obtain ⟨p,dx,n,lo,hi,st,rn,g,gb,d,rfl,hp,nm,tlo,thi,tst,trn,gt,du,k⟩:=h;refine ⟨?t,?B,?C⟩
  case B=>
   refine' Jjs (Jkd (Jkh (Jkf (Jjw T.J2 G_is_name hr (by decide) (Jjp (pv 1) Jjr)))) (Jjt (Jkv Jkz rfl (Jlj T.Jcs G_NoName___init__ hr (by decide) T.Jc5.bd T.Jb6 (Jjp (pv 1) Jjr)))) Jk3) ?_
   rotate_left
   refine' Jjs (Jlq (Jlk T.Jr G_refuse_no_level Jkz hr (by decide) (Jjp (pv 2) (Jjp Jjv (Jjp (Jlc (by rfl) T.Jai (v:=.int 12) ⟨_,rfl⟩) Jjr))))) ?_
   rotate_left
   refine' Jjs (Jlq (Jlk T.Jr G_refuse_no_level Jkz hr (by decide) (Jjp (pv 3) (Jjp (pv 2) (Jjp (Jlc (by rfl) T.Jai (v:=.int 12) ⟨_,rfl⟩) Jjr))))) ?_
   rotate_left
   refine' Jjs (Jlq (Jlk T.Jr G_refuse_no_level Jkz hr (by decide) (Jjp (pv 4) (Jjp (pv 2) (Jjp (pv 3) Jjr))))) ?_
   rotate_left
   refine' Jjs (Jlq (Jlk T.Jr G_refuse_no_level Jkz hr (by decide) (Jjp (pv 5) (Jjp Jjv (Jjp (Jlc (by rfl) T.Jaj (v:=.int 6) ⟨_,rfl⟩) Jjr))))) ?_
   rotate_left
   refine' Jjs (Jkd (Jkh (Jkf (Jjz Jle (by rfl) T.Jau Jka (Jjp (pv 6) (Jjp (Jlc (by rfl) T.Jbf (v:=.ref _) rfl) Jjr))))) (Jjt (Jkv Jkz rfl (Jlj T.Jct G_NoGate___init__ hr (by decide) T.Jc6.bd T.Jb7 (Jjp (pv 6) Jjr)))) Jk3) ?_
   rotate_left
   refine' Jjs (Jlx (pv 0) (pv 1) rfl) ?_
   rotate_left
   refine' Jjs (Jlx (pv 0) (pv 2) rfl) ?_
   rotate_left
   refine' Jjs (Jlx (pv 0) (pv 3) rfl) ?_
   rotate_left
   refine' Jjs (Jlx (pv 0) (pv 4) rfl) ?_
   rotate_left
   refine' Jjs (Jlx (pv 0) (pv 5) rfl) ?_
   rotate_left
   exact (Jjt (Jlx (pv 0) (pv 6) rfl))
  refine ⟨_,rfl,n,rfl,nm,λH1 s1=>⟨_,rfl,?_⟩⟩;cases du with
  |name e=>
   rw [e];exact Jm7 (Jmc T.Jcs T.Jdt rfl λe dx h1 h2 h3=>k _ _ _ ((RfC.new h1 h2 h3).of s1))
  |low e1 e2=>
   rw [e1];exact Jkt ⟨_,rfl,lo,0,12,rfl,tlo.same s1,.inr ⟨e2,λc eo H' rf=>k c eo H' (rf.of s1)⟩⟩
  |high l e1 e2 e3 e4=>
   subst e2;rw [e1];refine Jkt ⟨_,rfl,_,0,12,rfl,tlo.same s1,.inl ⟨e3,?_⟩⟩;exact ⟨_,rfl,_,rfl,hi,l,12,rfl,thi.same s1,.inr ⟨e4,λc eo H' rf=>k c eo H' (rf.of s1)⟩⟩
  |start l h e1 e2 e3 e4 e5 e6=>
   subst e2 e3;rw [e1];refine Jkt ⟨_,rfl,_,0,12,rfl,tlo.same s1,.inl ⟨e4,?_⟩⟩;refine ⟨_,rfl,_,rfl,_,l,12,rfl,thi.same s1,.inl ⟨e5,?_⟩⟩;exact ⟨_,rfl,_,rfl,_,rfl,st,l,h,rfl,tst.same s1,.inr ⟨e6,λc eo H' rf=>k c eo H' (rf.of s1)⟩⟩
  |rain l h e1 e2 e3 e4 e5 e6 e7=>
   subst e2 e3;rw [e1];refine Jkt ⟨_,rfl,_,0,12,rfl,tlo.same s1,.inl ⟨e4,?_⟩⟩;refine ⟨_,rfl,_,rfl,_,l,12,rfl,thi.same s1,.inl ⟨e5,?_⟩⟩;refine ⟨_,rfl,_,rfl,_,rfl,st,l,h,rfl,tst.same s1,.inl ⟨e6,?_⟩⟩;exact ⟨_,rfl,rn,0,6,rfl,trn.same s1,.inr ⟨e7,λc eo H' rf=>k c eo H' (rf.of s1)⟩⟩
  |gate l h e1 e2 e3 e4 e5 e6 e7 e8=>
   subst e2 e3 e8;obtain ⟨t,ty,g1,g2,g3⟩:=gt;rw [e1];refine Jkt ⟨_,rfl,_,0,12,rfl,tlo.same s1,.inl ⟨e4,?_⟩⟩;refine ⟨_,rfl,_,rfl,_,l,12,rfl,thi.same s1,.inl ⟨e5,?_⟩⟩;refine ⟨_,rfl,_,rfl,_,rfl,st,l,h,rfl,tst.same s1,.inl ⟨e6,?_⟩⟩;refine ⟨_,rfl,rn,0,6,rfl,trn.same s1,.inl ⟨e7,?_⟩⟩;exact ⟨_,rfl,g,_,_,t,_,rfl,rfl,Jwb s1 ty,g1,_,rfl,Jm7 (Jmc T.Jct T.Jdu rfl λe dx h1 h2 h3=>k _ _ _ ((RfC.new h1 h2 h3).of s1))⟩
  |good l h e1 e2 e3 e4 e5 e6 e7 e8=>
   subst e2 e3 e8;obtain ⟨t,ty,g1,g2,g3⟩:=gt;rw [e1];refine Jkt ⟨_,rfl,_,0,12,rfl,tlo.same s1,.inl ⟨e4,?_⟩⟩;refine ⟨_,rfl,_,rfl,_,l,12,rfl,thi.same s1,.inl ⟨e5,?_⟩⟩;refine ⟨_,rfl,_,rfl,_,rfl,st,l,h,rfl,tst.same s1,.inl ⟨e6,?_⟩⟩;refine ⟨_,rfl,rn,0,6,rfl,trn.same s1,.inl ⟨e7,?_⟩⟩;refine ⟨_,rfl,g,_,_,t,_,rfl,rfl,Jwb s1 ty,g1,_,rfl,Jkt ?_⟩;refine ⟨_,rfl,_,rfl,p,_,dx,[],rfl,s1 _ _ hp,T.Jdk,T.Je1,by simp,?_⟩;rw [show Jm4 "name" n []=([("name",n)]:List (Str×V)) from rfl];refine ⟨_,rfl,_,rfl,p,_,dx,_,rfl,Jjq,T.Jdk,T.Je2,by simp,?_⟩;rw [show Jm4 "low" (.int l) [("name",n)]=([("name",n),("low",(.int l))]:List (Str×V)) from Jlt (fs:=[("name",n)]) (show (["name"]:List Str).contains "low" =false by decide +kernel)];refine ⟨_,rfl,_,rfl,p,_,dx,_,rfl,Jjq,T.Jdk,T.Je3,by simp,?_⟩;rw [show Jm4 "high" (.int h) [("name",n),("low",.int l)]=([("name",n),("low",.int l),("high",(.int h))]:List (Str×V)) from Jlt (fs:=[("name",n),("low",.int l)]) (show (["name","low"]:List Str).contains "high" =false by decide +kernel)];refine ⟨_,rfl,_,rfl,p,_,dx,_,rfl,Jjq,T.Jdk,T.Je4,by simp,?_⟩;rw [show Jm4 "start" st [("name",n),("low",.int l),("high",.int h)]=([("name",n),("low",.int l),("high",.int h),("start",st)]:List (Str×V)) from Jlt (fs:=[("name",n),("low",.int l),("high",.int h)]) (show (["name","low","high"]:List Str).contains "start" =false by decide +kernel)];refine ⟨_,rfl,_,rfl,p,_,dx,_,rfl,Jjq,T.Jdk,T.Je5,by simp,?_⟩;rw [show Jm4 "rain" rn [("name",n),("low",.int l),("high",.int h),("start",st)]=([("name",n),("low",.int l),("high",.int h),("start",st),("rain",rn)]:List (Str×V)) from Jlt (fs:=[("name",n),("low",.int l),("high",.int h),("start",st)]) (show (["name","low","high","start"]:List Str).contains "rain" =false by decide +kernel)];refine ⟨_,rfl,_,rfl,p,_,dx,_,rfl,Jjq,T.Jdk,T.Je6,by simp,?_⟩;rw [show Jm4 "gate" g [("name",n),("low",.int l),("high",.int h),("start",st),("rain",rn)]=([("name",n),("low",.int l),("high",.int h),("start",st),("rain",rn),("gate",g)]:List (Str×V)) from Jlt (fs:=[("name",n),("low",.int l),("high",.int h),("start",st),("rain",rn)]) (show (["name","low","high","start","rain"]:List Str).contains "gate" =false by decide +kernel)];show Q .non _;simp only [Jmq];exact k _ s1
theorem Jrj:Jk0 ["self","name","basin","want"] ["self","name","basin","want"] (Jju (Jk8 (top 64) 0)):=%[|0]
theorem Jvq (T:Tx K mg a):FnOk P w K mg base (CXX P w) 4 a.Jhi a.Jhj ["self","name","basin","want"] (spTown K a):=by
 have G_is_name:=%[Jsy|1];have G_is_whole:=%[Jli|1];have G_NoName___init__:=%[Joi|1];have G_NoTown___init__:=%[Jsx|1];refine %[T.Jcp.fn.okX,Jrj|2]
 ·obtain ⟨p,dx,n,b,wt,d,rfl,_⟩:=h;rfl
 ·obtain ⟨p,dx,n,b,wt,d,rfl,hp,nm,nb,tw,du,k⟩:=h;refine ⟨?t,?B,?C⟩
  case B=>
   refine' Jjs (Jkd (Jkh (Jkf (Jjw T.J2 G_is_name hr (by decide) (Jjp (pv 1) Jjr)))) (Jjt (Jkv Jkz rfl (Jlj T.Jcs G_NoName___init__ hr (by decide) T.Jc5.bd T.Jb6 (Jjp (pv 1) Jjr)))) Jk3) ?_
   rotate_left
   refine' Jjs (Jkd (Jkh (Jkf (Jjw T.J2 G_is_name hr (by decide) (Jjp (pv 2) Jjr)))) (Jjt (Jkv Jkz rfl (Jlj T.Jcs G_NoName___init__ hr (by decide) T.Jc5.bd T.Jb6 (Jjp (pv 2) Jjr)))) Jk3) ?_
   rotate_left
   refine' Jjs (Jkd (Jkh (Jkf (Jjw T.J0 G_is_whole hr (by decide) (Jjp (pv 3) (Jjp Jjv (Jjp (Jlc (by rfl) T.Jak (v:=.int 6) ⟨_,rfl⟩) Jjr)))))) (Jjt (Jkv Jkz rfl (Jlj T.Jcv G_NoTown___init__ hr (by decide) T.Jc8.bd T.Jb9 (Jjp (pv 3) Jjr)))) Jk3) ?_
   rotate_left
   refine' Jjs (Jlx (pv 0) (pv 1) rfl) ?_
   rotate_left
   refine' Jjs (Jlx (pv 0) (pv 2) rfl) ?_
   rotate_left
   exact (Jjt (Jlx (pv 0) (pv 3) rfl))
  refine ⟨_,rfl,n,rfl,nm,λH1 s1=>⟨_,rfl,?_⟩⟩;cases du with
  |name e=>
   rw [e];exact Jm7 (Jmc T.Jcs T.Jdt rfl λe dx h1 h2 h3=>k _ _ _ ((RfC.new h1 h2 h3).of s1))
  |basin e1 e2=>
   rw [e1];refine Jkt ⟨_,rfl,b,rfl,nb.same s1,λH2 s2=>⟨_,rfl,?_⟩⟩;rw [e2];exact Jm7 (Jmc T.Jcs T.Jdt rfl λe dx h1 h2 h3=>k _ _ _ ((RfC.new h1 h2 h3).of (s1.trans s2)))
  |want e1 e2 e3=>
   rw [e1];refine Jkt ⟨_,rfl,b,rfl,nb.same s1,λH2 s2=>⟨_,rfl,?_⟩⟩;rw [e2];refine Jkt ⟨_,rfl,wt,1,6,rfl,tw.same (s1.trans s2),_,rfl,?_⟩;rw [e3];exact Jm7 (Jmc T.Jcv T.Jdw rfl λe dx h1 h2 h3=>k _ _ _ ((RfC.new h1 h2 h3).of (s1.trans s2)))
  |good e1 e2 e3=>
   rw [e1];refine Jkt ⟨_,rfl,b,rfl,nb.same s1,λH2 s2=>⟨_,rfl,?_⟩⟩;rw [e2];refine Jkt ⟨_,rfl,wt,1,6,rfl,tw.same (s1.trans s2),_,rfl,?_⟩;rw [e3];refine Jkt ⟨_,rfl,_,rfl,p,_,dx,[],rfl,s2 _ _ (s1 _ _ hp),T.Jdn,T.Je7,by simp,?_⟩;rw [show Jm4 "name" n []=([("name",n)]:List (Str×V)) from rfl];refine ⟨_,rfl,_,rfl,p,_,dx,_,rfl,Jjq,T.Jdn,T.Je8,by simp,?_⟩;rw [show Jm4 "basin" b [("name",n)]=([("name",n),("basin",b)]:List (Str×V)) from Jlt (fs:=[("name",n)]) (show (["name"]:List Str).contains "basin" =false by decide +kernel)];refine ⟨_,rfl,_,rfl,p,_,dx,_,rfl,Jjq,T.Jdn,T.Je9,by simp,?_⟩;rw [show Jm4 "want" wt [("name",n),("basin",b)]=([("name",n),("basin",b),("want",wt)]:List (Str×V)) from Jlt (fs:=[("name",n),("basin",b)]) (show (["name","basin"]:List Str).contains "want" =false by decide +kernel)];show Q .non _;simp only [Jmq];exact k _ (s1.trans s2)
theorem Jrv:∀(ns:List Int) (lo m n:Int),Jkx lo (ns.map V.int)=true->ns.getLast?=some m->m+1<=n->n<=12->Jkx lo ((ns++ [n]).map V.int)=true
 | [],_,_,_,_,h,_,_=>by simp at h
 | [x],lo,m,n,h,hl,h1,h2=>by
  have e:x=m:=by simpa using hl
  subst e;simp [Jkx] at h⊢;omega
 |x::y::r,lo,m,n,h,hl,h1,h2=>by
  have hl':(y::r).getLast?=some m:=by simpa using hl
  have h':((decide (lo<=x)&&decide (x<=12))&&Jkx (x+1) ((y::r).map V.int))=true:=h;rw [yag] at h';have ih:=Jrv (y::r) (x+1) m n h'.2 hl' h1 h2;show ((decide (lo<=x)&&decide (x<=12))&&Jkx (x+1) (((y::r)++ [n]).map V.int))=true;rw [h'.1,ih];rfl
theorem Jru:∀(ns:List Int) (lo m:Int),Jkx lo (ns.map V.int)=true->ns.getLast?=some m->lo<=m/\m<=12
 | [],_,_,_,h=>by simp at h
 | [x],lo,m,h,hl=>by
  have e:x=m:=by simpa using hl
  subst e;simpa [Jkx] using h
 |x::y::r,lo,m,h,hl=>by
  have hl':(y::r).getLast?=some m:=by simpa using hl
  have h':((decide (lo<=x)&&decide (x<=12))&&Jkx (x+1) ((y::r).map V.int))=true:=h;rw [yag,yag,decide_eq_true_eq,decide_eq_true_eq] at h';have ih:=Jru (y::r) (x+1) m h'.2 hl';omega
theorem Jqi {ns:List Int} {m:Int} (h:ns.getLast?=some m):atI (ns.map V.int) (-1)=some (.int m):=by
 have hl:1<=ns.length:=by cases ns <;> simp at h⊢
 have e:ixN (ns.map V.int).length (-1)=some (ns.length - 1):=by
  unfold ixN;rw [yf,if_neg (by decide),if_pos (by omega)];congr 1;omega
 unfold atI;rw [e];show (ns.map V.int)[ns.length - 1]?=some (.int m);rw [ym,<-List.getLast?_eq_getElem?,h];rfl
noncomputable def Ye5:Sp:=λvs H Q _=>∃(p:Addr) (lo:Int),vs= [.ref p,.int lo]/\Strm H p/\(lo=0\/lo=1)/\∀(l:Addr) (ns:List Int) (H':Hp),H l=none->But p H H'->H' l=some (.lst (ns.map V.int))->Jme lo (ns.map V.int)=true->Q (.ref l) H'
theorem sc_law_marks:Jk0 ["_law_stream_here","_law_least","_law_marks_here","_law_k"] ["_law_stream_here","_law_least"] (Jju (top 73)):=%[|0]
theorem Jvu (T:Tx K mg a):FnOk P w K mg base CX0 2 a.Ji0 a.Ji1 ["_law_stream_here","_law_least"] Ye5:=by
 have G__law_take:=%[Jlr|1];refine %[T.Jy.fn.ok,sc_law_marks|2]
 ·obtain ⟨p,lo,rfl,_⟩:=h;rfl
 ·obtain ⟨p,lo,rfl,st,hlo,k⟩:=h;refine ⟨_,(Jjs (Jk5 (i:=2) sc_law_marks.nd rfl (ye rfl) (Jl4 (Jjp (Jk7 Jkk (pv 1) (Jjw T.Jx G__law_take hr (by decide) (Jjp (pv 0) (Jjp (Jk7 Jln Jjv (pv 1)) Jjr)))) Jjr)))
   (Jjs (Jmn PassesOwn.never rfl (Jl6 (by rfl) T.Jaz (Jjp (Jjw T.Jx G__law_take hr (by decide) (Jjp (pv 0) (Jjp Jjv Jjr))) Jjr)) (Jk2 (i:=3) sc_law_marks.nd rfl (ye rfl)) (Jjt (Jkd (Jke Jzi (Jk9 Jki (pv 2) (Jx9 Jtk Jjv) (λ_ _=>rfl)) Jjv (Jkg _)) (Jjt (Jlq (Juz F.plainAttrs_list F.slot_list_append F.type_list_append Jmk (pv 2) (Jjp (Jk7 Jkk (Jk7 Jkk (Jk9 Jki (pv 2) (Jx9 Jtk Jjv) (λ_ _=>rfl)) Jjv) (Jjw T.Jx G__law_take hr (by decide) (Jjp (pv 0) (Jjp (Jk7 Jln Jjv (Jk9 Jki (pv 2) (Jx9 Jtk Jjv) (λ_ _=>rfl))) Jjr)))) Jjr)))) Jk3)))
   (Jjt (Jk1 (pv 2))))),?_⟩
  have hm:(0:Int) < 13 - lo/\(13 - lo).natAbs.log2 < 9000:=by rcases hlo with rfl|rfl <;> decide
  refine ⟨_,rfl,_,rfl,_,rfl,_,_,rfl,rfl,p,13 - lo,rfl,st,hm.1,hm.2,λr H1 r0 r1 b1=>⟨_,_,rfl,rfl,(show 1<=sizeLine by decide),λl hl=>?_⟩⟩;have hl0:H l=none:=But.free st b1 hl;have nlp:l≠p:=st.ne hl0;have b1':But p H (upd H1 l (.lst [.int (lo+r)])):=b1.updD hl0 nlp;refine ⟨_,rfl,p,4,rfl,b1'.2,by decide,by decide,λj H2 j0 j1 b2=>⟨j,rfl,by omega,by omega,?_⟩⟩;refine Jmy (λi σ H'=>∃(o:Option V) (ns:List Int) (m:Int),σ= [some (.ref p),some (.int lo),some (.ref l),o]/\But p H H'/\H' l=some (.lst (ns.map V.int))/\Jkx lo (ns.map V.int)=true/\ns.getLast?=some m/\ns.length<=i+1)
   ⟨_,[lo+r],lo+r,rfl,b1'.trans b2,b2.1 _ _ nlp Jjq,?_,rfl,by simp⟩ ?_ ?_
  ·simp [Jkx];omega
  ·rintro i σ H3 hi ⟨o,ns,m,rfl,b3,h3,hmk,hla,hle⟩;have hb:=Jru ns lo m hmk hla;refine ⟨_,rfl,_,rfl,l,_,-1,_,rfl,rfl,SqL.of h3,Jqi hla,_,_,rfl,rfl,_,rfl,Jnu (λq=>?_) (λq=>?_)⟩
   ·have q':m < 12:=of_decide_eq_true q;refine ⟨_,rfl,.inl ⟨rfl,_,SqL.of h3⟩,_,rfl,_,rfl,l,_,-1,_,rfl,rfl,SqL.of h3,Jqi hla,_,_,rfl,rfl,_,rfl,_,rfl,_,rfl,l,_,-1,_,rfl,rfl,SqL.of h3,Jqi hla,_,_,rfl,rfl,p,12 - m,rfl,b3.2,by omega,?_,λr' H4 s0 s1 b4=>?_⟩
    ·have:(12 - m).natAbs<=12:=by rcases hlo with rfl|rfl <;> omega
     exact ycm (Nat.log2_le_self _) (by omega)
    ·have h4:=b4.1 _ _ nlp h3;refine ⟨_,_,rfl,rfl,l,_,_,rfl,rfl,h4,by rw [yf];exact Jkc (by omega),?_⟩;refine ⟨_,ns++ [m+1+r'],m+1+r',rfl,?_,?_,Jrv ns lo m _ hmk hla (by omega) (by omega),by simp,by simp;omega⟩
     ·refine ⟨λb o nb e=>?_,?_⟩
      ·rw [Jjx (Jjy e hl0)];exact b4.1 _ _ nb (b3.1 _ _ nb e)
      ·obtain ⟨x,y,z,q⟩:=b4.2;exact ⟨x,y,z,by rw [Jjx (yk nlp)];exact q⟩
     ·rw [Jjq];simp
   ·exact ⟨_,ns,m,rfl,b3,h3,hmk,hla,by omega⟩
  ·rintro σ H3 ⟨o,ns,m,rfl,b3,h3,hmk,hla,hle⟩;refine ⟨_,rfl,k l ns H3 hl0 b3 h3 ?_⟩;have hn:1<=ns.length:=by cases ns <;> simp at hla⊢
   unfold Jme;rw [hmk,Bool.and_true,yf];exact decide_eq_true (by omega)
structure Jna where
 kd:Str
 ns:List Int
 sv:Option Int
structure GGood (G:Jna):Prop where
 kd:Knd G.kd
 ns:Jme (Jmv G.kd) (G.ns.map V.int)=true
 sv:∀i,G.sv=some i->0<=i/\i < G.ns.length
theorem GGood.len {G:Jna} (h:GGood G):1<=G.ns.length/\G.ns.length<=4:=by
 have q:=h.ns;unfold Jme at q;rw [yag,decide_eq_true_eq,yf] at q;exact q.1
noncomputable def nOf (G:Jna):Nat:=match G.sv with
 |some _=>1
 |none=>G.ns.length
noncomputable def GX (a:Ad) (H:Hp) (x:V) (G:Jna):Prop:=∃(g:Addr),GateAt (cOf a G.kd) H g (G.ns.map V.int)/\match G.sv with
 |none=>x= .ref g
 |some _=>False
theorem GX.same {a:Ad} {H H':Hp} {x:V} {G:Jna} (s:Same H H') (h:GX a H x G):GX a H' x G:=by
 obtain ⟨g,ga,r⟩:=h;refine ⟨g,ga.same s,?_⟩;cases e:G.sv with
 |none=>rw [e] at r;exact r
 |some j=>
  rw [e] at r;exact r.elim
theorem GX.gs {K:W.Frag} {a:Ad} {H:Hp} {x:V} {G:Jna} (gg:GGood G) (h:GX a H x G):GS K a H x (nOf G):=by
 obtain ⟨g,ga,r⟩:=h;unfold nOf;cases e:G.sv with
 |none=>
  rw [e] at r;subst r;have q:=GS.plain (K:=K) cOf_is ga (by rw [yf];exact gg.len.2);rw [yf] at q;exact q
 |some j=>
  rw [e] at r;exact r.elim
theorem Yb4 {i:Int} (h:i.natAbs<=1000):i.natAbs.log2 < 9000:=ycm (Nat.log2_le_self _) (by omega)
theorem ifF {b:Bool} {A B:Prop} (h:b=false) (k:B):if b=true then A else B:=by rw [h];exact Jkt k
theorem ifT {b:Bool} {A B:Prop} (h:b=true) (k:A):if b=true then A else B:=by rw [h];exact Jm7 k
theorem Jw8 {H:Hp} {ns:List Int} {y:V} (h:y∈ns.map V.int):Tm K H y:=by
 obtain ⟨i,_,rfl⟩:=ybd.mp h;exact .inl ⟨i,rfl⟩
theorem Jsm {C:Addr} {lo:Int} {x:V} {H:Hp} {Q1:Hp->Prop} {E:XK} {g dx:Addr} (c:Cls K C) (n:NoAttr K C "marks") (hg:H g=none) (hd:H dx=none) (ne:dx≠g)
  (h:∃xs,Sq H x xs/\(∀y∈xs,Tm K H y)/\Jme lo xs=true/\∀H',Same H H'->GateAt C H' g xs->Q1 H'):
  Jw7 K a lo [.ref g,x] (upd (upd H dx (.own g)) g (.ins C dx [])) (λv H2=>v= .non/\Q1 H2) E:=by
 have s1:Same H (upd (upd H dx (.own g)) g (.ins C dx [])):=λb o e=>by rw [Jjx (Jjy e hg),Jjx (Jjy e hd)];exact e
 refine ⟨g,C,dx,x,rfl,Jjq,c,n,?_⟩;obtain ⟨xs,sq,tms,e,k⟩:=h;refine .inl ⟨xs,sq.same s1,λy hy=>(tms y hy).same s1,e,λt H' s' ht=>⟨rfl,?_⟩⟩;have ng:t≠g:=ne_of ht (s' _ _ Jjq) (by intro z;cases z);exact k _ (λb o e=>by rw [Jjx (Jjy e hg)];exact s' _ _ (s1 _ _ e)) ⟨dx,t,Jjq,by rw [Jjx ng];exact ht⟩
noncomputable def Joq (kd:Str) (m lv:Int):Int:=if kd=("step" :Str) then (if lv < m then lv else m) else if kd=("flap" :Str) then (if 0 > lv - m then 0 else lv - m) else lv/m
noncomputable def lvG (G:Jna) (s lv:Int):Int:=Joq G.kd (G.ns.getD (match G.sv with|some j=>j|none=>s).toNat 0) lv
noncomputable def Jyu (C:Addr) (lo:Int) (f:Int->Int->Int):Sp:=λvs H Q _=>∃(g:Addr) (ns:List Int) (s lv:Int),vs= [.ref g,.int s,.int lv]/\GateAt C H g (ns.map V.int)/\(0<=s/\s < ns.length)/\(∀n∈ns,lo<=n/\n<=12)/\(0<=lv/\lv<=1000)/\Q (.int (f (ns.getD s.toNat 0) lv)) H
theorem Jnd {ns:List Int} {s:Int} (h:0<=s/\s < ns.length):atI (ns.map V.int) s=some (.int (ns.getD s.toNat 0))/\ns.getD s.toNat 0∈ns:=by
 obtain ⟨i,rfl⟩:=yct h.1;have hi:i < ns.length:=by omega
 have e:ns.getD (i:Int).toNat 0=ns[i]:=by simp [yy,hi]
 rw [e];exact ⟨Jze hi,ybu hi⟩
theorem Jqe:Jk0 ["self","setting","level"] ["self","setting","level"] (Jju (Jk8 (top 52) 2)):=%[|0]
theorem Jq1 (T:Tx K mg a):FnOk P w K mg base CX0 1 a.Jh0 a.Jh1 ["self","setting","level"] (Jyu a.Jjf 0 λm lv=>if lv < m then lv else m):=by
 refine %[T.Jch.fn.ok,Jqe|2]
 ·obtain ⟨g,ns,s,lv,rfl,_⟩:=h;rfl
 ·obtain ⟨g,ns,s,lv,rfl,⟨dx,t,hg,ht⟩,hs,hn,hl,k⟩:=h;obtain ⟨hat,hin⟩:=Jnd hs;refine ⟨?t,?B,?C⟩
  case B=>
   refine' Jjt ?s1
   case s1=>
    exact (Jk1 (Jjz (Jm5 rfl) (by rfl) T.Jay Jo7 (Jjp (Jk9 Jku (Jky (pv 0) (by rfl)) (pv 1) (λ_ _=>rfl)) (Jjp (pv 2) Jjr))))
  exact ⟨_,rfl,g,_,dx,_,_,rfl,hg,T.Jd2,T.Jdy,rfl,_,rfl,t,_,_,_,rfl,rfl,SqT.of ht,hat,_,rfl,_,_,rfl,k⟩
theorem Jq8:Jk0 ["self","setting","level"] ["self","setting","level"] (Jju (Jk8 (top 53) 2)):=%[|0]
theorem Jpy (T:Tx K mg a):FnOk P w K mg base CX0 1 a.Jh6 a.Jh7 ["self","setting","level"] (Jyu a.Jjg 0 λm lv=>if 0 > lv - m then 0 else lv - m):=by
 refine %[T.Jck.fn.ok,Jq8|2]
 ·obtain ⟨g,ns,s,lv,rfl,_⟩:=h;rfl
 ·obtain ⟨g,ns,s,lv,rfl,⟨dx,t,hg,ht⟩,hs,hn,hl,k⟩:=h;obtain ⟨hat,hin⟩:=Jnd hs;refine ⟨?t,?B,?C⟩
  case B=>
   refine' Jjt ?s1
   case s1=>
    exact (Jk1 (Jjz (Jmh rfl) (by rfl) T.Jax Jpt (Jjp (Jk7 Jln (pv 2) (Jk9 Jku (Jky (pv 0) (by rfl)) (pv 1) (λ_ _=>rfl))) (Jjp Jjv Jjr))))
  exact ⟨_,rfl,_,rfl,g,_,dx,_,_,rfl,hg,T.Jd8,T.Jdz,rfl,_,rfl,t,_,_,_,rfl,rfl,SqT.of ht,hat,_,_,rfl,rfl,_,_,rfl,k⟩
theorem Jqc:Jk0 ["self","setting","level"] ["self","setting","level"] (Jju (Jk8 (top 54) 2)):=%[|0]
theorem Jq0 (T:Tx K mg a):FnOk P w K mg base CX0 1 a.Jhc a.Jhd ["self","setting","level"] (Jyu a.Jjh 1 λm lv=>lv/m):=by
 refine %[T.Jcn.fn.ok,Jqc|2]
 ·obtain ⟨g,ns,s,lv,rfl,_⟩:=h;rfl
 ·obtain ⟨g,ns,s,lv,rfl,⟨dx,t,hg,ht⟩,hs,hn,hl,k⟩:=h;obtain ⟨hat,hin⟩:=Jnd hs;refine ⟨?t,?B,?C⟩
  case B=>
   refine' Jjt ?s1
   case s1=>
    exact (Jk1 (Jk7 Jop (pv 2) (Jk9 Jku (Jky (pv 0) (by rfl)) (pv 1) (λ_ _=>rfl))))
  have hm:=hn _ hin;refine ⟨_,rfl,_,rfl,g,_,dx,_,_,rfl,hg,T.Jde,T.Je0,rfl,_,rfl,t,_,_,_,rfl,rfl,SqT.of ht,hat,?_⟩;exact ⟨_,_,rfl,rfl,⟨by omega,Yb4 (by omega)⟩,k⟩
theorem Jut:∀{ns:List Int} {lo:Int},Jkx lo (ns.map V.int)=true->∀n∈ns,lo<=n/\n<=12
 | [],_,_=>λ_ h=>nomatch h
 |x::r,lo,h=>by
  have h':((decide (lo<=x)&&decide (x<=12))&&Jkx (x+1) (r.map V.int))=true:=h;rw [yag,yag,decide_eq_true_eq,decide_eq_true_eq] at h';intro n hn;rcases yo.mp hn with rfl|hn
  ·exact h'.1
  ·have:=Jut h'.2 n hn;omega
theorem GGood.marks {G:Jna} (h:GGood G):∀n∈G.ns,Jmv G.kd<=n/\n<=12:=by
 have q:(decide (1<=(G.ns.map V.int).length/\(G.ns.map V.int).length<=4)&&Jkx (Jmv G.kd) (G.ns.map V.int))=true:=h.ns;rw [yag] at q;exact Jut q.2
theorem Jx8 {H:Hp} {g:Addr} {kd:Str} {ns:List Int} {s lv:Int} {Q:VK} (T:Tx K mg a) (hk:Knd kd) (ga:GateAt (cOf a kd) H g (ns.map V.int)) (hs:0<=s/\s < ns.length) (hn:∀n∈ns,Jmv kd<=n/\n<=12) (hl:0<=lv/\lv<=1000) (k:Q (.int (Joq kd (ns.getD s.toNat 0) lv)) H):
  ∃C dx fs f fd ps sp,H g=some (.ins C dx fs)/\fs.lookup ("passes" :Str)=none/\Cls K C/\Jp8 K C "passes" f/\FnOk P w K mg base CX0 1 f fd ps sp/\Binds K fd ps []/\sp [.ref g,.int s,.int lv] H Q E0:=by
 obtain ⟨dx,t,h1,h2⟩:=id ga;rcases hk with rfl|rfl|rfl
 ·have e2:cOf a "step" =a.Jjf:=if_pos rfl;rw [e2] at h1 ga;exact ⟨_,dx,_,_,_,_,_,h1,rfl,T.Jd2,T.Jd7,Jq1 T,T.Jch.bd,g,ns,s,lv,rfl,ga,hs,hn,hl,k⟩
 ·have e2:cOf a "flap" =a.Jjg:=by unfold cOf;rw [if_neg Jst,if_pos rfl]
  rw [e2] at h1 ga;have ek:Joq "flap" (ns.getD s.toNat 0) lv=(if 0 > lv - ns.getD s.toNat 0 then 0 else lv - ns.getD s.toNat 0):=by unfold Joq;rw [if_neg Jst,if_pos rfl]
  rw [ek] at k;exact ⟨_,dx,_,_,_,_,_,h1,rfl,T.Jd8,T.Jdd,Jpy T,T.Jck.bd,g,ns,s,lv,rfl,ga,hs,hn,hl,k⟩
 ·have e2:cOf a "part" =a.Jjh:=by unfold cOf;rw [if_neg Juv,if_neg Juu]
  rw [e2] at h1 ga;have ek:Joq "part" (ns.getD s.toNat 0) lv=lv/ns.getD s.toNat 0:=by unfold Joq;rw [if_neg Juv,if_neg Juu]
  rw [ek] at k;exact ⟨_,dx,_,_,_,_,_,h1,rfl,T.Jde,T.Jdj,Jq0 T,T.Jcn.bd,g,ns,s,lv,rfl,ga,hs,hn,hl,k⟩
theorem GX.passes {H:Hp} {x:V} {G:Jna} {s lv:Int} {Q:VK} (T:Tx K mg a) (gg:GGood G) (gx:GX a H x G) (hs:0<=s/\s < (nOf G:Int)) (hl:0<=lv/\lv<=1000) (k:Q (.int (lvG G s lv)) H):
  ∃o C dx fs f fd ps sp k',x= .ref o/\H o=some (.ins C dx fs)/\fs.lookup ("passes" :Str)=none/\Cls K C/\Jp8 K C "passes" f/\FnOk P w K mg base CX0 k' f fd ps sp/\k'<=2/\Binds K fd ps []/\sp [x,.int s,.int lv] H Q E0:=by
 obtain ⟨g,ga,r⟩:=gx;unfold lvG at k;unfold nOf at hs;cases e:G.sv with
 |none=>
  rw [e] at r k hs;subst r;obtain ⟨C,dx',fs,f,fd,ps,sp,h1,h2,c,m,ok,bd,hsp⟩:=Jx8 (P:=P) (w:=w) (base:=base) (Q:=Q) T gg.kd ga hs gg.marks hl k;exact ⟨g,C,dx',fs,f,fd,ps,sp,1,rfl,h1,h2,c,m,ok,by decide,bd,hsp⟩
 |some j=>
  rw [e] at r;exact r.elim
noncomputable def Yc3 (a:Ad):Sp:=λvs H Q _=>∃(x:V) (G:Jna) (s lv:Int),vs= [x,.int s,.int lv]/\GX a H x G/\GGood G/\(0<=s/\s < (nOf G:Int))/\(0<=lv/\lv<=1000)/\Q (.int (lvG G s lv)) H
theorem Jox:Jk0 ["self","thing"] ["self","thing"] (Jju (Jk8 (top 10) 0)):=%[|0]
theorem Jml (T:Tx K mg a):FnOk P w K mg base CX0 1 a.Jf8 a.Jf9 ["self","thing"] (Jn8 K "thing"):=by
 refine %[T.Jcc.fn.ok,Jox|2]
 ·obtain ⟨e,C,W,fI,y,rfl,_⟩:=h;rfl
 ·obtain ⟨e,C,W,fI,y,rfl,q,c,n,k⟩:=h;refine ⟨_,(Jjt (Jmw (pv 0) (pv 1) rfl)),?_⟩;exact ⟨_,rfl,_,rfl,e,C,W,fI,true,rfl,q,c,n,k⟩
theorem Jw3:Jk0 ["self","setting","level"] ["self","setting","level"] (Jju (Jk8 (top 51) 0)):=%[|0]
theorem Jny (T:Tx K mg a):FnOk P w K mg base (CXX P w) 3 a.Jgu a.Jgv ["self","setting","level"] (Yc3 a):=by
 have G_is_whole:=%[Jli|1];have G_NoGate___init__:=%[Jn5|1];have G_NoNumber___init__:=%[Jml|1];refine %[T.Jce.fn.okX,Jw3|2]
 ·obtain ⟨x,G,s,lv,rfl,_⟩:=h;rfl
 ·obtain ⟨x,G,s,lv,rfl,gx,gg,hs,hl,k⟩:=h;refine ⟨?t,?B,?C⟩
  case B=>
   refine' Jjs ?s1 ?r1
   case s1=>
    refine' Jkd ?c2 ?a2 ?b2
    case c2=>
     exact (Jkh (Jkf (Jjw T.J0 G_is_whole hr (by decide) (Jjp (pv 1) (Jjp Jjv (Jjp (Jk7 Jln (Jp7 (pv 0) hr) Jjv) Jjr))))))
    case a2=>
     refine' Jjt ?s3
     case s3=>
      exact (Jkv Jkz rfl (Jlj T.Jct G_NoGate___init__ hr (by decide) T.Jc6.bd T.Jb7 (Jjp (pv 1) Jjr)))
    case b2=>
     exact Jk3
   case r1=>
    refine' Jjs ?s6 ?r6
    case s6=>
     refine' Jkd ?c7 ?a7 ?b7
     case c7=>
      exact (Jkh (Jkf (Jjw T.J0 G_is_whole hr (by decide) (Jjp (pv 2) (Jjp Jjv (Jjp (Jlc (by rfl) T.Jah (v:=.int 1000) ⟨_,rfl⟩) Jjr))))))
     case a7=>
      refine' Jjt ?s8
      case s8=>
       exact (Jkv Jkz rfl (Jlj T.Jcz G_NoNumber___init__ hr (by decide) T.Jcc.bd T.Jbd (Jjp (pv 2) Jjr)))
     case b7=>
      exact Jk3
    case r6=>
     refine' Jjt ?s11
     case s11=>
      exact (Jk1 (Jt4 (pv 0) hr (Jjp (pv 1) (Jjp (pv 2) Jjr))))
  have gs:GS K a H x (nOf G):=gx.gs gg;obtain ⟨o,C,dx',fs,f,fd,ps,sp,k',rfl,h1,h2,c,m,ok,hk,bd,hsp⟩:=gx.passes (P:=P) (w:=w) (base:=base) (Q:=Q) T gg hs hl k;refine ⟨_,rfl,_,rfl,Jpo T gs ⟨_,_,rfl,rfl,.int s,0,(nOf G:Int) - 1,rfl,.inl ⟨s,rfl⟩,_,rfl,ifF (by simp [Jkq];omega) ?_⟩ (by decide)⟩;refine ⟨_,rfl,.int lv,0,1000,rfl,.inl ⟨lv,rfl⟩,_,rfl,ifF (by simp [Jkq];omega) ?_⟩;exact ⟨_,rfl,o,C,dx',fs,f,fd,ps,sp,k',rfl,h1,h2,c,m,ok,hk,bd,_,rfl,_,rfl,hsp⟩
noncomputable def oV:Option Int->V
 |none=>.non
 |some i=>.int i
noncomputable def okE (lost:List (Option Int)):Option Int->Bool
 |none=>false
 |some i=>(lost.getD i.toNat none).isNone
noncomputable def Jxd (ends lost:List (Option Int)):Bool:=ends.all (okE lost)
noncomputable def spSafe:Sp:=λvs H Q _=>∃(L M:Addr) (ends lost:List (Option Int)),vs= [.ref L,.ref M]/\H L=some (.lst (ends.map oV))/\H M=some (.lst (lost.map oV))/\(∀i,some i∈ends->0<=i/\i < lost.length)/\ends.length<=100/\
 ∀H',Same H H'->Q (.bl (Jxd ends lost)) H'
noncomputable def spProm (K:W.Frag):Sp:=λvs H Q _=>∃x:V,vs= [x]/\Tm K H x/\Q (.bl (Jkq x 0 12)) H
noncomputable def Ybz (K:W.Frag):Sp:=λvs H Q _=>∃up hi:Int,vs= [.int up,.int hi]/\(0<=up/\up<=12)/\(0<=hi/\hi<=12)/\Q .non H
theorem Jvp (o:Option Int):decide (oV o= .non)=o.isNone:=by
 cases o with
 |none=>rfl
 |some z=>simp [oV]
theorem oV_at {l:List (Option Int)} {i:Int} (h:0<=i/\i < l.length):atI (l.map oV) i=some (oV (l.getD i.toNat none)):=by
 obtain ⟨k,rfl⟩:=yct h.1;have hk:k < l.length:=by omega
 refine Jl8 ?_;rw [ym,yn hk];simp [yy,hk]
theorem Jta:Jk0 ["thing"] ["thing"] (Jju (top 27)):=%[|0]
theorem Jom (T:Tx K mg a):FnOk P w K mg base CX0 2 a.Jfs a.Jft ["thing"] (spProm K):=by
 have G_is_whole:=%[Jli|1];refine %[T.J8.fn.ok,Jta|2]
 ·obtain ⟨x,rfl,_⟩:=h;rfl
 ·obtain ⟨x,rfl,tx,k⟩:=h;refine ⟨_,(Jjt (Jk1 (Jjw T.J0 G_is_whole hr (by decide) (Jjp (pv 0) (Jjp Jjv (Jjp (Jlc (by rfl) T.Jae (v:=.int 12) ⟨_,rfl⟩) Jjr)))))),?_⟩;exact ⟨_,rfl,x,0,12,rfl,tx,k⟩
theorem Jpf:Jk0 ["up","hi"] ["up","hi"] (Jju (top 28)):=%[|0]
theorem Jpa (T:Tx K mg a):FnOk P w K mg base (CXX P w) 3 a.Jfu a.Jfv ["up","hi"] (Ybz K):=by
 have G_is_promised:=%[Jom|1];have G_NoNumber___init__:=%[Jml|1];refine %[T.J9.fn.okX,Jpf|2]
 ·obtain ⟨up,hi,rfl,_⟩:=h;rfl
 ·obtain ⟨up,hi,rfl,h1,h2,k⟩:=h;refine ⟨?t,?B,?C⟩
  case B=>
   refine' Jjs ?s1 ?r1
   case s1=>
    refine' Jkd ?c2 ?a2 ?b2
    case c2=>
     exact (Jkh (Jkf (Jjw T.J8 G_is_promised hr (by decide) (Jjp (pv 0) Jjr))))
    case a2=>
     refine' Jjt ?s3
     case s3=>
      exact (Jkv Jkz rfl (Jlj T.Jcz G_NoNumber___init__ hr (by decide) T.Jcc.bd T.Jbd (Jjp (pv 0) Jjr)))
    case b2=>
     exact Jk3
   case r1=>
    refine' Jjt ?s6
    case s6=>
     refine' Jkd ?c7 ?a7 ?b7
     case c7=>
      exact (Jkh (Jkf (Jjw T.J8 G_is_promised hr (by decide) (Jjp (pv 1) Jjr))))
     case a7=>
      refine' Jjt ?s8
      case s8=>
       exact (Jkv Jkz rfl (Jlj T.Jcz G_NoNumber___init__ hr (by decide) T.Jcc.bd T.Jbd (Jjp (pv 1) Jjr)))
     case b7=>
      exact Jk3
  refine ⟨_,rfl,.int up,rfl,.inl ⟨up,rfl⟩,_,rfl,ifF (by simp [Jkq];omega) ?_⟩;exact ⟨_,rfl,.int hi,rfl,.inl ⟨hi,rfl⟩,_,rfl,ifF (by simp [Jkq];omega) k⟩
theorem Jyq:Jk0 ["ends","lost"] ["ends","lost"] (Jju (top 24)):=%[|0]
theorem Jsz (T:Tx K mg a):FnOk P w K mg base CX0 1 a.Jfq a.Jfr ["ends","lost"] spSafe:=by
 refine %[T.J7.fn.ok,Jyq|2]
 ·obtain ⟨L,M,ends,lost,rfl,_⟩:=h;rfl
 ·obtain ⟨L,M,ends,lost,rfl,hL,hM,hb,hn,k⟩:=h;refine ⟨_,(Jjt (Jk1 (Jjz (Jmz rfl) (by rfl) T.Jao Jpr (Jjp (Jkl (N:=(["end","lost"]:List Str)) (ini:=[none,some 1]) rfl (Jld (pv 0)) (λ_ _ _ _ _=>(Jk2 (i:=0) (by decide +kernel:(["end","lost"]:List Str).Nodup) rfl (ye rfl))) (λ_ _ _ _ _=>Jkp) (λ_ _ _ _ _=>(Jt2 (Jm1 Js8 (pv 0) Jls (Jkg _)) (Jt5 (Jm1 Jrh (Jk9 (Jn4 (K:=K) rfl) (pv 1) (pv 0) (λ_ _=>rfl)) Jls (Jkg _)))))) Jjr)))),?_⟩;refine ⟨_,rfl,L,rfl,⟨_,SqL.of hL⟩,λD hD=>?_⟩;refine Jn2 ((ends.map (okE lost)).map V.bl) hD (by simp) (by simp;omega) hL ?_ ?_
  ·intro i x y H' Q' hx hy sm k';rw [ym,yx] at hx hy;obtain ⟨e,he,rfl⟩:=hx;obtain ⟨c,hc,rfl⟩:=hy;rw [ym,he] at hc;obtain rfl:okE lost e=c:=by simpa using hc
   cases e with
   |none=>exact ⟨_,rfl,rfl,false,rfl,Jkt (k' _ (Same.refl _))⟩
   |some j=>
    have hj:=hb j (yaa he);refine ⟨_,rfl,rfl,true,rfl,Jm7 ?_⟩;refine ⟨_,rfl,_,rfl,M,_,j,_,rfl,rfl,SqL.of (sm _ _ hM),oV_at hj,rfl,?_⟩;rw [Jvp];exact k' _ (Same.refl _)
  ·intro H' sm hDs;refine ⟨D,ends.map (okE lost),rfl,SqL.of hDs,?_⟩;have e:(ends.map (okE lost)).all id=Jxd ends lost:=by
    unfold Jxd;rw [List.all_map];rfl
   rw [e];exact k _ sm
structure BTd where
 z:Str
 lo:Int
 hi:Int
 st:Int
 rn:Int
 G:Jna
structure BGd (B:BTd):Prop where
 lo:0<=B.lo/\B.lo<=B.hi
 hi:B.hi<=12
 rn:0<=B.rn/\B.rn<=6
 G:GGood B.G
noncomputable def BX (a:Ad) (H:Hp) (o:Addr) (B:BTd):Prop:=∃dx g,H o=some (.ins a.Jji dx (basF (.str B.z) (.int B.lo) (.int B.hi) (.int B.st) (.int B.rn) g))/\GX a H g B.G
theorem BX.same {a:Ad} {H H':Hp} {o:Addr} {B:BTd} (s:Same H H') (h:BX a H o B):BX a H' o B:=by obtain ⟨dx,g,h1,h2⟩:=h;exact ⟨dx,g,s _ _ h1,h2.same s⟩
noncomputable def Jsq (B:BTd):List Int:=(yt (B.hi+1 - B.lo).toNat).map λk:Nat=>B.lo+k
noncomputable def Jpk (B:BTd) (e:Int):Option Int:=if B.lo<=e/\e<=B.hi then some (e - B.lo) else none
noncomputable def Jmr (B:BTd) (up lv s:Int):List (Option Int):=(yt (up+B.rn+1).toNat).map λc:Nat=>Jpk B (lv - lvG B.G s lv+c)
noncomputable def Yc4 (a:Ad):Sp:=λvs H Q _=>∃(o:Addr) (B:BTd),vs= [.ref o]/\BX a H o B/\BGd B/\∀l H',Same H H'->H' l=some (.lst ((Jsq B).map V.int))->Q (.ref l) H'
noncomputable def spEnds (a:Ad):Sp:=λvs H Q _=>∃(o:Addr) (B:BTd) (up lv s:Int),vs= [.ref o,.int up,.int lv,.int s]/\BX a H o B/\BGd B/\(0<=up/\up<=12)/\(0<=lv/\lv<=12)/\(0<=s/\s < (nOf B.G:Int))/\
 ∀l H',Same H H'->H' l=some (.lst ((Jmr B up lv s).map oV))->Q (.ref l) H'
theorem GX.lets {H:Hp} {x:V} {G:Jna} {s lv:Int} (T:Tx K mg a) (gg:GGood G) (gx:GX a H x G) (hs:0<=s/\s < (nOf G:Int)) (hl:0<=lv/\lv<=1000):
  ∃o C dx fs f fd ps sp k',x= .ref o/\H o=some (.ins C dx fs)/\fs.lookup ("lets" :Str)=none/\Cls K C/\Jp8 K C "lets" f/\FnOk P w K mg base CX0 k' f fd ps sp/\k'<=3/\Binds K fd ps []/\∀Q:VK,Q (.int (lvG G s lv)) H->sp [x,.int s,.int lv] H Q E0:=by
 have sp:∀Q:VK,Q (.int (lvG G s lv)) H->Yc3 a [x,.int s,.int lv] H Q E0:=λQ k=>⟨x,G,s,lv,rfl,gx,gg,hs,hl,k⟩;obtain ⟨g,ga,r⟩:=gx;obtain ⟨dx,t,h1,h2⟩:=id ga;cases e:G.sv with
 |none=>
  rw [e] at r;subst r;rcases gg.kd with q|q|q
  ·rw [q,show cOf a "step" =a.Jjf from if_pos rfl] at h1;exact ⟨g,_,dx,_,_,_,_,_,3,rfl,h1,rfl,T.Jd2,T.Jd5,(Jny T).calm,by decide,T.Jce.bd,sp⟩
  ·rw [q,show cOf a "flap" =a.Jjg by unfold cOf;rw [if_neg Jst,if_pos rfl]] at h1;exact ⟨g,_,dx,_,_,_,_,_,3,rfl,h1,rfl,T.Jd8,T.Jdb,(Jny T).calm,by decide,T.Jce.bd,sp⟩
  ·rw [q,show cOf a "part" =a.Jjh by unfold cOf;rw [if_neg Juv,if_neg Juu]] at h1;exact ⟨g,_,dx,_,_,_,_,_,3,rfl,h1,rfl,T.Jde,T.Jdh,(Jny T).calm,by decide,T.Jce.bd,sp⟩
 |some j=>
  rw [e] at r;exact r.elim
theorem Jw4:Jk0 ["basin"] ["basin"] (Jju (top 29)):=%[|0]
theorem Jvw (T:Tx K mg a):FnOk P w K mg base CX0 1 a.Jfw a.Jfx ["basin"] (Yc4 a):=by
 refine %[T.Ja.fn.ok,Jw4|2]
 ·obtain ⟨o,B,rfl,_⟩:=h;rfl
 ·obtain ⟨o,B,rfl,⟨dx,g,ho,gx⟩,bg,k⟩:=h;have b1:=bg.lo;have b2:=bg.hi;refine ⟨_,(Jjt (Jk1 (Jko (Jto rfl) (by rfl) T.Jaw Jp3 (Jjp (Jko Jzw (by rfl) T.Jaz Yaf (Jjp (Jky (pv 0) (by rfl)) (Jjp (Jk7 Jkk (Jky (pv 0) (by rfl)) Jjv) Jjr))) Jjr)))),?_⟩;refine ⟨_,rfl,o,_,dx,_,_,rfl,ho,T.Jdk,T.Je2,rfl,_,rfl,o,_,dx,_,_,rfl,ho,T.Jdk,T.Je3,rfl,_,_,rfl,rfl,_,_,rfl,λp hp=>?_⟩;refine ⟨p,_,_,rfl,Jjq,by omega,by omega,by omega,by omega,λl hl=>?_⟩;refine k l _ ((Same.upd hp).trans (Same.upd hl)) ?_;rw [Jjq];unfold Jsq;rw [List.map_map];rfl
theorem sc_ends_alone:Jk0 ["basin","up","level","setting","left","ends"] ["basin","up","level","setting"] (Jju (top 30)):=%[|0]
theorem Jtv (T:Tx K mg a):FnOk P w K mg base CX0 4 a.Jfy a.Jfz ["basin","up","level","setting"] (spEnds a):=by
 refine %[T.Jb.fn.ok,sc_ends_alone|2]
 ·obtain ⟨o,B,up,lv,s,rfl,_⟩:=h;rfl
 ·obtain ⟨o,B,up,lv,s,rfl,bx,bg,hup,hlv,hs,k⟩:=h;obtain ⟨dx,g,ho,gx⟩:=id bx;have b1:=bg.lo;have b2:=bg.hi;have b3:=bg.rn;refine ⟨?t,?B,?C⟩
  case B=>
   refine' Jjs ?s1 ?r1
   case s1=>
    exact (Jk5 (i:=4) sc_ends_alone.nd rfl (Or.inr rfl) (Jk7 Jln (pv 2) (Jt4 (Jky (pv 0) (by rfl)) hr (Jjp (pv 3) (Jjp (pv 2) Jjr)))))
   case r1=>
    refine' Jjs ?s3 ?r3
    case s3=>
     exact (Jnz (i:=5) (N:=(["cubes","left"]:List Str)) (ini:=[none,some 4]) sc_ends_alone.nd rfl (ye rfl) rfl (Jl6 (by rfl) T.Jaz (Jjp (Jk7 Jkk (Jk7 Jkk (pv 1) (Jky (pv 0) (by rfl))) Jjv) Jjr)) (λ_ _ _ _ _=>(Jk2 (i:=0) (by decide +kernel:(["cubes","left"]:List Str).Nodup) rfl (ye rfl))) (λ_ _ _ _ _=>Jkp) (λ_ _ _ _ _=>(Jk7 Jkk (pv 1) (pv 0))))
    case r3=>
     refine' Jjt ?s5
     case s5=>
      exact (Jk1 (Jkl (N:=(["end","basin"]:List Str)) (ini:=[none,some 0]) rfl (Jld (pv 5)) (λ_ _ _ _ _=>(Jk2 (i:=0) (by decide +kernel:(["end","basin"]:List Str).Nodup) rfl (ye rfl))) (λ_ _ _ _ _=>Jkp) (λ_ _ _ _ _=>(Ybc (Jos Jn7 Jn7 (Jm2 (K:=K) rfl (pv 1) (by rfl)) (pv 0) (Jm2 (K:=K) rfl (pv 1) (by rfl))) (Jk7 Jln (pv 0) (Jm2 (K:=K) rfl (pv 1) (by rfl))) Jls))))
  obtain ⟨q,C,dxq,fs,f,fd,ps,sp,k',eq,h1,h2,c',m,ok,hk,bd,hsp⟩:=GX.lets (P:=P) (w:=w) (base:=base) T bg.G gx hs (show 0<=lv/\lv<=1000 by omega);refine ⟨_,rfl,_,rfl,o,_,dx,_,_,rfl,ho,T.Jdk,T.Je6,rfl,q,C,dxq,fs,f,fd,ps,sp,k',eq,h1,h2,c',m,ok,hk,bd,_,rfl,_,rfl,hsp _ ⟨_,_,rfl,rfl,?_⟩⟩;refine ⟨_,rfl,_,rfl,o,_,dx,_,_,rfl,ho,T.Jdk,T.Je5,rfl,_,_,rfl,rfl,_,_,rfl,rfl,_,rfl,by omega,by omega,λD hD=>?_⟩;refine Jm3 (lo:=0) (λi σ H'=>(∃o,σ= [o,some (.int (lv - lvG B.G s lv))])/\H' D=some (.lst ((yt i).map λc:Nat=>V.int (lv - lvG B.G s lv+c)))/\Same H H') ⟨⟨_,rfl⟩,Jjq,Same.upd hD⟩ ?_ ?_
  ·rintro i σ H' hi ⟨⟨o1,rfl⟩,hDs,sm⟩;refine Jl1 ⟨_,rfl,_,rfl,_,_,rfl,rfl,_,hDs,?_,⟨_,rfl⟩,?_,?_⟩
   ·rw [yf,yau];exact Jkc (by omega)
   ·rw [Jjq,ybr,yz];simp
   ·intro c u z;rw [Jjx (Jjy z hD)];exact sm _ _ z
  rintro σ1 H1 ⟨_,hDs,s1⟩;refine ⟨_,rfl,D,rfl,⟨_,SqL.of hDs⟩,λD2 hD2=>?_⟩;refine Jn2 ((Jmr B up lv s).map oV) hD2 (by simp [Jmr]) (by simp;omega) hDs ?_ ?_
  ·intro i x y H' Q' hx hy sm k';have lt:i < (up+B.rn+1).toNat:=by
    have:=(yq.mp hx).1;simpa using this
   have ex:x= .int (lv - lvG B.G s lv+i):=by
    have:(List.map (λc:Nat=>V.int (lv - lvG B.G s lv+c)) (yt (up+B.rn+1).toNat))[i]?=some (V.int (lv - lvG B.G s lv+i)):=by simp [lt]
    rw [this] at hx;exact (yae.inj hx).symm
   have ey:y=oV (Jpk B (lv - lvG B.G s lv+i)):=by
    have:((Jmr B up lv s).map oV)[i]?=some (oV (Jpk B (lv - lvG B.G s lv+i))):=by unfold Jmr;simp [lt]
    rw [this] at hy;exact (yae.inj hy).symm
   subst ex ey;have ho':=sm _ _ (s1 _ _ ho);refine ⟨_,rfl,o,_,dx,_,_,rfl,ho',T.Jdk,T.Je2,rfl,_,rfl,_,_,rfl,rfl,_,rfl,?_⟩;refine Jnu (λc1=>?_) (λc1=>?_)
   ·have c1':=of_decide_eq_true c1;refine ⟨_,rfl,o,_,dx,_,_,rfl,ho',T.Jdk,T.Je3,rfl,_,_,rfl,rfl,_,rfl,Jnu (λc2=>?_) (λc2=>?_)⟩
    ·have c2':=of_decide_eq_true c2;refine ⟨_,rfl,_,rfl,o,_,dx,_,_,rfl,ho',T.Jdk,T.Je2,rfl,_,_,rfl,rfl,?_⟩;have e:Jpk B (lv - lvG B.G s lv+i)=some (lv - lvG B.G s lv+i - B.lo):=if_pos ⟨c1',c2'⟩;rw [e] at k';exact k' _ (Same.refl _)
    ·have c2':=λz=>c2 (decide_eq_true z);have e:Jpk B (lv - lvG B.G s lv+i)=none:=if_neg λz=>c2' z.2;rw [e] at k';exact k' _ (Same.refl _)
   ·have c1':=λz=>c1 (decide_eq_true z);have e:Jpk B (lv - lvG B.G s lv+i)=none:=if_neg λz=>c1' z.1;rw [e] at k';exact ⟨_,rfl,Jkt (k' _ (Same.refl _))⟩
  ·intro H' sm hDs2;exact k D2 H' (s1.trans sm) hDs2
noncomputable def usable (B:BTd) (hi lv:Int):List Int:=((yt (nOf B.G)).map λk:Nat=>(k:Int)).filter λs=>decide (lvG B.G s lv<=hi)
noncomputable def RowE (B:BTd) (up lv:Int) (H:Hp) (s:Int) (r:Addr×Addr):Prop:=H r.1=some (.tup [.int s,.ref r.2])/\H r.2=some (.lst ((Jmr B up lv s).map oV))
noncomputable def Jo2 (us:List Int) (rs:List (Addr×Addr)):List (Key×V):=(us.zip rs).map λp=>(yah p.1,V.ref p.2.2)
noncomputable def WayAt (B:BTd) (up hi lv:Int) (H:Hp) (p:Addr):Prop:=∃o rs,H p=some (.frz o (.dK (Jo2 (usable B hi lv) rs)))/\Paired (RowE B up lv H) (usable B hi lv) rs
theorem RowE.same {B:BTd} {up lv:Int} {H H':Hp} {s:Int} {r:Addr×Addr} (sm:Same H H') (h:RowE B up lv H s r):RowE B up lv H' s r:=⟨sm _ _ h.1,sm _ _ h.2⟩
theorem WayAt.same {B:BTd} {up hi lv:Int} {H H':Hp} {p:Addr} (sm:Same H H') (h:WayAt B up hi lv H p):WayAt B up hi lv H' p:=by
 obtain ⟨o,rs,h1,h2⟩:=h;exact ⟨o,rs,sm _ _ h1,Paired.mapP h2 λs r q=>q.same sm⟩
theorem RowE.put {B:BTd} {up lv:Int} {H:Hp} {s:Int} {r:Addr×Addr} {D:Addr} {rs:List (Addr×Addr)} {o:HO} (hup:0<=up) (hrn:0<=B.rn) (hD:H D=some (.lst (rs.map λr:Addr×Addr=>V.ref r.1))) (h:RowE B up lv H s r):RowE B up lv (upd H D o) s r:=by
 have n1:r.1≠D:=λz=>by have:=h.1;rw [z,hD] at this;cases this
 have n2:r.2≠D:=λz=>by
  have q:=h.2;rw [z,hD] at q;have e:=HO.lst.inj (yae.inj q);have l:(Jmr B up lv s).length=(up+B.rn+1).toNat:=by simp [Jmr]
  cases hc:Jmr B up lv s with
  |nil=>rw [hc] at l;simp at l;omega
  |cons x xs=>
   rw [hc] at e;cases rs with
   |nil=>simp at e
   |cons r' rs'=>
    simp at e;cases x <;> exact nomatch e.1
 exact ⟨by rw [Jjx n1];exact h.1,by rw [Jjx n2];exact h.2⟩
theorem Jt8 {B:BTd} {up lv:Int} {H:Hp}:∀{us:List Int} {rs:List (Addr×Addr)},Paired (RowE B up lv H) us rs->Jv8 H (rs.map λr=>V.ref r.1) (Jo2 us rs)
 |_,_,.nil=>.nil
 |_,_,.cons h t=>.cons ⟨_,rfl,h.1⟩ (Jt8 t)
theorem Jwv:∀{us:List Int} {rs:List (Addr×Addr)},us.length=rs.length->(Jo2 us rs).map (·.1)=us.map yah
 | [],[],_=>rfl
 | [],_::_,h=>by simp at h
 |_::_,[],h=>by simp at h
 |u::us,r::rs,h=>by
  have:=Jwv (us:=us) (rs:=rs) (by simpa using h);show yah u::(Jo2 us rs).map (·.1)=_;rw [this];rfl
theorem Jwc (B:BTd) (hi lv:Int):(usable B hi lv).Nodup:=by
 unfold usable;refine yby.filter _ ?_;refine yby.map _ (λa b h=>?_) List.nodup_range;intro z;exact h (by exact_mod_cast z)
theorem Jqg (B:BTd) (hi lv:Int) (h:nOf B.G<=4):(usable B hi lv).length<=4:=by
 unfold usable;refine yai (ych _ _) ?_;simpa using h
theorem Jtl {B:BTd} {hi lv s:Int} (h:s∈usable B hi lv):0<=s/\s < (nOf B.G:Int):=by
 unfold usable at h;obtain ⟨h1,_⟩:=yav.mp h;obtain ⟨k,hk,rfl⟩:=ybd.mp h1;have:=yac.mp hk;omega
theorem Jyc {G:Jna} (gg:GGood G):nOf G<=4:=by
 unfold nOf;have:=gg.len.2;cases G.sv <;> simp <;> omega
noncomputable def spWays (a:Ad):Sp:=λvs H Q _=>∃(o:Addr) (B:BTd) (up hi lv:Int),vs= [.ref o,.int up,.int hi,.int lv]/\BX a H o B/\BGd B/\(0<=up/\up<=12)/\(0<=lv/\lv<=12)/\
 ∀p H',Same H H'->WayAt B up hi lv H' p->Q (.ref p) H'
theorem sc_ends_by_setting:Jk0 ["basin","up","hi","level","usable"] ["basin","up","hi","level"] (Jju (top 31)):=%[|0]
theorem Jq2 (T:Tx K mg a):FnOk P w K mg base CX0 5 a.Jg0 a.Jg1 ["basin","up","hi","level"] (spWays a):=by
 have G_ends_alone:=%[Jtv|1];refine %[T.Jc.fn.ok,sc_ends_by_setting|2]
 ·obtain ⟨o,B,up,hi,lv,rfl,_⟩:=h;rfl
 ·obtain ⟨o,B,up,hi,lv,rfl,bx,bg,hup,hlv,k⟩:=h;obtain ⟨dx,g,ho,gx⟩:=id bx;have n4:=Jyc bg.G;refine ⟨?t,?B,?C⟩
  case B=>
   refine' Jjs ?s1 ?r1
   case s1=>
    exact (Jnz (i:=4) (N:=(["setting","hi","level","basin"]:List Str)) (ini:=[none,some 2,some 3,some 0]) sc_ends_by_setting.nd rfl (ye rfl) rfl (Jl6 (by rfl) T.Jaz (Jjp (Jp7 (Jky (pv 0) (by rfl)) hr) Jjr)) (λ_ _ _ _ _=>(Jk2 (i:=0) (by decide +kernel:(["setting","hi","level","basin"]:List Str).Nodup) rfl (ye rfl))) (λ_ _ _ _ _=>(Jnh (Jke Jn7 (Yo (P:=P) (w:=w) (K:=K) (mg:=mg) (base:=base) rfl rfl rfl rfl rfl (Jm2 (K:=K) rfl (pv 3) (by rfl)) hr (Jjp (pv 0) (Jjp (pv 2) Jjr))) (pv 1) (Jkg _)))) (λ_ _ _ _ _=>(pv 0)))
   case r1=>
    refine' Jjt ?s3
    case s3=>
     refine' Jk1 ?e5_0
     case e5_0=>
      exact (Jko (Jsd rfl) (by rfl) T.Jar Jz8 (Jjp (Jkl (N:=(["setting","basin","up","level"]:List Str)) (ini:=[none,some 0,some 1,some 3]) rfl (Jld (pv 4)) (λ_ _ _ _ _=>(Jk2 (i:=0) (by decide +kernel:(["setting","basin","up","level"]:List Str).Nodup) rfl (ye rfl))) (λ_ _ _ _ _=>Jkp) (λ_ _ _ _ _=>(Jmm (Jjp (pv 0) (Jjp (Jjw T.Jb G_ends_alone hr (by decide) (pa4 (pv 1) (pv 2) (pv 3) (pv 0))) Jjr))))) Jjr))
  refine ⟨_,rfl,o,_,dx,_,_,rfl,ho,T.Jdk,T.Je6,rfl,Jpo T (gx.gs bg.G) ⟨_,rfl,by omega,by omega,λD hD=>?_⟩ (by decide)⟩;refine Jm3 (lo:=0) (λi σ H'=>(∃o',σ= [o',some (.int hi),some (.int lv),some (.ref o)])/\H' D=some (.lst ((((yt i).map λk:Nat=>(k:Int)).filter λs=>decide (lvG B.G s lv<=hi)).map V.int))/\Same H H') ⟨⟨_,rfl⟩,Jjq,Same.upd hD⟩ ?_ ?_
  ·rintro i σ H' hi' ⟨⟨o1,rfl⟩,hDs,sm⟩;have hs:0<=(0+i:Int)/\(0+i:Int) < (nOf B.G:Int):=by omega
   obtain ⟨q,C,dxq,fs,f,fd,ps,sp,k',eq,h1,h2,c',m,ok,hk,bd,hsp⟩:=GX.lets (P:=P) (w:=w) (base:=base) T bg.G (gx.same sm) hs (show 0<=lv/\lv<=1000 by omega);refine ⟨_,rfl,o,_,dx,_,_,rfl,sm _ _ ho,T.Jdk,T.Je6,rfl,q,C,dxq,fs,f,fd,ps,sp,k',eq,h1,h2,c',m,ok,Nat.le_succ_of_le hk,bd,_,rfl,_,rfl,hsp _ ⟨_,rfl,_,_,rfl,rfl,_,rfl,?_⟩⟩;have e0:(0+(i:Int))=i:=by omega
   rw [e0];have ef:((yt (i+1)).map λk:Nat=>(k:Int)).filter (λs=>decide (lvG B.G s lv<=hi))=((yt i).map λk:Nat=>(k:Int)).filter (λs=>decide (lvG B.G s lv<=hi))++(if lvG B.G i lv<=hi then [(i:Int)] else []):=by
    rw [ybr,yz,List.filter_append];congr 1;by_cases c:lvG B.G i lv<=hi <;> simp [c]
   show if decide (lvG B.G i lv<=hi)=true then _ else _
   refine Jnu (λc=>?_) (λc=>?_)
   ·have c':=of_decide_eq_true c;refine ⟨_,rfl,_,hDs,?_,⟨_,rfl⟩,?_,?_⟩
    ·rw [yf];refine Jkc (yai (ych _ _) ?_);rw [yf,yau];omega
    ·rw [Jjq,ef,if_pos c',yz];rfl
    ·intro c2 u z;rw [Jjx (Jjy z hD)];exact sm _ _ z
   ·have c':¬lvG B.G i lv<=hi:=λz=>c (decide_eq_true z);refine ⟨⟨_,rfl⟩,?_,sm⟩;rw [ef,if_neg c',yaz];exact hDs
  rintro σ1 H1 ⟨_,hDs,s1⟩;have hDs:H1 D=some (.lst ((usable B hi lv).map V.int)):=by
   have e:((nOf B.G:Nat):Int).toNat=nOf B.G:=ybf _;rw [e] at hDs;exact hDs
  have ul:=Jqg B hi lv n4;refine ⟨_,rfl,D,rfl,⟨_,SqL.of hDs⟩,λD2 hD2=>?_⟩;refine Jlf (K:=K) (xs:=(usable B hi lv).map V.int) (λi σ H'=>(∃o',σ= [o',some (.ref o),some (.int up),some (.int lv)])/\Same H1 H'/\∃rs,H' D2=some (.lst (rs.map λr:Addr×Addr=>V.ref r.1))/\Paired (RowE B up lv H') ((usable B hi lv).take i) rs) ⟨⟨_,rfl⟩,Same.upd hD2,[],Jjq,.nil⟩ (λi σ H' _ ⟨_,sm,_⟩=>SqL.of (sm _ _ hDs)) ?_ ?_
  ·rintro i x σ H' hx ⟨⟨o1,rfl⟩,sm,rs,hDr,pr⟩;rw [ym] at hx;obtain ⟨u,hu,rfl⟩:=yx.mp hx;have hus:=Jtl (yaa hu);refine Jl1 ⟨_,rfl,_,rfl,_,rfl,_,rfl,_,rfl,o,B,up,lv,u,rfl,(bx.same s1).same sm,bg,hup,hlv,hus,λl H2 s2 hl=>?_⟩;refine ⟨(show 2<=sizeLine by decide),λT1 hT=>?_⟩;have sT:=Same.upd (o:=.tup [.int u,.ref l]) hT;have hDr2:=sT _ _ (s2 _ _ hDr);have hlr:rs.length=i:=by
    have e1:=Paired.length pr;rw [yaj] at e1;have:=(yq.mp hu).1;omega
   have hil:i < (usable B hi lv).length:=(yq.mp hu).1;refine ⟨_,hDr2,?_,⟨_,rfl⟩,?_,rs++ [(T1,l)],?_,?_⟩
   ·rw [yf];exact Jkc (by omega)
   ·intro c o' z;rw [Jjx (Jjy z hD2)];exact sT _ _ (s2 _ _ (sm _ _ z))
   ·rw [Jjq,yz];rfl
   ·rw [yao,hu];refine Paired.snoc (Paired.mapP pr λs r q=>((q.same s2).same sT).put hup.1 bg.rn.1 hDr2) (RowE.put (r:=(T1,l)) hup.1 bg.rn.1 hDr2 ⟨Jjq,sT _ _ hl⟩)
  rintro σ2 H2 ⟨_,s2,rs,hDr,pr⟩;rw [yak (by rw [yf];exact yi _)] at pr;have el:=Paired.length pr;refine ⟨D2,_,Jo2 (usable B hi lv) rs,rfl,hDr,Jt8 pr,?_,?_,λp o' hp=>?_⟩
  ·unfold Jo2;rw [yf,List.length_zip];omega
  ·rw [Jwv el];exact yby.map _ (λx y h z=>h (yah.inj z)) (Jwc B hi lv)
  ·exact k p _ ((s1.trans s2).trans (Same.upd hp)) ⟨o',rs,Jjq,Paired.mapP pr λs r q=>q.same (Same.upd hp)⟩
noncomputable def Jmu (B:BTd) (up lv:Int) (lost:List (Option Int)) (s:Int):Bool:=Jxd (Jmr B up lv s) lost
theorem Jzc {B:BTd} {up lv s:Int} {i:Int} (bg:BGd B) (h:some i∈Jmr B up lv s):0<=i/\i < ((B.hi+1 - B.lo).toNat:Int):=by
 unfold Jmr at h;obtain ⟨c,_,e⟩:=ybd.mp h;unfold Jpk at e;have b1:=bg.lo;split at e
 ·rename_i q
  have e':=yae.inj e;omega
 ·cases e
theorem Jwp {B:BTd} {up lv s:Int} (bg:BGd B) (hup:0<=up/\up<=12):(Jmr B up lv s).length<=100:=by
 unfold Jmr;rw [yf,yau];have:=bg.rn;omega
theorem Jvi:∀{us:List Int} {rs:List (Addr×Addr)} {F:Int->Addr×Addr->Prop} {i:Nat} {k:Key} {x:V},Paired F us rs->(Jo2 us rs)[i]?=some (k,x)->∃u r,us[i]?=some u/\k= .inl u/\x= .ref r.2/\F u r
 |_,_,_,_,_,_,.nil,h=>by simp [Jo2] at h
 |_,_,_,0,k,x,.cons (a:=u) (b:=r) h t,e=>by
  have e':(yah u,V.ref r.2)=(k,x):=by simpa [Jo2] using e
  cases e';exact ⟨u,r,rfl,rfl,rfl,h⟩
 |_,_,_,i+1,k,x,.cons h t,e=>by
  obtain ⟨u,r,e1,e2⟩:=Jvi (i:=i) t (by simpa [Jo2] using e);exact ⟨u,r,by simpa using e1,e2⟩
theorem Jzg {us:List Int} {rs:List (Addr×Addr)} (h:us.length=rs.length):(Jo2 us rs).length=us.length:=by
 unfold Jo2;rw [yf,List.length_zip];omega
noncomputable def Ydv (a:Ad):Sp:=λvs H Q _=>∃(p M:Addr) (B:BTd) (up hi lv s:Int) (lost:List (Option Int)),vs= [.ref p,.ref M]/\WayAt B up hi lv H p/\H M=some (.lst (lost.map oV))/\lost.length=(B.hi+1 - B.lo).toNat/\BGd B/\(0<=up/\up<=12)/\
 ((usable B hi lv).filter (Jmu B up lv lost)).head?=some s/\∀H',Same H H'->Q (.int s) H'
theorem Ju6:Jk0 ["by_setting","lost"] ["by_setting","lost"] (Jju (top 34)):=%[|0]
theorem Jtw (T:Tx K mg a):FnOk P w K mg base CX0 2 a.Jg6 a.Jg7 ["by_setting","lost"] (Ydv a):=by
 have G_is_safe:=%[Jsz|1];refine %[T.Jf.fn.ok,Ju6|2]
 ·obtain ⟨p,M,B,up,hi,lv,s,lost,rfl,_⟩:=h;rfl
 ·obtain ⟨p,M,B,up,hi,lv,s,lost,rfl,⟨ob,rs,hp,pr⟩,hM,hN,bg,hup,hs,k⟩:=h;have n4:=Jqg B hi lv (Jyc bg.G);refine ⟨?t,?B,?C⟩
  case B=>
   refine' Jjt ?s1
   case s1=>
    exact (Jk1 (Jk9 Jki (Jkl (N:=(["setting","ends","lost"]:List Str)) (ini:=[none,none,some 1]) rfl (Ybf (pv 0)) (λ_ _ _ _ _=>(Jng (K:=K) (n:=2) rfl rfl (Jkb (Jk2 (i:=0) (by decide +kernel:(["setting","ends","lost"]:List Str).Nodup) rfl (ye rfl)) (Jkb (Jk2 (i:=1) (by decide +kernel:(["setting","ends","lost"]:List Str).Nodup) rfl (ye rfl)) Jlp)))) (λ_ _ _ _ _=>(Jnh (Jkf (Jjw T.J7 G_is_safe hr (by decide) (Jjp (pv 1) (Jjp (pv 2) Jjr)))))) (λ_ _ _ _ _=>(pv 0))) Jjv (λ_ _=>rfl)))
  refine ⟨_,rfl,p,ob,_,rfl,hp,λD hD=>?_⟩;refine Jy1 (λi σ H'=>(∃o1 o2,σ= [o1,o2,some (.ref M)])/\Same H H'/\H' D=some (.lst ((((usable B hi lv).take i).filter (Jmu B up lv lost)).map V.int))) ⟨⟨_,_,rfl⟩,Same.upd hD,Jjq⟩ (λi σ H' _ ⟨_,sm,_⟩=>sm _ _ hp) ?_ ?_
  ·rintro i kk x σ H' T1 hx ⟨⟨o1,o2,rfl⟩,sm,hDs⟩ hT;obtain ⟨u,r,hu,rfl,rfl,row⟩:=Jvi pr hx;have sT:=Same.upd (o:=.tup [kV (.inl u),V.ref r.2]) hT;refine ⟨T1,_,rfl,SqT.of Jjq,rfl,_,_,rfl,_,_,rfl,rfl,?_⟩;refine ⟨_,rfl,_,rfl,r.2,M,Jmr B up lv u,lost,rfl,sT _ _ (sm _ _ row.2),sT _ _ (sm _ _ hM),λj hj=>?_,Jwp bg hup,λH2 s2=>?_⟩
   ·have:=Jzc bg hj;rw [hN];exact this
   have ef:(((usable B hi lv).take (i+1)).filter (Jmu B up lv lost))=((usable B hi lv).take i).filter (Jmu B up lv lost)++(if Jmu B up lv lost u=true then [u] else []):=by
    rw [yao,hu,List.filter_append];congr 1;by_cases c:Jmu B up lv lost u=true <;> simp [c]
   have hDs2:=s2 _ _ (sT _ _ hDs);have lt:i < (usable B hi lv).length:=(yq.mp hu).1;refine ⟨_,rfl,?_⟩;show if Jmu B up lv lost u=true then _ else _
   refine Jnu (λc=>?_) (λc=>?_)
   ·refine ⟨_,rfl,_,hDs2,?_,⟨_,_,rfl⟩,?_,?_⟩
    ·rw [yf];refine Jkc (yai (ych _ _) ?_);rw [yaj];omega
    ·intro c2 o' z;rw [Jjx (Jjy z hD)];exact s2 _ _ (sT _ _ (sm _ _ z))
    ·rw [Jjq,ef,if_pos c,yz];rfl
   ·refine ⟨⟨_,_,rfl⟩,(sm.trans sT).trans s2,?_⟩;rw [ef,if_neg c,yaz];exact hDs2
  ·rintro σ H' ⟨_,sm,hDs⟩;rw [Jzg (Paired.length pr),List.take_length] at hDs;refine ⟨D,_,0,_,rfl,rfl,SqL.of hDs,Jl8 (j:=0) ?_,k _ sm⟩;rw [ym,<-List.head?_eq_getElem?,hs];rfl
noncomputable abbrev lb_lost_alone:Array (Nat×Nat×Str):=#[((Jqp (nst (top 32) 0)).line,(Jqp (nst (top 32) 0)).col,"lost_alone.<locals>.comes")]
noncomputable def WaysAt (B:BTd) (up hi:Int) (H:Hp) (W:Addr):Prop:=∃ps:List Addr,H W=some (.lst (ps.map V.ref))/\Paired (λlv p=>WayAt B up hi lv H p) (Jsq B) ps
theorem WaysAt.same {B:BTd} {up hi:Int} {H H':Hp} {W:Addr} (sm:Same H H') (h:WaysAt B up hi H W):WaysAt B up hi H' W:=by
 obtain ⟨ps,h1,h2⟩:=h;exact ⟨ps,sm _ _ h1,Paired.mapP h2 λs r q=>q.same sm⟩
noncomputable def nLv (B:BTd):Nat:=(B.hi+1 - B.lo).toNat
noncomputable def Jo8 (B:BTd) (up hi:Int) (lost:List (Option Int)) (n:Nat):Bool:=!((usable B hi (B.lo+n)).any (Jmu B up (B.lo+n) lost))
noncomputable def CmAt (H:Hp) (f W:Addr):Prop:=CloAt H f "comes" "lost_alone.<locals>.comes" (nst (top 32) 0) [("ways",.ref W)]
noncomputable def Ydu:List V->Sp:=λcs vs H Q _=>∃(W M:Addr) (B:BTd) (up hi:Int) (n:Nat) (lost:List (Option Int)),cs= [.ref W]/\vs= [.int n,.ref M]/\WaysAt B up hi H W/\H M=some (.lst (lost.map oV))/\lost.length=nLv B/\BGd B/\(0<=up/\up<=12)/\n < nLv B/\
 ∀H',Same H H'->Q (.bl (Jo8 B up hi lost n)) H'
theorem Jkn {α β:Type} {F:α->β->Prop} {l₁:List α} {l₂:List β} (r:Paired F l₁ l₂):∀{i:Nat} {x:α},l₁[i]?=some x->∃y,l₂[i]?=some y/\F x y:=by
 induction r with
 |nil=>intro i y h;simp at h
 |cons h t ih=>
  intro i y e;cases i with
  |zero=>simp at e;subst e;exact ⟨_,rfl,h⟩
  |succ j=>exact ih (by simpa using e)
theorem Jpe:Jo6 ["number","found","ways"] ["number","found"] ["ways"] (Jju (nst (top 32) 0)):=⟨rfl,rfl,rfl,by decide +kernel,rfl,by decide +kernel,by decide +kernel,by decide +kernel⟩
theorem Yb8 (T:Tx K mg a) (f:Addr):CloOk P w K mg base CX0 2 f (Jzn "comes" "lost_alone.<locals>.comes" (nst (top 32) 0) ["ways"] Ydu f):=by
 have G_is_safe:=%[Jsz|1];refine Ycy Jpe (λ_ _ _ _ _ us hl=>match us,hl with| [_,_],_=>rfl) (λcs vs H Q E h=>?_) (λf c clos A outer s H vs cs Q E hr h=>?_) f
 ·obtain ⟨W,M,B,up,hi,n,lost,rfl,rfl,_⟩:=h;exact ⟨rfl,rfl⟩
 ·obtain ⟨W,M,B,up,hi,n,lost,rfl,rfl,wa,hM,hN,bg,hup,hn,k⟩:=h;obtain ⟨ps,hW,pp⟩:=wa;obtain ⟨p,hp,ob,rs,hd,pr⟩:=Jkn pp (i:=n) (x:=B.lo+n) (by unfold Jsq;simp [show n < (B.hi+1 - B.lo).toNat from hn]);refine ⟨?t,?B,?C⟩
  case B=>
   refine' Jjt ?s1
   case s1=>
    exact (Jk1 (pe_not (Jjz (Yai rfl rfl) (by rfl) T.Jap bt_any (Jjp (Jkl (N:=(["ends","found"]:List Str)) (ini:=[none,some 1]) rfl (Ydi (Jk9 Jki (pv 2) (pv 0) (λ_ _=>rfl))) (λ_ _ _ _ _=>(Jk2 (i:=0) (by decide +kernel:(["ends","found"]:List Str).Nodup) rfl (ye rfl))) (λ_ _ _ _ _=>Jkp) (λ_ _ _ _ _=>(Jjw T.J7 G_is_safe hr (by decide) (Jjp (pv 0) (Jjp (pv 1) Jjr))))) Jjr))))
  have n4:=Jqg B hi (B.lo+n) (Jyc bg.G);refine ⟨_,rfl,_,rfl,W,_,(n:Int),_,rfl,rfl,SqL.of hW,Jl8 (j:=n) (by rw [ym,hp];rfl),p,ob,_,rfl,hd,λD hD=>?_⟩;refine Y0 (λi σ H'=>(∃o1,σ= [o1,some (.ref M)])/\Same H H'/\H' D=some (.lst ((((usable B hi (B.lo+n)).take i).map (Jmu B up (B.lo+n) lost)).map V.bl))) ⟨⟨_,rfl⟩,Same.upd hD,Jjq⟩ (λi σ H' _ ⟨_,sm,_⟩=>sm _ _ hd) ?_ ?_
  ·rintro i kk x σ H' hx ⟨⟨o1,rfl⟩,sm,hDs⟩;obtain ⟨u,r,hu,rfl,rfl,row⟩:=Jvi pr hx;have lt:i < (usable B hi (B.lo+n)).length:=(yq.mp hu).1;refine Jl1 ⟨_,rfl,_,rfl,r.2,M,Jmr B up (B.lo+n) u,lost,rfl,sm _ _ row.2,sm _ _ hM,λj hj=>?_,Jwp bg hup,λH2 s2=>⟨_,s2 _ _ hDs,?_,⟨_,rfl⟩,?_,?_⟩⟩
   ·have:=Jzc bg hj;rw [hN];exact this
   ·rw [yf,yf,yaj];exact Jkc (by omega)
   ·intro c2 o' z;rw [Jjx (Jjy z hD)];exact s2 _ _ (sm _ _ z)
   ·rw [Jjq,yao,hu,yz,yz];rfl
  ·rintro σ H' ⟨_,sm,hDs⟩;rw [Jzg (Paired.length pr),List.take_length] at hDs;refine ⟨D,_,rfl,SqL.of hDs,_,rfl,?_⟩;have e:((usable B hi (B.lo+n)).map (Jmu B up (B.lo+n) lost)).any id=(usable B hi (B.lo+n)).any (Jmu B up (B.lo+n) lost):=by
    rw [List.any_map];rfl
   rw [e];exact k _ sm
noncomputable def Jkj (B:BTd) (up hi:Int) (lost:List (Option Int)):List Nat:=(yt (nLv B)).filter λn=>(lost.getD n none).isNone&&Jo8 B up hi lost n
noncomputable def Jo4 (lost:List (Option Int)) (ns:List Nat) (r:Int):List (Option Int):=ns.foldl (λl n=>l.set n (some r)) lost
noncomputable def Job (B:BTd) (up hi:Int):Nat->List (Option Int)->Int->List (Option Int)
 |0,l,_=>l
 |k+1,l,r=>if Jkj B up hi l= [] then l else Job B up hi k (Jo4 l (Jkj B up hi l) (r+1)) (r+1)
noncomputable def Jnc (B:BTd) (up hi:Int):List (Option Int):=Job B up hi (nLv B+1) (yw (nLv B) none) 0
noncomputable def Jlo (l:List (Option Int)):Nat:=l.countP λo=>o.isNone
theorem Jqq (ns:List Nat) (r:Int):∀l:List (Option Int),(Jo4 l ns r).length=l.length:=by
 induction ns with
 |nil=>intro l;rfl
 |cons n ns ih=>
  intro l;show (Jo4 (l.set n (some r)) ns r).length=_;rw [ih];simp
theorem Yr (l:List (Option Int)) (ns:List Nat) (n:Nat) (r:Int):Jo4 l (ns++ [n]) r=(Jo4 l ns r).set n (some r):=by
 unfold Jo4;rw [List.foldl_append];rfl
theorem Jvm (l:List (Option Int)) (n:Nat) (r:Int):Jlo (l.set n (some r))<=Jlo l:=by
 induction l generalizing n with
 |nil=>simp [Jlo]
 |cons x l ih=>
  cases n with
  |zero=>unfold Jlo;rw [List.set_cons_zero,ybv,ybv];simp
  |succ n=>
   have:=ih n;unfold Jlo at this⊢;rw [List.set_cons_succ,ybv,ybv];omega
theorem Jvl (ns:List Nat) (r:Int):∀l:List (Option Int),Jlo (Jo4 l ns r)<=Jlo l:=by
 induction ns with
 |nil=>intro l;exact yi _
 |cons n ns ih=>intro l;exact yai (ih (l.set n (some r))) (Jvm l n r)
theorem Jvn {l:List (Option Int)} {n:Nat} {r:Int} (h:l[n]?=some none):Jlo (l.set n (some r)) < Jlo l:=by
 induction l generalizing n with
 |nil=>simp at h
 |cons x l ih=>
  cases n with
  |zero=>
   obtain rfl:x=none:=by simpa using h
   unfold Jlo;rw [List.set_cons_zero,ybv,ybv];simp
  |succ n=>
   have:=ih (n:=n) (by simpa using h);unfold Jlo at this⊢;rw [List.set_cons_succ,ybv,ybv];omega
theorem Jul {B:BTd} {up hi:Int} {l:List (Option Int)} {n:Nat} (hl:l.length=nLv B) (h:n∈Jkj B up hi l):n < nLv B/\l[n]?=some none:=by
 unfold Jkj at h;obtain ⟨h1,h2⟩:=yav.mp h;have lt:=yac.mp h1;rw [yag] at h2;have hn:n < l.length:=by omega
 refine ⟨lt,?_⟩;have:=h2.1;rw [yy,yn hn] at this;rw [yn hn];simpa using this
theorem Jog {B:BTd} {up hi r:Int} {l:List (Option Int)} (hl:l.length=nLv B) (h:Jkj B up hi l≠ []):Jlo (Jo4 l (Jkj B up hi l) r) < Jlo l:=by
 cases hc:Jkj B up hi l with
 |nil=>exact absurd hc h
 |cons n ns=>
  have q:=(Jul hl (n:=n) (by rw [hc];exact yal ..)).2;exact ycm (Jvl ns r (l.set n (some r))) (Jvn q)
theorem Jso {B:BTd} {up hi:Int}:∀(k m:Nat) (l:List (Option Int)) (r:Int),l.length=nLv B->Jlo l < k->Jlo l < m->Job B up hi k l r=Job B up hi m l r:=by
 intro k
 induction k with
 |zero=>intro m l r _ h;omega
 |succ k ih=>
  intro m l r hl h1 h2;cases m with
  |zero=>omega
  |succ m=>
   show (if Jkj B up hi l= [] then l else _)=(if Jkj B up hi l= [] then l else _);split
   ·rfl
   ·rename_i hf
    have:=Jog (r:=r+1) hl hf;exact ih m _ _ (by rw [Jqq];exact hl) (by omega) (by omega)
noncomputable def nsV (ns:List Nat):List V:=ns.map λn:Nat=>V.int n
noncomputable def Yc5:Sp:=λvs H Q _=>∃(c W:Addr) (B:BTd) (up hi:Int),vs= [.int (nLv B:Nat),.ref c]/\CmAt H c W/\WaysAt B up hi H W/\BGd B/\(0<=up/\up<=12)/\∀M H',Same H H'->H M=none->H' M=some (.lst ((Jnc B up hi).map oV))->Q (.ref M) H'
noncomputable def RndI (B:BTd) (up hi:Int) (H:Hp) (c M:Addr):Nat->L2.St->Hp->Prop:=λm σ H'=>∃(l:List (Option Int)) (r:Int) (F:Addr) (o5:Option V),σ= [some (.int (nLv B:Nat)),some (.ref c),some (.ref M),some (.int r),some (.ref F),o5]/\m=Jlo l/\l.length=nLv B/\Same H H'/\H' M=some (.lst (l.map oV))/\H' F=some (.lst (nsV (Jkj B up hi l)))/\F≠M/\Job B up hi (Jlo l+1) l r=Jnc B up hi
theorem Yb6 {B:BTd} (bg:BGd B):nLv B<=13:=by
 unfold nLv;have:=bg.lo;have:=bg.hi;omega
theorem sc_found_by_rounds:Jk0 ["many","comes","found","rounds","fresh","number"] ["many","comes"] (Jju (top 23)):=%[|0]
theorem Jq3 (T:Tx K mg a):FnOk P w K mg base CX0 3 a.Jfo a.Jfp ["many","comes"] Yc5:=by
 have G_comes:=%[Yb8|1];refine %[T.J6.fn.ok,sc_found_by_rounds|2]
 ·obtain ⟨c,W,B,up,hi,rfl,_⟩:=h;rfl
 ·obtain ⟨c,W,B,up,hi,rfl,cm,wa,bg,hup,k⟩:=h;have n13:=Yb6 bg;refine ⟨?t,?B,?C⟩
  case B=>
   refine' Jjs ?s1 ?r1
   case s1=>
    exact (Jk5 (i:=2) sc_found_by_rounds.nd rfl (Or.inr rfl) (Jkl (N:=(["number"]:List Str)) (ini:=[none]) rfl (Jl6 (by rfl) T.Jaz (Jjp (pv 0) Jjr)) (λ_ _ _ _ _=>(Jk2 (i:=0) (by decide +kernel:(["number"]:List Str).Nodup) rfl (ye rfl))) (λ_ _ _ _ _=>Jkp) (λ_ _ _ _ _=>Jls)))
   case r1=>
    refine' Jjs ?s3 ?r3
    case s3=>
     exact (Jk5 (i:=3) sc_found_by_rounds.nd rfl (ye rfl) Jjv)
    case r3=>
     refine' Jjs ?s5 ?r5
     case s5=>
      exact (Jnz (i:=4) (N:=(["number","comes","found"]:List Str)) (ini:=[none,some 1,some 2]) sc_found_by_rounds.nd rfl (ye rfl) rfl (Jl6 (by rfl) T.Jaz (Jjp (pv 0) Jjr)) (λ_ _ _ _ _=>(Jk2 (i:=0) (by decide +kernel:(["number","comes","found"]:List Str).Nodup) rfl (ye rfl))) (λ_ _ _ _ _=>(Jnh (Jkf (Jv0 (P:=P) (w:=w) (K:=K) (mg:=mg) (base:=base) rfl rfl rfl rfl rfl G_comes hr (by decide) 1 (Jjp (pv 0) (Jjp (pv 2) Jjr)))))) (λ_ _ _ _ _=>(pv 0)))
     case r5=>
      refine' Jjs ?s7 ?r7
      case s7=>
       exact (Ybi PassesOwn.never (Jke Juy (Jjz Jk4 (by rfl) T.Jav Jkw (Jjp (pv 4) Jjr)) Jjv (Jkg _)) (Jjs (ps_aug (i:=3) sc_found_by_rounds.nd rfl (ye rfl) Jjv ip_add) (Jjs (Jmn PassesOwn.never rfl (Jld (pv 4)) (Jk2 (i:=5) sc_found_by_rounds.nd rfl (ye rfl)) (Jjt (Jt7 (pv 3) (Jvz (pv 2) (pv 5) Jqu)))) (Jjt (Jnz (i:=4) (N:=(["number","comes","found"]:List Str)) (ini:=[none,some 1,some 2]) sc_found_by_rounds.nd rfl (ye rfl) rfl (Jl6 (by rfl) T.Jaz (Jjp (pv 0) Jjr)) (λ_ _ _ _ _=>(Jk2 (i:=0) (by decide +kernel:(["number","comes","found"]:List Str).Nodup) rfl (ye rfl))) (λ_ _ _ _ _=>(Jnh (PW.pt (Ybj (Jke Jrh (Jk9 (Jn4 (K:=K) rfl) (pv 2) (pv 0) (λ_ _=>rfl)) Jls (Jkg _)) (Jzk (Jkf (Jv0 (P:=P) (w:=w) (K:=K) (mg:=mg) (base:=base) rfl rfl rfl rfl rfl G_comes hr (by decide) 1 (Jjp (pv 0) (Jjp (pv 2) Jjr))))))))) (λ_ _ _ _ _=>(pv 0)))))))
      case r7=>
       refine' Jjt ?s9
       case s9=>
        exact (Jk1 (pv 2))
  refine ⟨_,rfl,_,rfl,by omega,by omega,λM hM=>?_⟩;refine Jm3 (lo:=0) (λi σ H'=>(∃o',σ= [o'])/\H' M=some (.lst ((yw i (none:Option Int)).map oV))/\Same H H') ⟨⟨_,rfl⟩,Jjq,Same.upd hM⟩ ?_ ?_
  ·rintro i σ H' hi' ⟨⟨o1,rfl⟩,hDs,sm⟩;refine Jl1 ⟨_,hDs,?_,⟨_,rfl⟩,?_,?_⟩
   ·rw [yf,ybs];exact Jkc (by omega)
   ·rw [Jjq,ycp,yz];rfl
   ·intro c2 o' z;rw [Jjx (Jjy z hM)];exact sm _ _ z
  rintro σ1 H1 ⟨_,hMs,s1⟩;rw [show ((nLv B:Nat):Int).toNat=nLv B from ybf _] at hMs;refine ⟨_,rfl,_,rfl,by omega,by omega,λF hF=>?_⟩;have ef:∀(p:Nat->Bool) (i:Nat),(yt (i+1)).filter p=(yt i).filter p++(if p i=true then [i] else []):=by
   intro p i;rw [ybr,List.filter_append];congr 1;by_cases c:p i=true <;> simp [c]
  have fl:∀(p:Nat->Bool) (i:Nat),i<=13->(nsV ((yt i).filter p)).length < sizeLine:=by
   intro p i hi';unfold nsV;rw [yf];refine Jkc (yai (ych _ _) ?_);rw [yau];omega
  refine Jm3 (lo:=0) (λi σ H'=>(∃o',σ= [o',some (.ref c),some (.ref M)])/\Same H1 H'/\H' F=some (.lst (nsV ((yt i).filter (Jo8 B up hi (yw (nLv B) none)))))) ⟨⟨_,rfl⟩,Same.upd hF,Jjq⟩ ?_ ?_
  ·rintro i σ H' hi' ⟨⟨o1,rfl⟩,sm,hFs⟩;have hi2:i < nLv B:=by rw [show ((nLv B:Nat):Int).toNat=nLv B from ybf _] at hi';exact hi'
   refine ⟨c,rfl,_,rfl,_,rfl,[.ref W],(cm.same s1).same sm,W,M,B,up,hi,i,_,rfl,by simp,(wa.same s1).same sm,sm _ _ hMs,by simp,bg,hup,hi2,λH2 s2=>⟨_,rfl,?_⟩⟩;have hF2:=s2 _ _ hFs;refine Jnu (λq=>?_) (λq=>?_)
   ·refine ⟨_,rfl,_,hF2,fl _ i (by omega),⟨_,rfl⟩,?_,?_⟩
    ·intro c2 o' z;rw [Jjx (Jjy z hF)];exact s2 _ _ (sm _ _ z)
    ·rw [Jjq,ef,if_pos q];unfold nsV;rw [yz];simp
   ·refine ⟨⟨_,rfl⟩,sm.trans s2,?_⟩;rw [ef,if_neg q,yaz];exact hF2
  rintro σ2 H2 ⟨_,s2,hFs⟩;rw [show ((nLv B:Nat):Int).toNat=nLv B from ybf _] at hFs;have e0:Jkj B up hi (yw (nLv B) none)=(yt (nLv B)).filter (Jo8 B up hi (yw (nLv B) none)):=by
   unfold Jkj;refine List.filter_congr λn hn=>?_;have lt:=yac.mp hn;simp [yy,lt]
  have nFM:F≠M:=λz=>by rw [z,hMs] at hF;cases hF
  have sM:∀{H':Hp} {o:HO},Same H H'->Same H (upd H' M o):=λs b u z=>by rw [Jjx (Jjy z hM)];exact s _ _ z
  refine ⟨RndI B up hi H c M,
   ⟨_,yw (nLv B) none,0,F,none,rfl,rfl,by simp,s1.trans s2,s2 _ _ hMs,by rw [e0];exact hFs,nFM,?_⟩,?_⟩
  ·refine Jso _ _ _ _ (by simp) (ybh _) ?_;unfold Jlo;refine Nat.lt_succ_of_le (yai (List.countP_le_length ..) ?_);simp
  rintro m σ' H' ⟨l,r,F,o5,rfl,rfl,hl,sm,hM',hF',nFM,hL⟩;refine ⟨_,rfl,F,_,rfl,.inl (SqL.of hF'),_,_,rfl,rfl,_,rfl,Jnu (λq=>?_) (λq=>?_)⟩
  ·have ne:Jkj B up hi l≠ []:=λz=>by
    rw [z] at q;cases q
   refine ⟨λσ H'=>∃m',m' < Jlo l/\RndI B up hi H c M m' σ H',λ_ _ h=>h,?_⟩;refine ⟨_,rfl,_,_,rfl,rfl,?_⟩;refine ⟨_,rfl,F,rfl,⟨_,SqL.of hF'⟩,?_⟩;refine Jwr (K:=K) (xs:=nsV (Jkj B up hi l)) (λi σ H2=>(∃o5,σ= [some (.int (nLv B:Nat)),some (.ref c),some (.ref M),some (.int (r+1)),some (.ref F),o5])/\Same H H2/\H2 M=some (.lst ((Jo4 l ((Jkj B up hi l).take i) (r+1)).map oV))/\H2 F=some (.lst (nsV (Jkj B up hi l)))) ⟨⟨_,rfl⟩,sm,hM',hF'⟩ (λi σ H2 _ h=>SqL.of h.2.2.2) ?_ ?_
   ·rintro i x σ H2 hx ⟨⟨o,rfl⟩,s',hM2,hF2⟩;unfold nsV at hx;rw [ym] at hx;obtain ⟨n,hn,rfl⟩:=yx.mp hx;have hn2:=Jul hl (yaa hn);refine ⟨_,rfl,_,rfl,_,rfl,M,_,(n:Int),n,rfl,rfl,hM2,?_,⟨_,rfl⟩,sM s',?_,?_⟩
    ·unfold ixN;rw [yf,Jqq,hl,if_pos (by omega),if_pos (by have:=hn2.1;omega)];simp
    ·rw [Jjq,yao,hn];show _=some (HO.lst ((Jo4 l (_++ [n]) (r+1)).map oV));rw [Yr,List.map_set];rfl
    ·rw [Jjx nFM];exact hF2
   rintro σ3 H3 ⟨⟨o,rfl⟩,s3,hM3,hF3⟩;have el:(nsV (Jkj B up hi l)).length=(Jkj B up hi l).length:=by unfold nsV;rw [yf]
   rw [el,List.take_length] at hM3;have lt2:=Jog (r:=r+1) hl ne;have ln2:(Jo4 l (Jkj B up hi l) (r+1)).length=nLv B:=by rw [Jqq];exact hl
   have hL2:Job B up hi (Jlo (Jo4 l (Jkj B up hi l) (r+1))+1) (Jo4 l (Jkj B up hi l) (r+1)) (r+1)=Jnc B up hi:=by
    rw [<-hL];show _=(if Jkj B up hi l= [] then l else Job B up hi (Jlo l) (Jo4 l (Jkj B up hi l) (r+1)) (r+1));rw [if_neg ne];exact Jso _ _ _ _ ln2 (ybh _) lt2
   generalize Jo4 l (Jkj B up hi l) (r+1)=l2 at hM3 lt2 ln2 hL2;refine ⟨_,rfl,_,rfl,by omega,by omega,λF2 hF2=>?_⟩;have nF2:F2≠M:=λz=>by rw [z,hM3] at hF2;cases hF2
   refine Jm3 (lo:=0) (λi σ H'=>(∃o',σ= [o',some (.ref c),some (.ref M)])/\Same H3 H'/\H' F2=some (.lst (nsV ((yt i).filter λn=>(l2.getD n none).isNone&&Jo8 B up hi l2 n)))) ⟨⟨_,rfl⟩,Same.upd hF2,Jjq⟩ ?_ ?_
   ·rintro i σ H4 hi' ⟨⟨o1,rfl⟩,s4,hFs⟩;have hi2:i < nLv B:=by rw [show ((nLv B:Nat):Int).toNat=nLv B from ybf _] at hi';exact hi'
    have zi:(0+(i:Int))=i:=by omega
    have hM4:=s4 _ _ hM3;refine ⟨_,rfl,_,rfl,M,_,_,_,rfl,rfl,SqL.of hM4,oV_at (i:=0+(i:Int)) (by omega),rfl,_,rfl,?_⟩;rw [Jvp,zi,show ((i:Nat):Int).toNat=i from ybf _];refine Jnu (λq1=>?_) (λq1=>?_)
    ·refine ⟨c,rfl,_,rfl,_,rfl,[.ref W],(cm.same s3).same s4,W,M,B,up,hi,i,_,rfl,by simp,(wa.same s3).same s4,hM4,ln2,bg,hup,hi2,λH5 s5=>⟨_,rfl,?_⟩⟩;have hF5:=s5 _ _ hFs;refine Jnu (λq2=>?_) (λq2=>?_)
     ·refine ⟨_,rfl,_,hF5,fl _ i (by omega),⟨_,rfl⟩,?_,?_⟩
      ·intro c2 o' z;rw [Jjx (Jjy z hF2)];exact s5 _ _ (s4 _ _ z)
      ·rw [Jjq,ef,if_pos (by rw [q1,q2];rfl)];unfold nsV;rw [yz];simp
     ·refine ⟨⟨_,rfl⟩,s4.trans s5,?_⟩;rw [ef,if_neg (by rw [q1];simpa using q2),yaz];exact hF5
    ·refine ⟨⟨_,rfl⟩,s4,?_⟩;rw [ef,if_neg (by intro z;rw [yag] at z;exact q1 z.1),yaz];exact hFs
   rintro σ5 H5 ⟨_,s5,hFs⟩;rw [show ((nLv B:Nat):Int).toNat=nLv B from ybf _] at hFs;exact ⟨Jlo l2,lt2,l2,r+1,F2,_,rfl,rfl,ln2,s3.trans s5,s5 _ _ hM3,hFs,nF2,hL2⟩
  ·have em:Jkj B up hi l= []:=by
    cases hc:Jkj B up hi l with
    |nil=>rfl
    |cons x xs=>
     rw [hc] at q;exact absurd (by simp [nsV]) q
   have ee:Jnc B up hi=l:=by
    rw [<-hL];show (if Jkj B up hi l= [] then l else _)=l;rw [if_pos em]
   exact ⟨_,rfl,k M H' sm hM (by rw [ee];exact hM')⟩
noncomputable def Ye4 (a:Ad):Sp:=λvs H Q _=>∃(W:Addr) (Bd:BTd) (up hi:Int),vs= [.ref W]/\H a.Jjm=some (.tbl lb_lost_alone)/\WaysAt Bd up hi H W/\BGd Bd/\(0<=up/\up<=12)/\∀M H',Same H H'->H' M=some (.lst ((Jnc Bd up hi).map oV))->Q (.ref M) H'
theorem Jwy (Bd:BTd):(Jsq Bd).length=nLv Bd:=by
 unfold Jsq nLv;rw [yf,yau]
theorem sc_lost_alone:Jk0 ["ways","comes"] ["ways"] (Jju (top 32)):=%[|0]
theorem Ju0 (T:Tx K mg a) (B:Bmn mg base):FnOk P w K mg base CX0 4 a.Jg2 a.Jg3 ["ways"] (Ye4 a):=by
 have G_found_by_rounds:=%[Jq3|1];refine T.Jd.fn.okN T.Jee sc_lost_alone (λvs H Q E h=>?_) (λA outer s H vs Q E hr h=>?_)
 ·obtain ⟨W,Bd,up,hi,rfl,_⟩:=h;rfl
 ·obtain ⟨W,Bd,up,hi,rfl,ht,wa,bg,hup,k⟩:=h;obtain ⟨ps,hW,pp⟩:=id wa;have hl:ps.length=nLv Bd:=(Paired.length pp).symm.trans (Jwy Bd);refine ⟨?t,?B,?C⟩
  case B=>
   refine' Yba (st:=nst (top 32) 0) (name:="comes") (qual:="lost_alone.<locals>.comes") (i:=1) (lb:=lb_lost_alone) (caps:=[("ways",0)]) T.Jee B rfl rfl rfl rfl rfl (by rfl) Yb2 (λ_=>Jzh) sc_lost_alone.nd rfl rfl (by intro y hy;simp only [yo,yv,or_false] at hy;rcases hy with rfl <;> exact ⟨rfl,by decide,rfl,rfl,rfl⟩) (by decide +kernel) ?r1
   case r1=>
    refine' PSs.pb ?s2
    case s2=>
     refine' Jjt ?s3
     case s3=>
      exact (Jk1 (Jjw T.J6 G_found_by_rounds hr (by decide) (Jjp (Jjz Jk4 (by rfl) T.Jav Jkw (Jjp (pv 0) Jjr)) (Jjp (pv 1) Jjr))))
  refine ⟨ht,[.ref W],?_,rfl,λf H' s' hf clo=>?_⟩
  ·intro y hy;obtain rfl:y=(((("ways" :Str),0):Str×Nat),V.ref W):=ybq.mp hy;rfl
  ·refine ⟨_,rfl,W,_,rfl,.inl (SqL.of (s' _ _ hW)),_,rfl,f,W,Bd,up,hi,?_,clo,wa.same s',bg,hup,λM H2 s2 _ hM=>k M H2 (s'.trans s2) hM⟩;rw [yf,hl];rfl
theorem Jy6 {B:BTd} {up hi:Int}:∀(k:Nat) (l:List (Option Int)) (r:Int),l.length=nLv B->Jlo l < k->Jkj B up hi (Job B up hi k l r)= []/\(Job B up hi k l r).length=nLv B:=by
 intro k
 induction k with
 |zero=>intro l r _ h;omega
 |succ k ih=>
  intro l r hl h;show Jkj B up hi (if Jkj B up hi l= [] then l else _)= []/\(if Jkj B up hi l= [] then l else _).length=_;by_cases hf:Jkj B up hi l= []
  ·rw [if_pos hf];exact ⟨hf,hl⟩
  ·rw [if_neg hf];have:=Jog (r:=r+1) hl hf;exact ih _ _ (by rw [Jqq];exact hl) (by omega)
theorem Jsp (B:BTd) (up hi:Int):Jkj B up hi (Jnc B up hi)= []/\(Jnc B up hi).length=nLv B:=by
 refine Jy6 _ _ _ (by simp) ?_;unfold Jlo;refine Nat.lt_succ_of_le (yai (List.countP_le_length ..) ?_);simp
noncomputable def Jm9 (B:BTd) (up hi:Int) (n:Nat):Bool:=((Jnc B up hi).getD n none).isNone
noncomputable def Jlz (B:BTd) (up hi:Int):List Nat:=(yt (nLv B)).filter (Jm9 B up hi)
noncomputable def Jl2 (B:BTd) (up hi:Int) (n:Nat):Int:=(((usable B hi (B.lo+n)).filter (Jmu B up (B.lo+n) (Jnc B up hi))).head?).getD 0
theorem Jpw {B:BTd} {up hi:Int} {n:Nat} (h:n∈Jlz B up hi):n < nLv B/\((usable B hi (B.lo+n)).filter (Jmu B up (B.lo+n) (Jnc B up hi))).head?=some (Jl2 B up hi n):=by
 unfold Jlz at h;obtain ⟨h1,h2⟩:=yav.mp h;have lt:=yac.mp h1;refine ⟨lt,?_⟩;have d:=(Jsp B up hi).1;unfold Jkj at d;have q:=List.filter_eq_nil_iff.mp d n h1;unfold Jm9 at h2;rw [h2,Bool.true_and] at q;unfold Jo8 at q;unfold Jl2;cases hc:(usable B hi (B.lo+n)).filter (Jmu B up (B.lo+n) (Jnc B up hi)) with
 |nil=>
  refine absurd ?_ q;rw [Bool.not_eq_true',List.any_eq_false];intro x hx;exact List.filter_eq_nil_iff.mp hc x hx
 |cons x xs=>rfl
noncomputable def Jnk (B:BTd) (up hi:Int):List (Key×V):=(Jlz B up hi).map λn:Nat=>(yah (B.lo+n),V.int (Jl2 B up hi n))
theorem WayAt.put {B:BTd} {up hi lv:Int} {H:Hp} {p D:Addr} {ps:List Addr} {o:HO} (hup:0<=up) (hrn:0<=B.rn) (hD:H D=some (.lst (ps.map V.ref))) (h:WayAt B up hi lv H p):WayAt B up hi lv (upd H D o) p:=by
 obtain ⟨ob,rs,h1,h2⟩:=h;have n1:p≠D:=λz=>by rw [z,hD] at h1;cases h1
 refine ⟨ob,rs,by rw [Jjx n1];exact h1,Paired.mapP h2 λs r q=>RowE.put (rs:=ps.map λp=>(p,p)) hup hrn ?_ q⟩;rw [hD,List.map_map];rfl
noncomputable def spSets (a:Ad):Sp:=λvs H Q _=>∃(o:Addr) (Bd:BTd) (up hi:Int),vs= [.ref o,.int up,.int hi]/\H a.Jjm=some (.tbl lb_lost_alone)/\BX a H o Bd/\BGd Bd/\(0<=up/\up<=12)/\
 ∀p ob H',Same H H'->H' p=some (.frz ob (.dK (Jnk Bd up hi)))->Q (.ref p) H'
theorem sc_settings_alone:Jk0 ["basin","up","hi","ways","lost","held"] ["basin","up","hi"] (Jju (top 33)):=%[|0]
theorem Jmb (T:Tx K mg a) (Bm:Bmn mg base):FnOk P w K mg base CX0 6 a.Jg4 a.Jg5 ["basin","up","hi"] (spSets a):=by
 have G_levels_of:=%[Jvw|1];have G_ends_by_setting:=%[Jq2|1];have G_lost_alone:=Ju0 (P:=P) (w:=w) T Bm;have G_first_safe:=%[Jtw|1];refine %[T.Je.fn.ok,sc_settings_alone|2]
 ·obtain ⟨o,Bd,up,hi,rfl,_⟩:=h;rfl
 ·obtain ⟨o,Bd,up,hi,rfl,ht,bx,bg,hup,k⟩:=h;have n13:=Yb6 bg;refine ⟨?t,?B,?C⟩
  case B=>
   refine' Jjs ?s1 ?r1
   case s1=>
    exact (Jk5 (i:=3) sc_settings_alone.nd rfl (Or.inr rfl) (Jkl (N:=(["level","basin","up","hi"]:List Str)) (ini:=[none,some 0,some 1,some 2]) rfl (Jld (Jjw T.Ja G_levels_of hr (by decide) (Jjp (pv 0) Jjr))) (λ_ _ _ _ _=>(Jk2 (i:=0) (by decide +kernel:(["level","basin","up","hi"]:List Str).Nodup) rfl (ye rfl))) (λ_ _ _ _ _=>Jkp) (λ_ _ _ _ _=>(Jjw T.Jc G_ends_by_setting hr (by decide) (pa4 (pv 1) (pv 2) (pv 3) (pv 0))))))
   case r1=>
    refine' Jjs ?s3 ?r3
    case s3=>
     exact (Jk5 (i:=4) sc_settings_alone.nd rfl (Or.inr rfl) (Jjw T.Jd G_lost_alone hr (by decide) (Jjp (pv 3) Jjr)))
    case r3=>
     refine' Jjs ?s5 ?r5
     case s5=>
      exact (Jnz (i:=5) (N:=(["number","turns"]:List Str)) (ini:=[none,none]) sc_settings_alone.nd rfl (ye rfl) rfl (Jw0 (by rfl) T.Jas (Jjp (pv 4) Jjr)) (λ_ _ _ _ _=>(Jng (K:=K) (n:=2) rfl rfl (Jkb (Jk2 (i:=0) (by decide +kernel:(["number","turns"]:List Str).Nodup) rfl (ye rfl)) (Jkb (Jk2 (i:=1) (by decide +kernel:(["number","turns"]:List Str).Nodup) rfl (ye rfl)) Jlp)))) (λ_ _ _ _ _=>(Jnh (Jke Jrh (pv 1) Jls (Jkg _)))) (λ_ _ _ _ _=>(pv 0)))
     case r5=>
      refine' Jjt ?s7
      case s7=>
       exact (Jk1 (Jko (Jsd rfl) (by rfl) T.Jar Jz8 (Jjp (Jkl (N:=(["number","lost","basin","ways"]:List Str)) (ini:=[none,some 4,some 0,some 3]) rfl (Jld (pv 5)) (λ_ _ _ _ _=>(Jk2 (i:=0) (by decide +kernel:(["number","lost","basin","ways"]:List Str).Nodup) rfl (ye rfl))) (λ_ _ _ _ _=>Jkp) (λ_ _ _ _ _=>(Jmm (Jjp (Jk7 Jkk (Jm2 (K:=K) rfl (pv 2) (by rfl)) (pv 0)) (Jjp (Jjw T.Jf G_first_safe hr (by decide) (Jjp (Jk9 (Jn4 (K:=K) rfl) (pv 3) (pv 0) (λ_ _=>rfl)) (Jjp (pv 1) Jjr))) Jjr))))) Jjr)))
  refine ⟨_,rfl,o,Bd,rfl,bx,bg,λL H1 s1 hL=>⟨L,rfl,⟨_,SqL.of hL⟩,λD hD=>?_⟩⟩;refine Jlf (K:=K) (xs:=(Jsq Bd).map V.int) (λi σ H'=>(∃o',σ= [o',some (.ref o),some (.int up),some (.int hi)])/\Same H1 H'/\∃ps:List Addr,H' D=some (.lst (ps.map V.ref))/\Paired (λlv p=>WayAt Bd up hi lv H' p) ((Jsq Bd).take i) ps) ⟨⟨_,rfl⟩,Same.upd hD,[],Jjq,.nil⟩ (λi σ H' _ ⟨_,sm,_⟩=>SqL.of (sm _ _ hL)) ?_ ?_
  ·rintro i x σ H' hx ⟨⟨o1,rfl⟩,sm,ps,hDs,pr⟩;rw [ym] at hx;obtain ⟨lv,hlv,rfl⟩:=yx.mp hx;have il:i < (Jsq Bd).length:=(yq.mp hlv).1;have rg:0<=lv/\lv<=12:=by
    have e:=(yq.mp hlv).2;unfold Jsq at e il;simp at e il;have:=bg.lo;have:=bg.hi;omega
   refine Jl1 ⟨_,rfl,_,rfl,_,rfl,_,rfl,o,Bd,up,hi,lv,rfl,(bx.same s1).same sm,bg,hup,rg,λp H2 s2 wp=>?_⟩;have hD2:=s2 _ _ hDs;have lp:ps.length=i:=by
    have e1:=Paired.length pr;rw [yaj] at e1;omega
   rw [Jwy] at il;refine ⟨_,hD2,?_,⟨_,rfl⟩,?_,ps++ [p],?_,?_⟩
   ·rw [yf];exact Jkc (by omega)
   ·intro c2 o' z;rw [Jjx (Jjy z hD)];exact s2 _ _ (sm _ _ z)
   ·rw [Jjq,yz];rfl
   ·rw [yao,hlv];exact Paired.snoc (Paired.mapP pr λlv' p' q=>(q.same s2).put hup.1 bg.rn.1 hD2) (wp.put hup.1 bg.rn.1 hD2)
  rintro σ2 H2 ⟨_,s2,ps,hW,pr⟩;rw [yak (by rw [yf];exact yi _)] at pr;have s02:=s1.trans s2;refine ⟨_,rfl,D,Bd,up,hi,rfl,s02 _ _ ht,⟨ps,hW,pr⟩,bg,hup,λM H3 s3 hM=>?_⟩;have ll:=(Jsp Bd up hi).2;have ef:∀(p:Nat->Bool) (i:Nat),(yt (i+1)).filter p=(yt i).filter p++(if p i=true then [i] else []):=by
   intro p i;rw [ybr,List.filter_append];congr 1;by_cases c:p i=true <;> simp [c]
  refine ⟨_,rfl,M,rfl,⟨_,SqL.of hM⟩,λD5 hD5=>?_⟩;refine Yak (K:=K) (a:=M) (xs:=(Jnc Bd up hi).map oV) (λi σ H'=>(∃o1 o2,σ= [o1,o2])/\Same H3 H'/\H' D5=some (.lst (nsV ((yt i).filter (Jm9 Bd up hi))))) ⟨⟨_,_,rfl⟩,Same.upd hD5,Jjq⟩ (λi σ H' _ ⟨_,sm,_⟩=>SqL.of (sm _ _ hM)) ?_ ?_
  ·rintro i x σ H' T1 hx ⟨⟨o1,o2,rfl⟩,sm,hDs⟩ hT;rw [ym] at hx;obtain ⟨e,he,rfl⟩:=yx.mp hx;have il:i < nLv Bd:=by have:=(yq.mp he).1;omega
   have eh:Jm9 Bd up hi i=e.isNone:=by unfold Jm9;rw [yy,he];rfl
   have sT:=Same.upd (o:=.tup [.int i,oV e]) hT;refine ⟨T1,_,rfl,SqT.of Jjq,rfl,_,_,rfl,_,_,rfl,rfl,?_⟩;refine ⟨_,rfl,rfl,_,rfl,?_⟩;rw [Jvp,<-eh];have hDs2:=sT _ _ hDs;refine Jnu (λq=>?_) (λq=>?_)
   ·refine ⟨_,rfl,_,hDs2,?_,⟨_,_,rfl⟩,?_,?_⟩
    ·unfold nsV;rw [yf];refine Jkc (yai (ych _ _) ?_);rw [yau];omega
    ·intro c2 o' z;rw [Jjx (Jjy z hD5)];exact sT _ _ (sm _ _ z)
    ·rw [Jjq,ef,if_pos q];unfold nsV;rw [yz];rfl
   ·refine ⟨⟨_,_,rfl⟩,sm.trans sT,?_⟩;rw [ef,if_neg q,yaz];exact hDs2
  rintro σ4 H4 ⟨_,s4,hDs⟩;rw [yf,ll] at hDs;have hDs:H4 D5=some (.lst (nsV (Jlz Bd up hi))):=hDs;obtain ⟨dx,g,ho,gx⟩:=bx;have hhl:(Jlz Bd up hi).length<=13:=by
   unfold Jlz;refine yai (ych _ _) ?_;rw [yau];exact n13
  refine ⟨_,rfl,D5,rfl,⟨_,SqL.of hDs⟩,λD6 hD6=>?_⟩;refine Jlf (K:=K) (xs:=nsV (Jlz Bd up hi)) (λi σ H'=>(∃o',σ= [o',some (.ref M),some (.ref o),some (.ref D)])/\Same H4 H'/\∃ts:List Addr,H' D6=some (.lst (ts.map V.ref))/\Paired (λ(n:Nat) t=>H' t=some (.tup [.int (Bd.lo+n),.int (Jl2 Bd up hi n)])) ((Jlz Bd up hi).take i) ts) ⟨⟨_,rfl⟩,Same.upd hD6,[],Jjq,.nil⟩ (λi σ H' _ ⟨_,sm,_⟩=>SqL.of (sm _ _ hDs)) ?_ ?_
  ·rintro i x σ H' hx ⟨⟨o1,rfl⟩,sm,ts,hD,pt⟩;unfold nsV at hx;rw [ym] at hx;obtain ⟨n,hn,rfl⟩:=yx.mp hx;have il:i < (Jlz Bd up hi).length:=(yq.mp hn).1;obtain ⟨nl,hf⟩:=Jpw (yaa hn);have s24:=(s3.trans s4).trans sm;obtain ⟨p,hp,wp⟩:=Jkn pr (i:=n) (x:=Bd.lo+n) (by unfold Jsq;simp [show n < (Bd.hi+1 - Bd.lo).toNat from nl]);refine Jl1 ⟨_,rfl,o,_,dx,_,_,rfl,s24 _ _ (s02 _ _ ho),T.Jdk,T.Je2,rfl,_,rfl,_,_,rfl,rfl,_,rfl,_,rfl,D,_,(n:Int),_,rfl,rfl,SqL.of (s24 _ _ hW),Jl8 (j:=n) (by rw [ym,hp];rfl),_,rfl,p,M,Bd,up,hi,Bd.lo+n,Jl2 Bd up hi n,Jnc Bd up hi,rfl,wp.same s24,(s4.trans sm) _ _ hM,ll,bg,hup,hf,λH5 s5=>?_⟩;refine ⟨(show 2<=sizeLine by decide),λT1 hT=>?_⟩;have sT:=Same.upd (o:=.tup [.int (Bd.lo+n),.int (Jl2 Bd up hi n)]) hT;have hD2:=sT _ _ (s5 _ _ hD);have lt:ts.length=i:=by
    have e1:=Paired.length pt;rw [yaj] at e1;omega
   have nt:∀{t:Addr} {xs:List V},(upd H5 T1 (.tup [.int (Bd.lo+n),.int (Jl2 Bd up hi n)])) t=some (.tup xs)->t≠D6:=λh z=>by rw [z,hD2] at h;cases h
   refine ⟨_,hD2,?_,⟨_,rfl⟩,?_,ts++ [T1],?_,?_⟩
   ·rw [yf];exact Jkc (by omega)
   ·intro c2 o' z;rw [Jjx (Jjy z hD6)];exact sT _ _ (s5 _ _ (sm _ _ z))
   ·rw [Jjq,yz];rfl
   ·rw [yao,hn];refine Paired.snoc (Paired.mapP pt λm t q=>?_) ?_
    ·have q2:=sT _ _ (s5 _ _ q);rw [Jjx (nt q2)];exact q2
    ·rw [Jjx (nt Jjq)];exact Jjq
  rintro σ6 H6 ⟨_,s6,ts,hD,pt⟩;rw [yak (by unfold nsV;rw [yf];exact yi _)] at pt;refine ⟨D6,_,Jnk Bd up hi,rfl,hD,?_,?_,?_,λp ob hp=>k p ob _ (((s02.trans s3).trans (s4.trans s6)).trans (Same.upd hp)) Jjq⟩
  ·have go:∀{ns:List Nat} {ts:List Addr},Paired (λ(n:Nat) t=>H6 t=some (.tup [.int (Bd.lo+n),.int (Jl2 Bd up hi n)])) ns ts->Jv8 H6 (ts.map V.ref) (ns.map λn:Nat=>(yah (Bd.lo+n),V.int (Jl2 Bd up hi n))):=by
    intro ns ts h
    induction h with
    |nil=>exact .nil
    |cons h t ih=>exact .cons ⟨_,rfl,h⟩ ih
   exact go pt
  ·unfold Jnk;rw [yf];omega
  ·unfold Jnk;rw [List.map_map];refine yby.map _ (λx y h z=>h ?_) (yby.filter _ List.nodup_range);have:=yah.inj z;omega
theorem Ju5:Jk0 ["names"] ["names"] (Jju (top 65)):=%[|0]
theorem Jpm (T:Tx K mg a):FnOk P w K mg base CX0 1 a.Jhk a.Jhl ["names"] (Yca K):=by
 refine %[T.Js.fn.ok,Ju5|2]
 ·obtain ⟨l,zs,rfl,_⟩:=h;rfl
 ·obtain ⟨l,zs,rfl,hq,hz,k⟩:=h;refine ⟨_,(Jjt (Jk1 (Jm1 Jnp (Jjz Jsf (by rfl) T.Jav Jkw (Jjp (Jko (Jsg rfl) (by rfl) T.Jb0 Yag (Jjp (pv 0) Jjr)) Jjr)) (Jjz Jk4 (by rfl) T.Jav Jkw (Jjp (pv 0) Jjr)) (Jkg _)))),?_⟩;refine ⟨_,rfl,l,zs,rfl,hq,hz,λt ht=>⟨t,zs,rfl,Jjq,?_⟩⟩;have s1:=Same.upd (o:=TxS P w t zs) ht;refine ⟨_,rfl,l,_,rfl,.inl (s1.seq hq),rfl,?_⟩;have e:decide (V.int ((uq zs).length:Nat)=V.int ((zs.map V.str).length:Nat))=decide ((uq zs).length=zs.length):=by
   rw [yf];by_cases h:(uq zs).length=zs.length
   ·rw [decide_eq_true h,decide_eq_true (by rw [h])]
   ·rw [decide_eq_false h,decide_eq_false (λq=>h (by have:=V.int.inj q;omega))]
  rw [e];exact k _ s1
theorem Ju4:Jk0 ["thing"] ["thing"] (Jju (top 66)):=%[|0]
theorem Jtu (T:Tx K mg a):FnOk P w K mg base CX0 2 a.Jhm a.Jhn ["thing"] (Yby K a):=by
 have G_are_unlike:=%[Jpm|1];refine %[T.Jt.fn.ok,Ju4|2]
 ·obtain ⟨l,os,Bs,rfl,_⟩:=h;rfl
 ·obtain ⟨l,os,Bs,rfl,hl,bl,hn,nd,k⟩:=h;have len:=bl.len;refine ⟨?t,?B,?C⟩
  case B=>
   refine' Jjs ?s1 ?r1
   case s1=>
    refine' Jkd ?c2 ?a2 ?b2
    case c2=>
     exact (PW.pt (Jot (Jkh (Jkf (Jjz Jse (by rfl) T.Jau Jka (Jjp (pv 0) (Jjp (Jmm (Jjp (Jlb (v:=.ty "list") (by rfl) T.Jaw Jp3 rfl) (Jjp (Jlb (v:=.ty "tuple") (by rfl) T.Jb4 Jl7 rfl) Jjr))) Jjr))))) (Jou (Jkh (Jos Jn7 Jn7 Jjv (Jjz Jk4 (by rfl) T.Jav Jkw (Jjp (pv 0) Jjr)) (Jlc (by rfl) T.Jam (v:=.int 16) ⟨_,rfl⟩))))))
    case a2=>
     refine' Jjt ?s3
     case s3=>
      exact (Jk1 Jlg)
    case b2=>
     exact Jk3
   case r1=>
    refine' Jjs ?s7 ?r7
    case s7=>
     refine' Jkd ?c8 ?a8 ?b8
     case c8=>
      exact (Jkh (Jkf (Jjz (Jmz rfl) (by rfl) T.Jao Jpr (Jjp (Jkl (N:=(["basin"]:List Str)) (ini:=[none]) rfl (Jld (pv 0)) (λ_ _ _ _ _=>(Jk2 (i:=0) (by decide +kernel:(["basin"]:List Str).Nodup) rfl (ye rfl))) (λ_ _ _ _ _=>Jkp) (λ_ _ _ _ _=>(Jjz (Jug (K:=K) rfl) (by rfl) T.Jau Jka (Jjp (pv 0) (Jjp (Jlc (by rfl) T.Jbj (v:=.ref _) rfl) Jjr))))) Jjr))))
     case a8=>
      refine' Jjt ?s9
      case s9=>
       exact (Jk1 Jlg)
     case b8=>
      exact Jk3
    case r7=>
     refine' Jjt ?s13
     case s13=>
      exact (Jk1 (Jjw T.Js G_are_unlike hr (by decide) (Jjp (Jkl (N:=(["basin"]:List Str)) (ini:=[none]) rfl (Jld (pv 0)) (λ_ _ _ _ _=>(Jk2 (i:=0) (by decide +kernel:(["basin"]:List Str).Nodup) rfl (ye rfl))) (λ_ _ _ _ _=>Jkp) (λ_ _ _ _ _=>(Jm2 (K:=K) rfl (pv 0) (by rfl)))) Jjr)))
  refine ⟨_,rfl,(show 2<=sizeLine by decide),λp hp=>⟨_,p,_,_,.type "list",true,rfl,Jjq,rfl,.of (.lst (Same.upd hp _ _ hl)),rfl,_,rfl,Jkt ?_⟩⟩;have s1:=Same.upd (o:=.tup [.ty "list",.ty "tuple"]) hp;refine ⟨_,rfl,l,_,rfl,.inl (SqL.of (s1 _ _ hl)),_,_,rfl,rfl,_,rfl,ifT (by rw [yf];simp;omega) ⟨_,_,rfl,rfl,_,rfl,ifF (by rw [yf];simp;omega) ?_⟩⟩;refine ⟨_,rfl,l,rfl,⟨_,SqL.of (s1 _ _ hl)⟩,λD hD=>?_⟩;refine Jlf (K:=K) (a:=l) (xs:=os.map V.ref) (D:=D) (λi σ H'=>∃o,σ= [o]/\H' D=some (.lst ((yw i true).map V.bl))/\Same (upd H p (.tup [.ty "list",.ty "tuple"])) H') ⟨_,rfl,Jjq,Same.upd hD⟩ (λi σ H' _ ⟨o,_,_,sm⟩=>SqL.of (sm _ _ (s1 _ _ hl))) ?_ ?_
  ·rintro i v σ H' hv ⟨o,rfl,hDs,sm⟩;obtain ⟨ob,B,rfl,hB,dx,hb,gs⟩:=(bl.same (s1.trans sm)).get hv;have hi:i < os.length:=by have:=(yq.mp hv).1;rwa [yf] at this
   refine Jl1 ⟨_,rfl,_,_,_,_,true,rfl,rfl,.of (T.Jdl.ty T.Jdk hb),T.Jel,_,hDs,?_,_,rfl,?_,λc o z=>?_⟩
   ·rw [yf,ybs];exact Jkc (by omega)
   ·rw [Jjq,ycp,yz];rfl
   ·rw [Jjx (Jjy z hD)];exact sm _ _ z
  rintro σ H1 ⟨o,rfl,hDs,sm⟩;refine ⟨D,_,rfl,SqL.of hDs,_,rfl,ifF (by simp) ?_⟩;have s2:=s1.trans sm;refine ⟨_,rfl,l,rfl,⟨_,SqL.of (s2 _ _ hl)⟩,λD2 hD2=>?_⟩;refine Jlf (K:=K) (a:=l) (xs:=os.map V.ref) (D:=D2) (λi σ H'=>∃o,σ= [o]/\H' D2=some (.lst (((Bs.take i).map (·.z)).map V.str))/\Same H1 H') ⟨_,rfl,Jjq,Same.upd hD2⟩ (λi σ H' _ ⟨o,_,_,sm⟩=>SqL.of (sm _ _ (s2 _ _ hl))) ?_ ?_
  ·rintro i v σ H' hv ⟨o,rfl,hDs,sm3⟩;obtain ⟨ob,B,rfl,hB,dx,hb,gs⟩:=(bl.same (s2.trans sm3)).get hv;refine Jl1 ⟨_,rfl,ob,_,dx,_,_,rfl,hb,T.Jdk,T.Je1,rfl,_,hDs,?_,_,rfl,?_,λc o z=>?_⟩
   ·rw [yf,yf,yaj];exact Jkc (by omega)
   ·rw [Jjq,yao,hB];simp
   ·rw [Jjx (Jjy z hD2)];exact sm3 _ _ z
  rintro σ H2 ⟨o,rfl,hDs,sm3⟩;rw [yf,yak (by omega)] at hDs;refine ⟨D2,Bs.map (·.z),rfl,SqL.of hDs,by rw [yf];omega,λH3 s3=>?_⟩;rw [Jxu nd,decide_eq_true rfl];exact k _ ((s2.trans sm3).trans s3)
theorem sc_are_towns:Jk0 ["thing","basins","names"] ["thing","basins"] (Jju (top 67)):=%[|0]
theorem Jvs (T:Tx K mg a):FnOk P w K mg base CX0 2 a.Jho a.Jhp ["thing","basins"] (Ye9 K a):=by
 have G_are_unlike:=%[Jpm|1];refine %[T.Ju.fn.ok,sc_are_towns|2]
 ·obtain ⟨l,m,os,ts,Bs,Ts,rfl,_⟩:=h;rfl
 ·obtain ⟨l,m,os,ts,Bs,Ts,rfl,hl,bl,hn,hm,tl,tn,nd,inn,k⟩:=h;have len:=bl.len;have tlen:=tl.len;refine ⟨?t,?B,?C⟩
  case B=>
   refine' Jjs ?s1 ?r1
   case s1=>
    refine' Jkd ?c2 ?a2 ?b2
    case c2=>
     exact (PW.pt (Jot (Jkh (Jkf (Jjz Jse (by rfl) T.Jau Jka (Jjp (pv 0) (Jjp (Jmm (Jjp (Jlb (v:=.ty "list") (by rfl) T.Jaw Jp3 rfl) (Jjp (Jlb (v:=.ty "tuple") (by rfl) T.Jb4 Jl7 rfl) Jjr))) Jjr))))) (Jou (Jke Juy (Jjz Jk4 (by rfl) T.Jav Jkw (Jjp (pv 0) Jjr)) (Jlc (by rfl) T.Jan (v:=.int 3) ⟨_,rfl⟩) (Jkg _)))))
    case a2=>
     refine' Jjt ?s3
     case s3=>
      exact (Jk1 Jlg)
    case b2=>
     exact Jk3
   case r1=>
    refine' Jjs ?s7 ?r7
    case s7=>
     refine' Jkd ?c8 ?a8 ?b8
     case c8=>
      exact (Jkh (Jkf (Jjz (Jmz rfl) (by rfl) T.Jao Jpr (Jjp (Jkl (N:=(["town"]:List Str)) (ini:=[none]) rfl (Jld (pv 0)) (λ_ _ _ _ _=>(Jk2 (i:=0) (by decide +kernel:(["town"]:List Str).Nodup) rfl (ye rfl))) (λ_ _ _ _ _=>Jkp) (λ_ _ _ _ _=>(Jjz (Jug (K:=K) rfl) (by rfl) T.Jau Jka (Jjp (pv 0) (Jjp (Jlc (by rfl) T.Jbk (v:=.ref _) rfl) Jjr))))) Jjr))))
     case a8=>
      refine' Jjt ?s9
      case s9=>
       exact (Jk1 Jlg)
     case b8=>
      exact Jk3
    case r7=>
     refine' Jjs ?s13 ?r13
     case s13=>
      exact (Jk5 (i:=2) sc_are_towns.nd rfl (Or.inr rfl) (Jkl (N:=(["basin"]:List Str)) (ini:=[none]) rfl (Jld (pv 1)) (λ_ _ _ _ _=>(Jk2 (i:=0) (by decide +kernel:(["basin"]:List Str).Nodup) rfl (ye rfl))) (λ_ _ _ _ _=>Jkp) (λ_ _ _ _ _=>(Jm2 (K:=K) rfl (pv 0) (by rfl)))))
     case r13=>
      refine' Jjt ?s15
      case s15=>
       exact (Jk1 (Jt2 (Jjw T.Js G_are_unlike hr (by decide) (Jjp (Jkl (N:=(["town"]:List Str)) (ini:=[none]) rfl (Jld (pv 0)) (λ_ _ _ _ _=>(Jk2 (i:=0) (by decide +kernel:(["town"]:List Str).Nodup) rfl (ye rfl))) (λ_ _ _ _ _=>Jkp) (λ_ _ _ _ _=>(Jm2 (K:=K) rfl (pv 0) (by rfl)))) Jjr)) (Jt5 (Jjz (Jmz rfl) (by rfl) T.Jao Jpr (Jjp (Jkl (N:=(["town","names"]:List Str)) (ini:=[none,some 2]) rfl (Jld (pv 0)) (λ_ _ _ _ _=>(Jk2 (i:=0) (by decide +kernel:(["town","names"]:List Str).Nodup) rfl (ye rfl))) (λ_ _ _ _ _=>Jkp) (λ_ _ _ _ _=>(Jm1 (Jyh (K:=K) rfl) (Jm2 (K:=K) rfl (pv 0) (by rfl)) (pv 1) (by with_unfolding_all rfl)))) Jjr)))))
  refine ⟨_,rfl,(show 2<=sizeLine by decide),λp hp=>⟨_,p,_,_,.type "list",true,rfl,Jjq,rfl,.of (.lst (Same.upd hp _ _ hm)),rfl,_,rfl,Jkt ?_⟩⟩;have s1:=Same.upd (o:=.tup [.ty "list",.ty "tuple"]) hp;refine ⟨_,rfl,m,_,rfl,.inl (SqL.of (s1 _ _ hm)),_,_,rfl,rfl,_,rfl,ifF (by rw [yf];simp;omega) ?_⟩;refine ⟨_,rfl,m,rfl,⟨_,SqL.of (s1 _ _ hm)⟩,λD hD=>?_⟩;refine Jlf (K:=K) (a:=m) (xs:=ts.map V.ref) (D:=D) (λi σ H'=>∃o,σ= [o]/\H' D=some (.lst ((yw i true).map V.bl))/\Same (upd H p (.tup [.ty "list",.ty "tuple"])) H') ⟨_,rfl,Jjq,Same.upd hD⟩ (λi σ H' _ ⟨o,_,_,sm⟩=>SqL.of (sm _ _ (s1 _ _ hm))) ?_ ?_
  ·rintro i v σ H' hv ⟨o,rfl,hDs,sm⟩;obtain ⟨ob,B,rfl,hB,dx,hb⟩:=(tl.same (s1.trans sm)).get hv;have hi:i < ts.length:=by have:=(yq.mp hv).1;rwa [yf] at this
   refine Jl1 ⟨_,rfl,_,_,_,_,true,rfl,rfl,.of (T.Jdo.ty T.Jdn hb),T.Jem,_,hDs,?_,_,rfl,?_,λc o z=>?_⟩
   ·rw [yf,ybs];exact Jkc (by omega)
   ·rw [Jjq,ycp,yz];rfl
   ·rw [Jjx (Jjy z hD)];exact sm _ _ z
  rintro σ H1 ⟨o,rfl,hDs,sm⟩;refine ⟨D,_,rfl,SqL.of hDs,_,rfl,ifF (by simp) ?_⟩;have s2:=s1.trans sm;refine ⟨_,rfl,l,rfl,⟨_,SqL.of (s2 _ _ hl)⟩,λD2 hD2=>?_⟩;refine Jlf (K:=K) (a:=l) (xs:=os.map V.ref) (D:=D2) (λi σ H'=>∃o,σ= [o]/\H' D2=some (.lst (((Bs.take i).map (·.z)).map V.str))/\Same H1 H') ⟨_,rfl,Jjq,Same.upd hD2⟩ (λi σ H' _ ⟨o,_,_,sm⟩=>SqL.of (sm _ _ (s2 _ _ hl))) ?_ ?_
  ·rintro i v σ H' hv ⟨o,rfl,hDs,sm3⟩;obtain ⟨ob,B,rfl,hB,dx,hb,gs⟩:=(bl.same (s2.trans sm3)).get hv;refine Jl1 ⟨_,rfl,ob,_,dx,_,_,rfl,hb,T.Jdk,T.Je1,rfl,_,hDs,?_,_,rfl,?_,λc o z=>?_⟩
   ·rw [yf,yf,yaj];exact Jkc (by omega)
   ·rw [Jjq,yao,hB];simp
   ·rw [Jjx (Jjy z hD2)];exact sm3 _ _ z
  rintro σ H2 ⟨o,rfl,hD2s,sm3⟩;rw [yf,yak (by omega)] at hD2s;have s3:=s2.trans sm3;refine ⟨_,rfl,m,rfl,⟨_,SqL.of (s3 _ _ hm)⟩,λD3 hD3=>?_⟩;refine Jlf (K:=K) (a:=m) (xs:=ts.map V.ref) (D:=D3) (λi σ H'=>∃o,σ= [o]/\H' D3=some (.lst (((Ts.take i).map (·.z)).map V.str))/\Same H2 H') ⟨_,rfl,Jjq,Same.upd hD3⟩ (λi σ H' _ ⟨o,_,_,sm⟩=>SqL.of (sm _ _ (s3 _ _ hm))) ?_ ?_
  ·rintro i v σ H' hv ⟨o,rfl,hDs,sm4⟩;obtain ⟨ob,B,rfl,hB,dx,hb⟩:=(tl.same (s3.trans sm4)).get hv;refine Jl1 ⟨_,rfl,ob,_,dx,_,_,rfl,hb,T.Jdn,T.Je7,rfl,_,hDs,?_,_,rfl,?_,λc o z=>?_⟩
   ·rw [yf,yf,yaj];exact Jkc (by omega)
   ·rw [Jjq,yao,hB];simp
   ·rw [Jjx (Jjy z hD3)];exact sm4 _ _ z
  rintro σ H3 ⟨o,rfl,hD3s,sm4⟩;rw [yf,yak (by omega)] at hD3s;refine ⟨D3,Ts.map (·.z),rfl,SqL.of hD3s,by rw [yf];omega,λH4 s4=>⟨_,rfl,ifT (by rw [Jxu nd,decide_eq_true rfl]) ?_⟩⟩;have s5:=(s3.trans sm4).trans s4;have hD24:=s4 _ _ (sm4 _ _ hD2s);refine ⟨_,rfl,m,rfl,⟨_,SqL.of (s5 _ _ hm)⟩,λD4 hD4=>?_⟩;refine Jlf (K:=K) (a:=m) (xs:=ts.map V.ref) (D:=D4) (λi σ H'=>∃o,σ= [o,some (.ref D2)]/\H' D4=some (.lst ((yw i true).map V.bl))/\Same H4 H') ⟨_,rfl,Jjq,Same.upd hD4⟩ (λi σ H' _ ⟨o,_,_,sm⟩=>SqL.of (sm _ _ (s5 _ _ hm))) ?_ ?_
  ·rintro i v σ H' hv ⟨o,rfl,hDs,sm6⟩;obtain ⟨ob,B,rfl,hB,dx,hb⟩:=(tl.same (s5.trans sm6)).get hv;have hi:i < ts.length:=by have:=(yq.mp hv).1;rwa [yf] at this
   refine Jl1 ⟨_,rfl,ob,_,dx,_,_,rfl,hb,T.Jdn,T.Je8,rfl,_,rfl,D2,_,rfl,.inl (SqL.of (sm6 _ _ hD24)),rfl,by simp [Jpl],?_⟩;have e:inV (V.str B.b) ((Bs.map (·.z)).map V.str)=true:=by
    obtain ⟨z,hz,ez⟩:=ybd.mp (inn B (yaa hB));unfold inV;refine yco.mpr ⟨V.str z.z,ybd.mpr ⟨z.z,ybd.mpr ⟨z,hz,rfl⟩,rfl⟩,?_⟩;simp [eqV,ez]
   show ∃ys,_;rw [if_neg yab,e];refine ⟨_,hDs,?_,_,rfl,?_,λc o z=>?_⟩
   ·rw [yf,ybs];exact Jkc (by omega)
   ·rw [Jjq,ycp,yz];rfl
   ·rw [Jjx (Jjy z hD4)];exact sm6 _ _ z
  rintro σ H5 ⟨o,rfl,hD4s,sm6⟩;refine ⟨D4,_,rfl,SqL.of hD4s,?_⟩;rw [show (yw (ts.map V.ref).length true).all id=true by simp];exact k _ (s5.trans sm6)
theorem Jpc:Jk0 ["self","thing"] ["self","thing"] (Jju (Jk8 (top 7) 0)):=%[|0]
theorem Jrz (T:Tx K mg a):FnOk P w K mg base CX0 1 a.Jf2 a.Jf3 ["self","thing"] (Jn8 K "thing"):=by
 refine %[T.Jc9.fn.ok,Jpc|2]
 ·obtain ⟨e,C,W,fI,y,rfl,_⟩:=h;rfl
 ·obtain ⟨e,C,W,fI,y,rfl,q,c,n,k⟩:=h;refine ⟨_,(Jjt (Jmw (pv 0) (pv 1) rfl)),?_⟩;exact ⟨_,rfl,_,rfl,e,C,W,fI,true,rfl,q,c,n,k⟩
theorem Jpd:Jk0 ["self","thing"] ["self","thing"] (Jju (Jk8 (top 8) 0)):=%[|0]
theorem Js0 (T:Tx K mg a):FnOk P w K mg base CX0 1 a.Jf4 a.Jf5 ["self","thing"] (Jn8 K "thing"):=by
 refine %[T.Jca.fn.ok,Jpd|2]
 ·obtain ⟨e,C,W,fI,y,rfl,_⟩:=h;rfl
 ·obtain ⟨e,C,W,fI,y,rfl,q,c,n,k⟩:=h;refine ⟨_,(Jjt (Jmw (pv 0) (pv 1) rfl)),?_⟩;exact ⟨_,rfl,_,rfl,e,C,W,fI,true,rfl,q,c,n,k⟩
theorem Jxr {H:Hp} {p q:Addr} {o u:HO} (h:p≠q):upd (upd H p o) q u=upd (upd H q u) p o:=by
 funext c;by_cases h1:c=p
 ·subst h1;rw [Jjq,Jjx h,Jjq]
 ·rw [Jjx h1];by_cases h2:c=q
  ·subst h2;rw [Jjq,Jjq]
  ·rw [Jjx h2,Jjx h2,Jjx h1]
noncomputable def Yt (c g b t:V):List (Str×V):=[("cloud",c),("gain",g),("basins",b),("towns",t)]
noncomputable def Ye8 (K:W.Frag) (a:Ad):Sp:=λvs H Q _=>∃(p dx l m:Addr) (c g:Int) (os ts:List Addr) (Bs:List Bsn) (Ts:List Twn),vs= [.ref p,.int c,.int g,.ref l,.ref m]/\H p=some (.ins a.Jjk dx [])/\(0<=c/\c<=12)/\(0<=g/\g<=c)/\H l=some (.lst (os.map V.ref))/\BasL K a H os Bs/\(1<=Bs.length/\Bs.length<=16)/\(Bs.map (·.z)).Nodup/\H m=some (.lst (ts.map V.ref))/\TwnL a H ts Ts/\Ts.length<=3/\(Ts.map (·.z)).Nodup/\(∀t∈Ts,t.b∈Bs.map (·.z))/\∀H' b t,Same H H'->H' b=some (.tup (os.map V.ref))->H' t=some (.tup (ts.map V.ref))->b≠p->t≠p->Q .non (upd H' p (.ins a.Jjk dx (Yt (.int c) (.int g) (.ref b) (.ref t))))
theorem Jm0 {i lo hi:Int} (h1:lo<=i) (h2:i<=hi):Jkq (.int i) lo hi=true:=by
 show (decide (lo<=i)&&decide (i<=hi))=true;rw [decide_eq_true h1,decide_eq_true h2];rfl
theorem Jqs:Jk0 ["self","cloud","gain","basins","towns"] ["self","cloud","gain","basins","towns"] (Jju (Jk8 (top 68) 0)):=%[|0]
theorem Jtt (T:Tx K mg a):FnOk P w K mg base (CXX P w) 4 a.Jhq a.Jhr ["self","cloud","gain","basins","towns"] (Ye8 K a):=by
 have G_is_whole:=%[Jli|1];have G_are_basins:=%[Jtu|1];have G_are_towns:=%[Jvs|1];have G_NoCloud___init__:=%[Jrz|1];have G_NoRiver___init__:=%[Js0|1];refine %[T.Jcq.fn.okX,Jqs|2]
 ·obtain ⟨p,dx,l,m,c,g,os,ts,Bs,Ts,rfl,_⟩:=h;rfl
 ·obtain ⟨p,dx,l,m,c,g,os,ts,Bs,Ts,rfl,hp,hc,hg,hl,bl,hn,nd,hm,tl,tn,tnd,inn,k⟩:=h;refine ⟨?t,?B,?C⟩
  case B=>
   refine' Jjs ?s1 ?r1
   case s1=>
    refine' Jkd ?c2 ?a2 ?b2
    case c2=>
     exact (Jkh (Jkf (Jjw T.J0 G_is_whole hr (by decide) (Jjp (pv 1) (Jjp Jjv (Jjp (Jlc (by rfl) T.Jal (v:=.int 12) ⟨_,rfl⟩) Jjr))))))
    case a2=>
     refine' Jjt ?s3
     case s3=>
      exact (Jkv Jkz rfl (Jlj T.Jcw G_NoCloud___init__ hr (by decide) T.Jc9.bd T.Jba (Jjp (pv 1) Jjr)))
    case b2=>
     exact Jk3
   case r1=>
    refine' Jjs ?s6 ?r6
    case s6=>
     refine' Jkd ?c7 ?a7 ?b7
     case c7=>
      exact (Jkh (Jkf (Jjw T.J0 G_is_whole hr (by decide) (Jjp (pv 2) (Jjp Jjv (Jjp (pv 1) Jjr))))))
     case a7=>
      refine' Jjt ?s8
      case s8=>
       exact (Jkv Jkz rfl (Jlj T.Jcw G_NoCloud___init__ hr (by decide) T.Jc9.bd T.Jba (Jjp (pv 2) Jjr)))
     case b7=>
      exact Jk3
    case r6=>
     refine' Jjs ?s11 ?r11
     case s11=>
      refine' Jkd ?c12 ?a12 ?b12
      case c12=>
       exact (Jkh (Jkf (Jjw T.Jt G_are_basins hr (by decide) (Jjp (pv 3) Jjr))))
      case a12=>
       refine' Jjt ?s13
       case s13=>
        exact (Jkv Jkz rfl (Jlj T.Jcx G_NoRiver___init__ hr (by decide) T.Jca.bd T.Jbb (Jjp (pv 3) Jjr)))
      case b12=>
       exact Jk3
     case r11=>
      refine' Jjs ?s16 ?r16
      case s16=>
       refine' Jkd ?c17 ?a17 ?b17
       case c17=>
        exact (Jkh (Jkf (Jjw T.Ju G_are_towns hr (by decide) (Jjp (pv 4) (Jjp (pv 3) Jjr)))))
       case a17=>
        refine' Jjt ?s18
        case s18=>
         exact (Jkv Jkz rfl (Jlj T.Jcx G_NoRiver___init__ hr (by decide) T.Jca.bd T.Jbb (Jjp (pv 4) Jjr)))
       case b17=>
        exact Jk3
      case r16=>
       refine' Jjs ?s21 ?r21
       case s21=>
        exact (Jlx (pv 0) (pv 1) rfl)
       case r21=>
        refine' Jjs ?s23 ?r23
        case s23=>
         exact (Jlx (pv 0) (pv 2) rfl)
        case r23=>
         refine' Jjs ?s25 ?r25
         case s25=>
          exact (Jlx (pv 0) (Jko Jl5 (by rfl) T.Jb4 Jl7 (Jjp (pv 3) Jjr)) rfl)
         case r25=>
          refine' Jjt ?s27
          case s27=>
           exact (Jlx (pv 0) (Jko Jl5 (by rfl) T.Jb4 Jl7 (Jjp (pv 4) Jjr)) rfl)
  refine ⟨_,rfl,_,0,12,rfl,.inl ⟨_,rfl⟩,_,rfl,ifF (by rw [Jm0 hc.1 hc.2];rfl) ?_⟩;refine ⟨_,rfl,_,rfl,_,0,c,rfl,.inl ⟨_,rfl⟩,_,rfl,ifF (by rw [Jm0 hg.1 hg.2];rfl) ?_⟩;refine ⟨_,rfl,l,os,Bs,rfl,hl,bl,hn,nd,λH1 s1=>⟨_,rfl,Jkt ?_⟩⟩;refine ⟨_,rfl,_,rfl,l,m,os,ts,Bs,Ts,rfl,s1 _ _ hl,bl.same s1,hn.2,s1 _ _ hm,tl.same s1,tn,tnd,inn,λH2 s2=>⟨_,rfl,Jkt ?_⟩⟩;have s3:=s1.trans s2;have hp2:=s3 _ _ hp;refine ⟨_,rfl,_,rfl,p,_,dx,[],rfl,hp2,T.Jdq,T.Jea,by simp,?_⟩;rw [show Jm4 "cloud" (.int c) []=([("cloud",.int c)]:List (Str×V)) from rfl];refine ⟨_,rfl,_,rfl,p,_,dx,_,rfl,Jjq,T.Jdq,T.Jeb,by simp,?_⟩;rw [show Jm4 "gain" (.int g) [("cloud",.int c)]=([("cloud",.int c),("gain",.int g)]:List (Str×V)) from Jlt (fs:=[("cloud",.int c)]) (show (["cloud"]:List Str).contains "gain" =false by decide +kernel),Jmq];have nl:l≠p:=λe=>by subst e;rw [hl] at hp;cases hp
  have nm:m≠p:=λe=>by subst e;rw [hm] at hp;cases hp
  refine ⟨_,rfl,l,_,rfl,.inl ⟨SqL.of (by rw [Jjx nl];exact s3 _ _ hl),λb hb=>?_⟩⟩;have nb:b≠p:=λe=>by subst e;rw [Jjq] at hb;cases hb
  rw [Jjx nb] at hb;rw [Jxr nb.symm];refine ⟨_,rfl,p,_,dx,_,rfl,Jjq,T.Jdq,T.Jec,by simp,?_⟩;rw [show Jm4 "basins" (.ref b) [("cloud",.int c),("gain",.int g)]=([("cloud",.int c),("gain",.int g),("basins",.ref b)]:List (Str×V)) from Jlt (fs:=[("cloud",.int c),("gain",.int g)]) (show (["cloud","gain"]:List Str).contains "basins" =false by decide +kernel),Jmq];have s4:=s3.trans (Same.upd (o:=.tup (os.map V.ref)) hb);refine ⟨_,rfl,m,_,rfl,.inl ⟨SqL.of (by rw [Jjx nm];exact s4 _ _ hm),λt ht=>?_⟩⟩;have nt:t≠p:=λe=>by subst e;rw [Jjq] at ht;cases ht
  rw [Jjx nt] at ht;rw [Jxr nt.symm];refine ⟨_,rfl,p,_,dx,_,rfl,Jjq,T.Jdq,T.Jed,by simp,?_⟩;rw [show Jm4 "towns" (.ref t) [("cloud",.int c),("gain",.int g),("basins",.ref b)]=(Yt (.int c) (.int g) (.ref b) (.ref t)) from Jlt (fs:=[("cloud",.int c),("gain",.int g),("basins",.ref b)]) (show (["cloud","gain","basins"]:List Str).contains "towns" =false by decide +kernel),Jmq];have s5:=Same.upd (o:=.tup (ts.map V.ref)) ht;exact k _ b t (s4.trans s5) (s5 _ _ Jjq) Jjq nb nt
noncomputable def TldAt (H:Hp) (t:Addr) (B:BTd):Prop:=∃m:Addr,H t=some (.tup [.str B.z,.int B.lo,.int B.hi,.int B.st,.int B.rn,.str B.G.kd,.ref m])/\H m=some (.lst (B.G.ns.map V.int))/\B.G.sv=none
theorem TldAt.same {H H':Hp} {t:Addr} {B:BTd} (s:Same H H') (h:TldAt H t B):TldAt H' t B:=by obtain ⟨m,h1,h2,h3⟩:=h;exact ⟨m,s _ _ h1,s _ _ h2,h3⟩
noncomputable def Ydx:Sp:=λvs H Q _=>∃(t:Addr) (B:BTd) (s lv:Int),vs= [.ref t,.int s,.int lv]/\TldAt H t B/\GGood B.G/\(0<=s/\s < (nOf B.G:Int))/\(0<=lv/\lv<=1000)/\Q (.int (lvG B.G s lv)) H
theorem sc_law_lets:Jk0 ["_law_told","_law_setting","_law_level","_law_mark"] ["_law_told","_law_setting","_law_level"] (Jju (top 77)):=%[|0]
theorem Jx2 (T:Tx K mg a):FnOk P w K mg base CX0 1 a.Ji8 a.Ji9 ["_law_told","_law_setting","_law_level"] Ydx:=by
 refine %[T.Ja2.fn.ok,sc_law_lets|2]
 ·obtain ⟨t,B,s,lv,rfl,_⟩:=h;rfl
 ·obtain ⟨t,B,s,lv,rfl,⟨m,ht,hm,sv⟩,gg,hs,hl,k⟩:=h;have hs':0<=s/\s < B.G.ns.length:=by unfold nOf at hs;rw [sv] at hs;exact hs
  obtain ⟨hat,hin⟩:=Jnd hs';have hmk:=gg.marks _ hin;have e:lvG B.G s lv=Joq B.G.kd (B.G.ns.getD s.toNat 0) lv:=by unfold lvG;rw [sv]
  rw [e] at k;refine ⟨?t,?B,?C⟩
  case B=>
   refine' Jjs ?s1 ?r1
   case s1=>
    exact (Jk5 (i:=3) sc_law_lets.nd rfl (ye rfl) (Jk9 Jki (Jk9 Jku (pv 0) Jjv (λ_ _=>rfl)) (pv 1) (λ_ _=>rfl)))
   case r1=>
    refine' Jjs ?s3 ?r3
    case s3=>
     refine' Jkd ?c4 ?a4 ?b4
     case c4=>
      exact (Jke Jnp (Jk9 Jku (pv 0) Jjv (λ_ _=>rfl)) Jlw (Jkg _))
     case a4=>
      refine' Jjt ?s5
      case s5=>
       exact (Jk1 (Jjz (Jm5 rfl) (by rfl) T.Jay Jo7 (Jjp (pv 3) (Jjp (pv 2) Jjr))))
     case b4=>
      exact Jk3
    case r3=>
     refine' Jjs ?s9 ?r9
     case s9=>
      refine' Jkd ?c10 ?a10 ?b10
      case c10=>
       exact (Jke Jnp (Jk9 Jku (pv 0) Jjv (λ_ _=>rfl)) Jlw (Jkg _))
      case a10=>
       refine' Jjt ?s11
       case s11=>
        exact (Jk1 (Jjz (Jmh rfl) (by rfl) T.Jax Jpt (Jjp Jjv (Jjp (Jk7 Jln (pv 2) (pv 3)) Jjr))))
      case b10=>
       exact Jk3
     case r9=>
      refine' Jjt ?s15
      case s15=>
       exact (Jk1 (Jk7 Jop (pv 2) (pv 3)))
  refine ⟨_,rfl,t,_,6,_,rfl,rfl,SqT.of ht,rfl,_,rfl,m,_,s,_,rfl,rfl,SqL.of hm,hat,?_⟩;generalize B.G.ns.getD s.toNat 0=mk at k hmk;have kd:=gg.kd;refine ⟨_,rfl,t,_,5,_,rfl,rfl,SqT.of ht,rfl,?_⟩;rcases kd with kd|kd|kd
  ·rw [kd] at k⊢;refine ⟨rfl,_,rfl,iteD rfl ?_⟩;exact ⟨_,rfl,_,rfl,_,_,rfl,k⟩
  ·rw [kd] at k⊢;refine ⟨rfl,_,rfl,Y7 (Jyv Jst) ?_⟩;refine ⟨_,rfl,t,_,5,_,rfl,rfl,SqT.of ht,by rw [kd];rfl,rfl,_,rfl,iteD rfl ?_⟩;refine ⟨_,rfl,_,rfl,_,_,rfl,rfl,_,_,rfl,?_⟩;have e2:(if lv - mk > 0 then lv - mk else 0)=Joq "flap" mk lv:=by
    unfold Joq;rw [if_neg Jst,if_pos rfl];split <;> split <;> omega
   show Q (.int (if lv - mk > 0 then lv - mk else 0)) H;rw [e2];exact k
  ·rw [kd] at k⊢;refine ⟨rfl,_,rfl,Y7 (Jyv Juv) ?_⟩;refine ⟨_,rfl,t,_,5,_,rfl,rfl,SqT.of ht,by rw [kd];rfl,rfl,_,rfl,Y7 (Jyv Juu) ?_⟩;have m1:1<=mk/\mk<=12:=by
    rw [kd] at hmk;exact hmk
   exact ⟨_,rfl,_,rfl,_,_,rfl,rfl,⟨by omega,Yb4 (by omega)⟩,k⟩
noncomputable def Ydw (a:Ad):Sp:=λvs H Q _=>∃(m:Addr) (kd:Str) (ns:List Int),vs= [.str kd,.ref m]/\H m=some (.lst (ns.map V.int))/\GGood ⟨kd,ns,none⟩/\∀(g:Addr) (H':Hp),Same H H'->GateAt (cOf a kd) H' g (ns.map V.int)->Q (.ref g) H'
theorem Jxh:Jk0 ["_law_kind","_law_marks_here"] ["_law_kind","_law_marks_here"] (Jju (top 75)):=%[|0]
theorem Jx1 (T:Tx K mg a):FnOk P w K mg base CX0 6 a.Ji4 a.Ji5 ["_law_kind","_law_marks_here"] (Ydw a):=by
 have G_StepGate___init__:=%[Jrc|1];have G_FlapGate___init__:=%[Jra|1];have G_PartGate___init__:=%[Jrb|1];refine %[T.Ja0.fn.ok,Jxh|2]
 ·obtain ⟨m,kd,ns,rfl,_⟩:=h;rfl
 ·obtain ⟨m,kd,ns,rfl,hm,gg,k⟩:=h;have hkd:Knd kd:=gg.kd;have har:Jme (Jmv kd) (ns.map V.int)=true:=gg.ns;refine ⟨?t,?B,?C⟩
  case B=>
   refine' Jjs ?s1 ?r1
   case s1=>
    refine' Jkd ?c2 ?a2 ?b2
    case c2=>
     exact (Jke Jnp (pv 0) Jlw (Jkg _))
    case a2=>
     refine' Jjt ?s3
     case s3=>
      exact (Jk1 (Jp6 T.Jd4 G_StepGate___init__.calm (hr.mono (by decide)) (by rfl) T.Jbg T.Jcf.bd .nil Jql (Jjp (pv 1) Jjr)))
    case b2=>
     exact Jk3
   case r1=>
    refine' Jjs ?s7 ?r7
    case s7=>
     refine' Jkd ?c8 ?a8 ?b8
     case c8=>
      exact (Jke Jnp (pv 0) Jlw (Jkg _))
     case a8=>
      refine' Jjt ?s9
      case s9=>
       exact (Jk1 (Jp6 T.Jda G_FlapGate___init__.calm (hr.mono (by decide)) (by rfl) T.Jbh T.Jci.bd .nil Jql (Jjp (pv 1) Jjr)))
     case b8=>
      exact Jk3
    case r7=>
     refine' Jjt ?s13
     case s13=>
      exact (Jk1 (Jp6 T.Jdg G_PartGate___init__.calm (hr.mono (by decide)) (by rfl) T.Jbi T.Jcl.bd .nil Jql (Jjp (pv 1) Jjr)))
  rcases hkd with rfl|rfl|rfl
  ·have e1:Jmv "step" =0:=if_neg ne_sp;have e2:cOf a "step" =a.Jjf:=if_pos rfl;have hr':Jme (0) (ns.map V.int)=true:=by rw [<-e1];exact har
   refine ⟨_,rfl,rfl,_,rfl,iteD rfl ⟨_,rfl,λg dx hg hd ne=>Jsm T.Jd2 T.Jdy hg hd ne ⟨ns.map V.int,.lst hm,λy hy=>Jw8 hy,hr',λH' s' ga=>?_⟩⟩⟩;exact k g H' s' (by rw [e2];exact ga)
  ·have e1:Jmv "flap" =0:=if_neg ne_fp;have e2:cOf a "flap" =a.Jjg:=by unfold cOf;rw [if_neg Jst,if_pos rfl]
   have hr':Jme (0) (ns.map V.int)=true:=by rw [<-e1];exact har
   refine ⟨_,rfl,rfl,_,rfl,Y7 (Jyv Jst) ⟨_,rfl,rfl,_,rfl,iteD rfl ⟨_,rfl,λg dx hg hd ne=>Jsm T.Jd8 T.Jdz hg hd ne ⟨ns.map V.int,.lst hm,λy hy=>Jw8 hy,hr',λH' s' ga=>?_⟩⟩⟩⟩;exact k g H' s' (by rw [e2];exact ga)
  ·have e1:Jmv "part" =1:=if_pos rfl;have e2:cOf a "part" =a.Jjh:=by unfold cOf;rw [if_neg Juv,if_neg Juu]
   have hr':Jme (1) (ns.map V.int)=true:=by rw [<-e1];exact har
   refine ⟨_,rfl,rfl,_,rfl,Y7 (Jyv Juv) ⟨_,rfl,rfl,_,rfl,Y7 (Jyv Juu) ⟨_,rfl,λg dx hg hd ne=>Jsm T.Jde T.Je0 hg hd ne ⟨ns.map V.int,.lst hm,λy hy=>Jw8 hy,hr',λH' s' ga=>?_⟩⟩⟩⟩;exact k g H' s' (by rw [e2];exact ga)
structure TGd (B:BTd):Prop where
 b:BGd B
 st:B.lo<=B.st/\B.st<=B.hi
 nm:Jrw B.z=true
 wd:Wd 50 B.z
noncomputable def Ydy (a:Ad):Sp:=λvs H Q _=>∃(t:Addr) (B:BTd),vs= [.ref t]/\TldAt H t B/\TGd B/\∀(o:Addr) (H':Hp),Same H H'->BX a H' o B->Q (.ref o) H'
theorem GS.gti {H:Hp} {x:V} {n:Nat} (T:Tx K mg a) (g:GS K a H x n):GtI K a H x true:=by
 cases g with
 |plain i ga l=>
  obtain ⟨dx,t,h1,h2⟩:=ga;rcases i with rfl|rfl|rfl
  ·exact ⟨_,.of (T.Jd3.ty T.Jd2 h1),T.Jei,T.Jeq,_,T.Jen,λ_=>rfl,by intro w';cases w'⟩
  ·exact ⟨_,.of (T.Jd9.ty T.Jd8 h1),T.Jej,T.Jer,_,T.Jeo,λ_=>rfl,by intro w';cases w'⟩
  ·exact ⟨_,.of (T.Jdf.ty T.Jde h1),T.Jek,T.Jes,_,T.Jep,λ_=>rfl,by intro w';cases w'⟩
theorem Jxi:Jk0 ["_law_told"] ["_law_told"] (Jju (top 76)):=%[|0]
theorem Jx3 (T:Tx K mg a):FnOk P w K mg base CX0 7 a.Ji6 a.Ji7 ["_law_told"] (Ydy a):=by
 have G__law_gate:=%[Jx1|1];have G_Basin___init__:=%[Jts|1];refine %[T.Ja1.fn.ok,Jxi|2]
 ·obtain ⟨t,B,rfl,_⟩:=h;rfl
 ·obtain ⟨t,B,rfl,⟨m,ht,hm,sv⟩,tg,k⟩:=h;have bg:=tg.b;have gg:GGood ⟨B.G.kd,B.G.ns,none⟩:=by
   have e:B.G=⟨B.G.kd,B.G.ns,none⟩:=by
    cases hG:B.G with
    |mk kd ns sv'=>
     rw [hG] at sv;cases sv;rfl
   rw [<-e];exact bg.G
  refine ⟨?t,?B,?C⟩
  case B=>
   refine' Jjt ?s1
   case s1=>
    refine' Jk1 ?e3_0
    case e3_0=>
     exact (Jp6 T.Jdm G_Basin___init__.calm (hr.mono (by decide)) (by rfl) T.Jbj T.Jco.bd .nil Jql (pa6 (Jk9 Jku (pv 0) Jjv (λ_ _=>rfl)) (Jk9 Jku (pv 0) Jjv (λ_ _=>rfl)) (Jk9 Jku (pv 0) Jjv (λ_ _=>rfl)) (Jk9 Jku (pv 0) Jjv (λ_ _=>rfl)) (Jk9 Jku (pv 0) Jjv (λ_ _=>rfl)) (Jjw T.Ja0 G__law_gate hr (by decide) (Jjp (Jk9 Jku (pv 0) Jjv (λ_ _=>rfl)) (Jjp (Jk9 Jku (pv 0) Jjv (λ_ _=>rfl)) Jjr)))))
  refine ⟨_,rfl,t,_,0,_,rfl,rfl,SqT.of ht,rfl,_,rfl,t,_,1,_,rfl,rfl,SqT.of ht,rfl,_,rfl,t,_,2,_,rfl,rfl,SqT.of ht,rfl,_,rfl,t,_,3,_,rfl,rfl,SqT.of ht,rfl,_,rfl,t,_,4,_,rfl,rfl,SqT.of ht,rfl,?_⟩;refine ⟨_,rfl,t,_,5,_,rfl,rfl,SqT.of ht,rfl,_,rfl,t,_,6,_,rfl,rfl,SqT.of ht,rfl,m,B.G.kd,B.G.ns,rfl,hm,gg,λg H1 s1 ga=>?_⟩;have gx:GX a H1 (.ref g) B.G:=by
   refine ⟨g,ga,?_⟩;rw [sv]
  have gs:GS K a H1 (.ref g) (nOf B.G):=gx.gs bg.G;intro x dx hx1 hd1 ne;have sn:Same H1 (upd (upd H1 dx (.own x)) x (.ins a.Jji dx [])):=λb o e=>by rw [Jjx (Jjy e hx1),Jjx (Jjy e hd1)];exact e
  have b1:=bg.lo;have b2:=bg.hi;have b3:=bg.rn;have b4:=tg.st;refine ⟨x,dx,.str B.z,.int B.lo,.int B.hi,.int B.st,.int B.rn,.ref g,true,none,rfl,Jjq,⟨.inr ⟨_,.of (.str B.z),rfl⟩,λy e=>by cases e;exact tg.wd⟩,.inl ⟨_,rfl⟩,.inl ⟨_,rfl⟩,.inl ⟨_,rfl⟩,.inl ⟨_,rfl⟩,(gs.gti T).same sn,.good B.lo B.hi tg.nm rfl rfl (Jm0 (by omega) (by omega)) (Jm0 (by omega) (by omega)) (Jm0 b4.1 b4.2) (Jm0 (by omega) (by omega)) rfl,λH2 s2=>⟨rfl,?_⟩⟩;have s3:Same H1 (upd H2 x (.ins a.Jji dx (basF (.str B.z) (.int B.lo) (.int B.hi) (.int B.st) (.int B.rn) (.ref g)))):=λb o e=>by rw [Jjx (Jjy e hx1)];exact s2 _ _ (sn _ _ e)
  exact k x _ (s1.trans s3) ⟨dx,_,Jjq,gx.same s3⟩
noncomputable def Ye3 (a:Ad):Sp:=λvs H Q _=>∃(o:Addr) (Bd:BTd) (up hi:Int),vs= [.ref o,.int up,.int hi]/\H a.Jjm=some (.tbl lb_lost_alone)/\BX a H o Bd/\BGd Bd/\(0<=up/\up<=12)/\(0<=hi/\hi<=12)/\
 ∀l H',Same H H'->H l=none->H' l=some (.lst ((Jlz Bd up hi).map λn:Nat=>V.int (Bd.lo+n)))->Q (.ref l) H'
theorem Jtc:Jk0 ["basin","up","hi"] ["basin","up","hi"] (Jju (top 35)):=%[|0]
theorem Jt1 (T:Tx K mg a) (Bm:Bmn mg base):FnOk P w K mg base (CXX P w) 7 a.Jg8 a.Jg9 ["basin","up","hi"] (Ye3 a):=by
 have G_refuse_no_bounds:=%[Jpa|1];have G_settings_alone:=Jmb (P:=P) (w:=w) T Bm;refine %[T.Jg.fn.okX,Jtc|2]
 ·obtain ⟨o,Bd,up,hi,rfl,_⟩:=h;rfl
 ·obtain ⟨o,Bd,up,hi,rfl,ht,bx,bg,hup,hhi,k⟩:=h;refine ⟨?t,?B,?C⟩
  case B=>
   refine' Jjs ?s1 ?r1
   case s1=>
    exact (Jlq (Jlk T.J9 G_refuse_no_bounds Jkz hr (by decide) (Jjp (pv 1) (Jjp (pv 2) Jjr))))
   case r1=>
    refine' Jjt ?s3
    case s3=>
     exact (Jk1 (Jko (Jvc rfl) (by rfl) T.Jaw Jp3 (Jjp (Jjw T.Je G_settings_alone hr (by decide) (Jjp (pv 0) (Jjp (pv 1) (Jjp (pv 2) Jjr)))) Jjr)))
  refine ⟨_,rfl,_,rfl,up,hi,rfl,hup,hhi,?_⟩;refine ⟨_,rfl,_,rfl,_,rfl,o,Bd,up,hi,rfl,ht,bx,bg,hup,λp ob H' sm hp=>⟨p,ob,_,rfl,hp,λl hl=>?_⟩⟩;refine k l _ (sm.trans (Same.upd hl)) ?_ ?_
  ·cases hc:H l with
   |none=>rfl
   |some u=>rw [sm _ _ hc] at hl;cases hl
  ·rw [Jjq];unfold Jnk;rw [List.map_map];rfl
theorem Jw5 {t1 t2:TS} {D:Ends} {σ:L2.St} {H:Hp} (Mid:L2.St->Hp->Prop) (h1:∀R,(∀σ H,Mid σ H->R σ H)->t1 {D with nx:=R} σ H) (h2:∀σ H,Mid σ H->t2 D σ H):Jqw t1 t2 D σ H:=h1 _ h2
theorem lo_eq (z:Str):(if decide (V.str z=V.str ("part" :Str))=true then (1:Int) else 0)=Jmv z:=by
 unfold Jmv;by_cases h:z=("part" :Str)
 ·rw [if_pos h,if_pos (decide_eq_true (by rw [h]))]
 ·rw [if_neg h,if_neg (by rw [decide_eq_false (Jyv h)];decide)]
theorem lo_01 (z:Str):Jmv z=0\/Jmv z=1:=by
 unfold Jmv;split
 ·exact .inr rfl
 ·exact .inl rfl
theorem Joc:∀(ns:List Int) (lo:Int),ns.Pairwise (· < ·)->(∀n∈ns,lo<=n/\n<=12)->Jkx lo (ns.map V.int)=true:=by
 intro ns
 induction ns with
 |nil=>intro lo _ _;rfl
 |cons x r ih=>
  intro lo h b;have hx:=b x (yal ..);obtain ⟨h1,h2⟩:=List.pairwise_cons.mp h;have q:=ih (x+1) h2 λn hn=>⟨by have:=h1 n hn;omega,(b n (yaf _ hn)).2⟩;show ((decide (lo<=x)&&decide (x<=12))&&Jkx (x+1) (r.map V.int))=true;rw [decide_eq_true hx.1,decide_eq_true hx.2,q];rfl
theorem Yf:∀(ns:List Int) (lo:Int),Jkx lo (ns.map V.int)=true->∀n∈ns,lo<=n/\n<=12:=by
 intro ns
 induction ns with
 |nil=>intro lo _ n hn;simp at hn
 |cons x r ih=>
  intro lo h n hn;have h':((decide (lo<=x)&&decide (x<=12))&&Jkx (x+1) (r.map V.int))=true:=h;rw [yag,yag,decide_eq_true_eq,decide_eq_true_eq] at h';rcases yo.mp hn with rfl|hn
  ·exact h'.1
  ·have:=ih _ h'.2 n hn;omega
theorem cut4 (ns:List Int):Jmf (ns.map V.int) none (some 4)=(ns.take 4).map V.int:=by
 unfold Jmf;rw [HT.sIx_none,show (some (4:Int))=some ((4:Nat):Int) from rfl,HT.sIx_nat,yf,List.drop_zero,Nat.sub_zero,List.map_take];by_cases h:4<=ns.length
 ·rw [Nat.min_eq_left h]
 ·rw [Nat.min_eq_right (by omega),yak (by rw [yf];exact yi _),yak (by rw [yf];omega)]
theorem Jya {lo:Int} {ns zs:List Int} (h0:0<=lo) (h1:lo<=1) (hm:Jme lo (zs.map V.int)=true) (hp:ns.Pairwise (· < ·)) (hi:∀n,n∈ns↔n∈zs++ [lo]):Jme lo ((ns.take 4).map V.int)=true:=by
 unfold Jme at hm⊢;rw [yag] at hm;have mb:=Yf zs lo hm.2;have all:∀n∈ns,lo<=n/\n<=12:=λn hn=>by
  rcases ybw.mp ((hi n).mp hn) with h|h
  ·exact mb n h
  ·have:=ybq.mp h;omega
 have ne:1<=ns.length:=by
  have:lo∈ns:=(hi lo).mpr (ybw.mpr (.inr (ybq.mpr rfl)));cases ns with
  |nil=>simp at this
  |cons _ _=>simp
 rw [yag];refine ⟨decide_eq_true ?_,Joc _ _ (hp.sublist (List.take_sublist 4 ns)) λn hn=>all n (List.mem_of_mem_take hn)⟩;rw [yf,yaj];omega
noncomputable def TldM (H:Hp) (t m:Addr) (B:BTd):Prop:=H t=some (.tup [.str B.z,.int B.lo,.int B.hi,.int B.st,.int B.rn,.str B.G.kd,.ref m])/\H m=some (.lst (B.G.ns.map V.int))/\B.G.sv=none
theorem TldM.at {H:Hp} {t m:Addr} {B:BTd} (h:TldM H t m B):TldAt H t B:=⟨m,h⟩
theorem TldM.but {p t m:Addr} {H H':Hp} {B:BTd} (st:Strm H p) (b:But p H H') (hm:m≠p) (h:TldM H t m B):TldM H' t m B:=⟨b.1 _ _ (Jne st h.1 (λ_ _ _ z=>by cases z)) h.1,b.1 _ _ hm h.2.1,h.2.2⟩
theorem TldM.same {t m:Addr} {H H':Hp} {B:BTd} (s:Same H H') (h:TldM H t m B):TldM H' t m B:=⟨s _ _ h.1,s _ _ h.2.1,h.2.2⟩
theorem Ycb {zs:List Str} {s:Int} (h:0<=s/\s < zs.length):∃z,atI (zs.map V.str) s=some (.str z)/\z∈zs:=by
 obtain ⟨i,rfl⟩:=yct h.1;have hi:i < zs.length:=by omega
 exact ⟨zs[i],Jl8 (by rw [ym,yn hi];rfl),ybu hi⟩
theorem Jrr {i:Int} (h0:0<=i) (h:i<=1000):i.natAbs.log2 < 9000:=Yb4 (by omega)
noncomputable def Jxn:Sp:=λvs H Q _=>∃(p:Addr) (z:Str),vs= [.ref p,.str z]/\Strm H p/\Jrw z=true/\Wd 50 z/\∀(t m:Addr) (B:BTd) (H':Hp),But p H H'->m≠p->TldM H' t m B->TGd B->B.z=z->Q (.ref t) H'
theorem sc_law_basin:Jk0 ["_law_stream_here","_law_name","_law_low","_law_high","_law_start","_law_kind","_law_marks_here"] ["_law_stream_here","_law_name"] (Jju (top 74)):=%[|0]
theorem Jvt (T:Tx K mg a):FnOk P w K mg base CX0 3 a.Ji2 a.Ji3 ["_law_stream_here","_law_name"] Jxn:=by
 have G__law_take:=%[Jlr|1];have G__law_marks:=%[Jvu|1];refine %[T.Jz.fn.ok,sc_law_basin|2]
 ·obtain ⟨p,z,rfl,_⟩:=h;rfl
 ·obtain ⟨p,z,rfl,st,nm,wd,k⟩:=h;refine ⟨?t,?B,?C⟩
  case B=>
   refine' Jjs ?s1 ?r1
   case s1=>
    exact (Jk5 (i:=2) sc_law_basin.nd rfl (ye rfl) (Jjw T.Jx G__law_take hr (by decide) (Jjp (pv 0) (Jjp (Jk9 Jki (Jl4 (Jjp Jjv (Jjp Jjv (Jjp Jjv Jjr)))) (Jjw T.Jx G__law_take hr (by decide) (Jjp (pv 0) (Jjp Jjv Jjr))) (λ_ _=>rfl)) Jjr))))
   case r1=>
    refine' Jjs ?s3 ?r3
    case s3=>
     exact (Jk5 (i:=3) sc_law_basin.nd rfl (ye rfl) (Jk7 Jkk (pv 2) (Jjw T.Jx G__law_take hr (by decide) (Jjp (pv 0) (Jjp (Jk7 Jln Jjv (pv 2)) Jjr)))))
    case r3=>
     refine' Jjs ?s5 ?r5
     case s5=>
      refine' Jkd ?c6 ?a6 ?b6
      case c6=>
       exact (Jke Juy (Jjw T.Jx G__law_take hr (by decide) (Jjp (pv 0) (Jjp Jjv Jjr))) Jjv (Jkg _))
      case a6=>
       refine' Jjt ?s7
       case s7=>
        exact (Jk5 (i:=3) sc_law_basin.nd rfl (ye rfl) (Jjz (Jmh rfl) (by rfl) T.Jax Jpt (Jjp (pv 3) (Jjp (Jk7 Jln Jjv (Jjw T.Jx G__law_take hr (by decide) (Jjp (pv 0) (Jjp Jjv Jjr)))) Jjr))))
      case b6=>
       exact Jk3
     case r5=>
      refine' Jjs ?s10 ?r10
      case s10=>
       exact (Jk5 (i:=4) sc_law_basin.nd rfl (ye rfl) (Jk7 Jkk (pv 2) (Jjw T.Jx G__law_take hr (by decide) (Jjp (pv 0) (Jjp (Jk7 Jkk (Jk7 Jln (pv 3) (pv 2)) Jjv) Jjr)))))
      case r10=>
       refine' Jjs ?s12 ?r12
       case s12=>
        exact (Jk5 (i:=5) sc_law_basin.nd rfl (ye rfl) (Jk9 Jki (Jl4 (pa4 Jlw Jlw Jlw Jlw)) (Jjw T.Jx G__law_take hr (by decide) (Jjp (pv 0) (Jjp Jjv Jjr))) (λ_ _=>rfl)))
       case r12=>
        refine' Jjs ?s14 ?r14
        case s14=>
         exact (Jk5 (i:=6) sc_law_basin.nd rfl (ye rfl) (Jjw T.Jy G__law_marks hr (by decide) (Jjp (pv 0) (Jjp (Jko Jp5 (by rfl) T.Jat Jps (Jjp (Jm1 Jnp (pv 5) Jlw (Jkg _)) Jjr)) Jjr))))
        case r14=>
         refine' Jjs ?s16 ?r16
         case s16=>
          refine' Jkd ?c17 ?a17 ?b17
          case c17=>
           exact (Jke Jnp (Jjw T.Jx G__law_take hr (by decide) (Jjp (pv 0) (Jjp Jjv Jjr))) Jjv (Jkg _))
          case a17=>
           refine' Jjt ?s18
           case s18=>
            exact (Jk5 (i:=6) sc_law_basin.nd rfl (ye rfl) (Jor Jqv (Jjz (Jsh rfl) (by rfl) T.Jb1 Jzu (Jjp (Jko (Jtp rfl rfl) (by rfl) T.Jb0 Yag (Jjp (Jk7 Jrg (pv 6) (Jl4 (Jjp (Jko Jp5 (by rfl) T.Jat Jps (Jjp (Jm1 Jnp (pv 5) Jlw (Jkg _)) Jjr)) Jjr))) Jjr)) Jjr)) Jqn (Jqo Jjv)))
          case b17=>
           exact Jk3
         case r16=>
          refine' Jjt ?s21
          case s21=>
           refine' Jk1 ?e23_0
           case e23_0=>
            refine' Jmm ?e24_0
            case e24_0=>
             refine' pa7 ?e25_0 ?e25_1 ?e25_2 ?e25_3 ?e25_4 ?e25_5 ?e25_6
             case e25_0=>
              exact (pv 1)
             case e25_1=>
              exact (pv 2)
             case e25_2=>
              exact (pv 3)
             case e25_3=>
              exact (pv 4)
             case e25_4=>
              exact (Jjw T.Jx G__law_take hr (by decide) (Jjp (pv 0) (Jjp (Jk9 Jki (Jl4 (Jjp Jjv (Jjp Jjv Jjr))) (Jjw T.Jx G__law_take hr (by decide) (Jjp (pv 0) (Jjp Jjv Jjr))) (λ_ _=>rfl)) Jjr)))
             case e25_5=>
              exact (pv 5)
             case e25_6=>
              exact (pv 6)
  refine ⟨_,rfl,(show 3<=sizeLine by decide),λl1 h1=>?_⟩;have s1:=Same.upd (o:=.lst [.int 13,.int 3,.int 3]) h1;have n1:=st.ne h1;refine ⟨_,rfl,p,3,rfl,st.same s1,by decide,by decide,λr1 H1 r10 r11 b1=>?_⟩;obtain ⟨a1,m1⟩:=Jnd (ns:=[13,3,3]) ⟨r10,r11⟩;refine ⟨l1,_,r1,_,rfl,rfl,SqL.of (b1.1 _ _ n1 Jjq),a1,?_⟩;generalize ([13,3,3]:List Int).getD r1.toNat 0=mk at a1 m1;have hmk:3<=mk/\mk<=13:=by
   simp at m1;omega
  have c1:But p H H1:=((But.refl st).same s1).trans b1;refine ⟨p,mk,rfl,c1.2,by omega,Jrr (by omega) (by omega),λlo H2 lo0 lo1 b2=>?_⟩;have c2:=c1.trans b2;refine ⟨_,rfl,_,rfl,_,rfl,_,_,rfl,rfl,p,13 - lo,rfl,c2.2,by omega,Jrr (by omega) (by omega),λr3 H3 r30 r31 b3=>⟨_,_,rfl,rfl,?_⟩⟩;have c3:=c2.trans b3;dsimp only [Jnn];refine Jw5 (λσ H4=>∃hi:Int,σ= [some (.ref p),some (.str z),some (.int lo),some (.int hi),none,none,none]/\lo<=hi/\hi<=12/\But p H H4) (λR hR=>?_) ?_
  ·refine ⟨_,rfl,p,3,rfl,c3.2,by decide,by decide,λr4 H4 r40 r41 b4=>⟨_,_,rfl,rfl,_,rfl,Jnu (λq=>?_) (λq=>?_)⟩⟩
   ·refine ⟨_,rfl,_,rfl,p,4,rfl,(c3.trans b4).2,by decide,by decide,λr5 H5 r50 r51 b5=>⟨_,_,rfl,rfl,_,_,rfl,hR _ _ ⟨_,rfl,?_,?_,(c3.trans b4).trans b5⟩⟩⟩
    ·split <;> omega
    ·split <;> omega
   ·exact hR _ _ ⟨_,rfl,by omega,by omega,c3.trans b4⟩
  rintro σ H4 ⟨hi,rfl,hi0,hi1,c4⟩;refine ⟨_,rfl,_,rfl,_,rfl,_,rfl,_,_,rfl,rfl,_,_,rfl,rfl,p,hi - lo+1,rfl,c4.2,by omega,Jrr (by omega) (by omega),λr5 H5 r50 r51 b5=>⟨_,_,rfl,rfl,?_⟩⟩;have c5:=c4.trans b5;refine ⟨(show 4<=sizeLine by decide),λl2 h2=>?_⟩;have s2:=Same.upd (o:=.lst [.str "step",.str "flap",.str "flap",.str "part"]) h2;have n2:=c5.2.ne h2;refine ⟨_,rfl,p,4,rfl,c5.2.same s2,by decide,by decide,λr6 H6 r60 r61 b6=>?_⟩;obtain ⟨kd,a2,m2⟩:=Ycb (zs:=["step","flap","flap","part"]) ⟨r60,r61⟩;refine ⟨l2,_,r6,_,rfl,rfl,SqL.of (b6.1 _ _ n2 Jjq),a2,?_⟩;have kn:Knd kd:=by
   simp at m2;exact m2
  have c6:But p H H6:=(c5.same s2).trans b6;refine ⟨_,rfl,_,rfl,rfl,.inr ⟨_,rfl,?_⟩⟩;refine ⟨p,Jmv kd,congrArg (λz=>[V.ref p,V.int z]) (lo_eq kd),c6.2,lo_01 kd,λm ns H7 hm0 b7 hm7 ar=>?_⟩;have c7:=c6.trans b7;have nm7:m≠p:=c6.2.ne hm0;have l01:0<=Jmv kd/\Jmv kd<=1:=by rcases lo_01 kd with e|e <;> rw [e] <;> decide
  dsimp only [Jnn];refine Jw5 (λσ H8=>∃(m:Addr) (ns:List Int),σ= [some (.ref p),some (.str z),some (.int lo),some (.int hi),some (.int (lo+r5)),some (.str kd),some (.ref m)]/\H8 m=some (.lst (ns.map V.int))/\m≠p/\Jme (Jmv kd) (ns.map V.int)=true/\But p H H8) (λR hR=>?_) ?_
  ·refine ⟨_,rfl,p,2,rfl,c7.2,by decide,by decide,λr8 H8 r80 r81 b8=>⟨rfl,_,rfl,Jnu (λq=>?_) (λq=>?_)⟩⟩
   ·have c8:=c7.trans b8;have hm8:=b8.1 _ _ nm7 hm7;refine ⟨_,rfl,_,rfl,rfl,.inr ⟨_,rfl,(show 1<=sizeLine by decide),λl3 h3=>?_⟩⟩;have s3:=Same.upd (o:=.lst [.int (if decide (V.str kd=V.str ("part" :Str))=true then (1:Int) else 0)]) h3;have nl:ns.length<=4:=by
     unfold Jme at ar;rw [yag,decide_eq_true_eq,yf] at ar;exact ar.1.2
    refine ⟨m,l3,_,_,rfl,rfl,s3 _ _ hm8,Jjq,?_,λl4 h4=>?_⟩
    ·rw [yf];exact yaq (Jkc (by simp;omega))
    have hl4:(upd (upd H8 l3 (.lst [.int (if decide (V.str kd=V.str ("part" :Str))=true then (1:Int) else 0)])) l4 (.lst (ns.map V.int++ [.int (if decide (V.str kd=V.str ("part" :Str))=true then (1:Int) else 0)]))) l4=some (.lst ((ns++ [Jmv kd]).map V.int)):=by
     rw [Jjq,lo_eq,yz];rfl
    have s4:=s3.trans (Same.upd (o:=.lst (ns.map V.int++ [.int (if decide (V.str kd=V.str ("part" :Str))=true then (1:Int) else 0)])) h4);refine ⟨l4,ns++ [Jmv kd],rfl,SqL.of hl4,by simp;omega,λl5 h5=>?_⟩;have s5:=s4.trans (Same.upd (o:=ZS P w l5 (ns++ [Jmv kd])) h5);refine ⟨l5,ns++ [Jmv kd],rfl,Jjq,by simp;omega,λl6 ms h6 hp hi=>?_⟩;have s6:=s5.trans (Same.upd (o:=.lst (ms.map V.int)) h6);refine ⟨4,rfl,l6,_,rfl,SqL.of Jjq,λl7 h7=>hR _ _ ⟨l7,ms.take 4,rfl,?_,?_,Jya l01.1 l01.2 ar hp hi,c8.same (s6.trans (Same.upd h7))⟩⟩
    ·rw [Jjq,cut4]
    ·exact (c8.2.same s6).ne h7
   ·exact hR _ _ ⟨m,ns,rfl,b8.1 _ _ nm7 hm7,nm7,ar,c7.trans b8⟩
  rintro σ H8 ⟨m,ns,rfl,hm8,nm8,ar,c8⟩;refine ⟨_,rfl,_,rfl,_,rfl,_,rfl,_,rfl,(show 2<=sizeLine by decide),λl9 h9=>?_⟩;have s9:=Same.upd (o:=.lst [.int 7,.int 3]) h9;have n9:=c8.2.ne h9;refine ⟨_,rfl,p,2,rfl,c8.2.same s9,by decide,by decide,λr9 H9 r90 r91 b9=>?_⟩;obtain ⟨a9,m9⟩:=Jnd (ns:=[7,3]) ⟨r90,r91⟩;refine ⟨l9,_,r9,_,rfl,rfl,SqL.of (b9.1 _ _ n9 Jjq),a9,?_⟩;generalize ([7,3]:List Int).getD r9.toNat 0=mr at a9 m9;have hmr:3<=mr/\mr<=7:=by
   simp at m9;omega
  have c9:But p H H9:=(c8.same s9).trans b9;refine ⟨p,mr,rfl,c9.2,by omega,Jrr (by omega) (by omega),λrn H10 rn0 rn1 b10=>?_⟩;refine ⟨_,rfl,_,rfl,(show 7<=sizeLine by decide),λt ht=>?_⟩;have hm10:=b10.1 _ _ nm8 (b9.1 _ _ nm8 (s9 _ _ hm8));refine k t m ⟨z,lo,hi,lo+r5,rn,⟨kd,ns,none⟩⟩ _ ((c9.trans b10).same (Same.upd ht)) nm8 ⟨Jjq,Same.upd ht _ _ hm10,rfl⟩ ⟨⟨⟨lo0,hi0⟩,hi1,⟨rn0,?_⟩,⟨kn,ar,λi e=>by cases e⟩⟩,⟨?_,?_⟩,nm,wd⟩ rfl
  ·show rn<=6;omega
  ·show lo<=lo+r5;omega
  ·show lo+r5<=hi;omega
noncomputable def RivAt (a:Ad) (H:Hp) (r:Addr) (Bs:List BTd) (c g:Int):Prop:=∃(dx b t:Addr) (os:List Addr),H r=some (.ins a.Jjk dx (Yt (.int c) (.int g) (.ref b) (.ref t)))/\H b=some (.tup (os.map V.ref))/\Paired (λo B=>BX a H o B) os Bs
theorem RivAt.same {a:Ad} {H H':Hp} {r:Addr} {Bs:List BTd} {c g:Int} (s:Same H H') (h:RivAt a H r Bs c g):RivAt a H' r Bs c g:=by
 obtain ⟨dx,b,t,os,h1,h2,h3⟩:=h;exact ⟨dx,b,t,os,s _ _ h1,s _ _ h2,Paired.mapP h3 λ_ _ q=>q.same s⟩
structure RGd (Bs:List BTd):Prop where
 len:1<=Bs.length/\Bs.length<=16
 all:∀B∈Bs,TGd B
noncomputable def Jlu (B:BTd) (up hi:Int):Bool:=Jm9 B up hi (B.st - B.lo).toNat
theorem Jv6 (f:Nat->Int) (lo:Int) (n:Nat):∀ns:List Nat,Jrm (ns.map λm:Nat=>((yah (lo+m):Key),V.int (f m))) (yah (lo+n))=if n∈ns then some (.int (f n)) else none:=by
 intro ns
 induction ns with
 |nil=>rfl
 |cons m ns ih=>
  rw [yax];by_cases c:m=n
  ·subst c;rw [Jtn rfl,if_pos (yal ..)]
  ·have nin:n∈m::ns↔n∈ns:=⟨λz=>(yo.mp z).elim (λh=>absurd h.symm c) id,yaf _⟩;rw [Jtm (λz=>c (by have:=yah.inj z;omega)),ih];by_cases d:n∈ns
   ·rw [if_pos d,if_pos (nin.mpr d)]
   ·rw [if_neg d,if_neg λz=>d (nin.mp z)]
theorem st_in {B:BTd} (h:B.lo<=B.st/\B.st<=B.hi) (up hi:Int):(Jrm (Jnk B up hi) (yah B.st)).isSome=Jlu B up hi:=by
 have e:B.st=B.lo+((B.st - B.lo).toNat:Int):=by omega
 have q:=Jv6 (Jl2 B up hi) B.lo (B.st - B.lo).toNat (Jlz B up hi);rw [<-e] at q;unfold Jnk;rw [q];unfold Jlu;cases hc:Jm9 B up hi (B.st - B.lo).toNat with
 |true=>
  have hm:(B.st - B.lo).toNat∈Jlz B up hi:=yav.mpr ⟨yac.mpr (by unfold nLv;omega),hc⟩;rw [if_pos hm];rfl
 |false=>rw [if_neg λz=>by have:=(yav.mp z).2;rw [hc] at this;cases this];rfl
theorem Yd1 {p:Nat->Bool} {n i:Nat} (hi:i < n) (h:p i=true) (all:∀j,j < i->p j=false):(yt n).find? p=some i:=by
 rw [List.find?_range_eq_some];exact ⟨h,yac.mpr hi,λj hj=>by rw [all j hj];rfl⟩
theorem Yd2 {p:Nat->Bool} {n:Nat} (all:∀j,j < n->p j=false):(yt n).find? p=none:=by
 rw [List.find?_eq_none];intro j hj;rw [all j (yac.mp hj)];decide
noncomputable def Jlm (B:BTd) (up:Int):Option Int:=((yt 13).find? λh:Nat=>Jlu B up h).map λh:Nat=>(h:Int)
theorem Juq {B:BTd} {up u:Int} (h:Jlm B up=some u):0<=u/\u<=12:=by
 unfold Jlm at h;obtain ⟨n,hn,rfl⟩:=yx.mp h;have:=yac.mp (List.mem_of_find?_eq_some hn);omega
noncomputable def Jma:List BTd->Int->List Int->List Int×Option Nat
 | [],_,acc=>(acc,none)
 |B::Bs,up,acc=>match Jlm B up with
  |none=>(acc,some acc.length)
  |some u=>Jma Bs u (acc++ [u])
noncomputable def Jnw (Bs:List BTd):List Int×Option Nat:=Jma Bs 0 []
noncomputable def Yc2 (a:Ad):Sp:=λvs H Q _=>∃(o:Addr) (Bd:BTd) (up:Int),vs= [.ref o,.int up]/\H a.Jjm=some (.tbl lb_lost_alone)/\BX a H o Bd/\TGd Bd/\(0<=up/\up<=12)/\∀H',Same H H'->Q (oV (Jlm Bd up)) H'
noncomputable def Ye7 (a:Ad):Sp:=λvs H Q E=>∃(r:Addr) (Bs:List BTd) (c g:Int),vs= [.ref r]/\H a.Jjm=some (.tbl lb_lost_alone)/\RivAt a H r Bs c g/\RGd Bs/\
 (∀acc,Jnw Bs=(acc,none)->∀N H',Same H H'->H N=none->H' N=some (.lst (acc.map V.int))->Q (.ref N) H')/\
 (∀acc k,Jnw Bs=(acc,some k)->∀e dx H',Same H H'->H' e=some (XO e a.Jjd (some dx) false)->H' dx=some (XD dx [("basin",.int (k:Nat))])->E (.ref a.Jjd) (some e) H')
theorem Jo5:Jk0 ["self","basin"] ["self","basin"] (Jju (Jk8 (top 11) 0)):=%[|0]
theorem Jnf (T:Tx K mg a):FnOk P w K mg base CX0 1 a.Jfa a.Jfb ["self","basin"] (Jn8 K "basin"):=by
 refine %[T.Jcd.fn.ok,Jo5|2]
 ·obtain ⟨e,C,W,fI,y,rfl,_⟩:=h;rfl
 ·obtain ⟨e,C,W,fI,y,rfl,q,c,n,k⟩:=h;refine ⟨_,(Jjt (Jmw (pv 0) (pv 1) rfl)),?_⟩;exact ⟨_,rfl,_,rfl,e,C,W,fI,true,rfl,q,c,n,k⟩
theorem sc_least_promise:Jk0 ["basin","up","hi"] ["basin","up"] (Jju (top 40)):=%[|0]
theorem Jrf (T:Tx K mg a) (Bm:Bmn mg base):FnOk P w K mg base CX0 7 a.Jgi a.Jgj ["basin","up"] (Yc2 a):=by
 have G_settings_alone:=Jmb (P:=P) (w:=w) T Bm;refine %[T.Jl.fn.ok,sc_least_promise|2]
 ·obtain ⟨o,Bd,up,rfl,_⟩:=h;rfl
 ·obtain ⟨o,Bd,up,rfl,ht,bx,tg,hup,k⟩:=h;have hu64:=Jvh hr;refine ⟨?t,?B,?C⟩
  case B=>
   refine' Jjs ?s1 ?r1
   case s1=>
    refine' Jmn ?f2_0 ?f2_1 ?f2_2 ?f2_3 ?f2_4
    case f2_0=>
     exact PassesOwn.never
    case f2_1=>
     exact rfl
    case f2_2=>
     exact (Jl6 (by rfl) T.Jaz (Jjp (Jk7 Jkk (Jlc (by rfl) T.Jae (v:=.int 12) ⟨_,rfl⟩) Jjv) Jjr))
    case f2_3=>
     exact (Jk2 (i:=2) sc_least_promise.nd rfl (ye rfl))
    case f2_4=>
     refine' Jjt ?s3
     case s3=>
      refine' Jkd ?c4 ?a4 ?b4
      case c4=>
       exact (Jke (Jyg hu64) (Jky (pv 0) (by rfl)) (Jjw T.Je G_settings_alone hr (by decide) (Jjp (pv 0) (Jjp (pv 1) (Jjp (pv 2) Jjr)))) (by with_unfolding_all rfl))
      case a4=>
       refine' Jjt ?s5
       case s5=>
        exact (Jk1 (pv 2))
      case b4=>
       exact Jk3
   case r1=>
    refine' Jjt ?s9
    case s9=>
     exact (Jk1 Jls)
  refine ⟨_,_,rfl,rfl,_,rfl,by decide,by decide,?_⟩;refine Jmy (lo:=0) (λi σ H'=>(∃o2,σ= [some (.ref o),some (.int up),o2])/\Same H H'/\∀j:Nat,j < i->Jlu Bd up j=false) ⟨⟨_,rfl⟩,Same.refl _,λj h=>absurd h (ycf _)⟩ ?_ ?_
  ·rintro i σ H' hi ⟨⟨o2,rfl⟩,sm,all⟩;have hi2:i < 13:=hi;have zi:(0+(i:Int))=i:=by omega
   rw [zi];obtain ⟨dx,g,ho,gx⟩:=id (bx.same sm);refine ⟨_,rfl,o,_,dx,_,_,rfl,ho,T.Jdk,T.Je4,rfl,_,rfl,_,rfl,_,rfl,o,Bd,up,(i:Int),rfl,sm _ _ ht,bx.same sm,tg.b,hup,λp ob H2 s2 hp=>⟨p,_,rfl,.inl ⟨_,yah Bd.st,.inr ⟨ob,hp⟩,rfl,rfl⟩,_,rfl,?_⟩⟩;rw [st_in tg.st];refine Jnu (λq=>?_) (λq=>?_)
   ·have e:Jlm Bd up=some (i:Int):=by
     unfold Jlm;rw [Yd1 (p:=λh:Nat=>Jlu Bd up h) hi2 q all];rfl
    rw [e] at k;exact ⟨_,rfl,k _ (sm.trans s2)⟩
   ·refine ⟨⟨_,rfl⟩,sm.trans s2,λj hj=>?_⟩;by_cases c:j < i
    ·exact all j c
    ·have:j=i:=by omega
     subst this;exact Bool.eq_false_iff.mpr q
  ·rintro σ H' ⟨_,sm,all⟩;have e:Jlm Bd up=none:=by
    unfold Jlm;rw [Yd2 (n:=13) (p:=λh:Nat=>Jlu Bd up h) all];rfl
   rw [e] at k;exact k _ sm
theorem sc_promises:Jk0 ["river","numbers","up","place","basin"] ["river"] (Jju (top 41)):=%[|0]
theorem Jx6 (T:Tx K mg a) (Bm:Bmn mg base):FnOk P w K mg base (CXX P w) 8 a.Jgk a.Jgl ["river"] (Ye7 a):=by
 have G_least_promise:=Jrf (P:=P) (w:=w) T Bm;have G_NoPromise___init__:=%[Jnf|1];refine %[T.Jm.fn.okX,sc_promises|2]
 ·obtain ⟨r,Bs,c,g,rfl,_⟩:=h;rfl
 ·obtain ⟨r,Bs,c,g,rfl,ht,rv,rg,k1,k2⟩:=h;obtain ⟨dx,b,t,os,hr0,hb,pr⟩:=id rv;have len:=Paired.length pr;have l16:=rg.len;refine ⟨?t,?B,?C⟩
  case B=>
   refine' Jjs ?s1 ?r1
   case s1=>
    exact (Jk5 (i:=1) sc_promises.nd rfl (ye rfl) (Jl4 Jjr))
   case r1=>
    refine' Jjs ?s3 ?r3
    case s3=>
     exact (Jk5 (i:=2) sc_promises.nd rfl (ye rfl) Jjv)
    case r3=>
     refine' Jjs ?s5 ?r5
     case s5=>
      refine' Jmn ?f6_0 ?f6_1 ?f6_2 ?f6_3 ?f6_4
      case f6_0=>
       exact PassesOwn.leaving
      case f6_1=>
       exact rfl
      case f6_2=>
       exact (Jxa (by rfl) T.Jas (Jjp (Jky (pv 0) (by rfl)) Jjr))
      case f6_3=>
       exact (Jq7 rfl (Jkb (Jk2 (i:=3) sc_promises.nd rfl (ye rfl)) (Jkb (Jk2 (i:=4) sc_promises.nd rfl (ye rfl)) Jlp)))
      case f6_4=>
       refine' Jjs ?s7 ?r7
       case s7=>
        exact (Jk5 (i:=2) sc_promises.nd rfl (ye rfl) (Jjw T.Jl G_least_promise hr (by decide) (Jjp (pv 4) (Jjp (pv 2) Jjr))))
       case r7=>
        refine' Jjs ?s9 ?r9
        case s9=>
         refine' Jkd ?c10 ?a10 ?b10
         case c10=>
          exact (Jke Jrh (pv 2) Jls (Jkg _))
         case a10=>
          refine' Jjt ?s11
          case s11=>
           exact (Jkv Jkz rfl (Jlj T.Jd0 G_NoPromise___init__ hr (by decide) T.Jcd.bd T.Jbe (Jjp (pv 3) Jjr)))
         case b10=>
          exact Jk3
        case r9=>
         refine' Jjt ?s14
         case s14=>
          exact (Jlq (Juz F.plainAttrs_list F.slot_list_append F.type_list_append Jmk (pv 1) (Jjp (pv 2) Jjr)))
     case r5=>
      refine' Jjt ?s16
      case s16=>
       exact (Jk1 (pv 1))
  refine ⟨(show 0<=sizeLine by decide),λN hN=>?_⟩;have s1:=Same.upd (o:=.lst []) hN;refine ⟨_,rfl,r,_,dx,_,_,rfl,s1 _ _ hr0,T.Jdq,T.Jec,rfl,b,rfl,⟨_,SqT.of (s1 _ _ hb)⟩,?_⟩;refine Jwq (K:=K) (a:=b) (xs:=os.map V.ref) (λi σ H'=>∃(acc:List Int) (up:Int) (o3 o4:Option V),σ= [some (.ref r),some (.ref N),some (.int up),o3,o4]/\Same H H'/\H' N=some (.lst (acc.map V.int))/\acc.length=i/\(0<=up/\up<=12)/\Jma (Bs.drop i) up acc=Jnw Bs) ⟨[],0,_,_,rfl,s1,Jjq,rfl,by decide,rfl⟩ (λi σ H' _ ⟨_,_,_,_,_,sm,_⟩=>SqT.of (sm _ _ hb)) ?_ ?_
  ·rintro i x σ H' T1 hx ⟨acc,up,o3,o4,rfl,sm,hN',hlen,hup,hgo⟩ hT;rw [ym] at hx;obtain ⟨o,ho,rfl⟩:=yx.mp hx;obtain ⟨B,hB,bx⟩:=Jkn pr ho;have il:i < Bs.length:=(yq.mp hB).1;have tg:=rg.all B (yaa hB);have sT:=Same.upd (o:=.tup [.int i,.ref o]) hT;have s2:=sm.trans sT;rw [List.drop_eq_getElem_cons il,(yq.mp hB).2] at hgo;refine ⟨T1,_,rfl,SqT.of Jjq,rfl,_,_,rfl,_,_,rfl,rfl,?_⟩;refine ⟨_,rfl,_,rfl,o,B,up,rfl,s2 _ _ ht,bx.same s2,tg,hup,λH3 s3=>?_⟩;refine ⟨_,rfl,rfl,_,rfl,?_⟩;rw [Jvp];cases hc:Jlm B up with
   |none=>
    refine Jm7 ?_;have e:Jnw Bs=(acc,some acc.length):=by
     rw [<-hgo];show (match Jlm B up with|none=>(acc,some acc.length)|some u=>Jma (Bs.drop (i+1)) u (acc++ [u]))=_;rw [hc]
    refine Jmc T.Jd0 T.Jdx rfl λe' dx' h1 h2 h3=>?_;refine k2 acc acc.length e e' dx' _ ?_ Jjq ?_
    ·rw [Jmq];intro b' o' q;have q':=s3 _ _ (s2 _ _ q);rw [Jjx (Jjy q' h1),Jjx (Jjy q' h2)];exact q'
    ·rw [Jjx h3,Jjx h3,Jjq,hlen]
   |some u=>
    refine Jkt ?_;have hN3:=s3 _ _ (sT _ _ hN');refine ⟨_,rfl,.inl ⟨rfl,_,SqL.of hN3⟩,_,rfl,N,_,_,rfl,rfl,hN3,?_,acc++ [u],u,_,_,rfl,?_,?_,?_,Juq hc,?_⟩
    ·rw [yf];exact Jkc (by omega)
    ·intro b' o' q;rw [Jjx (Jjy q hN)];exact s3 _ _ (s2 _ _ q)
    ·rw [Jjq,yz];rfl
    ·rw [yas,hlen];rfl
    ·rw [<-hgo];show _=(match Jlm B up with|none=>(acc,some acc.length)|some u=>Jma (Bs.drop (i+1)) u (acc++ [u]));rw [hc]
  ·rintro σ H' ⟨acc,up,o3,o4,rfl,sm,hN',hlen,hup,hgo⟩;rw [yf,List.drop_of_length_le (by omega)] at hgo;exact ⟨_,rfl,k1 acc hgo.symm N H' sm hN hN'⟩
noncomputable def Jlh (ns:List Int):List Int:=0::ns.dropLast
noncomputable def Jr1 (Bs:List BTd) (ns:List Int):Bool:=(yt Bs.length).all λi=>match Bs[i]? with
 |some B=>Jlu B ((Jlh ns).getD i 0) (ns.getD i 0)
 |none=>true
noncomputable def Jpx (B:BTd) (up hi l:Int):Bool:=Jm9 B up hi (l - B.lo).toNat
noncomputable def Jo9 (Bs:List BTd) (ns ls:List Int):Bool:=(yt Bs.length).all λi=>match Bs[i]? with
 |some B=>Jpx B ((Jlh ns).getD i 0) (ns.getD i 0) (ls.getD i 0)
 |none=>true
theorem lv_in {B:BTd} {l:Int} (h:B.lo<=l/\l<=B.hi) (up hi:Int):Jrm (Jnk B up hi) (yah l)=if Jpx B up hi l=true then some (.int (Jl2 B up hi (l - B.lo).toNat)) else none:=by
 have e:l=B.lo+((l - B.lo).toNat:Int):=by omega
 have q:=Jv6 (Jl2 B up hi) B.lo (l - B.lo).toNat (Jlz B up hi);rw [<-e] at q;unfold Jnk;rw [q];unfold Jpx;cases hc:Jm9 B up hi (l - B.lo).toNat with
 |true=>
  have hm:(l - B.lo).toNat∈Jlz B up hi:=yav.mpr ⟨yac.mpr (by unfold nLv;omega),hc⟩;rw [if_pos hm,if_pos rfl]
 |false=>
  have hm:¬(l - B.lo).toNat∈Jlz B up hi:=λz=>by
   have q:=(yav.mp z).2;rw [hc] at q;cases q
  rw [if_neg hm,if_neg yab]
noncomputable def LvG (Bs:List BTd) (ls:List Int):Prop:=ls.length=Bs.length/\∀(i:Nat) B l,Bs[i]?=some B->ls[i]?=some l->B.lo<=l/\l<=B.hi
theorem LvG.start {Bs:List BTd} (h:∀B∈Bs,TGd B):LvG Bs (Bs.map (·.st)):=⟨by simp,λi B l hB hl=>by
 rw [ym,hB] at hl;cases hl;exact (h B (yaa hB)).st⟩
theorem Jn3 (Bs:List BTd) (ns:List Int):Jo9 Bs ns (Bs.map (·.st))=Jr1 Bs ns:=by
 unfold Jo9 Jr1;rw [ybn,yar,yar];refine forall_congr' λi=>forall_congr' λ_=>?_;cases hB:Bs[i]? with
 |none=>exact Iff.rfl
 |some B=>
  have e:(Bs.map (·.st)).getD i 0=B.st:=by rw [yy,ym,hB];rfl
  show Jpx B _ _ ((Bs.map (·.st)).getD i 0)=true↔Jlu B _ _=true;rw [e];exact Iff.rfl
noncomputable def NGd (n:Nat) (ns:List Int):Prop:=ns.length=n/\∀x∈ns,0<=x/\x<=12
theorem Jxs {n:Nat} {ns:List Int} (h:NGd n ns) (hn:1<=n):(Jlh ns).length=n:=by
 have:=h.1;unfold Jlh;rw [ybe,List.length_dropLast];omega
theorem Yeg {n:Nat} {ns:List Int} (h:NGd n ns):∀x∈Jlh ns,0<=x/\x<=12:=by
 intro x hx;unfold Jlh at hx;rcases yo.mp hx with rfl|hx
 ·decide
 ·exact h.2 x ((List.dropLast_sublist _).subset hx)
noncomputable def DctAt (H:Hp) (B:BTd) (up hi:Int) (p:Addr):Prop:=∃ob,H p=some (.frz ob (.dK (Jnk B up hi)))
theorem DctAt.same {H H':Hp} {B:BTd} {up hi:Int} {p:Addr} (s:Same H H') (h:DctAt H B up hi p):DctAt H' B up hi p:=by obtain ⟨ob,e⟩:=h;exact ⟨ob,s _ _ e⟩
noncomputable def Ydt (a:Ad):Sp:=λvs H Q _=>∃(r:Addr) (Bs:List BTd) (c g:Int),vs= [.ref r]/\RivAt a H r Bs c g/\Bs.length<=16/\∀(t s:Addr) (H':Hp),Same H H'->H' t=some (.tup [.ref s,.int c])->H' s=some (.tup ((Bs.map (·.st)).map V.int))->Q (.ref t) H'
noncomputable def spNums (a:Ad):Sp:=λvs H Q _=>∃(r l:Addr) (Bs:List BTd) (c g:Int) (ns:List Int),vs= [.ref r,.ref l]/\RivAt a H r Bs c g/\H l=some (.lst (ns.map V.int))/\NGd Bs.length ns/\Bs.length<=16/\∀H',Same H H'->Q (.bl true) H'
noncomputable def Yc7 (a:Ad):Sp:=λvs H Q _=>∃(r l:Addr) (Bs:List BTd) (c g:Int) (ns:List Int),vs= [.ref r,.ref l]/\H a.Jjm=some (.tbl lb_lost_alone)/\RivAt a H r Bs c g/\RGd Bs/\H l=some (.lst (ns.map V.int))/\NGd Bs.length ns/\
 ∀(d:Addr) (ps:List Addr) (H':Hp),Same H H'->H' d=some (.lst (ps.map V.ref))->ps.length=Bs.length->(∀(i:Nat) B p,Bs[i]?=some B->ps[i]?=some p->DctAt H' B ((Jlh ns).getD i 0) (ns.getD i 0) p)->Q (.ref d) H'
noncomputable def Yc0:Sp:=λvs H Q _=>∃(s d:Addr) (Bs:List BTd) (ns ls:List Int) (ps:List Addr),vs= [.ref s,.ref d]/\H s=some (.tup (ls.map V.int))/\LvG Bs ls/\H d=some (.lst (ps.map V.ref))/\RGd Bs/\ps.length=Bs.length/\(∀(i:Nat) B p,Bs[i]?=some B->ps[i]?=some p->DctAt H B ((Jlh ns).getD i 0) (ns.getD i 0) p)/\
 (Jo9 Bs ns ls=true->∀H',Same H H'->Q .non H')/\(Jo9 Bs ns ls=false->∀(i:Nat) H',i < Bs.length->Same H H'->Q (.int (i:Int)) H')
noncomputable def spAreP (a:Ad):Sp:=λvs H Q _=>∃(r l:Addr) (Bs:List BTd) (c g:Int) (ns:List Int),vs= [.ref r,.ref l]/\H a.Jjm=some (.tbl lb_lost_alone)/\RivAt a H r Bs c g/\RGd Bs/\H l=some (.lst (ns.map V.int))/\NGd Bs.length ns/\∀H',Same H H'->Q (.bl (Jr1 Bs ns)) H'
theorem Jzo {i j k:Nat} {T:Addr} {x y z:V} {σ:L2.St} {H:Hp} {A B:L2.St->Hp->Prop} (hT:SqT K H T [x,y,z]) (h:A (((σ.set i (some x)).set j (some y)).set k (some z)) H):
  gTup K 3 (Jum (Jnn i) (Jum (Jnn j) (Jum (Jnn k) gNil))) (.ref T) σ H λσ3 H3=>Ya3 σ3 H3 λb H4=>if b=true then A σ3 H4 else B σ3 H4:=by
 refine ⟨T,_,rfl,hT,rfl,_,_,rfl,_,_,rfl,_,_,rfl,rfl,?_⟩;show if true=true then A (((σ.set i (some x)).set j (some y)).set k (some z)) H else B (((σ.set i (some x)).set j (some y)).set k (some z)) H
 rw [if_pos rfl];exact h
theorem Jqd:Jk0 ["self"] ["self"] (Jju (Jk8 (top 68) 2)):=%[|0]
theorem Jn6 (T:Tx K mg a):FnOk P w K mg base CX0 1 a.Jhs a.Jht ["self"] (Ydt a):=by
 refine %[T.Jcr.fn.ok,Jqd|2]
 ·obtain ⟨r,Bs,c,g,rfl,_⟩:=h;rfl
 ·obtain ⟨r,Bs,c,g,rfl,rv,l16,k⟩:=h;obtain ⟨dx,b,t,os,hr0,hb,pr⟩:=id rv;have len:=Paired.length pr;refine ⟨?t,?B,?C⟩
  case B=>
   refine' Jjt ?s1
   case s1=>
    exact (Jk1 (Jmm (Jjp (Jko Jl5 (by rfl) T.Jb4 Jl7 (Jjp (Jkl (N:=(["basin"]:List Str)) (ini:=[none]) rfl (Jyk (Jky (pv 0) (by rfl))) (λ_ _ _ _ _=>(Jk2 (i:=0) (by decide +kernel:(["basin"]:List Str).Nodup) rfl (ye rfl))) (λ_ _ _ _ _=>Jkp) (λ_ _ _ _ _=>(Jm2 (K:=K) rfl (pv 0) (by rfl)))) Jjr)) (Jjp (Jky (pv 0) (by rfl)) Jjr))))
  refine ⟨_,rfl,r,_,dx,_,_,rfl,hr0,T.Jdq,T.Jec,rfl,b,rfl,⟨_,SqT.of hb⟩,λD hD=>?_⟩;refine Jr4 ((Bs.map (·.st)).map V.int) hD (by simp [len]) (by simp;omega) hb ?_ ?_
  ·intro i x y H' Q' hx hy sm k';rw [ym] at hx;obtain ⟨o,ho,rfl⟩:=yx.mp hx;obtain ⟨B,hB,bx⟩:=Jkn pr ho;rw [ym,ym,hB] at hy;cases hy;obtain ⟨dx',g,h1,_⟩:=bx.same sm;exact ⟨_,rfl,o,_,dx',_,_,rfl,h1,T.Jdk,T.Je4,rfl,k' _ (Same.refl _)⟩
  intro H1 s1 hD1;refine ⟨D,_,rfl,.inl ⟨SqL.of hD1,λS hS=>?_⟩⟩;have s2:=Same.upd (o:=.tup ((Bs.map (·.st)).map V.int)) hS;refine ⟨_,rfl,r,_,dx,_,_,rfl,s2 _ _ (s1 _ _ hr0),T.Jdq,T.Jea,rfl,(show 2<=sizeLine by decide),λT1 hT1=>?_⟩;exact k T1 S _ ((s1.trans s2).trans (Same.upd hT1)) Jjq (Same.upd hT1 _ _ Jjq)
theorem Jt9:Jk0 ["river","thing"] ["river","thing"] (Jju (top 36)):=%[|0]
theorem Jol (T:Tx K mg a):FnOk P w K mg base CX0 3 a.Jga a.Jgb ["river","thing"] (spNums a):=by
 have G_is_promised:=%[Jom|1];refine %[T.Jh.fn.ok,Jt9|2]
 ·obtain ⟨r,l,Bs,c,g,ns,rfl,_⟩:=h;rfl
 ·obtain ⟨r,l,Bs,c,g,ns,rfl,rv,hl,ng,l16,k⟩:=h;obtain ⟨dx,b,t,os,hr0,hb,pr⟩:=id rv;have len:=Paired.length pr;have nl:=ng.1;refine ⟨?t,?B,?C⟩
  case B=>
   refine' Jjs ?s1 ?r1
   case s1=>
    refine' Jkd ?c2 ?a2 ?b2
    case c2=>
     exact (PW.pt (Jot (Jkh (Jkf (Jjz Jle (by rfl) T.Jau Jka (Jjp (pv 1) (Jjp (Jlb (v:=.ty "list") (by rfl) T.Jaw Jp3 rfl) Jjr))))) (Jou (Jke Jx7 (Jjz Jk4 (by rfl) T.Jav Jkw (Jjp (pv 1) Jjr)) (Jjz Jk4 (by rfl) T.Jav Jkw (Jjp (Jky (pv 0) (by rfl)) Jjr)) (Jkg _)))))
    case a2=>
     refine' Jjt ?s3
     case s3=>
      exact (Jk1 Jlg)
    case b2=>
     exact Jk3
   case r1=>
    refine' Jjt ?s7
    case s7=>
     exact (Jk1 (Jjz (Jmz rfl) (by rfl) T.Jao Jpr (Jjp (Jkl (N:=(["number"]:List Str)) (ini:=[none]) rfl (Jld (pv 1)) (λ_ _ _ _ _=>(Jk2 (i:=0) (by decide +kernel:(["number"]:List Str).Nodup) rfl (ye rfl))) (λ_ _ _ _ _=>Jkp) (λ_ _ _ _ _=>(Jjw T.J8 G_is_promised hr (by decide) (Jjp (pv 0) Jjr)))) Jjr)))
  refine ⟨_,rfl,_,_,_,.type "list",true,rfl,rfl,.of (.lst hl),rfl,_,rfl,Jkt ?_⟩;refine ⟨_,rfl,l,_,rfl,.inl (SqL.of hl),_,rfl,r,_,dx,_,_,rfl,hr0,T.Jdq,T.Jec,rfl,b,_,rfl,.inr (SqT.of hb),rfl,_,rfl,ifF ?_ ?_⟩
  ·rw [yf,yf,nl,len];simp
  refine ⟨_,rfl,l,rfl,⟨_,SqL.of hl⟩,λD hD=>?_⟩;refine Jn2 ((yw ns.length true).map V.bl) hD (by simp) (by simp;omega) hl ?_ ?_
  ·intro i x y H' Q' hx hy sm k';rw [ym] at hx;obtain ⟨n,hn,rfl⟩:=yx.mp hx;have il:i < ns.length:=(yq.mp hn).1;have ey:y= .bl true:=by
    rw [ym,ycr,if_pos il] at hy;exact (yae.inj hy).symm
   subst ey;have hb':=ng.2 n (yaa hn);refine ⟨_,rfl,.int n,rfl,.inl ⟨n,rfl⟩,?_⟩;rw [Jm0 hb'.1 hb'.2];exact k' _ (Same.refl _)
  intro H1 s1 hD1;refine ⟨D,_,rfl,SqL.of hD1,?_⟩;rw [show (yw ns.length true).all id=true by simp];exact k _ s1
theorem sc_settings_by:Jk0 ["river","numbers","ups"] ["river","numbers"] (Jju (top 37)):=%[|0]
theorem Joo (T:Tx K mg a) (Bm:Bmn mg base):FnOk P w K mg base CX0 7 a.Jgc a.Jgd ["river","numbers"] (Yc7 a):=by
 have G_settings_alone:=Jmb (P:=P) (w:=w) T Bm;refine %[T.Ji.fn.ok,sc_settings_by|2]
 ·obtain ⟨r,l,Bs,c,g,ns,rfl,_⟩:=h;rfl
 ·obtain ⟨r,l,Bs,c,g,ns,rfl,ht,rv,rg,hl,ng,k⟩:=h;obtain ⟨dx,b,t,os,hr0,hb,pr⟩:=id rv;have len:=Paired.length pr;have l16:=rg.len;have nl:=ng.1;have ul:=Jxs ng l16.1;refine ⟨?t,?B,?C⟩
  case B=>
   refine' Jjs ?s1 ?r1
   case s1=>
    exact (Jk5 (i:=2) sc_settings_by.nd rfl (ye rfl) (Jk7 Jrg (Jl4 (Jjp Jjv Jjr)) (Jor Jqv (pv 1) Jqn (Jqo (Jx9 Jtk Jjv)))))
   case r1=>
    refine' Jjt ?s3
    case s3=>
     exact (Jk1 (Jkl (N:=(["basin","up","hi"]:List Str)) (ini:=[none,none,none]) rfl (Js9 true false false (by rfl) T.Jb5 (Jjp (Jky (pv 0) (by rfl)) (Jjp (pv 2) (Jjp (pv 1) Jjr)))) (λ_ _ _ _ _=>(Jng (K:=K) (n:=3) rfl rfl (Jkb (Jk2 (i:=0) (by decide +kernel:(["basin","up","hi"]:List Str).Nodup) rfl (ye rfl)) (Jkb (Jk2 (i:=1) (by decide +kernel:(["basin","up","hi"]:List Str).Nodup) rfl (ye rfl)) (Jkb (Jk2 (i:=2) (by decide +kernel:(["basin","up","hi"]:List Str).Nodup) rfl (ye rfl)) Jlp))))) (λ_ _ _ _ _=>Jkp) (λ_ _ _ _ _=>(Jjw T.Je G_settings_alone hr (by decide) (Jjp (pv 0) (Jjp (pv 1) (Jjp (pv 2) Jjr)))))))
  refine ⟨(show 1<=sizeLine by decide),λz hz=>?_⟩;have s1:=Same.upd (o:=.lst [.int 0]) hz;refine ⟨_,rfl,_,rfl,_,rfl,l,_,rfl,SqL.of (s1 _ _ hl),λz2 hz2=>?_⟩;have s2:=Same.upd (o:=.lst (Jmf (ns.map V.int) none (some (-1)))) hz2;have ec:Jmf (ns.map V.int) none (some (-1))=ns.dropLast.map V.int:=by
   unfold Jmf;rw [HT.sIx_none,yf];show ((ns.map V.int).drop 0).take (((-1:Int)+(ns.length:Int)).toNat - 0)=_;rw [List.drop_zero,ycu,List.map_take];congr 1;omega
  refine ⟨z,z2,_,_,rfl,rfl,s2 _ _ Jjq,Jjq,?_,λU hU=>?_⟩
  ·rw [ec];simp;exact yaq (Jkc (by omega))
  have s3:=(s1.trans s2).trans (Same.upd (o:=.lst ([.int 0]++Jmf (ns.map V.int) none (some (-1)))) hU);have hU':(upd (upd (upd H z (.lst [.int 0])) z2 (.lst (Jmf (ns.map V.int) none (some (-1))))) U (.lst ([.int 0]++Jmf (ns.map V.int) none (some (-1))))) U=some (.lst ((Jlh ns).map V.int)):=by
   rw [Jjq,ec];rfl
  generalize upd (upd (upd H z (.lst [.int 0])) z2 (.lst (Jmf (ns.map V.int) none (some (-1))))) U (.lst ([.int 0]++Jmf (ns.map V.int) none (some (-1))))=H3 at s3 hU';refine ⟨_,rfl,r,_,dx,_,_,rfl,s3 _ _ hr0,T.Jdq,T.Jec,rfl,_,rfl,_,rfl,b,U,l,rfl,⟨_,SqT.of (s3 _ _ hb)⟩,⟨_,SqL.of hU'⟩,⟨_,SqL.of (s3 _ _ hl)⟩,λD hD=>?_⟩;refine Jr5 (K:=K) (xs:=os.map V.ref) (ys:=(Jlh ns).map V.int) (us:=ns.map V.int) (λi σ H'=>(∃o1 o2 o3,σ= [o1,o2,o3])/\Same H3 H'/\∃ps:List Addr,H' D=some (.lst (ps.map V.ref))/\ps.length=i/\∀(j:Nat) B p,Bs[j]?=some B->ps[j]?=some p->DctAt H' B ((Jlh ns).getD j 0) (ns.getD j 0) p) ⟨⟨_,_,_,rfl⟩,Same.upd hD,[],Jjq,rfl,λj B p _ h=>by simp at h⟩ (λi σ H' _ ⟨_,sm,_⟩=>⟨SqT.of (sm _ _ (s3 _ _ hb)),SqL.of (sm _ _ hU'),SqL.of (sm _ _ (s3 _ _ hl))⟩) (by simp;omega) (by simp;omega) ?_ ?_
  ·rintro i x y u σ H' T1 hx hy hu ⟨⟨o1,o2,o3,rfl⟩,sm,ps,hDs,hpl,hps⟩ hT;rw [ym] at hx hy hu;obtain ⟨o,ho,rfl⟩:=yx.mp hx;obtain ⟨up,hup,rfl⟩:=yx.mp hy;obtain ⟨hi,hhi,rfl⟩:=yx.mp hu;obtain ⟨B,hB,bx⟩:=Jkn pr ho;have il:i < Bs.length:=(yq.mp hB).1;have tg:=rg.all B (yaa hB);have sT:=Same.upd (o:=.tup [.ref o,.int up,.int hi]) hT;have s4:=(s3.trans sm).trans sT;have b1:=Yeg ng up (yaa hup);refine Jzo (SqT.of Jjq) ⟨_,rfl,_,rfl,_,rfl,o,B,up,hi,rfl,s4 _ _ ht,bx.same s4,tg.b,b1,λp ob H5 s5 hp=>?_⟩;have hD5:=s5 _ _ (sT _ _ hDs);have npD:∀{q:Addr} {ob:Obj} {kvs:List (Key×V)},H5 q=some (.frz ob (.dK kvs))->q≠D:=λh z=>by rw [z,hD5] at h;cases h
   refine ⟨_,hD5,?_,⟨_,_,_,rfl⟩,?_,ps++ [p],?_,?_,?_⟩
   ·rw [yf];exact Jkc (by omega)
   ·intro c2 o' z';rw [Jjx (Jjy z' hD)];exact s5 _ _ (sT _ _ (sm _ _ z'))
   ·rw [Jjq,yz];rfl
   ·rw [yas,hpl];rfl
   ·intro j B' p' hB' hp';by_cases cj:j < ps.length
    ·rw [ycc cj] at hp';obtain ⟨ob',e'⟩:=hps j B' p' hB' hp';have e5:=s5 _ _ (sT _ _ e');exact ⟨ob',by rw [Jjx (npD e5)];exact e5⟩
    ·have jl:=(yq.mp hp').1;rw [yas] at jl;have ej:j=i:=by simp at jl;omega
     subst ej;rw [ycb (by omega),show j - ps.length=0 by omega] at hp';have ep:p'=p:=by simpa using hp'.symm
     subst ep;rw [hB] at hB';cases hB';have e1:(Jlh ns).getD j 0=up:=by rw [yy,hup];rfl
     have e2:ns.getD j 0=hi:=by rw [yy,hhi];rfl
     rw [e1,e2];exact ⟨ob,by rw [Jjx (npD hp)];exact hp⟩
  ·rintro σ H' ⟨_,sm,ps,hDs,hpl,hps⟩;exact k D ps H' (s3.trans sm) hDs (by rw [hpl,yf,len]) hps
theorem sc_first_lost:Jk0 ["levels","by_basin","place","level"] ["levels","by_basin"] (Jju (top 38)):=%[|0]
theorem Jpn (T:Tx K mg a):FnOk P w K mg base CX0 1 a.Jge a.Jgf ["levels","by_basin"] Yc0:=by
 refine %[T.Jj.fn.ok,sc_first_lost|2]
 ·obtain ⟨s',d,Bs,ns,ls,ps,rfl,_⟩:=h;rfl
 ·obtain ⟨s',d,Bs,ns,ls,ps,rfl,hs,lg,hd,rg,hpl,hps,k1,k2⟩:=h;have hu64:=Jvh hr;have l16:=rg.len;have ll:=lg.1;refine ⟨?t,?B,?C⟩
  case B=>
   refine' Jjs ?s1 ?r1
   case s1=>
    refine' Jmn ?f2_0 ?f2_1 ?f2_2 ?f2_3 ?f2_4
    case f2_0=>
     exact PassesOwn.never
    case f2_1=>
     exact rfl
    case f2_2=>
     exact (Jxa (by rfl) T.Jas (Jjp (pv 0) Jjr))
    case f2_3=>
     exact (Jq7 rfl (Jkb (Jk2 (i:=2) sc_first_lost.nd rfl (ye rfl)) (Jkb (Jk2 (i:=3) sc_first_lost.nd rfl (ye rfl)) Jlp)))
    case f2_4=>
     refine' Jjt ?s3
     case s3=>
      refine' Jkd ?c4 ?a4 ?b4
      case c4=>
       exact (Jke (Ju2 hu64) (pv 3) (Jk9 Jki (pv 1) (pv 2) (λ_ _=>rfl)) (by with_unfolding_all rfl))
      case a4=>
       refine' Jjt ?s5
       case s5=>
        exact (Jk1 (pv 2))
      case b4=>
       exact Jk3
   case r1=>
    refine' Jjt ?s9
    case s9=>
     exact (Jk1 Jls)
  refine ⟨_,rfl,s',rfl,⟨_,SqT.of hs⟩,?_⟩;refine Jwq (K:=K) (a:=s') (xs:=ls.map V.int) (λi σ H'=>(∃o2 o3,σ= [some (.ref s'),some (.ref d),o2,o3])/\Same H H'/\∀(j:Nat) B,j < i->Bs[j]?=some B->Jpx B ((Jlh ns).getD j 0) (ns.getD j 0) (ls.getD j 0)=true) ⟨⟨_,_,rfl⟩,Same.refl _,λj B h=>absurd h (ycf _)⟩ (λi σ H' _ ⟨_,sm,_⟩=>SqT.of (sm _ _ hs)) ?_ ?_
  ·rintro i x σ H' T1 hx ⟨⟨o2,o3,rfl⟩,sm,all⟩ hT;rw [ym] at hx;obtain ⟨v,hv,rfl⟩:=yx.mp hx;have il:i < ls.length:=(yq.mp hv).1;have hB:Bs[i]?=some (Bs[i]'(by omega)):=yn _;generalize Bs[i]'(by omega)=B at hB;have rb:=lg.2 i B v hB hv;have ev:ls.getD i 0=v:=by rw [yy,hv];rfl
   have sT:=Same.upd (o:=.tup [.int i,.int v]) hT;have s1:=sm.trans sT;have hp:ps[i]?=some (ps[i]'(by omega)):=yn _;obtain ⟨ob,e⟩:=hps i B _ hB hp;refine ⟨T1,_,rfl,SqT.of Jjq,rfl,_,_,rfl,_,_,rfl,rfl,?_⟩;refine ⟨_,rfl,_,rfl,_,rfl,d,_,(i:Int),_,rfl,rfl,SqL.of (s1 _ _ hd),Jl8 (j:=i) (by rw [ym,hp];rfl),_,_,rfl,.inl ⟨_,yah v,.inr ⟨ob,s1 _ _ e⟩,rfl,rfl⟩,_,rfl,?_⟩;rw [lv_in rb];cases hc:Jpx B ((Jlh ns).getD i 0) (ns.getD i 0) v with
   |false=>
    rw [if_neg yab];refine Jm7 ⟨_,rfl,k2 ?_ i _ (by omega) s1⟩;unfold Jo9;rw [List.all_eq_false];refine ⟨i,yac.mpr (by omega),?_⟩;rw [hB];show ¬(Jpx B ((Jlh ns).getD i 0) (ns.getD i 0) (ls.getD i 0)=true);rw [ev,hc];decide
   |true=>
    rw [if_pos rfl];refine Jkt ⟨⟨_,_,rfl⟩,s1,λj B' hj hB'=>?_⟩;by_cases cj:j < i
    ·exact all j B' cj hB'
    ·have:j=i:=by omega
     subst this;rw [hB] at hB';cases hB';rw [ev];exact hc
  ·rintro σ H' ⟨_,sm,all⟩;refine k1 ?_ _ sm;unfold Jo9;rw [yar];intro i hi;have il:=yac.mp hi;cases hB:Bs[i]? with
   |none=>rfl
   |some B=>exact all i B (by simp;omega) hB
theorem Js3:Jk0 ["river","numbers"] ["river","numbers"] (Jju (top 39)):=%[|0]
theorem Js1 (T:Tx K mg a) (Bm:Bmn mg base):FnOk P w K mg base CX0 8 a.Jgg a.Jgh ["river","numbers"] (spAreP a):=by
 have G_are_numbers:=%[Jol|1];have G_settings_by:=Joo (P:=P) (w:=w) T Bm;have G_first_lost:=%[Jpn|1];refine %[T.Jk.fn.ok,Js3|2]
 ·obtain ⟨r,l,Bs,c,g,ns,rfl,_⟩:=h;rfl
 ·obtain ⟨r,l,Bs,c,g,ns,rfl,ht,rv,rg,hl,ng,k⟩:=h;have l16:=rg.len;refine ⟨?t,?B,?C⟩
  case B=>
   refine' Jjs ?s1 ?r1
   case s1=>
    refine' Jkd ?c2 ?a2 ?b2
    case c2=>
     exact (Jkh (Jkf (Jjw T.Jh G_are_numbers hr (by decide) (Jjp (pv 0) (Jjp (pv 1) Jjr)))))
    case a2=>
     refine' Jjt ?s3
     case s3=>
      exact (Jk1 Jlg)
    case b2=>
     exact Jk3
   case r1=>
    refine' Jjt ?s7
    case s7=>
     exact (Jk1 (Jm1 Jrh (Jjw T.Jj G_first_lost hr (by decide) (Jjp (Jk9 Jku (Jp7 (pv 0) hr) Jjv (λ_ _=>rfl)) (Jjp (Jjw T.Ji G_settings_by hr (by decide) (Jjp (pv 0) (Jjp (pv 1) Jjr))) Jjr))) Jls (Jkg _)))
  refine ⟨_,rfl,_,rfl,r,l,Bs,c,g,ns,rfl,rv,hl,ng,l16.2,λH1 s1=>⟨_,rfl,Jkt ?_⟩⟩;obtain ⟨dx,b,t,os,hr0,hb,pr⟩:=id (rv.same s1);refine ⟨_,rfl,r,_,dx,_,_,_,_,_,1,rfl,hr0,rfl,T.Jdq,T.Jds,Jn6 T,by decide,T.Jcr.bd,r,Bs,c,g,rfl,rv.same s1,l16.2,λt1 S H2 s2 ht1 hS=>?_⟩;have s12:=s1.trans s2;refine ⟨t1,_,0,_,rfl,rfl,SqT.of ht1,rfl,_,rfl,_,rfl,r,l,Bs,c,g,ns,rfl,s12 _ _ ht,rv.same s12,rg,s12 _ _ hl,ng,λd ps H3 s3 hd hpl hps=>?_⟩;have s13:=s12.trans s3;refine ⟨S,d,Bs,ns,_,ps,rfl,s3 _ _ hS,LvG.start rg.all,hd,rg,hpl,hps,λe H4 s4=>⟨rfl,?_⟩,λe i H4 _ s4=>⟨rfl,?_⟩⟩
  ·have q:=k _ (s13.trans s4);rw [<-Jn3,e] at q;exact q
  ·have q:=k _ (s13.trans s4);rw [<-Jn3,e] at q;exact q
noncomputable abbrev lb_local_keeper:Array (Nat×Nat×Str):=#[((Jqp (nst (top 43) 3)).line,(Jqp (nst (top 43) 3)).col,"local_keeper.<locals>.keeper")]
noncomputable def spRowG:Sp:=λvs H Q _=>∃(p l m:Addr) (ls lo hi:List Int),vs= [.ref p,.ref l,.ref m]/\H p=some (.tup (ls.map V.int))/\H l=some (.lst (lo.map V.int))/\H m=some (.lst (hi.map V.int))/\lo.length=ls.length/\hi.length=ls.length/\ls.length<=16/\(∀(i:Nat) (x y z:Int),ls[i]?=some x->lo[i]?=some y->hi[i]?=some z->y<=x/\x<=z)/\∀H',Same H H'->Q (.bl true) H'
noncomputable def Ye6:Sp:=λvs H Q _=>∃(p:Addr) (x y:V),vs= [.ref p]/\H p=some (.tup [x,y])/\Q (.bl true) H
noncomputable def Yc8 (a:Ad):Sp:=λvs H Q _=>∃(r y s:Addr) (Bs:List BTd) (c g wt:Int) (ls:List Int),vs= [.ref r,.ref y]/\RivAt a H r Bs c g/\Bs.length<=16/\H y=some (.tup [.ref s,.int wt])/\H s=some (.tup (ls.map V.int))/\LvG Bs ls/\(0<=wt/\wt<=c)/\∀H',Same H H'->Q (.bl true) H'
noncomputable def spRefL (a:Ad):Sp:=λvs H Q E=>∃(s d:Addr) (Bs:List BTd) (ns ls:List Int) (ps:List Addr),vs= [.ref s,.ref d]/\H s=some (.tup (ls.map V.int))/\LvG Bs ls/\H d=some (.lst (ps.map V.ref))/\RGd Bs/\ps.length=Bs.length/\(∀(i:Nat) B p,Bs[i]?=some B->ps[i]?=some p->DctAt H B ((Jlh ns).getD i 0) (ns.getD i 0) p)/\
 (Jo9 Bs ns ls=true->∀H',Same H H'->Q .non H')/\(Jo9 Bs ns ls=false->∀(i:Nat) e dx H',i < Bs.length->Same H H'->H' e=some (XO e a.Jjd (some dx) false)->H' dx=some (XD dx [("basin",.int (i:Int))])->E (.ref a.Jjd) (some e) H')
noncomputable def Jkr (Bs:List BTd) (ns ls:List Int):List Int:=(yt Bs.length).map λi=>match Bs[i]? with
 |some B=>Jl2 B ((Jlh ns).getD i 0) (ns.getD i 0) (ls.getD i 0 - B.lo).toNat
 |none=>0
noncomputable def ByAt (H:Hp) (d:Addr) (Bs:List BTd) (ns:List Int):Prop:=∃ps:List Addr,H d=some (.lst (ps.map V.ref))/\ps.length=Bs.length/\∀(i:Nat) B p,Bs[i]?=some B->ps[i]?=some p->DctAt H B ((Jlh ns).getD i 0) (ns.getD i 0) p
theorem ByAt.same {H H':Hp} {d:Addr} {Bs:List BTd} {ns:List Int} (s:Same H H') (h:ByAt H d Bs ns):ByAt H' d Bs ns:=by obtain ⟨ps,h1,h2,h3⟩:=h;exact ⟨ps,s _ _ h1,h2,λi B p e1 e2=>(h3 i B p e1 e2).same s⟩
noncomputable def KprAt (H:Hp) (f r d:Addr) (Bs:List BTd) (ns:List Int):Prop:=ByAt H d Bs ns/\CloAt H f "keeper" "local_keeper.<locals>.keeper" (nst (top 43) 3) [("by_basin",.ref d),("river",.ref r)]
noncomputable def spKpr (a:Ad):List V->Sp:=λcs vs H Q _=>∃(d r y s:Addr) (x:V) (Bs:List BTd) (c g wt:Int) (ns ls:List Int),cs= [.ref d,.ref r]/\vs= [.ref y,x]/\RivAt a H r Bs c g/\RGd Bs/\ByAt H d Bs ns/\H y=some (.tup [.ref s,.int wt])/\H s=some (.tup (ls.map V.int))/\LvG Bs ls/\(0<=wt/\wt<=c)/\Jo9 Bs ns ls=true/\
 ∀(t u:Addr) (H':Hp),Same H H'->H' t=some (.tup [.ref u,.non])->H' u=some (.tup ((Jkr Bs ns ls).map V.int))->Q (.ref t) H'
noncomputable def Ye2 (a:Ad):Sp:=λvs H Q E=>∃(r l:Addr) (Bs:List BTd) (c g:Int) (ns:List Int),vs= [.ref r,.ref l]/\H a.Jjm=some (.tbl lb_lost_alone)/\H a.Jjo=some (.tbl lb_local_keeper)/\RivAt a H r Bs c g/\RGd Bs/\H l=some (.lst (ns.map V.int))/\NGd Bs.length ns/\
 (Jr1 Bs ns=true->∀f d H',Same H H'->KprAt H' f r d Bs ns->Q (.ref f) H')/\(Jr1 Bs ns=false->∀(i:Nat) e dx H',i < Bs.length->Same H H'->H' e=some (XO e a.Jjd (some dx) false)->H' dx=some (XD dx [("basin",.int (i:Int))])->E (.ref a.Jjd) (some e) H')
theorem Jo0:Jk0 ["self","thing"] ["self","thing"] (Jju (Jk8 (top 9) 0)):=%[|0]
theorem Jpz (T:Tx K mg a):FnOk P w K mg base CX0 1 a.Jf6 a.Jf7 ["self","thing"] (Jn8 K "thing"):=by
 refine %[T.Jcb.fn.ok,Jo0|2]
 ·obtain ⟨e,C,W,fI,y,rfl,_⟩:=h;rfl
 ·obtain ⟨e,C,W,fI,y,rfl,q,c,n,k⟩:=h;refine ⟨_,(Jjt (Jmw (pv 0) (pv 1) rfl)),?_⟩;exact ⟨_,rfl,_,rfl,e,C,W,fI,true,rfl,q,c,n,k⟩
theorem Yu:Jk0 ["thing","lows","highs"] ["thing","lows","highs"] (Jju (top 19)):=%[|0]
theorem Yi (T:Tx K mg a):FnOk P w K mg base CX0 2 a.Jfi a.Jfj ["thing","lows","highs"] spRowG:=by
 have G_is_whole:=%[Jli|1];refine %[T.J3.fn.ok,Yu|2]
 ·obtain ⟨p,l,m,ls,lo,hi,rfl,_⟩:=h;rfl
 ·obtain ⟨p,l,m,ls,lo,hi,rfl,hp,hl,hm,e1,e2,l16,inn,k⟩:=h;refine ⟨?t,?B,?C⟩
  case B=>
   refine' Jjs ?s1 ?r1
   case s1=>
    refine' Jkd ?c2 ?a2 ?b2
    case c2=>
     exact (PW.pt (Jot (Jkh (Jkf (Jjz Jle (by rfl) T.Jau Jka (Jjp (pv 0) (Jjp (Jlb (v:=.ty "tuple") (by rfl) T.Jb4 Jl7 rfl) Jjr))))) (Jou (Jke Jx7 (Jjz Jk4 (by rfl) T.Jav Jkw (Jjp (pv 0) Jjr)) (Jjz Jk4 (by rfl) T.Jav Jkw (Jjp (pv 1) Jjr)) (Jkg _)))))
    case a2=>
     refine' Jjt ?s3
     case s3=>
      exact (Jk1 Jlg)
    case b2=>
     exact Jk3
   case r1=>
    refine' Jjt ?s7
    case s7=>
     exact (Jk1 (Jjz (Jmz rfl) (by rfl) T.Jao Jpr (Jjp (Jkl (N:=(["number","low","high"]:List Str)) (ini:=[none,none,none]) rfl (Js9 true false false (by rfl) T.Jb5 (Jjp (pv 0) (Jjp (pv 1) (Jjp (pv 2) Jjr)))) (λ_ _ _ _ _=>(Jng (K:=K) (n:=3) rfl rfl (Jkb (Jk2 (i:=0) (by decide +kernel:(["number","low","high"]:List Str).Nodup) rfl (ye rfl)) (Jkb (Jk2 (i:=1) (by decide +kernel:(["number","low","high"]:List Str).Nodup) rfl (ye rfl)) (Jkb (Jk2 (i:=2) (by decide +kernel:(["number","low","high"]:List Str).Nodup) rfl (ye rfl)) Jlp))))) (λ_ _ _ _ _=>Jkp) (λ_ _ _ _ _=>(Jjw T.J0 G_is_whole hr (by decide) (Jjp (pv 0) (Jjp (pv 1) (Jjp (pv 2) Jjr)))))) Jjr)))
  refine ⟨_,rfl,_,_,_,.type "tuple",true,rfl,rfl,.of (.tup hp),rfl,_,rfl,Jkt ?_⟩;refine ⟨_,rfl,p,_,rfl,.inr (SqT.of hp),_,rfl,l,_,rfl,.inl (SqL.of hl),rfl,_,rfl,ifF (by simp [e1]) ?_⟩;refine ⟨_,rfl,_,rfl,_,rfl,p,l,m,rfl,⟨_,SqT.of hp⟩,⟨_,SqL.of hl⟩,⟨_,SqL.of hm⟩,λD hD=>?_⟩;refine Jr5 (K:=K) (l1:=p) (l2:=l) (l3:=m) (b1:=true) (b2:=false) (b3:=false) (xs:=ls.map V.int) (ys:=lo.map V.int) (us:=hi.map V.int) (D:=D) (λi σ H'=>(∃o1 o2 o3,σ= [o1,o2,o3])/\Same H H'/\H' D=some (.lst ((yw i true).map V.bl))) ⟨⟨_,_,_,rfl⟩,Same.upd hD,Jjq⟩ (λi σ H' _ ⟨_,sm,_⟩=>⟨SqT.of (sm _ _ hp),SqL.of (sm _ _ hl),SqL.of (sm _ _ hm)⟩) (by simp [e1]) (by simp [e2]) ?_ ?_
  ·rintro i x y u σ H' T1 hx hy hu ⟨⟨o1,o2,o3,rfl⟩,sm,hDs⟩ hT;rw [ym] at hx hy hu;obtain ⟨v,hv,rfl⟩:=yx.mp hx;obtain ⟨vl,hvl,rfl⟩:=yx.mp hy;obtain ⟨vh,hvh,rfl⟩:=yx.mp hu;have il:i < ls.length:=(yq.mp hv).1;have b:=inn i v vl vh hv hvl hvh;have sT:=Same.upd (o:=.tup [.int v,.int vl,.int vh]) hT;refine Jzo (SqT.of Jjq) ⟨_,rfl,_,rfl,_,rfl,.int v,vl,vh,rfl,.inl ⟨v,rfl⟩,?_⟩;rw [Jm0 b.1 b.2];refine ⟨_,sT _ _ hDs,?_,⟨_,_,_,rfl⟩,?_,?_⟩
   ·rw [yf,ybs];exact Jkc (by omega)
   ·intro c2 o' z;rw [Jjx (Jjy z hD)];exact sT _ _ (sm _ _ z)
   ·rw [Jjq,ycp,yz];rfl
  ·rintro σ H' ⟨_,sm,hDs⟩;refine ⟨D,_,rfl,SqL.of hDs,?_⟩;rw [show (yw (ls.map V.int).length true).all id=true by simp];exact k _ sm
theorem Jyp:Jk0 ["thing"] ["thing"] (Jju (top 20)):=%[|0]
theorem Jye (T:Tx K mg a):FnOk P w K mg base CX0 1 a.Jfk a.Jfl ["thing"] Ye6:=by
 refine %[T.J4.fn.ok,Jyp|2]
 ·obtain ⟨p,x,y,rfl,_⟩:=h;rfl
 ·obtain ⟨p,x,y,rfl,hp,k⟩:=h;refine ⟨?t,?B,?C⟩
  case B=>
   refine' Jjt ?s1
   case s1=>
    exact (Jk1 (Jt2 (Jjz Jle (by rfl) T.Jau Jka (Jjp (pv 0) (Jjp (Jlb (v:=.ty "tuple") (by rfl) T.Jb4 Jl7 rfl) Jjr))) (Jt5 (Jm1 Jnp (Jjz Jk4 (by rfl) T.Jav Jkw (Jjp (pv 0) Jjr)) Jjv (Jkg _)))))
  refine ⟨_,rfl,_,_,_,.type "tuple",true,rfl,rfl,.of (.tup hp),rfl,_,rfl,Jm7 ?_⟩;exact ⟨_,rfl,p,_,rfl,.inr (SqT.of hp),rfl,k⟩
theorem Jtb:Jk0 ["river","thing"] ["river","thing"] (Jju (top 21)):=%[|0]
theorem Jt0 (T:Tx K mg a):FnOk P w K mg base CX0 3 a.Jfm a.Jfn ["river","thing"] (Yc8 a):=by
 have G_is_pair:=%[Jye|1];have G_is_whole:=%[Jli|1];have G_is_row:=%[Yi|1];refine %[T.J5.fn.ok,Jtb|2]
 ·obtain ⟨r,y,s',Bs,c,g,wt,ls,rfl,_⟩:=h;rfl
 ·obtain ⟨r,y,s',Bs,c,g,wt,ls,rfl,rv,l16,hy,hs,lg,hw,k⟩:=h;obtain ⟨dx,b,t,os,hr0,hb,pr⟩:=id rv;have len:=Paired.length pr;have ll:=lg.1;refine ⟨?t,?B,?C⟩
  case B=>
   refine' Jjs ?s1 ?r1
   case s1=>
    refine' Jkd ?c2 ?a2 ?b2
    case c2=>
     exact (PW.pt (Jot (Jkh (Jkf (Jjw T.J4 G_is_pair hr (by decide) (Jjp (pv 1) Jjr)))) (Jou (Jkh (Jkf (Jjw T.J0 G_is_whole hr (by decide) (Jjp (Jk9 Jku (pv 1) Jjv (λ_ _=>rfl)) (Jjp Jjv (Jjp (Jky (pv 0) (by rfl)) Jjr)))))))))
    case a2=>
     refine' Jjt ?s3
     case s3=>
      exact (Jk1 Jlg)
    case b2=>
     exact Jk3
   case r1=>
    refine' Jjt ?s7
    case s7=>
     exact (Jk1 (Jjw T.J3 G_is_row hr (by decide) (Jjp (Jk9 Jku (pv 1) Jjv (λ_ _=>rfl)) (Jjp (Jkl (N:=(["basin"]:List Str)) (ini:=[none]) rfl (Jyk (Jky (pv 0) (by rfl))) (λ_ _ _ _ _=>(Jk2 (i:=0) (by decide +kernel:(["basin"]:List Str).Nodup) rfl (ye rfl))) (λ_ _ _ _ _=>Jkp) (λ_ _ _ _ _=>(Jm2 (K:=K) rfl (pv 0) (by rfl)))) (Jjp (Jkl (N:=(["basin"]:List Str)) (ini:=[none]) rfl (Jyk (Jky (pv 0) (by rfl))) (λ_ _ _ _ _=>(Jk2 (i:=0) (by decide +kernel:(["basin"]:List Str).Nodup) rfl (ye rfl))) (λ_ _ _ _ _=>Jkp) (λ_ _ _ _ _=>(Jm2 (K:=K) rfl (pv 0) (by rfl)))) Jjr)))))
  refine ⟨_,rfl,y,_,_,rfl,hy,_,rfl,Jkt ?_⟩;refine ⟨_,rfl,y,_,1,_,rfl,rfl,SqT.of hy,rfl,_,rfl,r,_,dx,_,_,rfl,hr0,T.Jdq,T.Jea,rfl,.int wt,0,c,rfl,.inl ⟨wt,rfl⟩,_,rfl,?_⟩;rw [Jm0 hw.1 hw.2];refine Jkt ?_;refine ⟨_,rfl,y,_,0,_,rfl,rfl,SqT.of hy,rfl,_,rfl,r,_,dx,_,_,rfl,hr0,T.Jdq,T.Jec,rfl,b,rfl,⟨_,SqT.of hb⟩,λD hD=>?_⟩;refine Jr4 ((Bs.map (·.lo)).map V.int) hD (by simp [len]) (by simp;omega) hb ?_ ?_
  ·intro i x y' H' Q' hx hy' sm k';rw [ym] at hx;obtain ⟨o,ho,rfl⟩:=yx.mp hx;obtain ⟨B,hB,bx⟩:=Jkn pr ho;rw [ym,ym,hB] at hy';cases hy';obtain ⟨dx',g',h1,_⟩:=bx.same sm;exact ⟨_,rfl,o,_,dx',_,_,rfl,h1,T.Jdk,T.Je2,rfl,k' _ (Same.refl _)⟩
  intro H1 s1 hD1;refine ⟨_,rfl,r,_,dx,_,_,rfl,s1 _ _ hr0,T.Jdq,T.Jec,rfl,b,rfl,⟨_,SqT.of (s1 _ _ hb)⟩,λD2 hD2=>?_⟩;refine Jr4 ((Bs.map (·.hi)).map V.int) hD2 (by simp [len]) (by simp;omega) (s1 _ _ hb) ?_ ?_
  ·intro i x y' H' Q' hx hy' sm k';rw [ym] at hx;obtain ⟨o,ho,rfl⟩:=yx.mp hx;obtain ⟨B,hB,bx⟩:=Jkn pr ho;rw [ym,ym,hB] at hy';cases hy';obtain ⟨dx',g',h1,_⟩:=(bx.same s1).same sm;exact ⟨_,rfl,o,_,dx',_,_,rfl,h1,T.Jdk,T.Je3,rfl,k' _ (Same.refl _)⟩
  intro H2 s2 hD2';refine ⟨s',D,D2,ls,Bs.map (·.lo),Bs.map (·.hi),rfl,s2 _ _ (s1 _ _ hs),s2 _ _ hD1,hD2',by simp [ll],by simp [ll],by omega,λi x yl yh hx hl hh=>?_,λH3 s3=>k _ ((s1.trans s2).trans s3)⟩;rw [ym] at hl hh;obtain ⟨B,hB,rfl⟩:=yx.mp hl;rw [hB] at hh;cases hh;exact lg.2 i B x hB hx
theorem sc_refuse_lost:Jk0 ["levels","by_basin","place"] ["levels","by_basin"] (Jju (top 42)):=%[|0]
theorem Jon (T:Tx K mg a):FnOk P w K mg base (CXX P w) 3 a.Jgm a.Jgn ["levels","by_basin"] (spRefL a):=by
 have G_first_lost:=%[Jpn|1];have G_NoPromise___init__:=%[Jnf|1];refine %[T.Jn.fn.okX,sc_refuse_lost|2]
 ·obtain ⟨s',d,Bs,ns,ls,ps,rfl,_⟩:=h;rfl
 ·obtain ⟨s',d,Bs,ns,ls,ps,rfl,hs,lg,hd,rg,hpl,hps,k1,k2⟩:=h;refine ⟨?t,?B,?C⟩
  case B=>
   refine' Jjs ?s1 ?r1
   case s1=>
    exact (Jk5 (i:=2) sc_refuse_lost.nd rfl (ye rfl) (Jjw T.Jj G_first_lost hr (by decide) (Jjp (pv 0) (Jjp (pv 1) Jjr))))
   case r1=>
    refine' Jjt ?s3
    case s3=>
     refine' Jkd ?c4 ?a4 ?b4
     case c4=>
      exact (Jke Js8 (pv 2) Jls (Jkg _))
     case a4=>
      refine' Jjt ?s5
      case s5=>
       exact (Jkv Jkz rfl (Jlj T.Jd0 G_NoPromise___init__ hr (by decide) T.Jcd.bd T.Jbe (Jjp (pv 2) Jjr)))
     case b4=>
      exact Jk3
  refine ⟨_,rfl,_,rfl,s',d,Bs,ns,ls,ps,rfl,hs,lg,hd,rg,hpl,hps,λe H1 s1=>?_,λe i H1 hi s1=>?_⟩
  ·exact ⟨_,rfl,rfl,_,rfl,ifF (by rfl) (k1 e _ s1)⟩
  ·refine ⟨_,rfl,rfl,_,rfl,ifT (by rfl) ?_⟩;refine Jmc T.Jd0 T.Jdx rfl λe' dx' h1 h2 h3=>?_;refine k2 e i e' dx' _ hi ?_ Jjq ?_
   ·rw [Jmq];intro b' o' q;have q':=s1 _ _ q;rw [Jjx (Jjy q' h1),Jjx (Jjy q' h2)];exact q'
   ·rw [Jjx h3,Jjx h3,Jjq]
theorem Jo1:Jo6 ["standing","k","by_basin","river"] ["standing","k"] ["by_basin","river"] (Jju (nst (top 43) 3)):=⟨rfl,rfl,rfl,by decide +kernel,rfl,by decide +kernel,by decide +kernel,by decide +kernel⟩
theorem Yj (T:Tx K mg a) (f:Addr):CloOk P w K mg base (CXX P w) 4 f (Jzn "keeper" "local_keeper.<locals>.keeper" (nst (top 43) 3) ["by_basin","river"] (spKpr a) f):=by
 have G_is_standing:=%[Jt0|1];have G_NoStanding___init__:=%[Jpz|1];have G_refuse_lost:=%[Jon|1];refine Yaj Jo1 (λ_ _ _ _ _ us hl=>match us,hl with| [_,_],_=>rfl) (λcs vs H Q E h=>?_) (λf c clos A outer s H vs cs Q E hr h=>?_) f
 ·obtain ⟨d,r,y,s',x,Bs,c,g,wt,ns,ls,rfl,rfl,_⟩:=h;exact ⟨rfl,rfl⟩
 ·obtain ⟨d,r,y,s',x,Bs,cl,g,wt,ns,ls,rfl,rfl,rv,rg,⟨ps,hd,hpl,hps⟩,hy,hs,lg,hw,hp,k⟩:=h;have l16:=rg.len;have ll:=lg.1;refine ⟨?t,?B,?C⟩
  case B=>
   refine' Jjs ?s1 ?r1
   case s1=>
    refine' Jkd ?c2 ?a2 ?b2
    case c2=>
     exact (Jkh (Jkf (Jjw T.J5 G_is_standing hr (by decide) (Jjp (pv 3) (Jjp (pv 0) Jjr)))))
    case a2=>
     refine' Jjt ?s3
     case s3=>
      exact (Jkv Yct rfl (Jlj T.Jcy G_NoStanding___init__ hr (by decide) T.Jcb.bd T.Jbc (Jjp (pv 0) Jjr)))
    case b2=>
     exact Jk3
   case r1=>
    refine' Jjs ?s6 ?r6
    case s6=>
     exact (Jlq (Jlk T.Jn G_refuse_lost Yct hr (by decide) (Jjp (Jk9 Jku (pv 0) Jjv (λ_ _=>rfl)) (Jjp (pv 2) Jjr))))
    case r6=>
     refine' Jjt ?s8
     case s8=>
      exact (Jk1 (Jmm (Jjp (Jko Jl5 (by rfl) T.Jb4 Jl7 (Jjp (Jkl (N:=(["by_level","level"]:List Str)) (ini:=[none,none]) rfl (Jw1 false true (by rfl) T.Jb5 (Jjp (pv 2) (Jjp (Jk9 Jku (pv 0) Jjv (λ_ _=>rfl)) Jjr))) (λ_ _ _ _ _=>(Jng (K:=K) (n:=2) rfl rfl (Jkb (Jk2 (i:=0) (by decide +kernel:(["by_level","level"]:List Str).Nodup) rfl (ye rfl)) (Jkb (Jk2 (i:=1) (by decide +kernel:(["by_level","level"]:List Str).Nodup) rfl (ye rfl)) Jlp)))) (λ_ _ _ _ _=>Jkp) (λ_ _ _ _ _=>(Yn (P:=P) (w:=w) rfl rfl (pv 0) (pv 1) (λ_ _=>rfl)))) Jjr)) (Jjp Jls Jjr))))
  refine ⟨_,rfl,_,rfl,r,y,s',Bs,cl,g,wt,ls,rfl,rv,l16.2,hy,hs,lg,hw,λH1 s1=>⟨_,rfl,Jkt ?_⟩⟩;refine ⟨_,rfl,y,_,0,_,rfl,rfl,SqT.of (s1 _ _ hy),rfl,_,rfl,s',d,Bs,ns,ls,ps,rfl,s1 _ _ hs,lg,s1 _ _ hd,rg,hpl,λi B p e1 e2=>(hps i B p e1 e2).same s1,λ_ H2 s2=>?_,λe=>absurd (hp.symm.trans e) (by decide)⟩;have s12:=s1.trans s2;refine ⟨_,rfl,_,rfl,y,_,0,_,rfl,rfl,SqT.of (s12 _ _ hy),rfl,d,s',rfl,⟨_,SqL.of (s12 _ _ hd)⟩,⟨_,SqT.of (s12 _ _ hs)⟩,λD hD=>?_⟩;have sk:∀(i:Nat) B l,Bs[i]?=some B->ls[i]?=some l->(Jkr Bs ns ls)[i]?=some (Jl2 B ((Jlh ns).getD i 0) (ns.getD i 0) (l - B.lo).toNat)/\Jpx B ((Jlh ns).getD i 0) (ns.getD i 0) l=true:=by
   intro i B l hB hl;have il:i < Bs.length:=(yq.mp hB).1;have ev:ls.getD i 0=l:=by rw [yy,hl];rfl
   refine ⟨?_,?_⟩
   ·unfold Jkr;rw [ym,ycq il];show some (match Bs[i]? with|some B=>Jl2 B ((Jlh ns).getD i 0) (ns.getD i 0) (ls.getD i 0 - B.lo).toNat|none=>0)=_;rw [hB,ev]
   ·have q:=hp;unfold Jo9 at q;rw [yar] at q;have q2:=q i (yac.mpr il);rw [hB] at q2;have q3:Jpx B ((Jlh ns).getD i 0) (ns.getD i 0) (ls.getD i 0)=true:=q2;rw [ev] at q3;exact q3
  refine Jui (K:=K) (l1:=d) (l2:=s') (b1:=false) (b2:=true) (xs:=ps.map V.ref) (ys:=ls.map V.int) (D:=D) (λi σ H'=>(∃o1 o2,σ= [o1,o2])/\Same H2 H'/\H' D=some (.lst (((Jkr Bs ns ls).take i).map V.int))) ⟨⟨_,_,rfl⟩,Same.upd hD,Jjq⟩ (λi σ H' _ ⟨_,sm,_⟩=>⟨SqL.of (sm _ _ (s12 _ _ hd)),SqT.of (sm _ _ (s12 _ _ hs))⟩) (by simp;omega) ?_ ?_
  ·rintro i u v σ H' T1 hu hv ⟨⟨o1,o2,rfl⟩,sm,hDs⟩ hT;rw [ym] at hu hv;obtain ⟨p,hpi,rfl⟩:=yx.mp hu;obtain ⟨l,hl,rfl⟩:=yx.mp hv;have il:i < ls.length:=(yq.mp hl).1;have hB:Bs[i]?=some (Bs[i]'(by omega)):=yn _;generalize Bs[i]'(by omega)=B at hB;obtain ⟨k1,k2⟩:=sk i B l hB hl;have rb:=lg.2 i B l hB hl;have val:=lv_in rb ((Jlh ns).getD i 0) (ns.getD i 0);rw [if_pos k2] at val;obtain ⟨ob,e⟩:=hps i B p hB hpi;have sT:=Same.upd (o:=.tup [.ref p,.int l]) hT;refine turn2 (SqT.of Jjq) ⟨_,rfl,_,rfl,p,_,yah l,_,rfl,.inr (.inl ⟨ob,sT _ _ (sm _ _ (s12 _ _ e))⟩),rfl,val,_,sT _ _ hDs,?_,⟨_,_,rfl⟩,?_,?_⟩
   ·rw [yf,yaj];exact Jkc (by omega)
   ·intro c2 o' z;rw [Jjx (Jjy z hD)];exact sT _ _ (sm _ _ z)
   ·rw [Jjq,yao,k1,yz];rfl
  ·rintro σ H' ⟨_,sm,hDs⟩;have sl:(Jkr Bs ns ls).length=Bs.length:=by unfold Jkr;rw [yf,yau]
   rw [yf,yak (by omega)] at hDs;refine ⟨D,_,rfl,.inl ⟨SqL.of hDs,λU hU=>⟨(show 2<=sizeLine by decide),λT1 hT1=>?_⟩⟩⟩;exact k T1 U _ ((s12.trans sm).trans ((Same.upd hU).trans (Same.upd hT1))) Jjq (Same.upd hT1 _ _ Jjq)
theorem sc_local_keeper:Jk0 ["river","numbers","by_basin","keeper"] ["river","numbers"] (Jju (top 43)):=%[|0]
theorem Jo3 (T:Tx K mg a) (B:Bmn mg base):FnOk P w K mg base (CXX P w) 8 a.Jgo a.Jgp ["river","numbers"] (Ye2 a):=by
 have G_are_numbers:=%[Jol|1];have G_NoNumber___init__:=%[Jml|1];have G_settings_by:=Joo (P:=P) (w:=w) T B;have G_refuse_lost:=%[Jon|1];refine T.Jo.fn.okN T.Jeg sc_local_keeper (λvs H Q E h=>?_) (λA outer s H vs Q E hr h=>?_)
 ·obtain ⟨r,l,Bs,c,g,ns,rfl,_⟩:=h;rfl
 ·obtain ⟨r,l,Bs,c,g,ns,rfl,ht,htk,rv,rg,hl,ng,k1,k2⟩:=h;have l16:=rg.len;refine ⟨?t,?B,?C⟩
  case B=>
   refine' Jvy ?s1 ?r1
   case s1=>
    refine' Jkd ?c2 ?a2 ?b2
    case c2=>
     exact (Jkh (Jkf (Jjw T.Jh G_are_numbers hr (by decide) (Jjp (pv 0) (Jjp (pv 1) Jjr)))))
    case a2=>
     refine' Jjt ?s3
     case s3=>
      exact (Jkv Jkz rfl (Jlj T.Jcz G_NoNumber___init__ hr (by decide) T.Jcc.bd T.Jbd (Jjp (pv 1) Jjr)))
    case b2=>
     exact Jk3
   case r1=>
    refine' Jvy ?s6 ?r6
    case s6=>
     exact (Jk5 (i:=2) sc_local_keeper.nd rfl (Or.inr rfl) (Jjw T.Ji G_settings_by hr (by decide) (Jjp (pv 0) (Jjp (pv 1) Jjr))))
    case r6=>
     refine' Jvy ?s8 ?r8
     case s8=>
      exact (Jlq (Jlk T.Jn G_refuse_lost Jkz hr (by decide) (Jjp (Jk9 Jku (Jp7 (pv 0) hr) Jjv (λ_ _=>rfl)) (Jjp (pv 2) Jjr))))
     case r8=>
      refine' Yba (st:=nst (top 43) 3) (name:="keeper") (qual:="local_keeper.<locals>.keeper") (i:=3) (lb:=lb_local_keeper) (caps:=[("by_basin",2),("river",0)]) T.Jeg B rfl rfl rfl rfl rfl (by rfl) Yb2 (λ_=>Jzh) sc_local_keeper.nd rfl rfl (by intro y hy;simp only [yo,yv,or_false] at hy;rcases hy with rfl|rfl <;> exact ⟨rfl,by decide,rfl,rfl,rfl⟩) (by decide +kernel) ?r10
      case r10=>
       refine' PSs.pb ?s11
       case s11=>
        refine' Jjt ?s12
        case s12=>
         exact (Jk1 (pv 3))
  refine ⟨_,rfl,_,rfl,r,l,Bs,c,g,ns,rfl,rv,hl,ng,l16.2,λH1 s1=>⟨_,rfl,Jkt ?_⟩⟩;refine ⟨_,rfl,_,rfl,r,l,Bs,c,g,ns,rfl,s1 _ _ ht,rv.same s1,rg,s1 _ _ hl,ng,λd ps H2 s2 hd hpl hps=>?_⟩;have s12:=s1.trans s2;obtain ⟨dx,b,t,os,hr0,hb,pr⟩:=id (rv.same s12);refine ⟨_,rfl,r,_,dx,_,_,_,_,_,1,rfl,hr0,rfl,T.Jdq,T.Jds,Jn6 T,by decide,T.Jcr.bd,r,Bs,c,g,rfl,rv.same s12,l16.2,λt1 S H3 s3 ht1 hS=>?_⟩;refine ⟨t1,_,0,_,rfl,rfl,SqT.of ht1,rfl,_,rfl,S,d,Bs,ns,_,ps,rfl,hS,LvG.start rg.all,s3 _ _ hd,rg,hpl,λi B p e1 e2=>(hps i B p e1 e2).same s3,λe H4 s4=>?_,λe i eo dxo H4 hi s4 q1 q2=>k2 (by rw [<-Jn3];exact e) i eo dxo _ hi ((s12.trans s3).trans s4) q1 q2⟩;rw [Jn3] at e;have s04:=(s12.trans s3).trans s4;refine ⟨s04 _ _ htk,[.ref d,.ref r],?_,rfl,λf H' s' hf clo=>?_⟩
  ·intro y hy;simp only [List.zip_cons_cons,List.zip_nil_right,yo,yv,or_false] at hy;rcases hy with rfl|rfl <;> rfl
  ·exact ⟨_,rfl,k1 e f d H' (s04.trans s') ⟨⟨ps,s' _ _ (s4 _ _ (s3 _ _ hd)),hpl,λi B p e1 e2=>(((hps i B p e1 e2).same s3).same s4).same s'⟩,clo⟩⟩
theorem are2 {lo x y:Int} (h0:lo<=x) (h1:x < y) (h2:y<=12):Jme lo ([x,y].map V.int)=true:=by
 unfold Jme;have:Jkx lo ([x,y].map V.int)=true:=Joc _ _ (by simpa using h1) (by simp;omega);rw [this];rfl
theorem are3 {lo x y z:Int} (h0:lo<=x) (h1:x < y) (h2:y < z) (h3:z<=12):Jme lo ([x,y,z].map V.int)=true:=by
 unfold Jme;have:Jkx lo ([x,y,z].map V.int)=true:=Joc _ _ (by simp;omega) (by simp;omega);rw [this];rfl
theorem sc_law_easy:Jk0 ["_law_stream_here","_law_name","_law_low","_law_rain_here","_law_start","_law_kind","_law_marks_here"] ["_law_stream_here","_law_name"] (Jju (top 78)):=%[|0]
theorem Jx0 (T:Tx K mg a):FnOk P w K mg base CX0 3 a.Jia a.Jib ["_law_stream_here","_law_name"] Jxn:=by
 have G__law_take:=%[Jlr|1];refine %[T.Ja3.fn.ok,sc_law_easy|2]
 ·obtain ⟨p,z,rfl,_⟩:=h;rfl
 ·obtain ⟨p,z,rfl,st,nm,wd,k⟩:=h;refine ⟨?t,?B,?C⟩
  case B=>
   refine' Jjs ?s1 ?r1
   case s1=>
    exact (Jk5 (i:=2) sc_law_easy.nd rfl (ye rfl) (Jjw T.Jx G__law_take hr (by decide) (Jjp (pv 0) (Jjp Jjv Jjr))))
   case r1=>
    refine' Jjs ?s3 ?r3
    case s3=>
     exact (Jk5 (i:=3) sc_law_easy.nd rfl (ye rfl) (Jjw T.Jx G__law_take hr (by decide) (Jjp (pv 0) (Jjp Jjv Jjr))))
    case r3=>
     refine' Jjs ?s5 ?r5
     case s5=>
      exact (Jk5 (i:=4) sc_law_easy.nd rfl (ye rfl) (Jk7 Jkk (pv 2) (Jjw T.Jx G__law_take hr (by decide) (Jjp (pv 0) (Jjp Jjv Jjr)))))
     case r5=>
      refine' Jjs ?s7 ?r7
      case s7=>
       exact (Jk5 (i:=5) sc_law_easy.nd rfl (ye rfl) (Jk9 Jki (Jl4 (Jjp Jlw (Jjp Jlw Jjr))) (Jk7 Jop (Jjw T.Jx G__law_take hr (by decide) (Jjp (pv 0) (Jjp Jjv Jjr))) Jjv) (λ_ _=>rfl)))
      case r7=>
       refine' Jjs ?s9 ?r9
       case s9=>
        exact (Jk5 (i:=6) sc_law_easy.nd rfl (ye rfl) (Jl4 (Jjp (pv 2) (Jjp (Jk7 Jkk (Jk7 Jkk (pv 2) Jjv) (Jjw T.Jx G__law_take hr (by decide) (Jjp (pv 0) (Jjp Jjv Jjr)))) Jjr))))
       case r9=>
        refine' Jjs ?s11 ?r11
        case s11=>
         refine' Jkd ?c12 ?a12 ?b12
         case c12=>
          exact (Jke Jnp (pv 5) Jlw (Jkg _))
         case a12=>
          refine' Jjt ?s13
          case s13=>
           exact (Jk5 (i:=6) sc_law_easy.nd rfl (ye rfl) (Jl4 (Jjp (Jjw T.Jx G__law_take hr (by decide) (Jjp (pv 0) (Jjp Jjv Jjr))) (Jjp (Jk7 Jkk Jjv (Jjw T.Jx G__law_take hr (by decide) (Jjp (pv 0) (Jjp Jjv Jjr)))) (Jjp Jjv Jjr)))))
         case b12=>
          exact Jk3
        case r11=>
         refine' Jjt ?s16
         case s16=>
          refine' Jk1 ?e18_0
          case e18_0=>
           refine' Jmm ?e19_0
           case e19_0=>
            refine' pa7 ?e20_0 ?e20_1 ?e20_2 ?e20_3 ?e20_4 ?e20_5 ?e20_6
            case e20_0=>
             exact (pv 1)
            case e20_1=>
             exact (pv 2)
            case e20_2=>
             exact (Jk7 Jln Jjv (Jjw T.Jx G__law_take hr (by decide) (Jjp (pv 0) (Jjp Jjv Jjr))))
            case e20_3=>
             exact (pv 4)
            case e20_4=>
             exact (pv 3)
            case e20_5=>
             exact (pv 5)
            case e20_6=>
             exact (pv 6)
  refine ⟨_,rfl,p,3,rfl,st,by decide,by decide,λlo H1 lo0 lo1 b1=>?_⟩;refine ⟨_,rfl,p,3,rfl,b1.2,by decide,by decide,λrn H2 rn0 rn1 b2=>?_⟩;have c2:=b1.trans b2;refine ⟨_,rfl,_,rfl,p,4,rfl,c2.2,by decide,by decide,λr3 H3 r30 r31 b3=>⟨_,_,rfl,rfl,?_⟩⟩;have c3:=c2.trans b3;refine ⟨(show 2<=sizeLine by decide),λl1 h1=>?_⟩;have s1:=Same.upd (o:=.lst [.str "flap",.str "step"]) h1;have n1:=c3.2.ne h1;refine ⟨_,rfl,p,3,rfl,c3.2.same s1,by decide,by decide,λr4 H4 r40 r41 b4=>⟨_,_,rfl,rfl,⟨by decide,by decide⟩,?_⟩⟩;obtain ⟨kd,a4,m4⟩:=Ycb (zs:=["flap","step"]) (s:=r4/2) ⟨by omega,by simp;omega⟩;refine ⟨l1,_,_,_,rfl,rfl,SqL.of (b4.1 _ _ n1 Jjq),a4,?_⟩;have kn:kd="flap" \/kd="step" :=by simpa using m4
  have lo0':Jmv kd=0:=by rcases kn with e|e <;> rw [e] <;> decide +kernel
  have c4:But p H H4:=(c3.same s1).trans b4;refine ⟨_,rfl,_,rfl,_,_,rfl,rfl,_,rfl,p,3,rfl,c4.2,by decide,by decide,λr5 H5 r50 r51 b5=>⟨_,_,rfl,rfl,(show 2<=sizeLine by decide),λla hla=>?_⟩⟩;have c5:=c4.trans b5;have na:=c5.2.ne hla;have sa:=Same.upd (o:=.lst [.int lo,.int (lo+2+r5)]) hla;have c6:=c5.same sa;dsimp only [Jnn];refine Jw5 (λσ H9=>∃(m:Addr) (ns:List Int),σ= [some (.ref p),some (.str z),some (.int lo),some (.int rn),some (.int (lo+r3)),some (.str kd),some (.ref m)]/\H9 m=some (.lst (ns.map V.int))/\m≠p/\Jme (Jmv kd) (ns.map V.int)=true/\But p H H9) (λR hR=>?_) ?_
  ·refine ⟨_,rfl,rfl,_,rfl,Jnu (λq=>?_) (λq=>?_)⟩
   ·refine ⟨_,rfl,p,2,rfl,c6.2,by decide,by decide,λr7 H7 r70 r71 b7=>?_⟩;have c7:=c6.trans b7;refine ⟨_,rfl,p,3,rfl,c7.2,by decide,by decide,λr8 H8 r80 r81 b8=>⟨_,_,rfl,rfl,(show 3<=sizeLine by decide),λl9 h9=>hR _ _ ⟨l9,[r7,3+r8,12],rfl,Jjq,(c7.trans b8).2.ne h9,?_,(c7.trans b8).same (Same.upd h9)⟩⟩⟩;rw [lo0'];exact are3 (by omega) (by omega) (by omega) (by omega)
   ·refine hR _ _ ⟨la,[lo,lo+2+r5],rfl,Jjq,na,?_,c6⟩;rw [lo0'];exact are2 (by omega) (by omega) (by omega)
  rintro σ H9 ⟨m,ns,rfl,hm,nm9,ar,c9⟩;refine ⟨_,rfl,_,rfl,_,rfl,p,2,rfl,c9.2,by decide,by decide,λr10 H10 r100 r101 b10=>⟨_,_,rfl,rfl,_,rfl,_,rfl,_,rfl,_,rfl,(show 7<=sizeLine by decide),λt ht=>?_⟩⟩;have hm10:=b10.1 _ _ nm9 hm;refine k t m ⟨z,lo,12 - r10,lo+r3,rn,⟨kd,ns,none⟩⟩ _ ((c9.trans b10).same (Same.upd ht)) nm9 ⟨Jjq,Same.upd ht _ _ hm10,rfl⟩ ⟨⟨⟨lo0,?_⟩,?_,⟨rn0,?_⟩,⟨kn.elim (λe=>.inr (.inl e)) .inl,ar,λi e=>by cases e⟩⟩,⟨?_,?_⟩,nm,wd⟩ rfl
  ·show lo<=12 - r10;omega
  ·show 12 - r10<=12;omega
  ·show rn<=6;omega
  ·show lo<=lo+r3;omega
  ·show lo+r3<=12 - r10;omega
noncomputable def TldL (p:Addr) (H:Hp) (ts:List Addr) (Bs:List BTd):Prop:=Paired (λt B=>∃m,m≠p/\TldM H t m B) ts Bs
theorem TldL.same {p:Addr} {H H':Hp} {ts:List Addr} {Bs:List BTd} (s:Same H H') (h:TldL p H ts Bs):TldL p H' ts Bs:=Paired.mapP h λ_ _ ⟨m,n,q⟩=>⟨m,n,q.same s⟩
theorem TldL.but {p:Addr} {H H':Hp} {ts:List Addr} {Bs:List BTd} (st:Strm H p) (b:But p H H') (h:TldL p H ts Bs):TldL p H' ts Bs:=Paired.mapP h λ_ _ ⟨m,n,q⟩=>⟨m,n,q.but st b n⟩
theorem TldM.put {H:Hp} {t m L:Addr} {B:BTd} {xs:List V} {o:HO} (tg:TGd B) (hL:H L=some (.lst xs)) (hx:∀x∈xs,∃q,x=V.ref q) (h:TldM H t m B):TldM (upd H L o) t m B:=by
 have n1:t≠L:=λz=>by have:=h.1;rw [z,hL] at this;cases this
 have n2:m≠L:=λz=>by
  have q:=h.2.1;rw [z,hL] at q;have e:=HO.lst.inj (yae.inj q);have l:=tg.b.G.len.1;cases hc:B.G.ns with
  |nil=>rw [hc] at l;simp at l
  |cons x r=>
   rw [hc] at e;obtain ⟨y,hy⟩:=hx (V.int x) (by rw [e];exact yal ..);cases hy
 exact ⟨by rw [Jjx n1];exact h.1,by rw [Jjx n2];exact h.2.1,h.2.2⟩
theorem Yb9 {α β:Type} {F G:α->β->Prop} {l₁:List α} {l₂:List β} (h:Paired F l₁ l₂):(∀x y,y∈l₂->F x y->G x y)->Paired G l₁ l₂:=by
 induction h with
 |nil=>intro _;exact .nil
 |cons h t ih=>intro f;exact .cons (f _ _ (yal ..) h) (ih λx y hy=>f x y (yaf _ hy))
theorem TldL.put {p L:Addr} {H:Hp} {ts us:List Addr} {Bs:List BTd} {o:HO} (tg:∀B∈Bs,TGd B) (hL:H L=some (.lst (us.map V.ref))) (h:TldL p H ts Bs):TldL p (upd H L o) ts Bs:=by
 refine Yb9 h λt B hB ⟨m,n,q⟩=>⟨m,n,q.put (tg B hB) hL λx hx=>?_⟩;obtain ⟨u,_,rfl⟩:=ybd.mp hx;exact ⟨u,rfl⟩
noncomputable def AP:Str:="abcdefghijklmnop"
noncomputable def nmP (i:Nat):Str:=(⟨#[AP.cps.getD i 0]⟩:Str)++Jxb "xy" (i%3)
theorem nmP_ok:∀i,i < 16->Jrw (nmP i)=true/\(decide ((nmP i).length<=50)&&(nmP i).cps.toList.all (λc=>decide (c < 128)))=true:=by decide +kernel
theorem nmP_nd:((yt 16).map nmP).Nodup:=by decide +kernel
theorem Ydd {n:Nat} (h:n<=16):((yt n).map nmP).Nodup:=by
 refine List.Nodup.sublist ?_ nmP_nd;refine List.Sublist.map _ ?_;rw [show (16:Nat)=n+(16 - n) by omega,List.range_add];exact List.sublist_append_left _ _
theorem ap_at {i:Nat} (h:i < 16):atI AP.cps.toList (i:Int)=some (AP.cps.getD i 0):=by
 have:∀i,i < 16->AP.cps.toList[i]?=some (AP.cps.getD i 0):=by decide +kernel
 exact Jl8 (this i h)
noncomputable def Yc1:Sp:=λvs H Q _=>∃p:Addr,vs= [.ref p]/\Strm H p/\∀(L:Addr) (ts:List Addr) (Bs:List BTd) (H':Hp),But p H H'->H L=none->H' L=some (.lst (ts.map V.ref))->TldL p H' ts Bs->RGd Bs->(Bs.map (·.z)).Nodup->Q (.ref L) H'
theorem sc_law_river:Jk0 ["_law_stream_here","_law_many","_law_told","_law_place","_law_name"] ["_law_stream_here"] (Jju (top 79)):=%[|0]
theorem Jvv (T:Tx K mg a):FnOk P w K mg base CX0 4 a.Jic a.Jid ["_law_stream_here"] Yc1:=by
 have G__law_take:=%[Jlr|1];have G__law_easy:=%[Jx0|1];have G__law_basin:=%[Jvt|1];refine %[T.Ja4.fn.ok,sc_law_river|2]
 ·obtain ⟨p,rfl,_⟩:=h;rfl
 ·obtain ⟨p,rfl,st,k⟩:=h;refine ⟨?t,?B,?C⟩
  case B=>
   refine' Jjs ?s1 ?r1
   case s1=>
    exact (Jk5 (i:=1) sc_law_river.nd rfl (ye rfl) (Jk9 Jki (Jl4 (Jjp (Jk7 Jkk Jjv (Jjw T.Jx G__law_take hr (by decide) (Jjp (pv 0) (Jjp Jjv Jjr)))) (Jjp (Jk7 Jkk Jjv (Jjw T.Jx G__law_take hr (by decide) (Jjp (pv 0) (Jjp Jjv Jjr)))) Jjr))) (Jko Jp5 (by rfl) T.Jat Jps (Jjp (Jm1 Jnp (Jjw T.Jx G__law_take hr (by decide) (Jjp (pv 0) (Jjp Jjv Jjr))) Jjv (Jkg _)) Jjr)) (λ_ _=>rfl)))
   case r1=>
    refine' Jjs ?s3 ?r3
    case s3=>
     exact (Jk5 (i:=2) sc_law_river.nd rfl (ye rfl) (Jl4 Jjr))
    case r3=>
     refine' Jjs ?s5 ?r5
     case s5=>
      refine' Jmn ?f6_0 ?f6_1 ?f6_2 ?f6_3 ?f6_4
      case f6_0=>
       exact PassesOwn.never
      case f6_1=>
       exact rfl
      case f6_2=>
       exact (Jl6 (by rfl) T.Jaz (Jjp (pv 1) Jjr))
      case f6_3=>
       exact (Jk2 (i:=3) sc_law_river.nd rfl (ye rfl))
      case f6_4=>
       refine' Jjs ?s7 ?r7
       case s7=>
        exact (Jk5 (i:=4) sc_law_river.nd rfl (ye rfl) (Jk7 Jyf (Jk9 ix_str Jlw (pv 3) (λ_ _=>rfl)) (Jk7 Jyj Jlw (Jk7 Jq5 (pv 3) Jjv))))
       case r7=>
        refine' Jjt ?s9
        case s9=>
         refine' Jkd ?c10 ?a10 ?b10
         case c10=>
          exact (Jke Juy (Jjw T.Jx G__law_take hr (by decide) (Jjp (pv 0) (Jjp Jjv Jjr))) Jjv (Jkg _))
         case a10=>
          refine' Jjt ?s11
          case s11=>
           exact (Jlq (Juz F.plainAttrs_list F.slot_list_append F.type_list_append Jmk (pv 2) (Jjp (Jjw T.Ja3 G__law_easy hr (by decide) (Jjp (pv 0) (Jjp (pv 4) Jjr))) Jjr)))
         case b10=>
          refine' Jjt ?s13
          case s13=>
           exact (Jlq (Juz F.plainAttrs_list F.slot_list_append F.type_list_append Jmk (pv 2) (Jjp (Jjw T.Jz G__law_basin hr (by decide) (Jjp (pv 0) (Jjp (pv 4) Jjr))) Jjr)))
     case r5=>
      refine' Jjt ?s15
      case s15=>
       exact (Jk1 (pv 2))
  refine ⟨_,rfl,p,6,rfl,st,by decide,by decide,λr1 H1 r10 r11 b1=>⟨_,_,rfl,rfl,?_⟩⟩;refine ⟨_,rfl,p,16,rfl,b1.2,by decide,by decide,λr2 H2 r20 r21 b2=>⟨_,_,rfl,rfl,(show 2<=sizeLine by decide),λl0 h0=>?_⟩⟩;have c2:=b1.trans b2;have s0:=Same.upd (o:=.lst [.int (1+r1),.int (1+r2)]) h0;have n0:=c2.2.ne h0;refine ⟨_,rfl,p,4,rfl,c2.2.same s0,by decide,by decide,λr3 H3 r30 r31 b3=>⟨rfl,.inr ⟨_,rfl,?_⟩⟩⟩;have c3:=(c2.same s0).trans b3;have hl3:=b3.1 _ _ n0 (Jjq (H:=H2) (a:=l0) (o:=.lst [.int (1+r1),.int (1+r2)]));have pick:∃n:Nat,atI [V.int (1+r1),.int (1+r2)] (if decide (V.int r3=V.int 0)=true then (1:Int) else 0)=some (.int (n:Int))/\1<=n/\n<=16:=by
   by_cases c:decide (V.int r3=V.int 0)=true
   ·rw [if_pos c];exact ⟨(1+r2).toNat,by rw [show (((1+r2).toNat:Nat):Int)=1+r2 by omega];rfl,by omega,by omega⟩
   ·rw [if_neg c];exact ⟨(1+r1).toNat,by rw [show (((1+r1).toNat:Nat):Int)=1+r1 by omega];rfl,by omega,by omega⟩
  obtain ⟨n,an,n1,n16⟩:=pick;refine ⟨l0,_,_,_,rfl,rfl,SqL.of hl3,an,?_⟩;have c4:=c3;refine ⟨(show 0<=sizeLine by decide),λL hL=>?_⟩;have hL0:H L=none:=But.free st c4 hL;have nL:L≠p:=st.ne hL0;have s5:=Same.upd (o:=.lst []) hL;refine ⟨_,rfl,_,rfl,by omega,by omega,?_⟩;refine Jmy (lo:=0) (λi σ H'=>∃(o4 o5:Option V) (ts:List Addr) (Bs:List BTd),σ= [some (.ref p),some (.int (n:Int)),some (.ref L),o4,o5]/\But p H H'/\H' L=some (.lst (ts.map V.ref))/\TldL p H' ts Bs/\Bs.length=i/\(∀B∈Bs,TGd B)/\Bs.map (·.z)=(yt i).map nmP)
   ⟨_,_,[],[],rfl,c4.same s5,Jjq,.nil,rfl,(λB h=>nomatch h),rfl⟩ ?_ ?_
  ·rintro i σ H' hi ⟨o4,o5,ts,Bs,rfl,c5,hL5,tl,hlen,tg,hz⟩;have hi2:i < n:=by simpa using hi
   have hi3:i < 16:=by omega
   have zi:(0+(i:Int))=i:=by omega
   rw [zi];have lt:=Paired.length tl;obtain ⟨nok,nw⟩:=nmP_ok i hi3;have wd:Wd 50 (nmP i):=wd_lit nw;have app:∀{H6 H7:Hp} {t m:Addr} {B:BTd},But p H' H6->But p H6 H7->m≠p->TldM H7 t m B->TGd B->B.z=nmP i->H7 L=some (.lst (ts.map V.ref))/\(ts.map V.ref).length < sizeLine/\(∃(o4 o5:Option V) (ts':List Addr) (Bs':List BTd),[some (.ref p),some (.int (n:Int)),some (.ref L),some (.int (i:Int)),some (.str (nmP i))]= [some (V.ref p),some (.int (n:Int)),some (.ref L),o4,o5]/\But p H (upd H7 L (.lst (ts.map V.ref++ [.ref t])))/\(upd H7 L (.lst (ts.map V.ref++ [.ref t]))) L=some (.lst (ts'.map V.ref))/\TldL p (upd H7 L (.lst (ts.map V.ref++ [.ref t]))) ts' Bs'/\Bs'.length=i+1/\(∀B∈Bs',TGd B)/\Bs'.map (·.z)=(yt (i+1)).map nmP):=by
    intro H6 H7 t m B b6 b7 nm tm tgB eB;have b67:=b6.trans b7;have hL7:=b67.1 _ _ nL hL5;have tl7:=tl.but c5.2 b67;have c7:=c5.trans b67;refine ⟨hL7,by rw [yf];exact Jkc (by omega),_,_,ts++ [t],Bs++ [B],rfl,c7.updD hL0 nL,?_,?_,?_,?_,?_⟩
    ·rw [Jjq,yz];rfl
    ·refine Paired.snoc (TldL.put tg hL7 tl7) ⟨m,nm,tm.put tgB hL7 λx hx=>?_⟩;obtain ⟨u,_,rfl⟩:=ybd.mp hx;exact ⟨u,rfl⟩
    ·rw [yas,hlen];rfl
    ·intro B' hB';rcases ybw.mp hB' with h|h
     ·exact tg B' h
     ·rw [ybq.mp h];exact tgB
    ·rw [yz,hz,ybr,yz];show _++ [B.z]=_++ [nmP i];rw [eB]
   refine ⟨_,rfl,AP,_,_,rfl,rfl,Jrk _ (by decide +kernel),ap_at hi3,_,rfl,_,_,rfl,rfl,(show (0:Int) < 3 by decide),"xy",i%3,rfl,congrArg V.int (by omega),by omega,by decide +kernel,by decide +kernel,_,_,rfl,rfl,?_,?_⟩
   ·have e1:(⟨#[AP.cps.getD i 0]⟩:Str).length=1:=rfl;have e2:=Jxc "xy" (i%3);have e3:("xy" :Str).length=2:=by decide +kernel
    rw [e1,e2,e3,sizeLine_eq];omega
   refine ⟨_,rfl,p,12,rfl,c5.2,by decide,by decide,λr6 H6 r60 r61 b6=>⟨_,_,rfl,rfl,_,rfl,Jnu (λq=>?_) (λq=>?_)⟩⟩
   ·refine ⟨_,rfl,.inl ⟨rfl,_,SqL.of (b6.1 _ _ nL hL5)⟩,_,rfl,_,rfl,p,nmP i,rfl,b6.2,nok,wd,λt m B H7 b7 nm tm tgB eB=>?_⟩;obtain ⟨f1,f2,f3⟩:=app b6 b7 nm tm tgB eB;exact ⟨L,_,_,rfl,rfl,f1,f2,f3⟩
   ·refine ⟨_,rfl,.inl ⟨rfl,_,SqL.of (b6.1 _ _ nL hL5)⟩,_,rfl,_,rfl,p,nmP i,rfl,b6.2,nok,wd,λt m B H7 b7 nm tm tgB eB=>?_⟩;obtain ⟨f1,f2,f3⟩:=app b6 b7 nm tm tgB eB;exact ⟨L,_,_,rfl,rfl,f1,f2,f3⟩
  ·rintro σ H' ⟨o4,o5,ts,Bs,rfl,c5,hL5,tl,hlen,tg,hz⟩;have hlen':Bs.length=n:=by simpa using hlen
   refine ⟨_,rfl,k L ts Bs H' c5 hL0 hL5 tl ⟨by omega,tg⟩ ?_⟩;rw [hz];exact Ydd (by simp;omega)
noncomputable def TldS (H:Hp) (ts:List Addr) (Bs:List BTd):Prop:=Paired (λt B=>TldAt H t B) ts Bs
theorem TldL.s {p:Addr} {H:Hp} {ts:List Addr} {Bs:List BTd} (h:TldL p H ts Bs):TldS H ts Bs:=Paired.mapP h λ_ _ ⟨_,_,q⟩=>q.at
noncomputable def Jnq (Bs:List BTd) (ss ls:List Int) (i:Nat):Int:=match Bs[i]? with
 |some B=>lvG B.G (ss.getD i 0) (ls.getD i 0)
 |none=>0
noncomputable def Jmg (Bs:List BTd) (ss ls:List Int):List Int:=(yt Bs.length).map (Jnq Bs ss ls)
noncomputable def upQ (Bs:List BTd) (ss ls:List Int):Nat->Int
 |0=>0
 |i+1=>Jnq Bs ss ls i
noncomputable def Jvj (Bs:List BTd) (ss ls rs:List Int) (i:Nat):Int:=ls.getD i 0 - Jnq Bs ss ls i+upQ Bs ss ls i+rs.getD i 0
noncomputable def Jno (Bs:List BTd) (ss ls rs:List Int):List Int:=(yt Bs.length).map (Jvj Bs ss ls rs)
noncomputable def StG (Bs:List BTd) (ss:List Int):Prop:=ss.length=Bs.length/\∀(i:Nat) B s,Bs[i]?=some B->ss[i]?=some s->0<=s/\s < (nOf B.G:Int)
noncomputable def Ye1:Sp:=λvs H Q _=>∃(L V1 S R:Addr) (ts:List Addr) (Bs:List BTd) (ls ss rs:List Int),vs= [.ref L,.ref V1,.ref S,.ref R]/\H L=some (.lst (ts.map V.ref))/\TldS H ts Bs/\RGd Bs/\H V1=some (.lst (ls.map V.int))/\LvG Bs ls/\H S=some (.tup (ss.map V.int))/\StG Bs ss/\H R=some (.lst (rs.map V.int))/\rs.length=Bs.length/\
 ∀(t A O:Addr) (H':Hp),Same H H'->H A=none->H' t=some (.tup [.ref A,.ref O])->H' A=some (.lst ((Jno Bs ss ls rs).map V.int))->H' O=some (.lst ((Jmg Bs ss ls).map V.int))->Q (.ref t) H'
noncomputable def Yy:Sp:=λvs H Q _=>∃(t u L:Addr) (ts:List Addr) (Bs:List BTd) (ss:List Int),vs= [.ref t,.ref L]/\H t=some (.tup [.ref u,.non])/\H u=some (.tup (ss.map V.int))/\H L=some (.lst (ts.map V.ref))/\TldS H ts Bs/\RGd Bs/\StG Bs ss/\∀H',Same H H'->Q (.bl true) H'
theorem sc_law_turn:Jk0 ["_law_told","_law_levels","_law_settings","_law_rain_here","_law_outs","_law_later","_law_place"] ["_law_told","_law_levels","_law_settings","_law_rain_here"] (Jju (top 83)):=%[|0]
theorem Jx5 (T:Tx K mg a):FnOk P w K mg base CX0 2 a.Jik a.Jil ["_law_told","_law_levels","_law_settings","_law_rain_here"] Ye1:=by
 have G__law_lets:=%[Jx2|1];refine %[T.Ja8.fn.ok,sc_law_turn|2]
 ·obtain ⟨L,V1,S,R,ts,Bs,ls,ss,rs,rfl,_⟩:=h;rfl
 ·obtain ⟨L,V1,S,R,ts,Bs,ls,ss,rs,rfl,hL,td,rg,hV,lg,hS,sg,hR,rl,k⟩:=h;have len:=Paired.length td;have l16:=rg.len;have ll:=lg.1;have sl:=sg.1;refine ⟨?t,?B,?C⟩
  case B=>
   refine' Jjs ?s1 ?r1
   case s1=>
    exact (Jnz (i:=4) (N:=(["_law_one","_law_setting","_law_level"]:List Str)) (ini:=[none,none,none]) sc_law_turn.nd rfl (ye rfl) rfl (Js9 false true false (by rfl) T.Jb5 (Jjp (pv 0) (Jjp (pv 2) (Jjp (pv 1) Jjr)))) (λ_ _ _ _ _=>(Jng (K:=K) (n:=3) rfl rfl (Jkb (Jk2 (i:=0) (by decide +kernel:(["_law_one","_law_setting","_law_level"]:List Str).Nodup) rfl (ye rfl)) (Jkb (Jk2 (i:=1) (by decide +kernel:(["_law_one","_law_setting","_law_level"]:List Str).Nodup) rfl (ye rfl)) (Jkb (Jk2 (i:=2) (by decide +kernel:(["_law_one","_law_setting","_law_level"]:List Str).Nodup) rfl (ye rfl)) Jlp))))) (λ_ _ _ _ _=>Jkp) (λ_ _ _ _ _=>(Jjw T.Ja2 G__law_lets hr (by decide) (Jjp (pv 0) (Jjp (pv 1) (Jjp (pv 2) Jjr))))))
   case r1=>
    refine' Jjs ?s3 ?r3
    case s3=>
     exact (Jk5 (i:=5) sc_law_turn.nd rfl (ye rfl) (Jl4 Jjr))
    case r3=>
     refine' Jjs ?s5 ?r5
     case s5=>
      refine' Jmn ?f6_0 ?f6_1 ?f6_2 ?f6_3 ?f6_4
      case f6_0=>
       exact PassesOwn.never
      case f6_1=>
       exact rfl
      case f6_2=>
       exact (Jl6 (by rfl) T.Jaz (Jjp (Jjz Jk4 (by rfl) T.Jav Jkw (Jjp (pv 0) Jjr)) Jjr))
      case f6_3=>
       exact (Jk2 (i:=6) sc_law_turn.nd rfl (ye rfl))
      case f6_4=>
       refine' Jjt ?s7
       case s7=>
        exact (Jlq (Juz F.plainAttrs_list F.slot_list_append F.type_list_append Jmk (pv 5) (Jjp (Jk7 Jkk (Jk7 Jkk (Jk7 Jln (Jk9 Jki (pv 1) (pv 6) (λ_ _=>rfl)) (Jk9 Jki (pv 4) (pv 6) (λ_ _=>rfl))) (Jk9 Jki (Jk7 Jrg (Jl4 (Jjp Jjv Jjr)) (pv 4)) (pv 6) (λ_ _=>rfl))) (Jk9 Jki (pv 3) (pv 6) (λ_ _=>rfl))) Jjr)))
     case r5=>
      refine' Jjt ?s9
      case s9=>
       exact (Jk1 (Jmm (Jjp (pv 5) (Jjp (pv 4) Jjr))))
  have ol:(Jmg Bs ss ls).length=Bs.length:=by unfold Jmg;rw [yf,yau]
  have oat:∀i,i < Bs.length->(Jmg Bs ss ls)[i]?=some (Jnq Bs ss ls i):=λi hi=>by
   unfold Jmg;rw [ym,ycq hi];rfl
  refine ⟨_,rfl,_,rfl,_,rfl,L,S,V1,rfl,⟨_,SqL.of hL⟩,⟨_,SqT.of hS⟩,⟨_,SqL.of hV⟩,λD hD=>?_⟩;refine Jr5 (K:=K) (l1:=L) (l2:=S) (l3:=V1) (b1:=false) (b2:=true) (b3:=false) (xs:=ts.map V.ref) (ys:=ss.map V.int) (us:=ls.map V.int) (D:=D) (λi σ H'=>(∃o1 o2 o3,σ= [o1,o2,o3])/\Same H H'/\H' D=some (.lst (((Jmg Bs ss ls).take i).map V.int))) ⟨⟨_,_,_,rfl⟩,Same.upd hD,Jjq⟩ (λi σ H' _ ⟨_,sm,_⟩=>⟨SqL.of (sm _ _ hL),SqT.of (sm _ _ hS),SqL.of (sm _ _ hV)⟩) (by simp;omega) (by simp;omega) ?_ ?_
  ·rintro i x y u σ H' T1 hx hy hu ⟨⟨o1,o2,o3,rfl⟩,sm,hDs⟩ hT;rw [ym] at hx hy hu;obtain ⟨t,ht,rfl⟩:=yx.mp hx;obtain ⟨sv,hsv,rfl⟩:=yx.mp hy;obtain ⟨lv,hlv,rfl⟩:=yx.mp hu;obtain ⟨B,hB,tB⟩:=Jkn td ht;have il:i < Bs.length:=(yq.mp hB).1;have tg:=rg.all B (yaa hB);have b1:=lg.2 i B lv hB hlv;have b2:=sg.2 i B sv hB hsv;have g1:=tg.b.lo;have g2:=tg.b.hi;have sT:=Same.upd (o:=.tup [.ref t,.int sv,.int lv]) hT;have eo:Jnq Bs ss ls i=lvG B.G sv lv:=by
    unfold Jnq;rw [hB,yy,yy,hsv,hlv];rfl
   refine Jzo (SqT.of Jjq) ⟨_,rfl,_,rfl,_,rfl,t,B,sv,lv,rfl,(tB.same sm).same sT,tg.b.G,b2,by omega,_,sT _ _ hDs,?_,⟨_,_,_,rfl⟩,?_,?_⟩
   ·rw [yf,yaj];exact Jkc (by omega)
   ·intro c2 o' z;rw [Jjx (Jjy z hD)];exact sT _ _ (sm _ _ z)
   ·rw [Jjq,yao,oat i il,eo,yz];rfl
  rintro σ1 H1 ⟨_,s1,hDs⟩;rw [yf,yak (by omega)] at hDs;refine ⟨(show 0<=sizeLine by decide),λA hA=>?_⟩;have hA0:H A=none:=by
   cases hc:H A with
   |none=>rfl
   |some u=>rw [s1 _ _ hc] at hA;cases hA
  have nAD:D≠A:=λz=>by rw [<-z,hDs] at hA;cases hA
  have s2:=s1.trans (Same.upd (o:=.lst []) hA);refine ⟨_,rfl,L,_,rfl,.inl (SqL.of (s2 _ _ hL)),_,rfl,by rw [yf];omega,by rw [yf];omega,?_⟩;refine Jmy (lo:=0) (λi σ H'=>(∃o6,σ= [some (.ref L),some (.ref V1),some (.ref S),some (.ref R),some (.ref D),some (.ref A),o6])/\Same H H'/\H' D=some (.lst ((Jmg Bs ss ls).map V.int))/\H' A=some (.lst (((yt i).map (Jvj Bs ss ls rs)).map V.int))) ⟨⟨_,rfl⟩,s2,by rw [Jjx nAD];exact hDs,Jjq⟩ ?_ ?_
  ·rintro i σ H' hi ⟨⟨o6,rfl⟩,sm,hD',hA'⟩;have il:i < Bs.length:=by simpa [len] using hi
   have zi:(0+(i:Int))=i:=by omega
   rw [zi];have hl:ls[i]?=some (ls.getD i 0):=by rw [yn (by omega),yy,yn (by omega)];rfl
   have hr':rs[i]?=some (rs.getD i 0):=by rw [yn (by omega),yy,yn (by omega)];rfl
   have hu:([V.int 0]++(Jmg Bs ss ls).map V.int)[i]?=some (.int (upQ Bs ss ls i)):=by
    cases i with
    |zero=>rfl
    |succ j=>
     show ((Jmg Bs ss ls).map V.int)[j]?=_;rw [ym,oat j (by omega)];rfl
   refine ⟨_,rfl,.inl ⟨rfl,_,SqL.of hA'⟩,_,rfl,_,rfl,V1,_,(i:Int),_,rfl,rfl,SqL.of (sm _ _ hV),Jl8 (j:=i) (by rw [ym,hl];rfl),_,rfl,_,rfl,D,_,(i:Int),_,rfl,rfl,SqL.of hD',Jl8 (j:=i) (by rw [ym,oat i il];rfl),_,_,rfl,rfl,(show 1<=sizeLine by decide),λz1 hz1=>?_⟩;have q1:=Same.upd (o:=.lst [.int 0]) hz1;refine ⟨_,rfl,z1,D,_,_,rfl,rfl,Jjq,q1 _ _ hD',?_,λz2 hz2=>?_⟩
   ·rw [yf];exact yaq (Jkc (by simp;omega))
   have q2:=q1.trans (Same.upd (o:=.lst ([.int 0]++(Jmg Bs ss ls).map V.int)) hz2);refine ⟨_,rfl,z2,_,(i:Int),_,rfl,rfl,SqL.of Jjq,Jl8 (j:=i) hu,_,_,rfl,rfl,_,rfl,_,rfl,R,_,(i:Int),_,rfl,rfl,SqL.of (q2 _ _ (sm _ _ hR)),Jl8 (j:=i) (by rw [ym,hr'];rfl),_,_,rfl,rfl,A,_,_,rfl,rfl,q2 _ _ hA',?_,⟨_,rfl⟩,?_,?_,?_⟩
   ·rw [yf,yf,yau];exact Jkc (by omega)
   ·intro b o' z;rw [Jjx (Jjy z hA0)];exact q2 _ _ (sm _ _ z)
   ·rw [Jjx nAD];exact q2 _ _ hD'
   ·rw [Jjq,ybr,yz,yz];rfl
  ·rintro σ H' ⟨⟨o6,rfl⟩,sm,hD',hA'⟩;rw [show ((ts.map V.ref).length:Int).toNat=Bs.length by rw [yf,len];simp] at hA';refine ⟨_,rfl,_,rfl,(show 2<=sizeLine by decide),λt ht=>?_⟩;exact k t A D _ (sm.trans (Same.upd ht)) hA0 Jjq (Same.upd ht _ _ hA') (Same.upd ht _ _ hD')
theorem sc_law_choice_right:Jk0 ["_law_choice","_law_told","_law_one","_law_setting"] ["_law_choice","_law_told"] (Jju (top 84)):=%[|0]
theorem Jp9 (T:Tx K mg a):FnOk P w K mg base CX0 1 a.Jim a.Jin ["_law_choice","_law_told"] Yy:=by
 refine %[T.Ja9.fn.ok,sc_law_choice_right|2]
 ·obtain ⟨t,u,L,ts,Bs,ss,rfl,_⟩:=h;rfl
 ·obtain ⟨t,u,L,ts,Bs,ss,rfl,ht,hu,hL,td,rg,sg,k⟩:=h;have len:=Paired.length td;have l16:=rg.len;have sl:=sg.1;refine ⟨?t,?B,?C⟩
  case B=>
   refine' Jjs ?s1 ?r1
   case s1=>
    refine' Jkd ?c2 ?a2 ?b2
    case c2=>
     exact (PW.pt (Jot (Jkh (Jkf (Jjz Jle (by rfl) T.Jau Jka (Jjp (pv 0) (Jjp (Jlb (v:=.ty "tuple") (by rfl) T.Jb4 Jl7 rfl) Jjr))))) (Jot (Jke Jx7 (Jjz Jk4 (by rfl) T.Jav Jkw (Jjp (pv 0) Jjr)) Jjv (Jkg _)) (Jot (Jke Js8 (Jk9 Jku (pv 0) Jjv (λ_ _=>rfl)) Jls (Jkg _)) (Jou (Jkh (Jkf (Jjz Jle (by rfl) T.Jau Jka (Jjp (Jk9 Jku (pv 0) Jjv (λ_ _=>rfl)) (Jjp (Jlb (v:=.ty "tuple") (by rfl) T.Jb4 Jl7 rfl) Jjr))))))))))
    case a2=>
     refine' Jjt ?s3
     case s3=>
      exact (Jk1 Jlg)
    case b2=>
     exact Jk3
   case r1=>
    refine' Jjs ?s7 ?r7
    case s7=>
     refine' Jkd ?c8 ?a8 ?b8
     case c8=>
      exact (Jke Jx7 (Jjz Jk4 (by rfl) T.Jav Jkw (Jjp (Jk9 Jku (pv 0) Jjv (λ_ _=>rfl)) Jjr)) (Jjz Jk4 (by rfl) T.Jav Jkw (Jjp (pv 1) Jjr)) (Jkg _))
     case a8=>
      refine' Jjt ?s9
      case s9=>
       exact (Jk1 Jlg)
     case b8=>
      exact Jk3
    case r7=>
     refine' Jjs ?s13 ?r13
     case s13=>
      refine' Jmn ?f14_0 ?f14_1 ?f14_2 ?f14_3 ?f14_4
      case f14_0=>
       exact PassesOwn.never
      case f14_1=>
       exact rfl
      case f14_2=>
       exact (Jw1 false true (by rfl) T.Jb5 (Jjp (pv 1) (Jjp (Jk9 Jku (pv 0) Jjv (λ_ _=>rfl)) Jjr)))
      case f14_3=>
       exact (Jq7 rfl (Jkb (Jk2 (i:=2) sc_law_choice_right.nd rfl (ye rfl)) (Jkb (Jk2 (i:=3) sc_law_choice_right.nd rfl (ye rfl)) Jlp)))
      case f14_4=>
       refine' Jjt ?s15
       case s15=>
        refine' Jkd ?c16 ?a16 ?b16
        case c16=>
         exact (PW.pt (Jot (Jkh (Jkf (Jjz Jle (by rfl) T.Jau Jka (Jjp (pv 3) (Jjp (Jlb (v:=.ty "int") (by rfl) T.Jat Jps rfl) Jjr))))) (Jot (Jkf (Jjz Jle (by rfl) T.Jau Jka (Jjp (pv 3) (Jjp (Jlb (v:=.ty "bool") (by rfl) T.Jaq Jz7 rfl) Jjr)))) (Jou (Jkh (Jos Jn7 Jzi Jjv (pv 3) (Jjz Jk4 (by rfl) T.Jav Jkw (Jjp (Jk9 Jku (pv 2) Jjv (λ_ _=>rfl)) Jjr))))))))
        case a16=>
         refine' Jjt ?s17
         case s17=>
          exact (Jk1 Jlg)
        case b16=>
         exact Jk3
     case r13=>
      refine' Jjt ?s21
      case s21=>
       exact (Jk1 Jlg)
  refine ⟨_,rfl,_,_,_,.type "tuple",true,rfl,rfl,.of (.tup ht),rfl,_,rfl,Jkt ?_⟩;refine ⟨_,rfl,t,_,rfl,.inr (SqT.of ht),rfl,_,rfl,ifF (by rfl) ?_⟩;refine ⟨_,rfl,t,_,1,_,rfl,rfl,SqT.of ht,rfl,rfl,_,rfl,ifF (by rfl) ?_⟩;refine ⟨_,rfl,t,_,0,_,rfl,rfl,SqT.of ht,rfl,_,_,_,.type "tuple",true,rfl,rfl,.of (.tup hu),rfl,_,rfl,Jkt ?_⟩;refine ⟨_,rfl,t,_,0,_,rfl,rfl,SqT.of ht,rfl,u,_,rfl,.inr (SqT.of hu),_,rfl,L,_,rfl,.inl (SqL.of hL),rfl,_,rfl,ifF ?_ ?_⟩
  ·rw [yf,yf,sl,len];simp
  refine ⟨_,rfl,_,rfl,t,_,0,_,rfl,rfl,SqT.of ht,rfl,L,u,rfl,⟨_,SqL.of hL⟩,⟨_,SqT.of hu⟩,?_⟩;refine Yau (K:=K) (l1:=L) (l2:=u) (b1:=false) (b2:=true) (xs:=ts.map V.ref) (ys:=ss.map V.int) (λi σ H'=>(∃o2 o3,σ= [some (.ref t),some (.ref L),o2,o3])/\Same H H') ⟨⟨_,_,rfl⟩,Same.refl _⟩ (λi σ H' _ ⟨_,sm⟩=>⟨SqL.of (sm _ _ hL),SqT.of (sm _ _ hu)⟩) (by simp;omega) ?_ ?_
  ·rintro i x y σ H' T1 hx hy ⟨⟨o2,o3,rfl⟩,sm⟩ hT;rw [ym] at hx hy;obtain ⟨t',ht',rfl⟩:=yx.mp hx;obtain ⟨sv,hsv,rfl⟩:=yx.mp hy;obtain ⟨B,hB,mm,tB,hm,sv0⟩:=Jkn td ht';have b2:=sg.2 i B sv hB hsv;have en:nOf B.G=B.G.ns.length:=by unfold nOf;rw [sv0]
   have sT:=Same.upd (o:=.tup [.ref t', .int sv]) hT;have s1:=sm.trans sT;refine ⟨T1,_,rfl,SqT.of Jjq,rfl,_,_,rfl,_,_,rfl,rfl,?_⟩;refine ⟨_,rfl,_,_,_,.type "int",true,rfl,rfl,.of (.int sv),rfl,_,rfl,Jkt ?_⟩;refine ⟨_,rfl,_,_,_,.type "int",false,rfl,rfl,.of (.int sv),rfl,_,rfl,Jkt ?_⟩;refine ⟨_,rfl,_,_,rfl,rfl,_,rfl,ifT (decide_eq_true b2.1) ?_⟩;refine ⟨_,rfl,t',_,6,_,rfl,rfl,SqT.of (s1 _ _ tB),rfl,mm,_,rfl,.inl (SqL.of (s1 _ _ hm)),_,_,rfl,rfl,_,rfl,?_⟩;rw [yf,decide_eq_true (by omega)];exact Jkt ⟨⟨_,_,rfl⟩,s1⟩
  ·rintro σ H' ⟨_,sm⟩;exact k _ sm
noncomputable def Jzm (B:BTd) (up left:Int) (lost:List (Option Int)):Bool:=(yt (up+B.rn+1).toNat).all λc:Nat=>okE lost (Jpk B (left+c))
theorem Jxe (B:BTd) (up lv s:Int) (lost:List (Option Int)):Jzm B up (lv - lvG B.G s lv) lost=Jmu B up lv lost s:=by
 unfold Jzm Jmu Jxd Jmr;rw [List.all_map];rfl
theorem Ydb {G:Jna} {s lv:Int} (gg:GGood G) (hs:0<=s/\s < (nOf G:Int)) (h:0<=lv):0<=lvG G s lv:=by
 obtain ⟨m,m0,e⟩:∃m:Int,0<=m/\lvG G s lv=Joq G.kd m lv:=by
  have ge:∀j:Nat,0<=G.ns.getD j 0:=λj=>by
   rw [yy];cases hc:G.ns[j]? with
   |none=>decide
   |some x=>
    have:=(gg.marks x (yaa hc)).1;unfold Jmv at this;show 0<=x;split at this <;> omega
  unfold lvG;cases e:G.sv with
  |none=>exact ⟨_,ge _,rfl⟩
  |some j=>exact ⟨_,ge _,rfl⟩
 rw [e];unfold Joq;split
 ·split <;> omega
 ·split
  ·split <;> omega
  ·exact Int.ediv_nonneg h m0
theorem Jr7 {B:BTd} {up hi l:Int} (tg:TGd B) (hl:B.lo<=l/\l<=B.hi) (hh:Jpx B up hi l=true):(0<=Jl2 B up hi (l - B.lo).toNat/\Jl2 B up hi (l - B.lo).toNat < (nOf B.G:Int))/\lvG B.G (Jl2 B up hi (l - B.lo).toNat) l<=hi/\
  ∀c:Int,0<=c->c<=up+B.rn->(B.lo<=l - lvG B.G (Jl2 B up hi (l - B.lo).toNat) l+c/\l - lvG B.G (Jl2 B up hi (l - B.lo).toNat) l+c<=B.hi)/\Jpx B up hi (l - lvG B.G (Jl2 B up hi (l - B.lo).toNat) l+c)=true:=by
 have e:B.lo+((l - B.lo).toNat:Int)=l:=by omega
 have hm:(l - B.lo).toNat∈Jlz B up hi:=yav.mpr ⟨yac.mpr (by unfold nLv;omega),hh⟩;have q:=(Jpw hm).2;have m:=List.mem_of_mem_head? (Option.mem_def.mpr q);obtain ⟨h1,h2⟩:=yav.mp m;rw [e] at h1 h2;refine ⟨Jtl h1,?_,λc c0 c1=>?_⟩
 ·unfold usable at h1;exact of_decide_eq_true (yav.mp h1).2
 ·rw [<-Jxe] at h2;unfold Jzm at h2;rw [yar] at h2;have ok:=h2 c.toNat (yac.mpr (by omega));rw [show ((c.toNat:Nat):Int)=c by omega] at ok;revert ok;unfold Jpk;split
  ·rename_i rg
   intro ok;exact ⟨rg,ok⟩
  ·intro ok;cases ok
noncomputable def RnG (Bs:List BTd) (rs:List Int):Prop:=rs.length=Bs.length/\∀(i:Nat) B r,Bs[i]?=some B->rs[i]?=some r->0<=r/\r<=B.rn
theorem Jxl {Bs:List BTd} {ns ls:List Int} {i:Nat} {B:BTd} (hB:Bs[i]?=some B):(Jkr Bs ns ls)[i]?=some (Jl2 B ((Jlh ns).getD i 0) (ns.getD i 0) (ls.getD i 0 - B.lo).toNat):=by
 have il:i < Bs.length:=(yq.mp hB).1;unfold Jkr;rw [ym,ycq il];show some (match Bs[i]? with|some B=>Jl2 B ((Jlh ns).getD i 0) (ns.getD i 0) (ls.getD i 0 - B.lo).toNat|none=>0)=_;rw [hB]
theorem Jnt {l:List Int} {i:Nat} (h:i < l.length):l[i]?=some (l.getD i 0):=by
 rw [yy,yn h];rfl
theorem Js5 {Bs:List BTd} {ns ls:List Int} {i:Nat} {B:BTd} (h:Jo9 Bs ns ls=true) (hB:Bs[i]?=some B):Jpx B ((Jlh ns).getD i 0) (ns.getD i 0) (ls.getD i 0)=true:=by
 unfold Jo9 at h;rw [yar] at h;have q:=h i (yac.mpr (yq.mp hB).1);rw [hB] at q;exact q
theorem Ycm {n:Nat} {ns:List Int} {i:Nat} (ng:NGd n ns) (h:i+1 < n):(Jlh ns).getD (i+1) 0=ns.getD i 0:=by
 have nl:=ng.1;unfold Jlh;show ns.dropLast.getD i 0=_;rw [yy,yy,ycu,List.getElem?_take,if_pos (by omega)]
theorem Jth {Bs:List BTd} {ns ls rs:List Int} (rg:RGd Bs) (ng:NGd Bs.length ns) (lg:LvG Bs ls) (hh:Jo9 Bs ns ls=true) (rn:RnG Bs rs):
  StG Bs (Jkr Bs ns ls)/\(∀i,i < Bs.length->0<=Jnq Bs (Jkr Bs ns ls) ls i/\Jnq Bs (Jkr Bs ns ls) ls i<=ns.getD i 0)/\LvG Bs (Jno Bs (Jkr Bs ns ls) ls rs)/\Jo9 Bs ns (Jno Bs (Jkr Bs ns ls) ls rs)=true:=by
 have nl:=ng.1;have ll:=lg.1;have rl:=rn.1;have one:∀i B,Bs[i]?=some B->(B.lo<=ls.getD i 0/\ls.getD i 0<=B.hi)/\TGd B/\Jnq Bs (Jkr Bs ns ls) ls i=lvG B.G (Jl2 B ((Jlh ns).getD i 0) (ns.getD i 0) (ls.getD i 0 - B.lo).toNat) (ls.getD i 0):=λi B hB=>by
  have il:i < Bs.length:=(yq.mp hB).1;refine ⟨lg.2 i B _ hB (Jnt (by omega)),rg.all B (yaa hB),?_⟩;unfold Jnq;rw [hB,yy,Jxl hB];rfl
 have outs:∀i,i < Bs.length->0<=Jnq Bs (Jkr Bs ns ls) ls i/\Jnq Bs (Jkr Bs ns ls) ls i<=ns.getD i 0:=λi hi=>by
  obtain ⟨h1,tg,eo⟩:=one i _ (yn hi);obtain ⟨a1,a2,_⟩:=Jr7 tg h1 (Js5 hh (yn hi));rw [eo];exact ⟨Ydb tg.b.G a1 (by have:=tg.b.lo;omega),a2⟩
 have later:∀i B,Bs[i]?=some B->(B.lo<=Jvj Bs (Jkr Bs ns ls) ls rs i/\Jvj Bs (Jkr Bs ns ls) ls rs i<=B.hi)/\Jpx B ((Jlh ns).getD i 0) (ns.getD i 0) (Jvj Bs (Jkr Bs ns ls) ls rs i)=true:=λi B hB=>by
  have il:i < Bs.length:=(yq.mp hB).1;obtain ⟨h1,tg,eo⟩:=one i B hB;obtain ⟨_,_,a3⟩:=Jr7 tg h1 (Js5 hh hB);have br:=rn.2 i B _ hB (Jnt (by omega));have bu:0<=upQ Bs (Jkr Bs ns ls) ls i/\upQ Bs (Jkr Bs ns ls) ls i<=(Jlh ns).getD i 0:=by
   cases i with
   |zero=>exact ⟨Int.le_refl _,Int.le_refl _⟩
   |succ j=>
    rw [Ycm ng (by omega)];exact outs j (by omega)
  have q:=a3 (upQ Bs (Jkr Bs ns ls) ls i+rs.getD i 0) (by omega) (by omega);rw [<-eo,<-Int.add_assoc] at q;exact q
 have lat:∀i,i < Bs.length->(Jno Bs (Jkr Bs ns ls) ls rs)[i]?=some (Jvj Bs (Jkr Bs ns ls) ls rs i):=λi hi=>by
  unfold Jno;rw [ym,ycq hi];rfl
 refine ⟨⟨?_,λi B s hB hs=>?_⟩,outs,⟨?_,λi B l hB hl=>?_⟩,?_⟩
 ·unfold Jkr;rw [yf,yau]
 ·rw [Jxl hB] at hs;cases hs;obtain ⟨h1,tg,_⟩:=one i B hB;exact (Jr7 tg h1 (Js5 hh hB)).1
 ·unfold Jno;rw [yf,yau]
 ·rw [lat i (yq.mp hB).1] at hl;cases hl;exact (later i B hB).1
 ·unfold Jo9;rw [yar];intro i hi;have il:=yac.mp hi;cases hB:Bs[i]? with
  |none=>rfl
  |some B=>
   have e:(Jno Bs (Jkr Bs ns ls) ls rs).getD i 0=Jvj Bs (Jkr Bs ns ls) ls rs i:=by
    rw [yy,lat i il];rfl
   show Jpx B ((Jlh ns).getD i 0) (ns.getD i 0) ((Jno Bs (Jkr Bs ns ls) ls rs).getD i 0)=true;rw [e];exact (later i B hB).2
theorem Yck (Bs:List BTd) (ss:List Int):∀(n:Nat) (ls rs:List Int),n<=Bs.length->ls.length=Bs.length->rs.length=Bs.length->((yt n).map (Jvj Bs ss ls rs)).sum+upQ Bs ss ls n=(ls.take n).sum+(rs.take n).sum:=by
 intro n
 induction n with
 |zero=>intro ls rs _ _ _;rfl
 |succ n ih=>
  intro ls rs hn l1 l2;have q:=ih ls rs (by omega) l1 l2;rw [ybr,yz,List.sum_append,yao,yao,Jnt (l:=ls) (i:=n) (by omega),Jnt (l:=rs) (i:=n) (by omega),List.sum_append,List.sum_append];have e:Jvj Bs ss ls rs n=ls.getD n 0 - Jnq Bs ss ls n+upQ Bs ss ls n+rs.getD n 0:=rfl;have e2:upQ Bs ss ls (n+1)=Jnq Bs ss ls n:=rfl;simp only [yax,List.map_nil,List.sum_cons,List.sum_nil,Option.toList_some];omega
noncomputable def Jwg (B:BTd) (up hi:Int) (l:List (Option Int)):Prop:=∀n,n < nLv B->Jm9 B up hi n=true->l.getD n none=none
theorem Ydk (r:Int) {n:Nat}:∀{ns:List Nat} {l:List (Option Int)},¬n∈ns->(Jo4 l ns r).getD n none=l.getD n none:=by
 intro ns
 induction ns with
 |nil=>intro l _;rfl
 |cons m ns ih=>
  intro l h;show (Jo4 (l.set m (some r)) ns r).getD n none=_;rw [ih λz=>h (yaf _ z)];have:m≠n:=λz=>h (by rw [z];exact yal ..);simp [yy,ycj this]
theorem Yd8 {B:BTd} {up up' hi:Int} {l:List (Option Int)} {n:Nat} (h:up'<=up) (k:Jwg B up hi l) (hn:n < nLv B) (hh:Jm9 B up hi n=true):Jo8 B up' hi l n=false:=by
 have hm:n∈Jlz B up hi:=yav.mpr ⟨yac.mpr hn,hh⟩;have q:=(Jpw hm).2;have m:=List.mem_of_mem_head? (Option.mem_def.mpr q);obtain ⟨h1,h2⟩:=yav.mp m;unfold Jo8;rw [Bool.not_eq_false',yco];refine ⟨_,h1,?_⟩;rw [<-Jxe] at h2⊢;unfold Jzm at h2⊢;rw [yar] at h2⊢;intro c hc;have lt:=yac.mp hc;have ok:=h2 c (yac.mpr (by omega));revert ok;unfold Jpk;split
 ·rename_i rgc
  intro ok;show (l.getD _ none).isNone=true;rw [k _ ?_ ok]
  ·rfl
  ·unfold nLv;omega
 ·intro ok;exact ok
theorem Y8 {B:BTd} {up up' hi:Int} (h:up'<=up):∀(j:Nat) (l:List (Option Int)) (r:Int),Jwg B up hi l->Jwg B up hi (Job B up' hi j l r):=by
 intro j
 induction j with
 |zero=>intro l r k;exact k
 |succ j ih=>
  intro l r k;show Jwg B up hi (if Jkj B up' hi l= [] then l else Job B up' hi j (Jo4 l (Jkj B up' hi l) (r+1)) (r+1));by_cases c:Jkj B up' hi l= []
  ·rw [if_pos c];exact k
  ·rw [if_neg c];refine ih _ _ λn hn hh=>?_;rw [Ydk (r+1) λz=>?_]
   ·exact k n hn hh
   ·unfold Jkj at z;have:=(yav.mp z).2;rw [yag,Yd8 h k hn hh] at this;cases this.2
theorem Y1 {B:BTd} {up up' hi:Int} {n:Nat} (h:up'<=up) (hn:n < nLv B) (hh:Jm9 B up hi n=true):Jm9 B up' hi n=true:=by
 have z:Jwg B up hi (yw (nLv B) none):=λm hm _=>by
  rw [yy,ycr];split <;> rfl
 have q:=Y8 h (nLv B+1) _ 0 z n hn hh;unfold Jm9 Jnc;rw [q];rfl
theorem Yeb {B:BTd} {up up' hi:Int} (tg:TGd B) (h:up'<=up) (hh:Jlu B up hi=true):Jlu B up' hi=true:=Y1 h (by have:=tg.st;unfold nLv;omega) hh
theorem Yc {B:BTd} {up up' hi:Int} (tg:TGd B) (h:up'<=up) (hi0:0<=hi/\hi<=12) (hh:Jlu B up hi=true):∃u,Jlm B up'=some u/\u<=hi:=by
 have q:=Yeb tg h hh;have e:hi=((hi.toNat:Nat):Int):=by omega
 cases hc:(yt 13).find? λh:Nat=>Jlu B up' h with
 |none=>
  rw [List.find?_eq_none] at hc;refine absurd ?_ (hc hi.toNat (yac.mpr (by omega)));rw [<-e];exact q
 |some u=>
  refine ⟨(u:Int),by unfold Jlm;rw [hc];rfl,?_⟩;rw [List.find?_range_eq_some] at hc;by_cases lt:hi.toNat < u
  ·have:=hc.2.2 hi.toNat lt;rw [<-e,q] at this;cases this
  ·omega
theorem Ye:∀(Bs:List BTd) (up:Int) (us ns acc:List Int),(∀B∈Bs,TGd B)->us.length=Bs.length->ns.length=Bs.length->(∀x∈ns,0<=x/\x<=12)->(∀i,i < Bs.length->∀B,Bs[i]?=some B->Jlu B (us.getD i 0) (ns.getD i 0)=true)->
  (∀i,i+1 < Bs.length->us.getD (i+1) 0=ns.getD i 0)->(Bs≠ []->up<=us.getD 0 0)->∃more:List Int,Jma Bs up acc=(acc++more,none)/\more.length=Bs.length/\∀i,i < Bs.length->more.getD i 0<=ns.getD i 0:=by
 intro Bs
 induction Bs with
 |nil=>intro up us ns acc _ _ _ _ _ _ _;exact ⟨[],by simp [Jma],rfl,λi h=>absurd h (ycf _)⟩
 |cons B Bs ih=>
  intro up us ns acc tg l1 l2 hb held link hup;cases us with
  |nil=>simp at l1
  |cons u0 us=>
   cases ns with
   |nil=>simp at l2
   |cons n0 ns=>
    obtain ⟨u,hu,le⟩:=Yc (tg B (yal ..)) (hup (List.cons_ne_nil _ _)) (hb n0 (yal ..)) (held 0 (by simp) B rfl);obtain ⟨more,h1,h2,h3⟩:=ih u us ns (acc++ [u]) (λB' h=>tg B' (yaf _ h)) (by simpa using l1) (by simpa using l2) (λx h=>hb x (yaf _ h))
     (λi hi B' hB'=>held (i+1) (by simpa using hi) B' hB') (λi hi=>link (i+1) (by simpa using hi)) (λne=>by
      have:=link 0 (by cases Bs with|nil=>exact absurd rfl ne|cons _ _=>simp);have e:us.getD 0 0=n0:=this;rw [e];exact le)
    refine ⟨u::more,?_,by simp [h2],λi hi=>?_⟩
    ·show (match Jlm B up with|none=>(acc,some acc.length)|some u=>Jma Bs u (acc++ [u]))=_;rw [hu];show Jma Bs u (acc++ [u])=_;rw [h1,ycl];rfl
    ·cases i with
     |zero=>exact le
     |succ j=>exact h3 j (by simpa using hi)
theorem Yq {Bs:List BTd} {ns acc:List Int} {lk:Option Nat} (rg:RGd Bs) (ng:NGd Bs.length ns) (h:Jr1 Bs ns=true) (e:Jnw Bs=(acc,lk)):lk=none/\∀i,i < acc.length->¬ns.getD i 0 < acc.getD i 0:=by
 unfold Jr1 at h;rw [yar] at h;have nl:=ng.1;obtain ⟨more,h1,h2,h3⟩:=Ye Bs 0 (Jlh ns) ns [] rg.all (Jxs ng rg.len.1) ng.1 ng.2 (λi hi B hB=>by have:=h i (yac.mpr hi);rw [hB] at this;exact this) (λi hi=>by
  unfold Jlh;show ns.dropLast.getD i 0=_;rw [yy,yy,ycu,List.getElem?_take,if_pos (by omega)]) (λ_=>Int.le_refl _)
 unfold Jnw at e;rw [h1] at e;cases e;refine ⟨rfl,λi hi=>?_⟩;have:=h3 i (by simpa [h2] using hi);simp only [List.nil_append] at*;omega
theorem Jwx {B:BTd} {up u:Int} (h:Jlm B up=some u):Jlu B up u=true:=by
 unfold Jlm at h;obtain ⟨n,hn,rfl⟩:=yx.mp h;exact List.find?_some (p:=λh:Nat=>Jlu B up h) hn
theorem Yd:∀(Bs:List BTd) (up:Int) (acc acc':List Int),Jma Bs up acc=(acc',none)->∃more,acc'=acc++more/\more.length=Bs.length/\(∀x∈more,0<=x/\x<=12)/\∀(i:Nat) B,Bs[i]?=some B->Jlu B ((up::more).getD i 0) (more.getD i 0)=true:=by
 intro Bs
 induction Bs with
 |nil=>
  intro up acc acc' h;cases h;exact ⟨[],(yaz _).symm,rfl,λ_ h=>(by cases h),λi B h=>(by simp at h)⟩
 |cons B0 Bs ih=>
  intro up acc acc' h;have h':(match Jlm B0 up with|none=>(acc,some acc.length)|some u=>Jma Bs u (acc++ [u]))=(acc',none):=h;cases hc:Jlm B0 up with
  |none=>rw [hc] at h';cases h'
  |some u=>
   rw [hc] at h';obtain ⟨more,h1,h2,h3,h4⟩:=ih u (acc++ [u]) acc' h';refine ⟨u::more,by rw [h1,ycl];rfl,by simp [h2],λx hx=>?_,λi B hB=>?_⟩
   ·rcases yo.mp hx with rfl|hx
    ·exact Juq hc
    ·exact h3 x hx
   ·cases i with
    |zero=>cases hB;exact Jwx hc
    |succ i=>exact h4 i B hB
theorem Jxt {ns:List Int} {i:Nat} (h:i < ns.length):(Jlh ns).getD i 0=(0::ns).getD i 0:=by
 cases i with
 |zero=>rfl
 |succ i=>
  unfold Jlh;show ns.dropLast.getD i 0=ns.getD i 0;rw [yy,yy,ycu,List.getElem?_take,if_pos (by omega)]
theorem Jy5 {Bs:List BTd} {acc:List Int} (h:Jnw Bs=(acc,none)):NGd Bs.length acc/\Jr1 Bs acc=true:=by
 obtain ⟨more,h1,h2,h3,h4⟩:=Yd Bs 0 [] acc h;have e:acc=more:=h1;subst e;refine ⟨⟨h2,h3⟩,?_⟩;unfold Jr1;rw [yar];intro i hi;have il:=yac.mp hi;cases hB:Bs[i]? with
 |none=>rfl
 |some B=>
  show Jlu B ((Jlh acc).getD i 0) (acc.getD i 0)=true;rw [Jxt (by omega)];exact h4 i B hB
theorem flat12 (k:Nat):(yw k [V.int 12]).flatten=(yw k (12:Int)).map V.int:=by
 induction k with
 |zero=>rfl
 |succ k ih=>rw [ybt,yck,ih,ybt,yax];rfl
theorem put_ok {ns:List Int} {n i:Nat} {x:Int} (ng:NGd n ns) (hi:i < n) (hx:0<=x/\x<=12):NGd n (ns.take i++ [x]++ns.drop (i+1)):=by
 have nl:=ng.1;refine ⟨?_,λy hy=>?_⟩
 ·rw [yas,yas,yaj,List.length_drop];simp;omega
 ·rcases ybw.mp hy with h|h
  ·rcases ybw.mp h with h|h
   ·exact ng.2 y (List.mem_of_mem_take h)
   ·rw [ybq.mp h];exact hx
  ·exact ng.2 y (List.mem_of_mem_drop h)
theorem cut_to (ns:List Int) (i:Nat) (h:i<=ns.length):Jmf (ns.map V.int) none (some (i:Int))=(ns.take i).map V.int:=by
 unfold Jmf;rw [HT.sIx_none,HT.sIx_nat,yf,Nat.min_eq_left h,List.drop_zero,Nat.sub_zero,List.map_take]
theorem Yan (ns:List Int) (i:Nat) (h:i<=ns.length):Jmf (ns.map V.int) (some (i:Int)) none=(ns.drop i).map V.int:=by
 unfold Jmf;rw [HT.sIx_nat,yf,Nat.min_eq_left h,<-List.map_drop];show List.take (ns.length - i) ((ns.drop i).map V.int)=_;rw [yak (by rw [yf,List.length_drop];exact yi _)]
theorem RivAt.but {a:Ad} {p:Addr} {H H':Hp} {r:Addr} {Bs:List BTd} {c g:Int} (st:Strm H p) (b:But p H H') (h:RivAt a H r Bs c g):RivAt a H' r Bs c g:=by
 obtain ⟨dx,q,t,os,h1,h2,h3⟩:=h;have k:∀d o,(∀x y z:Int,o≠HO.lst [.int x,.int y,.int z])->H d=some o->H' d=some o:=λd o n e=>b.1 _ _ (Jne st e n) e;refine ⟨dx,q,t,os,k _ _ (λ_ _ _ z=>by cases z) h1,k _ _ (λ_ _ _ z=>by cases z) h2,Paired.mapP h3 λo B ⟨dx',g,g1,g0,⟨dy,t',g3,g4⟩,g5⟩=>⟨dx',g,k _ _ (λ_ _ _ z=>by cases z) g1,g0,⟨dy,t',k _ _ (λ_ _ _ z=>by cases z) g3,k _ _ (λ_ _ _ z=>by cases z) g4⟩,g5⟩⟩
noncomputable def spLNoK (a:Ad):Sp:=λvs H Q _=>∃(r:Addr) (Bs:List BTd) (c g:Int) (acc:List Int) (k:Nat),vs= [.ref r,.int (Bs.length:Int)]/\H a.Jjm=some (.tbl lb_lost_alone)/\H a.Jjo=some (.tbl lb_local_keeper)/\RivAt a H r Bs c g/\RGd Bs/\Jnw Bs=(acc,some k)/\∀H',Same H H'->Q (.bl true) H'
noncomputable def Ydz (a:Ad):Sp:=λvs H Q _=>∃(r L p:Addr) (ts:List Addr) (Bs:List BTd) (c g:Int),vs= [.ref r,.ref L,.ref p]/\H a.Jjm=some (.tbl lb_lost_alone)/\RivAt a H r Bs c g/\RGd Bs/\Strm H p/\L≠p/\H L=some (.lst (ts.map V.ref))/\ts.length=Bs.length/\
 (∀acc k,Jnw Bs=(acc,some k)->∀H',Same H H'->Q .non H')/\
 (∀ns N H',NGd Bs.length ns->Jr1 Bs ns=true->But p H H'->H N=none->H' N=some (.lst (ns.map V.int))->Q (.ref N) H')
theorem sc_law_no_keeper:Jk0 ["_law_river_here","_law_many","_law_refused","e"] ["_law_river_here","_law_many"] (Jju (top 86)):=%[|0]
theorem Jrd (T:Tx K mg a) (Bm:Bmn mg base):FnOk P w K mg base CX0 9 a.Jiq a.Jir ["_law_river_here","_law_many"] (spLNoK a):=by
 have G_local_keeper:=Jo3 (P:=P) (w:=w) T Bm;refine %[T.Jab.fn.ok,sc_law_no_keeper|2]
 ·obtain ⟨r,Bs,c,g,acc,k,rfl,_⟩:=h;rfl
 ·obtain ⟨r,Bs,c,g,acc,kk,rfl,ht,ht2,rv,rg,el,k⟩:=h;have l16:=rg.len;refine ⟨?t,?B,?C⟩
  case B=>
   refine' Jjs ?s1 ?r1
   case s1=>
    exact (Jk5 (i:=2) sc_law_no_keeper.nd rfl (ye rfl) Jlg)
   case r1=>
    refine' Jjs ?s3 ?r3
    case s3=>
     exact (Ybh ⟨rfl,rfl⟩ (λ_ _ hw=>(Jjt (Jlq (Jlk T.Jo G_local_keeper hw hr (by decide) (Jjp (pv 0) (Jjp (Jk7 op_rep (Jl4 (Jjp Jjv Jjr)) (pv 1)) Jjr)))))) (by exact ph_as T.Jd1 T.Jbe sc_law_no_keeper.nd (i:=3) rfl rfl (λ_=>(Jjt (Jk5 (i:=2) sc_law_no_keeper.nd rfl (ye rfl) (Jt2 (Jjz Jle (by rfl) T.Jau Jka (Jjp (Jzj (pv 3) (by rfl)) (Jjp (Jlb (v:=.ty "int") (by rfl) T.Jat Jps rfl) Jjr))) (Jt5 (Jt3 Jn7 Jzi Jjv (Jzj (pv 3) (by rfl)) (pv 1))))))) Ybe))
    case r3=>
     refine' Jjt ?s5
     case s5=>
      exact (Jk1 (pv 2))
  have ng:NGd Bs.length (yw Bs.length 12):=⟨ybs,λx hx=>by rw [(List.mem_replicate.mp hx).2];decide⟩;have no:Jr1 Bs (yw Bs.length 12)=false:=by
   cases hc:Jr1 Bs (yw Bs.length 12) with
   |false=>rfl
   |true=>have:=(Yq rg ng hc el).1;cases this
  refine λpins=>⟨_,rfl,(show 1<=sizeLine by decide),λz1 hz1=>?_⟩;have q1:=Same.upd (o:=.lst [.int 12]) hz1;refine ⟨_,rfl,z1,_,_,rfl,rfl,Jjq,?_,?_,?_,λz2 hz2=>?_⟩
  ·omega
  ·omega
  ·exact yaq (Jkc (by simp;omega))
  have q2:=q1.trans (Same.upd (o:=.lst (yw (Bs.length:Int).toNat [V.int 12]).flatten) hz2);refine ⟨r,z2,Bs,c,g,yw Bs.length 12,rfl,q2 _ _ ht,q2 _ _ ht2,rv.same q2,rg,?_,ng,λh=>(by rw [no] at h;cases h),λ_ i eo dx H1 il s1 x1 x2=>?_⟩
  ·rw [Jjq,show (Bs.length:Int).toNat=Bs.length by omega,flat12]
  refine ⟨eo,_,true,rfl,rfl,T.Jet,Jm7 ?_⟩;refine ⟨_,rfl,eo,_,_,_,dx,_,_,_,rfl,x1,x2,T.Jd0,T.Jdx,rfl,_,_,_,.type "int",true,rfl,rfl,.of (.int _),rfl,_,rfl,Jm7 ?_⟩;refine ⟨_,rfl,eo,_,_,_,dx,_,_,_,rfl,x1,x2,T.Jd0,T.Jdx,rfl,_,_,rfl,rfl,_,rfl,ifT (decide_eq_true (by omega)) ?_⟩;refine ⟨_,rfl,_,_,rfl,rfl,?_⟩;have:=k _ (q2.trans s1);rw [<-decide_eq_true (show (i:Int) < Bs.length by omega)] at this;exact ⟨_,rfl,this⟩
theorem sc_law_promised:Jk0 ["_law_river_here","_law_told","_law_stream_here","_law_numbers","_law_place","_law_more"] ["_law_river_here","_law_told","_law_stream_here"] (Jju (top 80)):=%[|0]
theorem Js2 (T:Tx K mg a) (Bm:Bmn mg base):FnOk P w K mg base CX0 9 a.Jie a.Jif ["_law_river_here","_law_told","_law_stream_here"] (Ydz a):=by
 have G_promises:=Jx6 (P:=P) (w:=w) T Bm;have G_are_promises:=Js1 (P:=P) (w:=w) T Bm;have G__law_take:=%[Jlr|1];refine %[T.Ja5.fn.ok,sc_law_promised|2]
 ·obtain ⟨r,L,p,ts,Bs,c,g,rfl,_⟩:=h;rfl
 ·obtain ⟨r,L,p,ts,Bs,c,g,rfl,ht,rv,rg,st,nLp,hL,tl,k1,k2⟩:=h;have l16:=rg.len;refine ⟨?t,?B,?C⟩
  case B=>
   refine' Jjs ?s1 ?r1
   case s1=>
    exact (Jk5 (i:=3) sc_law_promised.nd rfl (ye rfl) Jls)
   case r1=>
    refine' Jjs ?s3 ?r3
    case s3=>
     exact (Ybh ⟨rfl,rfl⟩ (λ_ _ hw=>(Jjt (Jk5 (i:=3) sc_law_promised.nd rfl (ye rfl) (Jlk T.Jm G_promises hw hr (by decide) (Jjp (pv 0) Jjr))))) (by exact ph_no T.Jd1 T.Jbe (λ_=>(Jjt (Jk5 (i:=3) sc_law_promised.nd rfl (ye rfl) Jls))) Ybe))
    case r3=>
     refine' Jjs ?s5 ?r5
     case s5=>
      refine' Jkd ?c6 ?a6 ?b6
      case c6=>
       exact (PW.pt (Ybj (Jke Js8 (pv 3) Jls (Jkg _)) (Jzk (Jke Jnp (Jjw T.Jx G__law_take hr (by decide) (Jjp (pv 2) (Jjp Jjv Jjr))) Jjv (Jkg _)))))
      case a6=>
       refine' Jjs ?s7 ?r7
       case s7=>
        exact (Jk5 (i:=4) sc_law_promised.nd rfl (ye rfl) (Jjw T.Jx G__law_take hr (by decide) (Jjp (pv 2) (Jjp (Jjz Jk4 (by rfl) T.Jav Jkw (Jjp (pv 1) Jjr)) Jjr))))
       case r7=>
        refine' Jjs ?s9 ?r9
        case s9=>
         exact (Jk5 (i:=5) sc_law_promised.nd rfl (ye rfl) (Jk7 Jrg (Jk7 Jrg (Jor Jqv (pv 3) Jqn (Jqo (pv 4))) (Jl4 (Jjp (Jjz (Jm5 rfl) (by rfl) T.Jay Jo7 (Jjp Jjv (Jjp (Jk7 Jkk (Jk9 Jki (pv 3) (pv 4) (λ_ _=>rfl)) Jjv) Jjr))) Jjr))) (Jor Jqv (pv 3) (Jqo (Jk7 Jkk (pv 4) Jjv)) Jqn)))
        case r9=>
         refine' Jjt ?s11
         case s11=>
          refine' Jkd ?c12 ?a12 ?b12
          case c12=>
           exact (Jkf (Jjw T.Jk G_are_promises hr (by decide) (Jjp (pv 0) (Jjp (pv 5) Jjr))))
          case a12=>
           refine' Jjt ?s13
           case s13=>
            exact (Jk5 (i:=3) sc_law_promised.nd rfl (ye rfl) (pv 5))
          case b12=>
           exact Jk3
      case b6=>
       exact Jk3
     case r5=>
      refine' Jjt ?s17
      case s17=>
       exact (Jk1 (pv 3))
  refine λpins=>⟨_,rfl,r,Bs,c,g,rfl,ht,rv,rg,λacc e N H1 s1 hN0 hN=>?_,λacc n e eo dx H1 s1 x1 x2=>?_⟩
  ·obtain ⟨ng,ap⟩:=Jy5 e;have nl:=ng.1;have nNp:N≠p:=st.ne hN0;have c1:But p H H1:=(But.refl st).same s1;refine ⟨_,rfl,rfl,_,rfl,Jm7 ?_⟩;refine ⟨_,rfl,p,2,rfl,c1.2,by decide,by decide,λr1 H2 r10 r11 b1=>⟨rfl,_,rfl,?_⟩⟩;have c2:=c1.trans b1;refine Jnu (λq=>?_) (λq=>?_)
   ·refine ⟨_,rfl,_,rfl,L,_,rfl,.inl (SqL.of (c2.1 _ _ nLp hL)),p,_,rfl,c2.2,?_,?_,λr3 H3 p0 p1 b3=>?_⟩
    ·rw [yf];omega
    ·rw [yf];exact Jrr (by omega) (by omega)
    rw [yf,tl] at p1;obtain ⟨pl,rfl⟩:=yct p0;have pln:pl < Bs.length:=by omega
    have c3:=c2.trans b3;have hN3:=b3.1 _ _ nNp (b1.1 _ _ nNp hN);obtain ⟨a1,m1⟩:=Jnd (ns:=acc) (s:=(pl:Int)) ⟨by omega,by omega⟩;have bx:=ng.2 _ m1;generalize acc.getD (pl:Int).toNat 0=fv at a1 bx;have ct:=cut_to acc pl (by omega);have cf:=Yan acc (pl+1) (by omega);refine ⟨_,rfl,_,rfl,_,rfl,N,_,rfl,SqL.of hN3,λy1 hy1=>?_⟩;have w1:=Same.upd (o:=.lst (Jmf (acc.map V.int) none (some (pl:Int)))) hy1;refine ⟨_,rfl,_,rfl,N,_,(pl:Int),_,rfl,rfl,SqL.of (w1 _ _ hN3),a1,_,_,rfl,rfl,_,_,rfl,?_⟩;generalize hv:(if fv+1 < 12 then fv+1 else (12:Int))=nv;have bv:0<=nv/\nv<=12:=by
     rw [<-hv];split <;> omega
    refine ⟨(show 1<=sizeLine by decide),λy2 hy2=>?_⟩;have w2:=w1.trans (Same.upd (o:=.lst [.int nv]) hy2);refine ⟨y1,y2,_,_,rfl,rfl,Same.upd hy2 _ _ Jjq,Jjq,?_,λy3 hy3=>?_⟩
    ·rw [ct,yf,yaj];exact yaq (Jkc (by simp;omega))
    have w3:=w2.trans (Same.upd (o:=.lst (Jmf (acc.map V.int) none (some (pl:Int))++ [.int nv])) hy3);refine ⟨_,rfl,_,rfl,_,_,rfl,rfl,_,rfl,N,_,rfl,SqL.of (w3 _ _ hN3),λy4 hy4=>?_⟩;have w4:=w3.trans (Same.upd (o:=.lst (Jmf (acc.map V.int) (some ((pl:Int)+1)) none)) hy4);refine ⟨y3,y4,_,_,rfl,rfl,Same.upd hy4 _ _ Jjq,Jjq,?_,λy5 hy5=>?_⟩
    ·rw [ct,show ((pl:Int)+1)=((pl+1:Nat):Int) by omega,cf,yas,yf,yf,yaj,List.length_drop];exact yaq (Jkc (by simp;omega))
    have e5:Jmf (acc.map V.int) none (some (pl:Int))++ [V.int nv]++Jmf (acc.map V.int) (some ((pl:Int)+1)) none=(acc.take pl++ [nv]++acc.drop (pl+1)).map V.int:=by
     rw [ct,show ((pl:Int)+1)=((pl+1:Nat):Int) by omega,cf,yz,yz];rfl
    rw [e5];have q5:=Same.upd (o:=.lst ((acc.take pl++ [nv]++acc.drop (pl+1)).map V.int)) hy5;have w5:=w4.trans q5;have c5:=c3.same w5;have y50:H y5=none:=But.free st (c3.same w4) hy5;have rv5:=rv.but st c5;have pg:=put_ok ng pln bv;generalize acc.take pl++ [nv]++acc.drop (pl+1)=more at pg w5 c5 rv5 q5;refine ⟨_,rfl,_,rfl,r,y5,Bs,c,g,more,rfl,c5.1 _ _ (Jne st ht (λ_ _ _ z=>by cases z)) ht,rv5,rg,Jjq,pg,λH6 s6=>⟨_,rfl,?_⟩⟩;refine Jnu (λq=>?_) (λq=>?_)
    ·exact ⟨_,rfl,_,rfl,k2 more y5 _ pg q (c5.same s6) y50 (s6 _ _ Jjq)⟩
    ·exact ⟨_,rfl,k2 acc N _ ng ap (c5.same s6) hN0 (s6 _ _ (w5 _ _ hN3))⟩
   ·exact ⟨_,rfl,k2 acc N _ ng ap c2 hN0 (b1.1 _ _ nNp hN)⟩
  ·refine ⟨eo,_,true,rfl,rfl,T.Jet,Jm7 ?_⟩;exact ⟨_,rfl,rfl,_,rfl,Jkt ⟨_,rfl,k1 acc n e _ s1⟩⟩
noncomputable def Yz:Sp:=λvs H Q _=>∃(L:Addr) (c g wet:Int) (ts:List Addr) (Bs:List BTd),vs= [.ref L,.int c,.int g,.int wet]/\H L=some (.lst (ts.map V.ref))/\TldS H ts Bs/\RGd Bs/\∀(f:Int) H',Same H H'->(f<=0\/f<=wet+g - c)->Q (.int f) H'
noncomputable def RnU (Bs:List BTd) (wet:Int) (rs:List Int):Prop:=(∀(i:Nat) B r,Bs[i]?=some B->rs[i]?=some r->0<=r/\r<=B.rn)/\(0<=rs.sum/\rs.sum<=wet)
noncomputable def Ye0:Sp:=λvs H Q _=>∃(L p:Addr) (c g wet:Int) (ts:List Addr) (Bs:List BTd),vs= [.ref L,.int c,.int g,.int wet,.ref p]/\Strm H p/\L≠p/\H L=some (.lst (ts.map V.ref))/\TldL p H ts Bs/\RGd Bs/\(0<=wet/\wet<=12)/\g<=c/\
 ∀(R:Addr) (rs:List Int) (H':Hp),But p H H'->H R=none->H' R=some (.lst (rs.map V.int))->RnG Bs rs->rs.sum<=wet->Q (.ref R) H'
theorem Ydm {Bs:List BTd} (rg:RGd Bs):Sml (Bs.map (·.rn)):=⟨by have:=rg.len;rw [yf];omega,λn hn=>by
 obtain ⟨B,hB,rfl⟩:=ybd.mp hn;have:=(rg.all B hB).b.rn;omega⟩
theorem Jw2 {Bs:List BTd} {wet:Int} {rs:List Int} (rg:RGd Bs) (h:RnU Bs wet rs) (l:rs.length<=Bs.length):Sml rs:=⟨by have:=rg.len;omega,λn hn=>by
 obtain ⟨i,hi,rfl⟩:=List.mem_iff_getElem.mp hn;have hB:Bs[i]?=some Bs[i]:=yn (by omega);have:=h.1 i _ _ hB (yn hi);have:=(rg.all _ (yaa hB)).b.rn;omega⟩
theorem Ydn {Bs:List BTd} {wet:Int} {rs:List Int} {B:BTd} {v:Int} (h:RnU Bs wet rs) (hB:Bs[rs.length]?=some B) (hv:0<=v/\v<=B.rn/\v<=wet - rs.sum):RnU Bs wet (rs++ [v]):=by
 refine ⟨λi B' r h1 h2=>?_,?_⟩
 ·rw [List.getElem?_append] at h2;split at h2
  ·exact h.1 i B' r h1 h2
  ·have:i - rs.length=0:=by
    have:=(yq.mp h2).1;simp at this;omega
   have e:i=rs.length:=by omega
   subst e;rw [hB] at h1;cases h1;rw [this] at h2;cases h2;omega
 ·rw [List.sum_append];have:=h.2;simp;omega
theorem Yee:∀(l:List Int) (i:Nat) (v:Int) (h:i < l.length),(l.set i v).sum=l.sum - l[i]+v:=by
 intro l
 induction l with
 |nil=>intro i v h;cases h
 |cons x l ih=>
  intro i v h;cases i with
  |zero=>simp;omega
  |succ i=>
   have:=ih i v (by simpa using h);simp;omega
theorem Ydo {Bs:List BTd} {wet:Int} {rs:List Int} {B:BTd} {i:Nat} {v:Int} (h:RnU Bs wet rs) (hi:i < rs.length) (hB:Bs[i]?=some B) (hv:rs[i]<=v/\v<=B.rn/\v - rs[i]<=wet - rs.sum):RnU Bs wet (rs.set i v):=by
 have b:=h.1 i B _ hB (yn hi);refine ⟨λj B' r h1 h2=>?_,?_⟩
 ·rw [List.getElem?_set] at h2;split at h2
  ·rename_i e
   subst e;rw [hB] at h1;cases h1;cases h2;omega
  ·exact h.1 j B' r h1 h2
 ·rw [Yee _ _ _ hi];have:=h.2;omega
theorem Ju9:Jk0 ["_law_told","_law_cloud","_law_gain","_law_wet"] ["_law_told","_law_cloud","_law_gain","_law_wet"] (Jju (top 81)):=%[|0]
theorem Jty (T:Tx K mg a):FnOk P w K mg base CX0 1 a.Jig a.Jih ["_law_told","_law_cloud","_law_gain","_law_wet"] Yz:=by
 refine %[T.Ja6.fn.ok,Ju9|2]
 ·obtain ⟨L,c,g,wet,ts,Bs,rfl,_⟩:=h;rfl
 ·obtain ⟨L,c,g,wet,ts,Bs,rfl,hL,td,rg,k⟩:=h;have len:=Paired.length td;have l16:=rg.len;refine ⟨?t,?B,?C⟩
  case B=>
   refine' Jjt ?s1
   case s1=>
    exact (Jk1 (Jjz (Jm5 rfl) (by rfl) T.Jay Jo7 (Jjp (Jjz (Jn0 rfl) (by rfl) T.Jb3 Jpu (Jjp (Jkl (N:=(["_law_one"]:List Str)) (ini:=[none]) rfl (Jld (pv 0)) (λ_ _ _ _ _=>(Jk2 (i:=0) (by decide +kernel:(["_law_one"]:List Str).Nodup) rfl (ye rfl))) (λ_ _ _ _ _=>Jkp) (λ_ _ _ _ _=>(Jk9 (Js7 (K:=K) rfl) (pv 0) Jjv (λ_ _=>rfl)))) Jjr)) (Jjp (Jjz (Jmh rfl) (by rfl) T.Jax Jpt (Jjp Jjv (Jjp (Jk7 Jln (Jk7 Jkk (pv 3) (pv 2)) (pv 1)) Jjr))) Jjr))))
  refine ⟨_,rfl,L,rfl,⟨_,SqL.of hL⟩,λD hD=>?_⟩;refine Jn2 ((Bs.map (·.rn)).map V.int) hD (by simp;omega) (by simp;omega) hL ?_ ?_
  ·rintro i x y H' Q' hx hy sm kk;rw [ym] at hx;obtain ⟨t,ht,rfl⟩:=yx.mp hx;obtain ⟨B,hB,m,tB,_⟩:=Jkn td ht;rw [ym,ym,hB] at hy;cases hy;exact ⟨_,rfl,t,_,4,_,rfl,rfl,SqT.of (sm _ _ tB),rfl,kk _ (Same.refl _)⟩
  intro H1 s1 hD1;refine ⟨D,_,rfl,.inl (SqL.of hD1),Ydm rg,?_⟩;refine ⟨_,rfl,_,rfl,_,_,rfl,rfl,_,rfl,_,_,rfl,rfl,_,_,rfl,_,_,rfl,?_⟩;refine k _ _ s1 ?_;generalize (Bs.map (·.rn)).sum=m;split <;> split <;> omega
theorem sc_law_rain:Jk0 ["_law_told","_law_cloud","_law_gain","_law_wet","_law_stream_here","_law_way","_law_rain_here","_law_alone","_law_place","_law_one","_law_most","_law_lacks"] ["_law_told","_law_cloud","_law_gain","_law_wet","_law_stream_here"] (Jju (top 82)):=%[|0]
theorem Jx4 (T:Tx K mg a):FnOk P w K mg base CX0 2 a.Jii a.Jij ["_law_told","_law_cloud","_law_gain","_law_wet","_law_stream_here"] Ye0:=by
 have G__law_take:=%[Jlr|1];have G__law_forced:=%[Jty|1];refine %[T.Ja7.fn.ok,sc_law_rain|2]
 ·obtain ⟨L,p,c,g,wet,ts,Bs,rfl,_⟩:=h;rfl
 ·obtain ⟨L,p,c,g,wet,ts,Bs,rfl,st,nLp,hL,td,rg,hw,hgc,k⟩:=h;have len:=Paired.length td;have l16:=rg.len;refine ⟨?t,?B,?C⟩
  case B=>
   refine' Jjs ?s1 ?r1
   case s1=>
    exact (Jk5 (i:=5) sc_law_rain.nd rfl (ye rfl) (Jjw T.Jx G__law_take hr (by decide) (Jjp (pv 4) (Jjp Jjv Jjr))))
   case r1=>
    refine' Jjs ?s3 ?r3
    case s3=>
     exact (Jk5 (i:=6) sc_law_rain.nd rfl (ye rfl) (Jl4 Jjr))
    case r3=>
     refine' Jjs ?s5 ?r5
     case s5=>
      exact (Jk5 (i:=7) sc_law_rain.nd rfl (ye rfl) (Jjw T.Jx G__law_take hr (by decide) (Jjp (pv 4) (Jjp (Jjz Jk4 (by rfl) T.Jav Jkw (Jjp (pv 0) Jjr)) Jjr))))
     case r5=>
      refine' Jjs ?s7 ?r7
      case s7=>
       refine' Jmn ?f8_0 ?f8_1 ?f8_2 ?f8_3 ?f8_4
       case f8_0=>
        exact PassesOwn.never
       case f8_1=>
        exact rfl
       case f8_2=>
        exact (Jw0 (by rfl) T.Jas (Jjp (pv 0) Jjr))
       case f8_3=>
        exact (Jq7 rfl (Jkb (Jk2 (i:=8) sc_law_rain.nd rfl (ye rfl)) (Jkb (Jk2 (i:=9) sc_law_rain.nd rfl (ye rfl)) Jlp)))
       case f8_4=>
        refine' Jjs ?s9 ?r9
        case s9=>
         exact (Jk5 (i:=10) sc_law_rain.nd rfl (ye rfl) (Jjz (Jm5 rfl) (by rfl) T.Jay Jo7 (Jjp (Jk9 Jku (pv 9) Jjv (λ_ _=>rfl)) (Jjp (Jk7 Jln (pv 3) (Jjz (Jn0 rfl) (by rfl) T.Jb3 Jpu (Jjp (pv 6) Jjr))) Jjr))))
        case r9=>
         refine' Jjt ?s11
         case s11=>
          exact (Jlq (Juz F.plainAttrs_list F.slot_list_append F.type_list_append Jmk (pv 6) (Jjp (Jk9 Jki (Jl4 (pa4 (pv 10) (Jjw T.Jx G__law_take hr (by decide) (Jjp (pv 4) (Jjp (Jk7 Jkk (pv 10) Jjv) Jjr))) Jjv (Jk7 Jq6 (pv 10) (Jko Jp5 (by rfl) T.Jat Jps (Jjp (Jm1 Jnp (pv 8) (pv 7) (Jkg _)) Jjr))))) (pv 5) (λ_ _=>rfl)) Jjr)))
      case r7=>
       refine' Jjs ?s13 ?r13
       case s13=>
        refine' Jmn ?f14_0 ?f14_1 ?f14_2 ?f14_3 ?f14_4
        case f14_0=>
         exact PassesOwn.never
        case f14_1=>
         exact rfl
        case f14_2=>
         exact (Jw0 (by rfl) T.Jas (Jjp (pv 0) Jjr))
        case f14_3=>
         exact (Jq7 rfl (Jkb (Jk2 (i:=8) sc_law_rain.nd rfl (ye rfl)) (Jkb (Jk2 (i:=9) sc_law_rain.nd rfl (ye rfl)) Jlp)))
        case f14_4=>
         refine' Jjs ?s15 ?r15
         case s15=>
          exact (Jk5 (i:=11) sc_law_rain.nd rfl (ye rfl) (Jjz (Jmh rfl) (by rfl) T.Jax Jpt (Jjp Jjv (Jjp (Jk7 Jln (Jjw T.Ja6 G__law_forced hr (by decide) (pa4 (pv 0) (pv 1) (pv 2) (pv 3))) (Jjz (Jn0 rfl) (by rfl) T.Jb3 Jpu (Jjp (pv 6) Jjr))) Jjr))))
         case r15=>
          refine' Jjt ?s17
          case s17=>
           exact (Jt7 (Jk7 Jkk (Jk9 Jki (pv 6) (pv 8) (λ_ _=>rfl)) (Jjz (Jm5 rfl) (by rfl) T.Jay Jo7 (Jjp (pv 11) (Jjp (Jk7 Jln (Jk9 Jku (pv 9) Jjv (λ_ _=>rfl)) (Jk9 Jki (pv 6) (pv 8) (λ_ _=>rfl))) Jjr)))) (Jvz (pv 6) (pv 8) Jqu))
       case r13=>
        refine' Jjt ?s20
        case s20=>
         exact (Jk1 (pv 6))
  refine ⟨_,rfl,p,4,rfl,st,by decide,by decide,λway H1 w0 w1 b1=>⟨(show 0<=sizeLine by decide),λR hR=>?_⟩⟩;have hR0:H R=none:=But.free st b1 hR;have nR:R≠p:=st.ne hR0;have s2:=Same.upd (o:=.lst []) hR;have c2:=b1.same s2;refine ⟨_,rfl,_,rfl,L,_,rfl,.inl (SqL.of (c2.1 _ _ nLp hL)),p,_,rfl,c2.2,?_,?_,λal H3 a0 a1 b3=>?_⟩
  ·rw [yf];omega
  ·rw [yf];exact Jrr (by omega) (by omega)
  have c3:=c2.trans b3;have hR3:=b3.1 _ _ nR (Jjq (H:=H1) (a:=R) (o:=.lst []));refine ⟨_,rfl,L,rfl,⟨_,SqL.of (c3.1 _ _ nLp hL)⟩,?_⟩;refine Jzd (K:=K) (a:=L) (xs:=ts.map V.ref) (λi σ H'=>∃(o8 o9 o10 o11:Option V) (rs:List Int),σ= [some (.ref L),some (.int c),some (.int g),some (.int wet),some (.ref p),some (.int way),some (.ref R),some (.int al),o8,o9,o10,o11]/\But p H H'/\H' R=some (.lst (rs.map V.int))/\rs.length=i/\RnU Bs wet rs) ⟨_,_,_,_,[],rfl,c3,hR3,rfl,λ_ _ _ _ h=>(by simp at h),(by simpa using hw.1)⟩ (λi σ H' _ ⟨_,_,_,_,_,_,cc,_⟩=>SqL.of (cc.1 _ _ nLp hL)) ?_ ?_
  ·rintro i x σ H' Ta hx ⟨o8,o9,o10,o11,rs,rfl,cc,hRs,rl,ru⟩ hT;rw [ym] at hx;obtain ⟨t,ht,rfl⟩:=yx.mp hx;obtain ⟨B,hB,m,nm,tB⟩:=Jkn (td.but st cc) ht;have il:i < Bs.length:=(yq.mp hB).1;have bg:=(rg.all B (yaa hB)).b.rn;have sT:=Same.upd (o:=.tup [.int i,.ref t]) hT;have c4:=cc.same sT;have us:=ru.2;refine ⟨Ta,_,rfl,SqT.of Jjq,rfl,_,_,rfl,_,_,rfl,rfl,?_⟩;refine ⟨_,rfl,t,_,4,_,rfl,rfl,SqT.of (sT _ _ tB.1),rfl,_,rfl,_,rfl,R,rs,rfl,.inl (SqL.of (sT _ _ hRs)),Jw2 rg ru (by omega),_,_,rfl,rfl,_,_,rfl,?_⟩;generalize hv:(if wet - rs.sum < B.rn then wet - rs.sum else B.rn)=most;have bv:0<=most/\most<=B.rn/\most<=wet - rs.sum:=by
    rw [<-hv];split <;> omega
   refine ⟨_,rfl,.inl ⟨rfl,_,SqL.of (sT _ _ hRs)⟩,_,rfl,_,rfl,_,rfl,_,_,rfl,rfl,p,_,rfl,c4.2,by omega,Jrr (by omega) (by omega),λr5 H5 r50 r51 b5=>?_⟩;have c5:=c4.trans b5;refine ⟨_,rfl,_,rfl,_,rfl,rfl,.inr ⟨_,rfl,most,_,rfl,rfl,.inl ⟨by omega,by omega⟩,(show 4<=sizeLine by decide),λz hz=>?_⟩⟩;have bm:(most*(if decide (V.int (i:Int)=V.int al)=true then 1 else 0))=most\/(most*(if decide (V.int (i:Int)=V.int al)=true then 1 else 0))=0:=by
    split
    ·exact .inl (Int.mul_one _)
    ·exact .inr (Int.mul_zero _)
   obtain ⟨at1,m1⟩:=Jnd (ns:=[most,r5,0,(most*(if decide (V.int (i:Int)=V.int al)=true then 1 else 0))]) (s:=way) ⟨w0,w1⟩;have bn:0<=([most,r5,0,(most*(if decide (V.int (i:Int)=V.int al)=true then 1 else 0))]:List Int).getD way.toNat 0/\([most,r5,0,(most*(if decide (V.int (i:Int)=V.int al)=true then 1 else 0))]:List Int).getD way.toNat 0<=most:=by
    simp only [yo,yv,or_false] at m1;omega
   generalize ([most,r5,0,(most*(if decide (V.int (i:Int)=V.int al)=true then 1 else 0))]:List Int).getD way.toNat 0=nv at at1 bn;have sz:=Same.upd (o:=.lst [.int most,.int r5,.int 0,.int (most*(if decide (V.int (i:Int)=V.int al)=true then 1 else 0))]) hz;have c6:=c5.same sz;have hR6:=sz _ _ (b5.1 _ _ nR (sT _ _ hRs));refine ⟨_,rfl,z,_,way,_,rfl,rfl,SqL.of Jjq,at1,R,_,_,rfl,rfl,hR6,?_,_,_,_,_,rs++ [nv],rfl,c6.updD hR0 nR,?_,?_,Ydn ru (by rw [rl];exact hB) ⟨bn.1,by omega,by omega⟩⟩
   ·rw [yf];exact Jkc (by omega)
   ·rw [Jjq,yz];rfl
   ·rw [yas,rl];rfl
  ·rintro σ H' ⟨o8,o9,o10,o11,rs,rfl,cc,hRs,rl,ru⟩;have rl2:rs.length=Bs.length:=by rw [rl,yf,len]
   refine ⟨_,rfl,L,rfl,⟨_,SqL.of (cc.1 _ _ nLp hL)⟩,?_⟩;refine Jzd (K:=K) (a:=L) (xs:=ts.map V.ref) (λi σ H'=>∃(o8 o9 o10 o11:Option V) (rs:List Int),σ= [some (.ref L),some (.int c),some (.int g),some (.int wet),some (.ref p),some (.int way),some (.ref R),some (.int al),o8,o9,o10,o11]/\But p H H'/\H' R=some (.lst (rs.map V.int))/\rs.length=Bs.length/\RnU Bs wet rs) ⟨_,_,_,_,rs,rfl,cc,hRs,rl2,ru⟩ (λi σ H' _ ⟨_,_,_,_,_,_,cc,_⟩=>SqL.of (cc.1 _ _ nLp hL)) ?_ ?_
   ·clear rl2 hRs rl ru cc;rintro i x σ H' Ta hx ⟨o8,o9,o10,o11,ms,rfl,cc,hRs,rl,ru⟩ hT;rw [ym] at hx;obtain ⟨t,ht,rfl⟩:=yx.mp hx;have tdc:=td.but st cc;obtain ⟨B,hB,m,nm,tB⟩:=Jkn tdc ht;have il:i < Bs.length:=(yq.mp hB).1;have bg:=(rg.all B (yaa hB)).b.rn;have sT:=Same.upd (o:=.tup [.int i,.ref t]) hT;have c4:=cc.same sT;have us:=ru.2;have hi':i < ms.length:=by omega
    have hat:atI (ms.map V.int) (i:Int)=some (.int ms[i]):=Jl8 (by rw [ym,yn hi'];rfl);have b6:=ru.1 i B _ hB (yn hi');refine ⟨Ta,_,rfl,SqT.of Jjq,rfl,_,_,rfl,_,_,rfl,rfl,?_⟩;refine ⟨_,rfl,_,rfl,_,rfl,_,rfl,L,c,g,wet,ts,Bs,rfl,c4.1 _ _ nLp hL,(tdc.same sT).s,rg,λf H2 s2 bf=>?_⟩;have hR2:=s2 _ _ (sT _ _ hRs);refine ⟨_,rfl,R,ms,rfl,.inl (SqL.of hR2),Jw2 rg ru (by omega),_,_,rfl,rfl,_,_,rfl,?_⟩;generalize hl:(if f - ms.sum > 0 then f - ms.sum else 0)=lacks;have bl:0<=lacks/\lacks<=wet - ms.sum:=by
     rw [<-hl];split <;> omega
    refine ⟨_,rfl,_,rfl,R,_,_,_,rfl,rfl,SqL.of hR2,hat,?_⟩;refine ⟨_,rfl,_,rfl,t,_,4,_,rfl,rfl,SqT.of (s2 _ _ (sT _ _ tB.1)),rfl,_,rfl,_,rfl,R,_,_,_,rfl,rfl,SqL.of hR2,hat,_,_,rfl,rfl,_,_,rfl,_,_,rfl,rfl,?_⟩;have hix:ixN (ms.map V.int).length (i:Int)=some i:=by
     unfold ixN;rw [if_pos (by omega),if_pos (by rw [yf];omega)];rfl
    refine ⟨_,rfl,_,rfl,R,_,_,i,rfl,rfl,hR2,hix,?_⟩;generalize ev:ms[i]+(if B.rn - ms[i] < lacks then B.rn - ms[i] else lacks)=v;have hv:ms[i]<=v/\v<=B.rn/\v - ms[i]<=wet - ms.sum:=by
     rw [<-ev];split <;> omega
    exact ⟨_,_,_,_,ms.set i v,rfl,(c4.same s2).updD hR0 nR,by rw [Jjq,List.map_set,<-ev],by rw [List.length_set];exact rl,Ydo ru hi' hB hv⟩
   ·rintro σ H' ⟨o8,o9,o10,o11,ms,rfl,cc,hRs,rl,ru⟩;exact ⟨_,rfl,k R ms _ cc hR0 hRs ⟨rl,ru.1⟩ ru.2.2⟩
theorem Ybl {os:List Addr}:∀x y z:Int,HO.lst (os.map V.ref)≠ .lst [.int x,.int y,.int z]:=by
 intro x y z e;cases os with
 |nil=>cases e
 |cons o r=>cases e
theorem KprAt.but {p:Addr} {H H':Hp} {f r d:Addr} {Bs:List BTd} {ns:List Int} (st:Strm H p) (b:But p H H') (h:KprAt H f r d Bs ns):KprAt H' f r d Bs ns:=by
 have k:∀d o,(∀x y z:Int,o≠HO.lst [.int x,.int y,.int z])->H d=some o->H' d=some o:=λd o n e=>b.1 _ _ (Jne st e n) e;obtain ⟨⟨ps,h1,h2,h3⟩,h4⟩:=h;exact ⟨⟨ps,k _ _ Ybl h1,h2,λi B q e1 e2=>(h3 i B q e1 e2).elim λob e=>⟨ob,k _ _ (λ_ _ _ z=>by cases z) e⟩⟩,h4.but st b⟩
theorem KprAt.same {H H':Hp} {f r d:Addr} {Bs:List BTd} {ns:List Int} (s:Same H H') (h:KprAt H f r d Bs ns):KprAt H' f r d Bs ns:=⟨h.1.same s,h.2.same s⟩
theorem Yci {Bs:List BTd} {ss ls rs:List Int} (h0:1<=Bs.length) (l1:ls.length=Bs.length) (l2:rs.length=Bs.length):ls.sum+rs.sum=(Jno Bs ss ls rs).sum+Jnq Bs ss ls (Bs.length - 1):=by
 have q:=Yck Bs ss Bs.length ls rs (yi _) l1 l2;rw [yak (by omega),yak (by omega)] at q;have e:upQ Bs ss ls Bs.length=Jnq Bs ss ls (Bs.length - 1):=by
  cases hb:Bs.length with
  |zero=>omega
  |succ n=>rfl
 rw [e] at q;unfold Jno;exact q.symm
noncomputable def HldL (H:Hp) (p:Addr) (qs:List Addr) (Bs:List BTd) (ns:List Int):Prop:=qs.length=Bs.length/\∀(i:Nat) B q,Bs[i]?=some B->qs[i]?=some q->q≠p/\H q=some (.lst ((Jlz B ((Jlh ns).getD i 0) (ns.getD i 0)).map λn:Nat=>V.int (B.lo+n)))
theorem HldL.same {H H':Hp} {p:Addr} {qs:List Addr} {Bs:List BTd} {ns:List Int} (s:Same H H') (h:HldL H p qs Bs ns):HldL H' p qs Bs ns:=⟨h.1,λi B q e1 e2=>⟨(h.2 i B q e1 e2).1,s _ _ (h.2 i B q e1 e2).2⟩⟩
theorem HldL.but {H H':Hp} {p:Addr} {qs:List Addr} {Bs:List BTd} {ns:List Int} (b:But p H H') (h:HldL H p qs Bs ns):HldL H' p qs Bs ns:=⟨h.1,λi B q e1 e2=>⟨(h.2 i B q e1 e2).1,b.1 _ _ (h.2 i B q e1 e2).1 (h.2 i B q e1 e2).2⟩⟩
theorem Yed:∀(l:List Int),(∀x∈l,0<=x)->0<=l.sum:=by
 intro l
 induction l with
 |nil=>intro _;decide
 |cons x l ih=>
  intro h;have h1:=h x (yal ..);have h2:=ih λy hy=>h y (yaf _ hy);rw [List.sum_cons];omega
theorem Ybn {Bs:List BTd} {rs:List Int} (h:RnG Bs rs):0<=rs.sum:=Yed rs λx hx=>by
 obtain ⟨i,hi,rfl⟩:=List.mem_iff_getElem.mp hx;exact (h.2 i _ _ (yn (by have:=h.1;omega)) (yn hi)).1
theorem Ym {Bs:List BTd} {ss ls:List Int} (h:1<=Bs.length):atI ((Jmg Bs ss ls).map V.int) (-1)=some (.int (Jnq Bs ss ls (Bs.length - 1))):=by
 obtain ⟨m,hm⟩:∃m,Bs.length=m+1:=⟨Bs.length - 1,by omega⟩;refine Jqi ?_;unfold Jmg;rw [hm,ybr,yz];simp
theorem Yd6 {B:BTd} {up hi l:Int} (h:B.lo<=l/\l<=B.hi) (hh:Jpx B up hi l=true):inV (.int l) ((Jlz B up hi).map λn:Nat=>V.int (B.lo+n))=true:=by
 have e:B.lo+((l - B.lo).toNat:Int)=l:=by omega
 have hm:(l - B.lo).toNat∈Jlz B up hi:=yav.mpr ⟨yac.mpr (by unfold nLv;omega),hh⟩;unfold inV;rw [yco];refine ⟨_,List.mem_map_of_mem hm,?_⟩;rw [e];simp [eqV]
theorem Jwn {K:W.Frag} {H:Hp}:∀ns:List Int,DatVs K H (ns.map V.int) (ns.map PyData.int):=by
 intro ns
 induction ns with
 |nil=>exact .nil
 |cons n r ih=>exact .cons (.int n) ih
theorem Yd0 (ns:List Int):PyData.eqv (.tuple [.tuple (ns.map PyData.int),.none]) (.tuple [.tuple (ns.map PyData.int),.none])=true:=by
 have h:∀l:List Int,PyData.eqvAll (l.map PyData.int) (l.map PyData.int)=true:=by
  intro l
  induction l with
  |nil=>rfl
  |cons c r ih=>simp [PyData.eqvAll,PyData.eqv,ih]
 simp [PyData.eqv,PyData.eqvAll,h]
theorem Jtd (ns:List Int):SeqAt.shaped (.tuple [.tuple (ns.map PyData.int),.none])=true:=by
 have e1:∀l:List Int,PyData.canLayAll0 (l.map PyData.int)=true:=by
  intro l
  induction l with
  |nil=>rfl
  |cons c r ih=>simp only [yax,PyData.canLayAll0,PyData.canLay0,ih,Bool.and_self]
 have e2:∀l:List Int,PyData.depthAll (l.map PyData.int)=0:=by
  intro l
  induction l with
  |nil=>rfl
  |cons c r ih=>simp [PyData.depthAll,PyData.depth,ih]
 simp [SeqAt.shaped,PyData.canLay0,PyData.canLayAll0,PyData.depth,PyData.depthAll,e1 ns,e2]
theorem Ybq {t1 t2 t3 t4 t5 t6 t7:TS} {D:Ends} {σ:L2.St} {H:Hp} (Mid:L2.St->Hp->Prop) (h1:∀R,(∀σ H,Mid σ H->R σ H)->Jqw t1 (Jqw t2 (Jqw t3 (Jqw t4 (Jqw t5 t6)))) {D with nx:=R} σ H) (h2:∀σ H,Mid σ H->t7 D σ H):Jqw t1 (Jqw t2 (Jqw t3 (Jqw t4 (Jqw t5 (Jqw t6 t7))))) D σ H:=h1 _ h2
noncomputable def spLRun (a:Ad):Sp:=λvs H Q _=>∃(r L N p:Addr) (ts:List Addr) (Bs:List BTd) (c g:Int) (ns:List Int),vs= [.ref r,.ref L,.ref N,.ref p,.int 16]/\H a.Jjm=some (.tbl lb_lost_alone)/\H a.Jjo=some (.tbl lb_local_keeper)/\RivAt a H r Bs c g/\RGd Bs/\(0<=g/\g<=c/\c<=12)/\Strm H p/\L≠p/\N≠p/\H L=some (.lst (ts.map V.ref))/\TldL p H ts Bs/\H N=some (.lst (ns.map V.int))/\NGd Bs.length ns/\Jr1 Bs ns=true/\∀H',But p H H'->Q (.bl true) H'
theorem sc_law_run_right:Jk0 ["_law_river_here","_law_told","_law_numbers","_law_stream_here","_law_many","_law_keeper","_law_held","_law_levels","_law_wet","_law_first","_law_begin","_law_k","_law_choice","_law_rain_here","_law_later","_law_outs"] ["_law_river_here","_law_told","_law_numbers","_law_stream_here","_law_many"] (Jju (top 85)):=%[|0]
theorem Jre (T:Tx K mg a) (Bm:Bmn mg base):FnOk P w K mg base CX0 9 a.Jio a.Jip ["_law_river_here","_law_told","_law_numbers","_law_stream_here","_law_many"] (spLRun a):=by
 have G_local_keeper:=Jo3 (P:=P) (w:=w) T Bm;have G_lone_levels:=Jt1 (P:=P) (w:=w) T Bm;have G__law_choice_right:=%[Jp9|1];have G__law_rain:=%[Jx4|1];have G__law_turn:=%[Jx5|1];have G_keeper:=λf=>(Yj (P:=P) (w:=w) (base:=base) T f).calm;refine %[T.Jaa.fn.ok,sc_law_run_right|2]
 ·obtain ⟨r,L,N,p,ts,Bs,c,g,ns,rfl,_⟩:=h;rfl
 ·obtain ⟨r,L,N,p,ts,Bs,c,g,ns,rfl,ht,ht2,rv,rg,cg,st,nLp,nNp,hL,td,hN,ng,ap,k⟩:=h;have hu64:=Jvh hr;have len:=Paired.length td;have l16:=rg.len;have nl:=ng.1;refine ⟨?t,?B,?C⟩
  case B=>
   refine' Jjs ?s1 ?r1
   case s1=>
    exact (Jk5 (i:=5) sc_law_run_right.nd rfl (ye rfl) (Jjw T.Jo G_local_keeper.calm hr (by decide) (Jjp (pv 0) (Jjp (pv 2) Jjr))))
   case r1=>
    refine' Jjs ?s3 ?r3
    case s3=>
     exact (Jk5 (i:=6) sc_law_run_right.nd rfl (Or.inr rfl) (Jkl (N:=(["_law_one","_law_up","_law_hi"]:List Str)) (ini:=[none,none,none]) rfl (Js9 true false false (by rfl) T.Jb5 (Jjp (Jky (pv 0) (by rfl)) (Jjp (Jk7 Jrg (Jl4 (Jjp Jjv Jjr)) (pv 2)) (Jjp (pv 2) Jjr)))) (λ_ _ _ _ _=>(Jng (K:=K) (n:=3) rfl rfl (Jkb (Jk2 (i:=0) (by decide +kernel:(["_law_one","_law_up","_law_hi"]:List Str).Nodup) rfl (ye rfl)) (Jkb (Jk2 (i:=1) (by decide +kernel:(["_law_one","_law_up","_law_hi"]:List Str).Nodup) rfl (ye rfl)) (Jkb (Jk2 (i:=2) (by decide +kernel:(["_law_one","_law_up","_law_hi"]:List Str).Nodup) rfl (ye rfl)) Jlp))))) (λ_ _ _ _ _=>Jkp) (λ_ _ _ _ _=>(Jjw T.Jg G_lone_levels.calm hr (by decide) (Jjp (pv 0) (Jjp (pv 1) (Jjp (pv 2) Jjr)))))))
    case r3=>
     refine' Jjs ?s5 ?r5
     case s5=>
      exact (Jnz (i:=7) (N:=(["_law_one"]:List Str)) (ini:=[none]) sc_law_run_right.nd rfl (ye rfl) rfl (Jld (pv 1)) (λ_ _ _ _ _=>(Jk2 (i:=0) (by decide +kernel:(["_law_one"]:List Str).Nodup) rfl (ye rfl))) (λ_ _ _ _ _=>Jkp) (λ_ _ _ _ _=>(Jk9 (Js7 (K:=K) rfl) (pv 0) Jjv (λ_ _=>rfl))))
     case r5=>
      refine' Jjs ?s7 ?r7
      case s7=>
       exact (Jk5 (i:=8) sc_law_run_right.nd rfl (ye rfl) (Jky (pv 0) (by rfl)))
      case r7=>
       refine' Jjs ?s9 ?r9
       case s9=>
        exact (Jk5 (i:=9) sc_law_run_right.nd rfl (ye rfl) (Jqm G_keeper hr (by decide) 5 (Jjp (Jmm (Jjp (Jko Jl5 (by rfl) T.Jb4 Jl7 (Jjp (pv 7) Jjr)) (Jjp (pv 8) Jjr))) (Jjp Jjv Jjr))))
       case r9=>
        refine' Jjs ?s11 ?r11
        case s11=>
         exact (Jk5 (i:=10) sc_law_run_right.nd rfl (ye rfl) (Jmm (Jjp (Jko Jl5 (by rfl) T.Jb4 Jl7 (Jjp (pv 7) Jjr)) (Jjp (pv 8) Jjr))))
        case r11=>
         refine' Jjs ?s13 ?r13
         case s13=>
          refine' Jmn ?f14_0 ?f14_1 ?f14_2 ?f14_3 ?f14_4
          case f14_0=>
           exact PassesOwn.never
          case f14_1=>
           exact rfl
          case f14_2=>
           exact (Jl6 (by rfl) T.Jaz (Jjp (pv 4) Jjr))
          case f14_3=>
           exact (Jk2 (i:=11) sc_law_run_right.nd rfl (ye rfl))
          case f14_4=>
           refine' Jjs ?s15 ?r15
           case s15=>
            exact (Jk5 (i:=12) sc_law_run_right.nd rfl (ye rfl) (Jqm G_keeper hr (by decide) 5 (Jjp (Jmm (Jjp (Jko Jl5 (by rfl) T.Jb4 Jl7 (Jjp (pv 7) Jjr)) (Jjp (pv 8) Jjr))) (Jjp (pv 11) Jjr))))
           case r15=>
            refine' Jjs ?s17 ?r17
            case s17=>
             refine' Jkd ?c18 ?a18 ?b18
             case c18=>
              exact (Jkh (Jkf (Jjw T.Ja9 G__law_choice_right hr (by decide) (Jjp (pv 12) (Jjp (pv 1) Jjr)))))
             case a18=>
              refine' Jjt ?s19
              case s19=>
               exact (Jk1 Jlg)
             case b18=>
              exact Jk3
            case r17=>
             refine' Jjs ?s23 ?r23
             case s23=>
              exact (Jk5 (i:=13) sc_law_run_right.nd rfl (ye rfl) (Jjw T.Ja7 G__law_rain hr (by decide) (pa5 (pv 1) (Jky (pv 0) (by rfl)) (Jky (pv 0) (by rfl)) (pv 8) (pv 3))))
             case r23=>
              refine' Jjs ?s25 ?r25
              case s25=>
               refine' Jt7 ?e27_0 ?e27_1
               case e27_0=>
                exact (Jjw T.Ja8 G__law_turn hr (by decide) (pa4 (pv 1) (pv 7) (Jk9 Jku (pv 12) Jjv (λ_ _=>rfl)) (pv 13)))
               case e27_1=>
                exact (Jq7 rfl (Jkb (Jk2 (i:=14) sc_law_run_right.nd rfl (Or.inr rfl)) (Jkb (Jk2 (i:=15) sc_law_run_right.nd rfl (Or.inr rfl)) Jlp)))
              case r25=>
               refine' Jjs ?s30 ?r30
               case s30=>
                refine' Jkd ?c31 ?a31 ?b31
                case c31=>
                 exact (Jke Jx7 (Jk7 Jkk (Jjz (Jn0 rfl) (by rfl) T.Jb3 Jpu (Jjp (pv 7) Jjr)) (Jjz (Jn0 rfl) (by rfl) T.Jb3 Jpu (Jjp (pv 13) Jjr))) (Jk7 Jkk (Jjz (Jn0 rfl) (by rfl) T.Jb3 Jpu (Jjp (pv 14) Jjr)) (Jk9 Jki (pv 15) (Jx9 Jtk Jjv) (λ_ _=>rfl))) (Jkg _))
                case a31=>
                 refine' Jjt ?s32
                 case s32=>
                  exact (Jk1 Jlg)
                case b31=>
                 exact Jk3
               case r30=>
                refine' Jjs ?s36 ?r36
                case s36=>
                 refine' Jkd ?c37 ?a37 ?b37
                 case c37=>
                  exact (Jke (Jyi hu64) (Jkl (N:=(["_law_place","_law_outs","_law_numbers"]:List Str)) (ini:=[none,some 15,some 2]) rfl (Jl6 (by rfl) T.Jaz (Jjp (Jjz Jk4 (by rfl) T.Jav Jkw (Jjp (pv 1) Jjr)) Jjr)) (λ_ _ _ _ _=>(Jk2 (i:=0) (by decide +kernel:(["_law_place","_law_outs","_law_numbers"]:List Str).Nodup) rfl (ye rfl))) (λ_ _ _ _ _=>(Jnh (Jke Juy (Jk9 (Jn4 (K:=K) rfl) (pv 1) (pv 0) (λ_ _=>rfl)) (Jk9 (Jn4 (K:=K) rfl) (pv 2) (pv 0) (λ_ _=>rfl)) (Jkg _)))) (λ_ _ _ _ _=>(pv 0))) (Jl4 Jjr) (Jkg _))
                 case a37=>
                  refine' Jjt ?s38
                  case s38=>
                   exact (Jk1 Jlg)
                 case b37=>
                  exact Jk3
                case r36=>
                 refine' Jjs ?s42 ?r42
                 case s42=>
                  refine' Jkd ?c43 ?a43 ?b43
                  case c43=>
                   exact (Jke (Jyi hu64) (Jkl (N:=(["_law_place","_law_later","_law_held"]:List Str)) (ini:=[none,some 14,some 6]) rfl (Jl6 (by rfl) T.Jaz (Jjp (Jjz Jk4 (by rfl) T.Jav Jkw (Jjp (pv 1) Jjr)) Jjr)) (λ_ _ _ _ _=>(Jk2 (i:=0) (by decide +kernel:(["_law_place","_law_later","_law_held"]:List Str).Nodup) rfl (ye rfl))) (λ_ _ _ _ _=>(Jnh (Jke (Ju1 (K:=K) rfl) (Jk9 (Jn4 (K:=K) rfl) (pv 1) (pv 0) (λ_ _=>rfl)) (Jk9 (Jn4 (K:=K) rfl) (pv 2) (pv 0) (λ_ _=>rfl)) (by with_unfolding_all rfl)))) (λ_ _ _ _ _=>(pv 0))) (Jl4 Jjr) (Jkg _))
                  case a43=>
                   refine' Jjt ?s44
                   case s44=>
                    exact (Jk1 Jlg)
                  case b43=>
                   exact Jk3
                 case r42=>
                  refine' Jjs ?s48 ?r48
                  case s48=>
                   refine' Jkd ?c49 ?a49 ?b49
                   case c49=>
                    exact (Jke (Jyi hu64) (Jkl (N:=(["_law_one","_law_level"]:List Str)) (ini:=[none,none]) rfl (Jw1 false false (by rfl) T.Jb5 (Jjp (pv 1) (Jjp (pv 14) Jjr))) (λ_ _ _ _ _=>(Jng (K:=K) (n:=2) rfl rfl (Jkb (Jk2 (i:=0) (by decide +kernel:(["_law_one","_law_level"]:List Str).Nodup) rfl (ye rfl)) (Jkb (Jk2 (i:=1) (by decide +kernel:(["_law_one","_law_level"]:List Str).Nodup) rfl (ye rfl)) Jlp)))) (λ_ _ _ _ _=>(Jnh (Jkh (Jos Jn7 Jn7 (Jk9 (Js7 (K:=K) rfl) (pv 0) Jjv (λ_ _=>rfl)) (pv 1) (Jk9 (Js7 (K:=K) rfl) (pv 0) Jjv (λ_ _=>rfl)))))) (λ_ _ _ _ _=>(pv 0))) (Jl4 Jjr) (Jkg _))
                   case a49=>
                    refine' Jjt ?s50
                    case s50=>
                     exact (Jk1 Jlg)
                   case b49=>
                    exact Jk3
                  case r48=>
                   refine' Jjs ?s54 ?r54
                   case s54=>
                    exact (Jk5 (i:=7) sc_law_run_right.nd rfl (ye rfl) (pv 14))
                   case r54=>
                    refine' Jjt ?s56
                    case s56=>
                     exact (Jk5 (i:=8) sc_law_run_right.nd rfl (ye rfl) (Jjz (Jm5 rfl) (by rfl) T.Jay Jo7 (Jjp (Jky (pv 0) (by rfl)) (Jjp (Jk7 Jkk (Jk7 Jln (pv 8) (Jjz (Jn0 rfl) (by rfl) T.Jb3 Jpu (Jjp (pv 13) Jjr))) (Jky (pv 0) (by rfl))) Jjr))))
         case r13=>
          refine' Jjt ?s58
          case s58=>
           exact (Jk1 (Jm1 (op_eqD hu64) (Jqm G_keeper hr (by decide) 5 (Jjp (pv 10) (Jjp Jjv Jjr))) (pv 9) (Jkg _)))
  have lv0:LvG Bs (Bs.map (·.st)):=⟨yf ..,λi B l hB hl=>by
   rw [ym,hB] at hl;cases hl;exact (rg.all B (yaa hB)).st⟩
  have hd0:Jo9 Bs ns (Bs.map (·.st))=true:=by rw [Jn3];exact ap
  refine Ybq (λσ H9=>∃(f d D V1 t9 u9 y2 t2:Addr) (qs:List Addr) (o11 o12 o13 o14 o15:Option V),σ= [some (.ref r),some (.ref L),some (.ref N),some (.ref p),some (.int 16),some (.ref f),some (.ref D),some (.ref V1),some (.int c),some (.ref t9),some (.ref y2),o11,o12,o13,o14,o15]/\But p H H9/\D≠p/\V1≠p/\KprAt H9 f r d Bs ns/\HldL H9 p qs Bs ns/\H9 D=some (.lst (qs.map V.ref))/\H9 t9=some (.tup [.ref u9,.non])/\H9 u9=some (.tup ((Jkr Bs ns (Bs.map (·.st))).map V.int))/\H9 V1=some (.lst ((Bs.map (·.st)).map V.int))/\H9 y2=some (.tup [.ref t2,.int c])/\H9 t2=some (.tup ((Bs.map (·.st)).map V.int))) (λR hR=>?_) ?_
  ·refine ⟨_,rfl,_,rfl,r,N,Bs,c,g,ns,rfl,ht,ht2,rv,rg,hN,ng,λ_ f d H1 s1 kp=>?_,λh=>(by rw [ap] at h;cases h)⟩;obtain ⟨dx,b,t,os,hr0,hb,pr⟩:=rv.same s1;have plen:=Paired.length pr;refine ⟨_,rfl,r,_,dx,_,_,rfl,hr0,T.Jdq,T.Jec,rfl,(show 1<=sizeLine by decide),λz1 hz1=>?_⟩;have q1:=Same.upd (o:=.lst [.int 0]) hz1;refine ⟨_,rfl,z1,N,_,_,rfl,rfl,Jjq,q1 _ _ (s1 _ _ hN),?_,λU hU=>?_⟩
   ·rw [yf];exact yaq (Jkc (by simp;omega))
   have q2:=q1.trans (Same.upd (o:=.lst ([.int 0]++ns.map V.int)) hU);have hU':(upd (upd H1 z1 (.lst [.int 0])) U (.lst ([.int 0]++ns.map V.int))) U=some (.lst ((0::ns).map V.int)):=Jjq;generalize upd (upd H1 z1 (.lst [.int 0])) U (.lst ([.int 0]++ns.map V.int))=H2 at q2 hU';have s2:=s1.trans q2;refine ⟨_,rfl,b,U,N,rfl,⟨_,SqT.of (q2 _ _ hb)⟩,⟨_,SqL.of hU'⟩,⟨_,SqL.of (s2 _ _ hN)⟩,λD hD=>?_⟩;have nD:D≠p:=((But.refl st).same s2).2.ne hD;refine Jsi (K:=K) (l1:=b) (l2:=U) (l3:=N) (b1:=true) (b2:=false) (b3:=false) (xs:=os.map V.ref) (ys:=(0::ns).map V.int) (us:=ns.map V.int) (D:=D) (λi σ H'=>(∃o1 o2 o3,σ= [o1,o2,o3])/\Same H2 H'/\∃qs:List Addr,H' D=some (.lst (qs.map V.ref))/\qs.length=i/\∀(j:Nat) B q,Bs[j]?=some B->qs[j]?=some q->q≠p/\H' q=some (.lst ((Jlz B ((Jlh ns).getD j 0) (ns.getD j 0)).map λn:Nat=>V.int (B.lo+n)))/\q≠D) ⟨⟨_,_,_,rfl⟩,Same.upd hD,[],Jjq,rfl,λj B p _ h=>by simp at h⟩ (λi σ H' _ ⟨_,sm,_⟩=>⟨SqT.of (sm _ _ (q2 _ _ hb)),SqL.of (sm _ _ hU'),SqL.of (sm _ _ (s2 _ _ hN))⟩) (by simp;omega) (by simp;omega) ?_ ?_
   ·rintro i x y u σ H' T1 hx hy hu ⟨⟨o1,o2,o3,rfl⟩,sm,qs,hDs,hql,hqs⟩ hT;rw [ym] at hx hy hu;obtain ⟨o,ho,rfl⟩:=yx.mp hx;obtain ⟨up,hup,rfl⟩:=yx.mp hy;obtain ⟨hi,hhi,rfl⟩:=yx.mp hu;obtain ⟨B,hB,bx⟩:=Jkn pr ho;have il:i < Bs.length:=(yq.mp hB).1;have tg:=rg.all B (yaa hB);have eu:(Jlh ns).getD i 0=up:=by
     rw [Jxt (by omega),yy,hup];rfl
    have eh:ns.getD i 0=hi:=by
     rw [yy,hhi];rfl
    have bu:0<=up/\up<=12:=by
     rcases yo.mp (yaa hup) with rfl|h
     ·decide
     ·exact ng.2 _ h
    have sT:=Same.upd (o:=.tup [.ref o,.int up,.int hi]) hT;have s4:=(q2.trans sm).trans sT;refine Jzo (SqT.of Jjq) ⟨_,rfl,_,rfl,_,rfl,o,B,up,hi,rfl,s4 _ _ (s1 _ _ ht),bx.same s4,tg.b,bu,ng.2 _ (yaa hhi),λq H5 s5 hq0 hq=>?_⟩;have hD5:=s5 _ _ (sT _ _ hDs);have nqD:q≠D:=λz=>by rw [z,sT _ _ hDs] at hq0;cases hq0
    have nqp:q≠p:=((But.refl st).same ((s1.trans s4))).2.ne hq0;refine ⟨_,hD5,?_,⟨_,_,_,rfl⟩,?_,qs++ [q],?_,?_,?_⟩
    ·rw [yf];exact Jkc (by omega)
    ·intro c2 o' z';rw [Jjx (Jjy z' hD)];exact s5 _ _ (sT _ _ (sm _ _ z'))
    ·rw [Jjq,yz];rfl
    ·rw [yas,hql];rfl
    ·intro j B' q' hB' hq';by_cases cj:j < qs.length
     ·rw [ycc cj] at hq';obtain ⟨x1,x2,x3⟩:=hqs j B' q' hB' hq';exact ⟨x1,by rw [Jjx x3];exact s5 _ _ (sT _ _ x2),x3⟩
     ·have ej:j=i:=by
       have:=(yq.mp hq').1;simp at this;omega
      subst ej;rw [hB] at hB';cases hB';rw [ycb (by omega),hql,Nat.sub_self] at hq';cases hq';rw [eu,eh,Jjx nqD];exact ⟨nqp,hq,nqD⟩
   rintro σ3 H3 ⟨_,q3,qs,hD3,hql,hqs⟩;rw [yf,plen] at hql;have hl3:HldL H3 p qs Bs ns:=⟨hql,λi B q e1 e2=>⟨(hqs i B q e1 e2).1,(hqs i B q e1 e2).2.1⟩⟩;clear hqs;have s3:=s2.trans q3;have kp3:=(kp.same q2).same q3;refine ⟨_,rfl,L,rfl,⟨_,SqL.of (s3 _ _ hL)⟩,λV1 hV1=>?_⟩;have nV:V1≠p:=((But.refl st).same s3).2.ne hV1;refine Jn2 ((Bs.map (·.st)).map V.int) hV1 (by simp;omega) (by simp;omega) (s3 _ _ hL) ?_ ?_
   ·rintro i x y H' Q' hx hy sm kk;rw [ym] at hx;obtain ⟨t',ht',rfl⟩:=yx.mp hx;obtain ⟨B,hB,m,_,tB⟩:=Jkn td ht';rw [ym,ym,hB] at hy;cases hy;exact ⟨_,rfl,t',_,3,_,rfl,rfl,SqT.of (sm _ _ (s3 _ _ tB.1)),rfl,kk _ (Same.refl _)⟩
   intro H4 q4 hV4;have s4:=s3.trans q4;have hr4:=(q2.trans (q3.trans q4)) _ _ hr0;refine ⟨_,rfl,r,_,dx,_,_,rfl,hr4,T.Jdq,T.Jea,rfl,?_⟩;refine ⟨f,rfl,_,rfl,V1,_,rfl,.inl ⟨SqL.of hV4,λt1 ht1=>?_⟩⟩;have q5:=Same.upd (o:=.tup ((Bs.map (·.st)).map V.int)) ht1;refine ⟨_,rfl,(show 2<=sizeLine by decide),λy1 hy1=>?_⟩;have q6:=q5.trans (Same.upd (o:=.tup [.ref t1,.int c]) hy1);have kp6:=((kp3.same q4).same q6);have rv6:=rv.same (s4.trans q6);refine ⟨[.ref d,.ref r],kp6.2,d,r,y1,t1,_,Bs,c,g,c,ns,_,rfl,rfl,rv6,rg,kp6.1,Jjq,Same.upd hy1 _ _ Jjq,lv0,⟨by omega,Int.le_refl _⟩,hd0,λt9 u9 H7 q7 ht9 hu9=>?_⟩;have s7:=(s4.trans q6).trans q7;have hV7:=q7 _ _ (q6 _ _ hV4);refine ⟨_,rfl,V1,_,rfl,.inl ⟨SqL.of hV7,λt2 ht2=>?_⟩⟩;have q8:=Same.upd (o:=.tup ((Bs.map (·.st)).map V.int)) ht2;refine ⟨_,rfl,(show 2<=sizeLine by decide),λy2 hy2=>?_⟩;have q9:=q8.trans (Same.upd (o:=.tup [.ref t2,.int c]) hy2);have hb1:=(Jjq (H:=upd H7 t2 (.tup ((Bs.map (·.st)).map V.int))) (a:=y2) (o:=.tup [.ref t2,.int c]));have hb2:=Same.upd (o:=.tup [.ref t2,.int c]) hy2 _ _ (Jjq (H:=H7) (a:=t2) (o:=.tup ((Bs.map (·.st)).map V.int)));generalize upd (upd H7 t2 (.tup ((Bs.map (·.st)).map V.int))) y2 (.tup [.ref t2,.int c])=H9 at q9 hb1 hb2;have s9:=s7.trans q9;have kp9:=(kp6.same q7).same q9;have hl9:=((hl3.same q4).same q6).same (q7.trans q9);have hD9:=(q4.trans (q6.trans (q7.trans q9))) _ _ hD3;have ht99:=q9 _ _ ht9;have hu99:=q9 _ _ hu9;have hV9:=q9 _ _ hV7;have c9:But p H H9:=(But.refl st).same s9;exact hR _ _ ⟨f,d,D,V1,t9,u9,y2,t2,qs,_,_,_,_,_,rfl,c9,nD,nV,kp9,hl9,hD9,ht99,hu99,hV9,hb1,hb2⟩
  rintro σ H9 ⟨f,d,D,V1,t9,u9,y2,t2,qs,o11,o12,o13,o14,o15,rfl,c9,nD,nV,kp9,hl9,hD9,ht99,hu99,hV9,hb1,hb2⟩;have hql:=hl9.1;refine ⟨_,rfl,16,rfl,by decide,by decide,?_⟩;refine Jmy (lo:=0) (λi σ H'=>∃(V':Addr) (wet:Int) (ls:List Int) (o11 o12 o13 o14 o15:Option V),σ= [some (.ref r),some (.ref L),some (.ref N),some (.ref p),some (.int 16),some (.ref f),some (.ref D),some (.ref V'),some (.int wet),some (.ref t9),some (.ref y2),o11,o12,o13,o14,o15]/\But p H9 H'/\V'≠p/\H' V'=some (.lst (ls.map V.int))/\LvG Bs ls/\Jo9 Bs ns ls=true/\(0<=wet/\wet<=c)) ⟨V1,c,_,_,_,_,_,_,rfl,But.refl c9.2,nV,hV9,lv0,hd0,by omega,Int.le_refl _⟩ ?_ ?_
  ·rintro i σ H' hi ⟨V',wet,ls,o11,o12,o13,o14,o15,rfl,cc,nV',hV',lv,hd,hw⟩;have cH:=c9.trans cc;have kpc:=kp9.but c9.2 cc;have rvc:=rv.but st cH;refine ⟨f,rfl,_,rfl,V',_,rfl,.inl ⟨SqL.of hV',λt1 ht1=>?_⟩⟩;have q5:=Same.upd (o:=.tup (ls.map V.int)) ht1;refine ⟨_,rfl,(show 2<=sizeLine by decide),λy1 hy1=>?_⟩;have q6:=q5.trans (Same.upd (o:=.tup [.ref t1,.int wet]) hy1);have kpd:=kpc.same q6;refine ⟨_,rfl,[.ref d,.ref r],kpd.2,d,r,y1,t1,_,Bs,c,g,wet,ns,ls,rfl,rfl,rvc.same q6,rg,kpd.1,Jjq,Same.upd hy1 _ _ Jjq,lv,hw,hd,λtc uc H2 q7 htc huc=>?_⟩;have s2:=q6.trans q7;have cH2:=cH.same s2;have sg:StG Bs (Jkr Bs ns ls):=(Jth rg ng lv hd (rs:=Bs.map λ_=>0) ⟨yf ..,λi B r hB hr=>by
    rw [ym,hB] at hr;cases hr;have:=(rg.all B (yaa hB)).b.rn;exact ⟨Int.le_refl _,this.1⟩⟩).1
   refine ⟨_,rfl,_,rfl,tc,uc,L,ts,Bs,Jkr Bs ns ls,rfl,htc,huc,cH2.1 _ _ nLp hL,(td.but st cH2).s,rg,sg,λH3 q8=>?_⟩;refine ⟨_,rfl,Jkt ?_⟩;have s3:=s2.trans q8;have cH3:=cH2.same q8;obtain ⟨dx3,b3,t3,os3,hr3,_,_⟩:=rv.but st cH3;refine ⟨_,rfl,_,rfl,r,_,dx3,_,_,rfl,hr3,T.Jdq,T.Jea,rfl,_,rfl,r,_,dx3,_,_,rfl,hr3,T.Jdq,T.Jeb,rfl,_,rfl,_,rfl,L,p,c,g,wet,ts,Bs,rfl,cH3.2,nLp,cH3.1 _ _ nLp hL,td.but st cH3,rg,⟨hw.1,by omega⟩,cg.2.1,λR rs H4 b4 hR0 hR rn rsum=>?_⟩;have nR:R≠p:=cH3.2.ne hR0;have cH4:=cH3.trans b4;have htc4:=b4.1 _ _ (Jne cH3.2 (q8 _ _ htc) (λ_ _ _ z=>by cases z)) (q8 _ _ htc);have huc4:=b4.1 _ _ (Jne cH3.2 (q8 _ _ huc) (λ_ _ _ z=>by cases z)) (q8 _ _ huc);have hV4':=b4.1 _ _ nV' (s3 _ _ hV');refine ⟨_,rfl,_,rfl,_,rfl,tc,_,0,_,rfl,rfl,SqT.of htc4,rfl,_,rfl,L,V',uc,R,ts,Bs,ls,_,rs,rfl,cH4.1 _ _ nLp hL,(td.but st cH4).s,rg,hV4',lv,huc4,sg,hR,rn.1,λtt Aa Oo H5 q9 hA0 htt hA hO=>?_⟩;refine ⟨tt,_,rfl,SqT.of htt,rfl,_,_,rfl,_,_,rfl,rfl,?_⟩;obtain ⟨_,outs,lv',hd'⟩:=Jth rg ng lv hd rn;have all:=Yci (ss:=Jkr Bs ns ls) l16.1 lv.1 rn.1;have cH5:=cH4.same q9;have hV5:=q9 _ _ hV4';have hR5:=q9 _ _ hR;have sm1:∀{xs:List Int},LvG Bs xs->Sml xs:=λ{xs} h=>⟨by have:=h.1;omega,λn hn=>by
    obtain ⟨j,hj,rfl⟩:=List.mem_iff_getElem.mp hn;have hB:Bs[j]?=some (Bs[j]'(by have:=h.1;omega)):=yn _;have b1:=h.2 j _ _ hB (yn hj);have tg:=(rg.all _ (yaa hB)).b;have b2:=tg.lo;have b3:=tg.hi;omega⟩
   have sm2:Sml rs:=Jw2 (wet:=wet) rg ⟨rn.2,Ybn rn,rsum⟩ (by have:=rn.1;omega);have ol:(Jmg Bs (Jkr Bs ns ls) ls).length=Bs.length:=by unfold Jmg;rw [yf,yau]
   have oat:∀i,i < Bs.length->(Jmg Bs (Jkr Bs ns ls) ls)[i]?=some (Jnq Bs (Jkr Bs ns ls) ls i):=λi hi=>by
    unfold Jmg;rw [ym,ycq hi];rfl
   have last:atI ((Jmg Bs (Jkr Bs ns ls) ls).map V.int) (-1)=some (.int (Jnq Bs (Jkr Bs ns ls) ls (Bs.length - 1))):=Ym l16.1;refine ⟨_,rfl,V',ls,rfl,.inl (SqL.of hV5),sm1 lv,_,rfl,R,rs,rfl,.inl (SqL.of hR5),sm2,_,_,rfl,rfl,_,rfl,Aa,_,rfl,.inl (SqL.of hA),sm1 lv',?_⟩;refine ⟨_,rfl,_,rfl,Oo,_,-1,_,rfl,rfl,SqL.of hO,last,_,_,rfl,rfl,rfl,_,rfl,ifF ?_ ?_⟩
   ·simp [all]
   refine ⟨_,rfl,L,_,rfl,.inl (SqL.of (cH5.1 _ _ nLp hL)),_,rfl,by rw [yf];omega,by rw [yf];omega,λD1 hD1=>?_⟩;refine Jm3 (lo:=0) (λj σ H9=>(∃o,σ= [o,some (.ref Oo),some (.ref N)])/\Same H5 H9/\H9 D1=some (.lst [])) ⟨⟨_,rfl⟩,Same.upd hD1,Jjq⟩ ?_ ?_
   ·rintro j σ H9 hj ⟨⟨o1,rfl⟩,s9',hD9'⟩;have hj2:j < Bs.length:=by
     have:j < ts.length:=by simpa using hj
     omega
    have zj:(0+(j:Int))=j:=by omega
    rw [zj];have no:=outs j hj2;have a1:atI ((Jmg Bs (Jkr Bs ns ls) ls).map V.int) (j:Int)=some (.int (Jnq Bs (Jkr Bs ns ls) ls j)):=Jl8 (by rw [ym,oat j hj2];rfl);have a2:atI (ns.map V.int) (j:Int)=some (.int (ns.getD j 0)):=Jl8 (by rw [ym,Jnt (by omega)];rfl);refine ⟨_,rfl,_,rfl,Oo,_,(j:Int),_,rfl,rfl,SqL.of (s9' _ _ hO),a1,_,rfl,_,rfl,N,_,(j:Int),_,rfl,rfl,SqL.of (s9' _ _ (cH5.1 _ _ nNp hN)),a2,_,_,rfl,rfl,_,rfl,?_⟩;exact ifF (decide_eq_false (by omega)) ⟨⟨_,rfl⟩,s9',hD9'⟩
   rintro σ6 H6 ⟨_,s6,hD6⟩;refine ⟨(show 0<=sizeLine by decide),λE1 hE1=>⟨_,_,.lst (SqL.of (Same.upd hE1 _ _ hD6)) .nil,.lst (SqL.of Jjq) .nil,rfl,rfl,_,rfl,?_⟩⟩;have s6E:=s6.trans (Same.upd (o:=.lst []) hE1);rw [if_pos rfl];refine Jkt ?_;have cH6:=cH5.same s6E;generalize upd H6 E1 (.lst [])=H6' at s6E cH6;refine ⟨_,rfl,L,_,rfl,.inl (SqL.of (cH6.1 _ _ nLp hL)),_,rfl,by rw [yf];omega,by rw [yf];omega,λD2 hD2=>?_⟩;have c96:But p H9 H6':=(((cc.same s3).trans b4).same q9).same s6E;have hl6:=hl9.but c96;have hA6:=s6E _ _ hA;have hDq:=c96.1 _ _ nD hD9;refine Jm3 (lo:=0) (λj σ H9=>(∃o,σ= [o,some (.ref Aa),some (.ref D)])/\Same H6' H9/\H9 D2=some (.lst [])) ⟨⟨_,rfl⟩,Same.upd hD2,Jjq⟩ ?_ ?_
   ·rintro j σ H10 hj ⟨⟨o1,rfl⟩,s9',hD9'⟩;have hj2:j < Bs.length:=by
     have:j < ts.length:=by simpa using hj
     omega
    have zj:(0+(j:Int))=j:=by omega
    rw [zj];have hB:=yn hj2;have hq:=yn (l:=qs) (i:=j) (by omega);have hq2:=(hl6.2 j _ _ hB hq).2;have ll':=lv'.1;have a1:atI ((Jno Bs (Jkr Bs ns ls) ls rs).map V.int) (j:Int)=some (.int ((Jno Bs (Jkr Bs ns ls) ls rs).getD j 0)):=Jl8 (by rw [ym,Jnt (by omega)];rfl);have a2:atI (qs.map V.ref) (j:Int)=some (.ref (qs[j]'(by omega))):=Jl8 (by rw [ym,hq];rfl);refine ⟨_,rfl,_,rfl,Aa,_,(j:Int),_,rfl,rfl,SqL.of (s9' _ _ hA6),a1,_,rfl,_,rfl,D,_,(j:Int),_,rfl,rfl,SqL.of (s9' _ _ hDq),a2,?_⟩;have inh:=Yd6 (lv'.2 j _ _ hB (Jnt (by omega))) (Js5 hd' hB);refine ⟨qs[j]'(by omega),_,rfl,.inl (SqL.of (s9' _ _ hq2)),rfl,?_,_,rfl,?_⟩
    ·rw [List.all_map];exact yar.mpr λ_ _=>rfl
    ·rw [if_pos rfl,inh];exact Jkt ⟨⟨_,rfl⟩,s9',hD9'⟩
   rintro σ7 H7' ⟨_,s7',hD7⟩;refine ⟨(show 0<=sizeLine by decide),λE1 hE1=>⟨_,_,.lst (SqL.of (Same.upd hE1 _ _ hD7)) .nil,.lst (SqL.of Jjq) .nil,rfl,rfl,_,rfl,?_⟩⟩;have s7E:=s7'.trans (Same.upd (o:=.lst []) hE1);rw [if_pos rfl];refine Jkt ?_;have cH7:=cH6.same s7E;generalize upd H7' E1 (.lst [])=H8' at s7E cH7;have hA7:=s7E _ _ hA6;have td7:=td.but st cH7;have hL7:=cH7.1 _ _ nLp hL;have ll':=lv'.1;refine ⟨_,rfl,_,rfl,L,Aa,rfl,⟨_,SqL.of hL7⟩,⟨_,SqL.of hA7⟩,λD3 hD3'=>?_⟩;refine Jui (K:=K) (l1:=L) (l2:=Aa) (b1:=false) (b2:=false) (xs:=ts.map V.ref) (ys:=(Jno Bs (Jkr Bs ns ls) ls rs).map V.int) (D:=D3) (λi σ H'=>(∃o1 o2,σ= [o1,o2])/\Same H8' H'/\H' D3=some (.lst [])) ⟨⟨_,_,rfl⟩,Same.upd hD3',Jjq⟩ (λi σ H' _ ⟨_,sm,_⟩=>⟨SqL.of (sm _ _ hL7),SqL.of (sm _ _ hA7)⟩) (by simp;omega) ?_ ?_
   ·rintro j x y σ H10 T1 hx hy ⟨⟨o1,o2,rfl⟩,sm,hD9'⟩ hT;rw [ym] at hx hy;obtain ⟨t',ht',rfl⟩:=yx.mp hx;obtain ⟨l,hl,rfl⟩:=yx.mp hy;obtain ⟨B,hB,m,_,tB⟩:=Jkn td7 ht';have bl:=lv'.2 j B l hB hl;have sT:=Same.upd (o:=.tup [.ref t', .int l]) hT;have tB':=sT _ _ (sm _ _ tB.1);refine ⟨T1,_,rfl,SqT.of Jjq,rfl,_,_,rfl,_,_,rfl,rfl,?_⟩;refine ⟨_,rfl,t',_,1,_,rfl,rfl,SqT.of tB',rfl,_,rfl,_,_,rfl,rfl,_,rfl,ifT (decide_eq_true bl.1) ?_⟩;refine ⟨_,rfl,t',_,2,_,rfl,rfl,SqT.of tB',rfl,_,_,rfl,rfl,_,rfl,?_⟩;rw [decide_eq_true bl.2];exact Jkt ⟨⟨_,_,rfl⟩,sm.trans sT,sT _ _ hD9'⟩
   rintro σ8 H10 ⟨_,s8',hD8⟩;refine ⟨(show 0<=sizeLine by decide),λE1 hE1=>⟨_,_,.lst (SqL.of (Same.upd hE1 _ _ hD8)) .nil,.lst (SqL.of Jjq) .nil,rfl,rfl,_,rfl,?_⟩⟩;have s8E:=s8'.trans (Same.upd (o:=.lst []) hE1);rw [if_pos rfl];refine Jkt ?_;have cH8:=cH7.same s8E;have c98:=(c96.same s7E).same s8E;have hA8:=s8E _ _ hA7;have hR8:=s8E _ _ (s7E _ _ (s6E _ _ hR5));obtain ⟨dx8,b8,t8,os8,hr8,_,_⟩:=rv.but st cH8;have nA:Aa≠p:=cH4.2.ne hA0;have rp:=Ybn rn;generalize upd H10 E1 (.lst [])=H11 at cH8 c98 hA8 hR8 hr8 s8E;refine ⟨_,rfl,_,rfl,r,_,dx8,_,_,rfl,hr8,T.Jdq,T.Jea,rfl,_,rfl,_,rfl,R,rs,rfl,.inl (SqL.of hR8),sm2,_,_,rfl,rfl,_,rfl,r,_,dx8,_,_,rfl,hr8,T.Jdq,T.Jeb,rfl,_,_,rfl,rfl,_,_,rfl,?_⟩;refine ⟨Aa,_,_,_,_,_,_,_,rfl,c98,nA,hA8,lv',hd',?_⟩;split <;> omega
  ·rintro σ H' ⟨V',wet,ls,o11,o12,o13,o14,o15,rfl,cc,nV',hV',lv,hd,hw⟩;have kpc:=kp9.but c9.2 cc;have cH:=c9.trans cc;have keep:∀q xs,H9 q=some (.tup xs)->H' q=some (.tup xs):=λq xs h=>cc.1 _ _ (Jne c9.2 h (λ_ _ _ z=>by cases z)) h;refine ⟨f,rfl,_,rfl,[.ref d,.ref r],kpc.2,d,r,y2,t2,_,Bs,c,g,c,ns,_,rfl,rfl,rv.but st cH,rg,kpc.1,keep _ _ hb1,keep _ _ hb2,lv0,⟨by omega,Int.le_refl _⟩,hd0,λtc uc H2 q7 htc huc=>?_⟩;have f1:=q7 _ _ (keep _ _ ht99);have f2:=q7 _ _ (keep _ _ hu99);have cE:=cH.same q7;refine ⟨_,rfl,_,_,.tup (SqT.of htc) (.cons (.tup (SqT.of huc) (Jwn _)) (.cons .non .nil)),.tup (SqT.of f1) (.cons (.tup (SqT.of f2) (Jwn _)) (.cons .non .nil)),Jtd _,Jtd _,?_⟩;rw [if_neg yab,Yd0];exact k _ cE
theorem BX.put {a:Ad} {H:Hp} {o D:Addr} {B:BTd} {xs:List V} {u:HO} (hD:H D=some (.lst xs)) (h:BX a H o B):BX a (upd H D u) o B:=by
 obtain ⟨dx,g,h1,g0,⟨dy,t,h3,h4⟩,h5⟩:=h;have n:∀{b:Addr} {v:HO},H b=some v->(∀ys,v≠ .lst ys)->(upd H D u) b=some v:=λe ne=>by
  rw [Jjx λz=>?_]
  ·exact e
  ·rw [z,hD] at e;exact ne _ (yae.inj e).symm
 exact ⟨dx,g,n h1 (λ_ z=>by cases z),g0,⟨dy,t,n h3 (λ_ z=>by cases z),n h4 (λ_ z=>by cases z)⟩,h5⟩
theorem bas_of {K:W.Frag} {a:Ad} {H:Hp} {os:List Addr} {Bs:List BTd} (h:Paired (λo B=>BX a H o B) os Bs):(∀B∈Bs,TGd B)->∃Cs:List Bsn,BasL K a H os Cs/\Cs.map (·.z)=Bs.map (·.z)/\Cs.length=Bs.length:=by
 induction h with
 |nil=>intro _;exact ⟨[],trivial,rfl,rfl⟩
 | @cons o B os Bs h t ih=>
  intro tg;obtain ⟨Cs,c1,c2,c3⟩:=ih λB' hB'=>tg B' (yaf _ hB');obtain ⟨dx,g,h1,gx⟩:=h;exact ⟨⟨B.z,B.lo,B.hi,B.st,B.rn,g,nOf B.G⟩::Cs,⟨⟨dx,h1,gx.gs (tg B (yal ..)).b.G⟩,c1⟩,by simp [c2],by simp [c3]⟩
theorem Ycg {a:Ad} {H:Hp} {x dx M:Addr} {z b:Str} {wt u:Int} (hx:H x=some (.ins a.Jjj dx (twnF (.str z) (.str b) (.int wt)))) (hM:H M=some (.lst (Jmf [.ref x] none (some u)))) (u0:0<=u) (u1:u < 2):∃(ws:List Addr) (Ts:List Twn),H M=some (.lst (ws.map V.ref))/\TwnL a H ws Ts/\Ts.length<=3/\(Ts.map (·.z)).Nodup/\∀t∈Ts,t.b=b:=by
 rcases (show u=0\/u=1 by omega) with rfl|rfl
 ·exact ⟨[],[],hM,trivial,by decide,ybl,λt h=>nomatch h⟩
 ·exact ⟨[x],[⟨z,b,wt⟩],hM,⟨⟨dx,hx⟩,trivial⟩,by simp,by simp,λt h=>by rw [ybq.mp h]⟩
noncomputable def spLaw (K:W.Frag) (a:Ad):Sp:=λvs H Q _=>∃(x:Addr) (ns:List Int),vs= [.ref x]/\SqL K H x (ns.map V.int)/\ns.length<=63/\H a.Jjm=some (.tbl lb_lost_alone)/\H a.Jjo=some (.tbl lb_local_keeper)/\∀H',Q (.bl true) H'
theorem sc_law:Jk0 ["_law_script","_law_k","_law_stream_here","_law_told","_law_cloud","_law_towns","_law_river_here","_law_numbers"] ["_law_script"] (Jju (top 87)):=%[|0]
theorem ok_law (T:Tx K mg a) (B:Bmn mg base):FnOk P w K mg base CX0 12 a.a_law a.d_law ["_law_script"] (spLaw K a):=by
 have G__law_cell:=%[Jwz|1];have G__law_stream:=%[Jtz|1];have G__law_take:=%[Jlr|1];have G__law_river:=%[Jvv|1];have G__law_made:=%[Jx3|1];have G_River___init__:=%[Jtt|1];have G_Town___init__:=%[Jvq|1];have G__law_promised:=Js2 (P:=P) (w:=w) T B;have G__law_no_keeper:=Jrd (P:=P) (w:=w) T B;have G__law_run_right:=Jre (P:=P) (w:=w) T B;refine %[T.f_law.fn.ok,sc_law|2]
 ·obtain ⟨x,ns,rfl,_⟩:=h;rfl
 ·obtain ⟨x,ns,rfl,hS,hl,htb,htk,k⟩:=h;refine ⟨?t,?B,?C⟩
  case B=>
   refine' Jjs ?s1 ?r1
   case s1=>
    refine' Jmn ?f2_0 ?f2_1 ?f2_2 ?f2_3 ?f2_4
    case f2_0=>
     exact PassesOwn.never
    case f2_1=>
     exact rfl
    case f2_2=>
     exact (Jl6 (by rfl) T.Jaz (Jjp (Jjz (Jmh rfl) (by rfl) T.Jax Jpt (Jjp Jjv (Jjp (Jjz (Jm5 rfl) (by rfl) T.Jay Jo7 (Jjp Jjv (Jjp (Jjz Jk4 (by rfl) T.Jav Jkw (Jjp (pv 0) Jjr)) Jjr))) Jjr))) Jjr))
    case f2_3=>
     exact (Jk2 (i:=1) sc_law.nd rfl (ye rfl))
    case f2_4=>
     refine' Jjs ?s3 ?r3
     case s3=>
      exact (Jk5 (i:=2) sc_law.nd rfl (ye rfl) (Jjw T.Jw G__law_stream hr (by decide) (Jjp (Jjw T.Jv G__law_cell hr (by decide) (Jjp (pv 0) (Jjp (pv 1) Jjr))) Jjr)))
     case r3=>
      refine' Jjs ?s5 ?r5
      case s5=>
       exact (Jk5 (i:=3) sc_law.nd rfl (ye rfl) (Jjw T.Ja4 G__law_river hr (by decide) (Jjp (pv 2) Jjr)))
      case r5=>
       refine' Jjs ?s7 ?r7
       case s7=>
        exact (Jk5 (i:=4) sc_law.nd rfl (ye rfl) (Jjw T.Jx G__law_take hr (by decide) (Jjp (pv 2) (Jjp Jjv Jjr))))
       case r7=>
        refine' Jjs ?s9 ?r9
        case s9=>
         exact (Jk5 (i:=5) sc_law.nd rfl (ye rfl) (Jor Jqv (Jl4 (Jjp (Jp6 T.Jdp G_Town___init__.calm (hr.mono (by decide)) (by rfl) T.Jbk T.Jcp.bd .nil Jql (Jjp Jlw (Jjp (Jk9 Jku (Jk9 Jki (pv 3) Jjv (λ_ _=>rfl)) Jjv (λ_ _=>rfl)) (Jjp (Jk7 Jkk Jjv (Jjw T.Jx G__law_take hr (by decide) (Jjp (pv 2) (Jjp Jjv Jjr)))) Jjr)))) Jjr)) Jqn (Jqo (Jjw T.Jx G__law_take hr (by decide) (Jjp (pv 2) (Jjp Jjv Jjr))))))
        case r9=>
         refine' Jjs ?s11 ?r11
         case s11=>
          exact (Jk5 (i:=6) sc_law.nd rfl (ye rfl) (Jp6 T.Jdr G_River___init__.calm (hr.mono (by decide)) (by rfl) T.Jbl T.Jcq.bd .nil Jql (pa4 (pv 4) (Jjw T.Jx G__law_take hr (by decide) (Jjp (pv 2) (Jjp (Jk7 Jkk (pv 4) Jjv) Jjr))) (Jkl (N:=(["_law_one"]:List Str)) (ini:=[none]) rfl (Jld (pv 3)) (λ_ _ _ _ _=>(Jk2 (i:=0) (by decide +kernel:(["_law_one"]:List Str).Nodup) rfl (ye rfl))) (λ_ _ _ _ _=>Jkp) (λ_ _ _ _ _=>(Jjw T.Ja1 G__law_made hr (by decide) (Jjp (pv 0) Jjr)))) (pv 5))))
         case r11=>
          refine' Jjs ?s13 ?r13
          case s13=>
           exact (Jk5 (i:=7) sc_law.nd rfl (ye rfl) (Jjw T.Ja5 G__law_promised hr (by decide) (Jjp (pv 6) (Jjp (pv 3) (Jjp (pv 2) Jjr)))))
          case r13=>
           refine' Jjt ?s15
           case s15=>
            refine' Jkd ?c16 ?a16 ?b16
            case c16=>
             exact (Jke Jrh (pv 7) Jls (Jkg _))
            case a16=>
             refine' Jjt ?s17
             case s17=>
              refine' Jkd ?c18 ?a18 ?b18
              case c18=>
               exact (Jkh (Jkf (Jjw T.Jab G__law_no_keeper hr (by decide) (Jjp (pv 6) (Jjp (Jjz Jk4 (by rfl) T.Jav Jkw (Jjp (pv 3) Jjr)) Jjr)))))
              case a18=>
               refine' Jjt ?s19
               case s19=>
                exact (Jk1 Jlg)
              case b18=>
               exact Jk3
            case b16=>
             refine' Jjs ?s23 ?r23
             case s23=>
              exact (Jk5 (i:=2) sc_law.nd rfl (ye rfl) (Jjw T.Jw G__law_stream hr (by decide) (Jjp (Jjw T.Jv G__law_cell hr (by decide) (Jjp (pv 0) (Jjp (Jk7 Jkk (pv 1) Jjv) Jjr))) Jjr)))
             case r23=>
              refine' Jjt ?s25
              case s25=>
               refine' Jkd ?c26 ?a26 ?b26
               case c26=>
                exact (Jkh (Jkf (Jjw T.Jaa G__law_run_right hr (by decide) (pa5 (pv 6) (pv 3) (pv 7) (pv 2) Jjv))))
               case a26=>
                refine' Jjt ?s27
                case s27=>
                 exact (Jk1 Jlg)
               case b26=>
                exact Jk3
   case r1=>
    refine' Jjt ?s31
    case s31=>
     exact (Jk1 Jlg)
  refine ⟨_,rfl,x,_,rfl,.inl hS,_,_,rfl,_,_,rfl,_,rfl,?_,?_,?_⟩
  ·split <;> split <;> omega
  ·rw [yf];split <;> split <;> omega
  refine Jmy (lo:=0) (λi σ H'=>(∃o1 o2 o3 o4 o5 o6 o7,σ= [some (.ref x),o1,o2,o3,o4,o5,o6,o7])/\Same H H') ⟨⟨_,_,_,_,_,_,_,rfl⟩,Same.refl _⟩ ?_ ?_
  ·rintro i σ H0 _ ⟨⟨o1,o2,o3,o4,o5,o6,o7,rfl⟩,s0⟩;refine ⟨_,rfl,_,rfl,x,ns,0+i,by simp,s0.seq hS,λcl=>⟨cl,rfl,λp H1 hp s1 st=>?_⟩⟩;have hp0:H p=none:=by
    cases hc:H p with
    |none=>rfl
    |some u=>rw [s0 _ _ hc] at hp;cases hp
   have done:∀{H':Hp},But p H1 H'->Same H H':=λb c o z=>b.1 _ _ (Jjy z hp0) (s1 _ _ (s0 _ _ z));refine ⟨_,rfl,p,rfl,st,λL ts Bs H2 b2 hL0 hL tl rg nz=>?_⟩;have nL:L≠p:=st.ne hL0;have lts:=Paired.length tl;have l16:=rg.len;refine ⟨_,rfl,p,13,rfl,b2.2,by decide,by decide,λc H3 c0 c1 b3=>?_⟩;have d3:=b2.trans b3;have hL3:=b3.1 _ _ nL hL;have tl3:=tl.but b2.2 b3;obtain ⟨t0,ht0⟩:∃t0,ts[0]?=some t0:=⟨_,yn (by omega)⟩;obtain ⟨B0,hB0,m0,_,tB0⟩:=Jkn tl3 ht0;have mB0:=yaa hB0;have tg0:=rg.all B0 mB0;have at0:atI (ts.map V.ref) 0=some (.ref t0):=Jl8 (j:=0) (by rw [ym,ht0];rfl);refine ⟨_,rfl,L,_,0,_,rfl,rfl,SqL.of hL3,at0,t0,_,0,_,rfl,rfl,SqT.of tB0.1,rfl,_,rfl,p,6,rfl,d3.2,by decide,by decide,λk6 H4 k60 k61 b4=>⟨_,_,rfl,rfl,λx0 dx0 hx0 hd0 ne0=>?_⟩⟩;have d4:=d3.trans b4;have sn0:Same H4 (upd (upd H4 dx0 (.own x0)) x0 (.ins a.Jjj dx0 [])):=λb o e=>by rw [Jjx (Jjy e hx0),Jjx (Jjy e hd0)];exact e
   refine ⟨x0,dx0,.str ("a" :Str),.str B0.z,.int (1+k6),none,rfl,Jjq,⟨.inr ⟨_,.of (.str ("a" :Str)),rfl⟩,λy e=>by cases e;exact ⟨by decide +kernel,by decide +kernel⟩⟩,⟨.inr ⟨_,.of (.str B0.z),rfl⟩,λy e=>by cases e;exact tg0.wd⟩,.inl ⟨_,rfl⟩,.good (by decide +kernel) tg0.nm (Jm0 (by omega) (by omega)),λH5 s5=>⟨rfl,?_⟩⟩;have s6:Same H4 (upd H5 x0 (.ins a.Jjj dx0 (twnF (.str ("a" :Str)) (.str B0.z) (.int (1+k6))))):=λb o e=>by rw [Jjx (Jjy e hx0)];exact s5 _ _ (sn0 _ _ e)
   have hx6:(upd H5 x0 (.ins a.Jjj dx0 (twnF (.str ("a" :Str)) (.str B0.z) (.int (1+k6))))) x0=some (.ins a.Jjj dx0 (twnF (.str ("a" :Str)) (.str B0.z) (.int (1+k6)))):=Jjq;generalize upd H5 x0 (.ins a.Jjj dx0 (twnF (.str ("a" :Str)) (.str B0.z) (.int (1+k6))))=H6 at s6 hx6⊢;refine ⟨(show 1<=sizeLine by decide),λM0 hM0=>?_⟩;have s7:=Same.upd (o:=.lst [.ref x0]) hM0;have hM07:(upd H6 M0 (.lst [.ref x0])) M0=some (.lst [.ref x0]):=Jjq;generalize upd H6 M0 (.lst [.ref x0])=H7 at s7 hM07⊢;have d6:=d4.same s6;have d7:=d6.same s7;have nM0:M0≠p:=d6.2.ne hM0;have nx0:x0≠p:=d4.2.ne hx0;refine ⟨_,rfl,p,2,rfl,d7.2,by decide,by decide,λu H8 u0 u1 b8=>⟨_,rfl,M0,[.ref x0],rfl,SqL.of (b8.1 _ _ nM0 hM07),λM hM=>?_⟩⟩;have d8:=d7.trans b8;have nM:M≠p:=d8.2.ne hM;have s9:=Same.upd (o:=.lst (Jmf [.ref x0] none (some u))) hM;have hM9:(upd H8 M (.lst (Jmf [.ref x0] none (some u)))) M=some (.lst (Jmf [.ref x0] none (some u))):=Jjq;generalize upd H8 M (.lst (Jmf [.ref x0] none (some u)))=H9 at s9 hM9⊢;have d9:=d8.same s9;refine ⟨_,rfl,_,rfl,_,rfl,_,_,rfl,rfl,p,c+1,rfl,d9.2,by omega,Jrr (by omega) (by omega),λg H10 g0 g1 b10=>?_⟩;have d10:=d9.trans b10;have c310:But p H3 H10:=((((b4.same s6).same s7).trans b8).same s9).trans b10;have hL10:=c310.1 _ _ nL hL3;have tl10:=tl3.but d3.2 c310;have hx10:=b10.1 _ _ nx0 (s9 _ _ (b8.1 _ _ nx0 (s7 _ _ hx6)));have hM10:=b10.1 _ _ nM hM9;obtain ⟨ws,Ts,hMw,tw,tn,tnd,tb0⟩:=Ycg hx10 hM10 u0 u1;refine ⟨_,rfl,L,rfl,⟨_,SqL.of hL10⟩,λD hD=>?_⟩;refine Jlf (K:=K) (xs:=ts.map V.ref) (λj σ H'=>(∃o,σ= [o])/\Same H10 H'/\∃os:List Addr,H' D=some (.lst (os.map V.ref))/\Paired (λo B=>BX a H' o B) os (Bs.take j)) ⟨⟨_,rfl⟩,Same.upd hD,[],Jjq,.nil⟩ (λj σ H' _ ⟨_,sm,_⟩=>SqL.of (sm _ _ hL10)) ?_ ?_
   ·rintro j y σ H' hy ⟨⟨o,rfl⟩,sm,os,hDs,po⟩;rw [ym] at hy;obtain ⟨t,ht,rfl⟩:=yx.mp hy;obtain ⟨C,hC,tC⟩:=Jkn tl10.s ht;have jl:j < Bs.length:=(yq.mp hC).1;have tg:=rg.all C (yaa hC);refine Jl1 ⟨_,rfl,t,C,rfl,tC.same sm,tg,λob H5 s5 bx=>?_⟩;have hD5:=s5 _ _ hDs;have ol:os.length=j:=by
     have:=Paired.length po;rw [yaj] at this;omega
    refine ⟨_,hD5,?_,⟨_,rfl⟩,?_,os++ [ob],?_,?_⟩
    ·rw [yf];exact Jkc (by omega)
    ·intro c2 o' z;rw [Jjx (Jjy z hD)];exact s5 _ _ (sm _ _ z)
    ·rw [Jjq,yz];rfl
    ·rw [yao,hC];exact Paired.snoc (Paired.mapP po λ_ _ q=>(q.same s5).put hD5) (bx.put hD5)
   rintro σ4 H11 ⟨_,s11,os,hDs,po⟩;rw [yf,yak (by omega)] at po;refine ⟨_,rfl,?_⟩;intro y dy hy hdy ne;have sn:Same H11 (upd (upd H11 dy (.own y)) y (.ins a.Jjk dy [])):=λb o e=>by rw [Jjx (Jjy e hy),Jjx (Jjy e hdy)];exact e
   obtain ⟨Cs,bl,cz,cl'⟩:=bas_of (K:=K) (Paired.mapP po λ_ _ q=>q.same sn) rg.all;have s1n:=s11.trans sn;refine ⟨y,dy,D,M,c,g,os,ws,Cs,Ts,rfl,Jjq,⟨c0,by omega⟩,⟨g0,by omega⟩,sn _ _ hDs,bl,by omega,by rw [cz];exact nz,s1n _ _ hMw,tw.same s1n,tn,tnd,λt h=>?_,λH12 b t s12 hb ht nb nt=>⟨rfl,?_⟩⟩
   ·rw [tb0 t h,cz];exact List.mem_map_of_mem mB0
   have s13:Same H11 (upd H12 y (.ins a.Jjk dy (Yt (.int c) (.int g) (.ref b) (.ref t)))):=λd o e=>by
    rw [Jjx (Jjy e hy)];exact s12 _ _ (sn _ _ e)
   have rv:RivAt a (upd H12 y (.ins a.Jjk dy (Yt (.int c) (.int g) (.ref b) (.ref t)))) y Bs c g:=⟨dy,b,t,os,Jjq,by rw [Jjx nb];exact hb,Paired.mapP po λ_ _ q=>q.same s13⟩;generalize upd H12 y (.ins a.Jjk dy (Yt (.int c) (.int g) (.ref b) (.ref t)))=H13 at s13 rv⊢;have s1013:=s11.trans s13;have d13:=d10.same s1013;have hL13:=s1013 _ _ hL10;have tl13:=tl10.same s1013;have s013:=done d13;refine ⟨_,rfl,_,rfl,_,rfl,y,L,p,ts,Bs,c,g,rfl,s013 _ _ htb,rv,rg,d13.2,nL,hL13,lts,λacc k1 e H14 s14=>?_,λnb N H14 ng ap b14 hN0 hN=>?_⟩
   ·refine ⟨_,rfl,rfl,_,rfl,Jm7 ?_⟩;have s014:=s013.trans s14;refine ⟨_,rfl,_,rfl,L,_,rfl,.inl (SqL.of (s14 _ _ hL13)),y,Bs,c,g,acc,k1,by rw [yf,lts];rfl,s014 _ _ htb,s014 _ _ htk,rv.same s14,rg,e,λH15 s15=>⟨_,rfl,Jkt ⟨⟨_,_,_,_,_,_,_,rfl⟩,s014.trans s15⟩⟩⟩
   ·refine ⟨_,rfl,rfl,_,rfl,Jkt ?_⟩;have d14:=d13.trans b14;have s014:=done d14;refine ⟨_,rfl,_,rfl,_,_,rfl,rfl,x,ns,0+i+4,by simp,s014.seq hS,λcl2=>⟨cl2,rfl,λp2 H15 hp2 s15 st2=>?_⟩⟩;have s015:=s014.trans s15;have hL14:=b14.1 _ _ nL hL13;have nN:N≠p:=d13.2.ne hN0;have rv14:=rv.but d13.2 b14;have tl14:=tl13.but d13.2 b14;have tl15:TldL p2 H15 ts Bs:=Paired.mapP tl14 λt B ⟨m,n,q⟩=>⟨m,Jjy q.2.1 hp2,q.same s15⟩;have hp20:∀d o,H d=some o->d≠p2:=λd o z=>Jjy (s014 _ _ z) hp2;refine ⟨_,rfl,_,rfl,_,rfl,_,rfl,y,L,N,p2,ts,Bs,c,g,nb,rfl,s015 _ _ htb,s015 _ _ htk,rv14.same s15,rg,⟨g0,by omega,by omega⟩,st2,Jjy hL14 hp2,Jjy hN hp2,s15 _ _ hL14,tl15,s15 _ _ hN,ng,ap,λH16 b16=>⟨_,rfl,Jkt ⟨⟨_,_,_,_,_,_,_,rfl⟩,λd o z=>b16.1 _ _ (hp20 d o z) (s015 _ _ z)⟩⟩⟩
  ·rintro σ H' _;exact k _
end
end K75
end
namespace PySem.W.Fast
def tw1551556494229328408:=()
def tw2468589611269874877:=()
def tw13316998967082581933:=()
def tw3802228251093869224:=()
def tw2105809429894105194:=()
def tw13312879305919609299:=()
def tw12784587918149897572:=()
def tw13478597981838819858:=()
def tw7056108441405266488:=()
def tw3169737182367029577:=()
def tw14298262983506023926:=()
def tw11311034675688187377:=()
def tw12447188371426060739:=()
def tw2779201643394450260:=()
def tw9393953657172498137:=()
def tw12686625090856922023:=()
def tw16552796845383173773:=()
def tw7173031350446737466:=()
def tw13805939609562532730:=()
def tw1177240219355414395:=()
def tw18206022046967590094:=()
def tw13070967695099487794:=()
def tw10399913360402434306:=()
def tw3322266645633093872:=()
def tw7452840233354112666:=()
def tw9341740390044703115:=()
def tw6419115757136855198:=()
def tw2658491433066492290:=()
def tw6832241271211588856:=()
def tw11330139501095693141:=()
def tw10544261291704431836:=()
def tw15870829089054268983:=()
def tw18243068477775933336:=()
def tw13003452258705224216:=()
def tw2373518362739341466:=()
def tw10557430374030725330:=()
def tw4115531614528580230:=()
def tw12092395065382761645:=()
def tw10661867149679556503:=()
def tw15419031712394719114:=()
def tw9957331478552430111:=()
def tw9654314703874510927:=()
def tw7731398776150180436:=()
def tw4955617312591707534:=()
def tw6526626941621110121:=()
def tw7338108184711896535:=()
def tw12458010457777478075:=()
def tw9386087166198507818:=()
def tw6272297851202463845:=()
def tw14068717730602181811:=()
def tw17339131579946878648:=()
def tw2436819202378631823:=()
def tw7274735759230611071:=()
def tw14721381881556550444:=()
def tw13979630707582567002:=()
def tw13546807989597053877:=()
def tw3519846137150490567:=()
def tw6025921953271564632:=()
def tw11859883900608039234:=()
def tw12721244703629635262:=()
def tw3158894517404879636:=()
def tw14118093168635612223:=()
def tw8197674140805331934:=()
def tw114453232376025261:=()
def tw13494761506603779126:=()
def tw2686670360994952868:=()
def tw8414312784778496004:=()
def tw4582203759271526899:=()
def tw13832724934959314592:=()
def tw4384004817886564217:=()
def tw8332245488373947844:=()
def tw3297004316843176090:=()
def tw16226085567052431723:=()
def tw9992035237934555458:=()
def tw14354621893997675262:=()
def tw7287322645789380607:=()
def tw18104276181333094430:=()
def tw17252477671475549757:=()
def tw10305768693772357057:=()
def tw8210301830323644253:=()
def tw2745966978337475977:=()
def tw10971664079747870446:=()
def tw16837487914767580966:=()
def tw7149729421087837380:=()
def tw9379976188710947144:=()
def tw14336548464539997363:=()
def tw842546623652202734:=()
def tw1226974313302924218:=()
def tw10495416313685048636:=()
def tw4929180833920553510:=()
def tw17354438729277737505:=()
def tw16285641207537633445:=()
def tw17053927585588533400:=()
def tw663661359660584238:=()
def tw4431928593248028688:=()
def tw14083845190698987936:=()
def tw4472002191624019406:=()
def tw10211782748767391711:=()
def tw465451742236616781:=()
def tw15576347905098809136:=()
def tw7772370108379289662:=()
def tw11847598946313166102:=()
def tw7662624080517345303:=()
def tw7420757324270979375:=()
def tw5194844034897836997:=()
def tw16813025078863229419:=()
def tw10728609024107464761:=()
def tw739756517056121454:=()
def tw11645583071059535213:=()
def tw12839715023154063460:=()
def tw17048246105425933266:=()
def tw14151486585973322190:=()
def tw1015111486783031725:=()
def tw14185678999308161053:=()
def tw13617285644854533217:=()
def tw652516830279199956:=()
def tw17947425413213323114:=()
def tw5212522494988704898:=()
def tw13325562105745567615:=()
def tw8312368925759643634:=()
def tw8118097797269028941:=()
def tw4295325434390471387:=()
def tw7568893293153983285:=()
def tw9426041139163654393:=()
def tw16974283430988398849:=()
def tw17364499981404503489:=()
def tw6743231194858657146:=()
def tw2366490227721720955:=()
def tw6526241164410339472:=()
def tw10903856697346821540:=()
def tw6699439341601055267:=()
def tw17523236093315222056:=()
def tw12844102279713565811:=()
def tw16541043043779949540:=()
def tw15354282406194900045:=()
def tw11964686228525021054:=()
def tw115359699863055003:=()
def tw7198049046718208809:=()
def tw3962856929679385634:=()
def tw10339701952253124663:=()
def tw1890586049436086072:=()
def tw13798041724981999659:=()
def tw8772877672962692801:=()
def tw2359308114825156727:=()
def tw4338923633266444502:=()
def tw4698158344221994168:=()
def tw11440310277430850452:=()
def tw9030294404574765629:=()
def tw578878911087580042:=()
def tw10977420319089030724:=()
def tw16543651958482233645:=()
def tw16821958250567313198:=()
def tw15570789255501588744:=()
def tw9905581012776271978:=()
def tw1196020319381844333:=()
def tw9942744683020397269:=()
def tw10516258508769269446:=()
def tw4258130512238167600:=()
def tw4313475274084846711:=()
def tw4608320638450889941:=()
def tw1464492734402656433:=()
def tw11874716515787679403:=()
def tw7730487323478998293:=()
def tw13406961981670802471:=()
def tw6768157436482911446:=()
def tw15034902026768988569:=()
def tw4556827877368292457:=()
def tw13771229180858315595:=()
def tw12979545782559561724:=()
def tw15292612262828986026:=()
def tw4416609238982307752:=()
def tw3133004420583914408:=()
def tw13222584310335406657:=()
def tw2165891232888304301:=()
def tw18351565087514618124:=()
def tw8991575585614803162:=()
def tw3408740000182047802:=()
def tw14242311786096041641:=()
def tw1155048174394726290:=()
def tw15497454776995236094:=()
def tw8189930437478771021:=()
def tw5365120386440452048:=()
def tw11321986573110358524:=()
def tw1915028035989387949:=()
def tw14878806369586261301:=()
def tw5783607952675244289:=()
def tw11198206613893913052:=()
def tw6919165341807907314:=()
def tw18084035268603751672:=()
def tw6833867948815972005:=()
def tw3331263062215409853:=()
def tw9359961811024589674:=()
def tw10169779314178668275:=()
def tw10734530522048054172:=()
def tw11143302648060823020:=()
def tw17711435716239571977:=()
def tw13966731961884088453:=()
def tw15700470331106409898:=()
def tw15593944871558436200:=()
def tw5457236386979064204:=()
def tw12929493411586382011:=()
def tw12354795085350583575:=()
def tw10206300982756896896:=()
def tw12752855603355654456:=()
def tw1241694963347749734:=()
def tw531892804626545855:=()
def tw16785261203044766071:=()
def tw17232924751658528685:=()
def tw8887086547523737345:=()
def tw9043489783582805129:=()
def tw17459322959211389333:=()
def tw5389295617926737437:=()
def tw5074000591702276898:=()
def tw10685138761030802772:=()
def tw12859495504702534571:=()
def tw18129105125037513888:=()
def tw9636185374268349919:=()
def tw18155513081600314619:=()
def tw3380281087016580805:=()
def tw3954351444634618737:=()
def tw5944980727641929643:=()
def tw8258047956460426688:=()
def tw10945288627142127055:=()
def tw5648817903705802915:=()
def tw6860430207116646907:=()
def tw11901169574226467973:=()
def tw3719676873764911538:=()
def tw5498116062099994982:=()
def tw11613344722343058229:=()
def tw12444271865449276481:=()
def tw17790728646141745841:=()
def tw17335680535852124277:=()
def tw15971053245106718349:=()
def tw17481097266082014797:=()
def tw4011560755532494467:=()
def tw16547522329917408103:=()
def tw10014613256046762836:=()
def tw18108883699198633082:=()
def tw10758809388177345331:=()
def tw5120425889206517949:=()
def tw10422771986985990703:=()
def tw2449492815584460374:=()
def tw6469207383599822110:=()
def tw5735688672343594511:=()
def tw17758839440703708064:=()
def tw4315004039757587474:=()
def tw880128868548173004:=()
def tw9042754795917035847:=()
def tw12492853601130175920:=()
def tw5500985200258229548:=()
def tw7548999542607026120:=()
def tw7701448021400798438:=()
def tw15644882137152887632:=()
def tw944710874416493498:=()
def tw13763490399938815056:=()
def tw3636180010572540510:=()
def tw17166002160608428873:=()
def tw16122325775669478577:=()
def tw16229403309559913637:=()
def tw18130312223826300722:=()
def tw17402206319367229990:=()
def tw10126079665988984751:=()
def tw10857768693412836392:=()
def tw17586142323991037246:=()
def tw3826384506191728554:=()
def tw4345081209234817405:=()
def tw5984845127985799990:=()
def tw1444806816129950859:=()
def tw17135746429299723914:=()
def tw3492701895194310471:=()
def tw917073653722209248:=()
def tw9305862478018592717:=()
def tw15997779350849565837:=()
def tw1304770165579378648:=()
def tw15135930037079516722:=()
def tw8680290718965807457:=()
def tw10045451327966505490:=()
def tw15790978576942319603:=()
def tw5266094493569368312:=()
def tw16827779875045993399:=()
def tw5782307653395983391:=()
def tw10283120731178286445:=()
def tw8598276209993320491:=()
def tw14722422368814385374:=()
def tw5116341382291543364:=()
def tw844225325863295656:=()
def tw16969321914766048153:=()
def tw7446141918738324192:=()
def tw383952972501000477:=()
def tw3769998299520574517:=()
def tw11640738451921631346:=()
def tw18315575711267062335:=()
def tw10520867798557998179:=()
def tw16432757171298535446:=()
def tw16336978772624851047:=()
def tw10551658372096145487:=()
def tw12905848331230613022:=()
def tw2657647716531867419:=()
def tw11690546590726140690:=()
def tw7932560230729726255:=()
def tw7432847433447213602:=()
def tw2448894692786493178:=()
def tw5825045548900157700:=()
def tw15892246832674395684:=()
def tw9867523863300343825:=()
def tw8818318672499164803:=()
def tw6235541983264320262:=()
def tw15419264332045530213:=()
def tw2630901179686120383:=()
def tw8893645434931095059:=()
def tw12568375164194181279:=()
def tw871691459398428101:=()
def tw16663866625649502953:=()
def tw16545300644501081476:=()
def tw10808317440138820371:=()
def tw2356773710362299420:=()
def tw13751952133513749443:=()
def tw3352954789719085307:=()
def tw12203588857130956935:=()
def tw13169722513623311602:=()
def tw9780253298924709118:=()
def tw764551987487869043:=()
def tw3290838060778116095:=()
def tw17672756979167251340:=()
def tw4025905770798571612:=()
def tw5728376135016985812:=()
def tw10830967573131532297:=()
def tw11910681939919334829:=()
def tw17865407173323333638:=()
def tw12621226532990847867:=()
def tw11542965151945138768:=()
def tw11195498672630247436:=()
def tw17951259079213477297:=()
def tw7621341214505582920:=()
def tw17630448807874912729:=()
def tw16008725122165010923:=()
def tw12540136275468230046:=()
def tw2968787045398885288:=()
def tw576196754001088931:=()
def tw12881897637106715394:=()
def tw6452613462437749273:=()
def tw4629533424951051888:=()
def tw15643182068124580484:=()
def tw13895416667227360058:=()
def tw5465088689868947597:=()
def tw5070217280963648201:=()
def tw14129798389719160155:=()
def tw9284810473694024285:=()
def tw15781065592840317229:=()
def tw16401487616999277231:=()
def tw7713735375297848274:=()
def tw16293272082008970512:=()
def tw4014653167776020904:=()
def tw10828905505276830742:=()
def tw7071995132747721710:=()
def tw13551599578006969462:=()
def tw16080443109289081358:=()
def tw10377319822905228074:=()
def tw12485988792371219419:=()
def tw15194692754905710363:=()
def tw7118219713896550503:=()
def tw13642323744686166458:=()
def tw1646765021776658610:=()
def tw12104637731340146642:=()
def tw4920949212196192511:=()
def tw11383550172766181072:=()
def tw13244677724310664663:=()
def tw4003543879777212262:=()
def tw6396210504498636735:=()
def tw14480665759972278029:=()
def tw12518124229915993927:=()
def tw16383319627717731192:=()
def tw6952541440328205323:=()
def tw4708993394711613123:=()
def tw14585240000967958440:=()
def tw8985280140465329355:=()
def tw3200975859337505326:=()
def tw17969181673691636576:=()
def tw12193284894397247339:=()
def tw7577550149407107908:=()
def tw8096907603043184858:=()
def tw16791048548909938478:=()
def tw14601729368600675148:=()
def tw13686472920239511589:=()
def tw3566436328102456609:=()
def tw17547981740627149843:=()
def tw13214300186109274901:=()
def tw10692328626046926725:=()
def tw15436611319817227331:=()
def tw7616775464747707903:=()
def tw5053546954820896802:=()
def tw3050645586203155340:=()
def tw4838624407432472730:=()
def tw12382745467529934668:=()
def tw8982121381355932092:=()
def tw18339336840419827608:=()
def tw15391252865755716722:=()
def tw194613499854995957:=()
def tw6569289593161645268:=()
def tw10368878533165837000:=()
def tw200567803089030021:=()
def tw10262201281200671400:=()
def tw14351342596687421345:=()
def tw10246686595082675767:=()
def tw16452698639523462910:=()
def tw1627699581155740851:=()
def tw16509172216869756520:=()
def tw452338330444452125:=()
def tw201737541304753278:=()
def tw13460513881737527192:=()
def tw11394463866167891417:=()
def tw730163377090520143:=()
def tw14148207288557265290:=()
def tw14448632252777321073:=()
def tw17637118769564174520:=()
def tw3099701038625632610:=()
def tw2446214155907352452:=()
def tw15628030023144437289:=()
def tw12766789652525103515:=()
def tw8019163185629896844:=()
def tw5014466550643450668:=()
def tw10874264516431743107:=()
def tw13344628086260629701:=()
def tw12638246135865260589:=()
def tw10261083276302253266:=()
def tw16292857084731348475:=()
def tw4951135059925378702:=()
def tw10682655965058674057:=()
def tw7992791995585939159:=()
def tw14511123669387790345:=()
def tw3134290196372205264:=()
def tw7308587669152875189:=()
def tw7955469202145111716:=()
def tw6572976537708337860:=()
def tw12594224414869184047:=()
def tw15540576124035164087:=()
def tw10512997567906856387:=()
def tw18185011728093037045:=()
def tw18233271027877289587:=()
def tw4174725783706497729:=()
def tw7634128238220797264:=()
def tw11387687618290644177:=()
def tw165970951248752390:=()
def tw6976043990880027672:=()
def tw1440943148655249307:=()
def tw2967976584142162611:=()
def tw1053356869021316587:=()
def tw171479032111281567:=()
def tw17550115748048059720:=()
def tw13633798017694563704:=()
def tw9761292548045774637:=()
def tw3773510830114437813:=()
def tw14836340926875155800:=()
def tw3355501940906181405:=()
def tw1147634073344892152:=()
def tw2964854501857299864:=()
def tw9324246056017395590:=()
def tw11312629861690267367:=()
def tw14872273711663036218:=()
def tw1399874864738105552:=()
def tw13246313236391943580:=()
def tw10511809783789993381:=()
def tw12055457698785520420:=()
def tw15074258739456492157:=()
def tw11021923659557472639:=()
def tw556511481754334421:=()
def tw12046672097852280609:=()
def tw539950517983188361:=()
def tw8836117316817767371:=()
def tw5791206900115941925:=()
def tw12487890368492343222:=()
def tw3515892144319095513:=()
def tw2113560683029487726:=()
def tw12700732206464668585:=()
def tw10328381920603445393:=()
def tw8784056747996992843:=()
def tw10476169442193623910:=()
def tw29378769711728964:=()
def tw2106380764682933862:=()
def tw4603201119633406568:=()
def tw530252626240092420:=()
end PySem.W.Fast
open PySem PySem.W PyProof.Rows
set_option maxRecDepth 100000 in
set_option maxHeartbeats 0 in
theorem PySem.Challenge.cw_weirwatch_k75_whole_long_rivers_held_holds : PySem.Challenge.rw_weirwatch_k75_whole_long_rivers_held.Holds := by
 w_on;o_law;k_head;(case hw=>w_witness2)
 k_fill
 refine L2.walk_ofT (l:=PySem.Challenge.rw_weirwatch_k75_whole_long_rivers_held) (n:=63) (k:=12) (x:="_law_script") (CX:=L2.CX0) rfl (by decide) rfl ⟨rfl,by decide,by decide⟩ (λw h Y=>PySem.W.km_in_of Y) ?K ?F ?C
 case K=>intro w;kernel_rfl
 case F=>
  intro w mg fa h KX G TB hmg;have T:∃a:K75.Ad,(∀(s:Shared) (v:Value),BindsTo s a.d_law ⟨[v],[]⟩ [("_law_script",v)])/\K75.Tx (L2.KOf KX) mg a:=by
   have hh:=λaa ab ac ad ae af ag ah ai aj ak al am an ao ap aq ar au av aw ax ay az ba bb bc bd be bf bg bh bi bj bk bl bm bn bo bp bq br bs bt bu bv bw bx bz ca cb cc cd ce cf cg ch ci cj ck cl cm cn co cp cq cr cs ct cu cv cw cx cy cz da db dc dd de df dg dh di dj dk dl dm dn dp dq dr ds dt du dv dw dx dy dz ea eb ec ed ee ef eg eh ei ej ek el em en eo ep eq er es et eu ev ew ex ey ez fb fc fd fe ff fg fh fi fj fk fl fm fn fo fp fq fr fs ft fu fv fw fx fy fz ga gb gc gd ge gf gg gh gi gj gk gl gm gn go gp gq gr gs gt gu gv gw gx gy gz=>@K75.Tx.mk (L2.KOf KX) mg ⟨aa,ab,ac,ad,ae,af,ag,ah,ai,aj,ak,al,am,an,ao,ap,aq,ar,au,av,aw,ax,ay,az,ba,bb,bc,bd,be,bf,bg,bh,bi,bj,bk,bl,bm,bn,bo,bp,bq,br,bs,bt,bu,bv,bw,bx,bz,ca,cb,cc,cd,ce,cf,cg,ch,ci,cj,ck,cl,cm,cn,co,cp,cq,cr,cs,ct,cu,cv,cw,cx,cy,cz,da,db,dc,dd,de,df,dg,dh,di,dj,dk,dl,dm,dn,dp,dq,dr,ds,dt,du,dv,dw,dx,dy,dz,ea,eb,ec,ed,ee,ef,eg,eh,ei,ej,ek,el,em,en,eo,ep,eq,er,es,et,eu,ev,ew,ex,ey,ez,fb,fc,fd,fe,ff,fg,fh,fi,fj,fk,fl,fm,fn,fo,fp,fq,fr,fs,ft,fu,fv,fw,fx,fy,fz,ga,gb,gc,gd,ge,gf,gg,gh,gi,gj,gk,gl,gm,gn,go,gp,gq,gr,gs,gt,gu,gv,gw,gx,gy,gz⟩;dsimp only [L2.KOf,L2.NoAttr] at hh⊢;apply Exists.intro;refine' ⟨?bb,?tx⟩
   case tx=>
    apply hh
    iterate 49 (refine' L2.ft_mk KX G ?a ?b ?c ?d ?e;(case a=>k_is);(case b=>k_is);(case c=>k_is);(case d=>k_is);(case e=>first|exact (λ_ _ _ _ _ _ u h=>match u,h with| [_],_=>rfl)|exact (λ_ _ _ _ _ _ u h=>match u,h with| [_,_],_=>rfl)|exact (λ_ _ _ _ _ _ u h=>match u,h with| [_,_,_],_=>rfl)|exact (λ_ _ _ _ _ _ u h=>match u,h with| [_,_,_,_],_=>rfl)|exact (λ_ _ _ _ _ _ u h=>match u,h with| [_,_,_,_,_],_=>rfl)|exact (λ_ _ _ _ _ _ u h=>match u,h with| [_,_,_,_,_,_,_],_=>rfl)))
    iterate 12 (refine' PySem.W.mg_of KX G ?a;(case a=>k_is))
    iterate 18 (refine' PySem.W.mg_none_of KX G ?a;(case a=>k_is))
    iterate 17 (refine' PySem.W.mg_of KX G ?a;(case a=>k_is))
    iterate 23 (k_is)
    iterate 23 (refine' L2.fm_mk ?a ?b ?c ?d;(case a=>k_is);(case b=>k_is);(case c=>k_is);(case d=>first|exact (λ_ _ _ _ _ _ u h=>match u,h with| [_],_=>rfl)|exact (λ_ _ _ _ _ _ u h=>match u,h with| [_,_],_=>rfl)|exact (λ_ _ _ _ _ _ u h=>match u,h with| [_,_,_],_=>rfl)|exact (λ_ _ _ _ _ _ u h=>match u,h with| [_,_,_,_],_=>rfl)|exact (λ_ _ _ _ _ _ u h=>match u,h with| [_,_,_,_,_],_=>rfl)|exact (λ_ _ _ _ _ _ u h=>match u,h with| [_,_,_,_,_,_,_],_=>rfl)))
    iterate 9 (refine' L2.xc_mk ?a ?b ?c;(case a=>k_is);(case b=>kernel_rfl);(case c=>kernel_rfl))
    refine' L2.ec_mk ?a ?b;(case a=>k_is);(case b=>k_is)
    iterate 27 (constructor <;> k_is)
    iterate 21 (k_is)
    refine' L2.nst_mk ?a ?b ?c ?d ?e;(case a=>k_is);(case b=>rfl);(case c=>k_is);(case d=>rfl);(case e=>rfl)
    kernel_rfl
    refine' L2.nst_mk ?a ?b ?c ?d ?e;(case a=>k_is);(case b=>rfl);(case c=>k_is);(case d=>rfl);(case e=>rfl)
    kernel_rfl
    decide
    iterate 12 (kernel_rfl)
   case bb=>exact λs v=>.of_eq rfl
  obtain ⟨a,b,T⟩:=T;have e:=hmg.symm.trans T.f_law.mgx;cases e;exact ⟨a.d_law,K75.spLaw (L2.KOf KX) a,[(a.Jjm,K75.lb_lost_alone),(a.Jjo,K75.lb_local_keeper)],b,List.forall_mem_cons.mpr ⟨L2.tab_kn (y:="lost_alone") TB rfl T.Jef,List.forall_mem_cons.mpr ⟨L2.tab_kn (y:="local_keeper") TB rfl T.Jeh,λ_ z=>nomatch z⟩⟩,T.tnd,λbase kb nb B=>K75.ok_law T B,λH x ns hl ht hS=>⟨x,ns,rfl,hS,hl,ht _ (.head _),ht _ (.tail _ (.head _)),λ_=>rfl⟩⟩
 case C=>exact λ_ _ _ _ z=>z
#print axioms PySem.Challenge.cw_weirwatch_k75_whole_long_rivers_held_holds
