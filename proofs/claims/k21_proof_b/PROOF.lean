import PyProof.Rows.All
import Wide.All
import OpenK.AllK
import Wide.FinOn
import Lean
import PyProof.EqAt
import PyProof.EqKinds
import PyProof.TupleCall
import PySem.Challenge.RW_weirwatch_k21_standings_numbered
open PySem renaming Addr → S1, Value → S2, Shared → S3, wpAny_bind → S4, wpAny_pure → S5, sizeLine → S6, Program → S7, FuncData → S8, World → S9, Around → Sa, Heap → Sb, wpAny → Sc
open PySem.W renaming Frag → Sd, kitOne → Se, findIn → Sf, mroIn → Sg, instObj → Sh
open List renaming length_map → ye, getElem?_eq_getElem → yh, getElem?_map → yi, getElem?_eq_some_iff → yj, mem_map → yn, mem_cons → yo, size_toArray → yp, mem_of_getElem? → yq, take_add_one → yr, replicate → yw, length_take → yaa, length_append → yab, mem_cons_of_mem → yac, take_of_length_le → yad, length_cons → yaf, map_append → yag, mem_cons_self → yah, mem_singleton → yal, map_cons → yan, getElem_mem → yaq, not_mem_nil → yar, range → yav, map_map → yaw, mem_append → yay, all_eq_true → yaz, append_nil → ybb, mem_map_of_mem → ybc, mem_append_right → ybi, length_drop → ybj, getElem?_of_mem → ybk, length_set → ybl, length_range → ybn, take_length → ybo, lookup → ybp, nodup_cons → ybq, mem_range → ybu, lookup_cons → ybx, forIn_cons → yby, getD_eq_getElem?_getD → ybz, foldl_append → yca, getElem?_range → ycd, length_replicate → ycg, replicate_succ → ych, getElem?_set → ycm, getElem?_append → ycn, mem_or_eq_of_mem_set → ycp, mem_flatMap → ycr, mem_append_left → ycs, mem_of_mem_take → yct, flatMap_cons → ycu, getElem?_eq_none → ycv
open Or renaming inl → yf, inr → yak
open Nat renaming le_refl → yg, ne_of_lt → yy, le_trans → yae, zero_le → yaj, lt_of_lt_of_le → yao, lt_irrefl → ybg, not_lt → ybm, min_eq_left → ybt, ne_of_gt → ybw, le_of_lt → yce, lt_succ_self → ycf, succ_mul → ycj, lt_succ_of_lt → ycl
open PySem.Heap renaming lt_size → yk, get?_push_of_some → ym, get?_push_size → yt, size_push → yat, SameBut → ybh, get?_update_other → ybr, get?_update_self → yck
open Ne renaming symm → yx
open Option renaming some → yz, map_eq_some_iff → yba
open Bool renaming false_ne_true → yai, and_eq_true → yap, not_true → ycb, false_eq_true → ycc, false_and → yco
open And renaming right → yam, left → yas
open Sum renaming inl → yau
open Int renaming toNat_natCast → yax, emod_nonneg → ybd, emod_lt_of_pos → ybe, le_trans → ybf, eq_ofNat_of_zero_le → ybs, mul_le_mul → ycq
open Array renaming length_toList → ybv, getElem?_eq_some_iff → yci
set_option bootstrap.genMatcherCode false
set_option hygiene false
set_option Elab.async false
set_option linter.all false
set_option maxRecDepth 100000
section
local macro_rules|`(%[|0])=>`(⟨rfl,rfl,rfl,by decide +kernel,rfl,by decide +kernel,by decide +kernel⟩)
local macro_rules|`(%[$a|1])=>`($a (P:=P) (w:=w) (base:=base) T)
local macro_rules|`(%[$a,$b|2])=>`($a $b (λvs H Q E h=>?_) (λcdv A outer s H vs Q E hr h=>?_))
namespace L2
open PySem PySem.Spec PyProof.Rows
noncomputable abbrev Key:=Sum Int Str
noncomputable def Jv5:Key->S2->Bool
 | .inl k,v=>Value.isInt k v
 | .inr x,v=>Value.isStrOf x v
noncomputable def Sx9 (w:S9):Key->Int
 | .inl k=>hashInt k
 | .inr x=>hashStr w x
theorem Jov:∀{k} {v},Jv5 k v=true->(∃i t,k=yau i/\v=Value.int i t)\/(∃x t,k=Sum.inr x/\v=Value.str x t)
 | .inl i,v,h=>by
  obtain ⟨t,e⟩:=Value.isInt_shape h;exact .inl ⟨i,t,rfl,e⟩
 | .inr x,v,h=>by
  obtain ⟨t,e⟩:=Value.isStrOf_shape h;exact .inr ⟨x,t,rfl,e⟩
theorem Ycl (i) (t):Jv5 (.inl i) (.int i t)=true:=by simp [Jv5,Value.isInt]
theorem Ycm (x) (t):Jv5 (.inr x) (.str x t)=true:=by simp [Jv5,Value.isStrOf]
theorem Smz (a b):decide ((yau a:Key)=yau b)=(a==b):=by grind
theorem Sn2 (a b):decide ((Sum.inr a:Key)=Sum.inr b)=decide (a=b):=by simp
theorem Sn0 (a) (b):decide ((yau a:Key)=Sum.inr b)=false:=rfl
theorem Sn1 (a) (b):decide ((Sum.inr a:Key)=yau b)=false:=rfl
noncomputable def Jo4 (prog:S7) (w:S9):PySem.KeyKind prog w Key where
 is:=Jv5
 hash:=Sx9 w
 inj:=λv a b ha hb=>by
  rcases Jov ha with ⟨i,t,rfl,rfl⟩|⟨x,t,rfl,rfl⟩
  ·rcases Jov hb with ⟨j,u,rfl,e⟩|⟨y,u,rfl,e⟩
   ·injection e with e1 _;rw [e1]
   ·exact nomatch e
  ·rcases Jov hb with ⟨j,u,rfl,e⟩|⟨y,u,rfl,e⟩
   ·exact nomatch e
   ·injection e with e1 _;rw [e1]
 byValue:=λk v h=>by
  rcases Jov h with ⟨i,t,rfl,rfl⟩|⟨x,t,rfl,rfl⟩ <;> rfl
 pyHash:=λhv h=>by
  rcases Jov hv with ⟨i,t,rfl,rfl⟩|⟨x,t,rfl,rfl⟩
  ·exact wpAny_pyHash_int h
  ·exact wpAny_pyHash_str h
 eqBool:=λhu hv h=>by
  rcases Jov hu with ⟨i,t,rfl,rfl⟩|⟨x,t,rfl,rfl⟩
  ·rcases Jov hv with ⟨j,u,rfl,rfl⟩|⟨y,u,rfl,rfl⟩
   ·rw [Smz] at h;exact wpAny_eqBool_int h
   ·rw [Sn0] at h;exact SeqAt.EqAt.int_str i t y u _ _ _ _ h
  ·rcases Jov hv with ⟨j,u,rfl,rfl⟩|⟨y,u,rfl,rfl⟩
   ·rw [Sn1] at h;exact SeqAt.EqAt.str_int x t j u _ _ _ _ h
   ·rw [Sn2] at h;exact wpAny_eqBool_str h
 «strs»:=λk x t v h=>by
  rcases Jov h with ⟨i,u,rfl,e⟩|⟨y,u,rfl,e⟩
  ·exact nomatch e
  ·injection e with e1 _;subst e1;cases v <;> rfl
theorem Yaq (prog) (w) (k) (v):(Jo4 prog w).is k v=Jv5 k v:=rfl
theorem Yd (prog) (w) (i) (t):(Jo4 prog w).is (.inl i) (.int i t)=true:=Ycl i t
theorem Jrs (prog) (w) (x) (t):(Jo4 prog w).is (.inr x) (.str x t)=true:=Ycm x t
inductive V where
 |non|bl (b:Bool)|int (i:Int)|str (x:Str)|byt (b:Array UInt8)|flt (b:UInt64)|ref (a:S1)|ty (n:String)
 deriving DecidableEq
noncomputable def Sz:V->S2->Prop
 | .non,u=>u=Value.none
 | .bl b,u=>u=Value.bool b
 | .int i,u=>∃t,u=Value.int i t
 | .str x,u=>∃t,u=Value.str x t
 | .byt b,u=>∃t,u=Value.bytes b t
 | .flt b,u=>∃t,u=Value.float b t
 | .ref a,u=>u=Value.ref a
 | .ty n,u=>u=Value.type n
noncomputable abbrev Sx:List V->List S2->Prop:=Paired Sz
theorem Sx.length (r:Sx xs us):xs.length=us.length:=Paired.length r
theorem Sx.get:∀{xs} {us} {i:Nat} {x},Sx xs us->xs[i]?=some x->∃u,us[i]?=some u/\Sz x u
 |_,_,_,_,.nil,e=>by simp at e
 |_,_,0,_,.cons r _,e=>by simp at e;subst e;exact ⟨_,rfl,r⟩
 |_,_,i+1,x,.cons _ t,e=>by
  obtain ⟨u,h1,h2⟩:=Sx.get t (by simpa using e);exact ⟨u,by simpa using h1,h2⟩
theorem Sx.set {x:V} {u:S2} (r:Sz x u):∀{xs:List V} {us:List S2} (i:Nat),Sx xs us->Sx (xs.set i x) (us.set i u)
 |_,_,_,.nil=>.nil
 |_,_,0,.cons _ t=>.cons r t
 |_,_,i+1,.cons q t=>.cons q (Sx.set r i t)
theorem Sx.append:∀{xs ys:List V} {us ws:List S2},Sx xs us->Sx ys ws->Sx (xs++ys) (us++ws)
 |_,_,_,_,.nil,s=>s
 |_,_,_,_,.cons r t,s=>.cons r (Sx.append t s)
theorem Sx.take:∀{xs:List V} {us:List S2} (n:Nat),Sx xs us->Sx (xs.take n) (us.take n)
 |_,_,0,_=>.nil
 |_,_,_+1,.nil=>.nil
 |_,_,n+1,.cons r t=>.cons r (Sx.take n t)
theorem Sx.drop:∀{xs:List V} {us:List S2} (n:Nat),Sx xs us->Sx (xs.drop n) (us.drop n)
 |_,_,0,r=>r
 |_,_,_+1,.nil=>.nil
 |_,_,n+1,.cons _ t=>Sx.drop n t
noncomputable def Scx:Option V->Option S2->Prop
 |some v,some u=>Sz v u
 |none,none=>True
 |_,_=>False
noncomputable def KV {κ:Type}:List (κ×V)->List (κ×S2)->Prop:=Paired λ(p:κ×V) (q:κ×S2)=>p.1=q.1/\Sz p.2 q.2
noncomputable def kV:Key->V
 | .inl i=>.int i
 | .inr x=>.str x
inductive HO where
 |lst (xs:List V)
 |tup (xs:List V)
 |dK (kvs:List (Key×V))|dT (kvs:List (List Key×V))
 |set (S:Int->Bool) (n:Nat)
 |ins (C dx:S1) (fs:List (Str×V))
 |own (x:S1)
 |xd (fs:List (Str×V))
 |cod (q:Str)
 |rng (lo hi:Int)
 |frz (o:Obj) (u:HO)
 |tbl (ps:Array (Nat×Nat×Str))
 |ext (φ:Sb->Prop)
noncomputable abbrev Hp:=S1->Option HO
noncomputable def upd (H:Hp) (a:S1) (o:HO):Hp:=λb=>if b=a then some o else H b
theorem Sn:upd H a o a=some o:=by unfold upd;rw [if_pos rfl]
theorem Jnc (h:b≠a):upd H a o b=H b:=by unfold upd;rw [if_neg h]
theorem Jp8:upd (upd H a o) a u=upd H a u:=by
 funext b;unfold upd;split <;> rfl
theorem Sl5 {H:Hp} {a b} {o u} (h:H a=some o) (h':H b=some u) (d:o≠u):a≠b:=by grind
theorem Jnd {H:Hp} {a b} {o} (h:H a=some o) (h':H b=none):a≠b:=by grind
noncomputable def Swx (o:Obj):HO:=.frz o (.ext λ_=>True)
noncomputable def Si7 (H:Hp) (lb:Array (Nat×Nat×Str)):List S2->Prop
 | []=>True
 | .int l _:: .int c _::v::r=>(∃(n m:Nat) (q:Str) (a:S1),(n,m,q)∈lb/\l=n/\c=m/\v= .ref a/\H a=some (.cod q))/\Si7 H lb r
 |_=>False
theorem Si7.mono (k:∀b q,H b=some (.cod q)->H' b=some (.cod q)) (x:Si7 H lb l):Si7 H' lb l:=by
 fun_induction Si7 H lb l with
 |case1=>exact True.intro
 |case2 l _ c _ v r ih=>
  obtain ⟨⟨n,m,q,a,h1,h2,h3,h4,h5⟩,h6⟩:=x;exact ⟨⟨n,m,q,a,h1,h2,h3,h4,k _ _ h5⟩,ih h6⟩
 |case3=>exact x.elim
section
variable (P:S7) (w:S9)
noncomputable def Sah (H:Hp) (h:Sb) (a:S1):HO->Prop
 | .lst xs=>xs.length<=S6/\∃(its:List S2) (n:Nat),Sx xs its/\h.get? a=some {cls:=.type "list",data:=.seq its.toArray n}
 | .tup xs=>xs.length<=S6/\∃its:List S2,Sx xs its/\IsTup h a its.toArray
 | .dK kvs=>kvs.length<=S6/\(a==sysModules)=false/\∃vs,KV kvs vs/\h.DictOf (Jo4 P w) a vs
 | .dT kvs=>kvs.length<=S6/\(a==sysModules)=false/\∃xs:List (List Key×S1×S2),
   Paired (λ(p:List Key×V) (q:List Key×S1×S2)=>p.1=q.1/\H q.2.1=some (.tup (p.1.map kV))/\Sz p.2 q.2.2) kvs xs/\
   ∃o es ep,h.get? a=some o/\o.ExactDict/\o.data= .dict es ep/\es.toList=xs.map (entryOfKey (tupleKind (Jo4 P w)))/\(xs.map (·.1)).Nodup
 | .set S n=>h.SetOf (intKind P w) a S n
 | .ins C dx fs=>H dx=some (.own a)/\fs.length<=1000/\dx≠a/\h.get? a=some (Sh C dx)/\
   ∃mA,h.Ns1 dx mA/\(∀f,Scx (fs.lookup f) (mA f))/\PySem.Within mA (fs.map (·.1))
 | .own _=>∃o,h.get? a=some o
 | .xd fs=>∃mA,h.Ns1 a mA/\∀f,Scx (fs.lookup f) (mA f)
 | .rng lo hi=>∃t u v,h.get? a=some {cls:=.type "range",data:=.fields #[.int lo t,.int hi u,.int 1 v]}
 | .frz o u=>h.get? a=some o/\Sah H h a u
 | .tbl lb=>∃ts:Array S2,h.get? a=some ⟨.none,none,.fields ts,#[]⟩/\Si7 H lb ts.toList
 | .cod q=>h.CodeRec (.ref a) q
 | .ext φ=>φ h/\(∃o,h.get? a=some o)/\∀h1 h2:Sb,φ h1->(∀o,h1.get? a=some o->h2.get? a=some o)->φ h2
noncomputable def HOk (H:Hp) (h:Sb):Prop:=∀a o,H a=some o->Sah P w H h a o
end
section
variable {P:S7} {w:S9} {H H':Hp} {h h':Sb} {a:S1} {o:HO}
theorem Sah.lt (x:Sah P w H h a o):a < h.objs.size:=by
 cases o with
 |lst xs=>obtain ⟨_,_,_,_,e⟩:=x;exact yk e
 |tup xs=>obtain ⟨_,_,_,p⟩:=x;exact p.lt
 |dK kvs=>obtain ⟨_,_,_,_,o,_,_,e,_⟩:=x;exact yk e
 |dT kvs=>obtain ⟨_,_,_,_,o,_,_,e,_⟩:=x;exact yk e
 |set S n=>obtain ⟨o,_,_,_,e,_⟩:=x;exact yk e
 |ins C dx fs=>obtain ⟨_,_,_,e,_⟩:=x;exact yk e
 |own y=>obtain ⟨_,e⟩:=x;exact yk e
 |xd fs=>obtain ⟨_,⟨_,_,_,e,_⟩,_⟩:=x;exact yk e
 |rng lo hi=>obtain ⟨_,_,_,e⟩:=x;exact yk e
 |frz ob u=>obtain ⟨e,_⟩:=x;exact yk e
 |tbl lb=>obtain ⟨_,e,_⟩:=x;exact yk e
 |cod q=>obtain ⟨_,_,_,_,e1,e2,_⟩:=x;cases e1;exact yk e2
 |ext φ=>obtain ⟨_,⟨_,e⟩,_⟩:=x;exact yk e
theorem Paired.mapP {α β:Type} {F G:α->β->Prop}:∀{l₁:List α} {l₂:List β},Paired F l₁ l₂->(∀a b,F a b->G a b)->Paired G l₁ l₂
 |_,_,.nil,_=>.nil
 |_,_,.cons r t,f=>.cons (f _ _ r) (Paired.mapP t f)
theorem Paired.imp' (f:∀a b,F a b->G a b) (r:Paired F l₁ l₂):Paired G l₁ l₂:=Paired.mapP r f
theorem Sah.stay (x:Sah P w H h a o) (k:∀b u,(b=a\/H b=some (.own a))->h.get? b=some u->h'.get? b=some u)
  (ho:∀b,H b=some (.own a)->H' b=some (.own a)) (ht:∀b xs,H b=some (.tup xs)->H' b=some (.tup xs)) (hc:∀b q,H b=some (.cod q)->H' b=some (.cod q)):Sah P w H' h' a o:=by
 induction o with
 |lst xs=>obtain ⟨z,its,n,r,e⟩:=x;exact ⟨z,its,n,r,k _ _ (.inl rfl) e⟩
 |tup xs=>obtain ⟨z,its,r,ob,e,c⟩:=x;exact ⟨z,its,r,ob,k _ _ (.inl rfl) e,c⟩
 |dK kvs=>obtain ⟨z,y,vs,r,ob,es,ep,e,c⟩:=x;exact ⟨z,y,vs,r,ob,es,ep,k _ _ (.inl rfl) e,c⟩
 |dT kvs=>
  obtain ⟨z,y,xs,r,ob,es,ep,e,c⟩:=x;exact ⟨z,y,xs,Paired.mapP r λp q z=>⟨z.1,ht _ _ z.2.1,z.2.2⟩,ob,es,ep,k _ _ (.inl rfl) e,c⟩
 |set S n=>obtain ⟨ob,es,ep,t,e,c⟩:=x;exact ⟨ob,es,ep,t,k _ _ (.inl rfl) e,c⟩
 |ins C dx fs=>
  obtain ⟨d,z,ne,e,mA,⟨od,es,ep,e2,c⟩,r⟩:=x;exact ⟨ho _ d,z,ne,k _ _ (.inl rfl) e,mA,⟨od,es,ep,k _ _ (.inr d) e2,c⟩,r⟩
 |own y=>obtain ⟨ob,e⟩:=x;exact ⟨ob,k _ _ (.inl rfl) e⟩
 |xd fs=>obtain ⟨mA,⟨od,es,ep,e,c⟩,r⟩:=x;exact ⟨mA,⟨od,es,ep,k _ _ (.inl rfl) e,c⟩,r⟩
 |rng lo hi=>obtain ⟨t,u,v,e⟩:=x;exact ⟨t,u,v,k _ _ (.inl rfl) e⟩
 |frz ob u ih=>obtain ⟨e,q⟩:=x;exact ⟨k _ _ (.inl rfl) e,ih q⟩
 |tbl lb=>obtain ⟨ts,e,r⟩:=x;exact ⟨ts,k _ _ (.inl rfl) e,r.mono hc⟩
 |cod q=>obtain ⟨c,o,vs,t,e1,e2,e3,e4⟩:=x;cases e1;exact ⟨_,o,vs,t,rfl,k _ _ (.inl rfl) e2,e3,e4⟩
 |ext φ=>obtain ⟨p,⟨o,e⟩,st⟩:=x;exact ⟨st _ _ p λo q=>k _ _ (.inl rfl) q,⟨o,k _ _ (.inl rfl) e⟩,st⟩
theorem HOk.lt (x:HOk P w H h) (e:H a=some o):a < h.objs.size:=(x a o e).lt
theorem HOk.fresh (x:HOk P w H h) (e:h.objs.size<=a):H a=none:=by
 cases q:H a with
 |none=>rfl
 |some u=>exact absurd (yao (x.lt q) e) (ybg _)
theorem HOk.kept (x:HOk P w H h) (k:∀b u,h.get? b=some u->h'.get? b=some u):HOk P w H h':=λa o e=>
 (x a o e).stay (λb u _ q=>k b u q) (λ_ q=>q) (λ_ _ q=>q) λ_ _ q=>q
theorem HOk.laid (x:HOk P w H h) (k:∀b u,h.get? b=some u->h'.get? b=some u) (hp:h.objs.size<=a) (new:Sah P w (upd H a o) h' a o):HOk P w (upd H a o) h':=λb u e=>by
 have hn:=x.fresh hp;by_cases hb:b=a
 ·subst hb;rw [Sn] at e;cases e;exact new
 ·rw [Jnc hb] at e;exact (x b u e).stay (λc v _ q=>k c v q) (λc q=>by rw [Jnc (Jnd q hn)];exact q) (λc xs q=>by rw [Jnc (Jnd q hn)];exact q) λc xs q=>by rw [Jnc (Jnd q hn)];exact q
end
noncomputable def Rd (H:Hp) (a:S1) (u:HO):Prop:=H a=some u\/∃o,H a=some (.frz o u)
theorem Rd.ok (r:Rd H a u) (x:HOk P w H h):Sah P w H h a u:=by
 rcases r with r|⟨o,r⟩
 ·exact x a u r
 ·obtain ⟨_,q⟩:=x a _ r;exact q
noncomputable def Mut:Option HO->Prop
 |some (.lst _)=>True
 |some (.dK _)=>True
 |some (.dT _)=>True
 |some (.set _ _)=>True
 |some (.ins _ _ _)=>True
 |some (.ext _)=>True
 |_=>False
section
variable {P:S7} {w:S9} {H:Hp} {h h':Sb} {x e:S1} {o':HO}
theorem HOk.write (ok:HOk P w H h) (mu:Mut (H x)) (he:e=x\/H e=some (.own x)) (k:∀b u,b≠e->h.get? b=some u->h'.get? b=some u) (heo:∃u,h'.get? e=some u)
  (new:Sah P w (upd H x o') h' x o'):HOk P w (upd H x o') h':=λb u q=>by
 have nown:∀c y,H c=some (.own y)->c≠x:=λc y r z=>by subst z;rw [r] at mu;exact mu
 have ntup:∀c xs,H c=some (.tup xs)->c≠x:=λc xs r z=>by subst z;rw [r] at mu;exact mu
 by_cases hb:b=x
 ·subst hb;rw [Sn] at q;cases q;exact new
 ·rw [Jnc hb] at q;by_cases hbe:b=e
  ·have q':H b=some (.own x):=by
    rcases he with z|z
    ·exact absurd (hbe.trans z) hb
    ·rw [hbe];exact z
   rw [q] at q';cases q';obtain ⟨v,hv⟩:=heo;exact ⟨v,by rw [hbe];exact hv⟩
  ·refine (ok b u q).stay (λc v hc r=>k c v ?_ r) (λc r=>by rw [Jnc (nown c b r)];exact r) (λc xs r=>by rw [Jnc (ntup c xs r)];exact r) λc xs r=>by rw [Jnc λz=>by subst z;rw [r] at mu;exact mu];exact r
   rcases hc with rfl|hc
   ·exact hbe
   ·rintro rfl;rcases he with z|z
    ·exact nown c b hc z
    ·rw [hc] at z;cases z;exact hb rfl
end
structure Un (fs ex:List S1) (H H':Hp) (h h':Sb):Prop where
 keep:∀b o,h.get? b=some o->H b=none->b∉fs->b∉ex->h'.get? b=some o
 slot:∀b o,h.get? b=some o->H b=none->b∈fs->b∉ex->∃sl,h'.get? b=some {o with slots:=sl}
 free:∀b o,h.get? b=some o->H b=none->b∉ex->H' b=none
 there:∀b o,h.get? b=some o->b∉ex->∃o',h'.get? b=some o'
 tups:∀b xs,H b=some (.tup xs)->H' b=some (.tup xs)
 frzs:∀b o u,H b=some (.frz o u)->H' b=some (.frz o u)
 tbls:∀b ps,H b=some (.tbl ps)->∃more,H' b=some (.tbl (ps++more))
section
variable {fs fs' ex ex':List S1} {H H1 H2:Hp} {h h1 h2 h':Sb} {a x e:S1} {o:HO}
theorem Un.any (u:Un fs ex H H1 h h1) (q:h.get? b=some ob) (n:H b=none) (hx:b∉ex):∃sl,h1.get? b=some {ob with slots:=sl}:=by
 by_cases hb:b∈fs
 ·exact u.slot b ob q n hb hx
 ·exact ⟨ob.slots,u.keep b ob q n hb hx⟩
theorem Un.trans (a:Un fs ex H H1 h h1) (b:Un fs ex H1 H2 h1 h2):Un fs ex H H2 h h2 where
 keep:=λc ob q n hc hx=>b.keep c ob (a.keep c ob q n hc hx) (a.free c ob q n hx) hc hx
 slot:=λc ob q n hc hx=>by
  obtain ⟨sl,e1⟩:=a.slot c ob q n hc hx;obtain ⟨sl',e2⟩:=b.slot c _ e1 (a.free c ob q n hx) hc hx;exact ⟨sl',e2⟩
 free:=λc ob q n hx=>by
  obtain ⟨o',e1⟩:=a.there c ob q hx;exact b.free c o' e1 (a.free c ob q n hx) hx
 there:=λc ob q hx=>by
  obtain ⟨o',e1⟩:=a.there c ob q hx;exact b.there c o' e1 hx
 tups:=λc xs q=>b.tups c xs (a.tups c xs q)
 frzs:=λc ob xs q=>b.frzs c ob xs (a.frzs c ob xs q)
 tbls:=λc ps q=>by
  obtain ⟨m1,e1⟩:=a.tbls c ps q;obtain ⟨m2,e2⟩:=b.tbls c _ e1;exact ⟨m1++m2,by rw [e2,Array.append_assoc]⟩
theorem Un.kept (k:∀b u,h.get? b=some u->h'.get? b=some u):Un fs ex H H h h':=
 ⟨λb ob q _ _ _=>k b ob q,λb ob q _ _ _=>⟨ob.slots,k b ob q⟩,λ_ _ _ n _=>n,λb ob q _=>⟨ob,k b ob q⟩,λ_ _ q=>q,λ_ _ _ q=>q,λ_ ps q=>⟨#[],by rw [q];simp⟩⟩
theorem Un.refl:Un fs ex H H h h:=Un.kept λ_ _ q=>q
theorem Un.laid (k:∀b u,h.get? b=some u->h'.get? b=some u) (hp:h.objs.size<=a) (hn:H a=none):Un fs ex H (upd H a o) h h' where
 keep:=λb u q _ _ _=>k b u q
 slot:=λb u q _ _ _=>⟨u.slots,k b u q⟩
 free:=λb u q n _=>by rw [Jnc (yy (yao (yk q) hp))];exact n
 there:=λb u q _=>⟨u,k b u q⟩
 tups:=λb xs q=>by rw [Jnc (Jnd q hn)];exact q
 frzs:=λb u xs q=>by rw [Jnc (Jnd q hn)];exact q
 tbls:=λb ps q=>⟨#[],by rw [Jnc (Jnd q hn),q];simp⟩
theorem Un.write (mu:Mut (H x)) (he:e=x\/H e=some (.own x)) (k:∀b u,b≠e->h.get? b=some u->h'.get? b=some u) (heo:∃u,h'.get? e=some u):Un fs ex H (upd H x o) h h':=by
 have hx:∀b,H b=none->b≠x:=λb n z=>by subst z;rw [n] at mu;exact mu
 have hb:∀b,H b=none->b≠e:=λb n z=>by
  subst z;rcases he with r|r
  ·exact hx b n r
  ·rw [n] at r;cases r
 have hm:∀b u,H b=some u->¬Mut (some u)->b≠x:=λb u q nm z=>by subst z;rw [q] at mu;exact nm mu
 refine ⟨λb u q n _ _=>k b u (hb b n) q,λb u q n _ _=>⟨u.slots,k b u (hb b n) q⟩,λb u q n _=>by rw [Jnc (hx b n)];exact n,λb u q _=>?_,
  λb xs q=>by rw [Jnc (hm b _ q λz=>z)];exact q,λb u xs q=>by rw [Jnc (hm b _ q λz=>z)];exact q,λb ps q=>⟨#[],by rw [Jnc (hm b _ q λz=>z),q];simp⟩⟩
 by_cases hbe:b=e
 ·subst hbe;exact heo
 ·exact ⟨u,k b u hbe q⟩
end
noncomputable def trk (h:Sb) (H:Hp):List S1:=(yav h.objs.size).filter λa=>(H a).isSome
noncomputable def Y7 (h:Sb) (H:Hp):Sb:=PySem.W.hideAll h (trk h H)
theorem Yci (h) (H):(Y7 h H).objs.size=h.objs.size:=PySem.W.hideAll_size _ _
theorem Ye2 {H} {b} {o} (e:h.get? b=some o) (n:H b=none):(Y7 h H).get? b=some o:=
 PySem.W.hideAll_get _ e λhm=>by
  have q:=(List.mem_filter.mp hm).2;rw [n] at q;simp at q
theorem Ygf (e:(Y7 h H).get? b=some o):h.get? b=some o/\H b=none:=by
 have e':=PySem.W.of_hideAll (trk h H) e;refine ⟨e',?_⟩;cases q:H b with
 |none=>rfl
 |some x=>
  have hm:b∈trk h H:=List.mem_filter.mpr ⟨ybu.mpr (yk e'),by simp [q]⟩;have z:(Y7 h H).get? b=none:=PySem.W.hideAll_none (trk h H) hm;rw [z] at e;cases e
structure Mod (K:Sd) (mg:Str->Option S2) (base:Sb):Prop where
 kin:K.In base
 glob:base.Ns mainGlobals mg
 blt:∃mb,base.Ns builtinsNs mb/\∀x:Str,x≠"__name__" ->mb x=bootBuiltins x
 nolimit:base.NoLimit
structure Cx where
 prog:S7
 w:S9
 K:Sd
 mg:Str->Option S2
 base:Sb
 A:Sa
 N:List Str
 s₀:S3
 H₀:Hp
 env:Env
 outer:List Env
 stack:List Env
 ex:List S1
 fn:Str->Bool
 calm:Bool
 pn:List (S1×Obj)
 xe:S2->S3->Prop
noncomputable def frs (l:List Env):List S1:=l.filterMap (·.frame)
noncomputable abbrev Cx.fs (X:Cx):List S1:=frs X.outer
noncomputable def Vis (sc:Scope) (x:Str):Prop:=sc.names.lookup x=some .local\/sc.names.lookup x=some .cell\/sc.names.lookup x=some .free
noncomputable def Loc (sc:Scope) (x:Str):Prop:=sc.names.lookup x=some .local\/sc.names.lookup x=some .cell
noncomputable def Svs (env:Env) (h:Sb) (m:Str->Option S2) (x:Str) (u:S2):Prop:=
 (env.kindOf x=some .local/\m x=some u)\/((env.kindOf x=some .cell\/env.kindOf x=some .free)/\∃c,env.cells.lookup x=some c/\h.IsCell c (some u))
structure Cx.Ok (X:Cx):Prop where
 mod:Mod X.K X.mg X.base
 kind:X.env.scope.kind= .function
 glob:X.env.globals=mainGlobals
 blt:X.env.builtins=builtinsNs
 above:X.s₀.heap.objs.size<=X.env.locals
 inj:∀x y c,X.env.cells.lookup x=some c->X.env.cells.lookup y=some c->x=y
 has:∀x,(X.env.kindOf x=some .cell\/X.env.kindOf x=some .free)->∃c,X.env.cells.lookup x=some c
 cab:∀x c,X.fn x=true->X.env.cells.lookup x=some c->X.s₀.heap.objs.size<=c
 hd:X.calm=true->X.A.handled=none
 frames:X.A.frames=some X.stack
 stk:X.stack=X.outer\/(X.stack=X.env::X.outer/\X.env.frame=some X.env.locals)
 exf:∀b∈X.ex,b≠X.env.locals/\∀x c,X.env.cells.lookup x=some c->c≠b
 bs:∀b o,X.base.get? b=some o->X.s₀.heap.get? b=some o/\X.H₀ b=none
 bsz:X.base.objs.size<=X.s₀.heap.objs.size
 noex:∀b o,X.base.get? b=some o->b∉X.ex
 exfs:∀b∈X.ex,b∉X.fs
 funs:X.s₀.heap.FunFrames X.base X.outer
 frf:∀b∈X.fs,X.H₀ b=none
structure Sm (X:Cx) (pins:List (S1×Obj)) (σ:List (Option V)) (H:Hp) (s:S3):Prop where
 ok:X.Ok
 os:s.os=X.s₀.os
 bare:AllBare s.gens
 base:Un X.fs X.ex X.H₀ H X.s₀.heap s.heap
 loc:∃m,s.heap.Ns X.env.locals m/\∀(i:Nat) (x:Str) (v:V),X.N[i]?=some x->σ[i]?=some (some v)->Vis X.env.scope x->∃u,Sz v u/\Svs X.env s.heap m x u
 cell:∀x c,X.env.cells.lookup x=some c->∃v,s.heap.IsCell c v
 free:H X.env.locals=none
 freeC:∀x c,X.env.cells.lookup x=some c->H c=none\/(X.fn x=false/\∃o,H c=some (Swx o))
 pin:∀p∈X.pn++pins,s.heap.get? p.1=some p.2/\H p.1=none/\p.1≠X.env.locals/\p.1∉X.fs/\∀v,p.2.data≠ .cell v
 hok:HOk X.prog X.w H s.heap
 len:σ.length=X.N.length
section
variable {X:Cx} {pins:List (S1×Obj)} {σ:List (Option V)} {H H':Hp} {s:S3} {h':Sb}
theorem Cx.Ok.nofr (ok:X.Ok) (e:X.base.get? b=some o):b∉X.fs:=λhb=>by
 have:=(ok.funs.mem hb).1;rw [e] at this;cases this
theorem Sm.bs (I:Sm X pins σ H s):∀b o,X.base.get? b=some o->s.heap.get? b=some o/\H b=none:=λb o e=>
 ⟨I.base.keep b o (I.ok.bs b o e).1 (I.ok.bs b o e).2 (I.ok.nofr e) (I.ok.noex b o e),I.base.free b o (I.ok.bs b o e).1 (I.ok.bs b o e).2 (I.ok.noex b o e)⟩
theorem Sm.bk (I:Sm X pins σ H s):∀b o,X.base.get? b=some o->s.heap.get? b=some o:=λb o e=>(I.bs b o e).1
theorem Sm.mod (I:Sm X pins σ H s):Mod X.K X.mg X.base:=I.ok.mod
theorem Sm.kIn (I:Sm X pins σ H s):X.K.In s.heap:=I.ok.mod.kin.keeps I.bk
theorem Sm.lt (I:Sm X pins σ H s):X.env.locals < s.heap.objs.size:=let ⟨_,hn,_⟩:=I.loc;hn.lt
theorem Sm.sz (I:Sm X pins σ H s):X.s₀.heap.objs.size<=s.heap.objs.size:=yae I.ok.above (yce I.lt)
theorem Sm.nofs (I:Sm X pins σ H s) (h:s.heap.objs.size<=a):a∉X.fs:=λhb=>by
 obtain ⟨_,o,ho,_⟩:=I.ok.funs.mem hb;exact absurd (yao (yk ho) (yae I.sz h)) (ybg _)
theorem Sm.cne (I:Sm X pins σ H s):∀x c,X.env.cells.lookup x=some c->c≠X.env.locals:=λx c e z=>by
 obtain ⟨v,o,ho,hd⟩:=I.cell x c e;obtain ⟨m,⟨o',es,ep,ho',hd',_⟩,_⟩:=I.loc;rw [z,ho'] at ho;cases ho;rw [hd'] at hd;cases hd
theorem Sm.funs (I:Sm X pins σ H s):s.heap.FunFrames X.base X.outer:=by
 have all:∀l,(∀b∈frs l,b∈X.fs)->X.s₀.heap.FunFrames X.base l->s.heap.FunFrames X.base l:=by
  intro l
  induction l with
  |nil=>intro _ _;trivial
  |cons env r ih=>
   rintro hs ⟨hk,⟨L,o,hf,hn,ho,hd⟩,hr⟩;have hL:=hs L (by unfold frs;rw [List.filterMap_cons,hf];exact yah);obtain ⟨sl,e⟩:=I.base.slot L o ho (I.ok.frf L hL) hL λz=>I.ok.exfs L z hL;exact ⟨hk,⟨L,_,hf,hn,e,hd⟩,ih (λb hb=>hs b (by unfold frs;rw [List.filterMap_cons,hf];exact yac _ hb)) hr⟩
 exact all X.outer (λ_ hb=>hb) I.ok.funs
theorem Sm.stack (I:Sm X pins σ H s):s.heap.FunFrames X.base X.stack:=by
 rcases I.ok.stk with e|⟨e,hf⟩
 ·rw [e];exact I.funs
 ·rw [e];obtain ⟨m,hn,_⟩:=I.loc;exact .cons (by rw [I.ok.kind];decide) hf hn (Heap.get?_none_of_le (yae I.ok.bsz I.ok.above)) I.funs
theorem Sm.stkSub (I:Sm X pins σ H s):∀b∈frs X.stack,b∈X.env.locals::X.fs:=λb hb=>by
 rcases I.ok.stk with e|⟨e,hf⟩
 ·rw [e] at hb;exact yac _ hb
 ·rw [e] at hb;unfold frs at hb;rw [List.filterMap_cons,hf] at hb;exact hb
theorem Sm.stkFree (I:Sm X pins σ H s):∀b∈frs X.stack,H b=none:=λb hb=>by
 rcases yo.mp (I.stkSub b hb) with e|hb
 ·rw [e];exact I.free
 ·obtain ⟨_,o,ho,_⟩:=I.ok.funs.mem hb;exact I.base.free b o ho (I.ok.frf b hb) λz=>I.ok.exfs b z hb
theorem Sm.step {ch:List S1} (I:Sm X pins σ H s)
  (hch:∀b∈ch,(b∈X.ex\/X.s₀.heap.objs.size<=b)/\b≠X.env.locals/\(∀x c,X.env.cells.lookup x=some c->c≠b)/\∀p∈X.pn++pins,p.1≠b)
  (keep:∀b o,b≠X.env.locals->b∉X.fs->b∉ch->s.heap.get? b=some o->H b=none->h'.get? b=some o)
  (slot:∀b o,b≠X.env.locals->b∈X.fs->b∉ch->s.heap.get? b=some o->H b=none->∃sl,h'.get? b=some {o with slots:=sl}) (free:∀b o,b∉ch->s.heap.get? b=some o->H b=none->H' b=none)
  (there:∀b o,b∉ch->s.heap.get? b=some o->∃o',h'.get? b=some o')
  (tups:∀b xs,H b=some (.tup xs)->H' b=some (.tup xs)) (frzs:∀b o u,H b=some (.frz o u)->H' b=some (.frz o u)) (tbls:∀b ps,H b=some (.tbl ps)->∃more,H' b=some (.tbl (ps++more)))
  (ns:∀m,s.heap.Ns X.env.locals m->h'.Ns X.env.locals m) (hok:HOk X.prog X.w H' h') (hg:AllBare g'):
  Sm X pins σ H' {s with heap:=h',gens:=g',drawn:=d',toks:=t'}:=by
 have neL:∀b o,X.s₀.heap.get? b=some o->b≠X.env.locals:=λb o e=>yy (yao (yk e) I.ok.above);have neC:∀b o,X.s₀.heap.get? b=some o->b∉X.ex->b∉ch:=λb o e hx hb=>by
  rcases (hch b hb).1 with z|z
  ·exact hx z
  ·exact absurd (yao (yk e) z) (ybg _)
 have cellK:∀x c,X.env.cells.lookup x=some c->∀v,s.heap.IsCell c v->h'.IsCell c v:=λx c e v ⟨o,ho,hd⟩=>by
  have nch:=λz=>(hch c z).2.2.1 x c e rfl;rcases I.freeC x c e with n|⟨_,ob,q⟩
  ·by_cases hc:c∈X.fs
   ·obtain ⟨sl,q⟩:=slot c o (I.cne x c e) hc nch ho n;exact ⟨_,q,hd⟩
   ·exact ⟨o,keep c o (I.cne x c e) hc nch ho n,hd⟩
  ·obtain ⟨e1,_⟩:=I.hok c _ q;obtain ⟨e2,_⟩:=hok c _ (frzs c ob _ q);rw [ho] at e1;cases e1;exact ⟨_,e2,hd⟩
 refine ⟨I.ok,I.os,hg,⟨λb o e n hb hx=>?_,λb o e n hb hx=>?_,λb o e n hx=>?_,λb o e hx=>?_,λb xs e=>tups b xs (I.base.tups b xs e),λb o xs e=>frzs b o xs (I.base.frzs b o xs e),λb ps e=>?_⟩,?_,λx c e=>?_,?_,λx c e=>?_,λp hp=>?_,hok,I.len⟩
 ·exact keep b o (neL b o e) hb (neC b o e hx) (I.base.keep b o e n hb hx) (I.base.free b o e n hx)
 ·obtain ⟨sl,e1⟩:=I.base.slot b o e n hb hx;obtain ⟨sl',e2⟩:=slot b _ (neL b o e) hb (neC b o e hx) e1 (I.base.free b o e n hx);exact ⟨sl',e2⟩
 ·obtain ⟨o',e1⟩:=I.base.there b o e hx;exact free b o' (neC b o e hx) e1 (I.base.free b o e n hx)
 ·obtain ⟨o',e1⟩:=I.base.there b o e hx;exact there b o' (neC b o e hx) e1
 ·obtain ⟨m1,e1⟩:=I.base.tbls b ps e;obtain ⟨m2,e2⟩:=tbls b _ e1;exact ⟨m1++m2,by rw [e2,Array.append_assoc]⟩
 ·obtain ⟨m,hn,hl⟩:=I.loc;refine ⟨m,ns m hn,λi x v e1 e2 e3=>?_⟩;obtain ⟨u,r,l⟩:=hl i x v e1 e2 e3;refine ⟨u,r,?_⟩;rcases l with l|⟨k,c,e,z⟩
  ·exact .inl l
  ·exact .inr ⟨k,c,e,cellK x c e _ z⟩
 ·obtain ⟨v,z⟩:=I.cell x c e;exact ⟨v,cellK x c e v z⟩
 ·obtain ⟨m,⟨o,_,_,ho,_⟩,_⟩:=I.loc;exact free _ o (λz=>(hch _ z).2.1 rfl) ho I.free
 ·obtain ⟨v,o,ho,hd⟩:=I.cell x c e;rcases I.freeC x c e with n|⟨hf,ob,q⟩
  ·exact .inl (free c o (λz=>(hch c z).2.2.1 x c e rfl) ho n)
  ·exact .inr ⟨hf,ob,frzs c ob _ q⟩
 ·obtain ⟨e,n,ne,nf,d⟩:=I.pin p hp;have nch:=λz=>(hch p.1 z).2.2.2 p hp rfl;exact ⟨keep p.1 p.2 ne nf nch e n,free p.1 p.2 nch e n,ne,nf,d⟩
theorem Sm.un (I:Sm X pins σ H s) (u:Un X.fs [] H H' s.heap h') (hok:HOk X.prog X.w H' h'):Sm X pins σ H' {s with heap:=h',toks:=t'}:=by
 obtain ⟨m,⟨o,es,ep,ho,r⟩,_⟩:=id I.loc;obtain ⟨sl,hL⟩:=u.any ho I.free (by simp);exact I.step (ch:=[]) (λ_ z=>nomatch z) (λb o _ hb _ e n=>u.keep b o e n hb (by simp)) (λb o _ hb _ e n=>u.slot b o e n hb (by simp)) (λb o _ e n=>u.free b o e n (by simp)) (λb o _ e=>u.there b o e (by simp)) u.tups u.frzs u.tbls (λm' hm=>by
  obtain ⟨o',es',ep',ho',r'⟩:=hm;rw [ho] at ho';cases ho';exact ⟨_,es',ep',hL,r'⟩) hok I.bare
theorem Sm.call (I:Sm X pins σ H s) (u:Un (frs X.stack) ch H H' s.heap h') (hok:HOk X.prog X.w H' h') (hg:AllBare g')
  (hch:∀b∈ch,(b∈X.ex\/X.s₀.heap.objs.size<=b)/\b≠X.env.locals/\(∀x c,X.env.cells.lookup x=some c->c≠b)/\∀p∈X.pn++pins,p.1≠b):
  Sm X pins σ H' {s with heap:=h',gens:=g',drawn:=d',toks:=t'}:=by
 obtain ⟨m,⟨o,es,ep,ho,r⟩,_⟩:=id I.loc;obtain ⟨sl,hL⟩:=u.any ho I.free λz=>(hch _ z).2.1 rfl;exact I.step hch (λb o hL hb hc e n=>u.keep b o e n (λz=>(yo.mp (I.stkSub b z)).elim hL hb) hc) (λb o _ _ hc e n=>u.any e n hc) (λb o hc e n=>u.free b o e n hc) (λb o hc e=>u.there b o e hc) u.tups u.frzs u.tbls (λm' hm=>by
  obtain ⟨o',es',ep',ho',r'⟩:=hm;rw [ho] at ho';cases ho';exact ⟨_,es',ep',hL,r'⟩) hok hg
theorem Sm.turned (I:Sm X pins σ H s) (k:∀b o,b≠it->s.heap.get? b=some o->h'.get? b=some o) (hn:H it=none) (hL:it≠X.env.locals)
  (h1:it∈X.ex\/X.s₀.heap.objs.size<=it) (h2:∀x c,X.env.cells.lookup x=some c->c≠it) (h3:∀p∈X.pn++pins,p.1≠it):Sm X pins σ H {s with heap:=h',toks:=t'}:=by
 have nit:∀b u,H b=some u->b≠it:=λb u e z=>by rw [z,hn] at e;cases e
 refine I.step (ch:=[it]) (λb hb=>?_) (λb o _ _ hc e _=>k b o (λz=>hc (by simp [z])) e) (λb o _ _ hc e _=>⟨o.slots,k b o (λz=>hc (by simp [z])) e⟩) (λ_ _ _ _ n=>n)
  (λb o hc e=>⟨o,k b o (λz=>hc (by simp [z])) e⟩) (λ_ _ e=>e) (λ_ _ _ e=>e) (λb ps e=>⟨#[],by rw [e];simp⟩) (λm hm=>?_) (λb u e=>?_) I.bare
 ·have e:=by simpa using hb
  subst e;exact ⟨h1,hL,h2,h3⟩
 ·obtain ⟨o,es,ep,ho,r⟩:=hm;exact ⟨o,es,ep,k _ o (yx hL) ho,r⟩
 ·refine (I.hok b u e).stay (λc v hc q=>k c v ?_ q) (λ_ q=>q) (λ_ _ q=>q) λ_ _ q=>q;rcases hc with z|z
  ·rw [z];exact nit b u e
  ·exact nit c _ z
theorem Sm.tok (I:Sm X pins σ H s) (t):Sm X pins σ H {s with toks:=t}:=I.un Un.refl I.hok
theorem Sm.kept (I:Sm X pins σ H s) (k:∀b u,s.heap.get? b=some u->h'.get? b=some u):Sm X pins σ H {s with heap:=h',toks:=t'}:=I.un (Un.kept k) (I.hok.kept k)
theorem Sm.laid (I:Sm X pins σ H s) (k:∀b u,s.heap.get? b=some u->h'.get? b=some u) (hp:s.heap.objs.size<=a) (new:Sah X.prog X.w (upd H a o) h' a o):
  Sm X pins σ (upd H a o) {s with heap:=h',toks:=t'}:=I.un (Un.laid k hp (I.hok.fresh hp)) (I.hok.laid k hp new)
theorem Sm.write (I:Sm X pins σ H s) (mu:Mut (H x)) (he:e=x\/H e=some (.own x)) (k:∀b u,b≠e->s.heap.get? b=some u->h'.get? b=some u) (heo:∃u,h'.get? e=some u)
  (new:Sah X.prog X.w (upd H x o) h' x o):Sm X pins σ (upd H x o) {s with heap:=h',toks:=t'}:=I.un (Un.write mu he k heo) (I.hok.write mu he k heo new)
theorem Sm.pins_of (I:Sm X pins σ H s) (h:∀p∈pins',s.heap.get? p.1=some p.2/\H p.1=none/\p.1≠X.env.locals/\p.1∉X.fs/\∀v,p.2.data≠ .cell v):Sm X pins' σ H s:=
 ⟨I.ok,I.os,I.bare,I.base,I.loc,I.cell,I.free,I.freeC,λp hp=>(yay.mp hp).elim (λz=>I.pin p (ycs _ z)) (h p),I.hok,I.len⟩
theorem Jwo {N:List Str} (hN:N.Nodup) {i:Nat} (a:N[i]?=some x) (b:N[j]?=some x):i=j:=by
 obtain ⟨h1,e1⟩:=yj.mp a;obtain ⟨h2,e2⟩:=yj.mp b;exact (List.getElem_inj hN).mp (e1.trans e2.symm)
theorem Jyn {E} {i} {x} {v} {u} {Q} (I:Sm X pins σ H s) (hN:X.N.Nodup) (hi:X.N[i]?=some x) (hx:Loc X.env.scope x) (r:Sz v u)
  (h:∀s',Sm X pins (σ.set i (some v)) H s'->(∃a,ybh a s.heap s'.heap/\(a=X.env.locals\/X.env.cells.lookup x=some a))->Q () s') (hf:X.fn x=true\/X.env.scope.names.lookup x=some .local:=by first|exact .inl rfl|exact .inr rfl|assumption):Sc M A (storeName X.env x u) Q E s:=by
 obtain ⟨m,hn,hl⟩:=id I.loc;have hcls:(X.env.scope.kind== .class||(X.env.scope.kind== .module&&X.env.locals !=X.env.globals))=false:=by rw [I.ok.kind];rfl
 have hiσ:i < σ.length:=by rw [I.len];exact (yj.mp hi).1
 have cne:=I.cne;have tracked:∀{a:S1} {h':Sb},(∃o,s.heap.get? a=some o/\H a=none)->ybh a s.heap h'->HOk X.prog X.w H h':=λ{a h'} ha hs b ob e=>by
  obtain ⟨_,_,hfree⟩:=ha;refine (I.hok b ob e).stay (λc w' hc q=>(hs.2 c ?_).trans q) (λ_ q=>q) (λ_ _ q=>q) λ_ _ q=>q;rintro rfl;rcases hc with rfl|hc
  ·rw [hfree] at e;cases e
  ·rw [hfree] at hc;cases hc
 rcases hx with hk|hk
 ·refine wpAny_storeName_local hk hn (λh' hn' hs=>?_) hcls;obtain ⟨oL,_,_,hoL,_⟩:=id hn;refine h _ ⟨I.ok,I.os,I.bare,⟨λb o e n hb hx=>?_,λb o e n hb hx=>?_,I.base.free,λb o e hx=>?_,I.base.tups,I.base.frzs,I.base.tbls⟩,⟨_,hn',λj y v' e1 e2 e3=>?_⟩,λy c e=>?_,I.free,I.freeC,λp hp=>?_,tracked ⟨oL,hoL,I.free⟩ hs,by simpa using I.len⟩ ⟨_,hs,.inl rfl⟩
  ·exact (hs.2 b (yy (yao (yk e) I.ok.above))).trans (I.base.keep b o e n hb hx)
  ·obtain ⟨sl,e1⟩:=I.base.slot b o e n hb hx;exact ⟨sl,(hs.2 b (yy (yao (yk e) I.ok.above))).trans e1⟩
  ·obtain ⟨o',e1⟩:=I.base.there b o e hx;exact ⟨o',(hs.2 b (yy (yao (yk e) I.ok.above))).trans e1⟩
  ·by_cases hj:j=i
   ·subst hj;rw [hi] at e1;cases e1;rw [List.getElem?_set_self hiσ] at e2;cases e2;exact ⟨u,r,.inl ⟨hk,by simp⟩⟩
   ·rw [List.getElem?_set_ne (yx hj)] at e2;obtain ⟨u',r',q⟩:=hl j y v' e1 e2 e3;refine ⟨u',r',?_⟩;rcases q with ⟨k,e⟩|⟨k,c,e,z⟩
    ·refine .inl ⟨k,?_⟩;have:y≠x:=λe=>hj (Jwo hN e1 (e▸hi));simp [this,e]
    ·exact .inr ⟨k,c,e,z.sameBut hs (cne y c e)⟩
  ·obtain ⟨w',z⟩:=I.cell y c e;exact ⟨w',z.sameBut hs (cne y c e)⟩
  ·obtain ⟨e,n,ne,nf,d⟩:=I.pin p hp;exact ⟨(hs.2 p.1 ne).trans e,n,ne,nf,d⟩
 ·have hfn:X.fn x=true:=by
   rcases hf with z|z
   ·exact z
   ·rw [z] at hk;cases hk
  obtain ⟨c,hc⟩:=I.ok.has x (.inl hk);obtain ⟨w',z⟩:=I.cell x c hc;refine wpAny_storeName_cell I.ok.kind hk hc z (λh' hc' hs=>?_);obtain ⟨oc,hoc,hocd⟩:=id z;refine h {s with heap:=h'} ⟨I.ok,I.os,I.bare,⟨λb o e n hb hx=>?_,λb o e n hb hx=>?_,I.base.free,λb o e hx=>?_,I.base.tups,I.base.frzs,I.base.tbls⟩,⟨m,hn.sameBut hs (yx (cne x c hc)),λj y v' e1 e2 e3=>?_⟩,λy c' e=>?_,I.free,I.freeC,λp hp=>?_,tracked ⟨oc,hoc,(I.freeC x c hc).elim id λz=>by rw [hfn] at z;cases z.1⟩ hs,by simpa using I.len⟩ ⟨c,hs,.inr hc⟩
  ·exact (hs.2 b (yy (yao (yk e) (I.ok.cab x c hfn hc)))).trans (I.base.keep b o e n hb hx)
  ·obtain ⟨sl,e1⟩:=I.base.slot b o e n hb hx;exact ⟨sl,(hs.2 b (yy (yao (yk e) (I.ok.cab x c hfn hc)))).trans e1⟩
  ·obtain ⟨o',e1⟩:=I.base.there b o e hx;exact ⟨o',(hs.2 b (yy (yao (yk e) (I.ok.cab x c hfn hc)))).trans e1⟩
  ·by_cases hj:j=i
   ·subst hj;rw [hi] at e1;cases e1;rw [List.getElem?_set_self hiσ] at e2;cases e2;exact ⟨u,r,.inr ⟨.inl hk,c,hc,hc'⟩⟩
   ·rw [List.getElem?_set_ne (yx hj)] at e2;obtain ⟨u',r',q⟩:=hl j y v' e1 e2 e3;refine ⟨u',r',?_⟩;rcases q with q|⟨k,c',e,z'⟩
    ·exact .inl q
    ·refine .inr ⟨k,c',e,z'.sameBut hs ?_⟩;rintro rfl;exact hj (Jwo hN e1 (I.ok.inj _ _ _ e hc▸hi))
  ·by_cases hcc:c'=c
   ·subst hcc;exact ⟨_,hc'⟩
   ·obtain ⟨w2,z2⟩:=I.cell y c' e;exact ⟨w2,z2.sameBut hs hcc⟩
  ·obtain ⟨e,n,ne,nf,d⟩:=I.pin p hp;refine ⟨(hs.2 p.1 ?_).trans e,n,ne,nf,d⟩;intro q;rw [q,hoc] at e;exact d w' (by rw [<-(yz.inj e)];exact hocd)
theorem Jua {i} {x} {v} {u} {Q} (I:Sm X pins σ H s) (hN:X.N.Nodup) (hi:X.N[i]?=some x) (hx:Loc X.env.scope x) (r:Sz v u)
  (h:∀s',Sm X pins (σ.set i (some v)) H s'->Q () s') (hf:X.fn x=true\/X.env.scope.names.lookup x=some .local:=by first|exact .inl rfl|exact .inr rfl|assumption):Sc M A (storeName X.env x u) Q E s:=
 Jyn I hN hi hx r (λs' I' _=>h s' I') hf
theorem Sm.call' (I:Sm X pins σ H s) (ho:s'.os=s.os) (u:Un (frs X.stack) ch H H' s.heap s'.heap) (hok:HOk X.prog X.w H' s'.heap) (hg:AllBare s'.gens)
  (hch:∀b∈ch,(b∈X.ex\/X.s₀.heap.objs.size<=b)/\b≠X.env.locals/\(∀x c,X.env.cells.lookup x=some c->c≠b)/\∀p∈X.pn++pins,p.1≠b):Sm X pins σ H' s':=by
 obtain ⟨h',g',d',t',o'⟩:=s';subst ho;exact I.call u hok hg hch
end
noncomputable abbrev XK:=S2->Option S1->Hp->Prop
noncomputable abbrev St:=List (Option V)
noncomputable abbrev VK:=V->Hp->Prop
noncomputable abbrev TE:=St->Hp->VK->Prop
noncomputable abbrev TT:=St->Hp->(Bool->Hp->Prop)->Prop
noncomputable abbrev TA:=St->Hp->(List V->Hp->Prop)->Prop
structure Sc2 where
 nx:St->Hp->Prop
 rt:VK
 bk:St->Hp->Prop:=λ_ _=>False
 ct:St->Hp->Prop:=λ_ _=>False
noncomputable abbrev TS:=Sc2->St->Hp->Prop
noncomputable def EP (X:Cx) (pins:List (S1×Obj)) (σ:St) (Q:VK) (u:S2) (s':S3):Prop:=∃v H',Sm X pins σ H' s'/\Sz v u/\Q v H'
noncomputable def TP (X:Cx) (pins:List (S1×Obj)) (σ:St) (Q:Bool->Hp->Prop) (b:Bool) (s':S3):Prop:=∃H',Sm X pins σ H' s'/\Q b H'
noncomputable def AP (X:Cx) (pins:List (S1×Obj)) (σ:St) (Q:List V->Hp->Prop) (us:List S2) (s':S3):Prop:=∃vs H',Sm X pins σ H' s'/\Sx vs us/\Q vs H'
noncomputable def SP (X:Cx) (pins:List (S1×Obj)) (D:Sc2) (f:Flow) (s':S3):Prop:=
 match f with
 | .next=>∃σ' H',Sm X pins σ' H' s'/\D.nx σ' H'
 | .brk=>∃σ' H',Sm X pins σ' H' s'/\D.bk σ' H'
 | .cont=>∃σ' H',Sm X pins σ' H' s'/\D.ct σ' H'
 | .ret u=>∃v σ' H',Sm X pins σ' H' s'/\Sz v u/\D.rt v H'
noncomputable def PE (X:Cx) (e:Expr) (t:TE):Prop:=
 ∀(pins:List (S1×Obj)) (s:S3) (σ:St) (H:Hp) (Q:VK),Sm X pins σ H s->t σ H Q->Sc (model X.prog X.w) X.A (eval e X.env) (EP X pins σ Q) X.xe s
noncomputable def PT (X:Cx) (e:Expr) (t:TT):Prop:=
 ∀(pins:List (S1×Obj)) (s:S3) (σ:St) (H:Hp) (Q:Bool->Hp->Prop),Sm X pins σ H s->t σ H Q->Sc (model X.prog X.w) X.A (isTrue e X.env (eval e X.env)) (TP X pins σ Q) X.xe s
noncomputable def PW (X:Cx) (e:Expr) (t:TT):Prop:=
 ∀(whole:Sem S2) (pins:List (S1×Obj)) (s:S3) (σ:St) (H:Hp) (Q:Bool->Hp->Prop),Sm X pins σ H s->t σ H Q->Sc (model X.prog X.w) X.A (isTrue e X.env whole) (TP X pins σ Q) X.xe s
theorem PW.pt (h:PW X e t):PT X e t:=h _
noncomputable def PA (X:Cx) (es:List Expr) (t:TA):Prop:=
 ∀(pos:Pos) (pins:List (S1×Obj)) (s:S3) (σ:St) (H:Hp) (Q:List V->Hp->Prop),Sm X pins σ H s->t σ H Q->Sc (model X.prog X.w) X.A (spliced (backTo pos (starEach es X.env))) (AP X pins σ Q) X.xe s
noncomputable def PS (X:Cx) (st:Stmt) (t:TS):Prop:=
 ∀(pins:List (S1×Obj)) (s:S3) (σ:St) (H:Hp) (D:Sc2),Sm X pins σ H s->t D σ H->Sc (model X.prog X.w) X.A (exec st X.env) (SP X pins D) X.xe s
noncomputable def PSs (X:Cx) (st:List Stmt) (t:TS):Prop:=
 ∀(pins:List (S1×Obj)) (s:S3) (σ:St) (H:Hp) (D:Sc2),Sm X pins σ H s->t D σ H->Sc (model X.prog X.w) X.A (execs st X.env) (SP X pins D) X.xe s
theorem thn (h:Sc M A t Q E s) (hQ:∀a s,Q a s->Q' a s):Sc M A t Q' E s:=wpAny_mono h hQ λ_ _ x=>x
section
variable {X:Cx}
inductive Skd (i:Nat) (σ:St) (H:Hp) (Q:VK):Prop where
 |mk (v:_) (_:σ[i]?=some (some v)) (_:Q v H)
noncomputable def tC (v:V):TE:=λ_ H Q=>Q v H
theorem Snf (hN:X.N[i]?=some x) (hv:Vis X.env.scope x) (hd:(x==("__debug__" :Str))=false:=by decide) (hcd:(x==("__classdict__" :Str))=false:=by decide):PE X (.Name x pos) (Skd i):=by
 rintro pins s σ H Q I ⟨v,e,h⟩;obtain ⟨m,hn,hl⟩:=I.loc;obtain ⟨u,r,l⟩:=hl i x v hN e hv;have fin:EP X pins σ Q u s:=⟨v,H,I,r,h⟩;rcases l with ⟨hk,hm⟩|⟨hk,c,hc,hcell⟩
 ·exact wpAny_Name (wpAny_loadName_local I.ok.kind hk hn hm fin) hd
 ·rcases hk with hk|hk
  ·exact wpAny_Name (wpAny_loadName_cell I.ok.kind hk hc hcell fin) hd
  ·exact wpAny_Name (wpAny_loadName_free I.ok.kind hk hc hcell fin hcd) hd
theorem Sr:PE X (.Constant (.int i) j pos) (tC (.int i)):=λ_ _ _ H _ I h=>wpAny_Constant_int ⟨.int i,H,I.tok _,⟨_,rfl⟩,h⟩
theorem Joy:PE X (.Constant (.bool b) j pos) (tC (.bl b)):=λ_ _ _ H _ I h=>Constant_bool ⟨.bl b,H,I,rfl,h⟩
theorem Jpp:PE X (.Constant .none j pos) (tC .non):=λ_ _ _ H _ I h=>Constant_none ⟨.non,H,I,rfl,h⟩
theorem Jpf:PE X (.Constant (.str x) j pos) (tC (.str x)):=λ_ _ _ H _ I h=>Calls.Constant_str ⟨.str x,H,I.tok _,⟨_,rfl⟩,h⟩
noncomputable def Gl (X:Cx) (x:Str):Prop:=X.env.kindOf x=some .globalImplicit
theorem Jse {pins} {s} {σ:St} {H} {x} {u} {pos} {Q} (I:Sm X pins σ H s) (hg:Gl X x) (hm:X.mg x=some u) (h:Q u s)
  (hd:(x==("__debug__" :Str))=false:=by decide):Sc (model X.prog X.w) X.A (eval (.Name x pos) X.env) Q E s:=
 Calls.Name_function_global I.ok.kind hg (Calls.loadGlobal_global (by rw [I.ok.glob];exact I.mod.glob.keeps I.bk) hm h) hd
theorem Jqf {E} {pins} {s} {σ:St} {H} {x} {u} {pos} {Q} (I:Sm X pins σ H s) (hg:Gl X x) (hm:X.mg x=none) (hv:bootBuiltins x=some u) (h:Q u s)
  (hn:x≠"__name__" :=by decide) (hd:(x==("__debug__" :Str))=false:=by decide):Sc (model X.prog X.w) X.A (eval (.Name x pos) X.env) Q E s:=by
 obtain ⟨mb,h1,h2⟩:=I.mod.blt;exact Calls.Name_function_global I.ok.kind hg (Calls.loadGlobal_builtin (by rw [I.ok.glob];exact I.mod.glob.keeps I.bk) hm (by rw [I.ok.blt];exact h1.keeps I.bk) ((h2 x hn).trans hv) h) hd
theorem Joi (hg:Gl X x) (hm:X.mg x=some u) (r:Sz v u) (hd:(x==("__debug__" :Str))=false:=by decide):PE X (.Name x pos) (tC v):=
 λ_ _ _ H _ I h=>Jse I hg hm ⟨v,H,I,r,h⟩ hd
theorem Jp6 (hg:Gl X x) (hm:X.mg x=none) (hv:bootBuiltins x=some u) (r:Sz v u) (hn:x≠"__name__" :=by decide) (hd:(x==("__debug__" :Str))=false:=by decide):PE X (.Name x pos) (tC v):=
 λ_ _ _ H _ I h=>Jqf I hg hm hv ⟨v,H,I,r,h⟩ hn hd
variable {a b:Expr} {ta tb:TE} {pos:Pos}
inductive Sxw (Q:(Bool->Hp->Prop)) (x:V) (H1:Hp):Prop where
 |mk (c:_) (_:x= .bl c) (_:Q c H1)
noncomputable def tB (t:TE):TT:=λσ H Q=>t σ H (Sxw Q)
theorem Jo2 (h:PE X e t) (he:∀whole,isTrue e X.env whole=(do let v<-whole;standAt e.pos;holding [v] (truthy v)):=by intro _;rfl):PT X e (tB t):=by
 intro pins s σ H Q I hw;refine isTrue_plain (thn (h pins s σ H _ I hw) λv s1 zq=>?_) (he _);obtain ⟨x,H1,I1,r1,q1⟩:=zq;obtain ⟨d,rfl,q⟩:=q1;cases r1;exact wpAny_truthy_bool ⟨H1,I1,q⟩
variable {tA tB':TT} {rest:List Expr}
noncomputable def Sxu (t u:TT):TT:=λσ H Q=>t σ H λc H1=>if c=true then u σ H1 Q else Q false H1
noncomputable def tOr (t u:TT):TT:=λσ H Q=>t σ H λc H1=>if c=true then Q true H1 else u σ H1 Q
noncomputable def Sy1 (t:TT):TT:=λσ H Q=>t σ H λc H1=>Q (!c) H1
theorem Ygq (ha:PT X a tA):PW X (.BoolOp .And [a] pos) tA:=by
 intro wh pins s σ H Q I h;refine isTrue_and (thn (ha pins s σ H Q I h) λc s1 e=>?_);cases c with
 |true=>exact isTrue_and_nil e
 |false=>exact e
theorem Js1 (ha:PT X a tA):PW X (.BoolOp .Or [a] pos) tA:=by
 intro wh pins s σ H Q I h;refine isTrue_or (thn (ha pins s σ H Q I h) λc s1 e=>?_);cases c with
 |false=>exact isTrue_or_nil e
 |true=>exact e
theorem Snm (ha:PT X a tA) (hb:PW X (.BoolOp .And (b::rest) pos) tB'):PW X (.BoolOp .And (a::b::rest) pos) (Sxu tA tB'):=by
 intro wh pins s σ H Q I h;refine isTrue_and (thn (ha pins s σ H _ I h) λc s1 zq=>?_);obtain ⟨H1,I1,q1⟩:=zq;cases c with
 |true=>exact hb wh pins s1 σ H1 Q I1 q1
 |false=>exact ⟨H1,I1,q1⟩
theorem Js0 (ha:PT X a tA) (hb:PW X (.BoolOp .Or (b::rest) pos) tB'):PW X (.BoolOp .Or (a::b::rest) pos) (tOr tA tB'):=by
 intro wh pins s σ H Q I h;refine isTrue_or (thn (ha pins s σ H _ I h) λc s1 zq=>?_);obtain ⟨H1,I1,q1⟩:=zq;cases c with
 |true=>exact ⟨H1,I1,q1⟩
 |false=>exact hb wh pins s1 σ H1 Q I1 q1
theorem Jo0 (ha:PT X a tA):PT X (.UnaryOp .Not a pos) (Sy1 tA):=by
 intro pins s σ H Q I h;exact isTrue_not (ha pins s σ H (λc H1=>Q (!c) H1) I h)
inductive Yhj (ta tb:TE) (σ:St) (Q:VK) (x:V) (H1:Hp):Prop where
 |mk (c:_) (_:x= .bl c) (_:if c=true then tb σ H1 Q else Q (.bl false) H1)
noncomputable def Ssh (ta tb:TE):TE:=λσ H Q=>ta σ H (Yhj ta tb σ Q)
inductive Yhn (Q:VK) (x:V) (H1:Hp):Prop where
 |mk (c:_) (_:x= .bl c) (_:Q (.bl (!c)) H1)
noncomputable def Ssq (ta:TE):TE:=λσ H Q=>ta σ H (Yhn Q)
theorem Jrz (h:PE X a t):PE X (.BoolOp op [a] pos) t:=λpins s σ H Q I hw=>BoolOp_one (h pins s σ H Q I hw)
theorem Jt9 (ha:PE X a ta) (hb:PE X (.BoolOp .And (b::rest) pos) tb):PE X (.BoolOp .And (a::b::rest) pos) (Ssh ta tb):=by
 intro pins s σ H Q I h;refine BoolOp_and (thn (ha pins s σ H _ I h) λv s1 zq=>?_);obtain ⟨x,H1,I1,r1,q1⟩:=zq;obtain ⟨c,rfl,q1⟩:=q1;cases r1;refine wpAny_truthy_bool ?_;cases c with
 |true=>exact hb pins s1 σ H1 Q I1 q1
 |false=>exact ⟨.bl false,H1,I1,rfl,q1⟩
theorem Yay (ha:PE X a ta):PE X (.UnaryOp .Not a pos) (Ssq ta):=by
 intro pins s σ H Q I h;refine UnaryOp_ (thn (ha pins s σ H _ I h) λv s1 zq=>?_);obtain ⟨x,H1,I1,r1,q1⟩:=zq;obtain ⟨c,rfl,q1⟩:=q1;cases r1;exact not_of (wpAny_truthy_bool ⟨.bl (!c),H1,I1,rfl,q1⟩)
noncomputable def tIf (t:TT) (ta tb:TE):TE:=λσ H Q=>t σ H λc H1=>if c=true then ta σ H1 Q else tb σ H1 Q
theorem Jx1 (hc:PT X c tA) (ha:PE X a ta) (hb:PE X b tb):PE X (.IfExp c a b pos) (tIf tA ta tb):=by
 intro pins s σ H Q I h;refine wpAny_IfExp (thn (hc pins s σ H _ I h) λd s1 zq=>?_);obtain ⟨H1,I1,q1⟩:=zq;cases d with
 |true=>exact ha pins s1 σ H1 Q I1 q1
 |false=>exact hb pins s1 σ H1 Q I1 q1
end
noncomputable def Ss (K:Sd) (H:Hp) (a:S1) (xs:List V):Prop:=
 Rd H a (.lst xs)\/
  ∃(o:Obj) (its:Array S2) (n:Nat),K.lookup a=some o/\o.cls= .type "list" /\o.dict=none/\o.data= .seq its n/\its.size<=S6/\Sx xs its.toList
noncomputable def Su (K:Sd) (H:Hp) (a:S1) (xs:List V):Prop:=
 Rd H a (.tup xs)\/
  ∃(o:Obj) (its:Array S2) (n:Nat),K.lookup a=some o/\o.cls= .type "tuple" /\o.data= .seq its n/\its.size<=S6/\Sx xs its.toList
noncomputable def Sww:S2->Option V
 | .none=>some .non
 | .bool b=>some (.bl b)
 | .int i _=>some (.int i)
 | .str x _=>some (.str x)
 | .bytes b _=>some (.byt b)
 | .float b _=>some (.flt b)
 | .ref a=>some (.ref a)
 | .type n=>some (.ty n)
 |_=>none
theorem Sz.abs (r:Sz x u):Sww u=some x:=by
 cases x with
 |non=>cases r;rfl
 |bl _=>cases r;rfl
 |int _=>obtain ⟨t,rfl⟩:=r;rfl
 |str _=>obtain ⟨t,rfl⟩:=r;rfl
 |byt _=>obtain ⟨t,rfl⟩:=r;rfl
 |flt _=>obtain ⟨t,rfl⟩:=r;rfl
 |ref _=>cases r;rfl
 |ty _=>cases r;rfl
theorem Sz.inj (r:Sz x u) (q:Sz y u):x=y:=yz.inj (r.abs.symm.trans q.abs)
theorem Sx.inj:∀{xs ys:List V} {us:List S2},Sx xs us->Sx ys us->xs=ys
 |_,_,_,.nil,.nil=>rfl
 |_,_,_,.cons r t,.cons r' t'=>by rw [r.inj r',Sx.inj t t']
section
variable {X:Cx} {pins:List (S1×Obj)} {σ:St} {H:Hp} {s:S3} {a:S1} {xs ys:List V}
theorem Ss.of {K} (h:H a=some (.lst xs)):Ss K H a xs:=.inl (.inl h)
theorem Su.of {K} (h:H a=some (.tup xs)):Su K H a xs:=.inl (.inl h)
theorem Sm.list (I:Sm X pins σ H s) (h:Ss X.K H a xs):∃its:List S2,Sx xs its/\PlainL s.heap a its.toArray/\xs.length<=S6:=by
 rcases h with h|⟨o,its,n,hk,hc,hd,hs,hz,r⟩
 ·obtain ⟨z,its,n,r,e⟩:=h.ok I.hok;exact ⟨its,r,⟨_,n,e,rfl,rfl,rfl⟩,z⟩
 ·refine ⟨its.toList,r,⟨o,n,I.kIn a o hk,hc,hd,by simpa using hs⟩,?_⟩;have e:=r.length;simp only [ybv] at e;omega
theorem Sm.tuple (I:Sm X pins σ H s) (h:Su X.K H a xs):∃its:List S2,Sx xs its/\IsTup s.heap a its.toArray/\xs.length<=S6:=by
 rcases h with h|⟨o,its,n,hk,hc,hs,hz,r⟩
 ·obtain ⟨z,its,r,p⟩:=h.ok I.hok;exact ⟨its,r,p,z⟩
 ·refine ⟨its.toList,r,⟨o,I.kIn a o hk,hc,n,by simpa using hs⟩,?_⟩;have e:=r.length;simp only [ybv] at e;omega
theorem Sm.list_inj (I:Sm X pins σ H s) (h:Ss X.K H a xs) (h':Ss X.K H a ys):xs=ys:=by
 obtain ⟨its,r,⟨o,n,e,_,_,d⟩,_⟩:=I.list h;obtain ⟨its',r',⟨o',n',e',_,_,d'⟩,_⟩:=I.list h';rw [e] at e';cases e';rw [d] at d';injection d' with d1 _;have:=by simpa using congrArg Array.toList d1
 subst this;exact r.inj r'
theorem Sm.tuple_inj (I:Sm X pins σ H s) (h:Su X.K H a xs) (h':Su X.K H a ys):xs=ys:=by
 obtain ⟨its,r,⟨o,e,_,n,d⟩,_⟩:=I.tuple h;obtain ⟨its',r',⟨o',e',_,n',d'⟩,_⟩:=I.tuple h';rw [e] at e';cases e';rw [d] at d';injection d' with d1 _;have:=by simpa using congrArg Array.toList d1
 subst this;exact r.inj r'
end
noncomputable abbrev Cx.wish (X:Cx) (E:S2->S3->Prop):Cx:={X with xe:=E}
noncomputable abbrev Cx.nox (X:Cx):Cx:=X.wish λ_ _=>False
theorem Cx.Ok.wish {X:Cx} (ok:X.Ok) (E):(X.wish E).Ok:=
 ⟨ok.mod,ok.kind,ok.glob,ok.blt,ok.above,ok.inj,ok.has,ok.cab,ok.hd,ok.frames,ok.stk,ok.exf,ok.bs,ok.bsz,ok.noex,ok.exfs,ok.funs,ok.frf⟩
theorem Cx.Ok.unwish {X:Cx} (ok:(X.wish E).Ok):X.Ok:=
 ⟨ok.mod,ok.kind,ok.glob,ok.blt,ok.above,ok.inj,ok.has,ok.cab,ok.hd,ok.frames,ok.stk,ok.exf,ok.bs,ok.bsz,ok.noex,ok.exfs,ok.funs,ok.frf⟩
section
variable {X:Cx} {pins:List (S1×Obj)} {σ:St} {H:Hp} {s:S3} {E:S2->S3->Prop}
theorem Sm.wish (I:Sm X pins σ H s) (E):Sm (X.wish E) pins σ H s:=⟨I.ok.wish E,I.os,I.bare,I.base,I.loc,I.cell,I.free,I.freeC,I.pin,I.hok,I.len⟩
theorem Sm.unwish (I:Sm (X.wish E) pins σ H s):Sm X pins σ H s:=⟨I.ok.unwish,I.os,I.bare,I.base,I.loc,I.cell,I.free,I.freeC,I.pin,I.hok,I.len⟩
theorem SP.unwish (h:SP (X.wish E) pins D f s'):SP X pins D f s':=by
 cases f with
 |next=>obtain ⟨σ',H',I,q⟩:=h;exact ⟨σ',H',I.unwish,q⟩
 |brk=>obtain ⟨σ',H',I,q⟩:=h;exact ⟨σ',H',I.unwish,q⟩
 |cont=>obtain ⟨σ',H',I,q⟩:=h;exact ⟨σ',H',I.unwish,q⟩
 |ret u=>obtain ⟨v,σ',H',I,r,q⟩:=h;exact ⟨v,σ',H',I.unwish,r,q⟩
theorem PSs.nox {st} (h:PSs X.nox st t):PSs X st t:=λpins s σ H D I hw=>
 wpAny_mono (h pins s σ H D (I.wish _) hw) (λ_ _ q=>q.unwish) λ_ _ z=>False.elim z
end
section
variable {X:Cx} {st:Stmt} {rest:List Stmt} {t u:TS} {e:Expr} {te:TE} {pos:Pos}
noncomputable def Slf:TS:=λD σ H=>D.nx σ H
noncomputable def Skc (t u:TS):TS:=λD σ H=>t {D with nx:=u D} σ H
theorem Jnn:PSs X [] Slf:=λ_ _ σ H _ I h=>wpAny_execs_nil ⟨σ,H,I,h⟩
theorem Sw (h1:PS X st t) (h2:PSs X rest u):PSs X (st::rest) (Skc t u):=by
 intro pins s σ H D I h;refine wpAny_execs_cons (thn (h1 pins s σ H {D with nx:=u D} I h) λf s1 q=>?_);cases f with
 |next=>
  obtain ⟨σ',H',I',q⟩:=q;exact h2 pins s1 σ' H' D I' q
 |ret v=>exact q
 |brk=>exact q
 |cont=>exact q
theorem Sy (h1:PS X st t):PSs X [st] t:=by
 intro pins s σ H D I h;refine wpAny_execs_cons (thn (h1 pins s σ H D I h) λf s1 q=>?_);cases f with
 |next=>exact wpAny_execs_nil q
 |ret v=>exact q
 |brk=>exact q
 |cont=>exact q
theorem Sm.quiet (I:Sm X pins σ H s):interactive X.env=false:=by simp [interactive,I.ok.kind]
noncomputable def Ssl (te:TE):TS:=λD σ H=>te σ H λ_ H1=>D.nx σ H1
theorem Jp5 (he:PE X e te) (hs:swapsWith e none pos.line X.env=pure false:=by rfl):PS X (.Expr e pos) (Ssl te):=by
 intro pins s σ H D I h;exact wpAny_Expr_any (thn (he pins s σ H _ I h) λv s1 ⟨x,H1,I1,r1,q1⟩=>⟨σ,H1,I1,q1⟩) I.quiet hs
noncomputable def Sy3 (te:TE):TS:=λD σ H=>te σ H D.rt
theorem Jnh (he:PE X e te):PS X (.Return (some e) pos) (Sy3 te):=by
 intro pins s σ H D I h;exact wpAny_Return_some (thn (he pins s σ H _ I h) λv s1 ⟨x,H1,I1,r1,q1⟩=>⟨x,σ,H1,I1,r1,q1⟩)
noncomputable def Sxz (c:TT) (t u:TS):TS:=λD σ H=>c σ H λb H1=>if b=true then t D σ H1 else u D σ H1
theorem Jo1 (hc:PT X c tc) (ha:PSs X a t) (hb:PSs X b u):PS X (.If c a b pos) (Sxz tc t u):=by
 intro pins s σ H D I h;refine wpAny_If (thn (hc pins s σ H _ I h) λd s1 zq=>?_);obtain ⟨H1,I1,q1⟩:=zq;cases d with
 |true=>exact ha pins s1 σ H1 D I1 q1
 |false=>exact hb pins s1 σ H1 D I1 q1
end
noncomputable abbrev TG:=V->St->Hp->(St->Hp->Prop)->Prop
noncomputable abbrev TGs:=List V->St->Hp->(St->Hp->Prop)->Prop
noncomputable def PG (X:Cx) (target:Expr) (t:TG):Prop:=
 ∀(pins:List (S1×Obj)) (s:S3) (σ:St) (H:Hp) (v:V) (u:S2) (Q:St->Hp->Prop),Sm X pins σ H s->Sz v u->t v σ H Q->
  Sc (model X.prog X.w) X.A (assign target X.env u) (λ_ s'=>∃σ' H',Sm X pins σ' H' s'/\Q σ' H') X.xe s
noncomputable def PGs (X:Cx) (ts:List Expr) (t:TGs):Prop:=
 ∀(pins:List (S1×Obj)) (s:S3) (σ:St) (H:Hp) (vs:List V) (us:List S2) (Q:St->Hp->Prop),Sm X pins σ H s->Sx vs us->t vs σ H Q->
  Sc (model X.prog X.w) X.A (assignInOrder ((assignEach ts X.env).map (·.2)) us) (λ_ s'=>∃σ' H',Sm X pins σ' H' s'/\Q σ' H') X.xe s
noncomputable abbrev Sm8:=V->V->V->Hp->(Hp->Prop)->Prop
noncomputable def Sm5 (X:Cx) (t:Sm8):Prop:=
 ∀(pins:List (S1×Obj)) (s:S3) (σ:St) (H:Hp) (o i v:V) (ov iv u:S2) (Q:Hp->Prop),Sm X pins σ H s->Sz o ov->Sz i iv->Sz v u->t o i v H Q->
  Sc (model X.prog X.w) X.A (setItem ov iv u) (λ_ s'=>∃H',Sm X pins σ H' s'/\Q H') X.xe s
noncomputable abbrev TIp:=V->V->Hp->VK->Prop
noncomputable def PIp (X:Cx) (op:Operator) (t:TIp):Prop:=
 ∀(pins:List (S1×Obj)) (s:S3) (σ:St) (H:Hp) (x y:V) (v u:S2) (Q:VK),Sm X pins σ H s->Sz x v->Sz y u->t x y H Q->
  Sc (model X.prog X.w) X.A (inplaceOp op v u) (EP X pins σ Q) X.xe s
section
variable {X:Cx} {pos:Pos}
noncomputable def Jq5 (i:Nat):TG:=λv σ H Q=>Q (σ.set i (some v)) H
theorem Jnf (hN:X.N.Nodup) (hi:X.N[i]?=some x) (hx:Loc X.env.scope x) (hf:X.fn x=true\/X.env.scope.names.lookup x=some .local:=by first|exact .inl rfl|exact .inr rfl|assumption):PG X (.Name x pos) (Jq5 i):=by
 intro pins s σ H v u Q I r h;exact wpAny_assign_Name (Jua I hN hi hx r (λs' I'=>⟨_,H,I',h⟩) hf)
noncomputable def Smq:TGs:=λvs σ H Q=>vs= []/\Q σ H
noncomputable def Jv4 (t:TG) (u:TGs):TGs:=λvs σ H Q=>∃v r,vs=v::r/\t v σ H λσ' H'=>u r σ' H' Q
theorem Jp4:PGs X [] Smq:=by
 rintro pins s σ H vs us Q I r ⟨e,h⟩;subst e;cases r;exact assignInOrder_nil ⟨σ,H,I,h⟩
theorem Jnq (h1:PG X e t) (h2:PGs X es u)
  (hs:(assignEach (e::es) X.env).map (·.2)=assign e X.env::(assignEach es X.env).map (·.2):=by rfl):PGs X (e::es) (Jv4 t u):=by
 rintro pins s σ H vs us Q I r ⟨v,vr,e1,h⟩;subst e1;cases r with
 |cons r rr=>
  rw [hs];exact assignInOrder_cons (thn (h1 pins s σ H _ _ _ I r h) λ_ s1 ⟨σ1,H1,I1,q1⟩=>h2 pins s1 σ1 H1 _ _ Q I1 rr q1)
inductive Sk6 (K:Sd) (n:Nat) (t:TGs) (v:V) (σ:St) (H:Hp) (Q:(St->Hp->Prop)):Prop where
 |mk (a:_) (xs:_) (_:v= .ref a) (_:Su K H a xs) (_:xs.length=n) (_:t xs σ H Q)
theorem Jr9 {k} (hc:X.calm=true) (h:PGs X es t)
  (hn:(assignEach es X.env).length=n:=by rfl) (hst:(assignEach es X.env).findIdx? (·.1)=none:=by rfl):PG X (.Tuple es k pos) (Sk6 X.K n t):=by
 rintro pins s σ H v u Q I r ⟨a,xs,e1,hq,hl,hw⟩;subst e1;cases r;obtain ⟨its,rv,ht,hz⟩:=I.tuple hq;refine assign_Tuple_tuple (I.ok.hd hc) ht (by simp [hn,<-hl,rv.length]) hst λh' hx=>?_;have I1:Sm X pins σ H {s with heap:=h'}:=I.kept λb o e=>hx b o (yy (yk e)) e;exact h pins _ σ H xs _ Q I1 (by simpa using rv) hw
noncomputable def Sx2 (to ti:TE) (t:Sm8):TG:=λv σ H Q=>to σ H λo H1=>ti σ H1 λi H2=>t o i v H2 λH3=>Q σ H3
theorem Jzb (ho:PE X o to) (hi:PE X i ti) (hs:Sm5 X t)
  (ha:∀v,assign (.Subscript o i pos) X.env v=(do
   let ov<-holding [v] (eval o X.env);let iv<-holding [v,ov] (eval i X.env)
   standAt pos
   holding [v,ov,iv] (setItem ov iv v)
   release [v,ov,iv] []):=by intro _;rfl):PG X (.Subscript o i pos) (Sx2 to ti t):=by
 intro pins s σ H v u Q I r h;exact S4 (wpAny_holding (thn (ho pins s σ H _ I h) λov s1 ⟨x,H1,I1,r1,q1⟩=>S4 (wpAny_holding (thn (hi pins s1 σ H1 _ I1 q1) λiv s2 ⟨y,H2,I2,r2,q2⟩=>S4 (wpAny_standAt (S4 (wpAny_holding (thn (hs pins s2 σ H2 x y v ov iv u _ I2 r1 r2 r q2) λ_ s3 ⟨H3,I3,q3⟩=>wpAny_release ⟨σ,H3,I3,q3⟩))))))))
noncomputable def Ssi (te:TE) (g:TG):TS:=λD σ H=>te σ H λx H1=>g x σ H1 D.nx
theorem Jx3 (he:PE X e te) (hg:PG X tg g) (hs:swapsWithSole [tg] e pos.line X.env=pure false:=by rfl) (hw:swappedStores [tg] e X.env=pure none:=by rfl)
  (h1:(assignEach [tg] X.env).map (·.2)= [assign tg X.env]:=by rfl):PS X (.Assign [tg] e pos) (Ssi te g):=by
 intro pins s σ H D I h;refine wpAny_Assign_stores (thn (he pins s σ H _ I h) λv s1 zq=>?_) hs hw;obtain ⟨x,H1,I1,r1,q1⟩:=zq;rw [h1];exact thn (hg pins s1 σ H1 x v _ I1 r1 q1) λ_ s2 q=>q
theorem Jnk (hN:X.N.Nodup) (hi:X.N[i]?=some x) (hx:Loc X.env.scope x) (he:PE X e te) (hs:swapsWith e (some (.Name x pos')) pos.line X.env=pure false:=by rfl) (hf:X.fn x=true\/X.env.scope.names.lookup x=some .local:=by first|exact .inl rfl|exact .inr rfl|assumption):
  PS X (.Assign [.Name x pos'] e pos) (Ssi te (Jq5 i)):=by
 intro pins s σ H D I h;exact wpAny_Assign_Name (thn (he pins s σ H _ I h) λv s1 ⟨y,H1,I1,r1,q1⟩=>Jua I1 hN hi hx r1 (λs2 I2=>⟨_,H1,I2,q1⟩) hf) hs
inductive Sxv (i:Nat) (te:TE) (ti:TIp) (D:Sc2) (σ:St) (H:Hp):Prop where
 |mk (x:_) (_:σ[i]?=some (some x)) (_:te σ H λy H1=>ti x y H1 λz H2=>D.nx (σ.set i (some z)) H2)
theorem Yb1 (hN:X.N.Nodup) (hi:X.N[i]?=some x) (hx:Loc X.env.scope x) (he:PE X e te) (ho:PIp X op ti) (hf:X.fn x=true\/X.env.scope.names.lookup x=some .local:=by first|exact .inl rfl|exact .inr rfl|assumption):
  PS X (.AugAssign (.Name x pos') op e pos) (Sxv i te ti):=by
 rintro pins s σ H D I ⟨v,e1,h⟩;obtain ⟨m,hn,hl⟩:=I.loc;have vis:Vis X.env.scope x:=by rcases hx with k|k;exact .inl k;exact .inr (.inl k)
 obtain ⟨u,r,l⟩:=hl i x v hi e1 vis;refine wpAny_AugAssign_Name ?_;have go:Sc (model X.prog X.w) X.A (eval e X.env) (λw s₂=>Sc (model X.prog X.w) X.A (inplaceOp op u w) (λr s₃=>Sc (model X.prog X.w) X.A (storeName X.env x r) (λ_=>SP X pins D .next) X.xe s₃) X.xe s₂) X.xe s:=thn (he pins s σ H _ I h) λw s1 ⟨y,H1,I1,r1,q1⟩=>thn (ho pins s1 σ H1 v y u w _ I1 r r1 q1) λz s2 ⟨zv,H2,I2,r2,q2⟩=>Jua I2 hN hi hx r2 (λs3 I3=>⟨_,H2,I3,q2⟩) hf;rcases l with ⟨hk,hm⟩|⟨hk,c,hc,hcell⟩
 ·exact wpAny_loadName_local I.ok.kind hk hn hm go
 ·rcases hk with hk|hk
  ·exact wpAny_loadName_cell I.ok.kind hk hc hcell go
  ·rcases hx with k|k
   ·have:X.env.scope.names.lookup x=some .free:=hk;rw [k] at this;cases this
   ·have:X.env.scope.names.lookup x=some .free:=hk;rw [k] at this;cases this
noncomputable def Ssj (to ti te:TE) (tget:V->V->Hp->VK->Prop) (tip:TIp) (tset:Sm8):TS:=λD σ H=>to σ H λo H1=>ti σ H1 λi H2=>tget o i H2 λx H3=>te σ H3 λy H4=>tip x y H4 λz H5=>tset o i z H5 λH6=>D.nx σ H6
noncomputable def Sqs (X:Cx) (t:V->V->Hp->VK->Prop):Prop:=
 ∀(pins:List (S1×Obj)) (s:S3) (σ:St) (H:Hp) (o i:V) (ov iv:S2) (Q:VK),Sm X pins σ H s->Sz o ov->Sz i iv->t o i H Q->
  Sc (model X.prog X.w) X.A (getItem ov iv) (EP X pins σ Q) X.xe s
theorem Ygo (ho:PE X o to) (hi:PE X i ti) (hg:Sqs X tget) (he:PE X e te) (hp:PIp X op tip) (hs:Sm5 X tset)
  (ha:∀ov iv new,augStore i ov iv new=(do holding [new,ov,iv] (setItem ov iv new);release [new,ov,iv] [];pure .next):=by intros;rfl):PS X (.AugAssign (.Subscript o i tpos) op e pos) (Ssj to ti te tget tip tset):=by
 intro pins s σ H D I h;exact wpAny_AugAssign_SubscriptAny (thn (ho pins s σ H _ I h) λov s1 ⟨x1,H1,I1,r1,q1⟩=>thn (hi pins s1 σ H1 _ I1 q1) λiv s2 ⟨x2,H2,I2,r2,q2⟩=>thn (hg pins s2 σ H2 x1 x2 ov iv _ I2 r1 r2 q2) λold s3 ⟨x3,H3,I3,r3,q3⟩=>thn (he pins s3 σ H3 _ I3 q3) λv s4 ⟨x4,H4,I4,r4,q4⟩=>thn (hp pins s4 σ H4 x3 x4 old v _ I4 r3 r4 q4) λnew s5 ⟨x5,H5,I5,r5,q5⟩=>thn (hs pins s5 σ H5 x1 x2 x5 ov iv new _ I5 r1 r2 r5 q5) λ_ s6 ⟨H6,I6,q6⟩=>⟨σ,H6,I6,q6⟩) ha
inductive ipI (f:Int->Int->Int) (x:V) (y:V) (H:Hp) (Q:VK):Prop where
 |mk (i:_) (j:_) (_:x= .int i) (_:y= .int j) (_:Q (.int (f i j)) H)
theorem Smt:PIp X .Add (ipI λi j=>i+j):=by
 rintro pins s σ H x y v u Q I r1 r2 ⟨i,j,e1,e2,q⟩;subst e1;subst e2;obtain ⟨t,rfl⟩:=r1;obtain ⟨t',rfl⟩:=r2;exact iadd_int ⟨.int _,H,I.tok _,⟨_,rfl⟩,q⟩
theorem Smu:PIp X .Sub (ipI λi j=>i - j):=by
 rintro pins s σ H x y v u Q I r1 r2 ⟨i,j,e1,e2,q⟩;subst e1;subst e2;obtain ⟨t,rfl⟩:=r1;obtain ⟨t',rfl⟩:=r2;exact isub_int ⟨.int _,H,I.tok _,⟨_,rfl⟩,q⟩
noncomputable def Sos (c:TT) (tb:TS):TS:=λD σ H=>∃W:Nat->St->Hp->Prop,(∃m,W m σ H)/\∀m σ H,W m σ H->
 c σ H λb H1=>if b=true then ∃N:St->Hp->Prop,(∀σ' H',N σ' H'->∃m',m' < m/\W m' σ' H')/\tb {D with nx:=N,ct:=N,bk:=D.nx} σ H1 else D.nx σ H1
theorem Yeq (hp:PassesOwn (model X.prog X.w) X.A X.env X.xe) (hc:PT X c tc) (hb:PSs X body tb):PS X (.While c body [] pos) (Sos tc tb):=by
 rintro pins s σ H D I ⟨W,⟨m0,w0⟩,turn⟩;refine wpAny_While (codeAny_whileLoop (λn s'=>∃σ' H',Sm X pins σ' H' s'/\W n σ' H') ?_ m0 ⟨σ,H,I,w0⟩);rintro n s1 ⟨σ1,H1,I1,w1⟩;refine wpAny_passesOwn hp (thn (hc pins s1 σ1 H1 _ I1 (turn n σ1 H1 w1)) λb s2 zq=>?_);obtain ⟨H2,I2,q2⟩:=zq;cases b with
 |true=>
  obtain ⟨N,hN,q2⟩:=q2;refine wpAny_passesOwn hp (thn (hb pins s2 σ1 H2 _ I2 q2) λf s3 q3=>?_);cases f with
  |next=>
   obtain ⟨σ3,H3,I3,n3⟩:=q3;obtain ⟨m',hm,w3⟩:=hN σ3 H3 n3;exact ⟨m',hm,σ3,H3,I3,w3⟩
  |cont=>
   obtain ⟨σ3,H3,I3,n3⟩:=q3;obtain ⟨m',hm,w3⟩:=hN σ3 H3 n3;exact ⟨m',hm,σ3,H3,I3,w3⟩
  |brk=>exact q3
  |ret v=>exact q3
 |false=>
  exact wpAny_execs_nil ⟨σ1,H2,I2,q2⟩
end
structure It where
 go:Nat->Hp->Prop
 yld:Nat->Hp->V->Hp->Prop
 stop:Nat->Hp->Prop
noncomputable def Jud (X:Cx) (pins:List (S1×Obj)) (H:Hp) (b:S1):Prop:=
 H b=none/\b≠X.env.locals/\b∉X.fs/\(b∈X.ex\/X.s₀.heap.objs.size<=b)/\(∀x c,X.env.cells.lookup x=some c->c≠b)/\∀p∈X.pn++pins,p.1≠b
theorem Sm.fpOk {σ:St} {H H'} {s} {b:S1} (I:Sm X pins σ H s) (hb:s.heap.objs.size<=b) (hn:H' b=none):Jud X pins H' b:=by
 refine ⟨hn,ybw (yao I.lt hb),I.nofs hb,.inr (yae I.sz hb),λx c e z=>?_,λp hp z=>?_⟩
 ·obtain ⟨v,q⟩:=I.cell x c e;exact absurd (yao q.lt (by rw [z];exact hb)) (ybg _)
 ·exact absurd (yao (yk (I.pin p hp).1) (by rw [z];exact hb)) (ybg _)
structure Turn (P:S7) (w:S9) (K:Sd) (tg:Expr) (J:It) (fp:List S1) (it:S1) (tn:Nat->Sb->Prop):Prop where
 mem:it∈fp
 obj:∀i h,tn i h->∀b∈fp,∃o,h.get? b=some o/\∀v,o.data≠ .cell v
 keep:∀i h h',tn i h->(∀b∈fp,∀o,h.get? b=some o->h'.get? b=some o)->tn i h'
 item:∀(X:Cx),X.prog=P->X.w=w->X.K=K->X.calm=true->∀(i:Nat) (pins:List (S1×Obj)) (s:S3) (σ:St) (H:Hp) (E:S2->S3->Prop),Sm X pins σ H s->(∀b∈fp,Jud X pins H b)->tn i s.heap->J.go i H->
  Sc (model P w) X.A (pyNext (.ref it)) (λr s1=>∃u,r=some u/\
   Sc (model P w) X.A (letOwnedTupleGo tg (.ref it) u) (λ_ s2=>∃x H',Sm X pins σ H' s2/\Sz x u/\J.yld i H x H'/\tn (i+1) s2.heap/\∀b∈fp,H' b=none) E s1) E s
 done:∀(X:Cx),X.prog=P->X.w=w->X.K=K->X.calm=true->∀(i:Nat) (pins:List (S1×Obj)) (s:S3) (σ:St) (H:Hp) (E:S2->S3->Prop),Sm X pins σ H s->(∀b∈fp,Jud X pins H b)->tn i s.heap->J.stop i H->
  Sc (model P w) X.A (pyNext (.ref it)) (λr s1=>r=none/\Sm X pins σ H s1) E s
 self:∀(A:Sa) (i:Nat) (s:S3) (Q:S2->S3->Prop) (E:S2->S3->Prop),tn i s.heap->Q (.ref it) s->Sc (model P w) A (pyIter (.ref it)) Q E s
noncomputable abbrev TI:=St->Hp->(It->Hp->Prop)->Prop
noncomputable def PIE (X:Cx) (pins:List (S1×Obj)) (σ:St) (tg:Expr) (R:It->Hp->Prop) (itv:S2) (s2:S3):Prop:=
 ∃(it:S1) (fp:List S1) (tn:Nat->Sb->Prop) (J:It) (H':Hp),itv= .ref it/\Sm X pins σ H' s2/\Turn X.prog X.w X.K tg J fp it tn/\tn 0 s2.heap/\(∀b∈fp,Jud X pins H' b)/\R J H'
noncomputable def PI (X:Cx) (tg iter:Expr) (wi:TI):Prop:=
 ∀(pins:List (S1×Obj)) (s:S3) (σ:St) (H:Hp) (R:It->Hp->Prop),Sm X pins σ H s->wi σ H R->
  Sc (model X.prog X.w) X.A (eval iter X.env) (λv s1=>Sc (model X.prog X.w) X.A (pyIter v) (PIE X pins σ tg R) X.xe s1) X.xe s
theorem Y6 {s} {tg} {it} {u} {o} {n} {vs} {Q} (ho:s.heap.get? it=some o) (hc:o.cls= .type n) (hd:o.data= .fields vs)
  (hn: ["enumerate","zip","dict_itemiterator","dict_reverseitemiterator","odict_iterator","itertools.zip_longest","itertools.pairwise"].contains n=false) (hQ:Q () s):Sc M A (letOwnedTupleGo tg (.ref it) u) Q E s:=by
 cases tg <;> first
  |exact S5 hQ
  | (cases u <;> first
    |exact S5 hQ
    | (refine S4 (wpAny_load ho ?_)
       rw [hc,hd];show Sc M A (if (["enumerate","zip","dict_itemiterator","dict_reverseitemiterator","odict_iterator","itertools.zip_longest","itertools.pairwise"].contains n&&vs[0]?==some (rawInt _))=true then _ else _) Q E s;rw [if_neg (by intro h;rw [hn] at h;cases h)];exact S5 hQ))
noncomputable def Itl (K:Sd) (a:S1):It:=
 ⟨λi H=>∃xs x,Ss K H a xs/\xs[i]?=some x,λi H x H'=>H'=H/\∀xs,Ss K H a xs->xs[i]?=some x,λi H=>∃xs,Ss K H a xs/\xs.length<=i⟩
noncomputable def Itt (K:Sd) (a:S1):It:=
 ⟨λi H=>∃xs x,Su K H a xs/\xs[i]?=some x,λi H x H'=>H'=H/\∀xs,Su K H a xs->xs[i]?=some x,λi H=>∃xs,Su K H a xs/\xs.length<=i⟩
noncomputable def Itr (lo:Int) (n:Nat):It:=⟨λi _=>i < n,λi H x H'=>H'=H/\x= .int (lo+i),λi _=>n<=i⟩
theorem Jyo {K} (a it):Turn P w K tg (Itl K a) [it] it (λi h=>h.IsListIter it a i) where
 mem:=by simp
 obj:=λi h st b hb=>by
  have e:=by simpa using hb
  subst e;obtain ⟨o,e,c,d⟩:=st;exact ⟨o,e,λv z=>by rw [d] at z;cases z⟩
 keep:=λi h h' st k=>st.at λo e=>k it (by simp) o e
 item:=by
  intro X hP hw hK hc i pins s σ H E I hf st hg;subst hP hw hK;obtain ⟨xs,x,hq,hx⟩:=hg;obtain ⟨its,rv,p,hz⟩:=I.list hq;obtain ⟨u,hu,ru⟩:=rv.get hx;obtain ⟨f0,f1,f2,f3,f4,f5⟩:=hf it (by simp);refine wpAny_pyNext_list_item st p.isList (by simpa using hu) λh' st' sb=>?_;have I1:Sm X pins σ H {s with heap:=h'}:=I.turned (λb o hb e=>(sb.2 b hb).trans e) f0 f1 f3 f4 f5;obtain ⟨o,e,c,d⟩:=id st';exact ⟨u,rfl,Y6 e c d (by decide) ⟨x,H,I1,ru,⟨rfl,λys hy=>by rw [I.list_inj hy hq];exact hx⟩,st',λb hb=>(hf b hb).1⟩⟩
 done:=by
  intro X hP hw hK hc i pins s σ H E I hf st hg;subst hP hw hK;obtain ⟨xs,hq,hx⟩:=hg;obtain ⟨its,rv,p,hz⟩:=I.list hq;obtain ⟨f0,f1,f2,f3,f4,f5⟩:=hf it (by simp);have hl:=rv.length;exact wpAny_pyNext_list_end (I.ok.hd hc) st p.isList (by simp;omega) λh' eb=>⟨rfl,I.turned (λb o hb e=>eb b o hb e) f0 f1 f3 f4 f5⟩
 self:=λ_ _ _ _ _ st h=>wpAny_pyIter_listiter st h
theorem Jxa {K} (a it):Turn P w K tg (Itt K a) [it] it (λi h=>h.IsTupleIter it a i) where
 mem:=by simp
 obj:=λi h st b hb=>by
  have e:=by simpa using hb
  subst e;obtain ⟨o,e,c,d⟩:=st;exact ⟨o,e,λv z=>by rw [d] at z;cases z⟩
 keep:=λi h h' st k=>st.at λo e=>k it (by simp) o e
 item:=by
  intro X hP hw hK hc i pins s σ H E I hf st hg;subst hP hw hK;obtain ⟨xs,x,hq,hx⟩:=hg;obtain ⟨its,rv,p,hz⟩:=I.tuple hq;obtain ⟨u,hu,ru⟩:=rv.get hx;obtain ⟨f0,f1,f2,f3,f4,f5⟩:=hf it (by simp);refine wpAny_pyNext_tuple_item st (p) (by simpa using hu) λh' st' sb=>?_;have I1:Sm X pins σ H {s with heap:=h'}:=I.turned (λb o hb e=>(sb.2 b hb).trans e) f0 f1 f3 f4 f5;obtain ⟨o,e,c,d⟩:=id st';exact ⟨u,rfl,Y6 e c d (by decide) ⟨x,H,I1,ru,⟨rfl,λys hy=>by rw [I.tuple_inj hy hq];exact hx⟩,st',λb hb=>(hf b hb).1⟩⟩
 done:=by
  intro X hP hw hK hc i pins s σ H E I hf st hg;subst hP hw hK;obtain ⟨xs,hq,hx⟩:=hg;obtain ⟨its,rv,p,hz⟩:=I.tuple hq;obtain ⟨f0,f1,f2,f3,f4,f5⟩:=hf it (by simp);have hl:=rv.length;exact wpAny_pyNext_tuple_end (I.ok.hd hc) st (p) (by simp;omega) λh' eb=>⟨rfl,I.turned (λb o hb e=>eb b o hb e) f0 f1 f3 f4 f5⟩
 self:=λ_ _ _ _ _ st h=>wpAny_pyIter_tupleiter st h
theorem Ybd {K} (it) (lo) (n):Turn P w K tg (Itr lo n) [it] it (λi h=>IsRangeIter h it (lo+i*1) (n - i) 1) where
 mem:=by simp
 obj:=λi h st b hb=>by
  have e:=by simpa using hb
  subst e;exact ⟨_,st,λv z=>by
   cases z⟩
 keep:=λi h h' st k=>k it (by simp) _ st
 item:=by
  intro X hP hw hK hc i pins s σ H E I hf st hg;obtain ⟨f0,f1,f2,f3,f4,f5⟩:=hf it (by simp);refine (Walks.range (I.ok.hd hc) it lo 1 n).item i s _ _ hg st λv h' tk hv st' kk=>?_;obtain ⟨t,rfl⟩:=hv;have I1:Sm X pins σ H {s with heap:=h',toks:=tk}:=I.turned (λb o hb e=>kk b o (by simpa using hb) e) f0 f1 f3 f4 f5;refine ⟨_,rfl,Y6 st' rfl rfl (by decide) ⟨.int (lo+i),H,I1,⟨t,?_⟩,⟨rfl,rfl⟩,st',λb hb=>(hf b hb).1⟩⟩;rw [Int.mul_one]
 done:=by
  intro X hP hw hK hc i pins s σ H E I hf st hg;obtain ⟨f0,f1,f2,f3,f4,f5⟩:=hf it (by simp);exact wpAny_pyNext_range_end (I.ok.hd hc) st (by have:n<=i:=hg;omega) λh' eb=>⟨rfl,I.turned (λb o hb e=>eb b o hb e) f0 f1 f3 f4 f5⟩
 self:=λ_ _ _ _ _ st h=>wpAny_pyIter_rangeiter st h
section
variable {X:Cx} {tg:Expr}
noncomputable def Src (K:Sd) (tl:TE):TI:=λσ H R=>tl σ H λx H1=>∃a,x= .ref a/\(∃xs,Ss K H1 a xs)/\R (Itl K a) H1
noncomputable def Sx8 (K:Sd) (tl:TE):TI:=λσ H R=>tl σ H λx H1=>∃a,x= .ref a/\(∃xs,Su K H1 a xs)/\R (Itt K a) H1
theorem Jo8 (hl:PE X l tl):PI X tg l (Src X.K tl):=by
 intro pins s σ H R I h;refine thn (hl pins s σ H _ I h) λv s1 zq=>?_;obtain ⟨x,H1,I1,r1,q1⟩:=zq;obtain ⟨a,e,⟨xs,hq⟩,q⟩:=q1;subst e;cases r1;obtain ⟨its,rv,p,hz⟩:=I1.list hq;refine wpAny_pyIter_list p.isList ⟨s1.heap.objs.size,[s1.heap.objs.size],_,_,H1,rfl,I1.kept λb o e=>ym _ e,Jyo a _,⟨_,yt _ rfl,rfl,rfl⟩,λb hb=>?_,q⟩;have e:=by simpa using hb
 subst e;exact I1.fpOk (yg _) (I1.hok.fresh (yg _))
theorem Jrb (hl:PE X l tl):PI X tg l (Sx8 X.K tl):=by
 intro pins s σ H R I h;refine thn (hl pins s σ H _ I h) λv s1 zq=>?_;obtain ⟨x,H1,I1,r1,q1⟩:=zq;obtain ⟨a,e,⟨xs,hq⟩,q⟩:=q1;subst e;cases r1;obtain ⟨its,rv,p,hz⟩:=I1.tuple hq;refine wpAny_pyIter_tuple (p) ⟨s1.heap.objs.size,[s1.heap.objs.size],_,_,H1,rfl,I1.kept λb o e=>ym _ e,Jxa a _,⟨_,yt _ rfl,rfl,rfl⟩,λb hb=>?_,q⟩;have e:=by simpa using hb
 subst e;exact I1.fpOk (yg _) (I1.hok.fresh (yg _))
theorem Yt {σ:St} {H} {s} {R} {E} {lo hi} {t u v} {tk} (I:Sm X pins σ H s) (h1: -(2^62)<=lo) (h2:lo < 2^62) (h3: -(2^62)<=hi) (h4:hi < 2^62)
  (q:R (Itr lo (hi - lo).toNat) H):Sc (model X.prog X.w) X.A (pyIter (.ref s.heap.objs.size)) (PIE X pins σ tg R) E {s with heap:=s.heap.push {cls:=.type "range",data:=.fields #[.int lo t,.int hi u,.int 1 v]},toks:=tk}:=by
 refine wpAny_pyIter_range (IsRange.new ..) (small_one h1 h2 h3 h4) ?_;have I1:Sm X pins σ H {s with heap:=s.heap.push {cls:=.type "range",data:=.fields #[.int lo t,.int hi u,.int 1 v]},toks:=tk}:=I.kept λb o e=>ym _ e;refine ⟨(s.heap.push {cls:=.type "range",data:=.fields #[.int lo t,.int hi u,.int 1 v]}).objs.size,[(s.heap.push {cls:=.type "range",data:=.fields #[.int lo t,.int hi u,.int 1 v]}).objs.size],_,_,H,rfl,
  I1.kept λb o e=>ym _ e,Ybd _ lo (hi - lo).toNat,?_,λb hb=>?_,q⟩
 ·have e1:lo+(0:Nat)*1=lo:=by simp
  have e2:(hi - lo).toNat - (0:Nat)=Builtin.Range.rangeSize lo hi 1:=by rw [rangeSize_one];split <;> omega
  rw [e1,e2];exact yt _ rfl
 ·have e:b=(s.heap.push {cls:=.type "range",data:=.fields #[.int lo t,.int hi u,.int 1 v]}).objs.size:=by simpa using hb
  subst e;exact I1.fpOk (yg _) (I1.hok.fresh (yg _))
noncomputable def Srd (ta:TA):TI:=λσ H R=>ta σ H λvs H1=>∃j:Int,vs= [.int j]/\ -(2^62)<=j/\j < 2^62/\R (Itr 0 j.toNat) H1
noncomputable def Sre (ta:TA):TI:=λσ H R=>ta σ H λvs H1=>∃i j:Int,vs= [.int i,.int j]/\(-(2^62)<=i/\i < 2^62/\ -(2^62)<=j/\j < 2^62)/\R (Itr i (j - i).toNat) H1
theorem Jpe (hg:Gl X "range") (hm:X.mg "range" =none) (ha:PA X [a] ta) (hs:starEach [a] X.env= [(false,eval a X.env)]:=by rfl):PI X tg (.Call (.Name "range" p) [a] [] pos) (Srd ta):=by
 intro pins s σ H R I h;refine Call_ (Jqf I hg hm boot_range (PyProof.Rows.callWith_type1 (thn (ha pos pins s σ H _ I h) λus s1 zq=>?_) hs rfl));obtain ⟨vs,H1,I1,r1,q1⟩:=zq;obtain ⟨j,e,q1,q2,q⟩:=q1;subst e;cases r1 with
 |cons r rr=>
  cases rr;obtain ⟨t,rfl⟩:=r;exact call_range_1 (Yt I1 (by omega) (by omega) q1 q2 (by simpa using q))
theorem Ycu (hg:Gl X "range") (hm:X.mg "range" =none) (ha:PA X [a,b] ta) (hs:starEach [a,b] X.env= [(false,eval a X.env),(false,eval b X.env)]:=by rfl) (hs2:starEach [b] X.env= [(false,eval b X.env)]:=by rfl):
  PI X tg (.Call (.Name "range" p) [a,b] [] pos) (Sre ta):=by
 intro pins s σ H R I h;refine Call_ (Jqf I hg hm boot_range (PyProof.Rows.callWith_type1 (thn (ha pos pins s σ H _ I h) λus s1 zq=>?_) (by rw [hs,hs2]) (by rw [hs2];rfl)));obtain ⟨vs,H1,I1,r1,q1⟩:=zq;obtain ⟨i,j,e,⟨q1,q2,q3,q4⟩,q⟩:=q1;subst e;cases r1 with
 |cons r rr=>
  cases rr with
  |cons r' rr=>
   cases rr;obtain ⟨t,rfl⟩:=r;obtain ⟨t',rfl⟩:=r';exact call_range_2 (Yt I1 q1 q2 q3 q4 q)
noncomputable def Sxx (wi:TI) (g:TG) (tb:TS):TS:=λD σ H=>wi σ H λJ H1=>∃W:Nat->Nat->St->Hp->Prop,(∃m,W 0 m σ H1)/\∀i m σ H,W i m σ H->
 (J.stop i H/\D.nx σ H)\/(J.go i H/\∃N:St->Hp->Prop,(∀σ' H',N σ' H'->∃m',m' < m/\W (i+1) m' σ' H')/\∀x H',J.yld i H x H'->g x σ H' λσ2 H2=>tb {D with nx:=N,ct:=N,bk:=D.nx} σ2 H2)
noncomputable def Jx2 (fp:List S1) (h:Sb):List (S1×Obj):=fp.filterMap λb=>(h.get? b).map λo=>(b,o)
theorem Jr7 (hb:b∈fp) (e:h.get? b=some o):(b,o)∈Jx2 fp h:=List.mem_filterMap.mpr ⟨b,hb,by rw [e];rfl⟩
theorem Ycp (hp:p∈Jx2 fp h):p.1∈fp/\h.get? p.1=some p.2:=by
 obtain ⟨b,hb,e⟩:=List.mem_filterMap.mp hp;cases q:h.get? b with
 |none=>rw [q] at e;cases e
 |some o=>
  rw [q] at e;have e':=yz.inj e;subst e';exact ⟨hb,q⟩
theorem Sm.pinned (I:Sm X pins σ H s) (hf:∀b∈fp,Jud X pins H b) (ho:∀b∈fp,∃o,s.heap.get? b=some o/\∀v,o.data≠ .cell v):Sm X (pins++Jx2 fp s.heap) σ H s:=
 I.pins_of λp hp=>(yay.mp hp).elim (λz=>I.pin p (ybi _ z)) λz=>by
  obtain ⟨hb,e⟩:=Ycp z;obtain ⟨f0,f1,f2,_⟩:=hf p.1 hb;obtain ⟨o,e',d⟩:=ho p.1 hb;rw [e] at e';cases e';exact ⟨e,f0,f1,f2,d⟩
theorem Sm.unpinned (I:Sm X (pins++pl) σ H s):Sm X pins σ H s:=I.pins_of λp hp=>I.pin p (ybi _ (ycs _ hp))
theorem Jox (hp:PassesOwn (model X.prog X.w) X.A X.env X.xe) (hc:X.calm=true) (hi:PI X tg iter wi) (hg:PG X tg g) (hb:PSs X body tb)
  (hs:∀x,foldedSetIterable iter X.env x=pure x:=by intro _;rfl):PS X (.For tg iter body [] pos) (Sxx wi g tb):=by
 intro pins s σ H D I h;refine wpAny_For (thn (hi pins s σ H _ I h) λv s1 h1=>thn h1 λitv s2 h2=>?_) hs;obtain ⟨it,fp,tn,J,H2,e,I2,T,st2,f2,W,⟨m0,w0⟩,turn⟩:=h2;subst e;have stat:∀{H':Hp},(∀b∈fp,H' b=none)->∀b∈fp,Jud X pins H' b:=λhn b hb=>⟨hn b hb,(f2 b hb).2⟩;refine codeAny_forLoop_any (λn s'=>∃i σ' H',Sm X pins σ' H' s'/\tn i s'.heap/\(∀b∈fp,H' b=none)/\W i n σ' H') ?_ m0 ⟨0,σ,H2,I2,st2,λb hb=>(f2 b hb).1,w0⟩;rintro n s3 ⟨i,σ3,H3,I3,st3,fr3,w3⟩;rcases turn i n σ3 H3 w3 with ⟨stop,qn⟩|⟨go,N,hN,step⟩
 ·refine wpAny_passesOwn hp (thn (T.done X rfl rfl rfl hc i pins s3 σ3 H3 X.xe I3 (stat fr3) st3 stop) λr s4 ⟨hr,I4⟩=>?_);subst hr;exact wpAny_execs_nil ⟨σ3,H3,I4,qn⟩
 ·refine wpAny_passesOwn hp (thn (T.item X rfl rfl rfl hc i pins s3 σ3 H3 X.xe I3 (stat fr3) st3 go) λr s4 ⟨u,hr,h4⟩=>?_);subst hr;refine wpAny_passesOwn hp (thn h4 λ_ s5 ⟨x,H5,I5,r5,y5,st5,fr5⟩=>wpAny_passesOwn hp (thn (hg _ s5 σ3 H5 x u _ (I5.pinned (stat fr5) (T.obj _ _ st5)) r5 (step x H5 y5)) λ_ s6 ⟨σ6,H6,I6,q6⟩=>wpAny_passesOwn hp (thn (hb _ s6 σ6 H6 _ I6 q6) λf s7 q7=>?_)));have again:∀{σ7:St} {H7:Hp},Sm X (pins++Jx2 fp s5.heap) σ7 H7 s7->N σ7 H7->∃m,m < n/\∃i σ' H',Sm X pins σ' H' s7/\tn i s7.heap/\(∀b∈fp,H' b=none)/\W i m σ' H':=λ{σ7 H7} I7 n7=>by
   obtain ⟨m',hm,w7⟩:=hN σ7 H7 n7;refine ⟨m',hm,i+1,σ7,H7,I7.unpinned,T.keep _ _ _ st5 λb hb o e=>(I7.pin (b,o) (ybi _ (ybi _ (Jr7 hb e)))).1,λb hb=>?_,w7⟩;obtain ⟨o,e,d⟩:=T.obj _ _ st5 b hb;exact (I7.pin (b,o) (ybi _ (ybi _ (Jr7 hb e)))).2.1
  cases f with
  |next=>obtain ⟨σ7,H7,I7,n7⟩:=q7;exact again I7 n7
  |cont=>obtain ⟨σ7,H7,I7,n7⟩:=q7;exact again I7 n7
  |brk=>obtain ⟨σ7,H7,I7,q7⟩:=q7;exact ⟨σ7,H7,I7.unpinned,q7⟩
  |ret v=>obtain ⟨x7,σ7,H7,I7,r7,q7⟩:=q7;exact ⟨x7,σ7,H7,I7.unpinned,r7,q7⟩
end
theorem Jph {K} {a} {xs} {g:TG} {tb:TS} {D:Sc2} {σ} {H} (Pv:Nat->St->Hp->Prop) (h0:Pv 0 σ H) (hl:∀i σ H,i<=xs.length->Pv i σ H->Ss K H a xs)
  (hs:∀i x σ H,xs[i]?=some x->Pv i σ H->g x σ H λσ2 H2=>tb {D with nx:=Pv (i+1),ct:=Pv (i+1),bk:=D.nx} σ2 H2) (hd:∀σ H,Pv xs.length σ H->D.nx σ H):
  ∃W:Nat->Nat->St->Hp->Prop,(∃m,W 0 m σ H)/\∀i m σ H,W i m σ H->
   ((Itl K a).stop i H/\D.nx σ H)\/((Itl K a).go i H/\∃N:St->Hp->Prop,(∀σ' H',N σ' H'->∃m',m' < m/\W (i+1) m' σ' H')/\∀x H',(Itl K a).yld i H x H'->g x σ H' λσ2 H2=>tb {D with nx:=N,ct:=N,bk:=D.nx} σ2 H2):=by
 refine ⟨λi m σ H=>m=xs.length - i/\i<=xs.length/\Pv i σ H,⟨xs.length,by simp,yaj _,h0⟩,?_⟩;rintro i m σ H ⟨rfl,hi,p⟩;have q:=hl i σ H hi p;by_cases hlt:i < xs.length
 ·refine .inr ⟨⟨xs,xs[i],q,by simp [hlt]⟩,Pv (i+1),λσ' H' p'=>⟨xs.length - (i+1),by omega,rfl,hlt,p'⟩,λx H' y=>?_⟩;obtain ⟨e,y⟩:=y;subst e;exact hs i x σ _ (y xs q) p
 ·have e:i=xs.length:=by omega
  subst e;exact .inl ⟨⟨xs,q,yg _⟩,hd σ H p⟩
theorem Jvv {K} {a} {xs} {g:TG} {tb:TS} {D:Sc2} {σ} {H} (Pv:Nat->St->Hp->Prop) (h0:Pv 0 σ H) (hl:∀i σ H,i<=xs.length->Pv i σ H->Su K H a xs)
  (hs:∀i x σ H,xs[i]?=some x->Pv i σ H->g x σ H λσ2 H2=>tb {D with nx:=Pv (i+1),ct:=Pv (i+1),bk:=D.nx} σ2 H2) (hd:∀σ H,Pv xs.length σ H->D.nx σ H):
  ∃W:Nat->Nat->St->Hp->Prop,(∃m,W 0 m σ H)/\∀i m σ H,W i m σ H->
   ((Itt K a).stop i H/\D.nx σ H)\/((Itt K a).go i H/\∃N:St->Hp->Prop,(∀σ' H',N σ' H'->∃m',m' < m/\W (i+1) m' σ' H')/\∀x H',(Itt K a).yld i H x H'->g x σ H' λσ2 H2=>tb {D with nx:=N,ct:=N,bk:=D.nx} σ2 H2):=by
 refine ⟨λi m σ H=>m=xs.length - i/\i<=xs.length/\Pv i σ H,⟨xs.length,by simp,yaj _,h0⟩,?_⟩;rintro i m σ H ⟨rfl,hi,p⟩;have q:=hl i σ H hi p;by_cases hlt:i < xs.length
 ·refine .inr ⟨⟨xs,xs[i],q,by simp [hlt]⟩,Pv (i+1),λσ' H' p'=>⟨xs.length - (i+1),by omega,rfl,hlt,p'⟩,λx H' y=>?_⟩;obtain ⟨e,y⟩:=y;subst e;exact hs i x σ _ (y xs q) p
 ·have e:i=xs.length:=by omega
  subst e;exact .inl ⟨⟨xs,q,yg _⟩,hd σ H p⟩
theorem Ych {lo} {n} {g:TG} {tb:TS} {D:Sc2} {σ} {H} (Pv:Nat->St->Hp->Prop) (h0:Pv 0 σ H)
  (hs:∀i σ H,i < n->Pv i σ H->g (.int (lo+i)) σ H λσ2 H2=>tb {D with nx:=Pv (i+1),ct:=Pv (i+1),bk:=D.nx} σ2 H2) (hd:∀σ H,Pv n σ H->D.nx σ H):
  ∃W:Nat->Nat->St->Hp->Prop,(∃m,W 0 m σ H)/\∀i m σ H,W i m σ H->
   ((Itr lo n).stop i H/\D.nx σ H)\/((Itr lo n).go i H/\∃N:St->Hp->Prop,(∀σ' H',N σ' H'->∃m',m' < m/\W (i+1) m' σ' H')/\∀x H',(Itr lo n).yld i H x H'->g x σ H' λσ2 H2=>tb {D with nx:=N,ct:=N,bk:=D.nx} σ2 H2):=by
 refine ⟨λi m σ H=>m=n - i/\i<=n/\Pv i σ H,⟨n,by simp,yaj _,h0⟩,?_⟩;rintro i m σ H ⟨rfl,hi,p⟩;by_cases hlt:i < n
 ·refine .inr ⟨hlt,Pv (i+1),λσ' H' p'=>⟨n - (i+1),by omega,rfl,hlt,p'⟩,λx H' y=>?_⟩;obtain ⟨e,y⟩:=y;subst e y;exact hs i σ _ hlt p
 ·have e:i=n:=by omega
  subst e;exact .inl ⟨yg _,hd σ H p⟩
noncomputable abbrev R2:=V->V->Hp->VK->Prop
noncomputable def OpR (X:Cx) (f:S2->S2->Sem S2) (r:R2):Prop:=
 ∀(pins:List (S1×Obj)) (s:S3) (σ:St) (H:Hp) (x y:V) (v u:S2) (Q:VK),Sm X pins σ H s->Sz x v->Sz y u->r x y H Q->
  Sc (model X.prog X.w) X.A (f v u) (EP X pins σ Q) X.xe s
noncomputable def UnR (X:Cx) (f:S2->Sem S2) (r:V->Hp->VK->Prop):Prop:=
 ∀(pins:List (S1×Obj)) (s:S3) (σ:St) (H:Hp) (x:V) (v:S2) (Q:VK),Sm X pins σ H s->Sz x v->r x H Q->
  Sc (model X.prog X.w) X.A (f v) (EP X pins σ Q) X.xe s
noncomputable def Jp9 (X:Cx) (f:S2) (r:List V->Hp->VK->Prop):Prop:=
 ∀(pins:List (S1×Obj)) (s:S3) (σ:St) (H:Hp) (xs:List V) (us:List S2) (Q:VK),Sm X pins σ H s->Sx xs us->r xs H Q->
  Sc (model X.prog X.w) X.A (call f us) (EP X pins σ Q) X.xe s
noncomputable def Svz (X:Cx) (r:V->Hp->(Bool->Hp->Prop)->Prop):Prop:=
 ∀(pins:List (S1×Obj)) (s:S3) (σ:St) (H:Hp) (x:V) (v:S2) (Q:Bool->Hp->Prop),Sm X pins σ H s->Sz x v->r x H Q->
  Sc (model X.prog X.w) X.A (truthy v) (TP X pins σ Q) X.xe s
noncomputable def tOp (r:R2) (ta tb:TE):TE:=λσ H Q=>ta σ H λx H1=>tb σ H1 λy H2=>r x y H2 Q
noncomputable def tUn (r:V->Hp->VK->Prop) (ta:TE):TE:=λσ H Q=>ta σ H λx H1=>r x H1 Q
inductive rI (C:Int->Int->Prop) (g:Int->Int->V) (x:V) (y:V) (H:Hp) (Q:VK):Prop where
 |mk (i:_) (j:_) (_:x= .int i) (_:y= .int j) (_:C i j) (_:Q (g i j) H)
inductive rI0 (g:Int->Int->V) (x:V) (y:V) (H:Hp) (Q:VK):Prop where
 |mk (i:_) (j:_) (_:x= .int i) (_:y= .int j) (_:Q (g i j) H)
inductive rU (g:Int->V) (x:V) (H:Hp) (Q:VK):Prop where
 |mk (i:_) (_:x= .int i) (_:Q (g i) H)
section
variable {X:Cx} {a b c:Expr} {ta tb tc:TE} {pos:Pos}
theorem Smc (ha:PE X a ta) (hb:PE X b tb) {R:V->V->Hp->Prop} (I:Sm X pins σ H s)
  (h:ta σ H λx H1=>tb σ H1 λy H2=>R x y H2) {f:S2->S2->Sem S2}
  (hf:∀v u s2 x y H2,Sm X pins σ H2 s2->Sz x v->Sz y u->R x y H2->Sc (model X.prog X.w) X.A (f v u) Q X.xe s2):
  Sc (model X.prog X.w) X.A (eval a X.env) (λv s₁=>Sc (model X.prog X.w) X.A (eval b X.env) (λu s₂=>Sc (model X.prog X.w) X.A (f v u) Q X.xe s₂) X.xe s₁) X.xe s:=thn (ha pins s σ H _ I h) λv s1 ⟨x,H1,I1,r1,q1⟩=>thn (hb pins s1 σ H1 _ I1 q1) λu s2 ⟨y,H2,I2,r2,q2⟩=>hf v u s2 x y H2 I2 r1 r2 q2
theorem Jnj (ho:OpR X (binaryOp op) r) (ha:PE X a ta) (hb:PE X b tb):PE X (.BinOp a op b pos) (tOp r ta tb):=by
 intro pins s σ H Q I h;exact wpAny_BinOp (Smc ha hb I h λv u s2 x y H2 I2 rx ry q=>ho pins s2 σ H2 x y v u Q I2 rx ry q)
theorem Ybx (ho:UnR X (unaryOp op) r) (ha:PE X a ta):PE X (.UnaryOp op a pos) (tUn r ta):=by
 intro pins s σ H Q I h;exact UnaryOp_ (thn (ha pins s σ H _ I h) λv s1 ⟨x,H1,I1,r1,q1⟩=>ho pins s1 σ H1 x v Q I1 r1 q1)
theorem opI {C} {g:Int->Int->Int}
  (rule:∀i j t u s Q E,C i j->Q (.int (g i j) s.toks) {s with toks:=s.toks+1}->Sc (model X.prog X.w) X.A (f (.int i t) (.int j u)) Q E s):
  OpR X f (rI C λi j=>.int (g i j)):=by
 rintro pins s σ H x y v u Q I rx ry ⟨i,j,rfl,rfl,hc,q⟩;obtain ⟨t,rfl⟩:=rx;obtain ⟨t',rfl⟩:=ry;exact rule i j t t' s _ _ hc ⟨.int (g i j),H,I.tok _,⟨_,rfl⟩,q⟩
theorem Srn {g:Int->Int->Int}
  (rule:∀i j t u s Q E,Q (.int (g i j) s.toks) {s with toks:=s.toks+1}->Sc (model X.prog X.w) X.A (f (.int i t) (.int j u)) Q E s):
  OpR X f (rI0 λi j=>.int (g i j)):=by
 rintro pins s σ H x y v u Q I rx ry ⟨i,j,rfl,rfl,q⟩;obtain ⟨t,rfl⟩:=rx;obtain ⟨t',rfl⟩:=ry;exact rule i j t t' s _ _ ⟨.int (g i j),H,I.tok _,⟨_,rfl⟩,q⟩
theorem Sk9 {g:Int->Int->Bool}
  (rule:∀i j t u s Q E,Q (.bool (g i j)) s->Sc (model X.prog X.w) X.A (f (.int i t) (.int j u)) Q E s):
  OpR X f (rI0 λi j=>.bl (g i j)):=by
 rintro pins s σ H x y v u Q I rx ry ⟨i,j,rfl,rfl,q⟩;obtain ⟨t,rfl⟩:=rx;obtain ⟨t',rfl⟩:=ry;exact rule i j t t' s _ _ ⟨.bl (g i j),H,I,rfl,q⟩
noncomputable def Sul (i j:Int):Prop:=0<=j/\j<=1000000/\i.natAbs < 2^64
noncomputable def Sjm (i j:Int):Prop:=(-(2^64) < i/\i < 2^64)\/(-(2^64) < j/\j < 2^64)
theorem Sjm.ok (h:Sjm i j):IntMulOk i j:=by
 rcases h with ⟨h1,h2⟩|⟨h1,h2⟩
 ·exact .of_left (intBits_le_64 h1 h2)
 ·exact .of_right (intBits_le_64 h1 h2)
theorem Jnv:OpR X (binaryOp .Add) (rI0 λi j=>.int (i+j)):=Srn λ_ _ _ _ _ _ _ q=>add_int q
theorem Joq:OpR X (binaryOp .Sub) (rI0 λi j=>.int (i - j)):=Srn λ_ _ _ _ _ _ _ q=>sub_int q
theorem Jpo:OpR X (binaryOp .Mult) (rI Sjm λi j=>.int (i*j)):=opI λ_ _ _ _ _ _ _ hc q=>mul_int q hc.ok
theorem Jpn:OpR X (binaryOp .Mod) (rI (λ_ j=>0 < j) λi j=>.int (i%j)):=opI λi j _ _ _ _ _ hc q=>mod_int' (by omega) (by rw [Int.fmod_eq_emod_of_nonneg i (by omega)];exact q)
theorem Jza:OpR X (binaryOp .Pow) (rI Sul λi j=>.int (i^j.toNat)):=opI λ_ _ _ _ _ _ _ hc q=>pow_int_small hc.1 hc.2.1 hc.2.2 q
theorem unI {g:Int->Int}
  (rule:∀i t s Q E,Q (.int (g i) s.toks) {s with toks:=s.toks+1}->Sc (model X.prog X.w) X.A (f (.int i t)) Q E s):
  UnR X f (rU λi=>.int (g i)):=by
 rintro pins s σ H x v Q I rx ⟨i,rfl,q⟩;obtain ⟨t,rfl⟩:=rx;exact rule i t s _ _ ⟨.int (g i),H,I.tok _,⟨_,rfl⟩,q⟩
theorem Jzr:UnR X (unaryOp .USub) (rU λi=>.int (-i)):=unI λ_ _ _ _ _ q=>neg_int q
end
noncomputable def Ss5:V->V->Bool
 | .non,.non=>true| .non,.int _=>true| .int _,.non=>true| .non,.bl _=>true| .bl _,.non=>true| .non,.str _=>true| .str _,.non=>true
 | .int _,.int _=>true| .bl _,.bl _=>true| .str _,.str _=>true| .byt _,.byt _=>true
 | .int _,.str _=>true| .str _,.int _=>true| .bl _,.str _=>true| .str _,.bl _=>true
 |_,_=>false
inductive rEq (x:V) (y:V) (H:Hp) (Q:VK):Prop where
 |mk (_:Ss5 x y=true) (_:Q (.bl (decide (x=y))) H)
inductive rNe (x:V) (y:V) (H:Hp) (Q:VK):Prop where
 |mk (_:Ss5 x y=true) (_:Q (.bl (!decide (x=y))) H)
theorem Ybp:decide (V.int i=V.int j)=(i==j):=by grind
theorem Ydp:decide (V.bl i=V.bl j)=(i==j):=by grind
theorem Ybq:decide (V.str i=V.str j)=(i==j):=by grind
theorem Ybo:decide (V.byt i=V.byt j)=(i.toList==j.toList):=by
 rw [Bool.eq_iff_iff];cases i;cases j;simp
section
variable {X:Cx} {a b c:Expr} {ta tb tc:TE} {pos:Pos}
theorem Joa {σ:St} {H} {s} {Q} {k k'} (I:Sm X pins σ H s) (q:Q (.bl k) H) (e:k=k'):EP X pins σ Q (.bool k') s:=by
 subst e;exact ⟨.bl k,H,I,rfl,q⟩
theorem Jrh:OpR X (compareOp .Eq) rEq:=by
 rintro pins s σ H x y v u Q I rx ry ⟨hs,q⟩;cases x with
 |non=>
  cases rx;cases y with
  |non=>cases ry;exact PySem.EqNone.eq_none_none (Joa I q (by simp))
  |bl j=>cases ry;exact PySem.EqNone.eq_none_bool (Joa I q (by simp))
  |int j=>obtain ⟨t',rfl⟩:=ry;exact PySem.EqNone.eq_none_int (Joa I q (by simp))
  |str j=>obtain ⟨t',rfl⟩:=ry;exact PySem.EqNone.eq_none_str (Joa I q (by simp))
  |_=>exact absurd (show false=true from hs) yai
 |bl i=>
  cases rx;cases y with
  |non=>cases ry;exact PySem.EqNone.eq_bool_none (Joa I q (by simp))
  |bl j=>cases ry;exact eq_bool (Joa I q Ydp)
  |str j=>obtain ⟨t',rfl⟩:=ry;exact PySem.EqMixed.eq_bool_str (Joa I q (by simp))
  |_=>exact absurd (show false=true from hs) yai
 |int i=>
  obtain ⟨t,rfl⟩:=rx;cases y with
  |non=>cases ry;exact PySem.EqNone.eq_int_none (Joa I q (by simp))
  |int j=>obtain ⟨t',rfl⟩:=ry;exact eq_int (Joa I q Ybp)
  |str j=>obtain ⟨t',rfl⟩:=ry;exact PySem.EqMixed.eq_int_str (Joa I q (by simp))
  |_=>exact absurd (show false=true from hs) yai
 |str i=>
  obtain ⟨t,rfl⟩:=rx;cases y with
  |non=>cases ry;exact PySem.EqNone.eq_str_none (Joa I q (by simp))
  |bl j=>cases ry;exact PySem.EqMixed.eq_str_bool (Joa I q (by simp))
  |int j=>obtain ⟨t',rfl⟩:=ry;exact PySem.EqMixed.eq_str_int (Joa I q (by simp))
  |str j=>obtain ⟨t',rfl⟩:=ry;exact eq_str (Joa I q Ybq)
  |_=>exact absurd (show false=true from hs) yai
 |byt i=>
  obtain ⟨t,rfl⟩:=rx;cases y with
  |byt j=>obtain ⟨t',rfl⟩:=ry;exact PySem.W.eq_bytes (Joa I q Ybo)
  |_=>exact absurd (show false=true from hs) yai
 |_=>cases y <;> exact absurd (hs) yai
theorem Ym:OpR X (compareOp .NotEq) rNe:=by
 rintro pins s σ H x y v u Q I rx ry ⟨hs,q⟩;cases x with
 |non=>
  cases rx;cases y with
  |non=>cases ry;exact PySem.EqNone.ne_none_none (Joa I q (by simp))
  |bl j=>cases ry;exact PySem.EqNone.ne_none_bool (Joa I q (by simp))
  |int j=>obtain ⟨t',rfl⟩:=ry;exact PySem.EqNone.ne_none_int (Joa I q (by simp))
  |str j=>obtain ⟨t',rfl⟩:=ry;exact PySem.EqNone.ne_none_str (Joa I q (by simp))
  |_=>exact absurd (hs) yai
 |bl i=>
  cases rx;cases y with
  |non=>cases ry;exact PySem.EqNone.ne_bool_none (Joa I q (by simp))
  |bl j=>cases ry;exact ne_bool (Joa I q (congrArg not Ydp))
  |str j=>obtain ⟨t',rfl⟩:=ry;exact PySem.EqMixed.ne_bool_str (Joa I q (by simp))
  |_=>exact absurd (show false=true from hs) yai
 |int i=>
  obtain ⟨t,rfl⟩:=rx;cases y with
  |non=>cases ry;exact PySem.EqNone.ne_int_none (Joa I q (by simp))
  |int j=>obtain ⟨t',rfl⟩:=ry;exact ne_int (Joa I q (congrArg not Ybp))
  |str j=>obtain ⟨t',rfl⟩:=ry;exact PySem.EqMixed.ne_int_str (Joa I q (by simp))
  |_=>exact absurd (show false=true from hs) yai
 |str i=>
  obtain ⟨t,rfl⟩:=rx;cases y with
  |non=>cases ry;exact PySem.EqNone.ne_str_none (Joa I q (by simp))
  |bl j=>cases ry;exact PySem.EqMixed.ne_str_bool (Joa I q (by simp))
  |int j=>obtain ⟨t',rfl⟩:=ry;exact PySem.EqMixed.ne_str_int (Joa I q (by simp))
  |str j=>obtain ⟨t',rfl⟩:=ry;exact ne_str (Joa I q (congrArg not Ybq))
  |_=>exact absurd (show false=true from hs) yai
 |byt i=>
  obtain ⟨t,rfl⟩:=rx;cases y with
  |byt j=>obtain ⟨t',rfl⟩:=ry;exact PySem.W.ne_bytes (Joa I q (congrArg not Ybo))
  |_=>exact absurd (show false=true from hs) yai
 |_=>cases y <;> exact absurd (hs) yai
theorem Sro:OpR X (compareOp .Lt) (rI0 λi j=>.bl (decide (i < j))):=Sk9 λ_ _ _ _ _ _ _ q=>lt_int q
theorem Jry:OpR X (compareOp .LtE) (rI0 λi j=>.bl (decide (i<=j))):=Sk9 λ_ _ _ _ _ _ _ q=>le_int q
theorem Jyk:OpR X (compareOp .Gt) (rI0 λi j=>.bl (decide (j < i))):=Sk9 λ_ _ _ _ _ _ _ q=>gt_int q
theorem Sl6:OpR X (compareOp .GtE) (rI0 λi j=>.bl (decide (j<=i))):=Sk9 λ_ _ _ _ _ _ _ q=>ge_int q
theorem Ycs:OpR X (compareOp .In) (λx y H Q=>∃i j,x= .str i/\y= .str j/\Q (.bl (!(Builtin.Str.occurrences j i 0 j.length 1).isEmpty)) H):=by
 rintro pins s σ H x y v u Q I rx ry ⟨i,j,rfl,rfl,q⟩;obtain ⟨t,rfl⟩:=rx;obtain ⟨t',rfl⟩:=ry;exact in_str (Joa I q rfl)
theorem Yaw:OpR X (compareOp .Is) (λx y H Q=>y= .non/\Q (.bl (decide (x= .non))) H):=by
 rintro pins s σ H x y v u Q I rx ry ⟨rfl,q⟩;cases ry;refine is_none_gen (Joa I q ?_);cases x <;> first
  | (cases rx; rfl)
  | (obtain ⟨t,rfl⟩:=rx; rfl)
theorem Ygk:OpR X (compareOp .IsNot) (λx y H Q=>y= .non/\Q (.bl (!decide (x= .non))) H):=by
 rintro pins s σ H x y v u Q I rx ry ⟨rfl,q⟩;cases ry;refine isnot_none_gen (Joa I q ?_);cases x <;> first
  | (cases rx; rfl)
  | (obtain ⟨t,rfl⟩:=rx; rfl)
theorem Joc (b) (h:op≠ .In:=by decide) (h2:op≠ .NotIn:=by decide):behindInMarks op b=false:=by
 have e1:(op==CmpOp.In)=false:=by cases op <;> first|rfl|exact absurd rfl h
 have e2:(op==CmpOp.NotIn)=false:=by cases op <;> first|rfl|exact absurd rfl h2
 cases b <;> simp [behindInMarks,e1,e2]
theorem Jqr (ho:OpR X (compareOp op) r) (ha:PE X a ta) (hb:PE X b tb) (hm:behindInMarks op b=false):PE X (.Compare a [op] [b] pos) (tOp r ta tb):=by
 intro pins s σ H Q I h;exact wpAny_Compare1 (Smc ha hb I h λv u s2 x y H2 I2 rx ry q=>ho pins s2 σ H2 x y v u Q I2 rx ry q) hm
inductive Yhp (Q:(Bool->Hp->Prop)) (x:V) (H':Hp):Prop where
 |mk (k:_) (_:x= .bl k) (_:Q k H')
noncomputable def Slg (t:TE):TT:=λσ H Q=>t σ H (Yhp Q)
theorem Jo9 (ho:OpR X (compareOp op) r) (ha:PE X a ta) (hb:PE X b tb) (hm:behindInMarks op b=false):PT X (.Compare a [op] [b] pos) (Slg (tOp r ta tb)):=by
 intro pins s σ H Q I h;refine wpAny_isTrue_Compare1 (thn (ha pins s σ H _ I h) λv s1 ⟨x,H1,I1,r1,q1⟩=>thn (hb pins s1 σ H1 _ I1 q1) λu s2 ⟨y,H2,I2,r2,q2⟩=>
  thn (ho pins s2 σ H2 x y v u _ I2 r1 r2 q2) λc s3 ⟨z,H3,I3,r3,k,e,q3⟩=>?_) hm
 subst e;cases r3;exact wpAny_truthy_bool ⟨H3,I3,q3⟩
noncomputable def Yfj (r r':R2) (ta tb tc:TE):TE:=λσ H Q=>ta σ H λx H1=>tb σ H1 λy H2=>r x y H2 λz H3=>∃k,z= .bl k/\
 (if k=true then tc σ H3 λw' H4=>r' y w' H4 Q else Q (.bl false) H3)
theorem Yn (ho:OpR X (compareOp op) r) (ho':OpR X (compareOp op') r') (ha:PE X a ta) (hb:PE X b tb) (hc:PE X c tc)
  (hm:lastMarks [op,op'] [b,c]=false:=by with_unfolding_all rfl):PE X (.Compare a [op,op'] [b,c] pos) (Yfj r r' ta tb tc):=by
 intro pins s σ H Q I h;refine Compare_chain (thn (ha pins s σ H _ I h) λv s1 ⟨x,H1,I1,r1,q1⟩=>chain_link (thn (hb pins s1 σ H1 _ I1 q1) λu s2 ⟨y,H2,I2,r2,q2⟩=>
  thn (ho pins s2 σ H2 x y v u _ I2 r1 r2 q2) λd s3 ⟨z,H3,I3,r3,k,e,q3⟩=>?_)) hm
 subst e;cases r3;refine wpAny_truthy_bool ?_;cases k with
 |false=>exact ite_ff ⟨.bl false,H3,I3,rfl,q3⟩
 |true=>exact ite_tt (chain_last (thn (hc pins s3 σ H3 _ I3 q3) λw' s4 ⟨z',H4,I4,r4,q4⟩=>ho' pins s4 σ H4 y z' u w' Q I4 r2 r4 q4))
theorem Jx4 (ho:OpR X (compareOp op) r) (ho':OpR X (compareOp op') r') (ha:PE X a ta) (hb:PE X b tb) (hc:PE X c tc)
  (hm:lastMarks [op,op'] [b,c]=false:=by with_unfolding_all rfl):PT X (.Compare a [op,op'] [b,c] pos) (Slg (Yfj r r' ta tb tc)):=by
 intro pins s σ H Q I h;refine isTrue_chain (thn (ha pins s σ H _ I h) λv s1 ⟨x,H1,I1,r1,q1⟩=>test_link (thn (hb pins s1 σ H1 _ I1 q1) λu s2 ⟨y,H2,I2,r2,q2⟩=>
  thn (ho pins s2 σ H2 x y v u _ I2 r1 r2 q2) λd s3 ⟨z,H3,I3,r3,k,e,q3⟩=>?_)) hm
 subst e;cases r3;refine wpAny_truthy_bool ?_;cases k with
 |false=>
  obtain ⟨k',e',q'⟩:=q3;cases e';exact ite_ff ⟨H3,I3,q'⟩
 |true=>
  refine ite_tt (test_last (thn (hc pins s3 σ H3 _ I3 q3) λw' s4 ⟨z',H4,I4,r4,q4⟩=>thn (ho' pins s4 σ H4 y z' u w' _ I4 r2 r4 q4) λd' s5 zq=>?_));obtain ⟨z2,H5,I5,r5,k2,e2,q5⟩:=zq;subst e2;cases r5;exact wpAny_truthy_bool ⟨H5,I5,q5⟩
noncomputable def Sr0 (K:Sd) (x:V) (H:Hp) (k:Bool):Prop:=
 match x with
 | .non=>k=false
 | .bl b=>k=b
 | .int i=>k=(i !=0)
 | .str y=>y.length<=S6/\k=((y.length:Int) !=0)
 | .byt y=>y.size<=S6/\k=((y.size:Int) !=0)
 | .ref p=>(∃xs,Ss K H p xs/\k=!xs.isEmpty)\/(∃xs,Su K H p xs/\k=!xs.isEmpty)\/∃kvs,H p=some (.dK kvs)/\k=!kvs.isEmpty
 |_=>False
theorem Jwi (r:KV kvs vs):(!vs.isEmpty)=!kvs.isEmpty:=by
 cases r <;> rfl
theorem Jwj (r:Sx xs its):(!its.toArray.isEmpty)=!xs.isEmpty:=by
 cases r <;> simp
theorem Jt0:(S6) < 2^63:=by rw [sizeLine_eq];decide
theorem Sow:Svz X (λx H Q=>∃k,Sr0 X.K x H k/\Q k H):=by
 rintro pins s σ H x v Q I rx ⟨k,e,q⟩;have hs:=sizeLine_eq;cases x with
 |non=>
  cases rx;have e':=e;subst e';exact truthy_none ⟨H,I,q⟩
 |bl b=>
  cases rx;have e':=e;subst e';exact wpAny_truthy_bool ⟨H,I,q⟩
 |int i=>
  obtain ⟨t,rfl⟩:=rx;have e':=e;subst e';exact PySem.P.truthy_int ⟨H,I,q⟩
 |str y=>
  obtain ⟨t,rfl⟩:=rx;obtain ⟨hy,e'⟩:y.length<=S6/\k=((y.length:Int) !=0):=e;subst e';exact PySem.P.truthy_str (by omega) ⟨H,I.tok _,q⟩
 |byt y=>
  obtain ⟨t,rfl⟩:=rx;obtain ⟨hy,e'⟩:y.size<=S6/\k=((y.size:Int) !=0):=e;subst e';exact PySem.W.truthy_bytes (by omega) ⟨H,I.tok _,q⟩
 |ref p=>
  cases rx;have e':=e;rcases e' with ⟨xs,hx,e'⟩|⟨xs,hx,e'⟩|⟨kvs,hx,e'⟩
  ·subst e';obtain ⟨its,r,pl,hz⟩:=I.list hx;have hlen:=r.length;exact wpAny_truthy_list pl.isList (by simp only [yp];omega) ⟨H,I.tok _,by rw [Jwj r];exact q⟩
  ·subst e';obtain ⟨its,r,pl,hz⟩:=I.tuple hx;have hlen:=r.length;exact truthy_tuple pl (by simp only [yp];omega) ⟨H,I.tok _,by rw [Jwj r];exact q⟩
  ·subst e';obtain ⟨hz,hS,vs,r,m⟩:kvs.length<=S6/\(p==sysModules)=false/\∃vs,KV kvs vs/\s.heap.DictOf (Jo4 X.prog X.w) p vs:=I.hok p _ hx;have hlen:=Paired.length r;exact wpAny_truthy_dict hS m (by omega) ⟨H,I.tok _,by rw [Jwi r];exact q⟩
 |_=>exact (e).elim
theorem Ys (ha:PE X a ta) (he:∀whole,isTrue a X.env whole=(do let v<-whole;standAt a.pos;holding [v] (truthy v))):
  PT X a (λσ H Q=>ta σ H λx H'=>∃k,Sr0 X.K x H' k/\Q k H'):=by
 intro pins s σ H Q I h;exact isTrue_plain (thn (ha pins s σ H _ I h) λv s1 ⟨x,H1,I1,r1,q1⟩=>Sow pins s1 σ H1 x v Q I1 r1 q1) (he _)
theorem Jq1 (r:Sx [x] us):∃u,us= [u]/\Sz x u:=by
 cases r with
 |cons r1 r2=>cases r2;exact ⟨_,rfl,r1⟩
theorem Ya4 (r:Sx [x,y] us):∃u w',us= [u,w']/\Sz x u/\Sz y w':=by
 cases r with
 |cons r1 r2=>
  cases r2 with
  |cons r3 r4=>cases r4;exact ⟨_,_,rfl,r1,r3⟩
theorem Jqz (hc:X.calm=true):Jp9 X (.builtin "max") (λxs H Q=>∃i j,xs= [.int i,.int j]/\Q (.int (if j > i then j else i)) H):=by
 rintro pins s σ H xs us Q I r ⟨i,j,rfl,q⟩;obtain ⟨u,w',rfl,⟨t,rfl⟩,⟨t',rfl⟩⟩:=Ya4 r;refine max_two_ints (I.ok.hd hc) λh' tk k=>⟨_,H,I.kept k,?_,q⟩;by_cases hj:j > i
 ·rw [if_pos hj,if_pos hj];exact ⟨_,rfl⟩
 ·rw [if_neg hj,if_neg hj];exact ⟨_,rfl⟩
theorem Jug (hc:X.calm=true):Jp9 X (.builtin "min") (λxs H Q=>∃i j,xs= [.int i,.int j]/\Q (.int (if j < i then j else i)) H):=by
 rintro pins s σ H xs us Q I r ⟨i,j,rfl,q⟩;obtain ⟨u,w',rfl,⟨t,rfl⟩,⟨t',rfl⟩⟩:=Ya4 r;refine min_two_ints (I.ok.hd hc) λh' tk k=>⟨_,H,I.kept k,?_,q⟩;by_cases hj:j < i
 ·rw [if_pos hj,if_pos hj];exact ⟨_,rfl⟩
 ·rw [if_neg hj,if_neg hj];exact ⟨_,rfl⟩
theorem Yc8:Jp9 X (.type "int") (λxs H Q=>(∃i,xs= [.int i]/\Q (.int i) H)\/∃k,xs= [.bl k]/\Q (.int (if k then 1 else 0)) H):=by
 intro pins s σ H xs us Q I r h;rcases h with ⟨i,rfl,q⟩|⟨k,rfl,q⟩
 ·obtain ⟨u,rfl,t,rfl⟩:=Jq1 r;exact call_int_int ⟨.int i,H,I,⟨_,rfl⟩,q⟩
 ·obtain ⟨u,rfl,r1⟩:=Jq1 r;cases r1;exact call_int_bool ⟨.int (if k then 1 else 0),H,I.tok _,⟨_,rfl⟩,q⟩
end
structure Shg (h:Sb) (x dx C:S1) (mA:Str->Option S2):Prop where
 obj:h.get? x=some (Sh C dx)
 ns:h.Ns1 dx mA
 ne:dx≠x
theorem Jye {h:Sb} (n:h.Ns1 dx mA):∃od,h.get? dx=some od/\∀name,PySem.W.lookIn name od=some (mA name):=by
 obtain ⟨o,es,ep,ho,hd,hk,_,hm⟩:=n;refine ⟨o,ho,λname=>?_⟩;have e:=hm name;unfold nsFind findBy at e;rw [<-Array.find?_toList] at e;unfold PySem.W.lookIn;rw [hd];dsimp only;split
 ·rename_i y q
  rw [q] at e;exact congrArg some e
 ·rename_i q
  rw [q] at e;have a:es.toList.any (·.refKey)=false:=by
   rw [List.any_eq_false];intro y hy;obtain ⟨z,t,hkey⟩:=hk y (Array.mem_toList_iff.mp hy);simp [DictEntry.refKey,hkey]
  have a':¬es.toList.any (·.refKey)=true:=by rw [a];exact yai
  rw [if_neg a'];exact congrArg some e
theorem Shg.look (I:Shg h x dx C mA):∃od,PySem.W.InstAt h x (Sh C dx) C (some od)/\∀name,PySem.W.lookIn name od=some (mA name):=
 let ⟨od,ho,hl⟩:=Jye I.ns
 ⟨od,⟨I.obj,rfl,rfl,ho⟩,hl⟩
section
variable {prog:S7} {w:S9} {A:Sa} {E:S2->S3->Prop} {s:S3} {K:Sd} {x dx C f:S1} {mA:Str->Option S2} {name:Str} {v:S2}
theorem Yg2 {Q} (X:K.In s.heap) (I:Shg s.heap x dx C mA) (hg:PySem.W.plainGet K C name=true) (hh:PySem.W.hasDictIn K C=true)
  (ha:Sf K (.ref C) name=some none) (hv:mA name=some v) (hv':PySem.W.handedIn v=true) (h:Q v {s with toks:=s.toks+1}):
  Sc (model prog w) A (getAttr (.ref x) name expr) Q E s:=by
 obtain ⟨od,J,hl⟩:=I.look;exact PySem.W.get_value X J (PySem.W.plainGet_of hg).1 (PySem.W.findObj_own hh ha rfl (by rw [hl,hv])) hv' h
theorem Ye1 {Q} (X:K.In s.heap) (I:Shg s.heap x dx C mA) (hg:PySem.W.plainGet K C name=true)
  (hf:Sf K (.ref C) name=some (some (.ref f))) (ht:PySem.W.isFn K (.ref f)=true) (hv:mA name=none) (h:Q (.ref f,[.ref x]) s):
  Sc (model prog w) A (getMethod (.ref x) name pl) Q E s:=by
 obtain ⟨od,J,hl⟩:=I.look;exact PySem.W.method_fn X J (PySem.W.plainGet_of hg).1 (PySem.W.plainGet_of hg).2 hf (beq_iff_eq.mp ht) (by show (PySem.W.lookIn name od).map (·.isSome)=some false;rw [hl,hv];rfl) h
theorem Ygv (X:K.In s.heap) (I:Shg s.heap x dx C mA)
  (hs:Sf K (.ref C) "__setattr__" =some (some (.builtin "object.__setattr__"))) (hp:PySem.W.plainOver K C=true) (ht:PySem.W.takerIn K C name=some none) (hh:PySem.W.hasDictIn K C=true)
  (hw:PySem.Within mA ns) (hsz:ns.length<=S6)
  (h:∀h',Shg h' x dx C (λy=>if y=name then some v else mA y)->ybh dx s.heap h'->Q () {s with heap:=h',toks:=s.toks+2}):
  Sc (model prog w) A (setAttr (.ref x) name v) Q E s:=by
 obtain ⟨od,J,hl⟩:=I.look;refine PySem.W.set_plain X J hs (PySem.W.osa_open X J hp ht λb=>?_);obtain ⟨cd,hc,hd'⟩:=PySem.W.any_some hh;refine S4 (S5 (S4 (S4 (wpAny_loadPart I.obj (S4 (PySem.W.Looks.here (PySem.W.looks_clsIn X hc) ?_))))));rw [hd'];refine S5 (S4 (S5 (S4 (wpAny_nsSet1 I.ns λh' hn2 hs2=>?_))));obtain ⟨oD,esD,epD,hoD,hdD,hcD⟩:=hn2.count (PySem.Within.cons name v hw);exact S4 (wpAny_lookBehind hoD (by rw [hdD];exact pastItsLine_dict (yae hcD (by rw [yaf];omega))) (S5 (h _ ⟨(hs2.2 _ (yx I.ne)).trans I.obj,hn2,I.ne⟩ hs2)))
theorem Yeh (X:K.In s.heap) (hm:PySem.W.makesIn K C=true)
  (hi:Sf K (.ref C) "__init__" =some (some (.ref f))) (hf:PySem.W.typeIn K (.ref f)=some (.type "function"))
  (h:codeAny (model prog w) (A.under (.builtin "type.__call__" ⟨.ref C::vs,kw⟩)) (.call (.ref f) ⟨.ref (s.heap.objs.size+1)::vs,kw⟩) (PySem.W.InitBack (s.heap.objs.size+1) R)
   {s with heap:=(s.heap.push PySem.W.emptyDict).push (Sh C s.heap.objs.size)}):
  codeAny (model prog w) A (.call (.ref C) ⟨vs,kw⟩) R s:=PySem.W.make_core (PySem.W.makes_of X hm) (PySem.W.looks_findIn X hi) (λself=>PySem.W.bind_fn X self hf) (.inl rfl) h
end
noncomputable def Jom (f:Str) (v:V):List (Str×V)->List (Str×V)
 | []=>[(f,v)]
 | (g,x) :: r=>if g = f then (g,v) :: r else (g,x) :: Jom f v r
theorem Jv8 (f g) (v):∀fs:List (Str×V),(Jom f v fs).lookup g=if g=f then some v else fs.lookup g
 | []=>by
  show ybp g [(f,v)]=_;by_cases h:g=f
  ·have hb:(g==f)=true:=beq_iff_eq.mpr h;simp only [ybp,hb,if_pos h]
  ·have hb:=beq_eq_false_iff_ne.mpr h;simp only [ybp,hb,if_neg h]
 | (k,x) :: r=>by
  rw [show Jom f v ((k,x)::r)=(if k=f then (k,v)::r else (k,x)::Jom f v r) from rfl];by_cases hk:k=f
  ·rw [if_pos hk];by_cases h:g=k
   ·have hb:=beq_iff_eq.mpr h;simp only [ybp,hb,if_pos (h.trans hk)]
   ·have hb:=beq_eq_false_iff_ne.mpr h;simp only [ybp,hb,if_neg (λe:g=f=>h (e.trans hk.symm))]
  ·rw [if_neg hk];by_cases h:g=k
   ·have hb:=beq_iff_eq.mpr h;simp only [ybp,hb,if_neg (λe:g=f=>hk (h.symm.trans e))]
   ·have hb:=beq_eq_false_iff_ne.mpr h;simp only [ybp,hb];exact (Jv8 f g v r)
theorem Jum (f) (v):∀fs:List (Str×V),f∈(Jom f v fs).map (·.1)/\∀g,g∈fs.map (·.1)->g∈(Jom f v fs).map (·.1)
 | []=>⟨by simp [Jom],λg h=>by simp at h⟩
 | (k,x) :: r=>by
  obtain ⟨i1,i2⟩:=Jum f v r;rw [show Jom f v ((k,x)::r)=(if k=f then (k,v)::r else (k,x)::Jom f v r) from rfl];by_cases hk:k=f
  ·rw [if_pos hk];subst hk;exact ⟨by simp,λg h=>by simpa using h⟩
  ·rw [if_neg hk];refine ⟨?_,λg h=>?_⟩
   ·rw [yan];exact yac _ i1
   ·rw [yan] at h⊢;rcases yo.mp h with e|e
    ·exact yo.mpr (.inl e)
    ·exact yac _ (i2 g e)
theorem Jv6 (f) (v):∀fs:List (Str×V),(Jom f v fs).length<=fs.length+1
 | []=>by simp [Jom]
 | (k,x) :: r=>by
  have ih:=Jv6 f v r;rw [show Jom f v ((k,x)::r)=(if k=f then (k,v)::r else (k,x)::Jom f v r) from rfl];by_cases hk:k=f
  ·rw [if_pos hk,yaf,yaf];omega
  ·rw [if_neg hk,yaf,yaf];omega
theorem Scx.some_of (r:Scx (some v) o):∃u,o=some u/\Sz v u:=by
 cases o with
 |none=>exact (r).elim
 |some u=>exact ⟨u,rfl,r⟩
theorem Scx.none_of (r:Scx none o):o=none:=by
 cases o with
 |none=>rfl
 |some u=>exact (r).elim
theorem Jyb (r:Sz v u):PySem.W.handedIn u=true:=by
 cases v with
 |non=>cases (r);rfl
 |bl b=>cases (r);rfl
 |int i=>obtain ⟨t,e⟩:=(show ∃t,u=Value.int i t from r);cases e;rfl
 |str x=>obtain ⟨t,e⟩:=(show ∃t,u=Value.str x t from r);cases e;rfl
 |byt b=>obtain ⟨t,e⟩:=(show ∃t,u=Value.bytes b t from r);cases e;rfl
 |flt b=>obtain ⟨t,e⟩:=(show ∃t,u=Value.float b t from r);cases e;rfl
 |ref a=>cases (r);rfl
 |ty n=>cases (r);rfl
section
variable {P:S7} {w:S9} {H H':Hp} {h h':Sb} {a C dx:S1} {fs fs':List (Str×V)}
theorem Jvw (hok:HOk P w H h) (e:H a=some (.ins C dx fs)):∃mA,Shg h a dx C mA/\(∀f,Scx (fs.lookup f) (mA f))/\PySem.Within mA (fs.map (·.1))/\fs.length<=1000/\H dx=some (.own a):=by
 obtain ⟨d,z,ne,ob,mA,n,r,q⟩:=(hok a _ e);exact ⟨mA,⟨ob,n,ne⟩,r,q,z,d⟩
end
structure Cls (K:Sd) (C:S1):Prop where
 pg:PySem.W.plainGet K C Str.empty=true
 hd:PySem.W.hasDictIn K C=true
 po:PySem.W.plainOver K C=true
 sa:Sf K (.ref C) "__setattr__" =some (some (.builtin "object.__setattr__"))
theorem Cls.get {K} (c:Cls K C) (f):PySem.W.plainGet K C f=true:=c.pg
noncomputable def NoAttr (K:Sd) (C:S1) (f:Str):Prop:=Sf K (.ref C) f=some none
theorem NoAttr.taker {K} (n:NoAttr K C f):PySem.W.takerIn K C f=some none:=by
 unfold PySem.W.takerIn;rw [n];rfl
structure Jps (K:Sd) (C:S1) (m:Str) (f:S1):Prop where
 at_:Sf K (.ref C) m=some (some (.ref f))
 fn:PySem.W.isFn K (.ref f)=true
 kp:PySem.W.keepIn K (.ref f)=true
section
variable {X:Cx} {pins:List (S1×Obj)} {σ:St} {H:Hp} {s:S3} {a C dx:S1} {fs:List (Str×V)} {f:Str} {v:V} {A:Sa} {E:S2->S3->Prop}
theorem Yaj (I:Sm X pins σ H s) (e:H a=some (.ins C dx fs)) (c:Cls X.K C) (n:NoAttr X.K C f) (l:fs.lookup f=some v)
  (h:∀u s',Sm X pins σ H s'->Sz v u->Q u s'):Sc (model X.prog X.w) A (getAttr (.ref a) f b) Q E s:=by
 obtain ⟨mA,O,r,_,_,_⟩:=Jvw I.hok e;obtain ⟨u,hu,ru⟩:=Scx.some_of (by rw [<-l];exact r f);exact Yg2 I.kIn O (c.get f) c.hd n hu (Jyb ru) (h u _ (I.tok _) ru)
theorem Jqe {Q} (I:Sm X pins σ H s) (e:H a=some (.ins C dx fs)) (c:Cls X.K C) (k:Jps X.K C m g) (l:fs.lookup m=none)
  (h:Q (.ref g,[.ref a]) s):Sc (model X.prog X.w) A (getMethod (.ref a) m pl) Q E s:=by
 obtain ⟨mA,O,r,_,_,_⟩:=Jvw I.hok e;exact Ye1 I.kIn O (c.get m) k.at_ k.fn (Scx.none_of (by rw [<-l];exact r m)) h
theorem Yb7 (I:Sm X pins σ H s) (e:H a=some (.ins C dx fs)) (c:Cls X.K C) (n:NoAttr X.K C f) (hl:fs.length < 1000) (ry:Sz y u)
  (h:∀s',Sm X pins σ (upd H a (.ins C dx (Jom f y fs))) s'->Q () s'):Sc (model X.prog X.w) A (setAttr (.ref a) f u) Q E s:=by
 obtain ⟨mA,O,r,wi,_,ho⟩:=Jvw I.hok e;have hz:(fs.map (·.1)).length<=S6:=by rw [ye,sizeLine_eq];omega
 refine Ygv I.kIn O c.sa c.po n.taker c.hd wi hz λh' O' sb=>h _ ?_;have hd:∃o,h'.get? dx=some o:=let ⟨o,_,_,e',_⟩:=O'.ns;⟨o,e'⟩;refine I.write (by rw [e];exact True.intro) (.inr ho) (λb q hb z=>(sb.2 b hb).trans z) hd ⟨by rw [Jnc O.ne];exact ho,?_,O.ne,O'.obj,_,O'.ns,λg=>?_,λg hg=>?_⟩
 ·have:=Jv6 f y fs;omega
 ·show Scx ((Jom f y fs).lookup g) (if g=f then some u else mA g);rw [Jv8];by_cases q:g=f
  ·rw [if_pos q,if_pos q];exact ry
  ·rw [if_neg q,if_neg q];exact r g
 ·by_cases q:g=f
  ·rw [q];exact (Jum f y fs).1
  ·refine (Jum f y fs).2 g (wi g λz=>hg ?_);show (if g=f then some u else mA g)=none;rw [if_neg q];exact z
theorem Sm.made (I:Sm X pins σ H s):Sm X pins σ (upd (upd H s.heap.objs.size (.own (s.heap.objs.size+1))) (s.heap.objs.size+1) (.ins C s.heap.objs.size []))
  {s with heap:=(s.heap.push PySem.W.emptyDict).push (Sh C s.heap.objs.size)}:=by
 have e1:(s.heap.push PySem.W.emptyDict).get? s.heap.objs.size=some PySem.W.emptyDict:=yt s.heap rfl;have e2:=by
  have:=yt (s.heap.push PySem.W.emptyDict) (o:=Sh C s.heap.objs.size) rfl
  rwa [yat] at this
 have e3:(s.heap.push PySem.W.emptyDict).Ns s.heap.objs.size (λ_=>none):=⟨PySem.W.emptyDict,#[],_,e1,rfl,(λe he=>absurd he (by simp)),λ_=>rfl⟩;refine (I.laid (o:=.own (s.heap.objs.size+1)) (t':=s.toks) (λb u q=>ym _ q) (yg _) ⟨_,e1⟩).laid (λb u q=>ym _ q) (Nat.le_of_eq (yat _ _)) ?_;have ne:s.heap.objs.size≠s.heap.objs.size+1:=yy (ycf _);refine ⟨by rw [Jnc ne,Sn],yaj _,ne,e2,λ_=>none,(Heap.Ns1.of_empty e3).at λo q=>ym _ q,λ_=>True.intro,λy hy=>absurd rfl hy⟩
theorem Ybh (hb:attributeBase e f env (eval e env)=eval e env)
  (h:Sc (model prog w) A (eval e env) (λo s₁=>Sc (model prog w) A (getAttr o f true) Q E s₁) E s):Sc (model prog w) A (eval (.Attribute e f pos) env) Q E s:=
 Attribute_any_ h (by rw [arm_eval_Attribute,hb])
end
inductive Son (K:Sd) (f:Str) (Q:VK) (x:V) (H1:Hp):Prop where
 |mk (a:_) (C:_) (dx:_) (fs:_) (v:_) (_:x= .ref a) (_:H1 a=some (.ins C dx fs)) (_:Cls K C) (_:NoAttr K C f) (_:fs.lookup f=some v) (_:Q v H1)
noncomputable def Ssn (K:Sd) (ta:TE) (f:Str):TE:=λσ H Q=>ta σ H (Son K f Q)
noncomputable def Sxo (K:Sd) (ta tv:TE) (f:Str):TS:=λD σ H=>tv σ H λy H1=>ta σ H1 λx H2=>∃a C dx fs,x= .ref a/\H2 a=some (.ins C dx fs)/\Cls K C/\NoAttr K C f/\fs.length < 1000/\
 D.nx σ (upd H2 a (.ins C dx (Jom f y fs)))
section
variable {X:Cx} {o e value:Expr} {f:Str} {pos pos' tpos:Pos} {ta tv:TE}
theorem Jnl (he:PE X e ta) (hb:attributeBase e f X.env (eval e X.env)=eval e X.env):PE X (.Attribute e f pos) (Ssn X.K ta f):=by
 intro pins s σ H Q I h;refine Ybh hb (thn (he pins s σ H _ I h) λu s1 zq=>?_);obtain ⟨x,H1,I1,rx,a,C,dx,fs,v,ex,ea,c,n,l,q⟩:=zq;subst ex;obtain rfl:u=Value.ref a:=rx;exact Yaj I1 ea c n l λu' s2 I2 ru=>⟨v,H1,I2,ru,q⟩
theorem Jod (ha:PE X o ta) (hv:PE X value tv) (hs:swapsWith value (some (.Attribute o f pos')) pos.line X.env=pure false):PS X (.Assign [.Attribute o f pos'] value pos) (Sxo X.K ta tv f):=by
 intro pins s σ H D I h;refine plainObj_wpAny_Assign_Attribute (thn (hv pins s σ H _ I h) λu s1 ⟨y,H1,I1,ry,q⟩=>thn (ha pins s1 σ H1 _ I1 q) λov s2 zq=>?_) hs;obtain ⟨x,H2,I2,rx,a,C,dx,fs,ex,ea,c,n,l,q2⟩:=zq;subst ex;obtain rfl:ov=Value.ref a:=rx;exact Yb7 I2 ea c n l ry λs3 I3=>⟨σ,_,I3,q2⟩
end
section
variable {X:Cx} {pins:List (S1×Obj)} {σ:St} {H:Hp} {s:S3} {A:Sa} {E:S2->S3->Prop} {Q:S2->S3->Prop} {c:S2} {b:Bool}
inductive Jue (K:Sd) (H:Hp):V->S2->Prop where
 |non:Jue K H .non (.type "NoneType")
 |bl (x:Bool):Jue K H (.bl x) (.type "bool")
 |int (i:Int):Jue K H (.int i) (.type "int")
 |str (x:Str):Jue K H (.str x) (.type "str")
 |flt (x:UInt64):Jue K H (.flt x) (.type "float")
 |lst {a:S1} {xs:List V} (e:H a=some (.lst xs)):Jue K H (.ref a) (.type "list")
 |frz {a:S1} {o:Obj} {xs:List V} (e:H a=some (.frz o (.lst xs))):Jue K H (.ref a) (.type "list")
 |tup {a:S1} {xs:List V} (e:H a=some (.tup xs)):Jue K H (.ref a) (.type "tuple")
 |dK {a:S1} {kvs:List (Key×V)} (e:H a=some (.dK kvs)):Jue K H (.ref a) (.type "dict")
 |dT {a:S1} {kvs:List (List Key×V)} (e:H a=some (.dT kvs)):Jue K H (.ref a) (.type "dict")
 |ins {a C dx:S1} {fs:List (Str×V)} (e:H a=some (.ins C dx fs)) (cl:Cls K C) (ha:Sf K (.ref C) "__class__" =some (some (.builtin "object.__class__")))
   (hn:PySem.W.specialIn K (.builtin "object.__class__") "__get__" =some (some (.builtin "getset_descriptor.__get__"))) (htk:PySem.W.takesIn K (.builtin "object.__class__")=some true)
   (hm:Sg K C (.type "object")=some true):Jue K H (.ref a) (.ref C)
end
structure Sas (k:Nat) (A:Sa):Prop where
 hd:A.handled=none
 dp:A.depth+3*k+5 < recursionLimit
 un:A.units+16*k+200 < cLine
 gd:A.guards=some []
theorem Sas.mono (r:Sas k A) (h:j<=k):Sas j A:=⟨r.hd,by have:=r.dp;omega,by have:=r.un;omega,r.gd⟩
theorem Sas.deeper (r:Sas (k+1) A) (env):Sas k (A.deeper env):=
 ⟨r.hd,by have:=r.dp;show A.depth+1+3*k+5 < _;omega,by have:=r.un;show A.units+3+16*k+200 < _;omega,r.gd⟩
theorem Yam {A:Sa}:(A.under (.builtin "type.__call__" ⟨.ref C::us,kw⟩)).depth=A.depth+1:=by
 first|rfl|simp [Around.under]
theorem Yan {A:Sa}:(A.under (.builtin "type.__call__" ⟨.ref C::us,kw⟩)).units=A.units+1:=rfl
theorem Yc {A:Sa}:(A.under (.builtin "type.__call__" ⟨.ref C::us,kw⟩)).guards=A.guards:=by
 have e:(Code.builtin "type.__call__" ⟨.ref C::us,kw⟩).guards= []:=by
  have g:(Code.builtin "type.__call__" ⟨.ref C::us,kw⟩).isGuard=false:=by
   show guardIds.contains "type.__call__" =false;decide +kernel
  unfold Code.guards;rw [g];rfl
 show pushGuards (Code.builtin "type.__call__" ⟨.ref C::us,kw⟩).guards A.guards=_;rw [e];rfl
theorem Sas.make (r:Sas (k+1) A) (C) (us) (kw):Sas k (A.under (.builtin "type.__call__" ⟨.ref C::us,kw⟩)):=
 ⟨r.hd,by have:=r.dp;rw [Yam];omega,by have:=r.un;rw [Yan];omega,by rw [Yc];exact r.gd⟩
theorem Sas.depth (r:Sas k A):A.depth < recursionLimit:=by have:=r.dp;omega
theorem Sas.units (r:Sas k A):A.units+64 < cLine:=by have:=r.un;omega
noncomputable def Jvt:TA:=λ_ H Q=>Q [] H
noncomputable def Jo7 (ta:TE) (tr:TA):TA:=λσ H Q=>ta σ H λx H1=>tr σ H1 λxs H2=>Q (x::xs) H2
section
variable {X:Cx} {e:Expr} {es:List Expr} {te:TE} {t:TA} {pos:Pos}
theorem Sk:PA X [] Jvt:=λ_ _ _ _ H Q I h=>Calls.spliced_nil ⟨[],H,I,.nil,h⟩
theorem Sj (ha:PE X e te) (hr:PA X es t) (hs:starEach (e::es) X.env=(false,eval e X.env)::starEach es X.env:=by rfl):PA X (e::es) (Jo7 te t):=by
 intro pos pins s σ H Q I h;rw [hs];show Sc _ _ (spliced ((false,eval e X.env)::backTo pos (starEach es X.env))) _ _ s;exact Calls.spliced_cons (thn (ha pins s σ H _ I h) λu s1 ⟨x,H1,I1,r1,q1⟩=>thn (hr pos pins s1 σ H1 _ I1 q1) λus s2 ⟨xs,H2,I2,r2,q2⟩=>⟨x::xs,H2,I2,.cons r1 r2,q2⟩)
inductive Sor (Q:VK) (xs:List V) (H1:Hp):Prop where
 |mk (_:xs.length<=S6) (_:∀p,H1 p=none->Q (.ref p) (upd H1 p (.tup xs)))
noncomputable def Sy5 (t:TA):TE:=λσ H Q=>t σ H (Sor Q)
inductive Sop (Q:VK) (xs:List V) (H1:Hp):Prop where
 |mk (_:xs.length<=S6) (_:∀p,H1 p=none->Q (.ref p) (upd H1 p (.lst xs)))
noncomputable def Sy0 (t:TA):TE:=λσ H Q=>t σ H (Sop Q)
theorem Jnz (h:PA X es t):PE X (.Tuple es x1 pos) (Sy5 t):=by
 intro pins s σ H Q I hq;refine wpAny_Tuple_spliced (thn (h pos pins s σ H _ I hq) λus s1 ⟨xs,H1,I1,r,z,q⟩=>⟨by rw [<-r.length];exact z,⟨.ref s1.heap.objs.size,upd H1 s1.heap.objs.size (.tup xs),I1.laid (λb u e=>ym _ e) (yg _) ?_,rfl,q _ (I1.hok.fresh (yg _))⟩⟩);exact ⟨z,us,r,⟨_,yt _ rfl,rfl,_,rfl⟩⟩
theorem Jo3 (h:PA X es t):PE X (.List es pos) (Sy0 t):=by
 intro pins s σ H Q I hq;refine wpAny_List_spliced (thn (h pos pins s σ H _ I hq) λus s1 ⟨xs,H1,I1,r,z,q⟩=>⟨by rw [<-r.length];exact z,⟨.ref s1.heap.objs.size,upd H1 s1.heap.objs.size (.lst xs),I1.laid (λb u e=>ym _ e) (yg _) ?_,rfl,q _ (I1.hok.fresh (yg _))⟩⟩);exact ⟨z,us,0,r,yt _ rfl⟩
end
noncomputable abbrev Sp:=List V->Hp->VK->XK->Prop
noncomputable abbrev CXT:=List Env->Hp->S3->XK->S2->S3->Prop
structure Sh1 (P:S7) (w:S9) (K:Sd) (mg:Str->Option S2) (base:Sb) (A:Sa) (outer:List Env) (s:S3) (H:Hp):Prop where
 frames:A.frames=some outer
 mod:Mod K mg base
 bs:∀b o,base.get? b=some o->s.heap.get? b=some o/\H b=none
 bsz:base.objs.size<=s.heap.objs.size
 funs:s.heap.FunFrames base outer
 frf:∀b∈frs outer,H b=none
 hok:HOk P w H s.heap
 bare:AllBare s.gens
noncomputable def CE (outer:List Env) (P:S7) (w:S9) (H:Hp) (s:S3) (Q:VK) (u:S2) (s':S3):Prop:=
 ∃v H',s'.os=s.os/\AllBare s'.gens/\Un (frs outer) [] H H' s.heap s'.heap/\HOk P w H' s'.heap/\Sz v u/\Q v H'
noncomputable def CR (CX:CXT) (outer:List Env) (P:S7) (w:S9) (H:Hp) (s:S3) (Q:VK) (E:XK) (r:Result) (s':S3):Prop:=
 match r with
 | .ok (.ret u)=>CE outer P w H s Q u s'
 | .ok _=>False
 | .error e=>CX outer H s E e s'
structure So (P:S7) (w:S9) (K:Sd) (mg:Str->Option S2) (base:Sb) (CX:CXT) (k:Nat) (f:S1) (fd:S8) (ps:List Str) (sp:Sp):Prop where
 len:∀vs H Q E,sp vs H Q E->vs.length=ps.length
 run:∀(A:Sa) (outer:List Env) (s:S3) (H:Hp) (args:Args) (us:List S2) (vs:List V) (Q:VK) (E:XK),Sas k A->Sh1 P w K mg base A outer s H->BindsTo s fd args (ps.zip us)->Sx vs us->sp vs H Q E->
  codeAny (model P w) A (.call (.ref f) args) (CR CX outer P w H s Q E) s
theorem So.imp {K} (F:So P w K mg base CX k f fd ps sp)
  (h:∀vs H Q E,sp' vs H Q E->sp vs H Q E):So P w K mg base CX k f fd ps sp':=
 ⟨λvs H Q E q=>F.len vs H Q E (h _ _ _ _ q),λA outer s H args us vs Q E hr he hb hv hs=>F.run A outer s H args us vs Q E hr he hb hv (h _ _ _ _ hs)⟩
theorem Sh1.make {K} (e:Sh1 P w K mg base A outer s H) (C) (us) (kw):
  Sh1 P w K mg base (A.under (.builtin "type.__call__" ⟨.ref C::us,kw⟩)) outer s H:=⟨by first|exact e.frames|(simpa [Around.under] using e.frames),e.mod,e.bs,e.bsz,e.funs,e.frf,e.hok,e.bare⟩
section
variable {X:Cx} {pins:List (S1×Obj)} {σ:St} {H:Hp} {s s':S3}
theorem Sm.env0 (I:Sm X pins σ H s):Sh1 X.prog X.w X.K X.mg X.base X.A X.stack s H:=
 ⟨I.ok.frames,I.ok.mod,I.bs,yae I.ok.bsz I.sz,I.stack,I.stkFree,I.hok,I.bare⟩
theorem Sm.after (I:Sm X pins σ H s) (h:CE X.stack X.prog X.w H s Q u s'):EP X pins σ Q u s':=by
 obtain ⟨v,H',os,bare,un,hok,r,q⟩:=h;obtain ⟨hh,g,d,t,os'⟩:=s';obtain rfl:os'=s.os:=os;exact ⟨v,H',I.call un hok bare (λb z=>absurd z (by simp)),r,q⟩
end
noncomputable def Sld (sp:Sp) (dvs:List V) (E:XK) (t:TA):TE:=λσ H Q=>t σ H λvs H1=>sp (vs++dvs) H1 Q E
inductive Yhl (C:S1) (m:Str) (sp:Sp) (dvs:List V) (E:XK) (t:TA) (σ:St) (Q:VK) (x:V) (H1:Hp):Prop where
 |mk (a:_) (dx:_) (fs:_) (_:x= .ref a) (_:H1 a=some (.ins C dx fs)) (_:fs.lookup m=none) (_:t σ H1 λvs H2=>sp (x::(vs++dvs)) H2 Q E)
noncomputable def Sle (C:S1) (m:Str) (sp:Sp) (dvs:List V) (E:XK) (ta:TE) (t:TA):TE:=λσ H Q=>ta σ H (Yhl C m sp dvs E t σ Q)
noncomputable def Ssp (C:S1) (sp:Sp) (dvs:List V) (E:XK) (t:TA):TE:=λσ H Q=>t σ H λvs H1=>∀x dx,H1 x=none->H1 dx=none->dx≠x->
 sp (.ref x::(vs++dvs)) (upd (upd H1 dx (.own x)) x (.ins C dx [])) (λv H2=>v= .non/\Q (.ref x) H2) E
noncomputable def Sbf (K:Sd) (fd:S8) (ps:List Str) (ds:List S2):Prop:=
 ∀(s:S3) (us:List S2),K.In s.heap->(us++ds).length=ps.length->BindsTo s fd ⟨us,[]⟩ (ps.zip (us++ds))
theorem Sbf.all {K} (h:∀us:List S2,us.length=ps.length->bindArgs fd ⟨us,[]⟩=pure (ps.zip us)):Sbf K fd ps []:=λs us _ hl=>by
 rw [ybb] at hl⊢;exact .of_eq (h us hl)
noncomputable def Jsw (CX:CXT) (X:Cx) (E:XK):Prop:=∀(pins:List (S1×Obj)) (σ:St) (H:Hp) (s:S3) (e:S2) (s':S3),Sm X pins σ H s->CX X.stack H s E e s'->X.xe e s'
section
variable {X:Cx} {CX:CXT} {k:Nat} {f C:S1} {fd:S8} {ps:List Str} {sp:Sp} {dvs:List V} {ds:List S2} {E:XK} {x m:Str} {p pos apos:Pos} {e o:Expr} {es:List Expr} {ta:TE} {t:TA}
theorem Jx5 (F:So X.prog X.w X.K X.mg X.base CX k f fd ps sp) (hr:Sas k X.A) (hb:Sbf X.K fd ps ds) (hd:Sx dvs ds) (hx:Jsw CX X E)
  (I:Sm X pins σ H s) (r:Sx vs us) (h:sp (vs++dvs) H Q E):Sc (model X.prog X.w) X.A (call (.ref f) us) (EP X pins σ Q) X.xe s:=by
 have r2:=r.append hd;have hl:(us++ds).length=ps.length:=by rw [<-r2.length];exact F.len _ _ _ _ h
 refine wpAny_call (codeAny_mono (F.run X.A X.stack s H ⟨us,[]⟩ (us++ds) (vs++dvs) Q E hr I.env0 (hb s us I.kIn hl) r2 h) λr s' hq=>?_);cases r with
 |error e=>exact hx pins σ H s e s' I hq
 |ok fl=>
  cases fl with
  |ret u=>exact I.after hq
  |next=>exact False.elim hq
  |brk=>exact False.elim hq
  |cont=>exact False.elim hq
theorem Ygl (F:So X.prog X.w X.K X.mg X.base CX k f fd ps sp) (hr:Sas k X.A) (hg:Gl X x) (hm:X.mg x=some (.ref f)) (hk:PySem.W.keepIn X.K (.ref f)=true) (hb:Sbf X.K fd ps ds) (hd:Sx dvs ds) (hx:Jsw CX X E)
  (ha:PA X (e::es) t) (hdb:(x==("__debug__" :Str))=false:=by decide) (he:starEach (e::es) X.env=(false,eval e X.env)::starEach es X.env:=by rfl) (hpl:(backTo pos (starEach es X.env)).any (·.1)=false:=by rfl):
  PE X (.Call (.Name x p) (e::es) [] pos) (Sld sp dvs E t):=by
 intro pins s σ H Q I h;exact wpAny_Call_Name_kw (Jse I hg hm (PySem.W.callWith_K I.ok.mod.kin hk (thn (ha pos pins s σ H _ I h) λus s1 ⟨vs,H1,I1,r,q⟩=>⟨I1.kIn,Jx5 F hr hb hd hx I1 r q⟩) he hpl) hdb)
theorem Jw4 {pl} (he:PE X o ta) (c:Cls X.K C) (hm:Jps X.K C m f) (F:So X.prog X.w X.K X.mg X.base CX k f fd ps sp) (hr:Sas k X.A) (hb:Sbf X.K fd ps ds) (hd:Sx dvs ds) (hx:Jsw CX X E) (ha:PA X (e::es) t)
  (hst:starEach (e::es) X.env=(false,eval e X.env)::starEach es X.env:=by rfl) (hpl:(backTo pos (starEach es X.env)).any (·.1)=false:=by rfl)
  (ht:eval (.Call (.Attribute o m apos) (e::es) [] pos) X.env=(do
   let ov<-eval o X.env
   standAt apos.atName
   let (f,first)<-holding [ov] (getMethod ov m pl)
   callWith pos f first (backTo pos (starEach (e::es) X.env)) (backToKw pos (keywordEach [] X.env))):=by rfl):
  PE X (.Call (.Attribute o m apos) (e::es) [] pos) (Sle C m sp dvs E ta t):=by
 intro pins s σ H Q I h;refine PySem.W.methodCall_KW (thn (he pins s σ H _ I h) λu s1 zq=>?_) ht;obtain ⟨x,H1,I1,rx,a,dx,fs,ex,ea,l,q⟩:=zq;subst ex;obtain rfl:u=Value.ref a:=rx;exact Jqe I1 ea c hm l (PySem.W.callWith_K I.ok.mod.kin hm.kp (thn (ha pos pins s1 σ H1 _ I1 q) λus s2 ⟨vs,H2,I2,r,q2⟩=>⟨I2.kIn,Jx5 (vs:=.ref a::vs) F hr hb hd hx I2 (.cons rfl r) q2⟩) hst hpl)
theorem Jqk (he:PE X o ta) (c:Cls X.K C) (hm:Jps X.K C m f) (F:So X.prog X.w X.K X.mg X.base CX k f fd ps sp) (hr:Sas k X.A) (hb:Sbf X.K fd ps ds) (hd:Sx dvs ds) (hx:Jsw CX X E)
  (ht:eval (.Call (.Attribute o m apos) [] [] pos) X.env=(do
   let ov<-eval o X.env
   standAt apos.atName
   let (f,first)<-holding [ov] (getMethod ov m pl)
   callWith pos f first (backTo pos (starEach [] X.env)) (backToKw pos (keywordEach [] X.env))):=by rfl):
  PE X (.Call (.Attribute o m apos) [] [] pos) (Sle C m sp dvs E ta Jvt):=by
 intro pins s σ H Q I h;refine PySem.W.methodCall_KW (thn (he pins s σ H _ I h) λu s1 zq=>?_) ht;obtain ⟨x,H1,I1,rx,a,dx,fs,ex,ea,l,q⟩:=zq;subst ex;obtain rfl:u=Value.ref a:=rx;exact Jqe I1 ea c hm l (PySem.W.callWith_K0 I1.kIn hm.kp (Jx5 (vs:=[.ref a]) F hr hb hd hx I1 (.cons rfl .nil) q))
structure Mk (K:Sd) (C f:S1):Prop where
 makes:PySem.W.makesIn K C=true
 init:Sf K (.ref C) "__init__" =some (some (.ref f))
 fn:PySem.W.isFn K (.ref f)=true
 kp:PySem.W.keepIn K (.ref C)=true
theorem Yey {σ:St} {H} {s} {Q} {us} {vs} (M:Mk X.K C f) (F:So X.prog X.w X.K X.mg X.base CX k f fd ps sp) (hr:Sas (k+1) X.A) (hb:Sbf X.K fd ps ds) (hd:Sx dvs ds)
  (hx:Jsw CX X E) (I:Sm X pins σ H s) (r:Sx vs us)
  (h:∀x dx,H x=none->H dx=none->dx≠x->sp (.ref x::(vs++dvs)) (upd (upd H dx (.own x)) x (.ins C dx [])) (λv H2=>v= .non/\Q (.ref x) H2) E):
  Sc (model X.prog X.w) X.A (call (.ref C) us) (EP X pins σ Q) X.xe s:=by
 have hq:=h (s.heap.objs.size+1) s.heap.objs.size (I.hok.fresh (Nat.le_succ _)) (I.hok.fresh (yg _)) (yy (ycf _));have I2:=Sm.made (C:=C) I;have r2:Sx (V.ref (s.heap.objs.size+1)::(vs++dvs)) (Value.ref (s.heap.objs.size+1)::(us++ds)):=.cons rfl (r.append hd);have hl:=by
  have e:=r2.length;rw [F.len _ _ _ _ hq] at e;exact e.symm
 refine wpAny_call (Yeh I.kIn M.makes M.init (beq_iff_eq.mp M.fn) (codeAny_mono (F.run _ X.stack _ _ ⟨Value.ref (s.heap.objs.size+1)::us,[]⟩ (Value.ref (s.heap.objs.size+1)::(us++ds)) _ _ E (hr.make C us [])
  (I2.env0.make C us []) (hb _ (Value.ref (s.heap.objs.size+1)::us) I2.kIn hl) r2 hq) λr s' hq'=>?_))
 cases r with
 |error e=>exact hx pins σ _ _ e s' I2 hq'
 |ok fl=>
  cases fl with
  |ret u=>
   obtain ⟨v,H',I3,rv,ev,q3⟩:=I2.after hq';subst ev;exact ⟨rv,⟨V.ref (s.heap.objs.size+1),H',I3,rfl,q3⟩⟩
  |next=>exact False.elim hq'
  |brk=>exact False.elim hq'
  |cont=>exact False.elim hq'
theorem Jqd (M:Mk X.K C f) (F:So X.prog X.w X.K X.mg X.base CX k f fd ps sp) (hr:Sas (k+1) X.A) (hg:Gl X x) (hm:X.mg x=some (.ref C)) (hb:Sbf X.K fd ps ds) (hd:Sx dvs ds) (hx:Jsw CX X E)
  (ha:PA X (e::es) t) (hdb:(x==("__debug__" :Str))=false:=by decide) (he:starEach (e::es) X.env=(false,eval e X.env)::starEach es X.env:=by rfl) (hpl:(backTo pos (starEach es X.env)).any (·.1)=false:=by rfl):
  PE X (.Call (.Name x p) (e::es) [] pos) (Ssp C sp dvs E t):=by
 intro pins s σ H Q I h;exact wpAny_Call_Name_kw (Jse I hg hm (PySem.W.callWith_K I.ok.mod.kin M.kp (thn (ha pos pins s σ H _ I h) λus s1 ⟨vs,H1,I1,r,q⟩=>⟨I1.kIn,Yey M F hr hb hd hx I1 r q⟩) he hpl) hdb)
end
section
variable {X:Cx} {CX:CXT} {k:Nat} {f C:S1} {fd:S8} {ps ks:List Str} {sp:Sp} {E:XK} {x m:Str} {p pos apos kpos:Pos} {e o:Expr} {es:List Expr} {kws:List Keyword} {te ta:TE} {t tk:TA} {nm:Option Str}
variable {g:List S2->List S2->List S2} {gV:List V->List V->List V}
end
structure Jne (N P:List Str) (sc:Scope):Prop where
 kind:sc.kind= .function
 co:sc.isCoroutine=false
 gen:sc.isGenerator=false
 nd:N.Nodup
 pre:N.take P.length=P
 par:∀x∈P,sc.names.lookup x=some .local\/sc.names.lookup x=some .cell
 nofree:∀y∈sc.names,y.2≠ .free
theorem Jy0 {kindOf}:∀{binds} {m},(∀v,(x,v)∉binds)->bindL kindOf binds m x=m x
 | [],_,_=>rfl
 | (n,v) :: r,m,h=>by
  unfold bindL;rw [Jy0 λw hw=>h w (yac _ hw)];split
  ·have:x≠n:=by rintro rfl;exact h v yah
   simp [this]
  ·rfl
theorem Jxy {kindOf}:∀{binds} {m},(∀v,(x,v)∉binds)->bindC kindOf binds m x=m x
 | [],_,_=>rfl
 | (n,v) :: r,m,h=>by
  unfold bindC;rw [Jxy λw hw=>h w (yac _ hw)];split
  ·rfl
  ·have:x≠n:=by rintro rfl;exact h v yah
   simp [this]
theorem Jxz {kindOf:Str->Option NameKind} {x:Str} {v:S2}:∀{P:List Str} {vs:List S2} {i:Nat} {m:Str->Option S2},P.Nodup->P[i]?=some x->vs[i]?=some v->kindOf x=some .local->
  bindL kindOf (P.zip vs) m x=some v
 | [],_,_,_,_,h,_,_=>by simp at h
 |_::_,[],_,_,_,_,h,_=>by simp at h
 |p::P,w::vs,0,m,nd,h1,h2,hk=>by
  simp at h1 h2;subst h1;subst h2;show bindL kindOf ((p,w)::P.zip vs) m p=_;unfold bindL;rw [Jy0 λv hv=>(ybq.mp nd).1 (List.of_mem_zip hv).1,if_pos hk];simp
 |p::P,w::vs,i+1,m,nd,h1,h2,hk=>by
  show bindL kindOf ((p,w)::P.zip vs) m x=_;unfold bindL;exact Jxz (i:=i) (ybq.mp nd).2 (by simpa using h1) (by simpa using h2) hk
theorem Jxx {kindOf:Str->Option NameKind} {x:Str} {v:S2}:∀{P:List Str} {vs:List S2} {i:Nat} {m:Str->Option S2},P.Nodup->P[i]?=some x->vs[i]?=some v->kindOf x≠some .local->
  bindC kindOf (P.zip vs) m x=some v
 | [],_,_,_,_,h,_,_=>by simp at h
 |_::_,[],_,_,_,_,h,_=>by simp at h
 |p::P,w::vs,0,m,nd,h1,h2,hk=>by
  simp at h1 h2;subst h1;subst h2;show bindC kindOf ((p,w)::P.zip vs) m p=_;unfold bindC;rw [Jxy λv hv=>(ybq.mp nd).1 (List.of_mem_zip hv).1,if_neg hk];simp
 |p::P,w::vs,i+1,m,nd,h1,h2,hk=>by
  show bindC kindOf ((p,w)::P.zip vs) m x=_;unfold bindC;exact Jxx (i:=i) (ybq.mp nd).2 (by simpa using h1) (by simpa using h2) hk
noncomputable def start (N:List Str) (vs:List V):St:=vs.map some++yw (N.length - vs.length) none
noncomputable def Y5 (CX:CXT) (P:S7) (w:S9) (K:Sd) (mg:Str->Option S2) (base:Sb) (N:List Str) (qual:Str) (scope:Scope) (f:S1) (cd:S2) (A:Sa) (outer:List Env) (s:S3) (H:Hp) (E:XK):Cx where
 prog:=P
 w:=w
 K:=K
 mg:=mg
 base:=base
 A:=A.deeper (envOfC qual scope s.heap.objs.size f cd)
 N:=N
 s₀:=s
 H₀:=H
 env:=envOfC qual scope s.heap.objs.size f cd
 outer:=outer
 stack:=envOfC qual scope s.heap.objs.size f cd::outer
 ex:=[]
 calm:=true
 fn:=λ_=>true
 pn:=[]
 xe:=λe s'=>Sc (model P w) (A.deeper (envOfC qual scope s.heap.objs.size f cd)) (leaving (envOfC qual scope s.heap.objs.size f cd) e) (λ_ s''=>CX outer H s E e s'') (λe' s''=>CX outer H s E e' s'') s'
theorem Y1 {sc:Scope} (h:sc.names.lookup x=some .cell):∃c,(cellsFrom n sc.names []).lookup x=some c:=Option.isSome_iff_exists.mp (PySem.W.cellsFrom_some sc.names n [] (.inl h))
theorem Yck {K}
  (S:Jne N ps scope) (hd:A.handled=none) (e0:Sh1 P w K mg base A outer s H) (hl:vs.length=ps.length) (r:Sx vs us)
  (x:InCallC s s.heap.objs.size (bindL (envOfC qual scope s.heap.objs.size f cd).kindOf (ps.zip us) λ_=>none) (cellsFrom (s.heap.objs.size+1) scope.names []) (bindC (envOfC qual scope s.heap.objs.size f cd).kindOf (ps.zip us) λ_=>none) s1):
  Sm (Y5 CX P w K mg base N qual scope f cd A outer s H E) [] (start N vs) H s1:=by
 have hpl:=by have:=congrArg List.length S.pre;rw [yaa] at this;omega
 obtain ⟨h1,tk,rfl,hk⟩:=x.done;have noA:∀b:S1,b∉(Y5 CX P w K mg base N qual scope f cd A outer s H E).ex:=λb z=>absurd (show b∈ [] from z) (by simp);refine ⟨⟨e0.mod,S.kind,rfl,rfl,yg _,λy z c h1 h2=>?_,λy hy=>?_,λy c _ h=>?_,λ_=>hd,Around.frames_deeper e0.frames,.inr ⟨rfl,rfl⟩,λb z=>absurd z (noA b),e0.bs,e0.bsz,λb _ _=>noA b,λb z=>absurd z (noA b),e0.funs,e0.frf⟩,
  rfl,e0.bare,Un.kept hk,⟨_,x.toInCall.ns,λi y v h1 h2 h3=>?_⟩,λy c h=>⟨_,x.cell y c h⟩,e0.hok.fresh (yg _),λy c h=>?_,λp hp=>absurd (show p∈ [] from hp) (by simp),e0.hok.kept hk,?_⟩
 ·exact name_of_addr x.apart (PySem.mem_of_lookup h1) (PySem.mem_of_lookup h2)
 ·have hy:=hy;rcases hy with hy|hy
  ·exact Y1 hy
  ·exact absurd rfl (S.nofree _ (PySem.mem_of_lookup hy))
 ·exact yce (x.above y c (PySem.mem_of_lookup h))
 ·have hi:i < vs.length:=by
   unfold start at h2;by_cases hi:i < vs.length
   ·exact hi
   ·rw [List.getElem?_append_right (by simpa using hi)] at h2;rw [List.getElem?_replicate] at h2;split at h2 <;> cases h2
  have ha:vs[i]?=some v:=by
   unfold start at h2;rw [List.getElem?_append_left (by simpa using hi),yi] at h2;cases e:vs[i]? with
   |none=>rw [e] at h2;cases h2
   |some a=>rw [e] at h2;cases h2;rfl
  obtain ⟨u,hu,rv⟩:=r.get ha;have hp:ps[i]?=some y:=by
   rw [<-S.pre,List.getElem?_take_of_lt (by omega)];exact h1
  have ndP:ps.Nodup:=by rw [<-S.pre];exact S.nd.sublist (List.take_sublist _ _)
  refine ⟨u,rv,?_⟩;rcases S.par y (yq hp) with k|k
  ·exact .inl ⟨k,Jxz ndP hp hu k⟩
  ·obtain ⟨c,e⟩:=Y1 k;refine .inr ⟨.inl k,c,e,?_⟩;have q:=x.cell y c e;rw [Jxx ndP hp hu (by show scope.names.lookup y≠_;rw [k];decide)] at q;exact q
 ·exact .inl (e0.hok.fresh (yce (x.above y c (PySem.mem_of_lookup h))))
 ·unfold start;show _=N.length;rw [yab,ye,ycg];omega
theorem Sl1 {K} {kV oc}
  (lk:K.lookup f=some ⟨oc,od,.func (PySem.W.fnOf name qual params body scope dV kV doc pm an cdv ct),osl⟩) (hcd:PySem.W.codeIn K cdv qual=true) (S:Jne N ps scope)
  (len:∀vs H Q E,sp vs H Q E->vs.length=ps.length)
  (hbody:∀A outer s H vs Q E,Sas k (A.deeper (envOfC qual scope s.heap.objs.size f cdv))->sp vs H Q E->
   ∃t,PSs (Y5 CX P w K mg base N qual scope f cdv A outer s H E) body t/\t {nx:=λ_ H'=>Q .non H',rt:=Q} (start N vs) H):
  So P w K mg base CX (k+1) f (PySem.W.fnOf name qual params body scope dV kV doc pm an cdv ct) ps sp:=by
 refine ⟨len,λA outer s H args us vs Q E hr e0 hb r hsp=>?_⟩;have KX:=e0.mod.kin.keeps λb o e=>(e0.bs b o e).1;have hkind:∀y∈ps.zip us,scope.names.lookup y.1=some .local\/(scope.names.lookup y.1=some .cell/\((cellsFrom (s.heap.objs.size+1) scope.names []).lookup y.1).isSome=true):=λ⟨n,v⟩ hy=>by
  rcases S.par n (List.of_mem_zip hy).1 with q|q
  ·exact .inl q
  ·exact .inr ⟨q,PySem.W.cellsFrom_some _ _ _ (.inl q)⟩
 refine codeAny_call_function hr.depth (KX _ _ lk) rfl S.co S.gen rfl (PySem.W.codeRec_of KX hcd) (hb _ _ _ _ (wpAny_newFunctionEnv_cells S.kind hkind λenv he s1 x=>?_));subst he;refine ⟨(e0.mod.nolimit.keeps λb o e=>(e0.bs b o e).1).keeps x.toInCall.keep,codeAny_func ?_⟩;obtain ⟨t,ht,hq⟩:=hbody A outer s H vs Q E (hr.deeper _) hsp;have I:Sm (Y5 CX P w K mg base N qual scope f cdv A outer s H E) [] (start N vs) H s1:=Yck S hr.hd e0 (len _ _ _ _ hsp) r x;refine wpAny_mono (ht [] s1 (start N vs) H _ I hq) (λfl s' hs=>?_) λe s' hs=>hs;have fin:∀{σ':St} {H':Hp} {v:V} {u:S2},Sm (Y5 CX P w K mg base N qual scope f cdv A outer s H E) [] σ' H' s'->Sz v u->Q v H'->CE outer P w H s Q u s':=
  λ{σ' H' v u} J rv q=>⟨v,H',J.os,J.bare,J.base,J.hok,rv,q⟩
 cases fl with
 |ret u=>
  obtain ⟨v,σ',H',J,rv,q⟩:=hs;exact fin J rv q
 |next=>
  obtain ⟨σ',H',J,q⟩:=hs;exact fin (v:=V.non) J rfl q
 |brk=>
  obtain ⟨_,_,_,q⟩:=hs;exact False.elim q
 |cont=>
  obtain ⟨_,_,_,q⟩:=hs;exact False.elim q
section
variable {X:Cx} {x:Str} {p pos:Pos} {e:Expr} {es:List Expr} {t:TA} {id T:String} {r:List V->Hp->VK->Prop}
noncomputable def tCB (r:List V->Hp->VK->Prop) (t:TA):TE:=λσ H Q=>t σ H λvs H1=>r vs H1 Q
theorem Jng (hc:Jp9 X (.builtin id) r) (hg:Gl X x) (hm:X.mg x=none) (hv:bootBuiltins x=some (.builtin id)) (ha:PA X (e::es) t) (hn:x≠"__name__" :=by decide) (hdb:(x==("__debug__" :Str))=false:=by decide)
  (he:starEach (e::es) X.env=(false,eval e X.env)::starEach es X.env:=by rfl) (hpl:(backTo pos (starEach es X.env)).any (·.1)=false:=by rfl):PE X (.Call (.Name x p) (e::es) [] pos) (tCB r t):=by
 intro pins s σ H Q I h;exact wpAny_Call_Name_kw (Jqf I hg hm hv (PyProof.Rows.callWith_builtin1 (thn (ha pos pins s σ H _ I h) λus s1 ⟨vs,H1,I1,r1,q1⟩=>hc pins s1 σ H1 vs us Q I1 r1 q1) he hpl) hn hdb)
theorem Jny (hc:Jp9 X (.type T) r) (hg:Gl X x) (hm:X.mg x=none) (hv:bootBuiltins x=some (.type T)) (ha:PA X (e::es) t) (hn:x≠"__name__" :=by decide) (hdb:(x==("__debug__" :Str))=false:=by decide)
  (he:starEach (e::es) X.env=(false,eval e X.env)::starEach es X.env:=by rfl) (hpl:(backTo pos (starEach es X.env)).any (·.1)=false:=by rfl):PE X (.Call (.Name x p) (e::es) [] pos) (tCB r t):=by
 intro pins s σ H Q I h;exact wpAny_Call_Name_kw (Jqf I hg hm hv (PyProof.Rows.callWith_type1 (thn (ha pos pins s σ H _ I h) λus s1 ⟨vs,H1,I1,r1,q1⟩=>hc pins s1 σ H1 vs us Q I1 r1 q1) he hpl) hn hdb)
end
end L2
namespace HT
open PySem PyProof.Rows
section
open PySem.SeqAt
open PySem.AutoSeq1 (wpAny_loadPart')
open PySem.MeetsSeq PySem.MeetsSeq2 PySem.MeetsSeq3
end
section
variable {prog:S7} {w:S9} {A:Sa} {E:S2->S3->Prop} {s:S3}
theorem cat_tup (ht:IsTup s.heap t vs.toArray) (hb:IsTup s.heap b ws.toArray) (hv:vs≠ [])
  (h1:ws= []->Q (.ref t) s) (h2:ws≠ []->Q (.ref s.heap.objs.size) {s with heap:=s.heap.push {cls:=.type "tuple",data:=.seq (vs++ws).toArray}})
  (hsz:vs.length+ws.length<=S6):Sc (model prog w) A (binaryOp .Add (.ref t) (.ref b)) Q E s:=by
 obtain ⟨⟨cls,dd,data,sl⟩,ho,hc,n,hd⟩:=id ht;obtain ⟨⟨cls2,dd2,data2,sl2⟩,ho2,hc2,n2,hd2⟩:=id hb;subst hc hd hc2 hd2;have e:vs.toArray++ws.toArray=(vs++ws).toArray:=by simp
 by_cases hw:ws= []
 ·exact concat_meets ⟨_,ho,rfl⟩ ⟨_,ho2,rfl⟩ noFill_tuple_add seq_tuple_add PySem.F.slot_tuple_add PySem.F.entry_tuple_add (PySem.F.args_tuple_add_2 _ _)
   (tuple_addW1 t b vs.toArray ws.toArray n n2 dd dd2 sl sl2 (by simpa using hv) (by simp [hw])) ⟨ho,ho2,h1 hw⟩
 ·refine concat_meets ⟨_,ho,rfl⟩ ⟨_,ho2,rfl⟩ noFill_tuple_add seq_tuple_add PySem.F.slot_tuple_add PySem.F.entry_tuple_add (PySem.F.args_tuple_add_2 _ _)
   (tuple_addW2 t b vs.toArray ws.toArray n n2 dd dd2 sl sl2 (by simpa using hv) (by simpa using hw) (by rw [yp];exact hsz)) ⟨ho,ho2,?_⟩
  rw [e];exact h2 hw
noncomputable def sIx (n d:Nat):Option Int->Nat
 |none=>d
 |some v=>if v < 0 then (v+(n:Int)).toNat else min v.toNat n
theorem sIx_none (n d):sIx n d none=d:=rfl
theorem sIx_nat (n d k:Nat):sIx n d (some k)=min k n:=rfl
theorem Ybm (v:Int) (n d:Nat):(if v < 0 then max (v+n) 0 else min v n)=((sIx n d (some v):Nat):Int):=by
 show (if v < 0 then max (v+n) 0 else min v n)=(if v < 0 then (v+n).toNat else min v.toNat n);by_cases hv:v < 0
 ·simp only [if_pos hv];omega
 ·simp only [if_neg hv];omega
theorem Ya7 (lo hi) (n:Nat):Builtin.Slice.sliceAdjust lo hi 1 (n)=(((sIx n 0 lo:Nat):Int),(sIx n n hi:Int)):=by
 refine Prod.ext ?_ ?_
 ·cases lo with
  |none=>rfl
  |some v=>exact Ybm v n 0
 ·cases hi with
  |none=>rfl
  |some v=>exact Ybm v n n
theorem Yaz (i j:Nat):Builtin.Slice.slicePlaces (i) (j) 1=j - i:=by
 unfold Builtin.Slice.slicePlaces;split <;> omega
theorem Jx8 (p:IsPart v o) (h:Q o s):Sc (model prog w) A (Builtin.Slice.slicePartIndex v) Q E s:=by
 cases p with
 |none=>exact slicePart_none h
 |int i t=>exact slicePart_int h
theorem Jv1 {lo hi} {n:Nat} {Q} (hs:s.heap.IsSliceOf sl vl vu .none) (pl:IsPart vl lo) (pu:IsPart vu hi)
  (h:Q (((sIx n 0 lo:Nat):Int),1,sIx n n hi - sIx n 0 lo) s):Sc (model prog w) A (Builtin.Slice.sliceApplied (.ref sl) (pure n)) Q E s:=by
 obtain ⟨os,hos,hcs,hds⟩:=id hs;refine S4 (S4 (wpAny_field hos hds rfl (S4 (wpAny_field hos hds rfl (S4 (wpAny_field hos hds rfl (S5 (S4 (slicePart_none (S4 (Jx8 pl (S4 (Jx8 pu (S4 (S5 ?_)))))))))))))));show Sc _ _ (match Builtin.Slice.sliceAdjust lo hi 1 n with|(lo,hi)=>pure (lo,(1:Int),Builtin.Slice.slicePlaces lo hi 1)) _ _ s;rw [Ya7 lo hi n];show Sc _ _ (pure ((sIx n 0 lo:Int),1,Builtin.Slice.slicePlaces (sIx n 0 lo) (sIx n n hi) 1)) _ _ s;rw [Yaz];exact S5 h
theorem Yel (xs:Array S2) (i k:Nat):((yav k).filterMap λ(m:Nat)=>xs[((i:Int)+m*1).toNat]?).toArray=((xs.toList.drop i).take k).toArray:=by
 have e:(λ(m:Nat)=>xs[((i:Int)+m*1).toNat]?)=λm=>xs[i+m]?:=by
  funext m;have:((i:Int)+m*1).toNat=i+m:=by omega
  rw [this]
 rw [e];have:=pick_run xs i k;rw [List.filterMap_map] at this;have e2:((λx=>xs[x]?)∘λx=>i+x)=λm=>xs[i+m]?:=rfl;rw [e2] at this;rw [this]
theorem getItem_tuple_cut {items} {vl vu} {lo hi} {Q} (ht:IsTup s.heap t items) (hs:s.heap.IsSliceOf sl vl vu .none) (pl:IsPart vl lo) (pu:IsPart vu hi)
  (hw:¬(sIx items.size 0 lo=0/\sIx items.size items.size hi=items.size))
  (h:Q (.ref s.heap.objs.size) {s with heap:=s.heap.push {cls:=.type "tuple",data:=.seq ((items.toList.drop (sIx items.size 0 lo)).take (sIx items.size items.size hi - sIx items.size 0 lo)).toArray}})
  (hsz:items.size<=S6):Sc (model prog w) A (getItem (.ref t) (.ref sl)) Q E s:=by
 have htake:=by
  show ((items.toList.drop (sIx items.size 0 lo)).take (sIx items.size items.size hi - sIx items.size 0 lo)).toArray.size<=S6;rw [yp,yaa,ybj,ybv];omega
 obtain ⟨os,hos,hcs,hds⟩:=id hs;have hTs:s.TypeIs (.ref sl) "slice" :=⟨os,hos,hcs⟩;unfold getItem
 try with_reducible refine wpAny_holding ?_
 refine S4 (wpAny_sequenceKey ht.typeIs (by decide) (S4 (wpAny_callSpecial?_slot ht.typeIs PyProof.Rows.slot_tuple_getitem
  (wpAny_call_entry PyProof.Rows.slot_tuple_getitem ht.typeIs entry_tuple_getitem ?_ (args_tuple_getitem _ _)))))
 show Sc _ _ (Builtin.Tuple.tupleItemsOf (.ref t) >>=_) _ _ s;refine S4 (tupleItemsOf_ ht (S4 (wpAny_typeOf hTs (S4 (Jv1 hs pl pu ?_)))));have hno:¬(((sIx items.size 0 lo:Int)==0&&(1:Int)==1&&(sIx items.size items.size hi - sIx items.size 0 lo)==items.size)=true):=by
  intro q;rw [yap,yap] at q;have q1:=eq_of_beq q.1.1;have q2:=eq_of_beq q.2;exact hw ⟨by omega,by omega⟩
 show Sc _ _ (if ((sIx items.size 0 lo:Int)==0&&1==1&&(sIx items.size items.size hi - sIx items.size 0 lo)==items.size)=true then _ else _) _ _ s;rw [if_neg hno,Yel]
 first
  |exact S4 (wpAny_newObj_type (S5 ⟨_,rfl,S5 h⟩) htake)
  |exact S4 (wpAny_newObj_type (S4 (S5 (S5 ⟨_,rfl,S5 h⟩))) htake)
  |exact S4 (S4 (wpAny_newObj_type (S5 (S5 ⟨_,rfl,S5 h⟩)) htake))
  |exact S4 (S4 (wpAny_newObj_type (S5 ⟨_,rfl,S5 h⟩) htake))
end
end HT
namespace L2
open PySem PySem.Spec PyProof.Rows
noncomputable abbrev TO:=St->Hp->(Option Int->Hp->Prop)->Prop
noncomputable def PO (X:Cx) (e:Option Expr) (t:TO):Prop:=
 ∀(pins:List (S1×Obj)) (s:S3) (σ:St) (H:Hp) (Q:Option Int->Hp->Prop),Sm X pins σ H s->t σ H Q->
  Sc (model X.prog X.w) X.A (evalPart e X.env) (λu s'=>∃o H',Sm X pins σ H' s'/\IsPart u o/\Q o H') X.xe s
noncomputable def Yhm:TO:=λ_ H Q=>Q none H
inductive Yho (Q:(Option Int->Hp->Prop)) (x:V) (H1:Hp):Prop where
 |mk (i:_) (_:x= .int i) (_:Q (some i) H1)
noncomputable def Ssr (t:TE):TO:=λσ H Q=>t σ H (Yho Q)
section
variable {X:Cx} {e:Expr} {te:TE} {lo hi:Option Expr} {tl th:TO} {pos p2:Pos}
theorem Jsi:PO X none Yhm:=by
 intro pins s σ H Q I h;exact S5 ⟨none,H,I,.none,h⟩
theorem Jp7 (h:PE X e te):PO X (some e) (Ssr te):=by
 intro pins s σ H Q I hw;refine thn (h pins s σ H _ I hw) λu s1 zq=>?_;obtain ⟨x,H1,I1,r1,q1⟩:=zq;obtain ⟨i,rfl,q⟩:=q1;obtain ⟨t,rfl⟩:=r1;exact ⟨some i,H1,I1,.int i t,q⟩
noncomputable def SlR (X:Cx) (r:V->Option Int->Option Int->Hp->VK->Prop):Prop:=
 ∀(pins:List (S1×Obj)) (s:S3) (σ:St) (H:Hp) (x:V) (v vl vu:S2) (lo hi:Option Int) (sl:S1) (Q:VK),Sm X pins σ H s->Sz x v->s.heap.IsSliceOf sl vl vu .none->IsPart vl lo->IsPart vu hi->r x lo hi H Q->
  ∃T id,typeLookup (.type T) "__getitem__" =pure (some (.builtin id))/\s.TypeIs v T/\Sc (model X.prog X.w) X.A (getItem v (.ref sl)) (EP X pins σ Q) X.xe s
noncomputable def tSl (r:V->Option Int->Option Int->Hp->VK->Prop) (te:TE) (tl th:TO):TE:=λσ H Q=>te σ H λx H1=>tl σ H1 λl H2=>th σ H2 λu H3=>r x l u H3 Q
theorem Jpj (hr:SlR X r) (he:PE X e te) (hl:PO X lo tl) (hu:PO X hi th):PE X (.Subscript e (.Slice lo hi none p2) pos) (tSl r te tl th):=by
 intro pins s σ H Q I h;refine Subscript_ (thn (he pins s σ H _ I h) λv s1 ⟨x,H1,I1,r1,q1⟩=>wpAny_Slice (thn (hl pins s1 σ H1 _ I1 q1) λvl s2 ⟨l,H2,I2,pl,q2⟩=>thn (hu pins s2 σ H2 _ I2 q2) λvu s3 ⟨u,H3,I3,pu,q3⟩=>S5 ?_));have I4:Sm X pins σ H3 {s3 with heap:=s3.heap.push {cls:=.type "slice",data:=.fields #[vl,vu,.none]}}:=I3.kept λb ob q=>ym _ q;obtain ⟨T,id,hT,ht,hg⟩:=hr pins {s3 with heap:=s3.heap.push {cls:=.type "slice",data:=.fields #[vl,vu,.none]}} σ H3 x v vl vu l u s3.heap.objs.size Q I4 r1 (Heap.IsSliceOf.new ..) pl pu q3;exact tail_any ht hT hg (by with_unfolding_all rfl)
noncomputable def Jqt (xs:List V) (lo hi:Option Int):List V:=(xs.drop (HT.sIx xs.length 0 lo)).take (HT.sIx xs.length xs.length hi - HT.sIx xs.length 0 lo)
theorem Jv3 (xs) (lo hi):(Jqt xs lo hi).length<=xs.length:=by
 unfold Jqt;rw [yaa,ybj];omega
inductive Sxn (K:Sd) (x:V) (lo:Option Int) (hi:Option Int) (H:Hp) (Q:VK):Prop where
 |mk (a:_) (xs:_) (_:x= .ref a) (_:Su K H a xs) (_:¬(HT.sIx xs.length 0 lo=0/\HT.sIx xs.length xs.length hi=xs.length)) (_:∀p,H p=none->Q (.ref p) (upd H p (.tup (Jqt xs lo hi))))
theorem Yb8:SlR X (Sxn X.K):=by
 intro pins s σ H x v vl vu lo hi sl Q I rx hs pl pu h;obtain ⟨a,xs,rfl,hx,hw,q⟩:=h;cases rx;obtain ⟨its,r,ht,hz⟩:=I.tuple hx;have hlen:its.toArray.size=xs.length:=by rw [yp];exact r.length.symm
 refine ⟨"tuple",_,PyProof.Rows.slot_tuple_getitem.lookup,ht.typeIs,HT.getItem_tuple_cut ht hs pl pu (by rw [hlen];exact hw) ?_ (by rw [hlen];exact hz)⟩;rw [hlen];refine ⟨.ref s.heap.objs.size,_,I.laid (λb ob q=>ym _ q) (yg _) ?_,rfl,q _ (I.hok.fresh (yg _))⟩;exact ⟨yae (Jv3 xs lo hi) hz,_,(r.drop (HT.sIx xs.length 0 lo)).take (HT.sIx xs.length xs.length hi - HT.sIx xs.length 0 lo),IsTup.new _ _⟩
inductive Srr (K:Sd) (x:V) (y:V) (H:Hp) (Q:VK):Prop where
 |mk (a:_) (b:_) (xs:_) (ys:_) (_:x= .ref a) (_:y= .ref b) (_:Su K H a xs) (_:Su K H b ys) (_:xs≠ []) (_:xs.length+ys.length<=S6) (_:(ys= []->Q (.ref a) H)) (_:(ys≠ []->∀p,H p=none->Q (.ref p) (upd H p (.tup (xs++ys)))))
theorem Sx.nil_iff (r:Sx xs us):us= []↔xs= []:=by
 cases r with
 |nil=>simp
 |cons _ _=>simp
theorem Ygi:OpR X (binaryOp .Add) (Srr X.K):=by
 rintro pins s σ H x y v u Q I rx ry ⟨a,b,xs,ys,rfl,rfl,ha,hb,hx,hz,q1,q2⟩;cases rx;cases ry;obtain ⟨its,r1,p1,_⟩:=I.tuple ha;obtain ⟨its2,r2,p2,_⟩:=I.tuple hb;refine HT.cat_tup p1 p2 (λz=>hx (r1.nil_iff.mp z)) (λz=>⟨.ref a,H,I,rfl,q1 (r2.nil_iff.mp z)⟩) (λz=>⟨.ref s.heap.objs.size,_,I.laid (λb ob q=>ym _ q) (yg _) ?_,rfl,q2 (λw=>z (r2.nil_iff.mpr w)) _ (I.hok.fresh (yg _))⟩) (by rw [<-r1.length,<-r2.length];exact hz);exact ⟨by rw [yab];exact hz,_,r1.append r2,IsTup.new _ _⟩
end
noncomputable def ixN (n:Nat) (i:Int):Option Nat:=if 0<=i then (if i < n then some i.toNat else none) else if -(n:Int)<=i then some (i+n).toNat else none
noncomputable def atI {α:Type} (xs:List α) (i:Int):Option α:=(ixN xs.length i).bind λj=>xs[j]?
theorem Ybs (h:ixN n i=some j):seqIndex? i n=some j/\j < n/\ -(n)<=i/\i < n:=by
 unfold ixN at h;by_cases h0:0<=i
 ·rw [if_pos h0] at h;by_cases h1:i < n
  ·rw [if_pos h1] at h;have e:=yz.inj h;exact ⟨by rw [seqIndex_of h0 h1,e],by omega,by omega,h1⟩
  ·rw [if_neg h1] at h;cases h
 ·rw [if_neg h0] at h;by_cases h1: -n<=i
  ·rw [if_pos h1] at h;have e:=yz.inj h;exact ⟨by rw [seqIndex_neg (by omega) h1,e],by omega,h1,by omega⟩
  ·rw [if_neg h1] at h;cases h
theorem Jvu (h:atI xs i=some v):∃j,seqIndex? i xs.length=some j/\xs[j]?=some v/\j < xs.length/\ -(xs.length:Int)<=i/\i < xs.length:=by
 unfold atI at h;cases e:ixN xs.length i with
 |none=>rw [e] at h;cases h
 |some j=>
  rw [e] at h;obtain ⟨h1,h2,h3,h4⟩:=Ybs e;exact ⟨j,h1,h,h2,h3,h4⟩
theorem Jsb {j:Nat} (h:xs[j]?=some v):atI xs (j)=some v:=by
 have hj:=(yj.mp h).1;have e:ixN xs.length j=some j:=by
  unfold ixN;rw [if_pos (by omega),if_pos (by omega)];simp
 unfold atI;rw [e];exact h
noncomputable def Yfw (b:Expr):Prop:=∀o i,subscripted b false o i=operate [o,i] (getItem o i)
noncomputable def IxR (X:Cx) (r:R2):Prop:=
 ∀(value slice:Expr) (pins:List (S1×Obj)) (s:S3) (σ:St) (H:Hp) (x y:V) (v u:S2) (Q:VK),Sm X pins σ H s->Sz x v->Sz y u->r x y H Q->
  subscripted slice false v u=operate [v,u] (getItem v u)->Sc (model X.prog X.w) X.A (subscriptTail value slice v u) (EP X pins σ Q) X.xe s
noncomputable def MtR (X:Cx) (id:String) (r:V->List V->Hp->VK->Prop):Prop:=
 ∀(pins:List (S1×Obj)) (s:S3) (σ:St) (H:Hp) (x:V) (xs:List V) (v:S2) (us:List S2) (Q:VK),Sm X pins σ H s->Sz x v->Sx xs us->r x xs H Q->
  Sc (model X.prog X.w) X.A (call (.builtin id) (v::us)) (EP X pins σ Q) X.xe s
section
variable {X:Cx} {a b:Expr} {ta tb:TE} {pos:Pos}
theorem Jno (hr:IxR X r) (ha:PE X a ta) (hb:PE X b tb) (hs:Yfw b):PE X (.Subscript a b pos) (tOp r ta tb):=by
 intro pins s σ H Q I h;exact Subscript_ (Smc ha hb I h λv u s2 x y H2 I2 rx ry q=>hr a b pins s2 σ H2 x y v u Q I2 rx ry q (hs _ _))
inductive Sxk (K:Sd) (x:V) (y:V) (H:Hp) (Q:VK):Prop where
 |mk (p:_) (xs:_) (i:_) (v:_) (_:x= .ref p) (_:y= .int i) (_:Ss K H p xs) (_:atI xs i=some v) (_:Q v H)
inductive Srv (K:Sd) (x:V) (y:V) (H:Hp) (Q:VK):Prop where
 |mk (p:_) (xs:_) (i:_) (v:_) (_:x= .ref p) (_:y= .int i) (_:Su K H p xs) (_:atI xs i=some v) (_:Q v H)
inductive Sxl (x:V) (y:V) (H:Hp) (Q:VK):Prop where
 |mk (z:_) (i:_) (c:_) (_:x= .str z) (_:y= .int i) (_:z.length<=S6) (_:atI z.cps.toList i=some c) (_:Q (.str ⟨#[c]⟩) H)
theorem Joe:IxR X (Sxk X.K):=by
 rintro value slice pins s σ H x y v u Q I rx ry ⟨p,xs,i,z,rfl,rfl,hq,he,q⟩ hs;cases rx;obtain ⟨t,rfl⟩:=ry;obtain ⟨its,r,pl,hz⟩:=I.list hq;obtain ⟨j,h1,h2,h3,h4,h5⟩:=Jvu he;obtain ⟨w,ew,rw'⟩:=r.get h2;have hl:=r.length;have hn:=Jt0;have fin:EP X pins σ Q w s:=⟨z,H,I,rw',q⟩;by_cases h0:0<=i
 ·have hj:=by
   rw [seqIndex_of h0 h5] at h1;exact yz.inj h1
  exact item_listR pl.isList h0 (by omega) (by rw [hj];simpa using ew) fin hs
 ·have hj:(i+its.toArray.size).toNat=j:=by
   rw [seqIndex_neg (by omega) h4] at h1;rw [yp,<-hl];exact yz.inj h1
  exact subscriptTail_builtinR pl.isList.typeIs slot_list_getitem.lookup
   (wpAny_getItem_list_neg pl.isList (by omega) (by rw [yp] <;> omega) (by omega) (by rw [hj];simpa using ew) ⟨rfl,fin⟩) hs
theorem Jns:IxR X (Srv X.K):=by
 rintro value slice pins s σ H x y v u Q I rx ry ⟨p,xs,i,z,rfl,rfl,hq,he,q⟩ hs;cases rx;obtain ⟨t,rfl⟩:=ry;obtain ⟨its,r,pl,hz⟩:=I.tuple hq;obtain ⟨j,h1,h2,h3,h4,h5⟩:=Jvu he;obtain ⟨w,ew,rw'⟩:=r.get h2;have hn:=Jt0;have fin:EP X pins σ Q w s:=⟨z,H,I,rw',q⟩;exact subscriptTail_builtinR pl.typeIs slot_tuple_getitem.lookup
  (getItem_tuple pl (by omega) (by omega) (by rw [yp,<-r.length];exact h1) (by simpa using ew) ⟨rfl,fin⟩) hs
theorem Ye8:IxR X Sxl:=by
 rintro value slice pins s σ H x y v u Q I rx ry ⟨z,i,c,rfl,rfl,hz,he,q⟩ hs;obtain ⟨t,rfl⟩:=rx;obtain ⟨t',rfl⟩:=ry;obtain ⟨j,h1,h2,h3,h4,h5⟩:=Jvu he;have hl:z.cps.toList.length=z.length:=by simp [Str.length]
 rw [hl] at h1 h4 h5;have hn:=Jt0;exact tail_any (typeIs_str s z t) slot_str_getitem.lookup (getItem_str (by
  have e1:decide (i < -2^63)=false:=decide_eq_false (by omega);have e2:decide (i≥2^63)=false:=decide_eq_false (by omega);rw [e1,e2,Bool.or_false]) (by rw [h1];simpa using h2) ⟨.str ⟨#[c]⟩,H,I.tok _,⟨_,rfl⟩,q⟩) hs
theorem Yao (its:List S2) (n j) (u):Obj.mapSeq (·.setIfInBounds j u) {cls:=.type "list",data:=.seq its.toArray n}={cls:=.type "list",data:=.seq (its.set j u).toArray n}:=by
 simp [Obj.mapSeq]
theorem Sm.lst (I:Sm X pins σ H s) (h:H p=some (.lst xs)):
  ∃(its:List S2) (n:Nat),Sx xs its/\s.heap.get? p=some {cls:=.type "list",data:=.seq its.toArray n}/\xs.length<=S6:=by
 obtain ⟨z,its,n,r,e⟩:=I.hok p _ h;exact ⟨its,n,r,e,z⟩
theorem Sm.lstUpd {σ:St} {H} {s} {p} {xs ys} {its its':List S2} {n n'} {f} (I:Sm X pins σ H s) (h:H p=some (.lst xs))
  (ho:s.heap.get? p=some {cls:=.type "list",data:=.seq its.toArray n}) (hf:f {cls:=.type "list",data:=.seq its.toArray n}={cls:=.type "list",data:=.seq its'.toArray n'}) (r:Sx ys its') (hz:ys.length<=S6) (t):
  Sm X pins σ (upd H p (.lst ys)) {s with heap:=s.heap.update p f,toks:=t}:=by
 have e:(s.heap.update p f).get? p=some {cls:=.type "list",data:=.seq its'.toArray n'}:=by
  rw [yck f ho (by rw [hf] <;> rfl),hf]
 refine I.write (by rw [h];trivial) (.inl rfl) (λb u hb q=>(ybr _ _ (yx hb)).trans q) ⟨_,e⟩ ?_;exact ⟨hz,its',n',r,e⟩
inductive Srx (o:V) (i:V) (v:V) (H:Hp) (Q:(Hp->Prop)):Prop where
 |mk (p:_) (xs:_) (k:_) (j:_) (_:o= .ref p) (_:i= .int k) (_:H p=some (.lst xs)) (_:ixN xs.length k=some j) (_:Q (upd H p (.lst (xs.set j v))))
theorem Js9:Sm5 X Srx:=by
 rintro pins s σ H o i v ov iv u Q I ro ri rv ⟨p,xs,k,j,rfl,rfl,hp,hj,q⟩;cases ro;obtain ⟨t,rfl⟩:=ri;obtain ⟨its,n,r,ho,hz⟩:=I.lst hp;obtain ⟨h1,h2,h3,h4⟩:=Ybs hj;have hl:=r.length;have hn:=Jt0;have I':=
  I.lstUpd hp ho (Yao its n j u) (r.set rv j) (by rw [ybl];exact hz) s.toks
 by_cases h0:0<=k
 ·have hk:=by
   rw [seqIndex_of h0 h4] at h1;exact yz.inj h1
  exact PySem.W.ki_setAt ho h0 (by omega) (by rw [yp,<-hl];exact h4) (by rw [hk];exact ⟨_,I',q⟩)
 ·have hk:(k+its.toArray.size).toNat=j:=by
   rw [seqIndex_neg (by omega) h3] at h1;rw [yp,<-hl];exact yz.inj h1
  exact PySem.W.ki_setBack ho (by omega) (by rw [yp,<-hl];exact h3) (by omega) (by rw [hk];exact ⟨_,I',q⟩)
theorem Jzj (lo hi) (n):(sliceBounds lo hi none n).1=((HT.sIx n 0 lo:Nat):Int)/\(sliceBounds lo hi none n).2.1=((HT.sIx n n hi:Nat):Int)/\(sliceBounds lo hi none n).2.2=1:=by
 refine ⟨?_,?_,rfl⟩
 ·cases lo with
  |none=>simp [sliceBounds,HT.sIx]
  |some i=>
   simp only [sliceBounds,HT.sIx,Option.getD_none,show (1:Int) > 0 by decide,if_true];by_cases h:i < 0
   ·simp only [h,if_true] <;> omega
   ·simp only [h,if_false] <;> omega
 ·cases hi with
  |none=>simp [sliceBounds,HT.sIx]
  |some i=>
   simp only [sliceBounds,HT.sIx,Option.getD_none,show (1:Int) > 0 by decide,if_true];by_cases h:i < 0
   ·simp only [h,if_true] <;> omega
   ·simp only [h,if_false] <;> omega
theorem Jxt (its:List S2) (lo hi):slicePick its.toArray lo hi none=((its.drop (HT.sIx its.length 0 lo)).take (HT.sIx its.length its.length hi - HT.sIx its.length 0 lo)).toArray:=by
 obtain ⟨h1,h2,h3⟩:=Jzj lo hi its.toArray.size;unfold slicePick;rw [h1,h2,h3];simp only [sliceRange_one,pick_run] <;> rfl
inductive Sry (K:Sd) (x:V) (lo:Option Int) (hi:Option Int) (H:Hp) (Q:VK):Prop where
 |mk (a:_) (xs:_) (_:x= .ref a) (_:Ss K H a xs) (_:∀p,H p=none->Q (.ref p) (upd H p (.lst (Jqt xs lo hi))))
theorem Jw8:SlR X (Sry X.K):=by
 intro pins s σ H x v vl vu lo hi sl Q I rx hs pl pu h;obtain ⟨a,xs,rfl,hx,q⟩:=h;cases rx;obtain ⟨its,r,ht,hz⟩:=I.list hx;have hlen:=r.length;refine ⟨"list",_,slot_list_getitem.lookup,ht.isList.typeIs,wpAny_getItem_list_slice ht.isList hs pl pu .none (by simp) ?_ (by rw [yp] <;> omega)⟩;rw [Jxt,<-hlen];refine ⟨.ref s.heap.objs.size,_,I.laid (λb ob q=>ym _ q) (yg _) ?_,rfl,q _ (I.hok.fresh (yg _))⟩;exact ⟨yae (Jv3 xs lo hi) hz,_,0,(r.drop (HT.sIx xs.length 0 lo)).take (HT.sIx xs.length xs.length hi - HT.sIx xs.length 0 lo),yt _ rfl⟩
noncomputable def Jqo:V->Bool
 | .non=>true
 | .bl _=>true
 | .int _=>true
 | .str _=>true
 |_=>false
noncomputable def eqV:V->V->Bool
 | .non,.non=>true
 | .bl a,.bl b=>a==b
 | .bl a,.int b=>(if a then 1 else 0)==b
 | .int a,.bl b=>a==(if b then 1 else 0)
 | .int a,.int b=>a==b
 | .str a,.str b=>a==b
 |_,_=>false
theorem Ydt (ry:Sz y u) (rx:Sz x v) (fy:Jqo y=true) (fx:Jqo x=true):SeqAt.EqAt A s u v (eqV y x):=by
 cases y with
 |non=>
  cases ry;cases x with
  |non=>cases rx;exact SeqAt.EqAt.same _
  |bl b=>cases rx;exact SeqAt.EqAt.none_bool b
  |int b=>obtain ⟨t,rfl⟩:=rx;exact SeqAt.EqAt.none_int b t
  |str b=>obtain ⟨t,rfl⟩:=rx;exact SeqAt.EqAt.none_str b t
  |_=>exact absurd (fx) yai
 |bl a=>
  cases ry;cases x with
  |non=>cases rx;exact SeqAt.EqAt.bool_none a
  |bl b=>cases rx;exact SeqAt.EqAt.bool_bool a b
  |int b=>obtain ⟨t,rfl⟩:=rx;exact SeqAt.EqAt.bool_int a b t
  |str b=>obtain ⟨t,rfl⟩:=rx;exact SeqAt.EqAt.bool_str a b t
  |_=>exact absurd (fx) yai
 |int a=>
  obtain ⟨t',rfl⟩:=ry;cases x with
  |non=>cases rx;exact SeqAt.EqAt.int_none a t'
  |bl b=>cases rx;exact SeqAt.EqAt.int_bool a t' b
  |int b=>obtain ⟨t,rfl⟩:=rx;exact SeqAt.EqAt.int_int a t' b t
  |str b=>obtain ⟨t,rfl⟩:=rx;exact SeqAt.EqAt.int_str a t' b t
  |_=>exact absurd (fx) yai
 |str a=>
  obtain ⟨t',rfl⟩:=ry;cases x with
  |non=>cases rx;exact SeqAt.EqAt.str_none a t'
  |bl b=>cases rx;exact SeqAt.EqAt.str_bool a t' b
  |int b=>obtain ⟨t,rfl⟩:=rx;exact SeqAt.EqAt.str_int a t' b t
  |str b=>obtain ⟨t,rfl⟩:=rx;exact SeqAt.EqAt.str_str a t' b t
  |_=>exact absurd (fx) yai
 |_=>exact absurd (fy) yai
noncomputable def eqU (x:V) (u:S2):Bool:=match u with
 | .none=>eqV .non x
 | .bool b=>eqV (.bl b) x
 | .int i _=>eqV (.int i) x
 | .str z _=>eqV (.str z) x
 |_=>false
theorem Ydu (r:Sz y u) (f:Jqo y=true):eqU x u=eqV y x:=by
 cases y with
 |non=>cases r;rfl
 |bl b=>cases r;rfl
 |int i=>obtain ⟨t,rfl⟩:=r;rfl
 |str z=>obtain ⟨t,rfl⟩:=r;rfl
 |_=>exact absurd (f) yai
theorem Jyr {x:V}:∀{xs:List V} {us:List S2},Sx xs us->xs.all Jqo=true->us.any (eqU x)=xs.any λy=>eqV y x
 |_,_,.nil,_=>rfl
 |y::xs,u::us,.cons r t,f=>by
  rw [List.all_cons,yap] at f;rw [List.any_cons,List.any_cons,Ydu r f.1,Jyr t f.2]
theorem Jwn {A:Sa} {s:S3} {x:V} {v:S2} (rx:Sz x v) (fx:Jqo x=true):∀{xs:List V} {us:List S2},Sx xs us->xs.all Jqo=true->∀u∈us,SeqAt.EqAt A s u v (eqU x u)
 |_,_,.nil,_=>λu hu=>by cases hu
 |y::xs,u::us,.cons r t,f=>λu' hu=>by
  rw [List.all_cons,yap] at f;rcases yo.mp hu with rfl|hu
  ·rw [Ydu r f.1];exact Ydt r rx f.1 fx
  ·exact Jwn rx fx t f.2 u' hu
noncomputable def inV (x:V) (xs:List V):Bool:=xs.any λy=>eqV y x
inductive rIn (K:Sd) (neg:Bool) (x:V) (y:V) (H:Hp) (Q:VK):Prop where
 |mk (p:_) (xs:_) (_:y= .ref p) (_:(Ss K H p xs\/Su K H p xs)) (_:Jqo x=true) (_:xs.all Jqo=true) (_:Q (.bl (if neg then !inV x xs else inV x xs)) H)
theorem Ycr:OpR X (compareOp .In) (rIn X.K false):=by
 rintro pins s σ H x y v u Q I rx ry ⟨p,xs,rfl,hq,fx,fs,q⟩;cases ry;rcases hq with hq|hq
 ·obtain ⟨its,r,pl,hz⟩:=I.list hq;refine SeqAt.in_listAt (eqU x) pl.isList (λw hw=>Jwn rx fx r fs w (by simpa using hw)) ⟨.bl _,H,I,rfl,?_⟩;rw [show its.toArray.any (eqU x)=its.any (eqU x) by simp,Jyr r fs];exact q
 ·obtain ⟨its,r,pl,hz⟩:=I.tuple hq;refine SeqAt.in_tupleAt (eqU x) pl (λw hw=>Jwn rx fx r fs w (by simpa using hw)) ⟨.bl _,H,I,rfl,?_⟩;rw [show its.toArray.any (eqU x)=its.any (eqU x) by simp,Jyr r fs];exact q
theorem Jnm:Jp9 X (.builtin "len") (λxs H Q=>∃p ys,xs= [.ref p]/\(Ss X.K H p ys\/Su X.K H p ys)/\Q (.int ys.length) H):=by
 rintro pins s σ H xs us Q I r ⟨p,ys,rfl,hq,q⟩;obtain ⟨u,rfl,rx⟩:=Jq1 r;cases rx;have hn:=Jt0;rcases hq with hq|hq
 ·obtain ⟨its,r',pl,hz⟩:=I.list hq;have hlen:=r'.length;exact Calls.call_len_list pl.isList (by simp only [yp] <;> omega) ⟨.int ys.length,H,I.tok _,⟨s.toks+1,by rw [yp,hlen]⟩,q⟩
 ·obtain ⟨its,r',pl,hz⟩:=I.tuple hq;have hlen:=r'.length;exact len_tuple pl (by simp only [yp] <;> omega) ⟨.int ys.length,H,I.tok _,⟨s.toks+1,by rw [yp,hlen]⟩,q⟩
theorem Jys:Jp9 X (.builtin "len") (λxs H Q=>∃z,xs= [.str z]/\z.length<=S6/\Q (.int z.length) H):=by
 rintro pins s σ H xs us Q I r ⟨z,rfl,hz,q⟩;obtain ⟨u,rfl,t,rfl⟩:=Jq1 r;have hn:=Jt0;exact len_str (by omega) ⟨.int z.length,H,I.tok _,⟨_,rfl⟩,q⟩
theorem Jpv:Jp9 X (.type "list") (λxs H Q=>∃p ys,xs= [.ref p]/\(Ss X.K H p ys\/Su X.K H p ys)/\∀l,H l=none->Q (.ref l) (upd H l (.lst ys))):=by
 rintro pins s σ H xs us Q I r ⟨p,ys,rfl,hq,q⟩;obtain ⟨u,rfl,rx⟩:=Jq1 r;cases rx;have fin:∀its,Sx ys its->ys.length<=S6->∀h' c',(∀b o',s.heap.get? b=some o'->h'.get? b=some o')->
   h'.get? s.heap.objs.size=some {cls:=.type "list",dict:=none,data:=.seq its.toArray c',slots:=#[]}->EP X pins σ Q (.ref s.heap.objs.size) {s with heap:=h'}:=λits r' hz h' c' kp e=>
  ⟨.ref s.heap.objs.size,_,I.laid kp (yg _) (show Sah X.prog X.w _ h' _ (.lst ys) from ⟨hz,its,c',r',e⟩),rfl,q _ (I.hok.fresh (yg _))⟩
 rcases hq with hq|hq
 ·obtain ⟨its,r',pl,hz⟩:=I.list hq;have hlen:=r'.length;obtain ⟨o,ho,hc,n,hd⟩:=pl.isList;exact call_list_seq p (.inl rfl) ho hc hd (λh' c' kp e=>fin its r' hz h' c' kp e) (by simp only [yp] <;> omega)
 ·obtain ⟨its,r',pl,hz⟩:=I.tuple hq;have hlen:=r'.length;obtain ⟨o,ho,hc,n,hd⟩:=pl;exact call_list_seq p (.inr rfl) ho hc hd (λh' c' kp e=>fin its r' hz h' c' kp e) (by simp only [yp] <;> omega)
theorem Jof:Jp9 X (.type "tuple") (λxs H Q=>∃p ys,xs= [.ref p]/\((Ss X.K H p ys/\∀l,H l=none->Q (.ref l) (upd H l (.tup ys)))\/(Su X.K H p ys/\Q (.ref p) H))):=by
 rintro pins s σ H xs us Q I r ⟨p,ys,rfl,h⟩;obtain ⟨u,rfl,rx⟩:=Jq1 r;cases rx;rcases h with ⟨hq,q⟩|⟨hq,q⟩
 ·obtain ⟨its,r',pl,hz⟩:=I.list hq;have hlen:=r'.length;refine call_tuple_list pl.isList (λh' kp=>?_) (by simp only [yp] <;> omega);have I1:Sm X pins σ H {s with heap:=h'}:=I.kept kp;have I2:Sm X pins σ (upd H h'.objs.size (.tup ys)) {s with heap:=h'.push {cls:=.type "tuple",data:=.seq its.toArray}}:=
   I1.laid (λb o e=>ym _ e) (yg _) (⟨hz,its,r',IsTup.new _ _⟩)
  exact ⟨.ref h'.objs.size,_,I2,rfl,q _ (I1.hok.fresh (yg _))⟩
 ·obtain ⟨its,r',pl,hz⟩:=I.tuple hq;exact call_tuple_same pl ⟨.ref p,H,I,rfl,q⟩
noncomputable def tyV (K:Sd) (T:String) (x:V) (H:Hp):Prop:=match x with
 | .str _=>T="str"
 | .int _=>T="int"
 | .ref p=>(T="list" /\∃xs,Ss K H p xs)\/(T="tuple" /\∃o,K.lookup p=some o/\o.cls= .type "tuple" /\o.dict=none)\/
   (T="dict" /\((∃kvs,H p=some (.dK kvs))\/∃kvs,H p=some (.dT kvs)))\/(T="set" /\∃S n,H p=some (.set S n))
 |_=>False
theorem Soy (I:Sm X pins σ H s) (r:Sz x v) (ty:tyV X.K T x H):
  s.TypeIs v T/\∀a,v= .ref a->∃ob,s.heap.get? a=some ob/\ob.dict=none:=by
 cases x with
 |str z=>
  obtain ⟨t,rfl⟩:=r;cases (ty);exact ⟨typeIs_str s z t,λ_ e=>nomatch e⟩
 |int i=>
  obtain ⟨t,rfl⟩:=r;cases (ty);exact ⟨typeIs_int s i t,λ_ e=>nomatch e⟩
 |ref p=>
  cases r;rcases ty with ⟨rfl,xs,hq⟩|⟨rfl,o,hk,hc,hd⟩|⟨rfl,hk⟩|⟨rfl,S,n,hk⟩
  ·obtain ⟨its,_,pl,_⟩:=I.list hq;refine ⟨pl.isList.typeIs,λa e=>?_⟩;cases e;obtain ⟨o,n,e,c,hd,_⟩:=pl;exact ⟨o,e,hd⟩
  ·refine ⟨⟨o,I.kIn p o hk,hc⟩,λa e=>?_⟩;cases e;exact ⟨o,I.kIn _ o hk,hd⟩
  ·have z:∃o,s.heap.get? p=some o/\o.ExactDict:=by
    rcases hk with ⟨kvs,hk⟩|⟨kvs,hk⟩
    ·obtain ⟨_,_,_,_,o,_,_,e,ex,_⟩:=I.hok p _ hk;exact ⟨o,e,ex⟩
    ·obtain ⟨_,_,_,_,o,_,_,e,ex,_⟩:=I.hok p _ hk;exact ⟨o,e,ex⟩
   obtain ⟨o,e,ex⟩:=z;refine ⟨⟨o,e,ex.1⟩,λa e2=>?_⟩;cases e2;exact ⟨o,e,ex.2.1⟩
  ·obtain ⟨o,_,_,_,e,ex,_⟩:=I.hok p _ hk;refine ⟨⟨o,e,ex.1⟩,λa e2=>?_⟩;cases e2;exact ⟨o,e,ex.2.1⟩
 |_=>exact False.elim ty
inductive Ssk (K:Sd) (T:String) (r:V->List V->Hp->VK->Prop) (t:TA) (σ:St) (Q:VK) (x:V) (H1:Hp):Prop where
 |mk (_:tyV K T x H1) (_:t σ H1 λxs H2=>r x xs H2 Q)
noncomputable def tBM (K:Sd) (T:String) (r:V->List V->Hp->VK->Prop) (to:TE) (t:TA):TE:=λσ H Q=>to σ H (Ssk K T r t σ Q)
variable {o e:Expr} {es:List Expr} {to:TE} {t:TA} {name:Str} {apos cpos:Pos} {T id:String} {r:V->List V->Hp->VK->Prop}
theorem Jty (pa:PlainAttrs T) (slot:Slot T name id) (hty:typeOf (.builtin id)=pure (.type "method_descriptor")) (hm:MtR X id r) (ho:PE X o to) (ha:PA X (e::es) t)
  (hbase:attributeBase o name X.env (eval o X.env)=eval o X.env:=by rfl)
  (hfew:((backTo cpos (starEach (e::es) X.env)).all (λx=>!x.1)&&(backToKw cpos (keywordEach [] X.env)).all (λx=>x.1.isSome)
   &&decide ((e::es).length+([]:List Keyword).length+(if ([]:List Keyword).isEmpty then 0 else 1) < 30))=true:=by rfl)
  (hline:(apos.endLine==cpos.line)=true:=by rfl) (hs:starEach (e::es) X.env=(false,eval e X.env)::starEach es X.env:=by rfl) (hplain:(backTo cpos (starEach es X.env)).any (·.1)=false:=by rfl):
  PE X (.Call (.Attribute o name apos) (e::es) [] cpos) (tBM X.K T r to t):=by
 intro pins s σ H Q I h;refine wpAny_Call_method_late hbase hfew hline rfl (thn (ho pins s σ H _ I h) λv s1 zq=>?_);obtain ⟨x,H1,I1,r1,ty,q1⟩:=zq;obtain ⟨h1,h2⟩:=Soy I1 r1 ty;refine ⟨T,id,pa,slot,hty,h1,h2,?_⟩;have hA:=ha cpos pins s1 σ H1 _ I1 q1;rw [hs] at hA⊢;exact Calls.callWith_builtin (by show (false||(backTo cpos (starEach es X.env)).any (·.1))=false;rw [hplain] <;> rfl) (Calls.evalArgs_plain (thn hA λus s2 ⟨vs,H2,I2,r2,q2⟩=>hm pins s2 σ H2 x vs v us Q I2 r1 r2 q2))
end
noncomputable def MtM (X:Cx) (id:String) (r:V->List V->Hp->VK->Prop):Prop:=
 ∀(pins:List (S1×Obj)) (s:S3) (σ:St) (H:Hp) (x:V) (xs:List V) (v:S2) (us:List S2) (Q:VK),Sm X pins σ H s->Sz x v->Sx xs us->r x xs H Q->
  Sc (model X.prog X.w) X.A (call (.builtin id) (v::us)) (EP X pins σ Q) X.xe s
theorem Sx.one:∀{x:V} {us:List S2},Sx [x] us->∃u,us= [u]/\Sz x u
 |_,_,.cons r .nil=>⟨_,rfl,r⟩
theorem Sx.rep {xs:List V} {us:List S2} (h:Sx xs us):∀k:Nat,Sx (yw k xs).flatten (yw k us).flatten
 |0=>.nil
 |k+1=>by
  rw [ych,ych,List.flatten_cons,List.flatten_cons];exact Sx.append h (Sx.rep h k)
theorem Jya (its:List S2):∀k acc,
  List.foldl (λx1 x2=>x1++x2) acc.toArray (yw k its.toArray)=(acc++(yw k its).flatten).toArray
 |0,acc=>by simp
 |k+1,acc=>by
  have e:acc.toArray++its.toArray=(acc++its).toArray:=by simp
  have e2:(acc++its)++(yw k its).flatten=acc++(yw (k+1) its).flatten:=by
   rw [ych,List.flatten_cons,List.append_assoc]
  rw [<-e2,<-Jya its k (acc++its),<-e,ych,List.foldl_cons]
section
variable {X:Cx} {pins:List (S1×Obj)} {σ:St} {H:Hp} {s:S3} {l b:S1} {xs ys zs:List V}
theorem Sm.lset {its its':List S2} {n} {f} {t'} (I:Sm X pins σ H s) (hH:H l=some (.lst xs))
  (e:s.heap.get? l=some {cls:=.type "list",data:=.seq its.toArray n}) (hf:f its.toArray=its'.toArray) (hv:Sx ys its') (hz:ys.length<=S6):
  Sm X pins σ (upd H l (.lst ys)) {s with heap:=s.heap.update l (Obj.mapSeq f),toks:=t'}:=by
 have q:=PySem.IsL.update e f;rw [hf] at q;refine I.write (by rw [hH];exact trivial) (.inl rfl) (λb' u hb hu=>(ybr s.heap (Obj.mapSeq f) (yx hb)).trans hu) ⟨_,q⟩ ?_;exact ⟨hz,its',_,hv,q⟩
theorem Sm.lnew (I:Sm X pins σ H s) (hv:Sx ys its) (hz:ys.length<=S6):
  Sm X pins σ (upd H s.heap.objs.size (.lst ys)) {s with heap:=s.heap.push {cls:=.type "list",data:=.seq its.toArray},toks:=t'}:=
 I.laid (λ_ _ q=>ym _ q) (yg _) ⟨hz,its,0,hv,yt _ rfl⟩
theorem Sm.fresh (I:Sm X pins σ H s):H s.heap.objs.size=none:=I.hok.fresh (yg _)
theorem Sm.lstM (I:Sm X pins σ H s) (hH:H l=some (.lst xs)):xs.length<=S6/\∃(its:List S2) (n:Nat),Sx xs its/\xs.length=its.length/\s.heap.get? l=some {cls:=.type "list",data:=.seq its.toArray n}:=by
 obtain ⟨z,its,n,r,e⟩:=I.hok l _ hH;exact ⟨z,its,n,r,r.length,e⟩
theorem Yf (h:n<=S6):Builtin.List.listTooLong n=false:=decide_eq_false (by omega)
end
section
variable {X:Cx}
inductive Ygr (x:V) (vs:List V) (H:Hp) (Q:VK):Prop where
 |mk (l:_) (xs:_) (y:_) (_:x= .ref l) (_:vs= [y]) (_:H l=some (.lst xs)) (_:xs.length < S6) (_:Q .non (upd H l (.lst (xs++ [y]))))
theorem Jr4:MtM X "list.append" Ygr:=by
 rintro pins s σ H x vs v us Q I rx rv ⟨l,xs,y,rfl,rfl,hH,hz,q⟩;cases rx;obtain ⟨u,rfl,ru⟩:=rv.one;obtain ⟨z,its,n,r,hl,e⟩:=I.lstM hH;refine call_meets F.slot_list_append ⟨_,e,rfl⟩ F.entry_list_append (F.args_list_append_2 _ _) (PySem.list_append l its.toArray n u (by rw [yp];omega)) ⟨e,⟨.non,_,I.lset hH e (by simp) (r.append (.cons ru .nil)) ?_,rfl,q⟩⟩;rw [yab,List.length_singleton];omega
inductive Ygs (x:V) (vs:List V) (H:Hp) (Q:VK):Prop where
 |mk (l:_) (b:_) (xs:_) (zs:_) (_:x= .ref l) (_:vs= [.ref b]) (_:H l=some (.lst xs)) (_:H b=some (.lst zs)) (_:xs.length+zs.length<=S6) (_:Q .non (upd H l (.lst (xs++zs))))
theorem Jsf:MtM X "list.extend" Ygs:=by
 rintro pins s σ H x vs v us Q I rx rv ⟨l,b,xs,zs,rfl,rfl,hH,hB,hz,q⟩;cases rx;obtain ⟨u,rfl,ru⟩:=rv.one;cases ru;obtain ⟨z,its,n,r,hl,e⟩:=I.lstM hH;obtain ⟨z2,its2,n2,r2,hl2,e2⟩:=I.lstM hB;have hsz:its.toArray.size+its2.toArray.size<=S6:=by rw [yp,yp];omega
 have hlong:¬(!its.toArray.isEmpty&&Builtin.List.listTooLong (its.toArray.size+its2.toArray.size))=true:=by
  rw [Yf hsz,Bool.and_false];exact yai
 refine call_meets F.slot_list_extend ⟨_,e,rfl⟩ F.entry_list_extend (F.args_list_extend_2 _ _)
  (AutoSeq1.list_extend_list_list_0 l its.toArray n b its2.toArray n2 hlong (by rw [yp];omega) (by omega)) ⟨e,e2,?_⟩
 refine ⟨.non,_,I.lset hH e (by simp) (r.append r2) ?_,rfl,q⟩;rw [yab];omega
inductive Sxh (x:V) (y:V) (H:Hp) (Q:VK):Prop where
 |mk (l:_) (b:_) (xs:_) (zs:_) (_:x= .ref l) (_:y= .ref b) (_:H l=some (.lst xs)) (_:H b=some (.lst zs)) (_:xs.length+zs.length<=S6) (_:∀p,H p=none->Q (.ref p) (upd H p (.lst (xs++zs))))
theorem Jt8:OpR X (binaryOp .Add) Sxh:=by
 rintro pins s σ H x y v u Q I rx ry ⟨l,b,xs,zs,rfl,rfl,hH,hB,hz,q⟩;cases rx;cases ry;obtain ⟨z,its,n,r,hl,e⟩:=I.lstM hH;obtain ⟨z2,its2,n2,r2,hl2,e2⟩:=I.lstM hB;refine PySem.P.add_list e e2 ?_ (by rw [yp,yp];omega);have ea:its.toArray++its2.toArray=(its++its2).toArray:=by simp
 rw [ea];exact ⟨.ref _,_,I.lnew (r.append r2) (by rw [yab];omega),rfl,q _ I.fresh⟩
inductive Sxm (x:V) (y:V) (H:Hp) (Q:VK):Prop where
 |mk (l:_) (k:_) (xs:_) (_:x= .ref l) (_:y= .int k) (_:H l=some (.lst xs)) (_: -(2^63)<=k) (_:k < 2^63) (_:xs.length*k.toNat<=S6) (_:∀p,H p=none->Q (.ref p) (upd H p (.lst (yw k.toNat xs).flatten)))
theorem Yg5 {α:Type} (xs:List α) (k):(yw k xs).flatten.length=k*xs.length:=by simp
theorem Snb:OpR X (binaryOp .Mult) Sxm:=by
 rintro pins s σ H x y v u Q I rx ry ⟨l,k,xs,rfl,rfl,hH,h1,h2,hz,q⟩;cases rx;obtain ⟨t,rfl⟩:=ry;obtain ⟨z,its,n,r,hl,e⟩:=I.lstM hH;have hlen:its.toArray.size*k.toNat<=S6:=by rw [yp,<-hl];exact hz
 have hcap:¬its.toArray.size*k.toNat > (2^63 - 1)/8:=by
  have:S6<=(2^63 - 1)/8:=by decide
  omega
 have hfit:¬(!Builtin.List.listFitsIndex k)=true:=by
  rw [fitsIndex_both h1 h2];exact yai
 have hlong:¬Builtin.List.listTooLong (its.toArray.size*k.toNat)=true:=by
  rw [Yf hlen];exact yai
 have hnew:List.foldl (λx1 x2=>x1++x2) #[] (yw (if its.toArray.isEmpty=true then 0 else k.toNat) its.toArray)=(yw k.toNat its).flatten.toArray:=by
  have f0:∀m:Nat,List.foldl (λx1 x2=>x1++x2) #[] (yw m its.toArray)=(yw m its).flatten.toArray:=λm=>by
   have:=Jya its m [];exact this
  rw [f0];cases its with
  |nil=>simp
  |cons a r'=>rw [if_neg (by simp)]
 refine wpAny_binaryOp_repeat_ref (by decide) ⟨_,e,rfl⟩ (λs'=>typeIs_int s' k t) noFill_list_mul F.fills_int_mul F.slot_int_rmul repeat_list F.slot_int_index.lookup
  (call_meets F.slot_int_rmul (typeIs_int s k t) F.entry_int_rmul (F.args_int_rmul_2 _ _) (int___rmul___int_list k t l its.toArray n)
   ⟨e,rfl,⟨_,e,rfl⟩,call_meets F.slot_list_mul ⟨_,e,rfl⟩ F.entry_list_mul (F.args_list_mul_2 _ _) (AutoListH.list___mul___list_int_3 l its.toArray n k t hfit hcap hlong) ⟨e,?_⟩⟩)
 rw [hnew];exact ⟨.ref _,_,I.lnew (r.rep k.toNat) (by rw [Yg5,Nat.mul_comm];exact hz),rfl,q _ I.fresh⟩
end
section
variable {prog:S7} {w:S9} {A:Sa} {E:S2->S3->Prop} {s:S3}
end
section
variable {X:Cx}
end
section
variable {κ:Type} [DecidableEq κ]
noncomputable def Jtk (kvs:List (κ×V)) (k:κ):Option V:=(kvs.find? λkv=>decide (kv.1=k)).map (·.2)
noncomputable def Juw (kvs:List (κ×V)) (k:κ) (v:V):List (κ×V):=
 if (kvs.any λkv=>decide (kv.1=k))=true then kvs.map (λkv=>if kv.1=k then (kv.1,v) else kv) else kvs++ [(k,v)]
theorem Jxd {p:κ×V} (e:p.1=k):Jtk (p::r) k=some p.2:=by simp [Jtk,e]
theorem Jxc {p:κ×V} (e:¬p.1=k):Jtk (p::r) k=Jtk r k:=by simp [Jtk,e]
theorem Jxb (k:κ):∀kvs:List (κ×V),(kvs.any λkv=>decide (kv.1=k))=(Jtk kvs k).isSome
 | []=>rfl
 |p::r=>by
  rw [List.any_cons];by_cases e:p.1=k
  ·simp only [Jxd e,decide_eq_true e,Bool.true_or,Option.isSome_some]
  ·rw [Jxc e,decide_eq_false e,Bool.false_or];exact Jxb k r
theorem Jv7 (kvs:List (κ×V)) (k) (v):(Juw kvs k v).length<=kvs.length+1:=by
 unfold Juw;split
 ·rw [ye];omega
 ·rw [yab,yaf,List.length_nil];omega
theorem Yer {kvs:List (κ×V)} (v) (h:Jtk kvs k=none):Juw kvs k v=kvs++ [(k,v)]:=by
 unfold Juw;rw [Jxb,h];exact if_neg (by decide)
theorem Scx.isSome_eq (r:Scx o u):o.isSome=u.isSome:=by
 cases o with
 |none=>cases u with
  |none=>rfl
  |some _=>exact (r).elim
 |some _=>cases u with
  |none=>exact (r).elim
  |some _=>rfl
theorem KV.val {kvs:List (κ×V)} (r:KV kvs vs) (k):Scx (Jtk kvs k) (valueAt vs k):=by
 induction r with
 |nil=>exact True.intro
 | @cons p q ps qs h t ih=>
  obtain ⟨h1,h2⟩:=h;by_cases e:p.1=k
  ·have e':=h1.symm.trans e;have b:valueAt (q::qs) k=some q.2:=by simp [valueAt,e']
   rw [Jxd e,b];exact h2
  ·have e':¬q.1=k:=λz=>e (h1.trans z);have b:valueAt (q::qs) k=valueAt qs k:=by simp [valueAt,e']
   rw [Jxc e,b];exact ih
theorem KV.any {kvs:List (κ×V)} (r:KV kvs vs) (k):(kvs.any λkv=>decide (kv.1=k))=vs.any λkv=>decide (kv.1=k):=by
 induction r with
 |nil=>rfl
 |cons h t ih=>rw [List.any_cons,List.any_cons,ih,h.1]
theorem KV.repl {kvs:List (κ×V)} (r:KV kvs vs) (k) (ry:Sz y u):
  KV (kvs.map λkv=>if kv.1=k then (kv.1,y) else kv) (vs.map λkv=>if kv.1=k then (kv.1,u) else kv):=by
 induction r with
 |nil=>exact .nil
 | @cons p q ps qs h t ih=>
  rw [yan,yan];refine .cons ?_ ih;obtain ⟨h1,h2⟩:=h;by_cases e:p.1=k
  ·rw [if_pos e,if_pos (h1.symm.trans e)];exact ⟨h1,ry⟩
  ·rw [if_neg e,if_neg (λz=>e (h1.trans z))];exact ⟨h1,h2⟩
theorem KV.put {kvs:List (κ×V)} (r:KV kvs vs) (k) (ry:Sz y u):KV (Juw kvs k y) (stored vs k u):=by
 unfold Juw stored;rw [r.any k];by_cases e:(vs.any λkv=>decide (kv.1=k))=true
 ·rw [if_pos e,if_pos e];exact r.repl k ry
 ·rw [if_neg e,if_neg e];exact Paired.snoc r ⟨rfl,ry⟩
theorem KV.length (r:KV kvs vs):kvs.length=vs.length:=Paired.length r
end
theorem Ye9 (r:Sz (kV k) u):(Jo4 P w).is k u=true:=by
 cases k with
 |inl i=>obtain ⟨t,e⟩:=(show ∃t,u=Value.int i t from r);subst e;exact Yd P w i t
 |inr x=>obtain ⟨t,e⟩:=(show ∃t,u=Value.str x t from r);subst e;exact Jrs P w x t
theorem Jyd {P:S7} {w:S9}:∀{ks:List Key} {us:List S2},Sx (ks.map kV) us->ItemsAre (Jo4 P w) ks us
 | [],_,r=>by rw [List.map_nil] at r;cases r;exact .nil
 |k::ks,_,r=>by
  rw [yan] at r;cases r with
  |cons h t=>exact .cons (Ye9 h) (Jyd t)
noncomputable abbrev KT (H:Hp):List (List Key×V)->List (List Key×S1×S2)->Prop:=Paired λp q=>p.1=q.1/\H q.2.1=some (.tup (p.1.map kV))/\Sz p.2 q.2.2
theorem KT.val (r:KT H kvs xs) (k):Scx (Jtk kvs k) ((atKey xs k).map (·.2)):=by
 induction r with
 |nil=>exact True.intro
 | @cons p q ps qs h t ih=>
  obtain ⟨h1,_,h2⟩:=h;by_cases e:p.1=k
  ·have e':=h1.symm.trans e;have b:atKey (q::qs) k=some q.2:=by simp [atKey,e']
   rw [Jxd e,b];exact h2
  ·have e':¬q.1=k:=λz=>e (h1.trans z);have b:atKey (q::qs) k=atKey qs k:=by simp [atKey,e']
   rw [Jxc e,b];exact ih
theorem KT.repl (r:KT H kvs xs) (k) (ry:Sz y u):
  KT H (kvs.map λkv=>if kv.1=k then (kv.1,y) else kv) (xs.map (putAt k u)):=by
 induction r with
 |nil=>exact .nil
 | @cons p q ps qs h t ih=>
  rw [yan];refine .cons ?_ ih;obtain ⟨h1,h2,h3⟩:=h;unfold putAt;by_cases e:p.1=k
  ·rw [if_pos e,if_pos (h1.symm.trans e)];exact ⟨h1,h2,ry⟩
  ·rw [if_neg e,if_neg (λz=>e (h1.trans z))];exact ⟨h1,h2,h3⟩
theorem KT.put (r:KT H kvs xs) (k) (hb:H b=some (.tup (k.map kV))) (ry:Sz y u):
  KT H (Juw kvs k y) (storedH xs k b u):=by
 have e:(kvs.any λkv=>decide (kv.1=k))=(atKey xs k).isSome:=by
  rw [Jxb,(r.val k).isSome_eq,Option.isSome_map]
 unfold Juw storedH;rw [e];by_cases q:(atKey xs k).isSome=true
 ·rw [if_pos q,if_pos q];exact r.repl k ry
 ·rw [if_neg q,if_neg q];exact Paired.snoc r ⟨rfl,hb,ry⟩
theorem KT.keeps (r:KT H kvs xs) (ht:∀b ys,H b=some (.tup ys)->H' b=some (.tup ys)):KT H' kvs xs:=
 Paired.mapP r λ_ _ z=>⟨z.1,ht _ _ z.2.1,z.2.2⟩
section
variable {P:S7} {w:S9} {H:Hp} {h:Sb} {a:S1}
theorem Sla (ok:HOk P w H h) (e:Rd H a u):Sah P w H h a u:=e.ok ok
theorem Jy8 (ok:HOk P w H h) (e:Rd H a (.dK kvs)):kvs.length<=S6/\(a==sysModules)=false/\∃vs,KV kvs vs/\h.DictOf (Jo4 P w) a vs:=
 Sla ok e
theorem Sl0 (ok:HOk P w H h) (e:H a=some (.dK kvs)):kvs.length<=S6/\(a==sysModules)=false/\∃vs,KV kvs vs/\h.DictOf (Jo4 P w) a vs:=Jy8 ok (.inl e)
theorem Yal (ok:HOk P w H h) (e:H a=some (.tup (ks.map kV))):(tupleKind (Jo4 P w)).is h ks a:=by
 obtain ⟨_,its,r,o,h1,h2,n,h3⟩:=(ok a _ e);exact ⟨o,its.toArray,n,h1,h2,h3,by simpa using Jyd r⟩
theorem Ydr (ok:HOk P w H h) (e:Rd H a (.dT kvs)):kvs.length<=S6/\(a==sysModules)=false/\
  ∃xs,KT H kvs xs/\h.DictOfH (tupleKind (Jo4 P w)) a xs:=by
 obtain ⟨z,y,xs,r,o,es,ep,h1,h2,h3,h4,h5⟩:=(Sla ok e);refine ⟨z,y,xs,r,o,es,ep,h1,h2,h3,h4,λx hx=>?_,h5⟩;have all:∀{l:List (List Key×V)} {m:List (List Key×S1×S2)},KT H l m->∀x∈m,(tupleKind (Jo4 P w)).is h x.1 x.2.1:=by
  intro l m q
  induction q with
  |nil=>intro x hx;exact nomatch hx
  | @cons p q ps qs hq t ih=>
   intro x hx;rcases yo.mp hx with e|hx
   ·subst e;exact Yal ok (by rw [<-hq.1];exact hq.2.1)
   ·exact ih x hx
 exact all r x hx
theorem Sr7 (ok:HOk P w H h) (e:H a=some (.dT kvs)):kvs.length<=S6/\(a==sysModules)=false/\
  ∃xs,KT H kvs xs/\h.DictOfH (tupleKind (Jo4 P w)) a xs:=Ydr ok (.inl e)
end
noncomputable def Sq3 (H:Hp) (a:S1) (y:V) (r:Option V):Prop:=
 (∃kvs k,Rd H a (.dK kvs)/\y=kV k/\r=Jtk kvs k)\/∃kvs k b,Rd H a (.dT kvs)/\y= .ref b/\H b=some (.tup (k.map kV))/\r=Jtk kvs k
noncomputable def Siu (H:Hp) (a:S1) (y v:V) (H':Hp):Prop:=
 (∃kvs k,H a=some (.dK kvs)/\y=kV k/\kvs.length < S6/\H'=upd H a (.dK (Juw kvs k v)))\/
 ∃kvs k b,H a=some (.dT kvs)/\y= .ref b/\H b=some (.tup (k.map kV))/\kvs.length < S6/\H'=upd H a (.dT (Juw kvs k v))
theorem Siu.k {k} {v} (e:H a=some (.dK kvs)) (hl:kvs.length < S6):Siu H a (kV k) v (upd H a (.dK (Juw kvs k v))):=.inl ⟨kvs,k,e,rfl,hl,rfl⟩
section
variable {X:Cx} {pins:List (S1×Obj)} {σ:St} {H:Hp} {s:S3} {a:S1} {y v:V} {u r:S2} {o:Option V} {A:Sa} {E:S2->S3->Prop}
theorem Sm.big (I:Sm X pins σ H s):sysModules < s.heap.objs.size:=Nat.lt_trans (by decide) ((I.mod.glob.keeps I.bk).lt)
theorem Yfz (hu:A.units+1 < cLine) (I:Sm X pins σ H s) (g:Sq3 H a y o) (ry:Sz y u) (h:∀s',Sm X pins σ H s'->Q (.bool (!o.isSome)) s'):
  Sc (model X.prog X.w) A (compareOp .NotIn u (.ref a)) Q E s:=by
 rcases g with ⟨kvs,k,e,ey,l⟩|⟨kvs,k,b,e,ey,eb,l⟩
 ·subst ey;obtain ⟨z,hd,vs,rel,dd⟩:=Jy8 I.hok e;refine wpAny_notIn_of (Ye9 ry) hd dd.mapOf ?_;rw [<-(rel.val k).isSome_eq,<-l];exact h _ (I.tok _)
 ·subst ey;cases (ry);obtain ⟨z,hd,xs,rel,dd⟩:=Ydr I.hok e;refine wpAny_notIn_heap (tupleKind_room_in1 hu) (Yal I.hok eb) hd dd ?_;have q:=(rel.val k).isSome_eq;rw [Option.isSome_map] at q;rw [<-q,<-l];exact h _ (I.tok _)
theorem Ybn (I:Sm X pins σ H s) (mu:Mut (H a)) (hs:ybh a s.heap h') (he:∃q,h'.get? a=some q) (new:Sah X.prog X.w (upd H a ob) h' a ob):
  Sm X pins σ (upd H a ob) {s with heap:=h',toks:=t'}:=
 I.write mu (.inl rfl) (λb q hb z=>(hs.2 b hb).trans z) he new
theorem Smm (z:kvs.length<=S6) (hd:(a==sysModules)=false) (rel:KV kvs vs) (dd:h'.DictOf (Jo4 P w) a vs):
  Sah P w H' h' a (.dK kvs):=⟨z,hd,vs,rel,dd⟩
theorem Yce (hu:A.units+1 < cLine) (I:Sm X pins σ H s) (g:Siu H a y v H') (ry:Sz y u) (rv:Sz v r) (h:∀s',Sm X pins σ H' s'->Q () s'):
  Sc (model X.prog X.w) A (setItem (.ref a) u r) Q E s:=by
 rcases g with ⟨kvs,k,e,ey,l,eH⟩|⟨kvs,k,b,e,ey,eb,l,eH⟩
 ·subst ey eH;obtain ⟨z,hd,vs,rel,dd⟩:=Sl0 I.hok e;have hz:vs.length<=S6:=by rw [<-rel.length];exact z
  have hl:(Juw kvs k v).length<=S6:=by have:=Jv7 kvs k v;omega
  refine wpAny_setItem_pairs (hsz:=hz) (Ye9 ry) dd λh' dd' hs=>h _ ?_;have he:∃q,h'.get? a=some q:=let ⟨q,_,_,hq,_⟩:=dd';⟨q,hq⟩;exact Ybn I (by rw [e];exact True.intro) hs he (Smm hl hd (rel.put k rv) dd')
 ·subst ey eH;cases (ry);obtain ⟨z,hd,xs,rel,dd⟩:=Sr7 I.hok e;have hz:xs.length<=S6:=by rw [<-Paired.length rel];exact z
  have hl:(Juw kvs k v).length<=S6:=by have:=Jv7 kvs k v;omega
  refine wpAny_setItem_heap (hsz:=hz) (tupleKind_room_in1 hu) (Yal I.hok eb) dd λh' dd' hs=>h _ ?_;obtain ⟨q,es,ep,hq,h2,h3,h4,_,h5⟩:=dd';refine Ybn I (by rw [e];exact True.intro) hs ⟨q,hq⟩ ⟨hl,hd,_,(rel.put k eb rv).keeps λc ys ec=>?_,q,es,ep,hq,h2,h3,h4,h5⟩;rw [Jnc (Sl5 ec e (λz=>nomatch z))];exact ec
end
section
variable {X:Cx} {pins:List (S1×Obj)} {σ:St} {H:Hp} {s:S3} {a:S1} {kvs:List (Key×V)} {k:Key} {u:S2} {A:Sa} {E:S2->S3->Prop}
end
noncomputable def Slb (td ty tv:TE):TS:=λD σ H=>tv σ H λv H1=>td σ H1 λx H2=>ty σ H2 λy H3=>∃a H4,x= .ref a/\Siu H3 a y v H4/\D.nx σ H4
section
variable {X:Cx} {o i e value:Expr} {pos pos' tpos:Pos} {td ty tv:TE}
theorem Ygp (hu:X.A.units+1 < cLine) (ho:PE X o td) (hi:PE X i ty) (hv:PE X value tv) (hs:swapsWith value (some (.Subscript o i pos')) pos.line X.env=pure false):
  PS X (.Assign [.Subscript o i pos'] value pos) (Slb td ty tv):=by
 intro pins s σ H D I h;refine wpAny_Assign_Subscript (thn (hv pins s σ H _ I h) λr s1 ⟨v,H1,I1,rv,q1⟩=>thn (ho pins s1 σ H1 _ I1 q1) λu s2 ⟨x,H2,I2,rx,q2⟩=>thn (hi pins s2 σ H2 _ I2 q2) λiv s3 zq=>?_) hs;obtain ⟨y,H3,I3,ry,a,H4,ex,g,q3⟩:=zq;subst ex;obtain rfl:u=Value.ref a:=rx;exact Yce hu I3 g ry rv λs4 I4=>⟨σ,H4,I4,q3⟩
end
theorem Ydq (h:Sb) (hb:sysModules < h.objs.size):Sah P w H (h.push {cls:=.type "dict",data:=.dict #[]}) h.objs.size (.dK []):=
 ⟨yaj _,beq_eq_false_iff_ne.mpr (yx (yy hb)),[],.nil,Heap.DictOf.new h⟩
noncomputable def Som:TE:=λ_ H Q=>∀p,H p=none->Q (.ref p) (upd H p (.dK []))
section
variable {X:Cx} {pos:Pos}
theorem Jtz:PE X (.Dict [] [] pos) Som:=λpins s σ H Q I h=>
 wpAny_Dict_empty ⟨.ref s.heap.objs.size,_,I.laid (λ_ _ q=>ym _ q) (yg _) (Ydq s.heap I.big),rfl,h _ (I.hok.fresh (yg _))⟩
end
noncomputable def IsD (H:Hp) (a:S1):Prop:=(∃kvs,Rd H a (.dK kvs))\/∃kvs,Rd H a (.dT kvs)
theorem Smv (I:Sm X pins σ H s) (d:IsD H a):
  s.TypeIs (.ref a) "dict" /\(∀b,Value.ref a= .ref b->∃ob,s.heap.get? b=some ob/\ob.dict=none)/\(a==sysModules)=false:=by
 rcases d with ⟨kvs,e⟩|⟨kvs,e⟩
 ·obtain ⟨_,hd,vs,_,dd⟩:=Jy8 I.hok e;refine ⟨dd.typeIs,λb q=>?_,hd⟩;cases q;obtain ⟨ob,_,_,h1,h2,_⟩:=dd;exact ⟨ob,h1,h2.2.1⟩
 ·obtain ⟨_,hd,xs,_,dd⟩:=Ydr I.hok e;refine ⟨dd.typeIs,λb q=>?_,hd⟩;cases q;obtain ⟨ob,_,_,h1,h2,_⟩:=dd;exact ⟨ob,h1,h2.2.1⟩
section
variable {X:Cx} {pins:List (S1×Obj)} {σ:St} {H:Hp} {s:S3} {a:S1} {y d:V} {u r:S2} {o:Option V} {A:Sa} {E:S2->S3->Prop}
end
section
variable {X:Cx} {o e f:Expr} {apos cpos:Pos} {td ty tx:TE}
end
section
variable {X:Cx} {pins:List (S1×Obj)} {σ:St} {H:Hp} {s:S3} {a:S1} {kvs:List (Key×V)} {A:Sa} {E:S2->S3->Prop}
end
section
variable {X:Cx} {pins:List (S1×Obj)} {σ:St} {H:Hp} {s:S3} {a:S1} {y:V} {u:S2} {A:Sa} {E:S2->S3->Prop}
end
end L2
namespace Att
open PySem PySem.W PySem.Calls PyProof.Rows
theorem Jvh:∀ns vs,WellAll P h vs (ns.map WData.int)->IntsAre vs ns:=by
 intro ns
 induction ns with
 |nil=>
  intro vs w;cases w;exact .nil
 |cons n ns ih=>
  intro vs w;cases w with
  |cons a b=>
   cases a;exact .cons _ _ (ih _ b)
theorem Ycy {l:OpenLaw} (hn:l.most=some n)
  (hpre:l.row.toRowW.claim.pre args=true) (hwl:WellAll P h vals args):
  ∃a vs ns,vals= [Value.ref a]/\args= [WData.list (ns.map WData.int)]/\h.get? a=some {cls:=.type "list",data:=.seq vs.toArray}/\IntsAre vs ns/\ns.length<=n:=by
 obtain ⟨d,r,rfl,h1,h2⟩:=hasAllW_cons ((pre_splitW hpre).1);obtain rfl:=hasAllW_nil h2;obtain ⟨xs,rfl,h3⟩:=hasW_list h1;obtain ⟨ns,rfl⟩:=items_int h3;have hlen:=by
  have h4:=by
   have h4:=(holds_andW ((pre_splitW hpre).2)).1;rw [hn] at h4;exact h4
  have h5:=condW_of h4 (w_not (w_lt w_lit (w_len_list (w_arg rfl))))
  first
   | (rw [decide_eq_true q'] at h5; exact absurd h5 (by decide))
   | (simp at h5; omega)
 cases hwl with
 |cons w1 w2=>
  cases w2;cases w1 with
  |list ho hall=>exact ⟨_,_,ns,rfl,rfl,ho,Jvh ns _ hall,hlen⟩
theorem Ycv (l:OpenLaw) (args):l.row.toRowW.claim.post args (.bool true) args=true:=
 postW_of
  (by first|rfl|decide|simp [WShape.has])
  (w_eq_bool (w_res rfl) w_lit) rfl
theorem attach_call {l:OpenLaw} {n} {q} {loose} {XP} {YP} {d}
  (hn:l.most=some n) (hdf:d.params.defaults= [])
  (call:∀w s₀ s₁ mg mb fa o pm cd doc a vs ns,
   Ground q loose [] XP w s₀ mg mb s₁.heap->YP w s₁.heap->
   s₁.heap.get? fa=some o->o.data= .func (docDef d.name d.params d.body d.scope pm cd doc)->s₁.heap.CodeRec cd d.name->mg d.name=some (.ref fa)->
   s₁.heap.get? a=some {cls:=.type "list",data:=.seq vs.toArray}->IntsAre vs ns->ns.length<=n->s₁.gens= #[]->
   codeAny (model l.prog w) callerA (.call (.ref fa) ⟨[.ref a],[]⟩) (λr s'=>r= .ok (.ret (.bool true))/\OldK s₁.heap s'.heap/\s'.os=s₁.os/\AllBare s'.gens) s₁):
  WalkO q loose XP YP l.row.toRowW d [] (λf vs=>PySem.call f vs):=by
 intro w s₀ s₁ mg mb G Y fa o pm cd doc dV kV ho hd hcd hD hmg hg args vals as hpre hlay hrd hwl hlo;obtain rfl:dV= .none:=Dflts.none hD hdf;obtain rfl:kV= .none:=Dflts.noKw hD;obtain ⟨a,vs,ns,rfl,rfl,hobj,hints,hlen⟩:=Ycy hn hpre hwl;refine enter_call (codeAny_mono (call w s₀ s₁ mg mb fa o pm cd doc a vs ns G Y ho (fd_plain hd) hcd hmg hobj hints hlen hg) λr s' hq=>?_);obtain ⟨rfl,h2,h3,h4⟩:=hq;exact ⟨.inl ⟨.bool true,.bool true,[],rfl,λ_=>rfl,.bool true,Ycv l _,λ_=>⟨List.Pairwise.nil,λ_ hm=>(nomatch hm)⟩⟩,h2,h3,h4⟩
section
variable {prog:S7} {w:S9} {A:Sa} {E:S2->S3->Prop} {s:S3} {K:Sd}
end
end Att
namespace L2
open PySem PySem.Spec PyProof.Rows
theorem Jyp:∀{vs:List S2} {ns:List Int},IntsAre vs ns->Sx (ns.map V.int) vs
 |_,_,.nil=>.nil
 |_,_,.cons n t h=>.cons ⟨t,rfl⟩ (Jyp h)
noncomputable def Sk2 (H:Hp):Prop:=∀b,H b=none\/∃o xs,H b=some (.frz o (.lst xs))
theorem Yea {K}
  (KX:K.In s₁.heap) (hns:s₁.heap.Ns mainGlobals mg) (hb:s₁.heap.Ns builtinsNs mb) (hbb:∀x:Str,x≠"__name__" ->mb x=bootBuiltins x) (hlim:s₁.heap.NoLimit) (hg:s₁.gens= #[])
  (ha:s₁.heap.get? a=some {cls:=.type "list",data:=.seq vs.toArray}) (hi:IntsAre vs ns) (hl:ns.length<=S6) (hr:Sas k callerA)
  (F:∀base:Sb,K.In base->base.Ns mainGlobals mg->So P w K mg base CX k fa fd [x] sp) (hbind:∀s u,BindsTo s fd ⟨[u],[]⟩ [(x,u)])
  (hsp:∀H:Hp,Sk2 H->Ss K H a (ns.map V.int)->sp [.ref a] H (λv _=>v= .bl true) λ_ _ _=>False)
  (hCX:∀H e s',CX [] H s₁ (λ_ _ _=>False) e s'->False):
  codeAny (model P w) callerA (.call (.ref fa) ⟨[.ref a],[]⟩) (λr s'=>r= .ok (.ret (.bool true))/\OldK s₁.heap s'.heap/\s'.os=s₁.os/\AllBare s'.gens) s₁:=by
 have rv:=Jyp hi;have core:∀H:Hp,Sk2 H->Ss K H a (ns.map V.int)->HOk P w H s₁.heap->(∀b,H b≠none->b=a)->(H a≠none->K.lookup a=none)->
   codeAny (model P w) callerA (.call (.ref fa) ⟨[.ref a],[]⟩) (λr s'=>r= .ok (.ret (.bool true))/\OldK s₁.heap s'.heap/\s'.os=s₁.os/\AllBare s'.gens) s₁:=by
  intro H hO hS hok hA hK;have base_of:∀{b:S1} {o:Obj},s₁.heap.get? b=some o->H b=none->(Y7 s₁.heap H).get? b=some o:=λe n=>Ye2 e n;have noA:∀{b:S1} {o:Obj} {es:Array DictEntry} {ep:Nat},s₁.heap.get? b=some o->o.data= .dict es ep->H b=none:=λ{b o es ep} e d=>by
   cases q:H b with
   |none=>rfl
   |some u=>
    have e':=hA b (by rw [q];simp);subst e';rw [ha] at e;cases e;cases d
  have nsK:∀{b:S1} {m:Str->Option S2},s₁.heap.Ns b m->(Y7 s₁.heap H).Ns b m:=λ{b m} ⟨o,es,ep,e,d,r⟩=>⟨o,es,ep,base_of e (noA e d),d,r⟩;have hKb:=λb o e=>base_of (KX b o e) (by
   cases q:H b with
   |none=>rfl
   |some u=>
    have e':=hA b (by rw [q];simp);subst e';rw [hK (by rw [q];simp)] at e;cases e)
  have hM:Mod K mg (Y7 s₁.heap H):=⟨hKb,nsK hns,⟨mb,nsK hb,hbb⟩,let ⟨mc,h1,h2⟩:=hlim;⟨mc,nsK h1,h2⟩⟩;have e0:Sh1 P w K mg (Y7 s₁.heap H) callerA [] s₁ H:=⟨rfl,hM,λb o e=>Ygf e,Nat.le_of_eq (Yci _ _),trivial,λb hb=>absurd (show b∈ [] from hb) (by simp),hok,.of_eq hg⟩;refine codeAny_mono ((F _ hKb (nsK hns)).run callerA [] s₁ H ⟨[.ref a],[]⟩ [.ref a] [.ref a] _ _ hr e0 (hbind s₁ (.ref a)) (.cons rfl .nil) (hsp H hO hS)) λr s' h=>?_;cases r with
  |error e=>exact (hCX H e s' h).elim
  |ok fl=>
   cases fl with
   |next=>exact False.elim h
   |brk=>exact False.elim h
   |cont=>exact False.elim h
   |ret u=>
    obtain ⟨v,H',os,bare,un,hok',r',q⟩:=h;subst q;obtain rfl:u=Value.bool true:=r';refine ⟨rfl,OldK.of_keep λb o e=>?_,os,bare⟩;cases q:H b with
    |none=>exact un.keep b o e q (by intro z;exact absurd (show b∈ [] from z) (by simp)) (by simp)
    |some u=>
     rcases hO b with z|⟨ob,xs,z⟩
     ·rw [q] at z;cases z
     ·have z2:=un.frzs b ob _ z;obtain ⟨e1,_⟩:=hok b _ z;obtain ⟨e2,_⟩:=hok' b _ z2;rw [e] at e1;cases e1;exact e2
 cases hk:K.lookup a with
 |some o=>
  have e:=KX a o hk;rw [ha] at e;cases e;refine core (λ_=>none) (λ_=>.inl rfl) (.inr ⟨_,vs.toArray,_,hk,rfl,rfl,rfl,by rw [yp,hi.length];exact hl,by simpa using rv⟩) (λb u z=>by have z':=z;cases z') (λb z=>absurd rfl z) λz=>absurd rfl z
 |none=>
  refine core (λb=>if b=a then some (.frz {cls:=.type "list",data:=.seq vs.toArray} (.lst (ns.map V.int))) else none) (λb=>?_) (.inl (.inr ⟨{cls:=.type "list",data:=.seq vs.toArray},if_pos rfl⟩)) (λb u z=>?_) (λb z=>?_) λ_=>hk
  ·by_cases hb:b=a
   ·exact .inr ⟨_,_,if_pos hb⟩
   ·exact .inl (if_neg hb)
  ·by_cases hb:b=a
   ·have z':=(if_pos hb).symm.trans z;cases z';subst hb;exact ⟨ha,by rw [ye];exact hl,vs,_,rv,ha⟩
   ·have z':=(if_neg hb).symm.trans z;cases z'
  ·by_cases hb:b=a
   ·exact hb
   ·exact absurd (if_neg hb) z
noncomputable abbrev KOf {K:Sd} {h:Sb} (_:K.In h):Sd:=K
theorem Yhs {l:PySem.W.OpenLaw} {n k} {q} {loose} {XP} {YP} {d} {K:Params->Sd} {CX:S9->CXT} {sp:S9->Sp} {x}
  (hn:l.most=some n) (hn2:n<=S6) (hdf:d.params.defaults= []) (hr:Sas k callerA)
  (hY:∀w h,YP w h->(K w.params).In h)
  (F:∀w mg fa h,(K w.params).In h->h.Ns mainGlobals mg->mg d.name=some (.ref fa)->
   ∃fd:S8,(∀s u,BindsTo s fd ⟨[u],[]⟩ [(x,u)])/\
    ∀base:Sb,(K w.params).In base->base.Ns mainGlobals mg->So l.prog w (K w.params) mg base (CX w) k fa fd [x] (sp w))
  (hsp:∀w H a (ns:List Int),ns.length<=n->Sk2 H->Ss (K w.params) H a (ns.map V.int)->sp w [.ref a] H (λv _=>v= .bl true) λ_ _ _=>False)
  (hCX:∀w H s e s',CX w [] H s (λ_ _ _=>False) e s'->False):
  PySem.W.WalkO q loose XP YP l.row.toRowW d [] (λf vs=>PySem.call f vs):=by
 refine Att.attach_call hn hdf λw s₀ s₁ mg mb fa o pm cd doc a vs ns G Y ho hd hcd hmg hobj hints hlen hg=>?_;have KX:=hY w _ Y;obtain ⟨fd,hb,hF⟩:=F w mg fa _ KX G.T.g hmg;exact Yea KX G.T.g G.T.b G.T.builtins G.T.nolimit hg hobj hints (yae hlen hn2) hr hF hb (λH hO hS=>hsp w H a ns hlen hO hS) λH e s'=>hCX w H s₁ e s'
theorem walk_ofK {l:PySem.W.OpenLaw} {n k} {q} {loose} {XP} {YP} {d} {K:Params->Sd} {CX} {sp:Sd->Sp} {x}
  (hn:l.most=some n) (hn2:n<=S6) (hdf:d.params.defaults= []) (hr:Sas k callerA)
  (hY:∀w h,YP w h->(K w.params).In h)
  (F:∀w mg fa h,(K w.params).In h->h.Ns mainGlobals mg->mg d.name=some (.ref fa)->
   ∃fd:S8,(∀s u,BindsTo s fd ⟨[u],[]⟩ [(x,u)])/\
    ∀base:Sb,(K w.params).In base->base.Ns mainGlobals mg->So l.prog w (K w.params) mg base CX k fa fd [x] (sp (K w.params)))
  (hsp:∀K H a (ns:List Int),ns.length<=n->Sk2 H->Ss K H a (ns.map V.int)->sp K [.ref a] H (λv _=>v= .bl true) λ_ _ _=>False)
  (hCX:∀H s e s',CX [] H s (λ_ _ _=>False) e s'->False):
  PySem.W.WalkO q loose XP YP l.row.toRowW d [] (λf vs=>PySem.call f vs):=
 Yhs hn hn2 hdf hr hY F (λw H a ns h1 h2 h3=>hsp (K w.params) H a ns h1 h2 h3) λ_ H s e s'=>hCX H s e s'
noncomputable def Jni (s:Stmt) (j:Nat):Stmt:=match s with
 | .ClassDef _ _ _ body _ _ _ _ _ _ _=>body.getD j (.Pass ⟨0,0,0,0⟩)
 |_=>.Pass ⟨0,0,0,0⟩
noncomputable def Jp1 (s:Stmt):Arguments:=match s with
 | .FunctionDef _ a _ _ _ _ _ _ _ _=>a
 |_=>{posonlyargs:=[],args:=[],vararg:=none,kwonlyargs:=[],kw_defaults:=[],kwarg:=none,defaults:=[]}
noncomputable def Jou (s:Stmt):List Stmt:=match s with
 | .FunctionDef _ _ b _ _ _ _ _ _ _=>b
 |_=>[]
noncomputable def Jnb (s:Stmt):Scope:=match s with
 | .FunctionDef _ _ _ _ _ _ sc _ _ _=>sc
 |_=>{kind:=.function,names:=[],isGenerator:=false,isCoroutine:=false}
noncomputable abbrev CX0:CXT:=λ_ _ _ _ _ _=>False
noncomputable abbrev E0:XK:=λ_ _ _=>False
theorem Jpa:Jsw CX0 X E0:=λ_ _ _ _ _ _ _ h=>h.elim
structure Fun (K:Sd) (x qual:Str) (st:Stmt) (f:S1) (fd:S8):Prop where
 ex:∃(dV oc:S2) (od:Option S1) (kV doc pm:S2) (an:Option S1) (cdv ct:S2) (osl:Array (Option S2)),
  fd=PySem.W.fnOf x qual (Jp1 st) (Jou st) (Jnb st) dV kV doc pm an cdv ct/\K.lookup f=some ⟨oc,od,.func fd,osl⟩/\PySem.W.codeIn K cdv qual=true
 kp:PySem.W.keepIn K (.ref f)=true
section
variable {P:S7} {w:S9} {K:Sd} {mg:Str->Option S2} {base:Sb}
theorem Fun.ok {st} (F:Fun K x qual st f fd) (S:Jne N ps (Jnb st)) (len:∀vs H Q E,sp vs H Q E->vs.length=ps.length)
  (hbody:∀cdv A outer s H vs Q E,Sas k (A.deeper (envOfC qual (Jnb st) s.heap.objs.size f cdv))->sp vs H Q E->
   ∃t,PSs (Y5 CX0 P w K mg base N qual (Jnb st) f cdv A outer s H E).nox (Jou st) t/\t {nx:=λ_ H'=>Q .non H',rt:=Q} (start N vs) H):So P w K mg base CX0 (k+1) f fd ps sp:=by
 obtain ⟨dV,oc,od,kV,doc,pm,an,cdv,ct,osl,rfl,lk,hcd⟩:=F.ex;refine Sl1 lk hcd S len λA outer s H vs Q E hr hsp=>?_;obtain ⟨t,h,q⟩:=hbody cdv A outer s H vs Q E hr hsp;exact ⟨t,h.nox,q⟩
theorem Jyv {st} {dV kV ct} (l:K.lookup f=some ⟨oc,od,.func (PySem.W.fnOf x qual (Jp1 st) (Jou st) (Jnb st) dV kV doc pm an cdv ct),osl⟩)
  (c:PySem.W.codeIn K cdv qual=true) (k:PySem.W.keepIn K (.ref f)=true):Fun K x qual st f (PySem.W.fnOf x qual (Jp1 st) (Jou st) (Jnb st) dV kV doc pm an cdv ct):=⟨⟨dV,oc,od,kV,doc,pm,an,cdv,ct,osl,rfl,l,c⟩,k⟩
end
section
variable {X:Cx}
theorem pv (i) {pos} (hN:X.N[i]?=some x:=by rfl) (hv:Vis X.env.scope x:=by first|exact yf rfl|exact yak (yf rfl)|exact yak (yak rfl)) (hd:(x==("__debug__" :Str))=false:=by decide)
  (hcd:(x==("__classdict__" :Str))=false:=by decide):PE X (.Name x pos) (Skd i):=Snf hN hv hd hcd
end
theorem Jok {A:Prop} (h:B):if false=true then A else B:=by grind
theorem Jp0 {A:Prop} (h:A):if true=true then A else B:=by grind
theorem Sj8 {A:Prop} [Decidable c] (h1:c->A) (h2:¬c->B):if c then A else B:=by grind
noncomputable def Si (H H':Hp):Prop:=∀b o,H b=some o->H' b=some o
theorem Si.refl (H):Si H H:=λ_ _ h=>h
theorem Si.trans (a:Si H H1) (b:Si H1 H2):Si H H2:=λc o h=>b c o (a c o h)
theorem Si.seq {K} (e:Si H H') (h:Ss K H a xs):Ss K H' a xs:=by
 rcases h with (h|⟨o,h⟩)|h
 ·exact .inl (.inl (e _ _ h))
 ·exact .inl (.inr ⟨o,e _ _ h⟩)
 ·exact .inr h
section
variable {κ:Type} [DecidableEq κ]
end
end L2
set_option Elab.async false
set_option linter.all false
set_option maxRecDepth 100000
set_option maxHeartbeats 4000000
namespace L2
open PySem PySem.Spec PyProof.Rows
noncomputable def Jq8 (cells:List (Str×S1)):List (Str×NameKind)->List (Str×S1)->List (Str×S1)
 | [],acc=>acc
 | (n,k) :: r,acc=>if (k == NameKind.free) = true then (match cells.lookup n with | some c=>Jq8 cells r ((n,c) :: acc) | none=>Jq8 cells r acc) else Jq8 cells r acc
theorem Jr1:∀ns acc,(∀x c,acc.lookup x=some c->cells.lookup x=some c)->∀x c,(Jq8 cells ns acc).lookup x=some c->cells.lookup x=some c
 | [],_,h,x,c,e=>h x c e
 | (n,k) :: r,acc,h,x,c,e=>by
  unfold Jq8 at e;by_cases hk:(k==NameKind.free)=true
  ·rw [if_pos hk] at e;cases hc:cells.lookup n with
   |none=>rw [hc] at e;exact Jr1 r acc h x c e
   |some d=>
    rw [hc] at e;refine Jr1 r ((n,d)::acc) (λy b q=>?_) x c e;rw [ybx] at q;by_cases hy:(y==n)=true
    ·rw [hy] at q;have hy':y=n:=beq_iff_eq.mp hy;rw [hy',hc];exact q
    ·have hy':(y==n)=false:=by simpa using hy
     rw [hy'] at q;exact h y b q
  ·rw [if_neg hk] at e;exact Jr1 r acc h x c e
theorem Jr6 {cells:List (Str×S1)}:∀(ns:List (Str×NameKind)) (acc:List (Str×S1)) (x:Str),(acc.lookup x).isSome=true->((Jq8 cells ns acc).lookup x).isSome=true
 | [],_,_,h=>h
 | (n,k) :: r,acc,x,h=>by
  unfold Jq8;by_cases hk:(k==NameKind.free)=true
  ·rw [if_pos hk];cases hc:cells.lookup n with
   |none=>exact Jr6 r acc x h
   |some d=>
    refine Jr6 r ((n,d)::acc) x ?_;rw [ybx];cases hy:x==n with
    |true=>rfl
    |false=>exact h
  ·rw [if_neg hk];exact Jr6 r acc x h
theorem Jr0:∀ns acc,(x,NameKind.free)∈ns->(∃c,cells.lookup x=some c)->((Jq8 cells ns acc).lookup x).isSome=true
 | [],_,h,_=>by simp at h
 | (n,k) :: r,acc,h,hc=>by
  unfold Jq8;rcases yo.mp h with e|e
  ·cases e;obtain ⟨c,hc⟩:=hc;rw [hc];exact Jr6 r _ x (by rw [ybx,beq_self_eq_true];rfl)
  ·by_cases hk:(k==NameKind.free)=true
   ·rw [if_pos hk];cases hd:cells.lookup n with
    |none=>exact Jr0 r acc e hc
    |some d=>exact Jr0 r _ e hc
   ·rw [if_neg hk];exact Jr0 r acc e hc
theorem Jxh (h:∀y∈sc.names,y.2= .free->∃c,env.cells.lookup y.1=some c):closureFor sc env=pure (Jq8 env.cells sc.names []):=by
 have key:∀ns acc,(∀y∈ns,y.2= .free->∃c,env.cells.lookup y.1=some c)->
   (forIn ns acc λx r=>if (x.2==NameKind.free)=true then cellOf env x.1 >>=λc=>pure (ForInStep.yield ((x.1,c)::r)) else pure (ForInStep.yield r))=pure (Jq8 env.cells ns acc):=by
  intro ns
  induction ns with
  |nil=>intro acc _;rfl
  |cons y r ih=>
   intro acc hy;obtain ⟨n,k⟩:=y;rw [yby];unfold Jq8;by_cases hk:(k==NameKind.free)=true
   ·have hk':=by simpa using hk
    obtain ⟨c,hc⟩:=hy (n,k) yah hk';have hc':=hc;simp only [hk];have e1:cellOf env n=pure c:=by unfold cellOf;rw [hc']
    rw [e1,hc'];exact ih _ λz hz=>hy z (yac _ hz)
   ·simp only [hk];exact ih _ λz hz=>hy z (yac _ hz)
 have k0:=key sc.names [] h
 first
  |exact k0
  | (refine Eq.trans ?_ (congrArg (λm : Sem (List (Str × S1))=>m >>= λr=>pure r) k0); rfl)
noncomputable def blk (X:Cx) (sc:Scope) (N:List Str) (C:S1) (s:S3) (H:Hp) (fp:List S1) (pn:List (S1×Obj)):Cx:=
 {X with N:=N,s₀:=s,H₀:=H,env:=compEnvC sc (Jq8 X.env.cells sc.names []) C X.env,outer:=X.stack,ex:=fp,fn:=λ_=>false,pn:=pn,xe:=λ_ _=>False}
noncomputable def Sj6 (ini:List (Option Nat)) (σ:St):St:=ini.map λo=>match o with|none=>none|some j=>(σ[j]?).join
noncomputable def scB (sc:Scope):Bool:=decide (sc.kind= .function)&&sc.names.all (λy=>decide (y.2≠ .cell))&&sc.names.all (λy=>!decide (y.2= .local)||decide (sc.names.lookup y.1=some .local))
noncomputable def frB (outer:List (Str×NameKind)) (sc:Scope):Bool:=sc.names.all λy=>!decide (y.2= .free)||(decide (outer.lookup y.1=some .cell)||decide (outer.lookup y.1=some .free))
noncomputable def Sms (No N:List Str) (ini:List (Option Nat)) (outer:List (Str×NameKind)) (sc:Scope):Bool:=
 (N.zip ini).all λy=>match y.2 with|none=>true|some j=>decide (No[j]?=some y.1)&&decide (sc.names.lookup y.1=some .free)&&(decide (outer.lookup y.1=some .cell)||decide (outer.lookup y.1=some .free))
noncomputable def PIf (X:Cx) (ifs:List Expr) (t:TT):Prop:=
 ∀(pins:List (S1×Obj)) (s:S3) (σ:St) (H:Hp) (Q:Bool->Hp->Prop),Sm X pins σ H s->t σ H Q->
  Sc (model X.prog X.w) X.A (forIn ifs true λc r=>if r=true then do let ok<-isTrue c X.env (eval c X.env);pure (ForInStep.yield ok) else pure (ForInStep.yield r)) (TP X pins σ Q) X.xe s
noncomputable def Jzo:TT:=λ_ H Q=>Q true H
theorem Jnw:PIf X [] Jzo:=λ_ _ _ H _ I h=>wpAny_tests_nil ⟨H,I,h⟩
theorem Jzc (h:PT X c t):PIf X [c] t:=λpins s σ H Q I q=>wpAny_tests_one (h pins s σ H Q I q)
noncomputable def Yfk (wi:TI) (ini:List (Option Nat)) (g:TG) (tt:TT) (te:TE):TE:=λσ H Q=>wi σ H λJ H1=>∀D,H1 D=none->∃W:Nat->Nat->St->Hp->Prop,(∃m,W 0 m (Sj6 ini σ) (upd H1 D (.lst [])))/\
 ∀i m σ' H',W i m σ' H'->(J.stop i H'/\Q (.ref D) H')\/(J.go i H'/\∃N:St->Hp->Prop,(∀σ2 H2,N σ2 H2->∃m',m' < m/\W (i+1) m' σ2 H2)/\
  ∀x H2,J.yld i H' x H2->g x σ' H2 λσ3 H3=>tt σ3 H3 λb H4=>if b=true then te σ3 H4 (λv H5=>∃ys,H5 D=some (.lst ys)/\ys.length < S6/\N σ3 (upd H5 D (.lst (ys++ [v])))) else N σ3 H4)
section
variable {prog:S7} {w:S9} {A:Sa} {R:Result->S3->Prop} {s:S3}
theorem Jyt {target iter} {ifs} {scope} {pos} {it acc} {env} (I:Nat->S3->Prop)
  (turn:∀n s,I n s->Sc (model prog w) A (pyNext it) (λr s1=>match r with
   |none=>R (.ok .next) s1
   |some v=>Sc (model prog w) A (letOwnedTupleGo target it v) (λ_ s1'=>Sc (model prog w) A (assign target env v) (λ_ s2=>
     Sc (model prog w) A (forIn ifs true λc r=>if r=true then do let ok<-isTrue c env (eval c env);pure (ForInStep.yield ok) else pure (ForInStep.yield r)) (λok s3=>
      if ok=true then Sc (model prog w) A (eval elt env) (λx s4=>
       Sc (model prog w) A (call (.builtin "list.append") [acc,x]) (λ_ s5=>∃m,m < n/\I m s5) (λ_ _=>False) s4) (λ_ _=>False) s3
      else ∃m,m < n/\I m s3) (λ_ _=>False) s2) (λ_ _=>False) s1') (λ_ _=>False) s1) (λ_ _=>False) s)
  (n) (h:I n s):codeAny (model prog w) A (.compLoop (.ListComp elt [⟨target,iter,ifs,0⟩] scope pos) 0 it acc env) R s:=by
 refine codeAny_loop rfl I (λn s hI=>wpAny_noted (wpAny_noRaise ?_)) n h;rw [compTurn_list];refine S4 (wpAny_standAt (S4 (wpAny_mono (turn n s hI) (λr s1 h1=>?_) λ_ _ h'=>h')));cases r with
 |none=>exact S5 h1
 |some v=>
  refine S4 (wpAny_mono h1 (λ_ s1' h1'=>S4 (wpAny_mono h1' (λ_ s2 h2=>S4 (wpAny_mono h2 (λok s3 h3=>?_) λ_ _ h'=>h')) λ_ _ h'=>h')) λ_ _ h'=>h');cases ok with
  |false=>exact S5 ⟨rfl,h3⟩
  |true=>
   exact S4 (S4 (wpAny_mono h3 (λx s4 h4=>S4 (wpAny_mono h4 (λ_ s5 h5=>S5 (S5 ⟨rfl,h5⟩)) λ_ _ h'=>h')) λ_ _ h'=>h'))
end
section
variable {X:Cx} {pins:List (S1×Obj)} {σ:St} {H:Hp} {s:S3}
theorem Smd (I:Sm X pins σ H s) (hk:sc.kind= .function) (hcell:∀y∈sc.names,y.2≠ .cell)
  (hfr:∀y∈sc.names,y.2= .free->X.env.kindOf y.1=some .cell\/X.env.kindOf y.1=some .free) (hC:C=s.heap.objs.size) (hf:∀b∈fp,Jud X pins H b/\b < s.heap.objs.size):(blk X sc N C s H fp pn).Ok:=by
 have hin:∀x c,(Jq8 X.env.cells sc.names []).lookup x=some c->X.env.cells.lookup x=some c:=Jr1 sc.names [] (λx c e=>by simp at e);refine ⟨I.ok.mod,hk,I.ok.glob,I.ok.blt,Nat.le_of_eq hC.symm,λx y c h1 h2=>I.ok.inj x y c (hin _ _ h1) (hin _ _ h2),λx hx=>?_,λx c h _=>(by cases h),I.ok.hd,I.ok.frames,.inl rfl,λb hb=>?_,I.bs,yae I.ok.bsz I.sz,λb o e hb=>?_,λb hb z=>?_,I.stack,I.stkFree⟩
 ·have hx':=hx;have hm:(x,NameKind.free)∈sc.names:=by
   have:∀k,(relabel sc X.env).names.lookup x=some k->(k= .cell\/k= .free)->(x,NameKind.free)∈sc.names:=λk e hkk=>by
    obtain ⟨⟨n',k'⟩,m1,m2⟩:=yn.mp (PySem.mem_of_lookup e);dsimp only at m2;by_cases hc:(k'==NameKind.free&&X.env.scope.kind== .function&&X.env.kindOf n'==some .cell)=true
    ·rw [if_pos hc] at m2;have e1:n'=x:=congrArg Prod.fst m2;have e2:=by simp at hc;exact hc.1.1
     rw [<-e1,<-e2];exact m1
    ·rw [if_neg hc] at m2;have e1:n'=x:=congrArg Prod.fst m2;have e2:k'=k:=congrArg Prod.snd m2;rcases hkk with z|z
     ·exact absurd (e2.trans z) (hcell _ m1)
     ·rw [<-e1,<-z,<-e2];exact m1
   rcases hx' with e|e
   ·exact this _ e (.inl rfl)
   ·exact this _ e (.inr rfl)
  exact Option.isSome_iff_exists.mp (Jr0 sc.names [] hm (I.ok.has x (hfr _ hm rfl)))
 ·obtain ⟨⟨f0,f1,f2,f3,f4,f5⟩,lt⟩:=hf b hb;exact ⟨λz=>yy lt (z.trans hC),λx c e=>f4 x c (hin _ _ e)⟩
 ·obtain ⟨⟨f0,f1,f2,f3,f4,f5⟩,lt⟩:=hf b hb;rcases f3 with z|z
  ·exact I.ok.noex b o e z
  ·exact absurd (yao (yk (I.ok.bs b o e).1) z) (ybg _)
 ·obtain ⟨⟨f0,f1,f2,f3,f4,f5⟩,lt⟩:=hf b hb;rcases yo.mp (I.stkSub b z) with e|e
  ·exact f1 e
  ·exact f2 e
theorem Yfx (I:Sm X pins σ H s) (hk:sc.kind= .function) (hcell:∀y∈sc.names,y.2≠ .cell)
  (hfr:∀y∈sc.names,y.2= .free->X.env.kindOf y.1=some .cell\/X.env.kindOf y.1=some .free) (hf:∀b∈fp,Jud X pins H b/\b < s.heap.objs.size) (hlen:N.length=ini.length)
  (hini:∀(i:Nat) x j,N[i]?=some x->ini[i]?=some (some j)->X.N[j]?=some x/\sc.names.lookup x=some .free/\(X.env.kindOf x=some .cell\/X.env.kindOf x=some .free))
  (hn:h1.Ns s.heap.objs.size (λ_=>none)) (kp:∀b o,s.heap.get? b=some o->h1.get? b=some o):
  Sm (blk X sc N s.heap.objs.size s H fp (X.pn++pins)) [] (Sj6 ini σ) H {s with heap:=h1,toks:=t'}:=by
 have hin:∀x c,(Jq8 X.env.cells sc.names []).lookup x=some c->X.env.cells.lookup x=some c:=Jr1 sc.names [] (λx c e=>by simp at e);refine ⟨Smd I hk hcell hfr rfl hf,rfl,I.bare,Un.kept kp,⟨_,hn,λi x v e1 e2 e3=>?_⟩,λx c e=>?_,I.hok.fresh (yg _),λx c e=>(I.freeC x c (hin _ _ e)).imp id λz=>⟨rfl,z.2⟩,λp hp=>?_,I.hok.kept kp,?_⟩
 ·have e1':=e1;have e2':=e2;unfold Sj6 at e2';rw [yi] at e2';cases hi:ini[i]? with
  |none=>rw [hi] at e2';cases e2'
  |some o=>
   rw [hi] at e2';cases o with
   |none=>cases e2'
   |some j=>
    have e4:(σ[j]?).join=some v:=yz.inj e2';have e5:σ[j]?=some (some v):=by
     cases q:σ[j]? with
     |none=>rw [q] at e4;cases e4
     |some z=>rw [q] at e4;exact congrArg some e4
    obtain ⟨a1,a2,a3⟩:=hini i x j e1' hi;obtain ⟨m,hm,hl⟩:=I.loc;have hvis:Vis X.env.scope x:=by
     rcases a3 with z|z
     ·exact .inr (.inl z)
     ·exact .inr (.inr z)
    obtain ⟨u,r,l⟩:=hl j x v a1 e5 hvis;refine ⟨u,r,.inr ⟨?_,?_⟩⟩
    ·have hm2:=PySem.mem_of_lookup a2;rcases e3 with z|z|z
     ·exfalso;have key:∀{ns:List (Str×NameKind)},ns.lookup x=some .free->(ns.map λ(n,k)=>if (k==NameKind.free&&X.env.scope.kind== .function&&X.env.kindOf n==some .cell) then (n,NameKind.cell) else (n,k)).lookup x≠some .local:=by
       intro ns
       induction ns with
       |nil=>intro q;simp at q
       |cons y r ih=>
        obtain ⟨n,k⟩:=y;intro q;rw [ybx] at q;rw [yan];dsimp only;cases hx:x==n with
        |true=>
         rw [hx] at q;have q':=yz.inj q;subst q';split
         ·rw [ybx,hx];intro z;cases z
         ·rw [ybx,hx];intro z;cases z
        |false=>
         rw [hx] at q;split
         ·rw [ybx,hx];exact ih q
         ·rw [ybx,hx];exact ih q
      exact key a2 z
     ·exact .inl z
     ·exact .inr z
    ·rcases l with ⟨k1,_⟩|⟨_,c,hc,hcl⟩
     ·exfalso;rcases a3 with z|z
      ·rw [z] at k1;cases k1
      ·rw [z] at k1;cases k1
     ·have hh:=Jr0 sc.names [] (PySem.mem_of_lookup a2) ⟨c,hc⟩;obtain ⟨c',hc'⟩:=Option.isSome_iff_exists.mp hh;have:=by
       have q:=hin _ _ hc';rw [hc] at q;exact (yz.inj q).symm
      subst this;obtain ⟨oc,hoc,hod⟩:=hcl;exact ⟨c',hc',oc,kp _ _ hoc,hod⟩
 ·obtain ⟨v,oc,hoc,hod⟩:=I.cell x c (hin _ _ e);exact ⟨v,oc,kp _ _ hoc,hod⟩
 ·have hp':p∈X.pn++pins:=by simpa [blk] using hp
  obtain ⟨e,n,ne,nf,d⟩:=I.pin p hp';refine ⟨kp _ _ e,n,yy (yk e),λz=>?_,d⟩;rcases yo.mp (I.stkSub p.1 z) with q|q
  ·exact ne q
  ·exact nf q
 ·unfold Sj6;rw [ye];exact hlen.symm
end
section
variable {X:Cx} {elt iter tg:Expr} {ifs:List Expr} {sc:Scope} {pos:Pos} {N:List Str} {ini:List (Option Nat)} {wi:TI} {g:TG} {tt:TT} {te:TE}
theorem Jy4 {pins:List (S1×Obj)} {σ:St} {H:Hp} {s:S3} {Q:VK} {use:Option (S2->Sem Unit)} {Q':S2->S3->Prop} {p:Pos} (hc:X.calm=true) (hi:PI X tg iter wi)
  (hsc:scB sc=true) (hfr:frB X.env.scope.names sc=true) (hlen:N.length=ini.length) (hini:Sms X.N N ini X.env.scope.names sc=true)
  (hg:∀C s H fp pn,PG (blk X sc N C s H fp pn) tg g) (ht:∀C s H fp pn,PIf (blk X sc N C s H fp pn) ifs tt) (he:∀C s H fp pn,PE (blk X sc N C s H fp pn) elt te)
  (hs:∀x,foldedSetIterable iter X.env x=pure x) (I:Sm X pins σ H s) (h:Yfk wi ini g tt te σ H Q)
  (hfin:∀(D:S1) (H':Hp) (s':S3) (C:S1) (m:Str->Option S2),Sm X pins σ H' s'->Jud X pins H' C->s'.heap.Ns C m->Q (.ref D) H'->compPost (model X.prog X.w) X.A X.xe use Q' (.ref D) C (.ok .next) s'):
  Sc (model X.prog X.w) X.A (comprehension (.ListComp elt [⟨tg,iter,ifs,0⟩] sc pos) sc X.env p (newList []) false (eval iter X.env) use) Q' X.xe s:=by
 have hsc':=hsc;unfold scB at hsc';rw [yap,yap] at hsc';obtain ⟨⟨hk0,hcell0⟩,hnames0⟩:=hsc';have hk:sc.kind= .function:=of_decide_eq_true hk0;have hcell:∀y∈sc.names,y.2≠ .cell:=λy hy=>of_decide_eq_true (yaz.mp hcell0 y hy);have hnames:∀y∈sc.names,y.2= .local->sc.names.lookup y.1=some .local:=λy hy hl=>by
  have q:=yaz.mp hnames0 y hy;rw [decide_eq_true hl] at q;exact of_decide_eq_true (by simpa using q)
 have hfrP:∀y∈sc.names,y.2= .free->X.env.kindOf y.1=some .cell\/X.env.kindOf y.1=some .free:=λy hy hl=>by
  have q:=yaz.mp hfr y hy;rw [decide_eq_true hl] at q;have q2:decide (X.env.scope.names.lookup y.1=some .cell)=true\/decide (X.env.scope.names.lookup y.1=some .free)=true:=by simpa using q
  rcases q2 with z|z
  ·exact .inl (of_decide_eq_true z)
  ·exact .inr (of_decide_eq_true z)
 have hiniP:∀(i:Nat) (x:Str) (j:Nat),N[i]?=some x->ini[i]?=some (some j)->X.N[j]?=some x/\sc.names.lookup x=some .free/\(X.env.kindOf x=some .cell\/X.env.kindOf x=some .free):=λi x j e1 e2=>by
  have hm:(x,some j)∈N.zip ini:=by
   refine yq (i:=i) ?_;rw [List.getElem?_zip_eq_some];exact ⟨e1,e2⟩
  have q:=yaz.mp hini _ hm;dsimp only at q;rw [yap,yap,Bool.or_eq_true] at q;obtain ⟨⟨q1,q2⟩,q3⟩:=q;refine ⟨of_decide_eq_true q1,of_decide_eq_true q2,?_⟩;rcases q3 with z|z
  ·exact .inl (of_decide_eq_true z)
  ·exact .inr (of_decide_eq_true z)
 refine wpAny_comprehension_free (use:=use) rfl hs (Jxh λy hy hl=>I.ok.has y.1 (hfrP y hy hl)) hk hnames ?_;refine thn (hi pins s σ H _ I h) λv s1 h1=>thn h1 λitv s2 h2=>?_;obtain ⟨it,fp,tn,J,H2,e,I2,T,st2,f2,step⟩:=h2;subst e;refine wpAny_newObj_type (wpAny_newFunctionEnv hcell (by intro y hy;simp at hy) (λh1 hns1 hsb1=>?_) hk);dsimp only at hns1 hsb1⊢;have hD:H2 s2.heap.objs.size=none:=I2.hok.fresh (yg _);have kp3:∀b o,s2.heap.get? b=some o->(s2.heap.push {cls:=.type "list",dict:=none,data:=.seq ([]:List S2).toArray}).get? b=some o:=λb o e=>ym _ e;have I3:Sm X pins σ (upd H2 s2.heap.objs.size (.lst [])) {s2 with heap:=s2.heap.push {cls:=.type "list",dict:=none,data:=.seq ([]:List S2).toArray}}:=
  I2.laid (t':=s2.toks) kp3 (yg _) ⟨yaj _,[],0,.nil,yt _ rfl⟩
 obtain ⟨W,⟨m0,w0⟩,turn⟩:=step s2.heap.objs.size hD;generalize hs3:({s2 with heap:=s2.heap.push {cls:=.type "list",dict:=none,data:=.seq ([]:List S2).toArray}}:S3)=s3 at I3;have e3h:s3.heap=s2.heap.push {cls:=.type "list",dict:=none,data:=.seq ([]:List S2).toArray}:=by rw [<-hs3]
 rw [<-e3h] at hns1 hsb1 kp3⊢;have sz3:s2.heap.objs.size < s3.heap.objs.size:=by rw [e3h,yat];exact ycf _
 have hf3:∀b∈fp,Jud X pins (upd H2 s2.heap.objs.size (.lst [])) b/\b < s3.heap.objs.size:=λb hb=>by
  obtain ⟨o,eo,_⟩:=T.obj 0 _ st2 b hb;have lt:=yk eo;obtain ⟨f0,fr⟩:=f2 b hb;exact ⟨⟨by rw [Jnc (yy lt)];exact f0,fr⟩,Nat.lt_trans lt sz3⟩
 have kp4:∀b o,s3.heap.get? b=some o->h1.get? b=some o:=λb o e=>(hsb1.2 b (yy (yk e))).trans (ym _ e);have I4:Sm (blk X sc N s3.heap.objs.size s3 (upd H2 s2.heap.objs.size (.lst [])) fp (X.pn++pins)) [] (Sj6 ini σ) (upd H2 s2.heap.objs.size (.lst [])) {s3 with heap:=h1,toks:=s3.toks+([]:List (Str×S2)).length}:=
  Yfx I3 hk hcell hfrP hf3 hlen hiniP hns1 kp4
 have st4:tn 0 h1:=T.keep 0 _ _ st2 λb hb o e=>kp4 b o (kp3 b o e);have e4s:({s2 with heap:=h1,toks:=s2.toks+([]:List (Str×S2)).length}:S3)={s3 with heap:=h1,toks:=s3.toks+([]:List (Str×S2)).length}:=by rw [<-hs3]
 have stat:∀{H':Hp},(∀b∈fp,H' b=none)->∀b∈fp,Jud (blk X sc N s3.heap.objs.size s3 (upd H2 s2.heap.objs.size (.lst [])) fp (X.pn++pins)) [] H' b:=λ{H'} hn b hb=>by
  obtain ⟨⟨f0,f1,f2',f3,f4,f5⟩,lt⟩:=hf3 b hb;refine ⟨hn b hb,yy lt,λz=>?_,.inl hb,λx c e=>f4 x c (Jr1 sc.names [] (λx c e=>by simp at e) x c e),λp hp=>f5 p (by simpa [blk] using hp)⟩;rcases yo.mp (I3.stkSub b z) with q|q
  ·exact f1 q
  ·grind
 have loop:∀s4:S3,s4={s3 with heap:=h1,toks:=s3.toks+([]:List (Str×S2)).length}->codeAny (model X.prog X.w) X.A (.compLoop (.ListComp elt [⟨tg,iter,ifs,0⟩] sc pos) 0 (.ref it) (.ref s2.heap.objs.size) (compEnvC sc (Jq8 X.env.cells sc.names []) s3.heap.objs.size X.env))
   (compPost (model X.prog X.w) X.A X.xe use Q' (.ref s2.heap.objs.size) s3.heap.objs.size) s4:=by
  rintro s4 rfl;refine Jyt (λn s'=>∃i σ' H',Sm (blk X sc N s3.heap.objs.size s3 (upd H2 s2.heap.objs.size (.lst [])) fp (X.pn++pins)) [] σ' H' s'/\tn i s'.heap/\(∀b∈fp,H' b=none)/\W i n σ' H') ?_ m0
   ⟨0,_,_,I4,st4,λb hb=>(hf3 b hb).1.1,w0⟩
  rintro n s5 ⟨i,σ5,H5,I5,st5,fr5,w5⟩;rcases turn i n σ5 H5 w5 with ⟨stop,q⟩|⟨go,N',hN',step'⟩
  ·refine thn (T.done (blk X sc N s3.heap.objs.size s3 (upd H2 s2.heap.objs.size (.lst [])) fp (X.pn++pins)) rfl rfl rfl hc i [] s5 σ5 H5 _ I5 (stat fr5) st5 stop) λr s6 ⟨hr,I6⟩=>?_;subst hr;have un:Un (frs X.stack) fp H2 H5 s2.heap s6.heap:=(Un.laid (fs:=frs X.stack) (ex:=fp) kp3 (yg _) hD).trans I6.base;have os6:s6.os=s2.os:=I6.os.trans (show s3.os=s2.os by rw [<-hs3]);have IX:Sm X pins σ H5 s6:=I2.call' (ch:=fp) os6 un I6.hok I6.bare λb hb=>by
    obtain ⟨⟨f0,f1,f2',f3,f4,f5⟩,lt⟩:=hf3 b hb;exact ⟨f3,f1,f4,f5⟩
   obtain ⟨m,hm,_⟩:=I6.loc;exact hfin _ H5 s6 s3.heap.objs.size m IX (I2.fpOk (yce sz3) I6.free) hm q
  ·refine thn (T.item (blk X sc N s3.heap.objs.size s3 (upd H2 s2.heap.objs.size (.lst [])) fp (X.pn++pins)) rfl rfl rfl hc i [] s5 σ5 H5 _ I5 (stat fr5) st5 go) λr s6 ⟨u,hr,h6⟩=>?_;subst hr;refine thn h6 λ_ s7 zq=>?_;obtain ⟨x,H7,I7,r7,y7,st7,fr7⟩:=zq;have I7':=I7.pinned (stat fr7) (T.obj _ _ st7);refine thn (hg _ _ _ _ _ _ s7 σ5 H7 x u _ I7' r7 (step' x H7 y7)) λ_ s8 zq=>?_;obtain ⟨σ8,H8,I8,q8⟩:=zq;refine thn (ht _ _ _ _ _ _ s8 σ8 H8 _ I8 q8) λok s9 zq=>?_;obtain ⟨H9,I9,q9⟩:=zq;have again:∀{σ':St} {H':Hp} {s':S3},Sm (blk X sc N s3.heap.objs.size s3 (upd H2 s2.heap.objs.size (.lst [])) fp (X.pn++pins)) ([]++Jx2 fp s7.heap) σ' H' s'->N' σ' H'->
     ∃m,m < n/\∃i σ' H',Sm (blk X sc N s3.heap.objs.size s3 (upd H2 s2.heap.objs.size (.lst [])) fp (X.pn++pins)) [] σ' H' s'/\tn i s'.heap/\(∀b∈fp,H' b=none)/\W i m σ' H':=λ{σ' H' s'} J n'=>by
    obtain ⟨m',hm,w'⟩:=hN' σ' H' n';refine ⟨m',hm,i+1,σ',H',J.unpinned,T.keep _ _ _ st7 λb hb o e=>(J.pin (b,o) (ybi _ (ybi _ (Jr7 hb e)))).1,λb hb=>?_,w'⟩;obtain ⟨o,e,d⟩:=T.obj _ _ st7 b hb;exact (J.pin (b,o) (ybi _ (ybi _ (Jr7 hb e)))).2.1
   cases ok with
   |false=>
    exact again I9 q9
   |true=>
    refine thn (he _ _ _ _ _ _ s9 σ8 H9 _ I9 q9) λv10 s10 zq=>?_;obtain ⟨x10,H10,I10,r10,ys,hys,hyl,q10⟩:=zq;refine thn (Jr4 _ s10 σ8 H10 (.ref s2.heap.objs.size) [x10] _ [v10] (λ_ H'=>N' σ8 H') I10 rfl (.cons r10 .nil) ⟨_,ys,x10,rfl,rfl,hys,hyl,q10⟩) λ_ s11 zq=>?_;obtain ⟨_,H11,I11,_,q11⟩:=zq;exact again I11 q11
 have fin:=codeAny_compStart_list (R:=compPost (model X.prog X.w) X.A X.xe use Q' (.ref s2.heap.objs.size) s3.heap.objs.size) (loop _ rfl) (T.self X.A 0 {s3 with heap:=h1,toks:=s3.toks+([]:List (Str×S2)).length} _ _ st4 (loop _ rfl));rw [<-e4s] at fin;exact fin
theorem Jnx (hc:X.calm=true) (hi:PI X tg iter wi) (hg:∀C s H fp pn,PG (blk X sc N C s H fp pn) tg g) (ht:∀C s H fp pn,PIf (blk X sc N C s H fp pn) ifs tt) (he:∀C s H fp pn,PE (blk X sc N C s H fp pn) elt te)
  (hsc:scB sc=true:=by rfl) (hfr:frB X.env.scope.names sc=true:=by rfl) (hlen:N.length=ini.length:=by rfl) (hini:Sms X.N N ini X.env.scope.names sc=true:=by rfl)
  (hs:∀x,foldedSetIterable iter X.env x=pure x:=by intro _;rfl):PE X (.ListComp elt [⟨tg,iter,ifs,0⟩] sc pos) (Yfk wi ini g tt te):=by
 intro pins s σ H Q I h;refine Jy4 hc hi hsc hfr hlen hini hg ht he hs I h λD H' s' C m I' f hn q=>?_;obtain ⟨f0,f1,f2,f3,f4,f5⟩:=f;exact ⟨m,hn,λh' sb=>⟨.ref D,H',I'.turned (λb o hb e=>(sb.2 b hb).trans e) f0 f1 f3 f4 f5,rfl,q⟩⟩
noncomputable def Sss (i:Nat) (te:TE):TS:=λD σ H=>te σ H λv H1=>D.nx (σ.set i (some v)) H1
theorem Ju1 {py spos} (hN:X.N.Nodup) (hiy:X.N[i]?=some y) (hx:Loc X.env.scope y) (hc:X.calm=true) (hi:PI X tg iter wi) (hg:∀C s H fp pn,PG (blk X sc N C s H fp pn) tg g) (ht:∀C s H fp pn,PIf (blk X sc N C s H fp pn) ifs tt) (he:∀C s H fp pn,PE (blk X sc N C s H fp pn) elt te)
  (hf:X.fn y=true\/X.env.scope.names.lookup y=some .local:=by first|exact .inl rfl|exact .inr rfl|assumption)
  (hsw:swapsWith (.ListComp elt [⟨tg,iter,ifs,0⟩] sc pos) (some (.Name y py)) spos.line X.env=pure true:=by rfl)
  (hsc:scB sc=true:=by rfl) (hfr:frB X.env.scope.names sc=true:=by rfl) (hlen:N.length=ini.length:=by rfl) (hini:Sms X.N N ini X.env.scope.names sc=true:=by rfl)
  (hs:∀x,foldedSetIterable iter X.env x=pure x:=by intro _;rfl):PS X (.Assign [.Name y py] (.ListComp elt [⟨tg,iter,ifs,0⟩] sc pos) spos) (Sss i (Yfk wi ini g tt te)):=by
 intro pins s σ H D I h;rw [exec_Assign_Name_used _ _ _ _ hsw];refine S4 (wpAny_standAt (S4 ?_));refine S4 (wpAny_mono (Jy4 hc hi hsc hfr hlen hini hg ht he hs I h λD' H' s' C m I' f hn q=>?_) (λ_ s' hq=>S5 (S5 hq)) λ_ _ e=>e);obtain ⟨f0,f1,f2,f3,f4,f5⟩:=f;refine wpAny_assign_Name (Jyn I' hN hiy hx (v:=.ref D') rfl (λs'' I'' sb=>?_) hf);obtain ⟨a,sb,ha⟩:=sb;have hCa:C≠a:=by
  rcases ha with z|z
  ·grind
  ·grind
 refine ⟨m,hn.sameBut sb hCa,λh' sb'=>⟨_,H',I''.turned (λb o hb e=>(sb'.2 b hb).trans e) f0 f1 f3 f4 f5,q⟩⟩
end
section
variable {g:TG} {tt:TT} {te:TE} {H:Hp} {D:S1} {σ:St} {R:Hp->Prop}
theorem Jsz {lo} {n} (Pv:Nat->St->Hp->Prop) (h0:Pv 0 σ H)
  (hs:∀i σ H,i < n->Pv i σ H->g (.int (lo+i)) σ H λσ3 H3=>tt σ3 H3 λb H4=>if b=true then te σ3 H4 λv H5=>∃ys,H5 D=some (.lst ys)/\ys.length < S6/\Pv (i+1) σ3 (upd H5 D (.lst (ys++ [v]))) else Pv (i+1) σ3 H4)
  (hd:∀σ H,Pv n σ H->R H):
  ∃W:Nat->Nat->St->Hp->Prop,(∃m,W 0 m σ H)/\∀i m σ' H',W i m σ' H'->(Itr lo n).stop i H'/\R H'\/(Itr lo n).go i H'/\∃N:St->Hp->Prop,(∀σ2 H2,N σ2 H2->∃m',m' < m/\W (i+1) m' σ2 H2)/\
   ∀x H2,(Itr lo n).yld i H' x H2->g x σ' H2 λσ3 H3=>tt σ3 H3 λb H4=>if b=true then te σ3 H4 λv H5=>∃ys,H5 D=some (.lst ys)/\ys.length < S6/\N σ3 (upd H5 D (.lst (ys++ [v]))) else N σ3 H4:=by
 refine ⟨λi m σ H=>m=n - i/\i<=n/\Pv i σ H,⟨n,by simp,yaj _,h0⟩,?_⟩;rintro i m σ H ⟨rfl,hi,p⟩;by_cases hlt:i < n
 ·refine .inr ⟨hlt,Pv _,λσ' H' p'=>⟨n - _,by omega,rfl,hlt,p'⟩,λx H' y=>?_⟩;obtain ⟨e,y⟩:=y;subst e y;exact hs i σ _ hlt p
 ·have e:i=n:=by omega
  subst e;exact .inl ⟨yg _,hd σ H p⟩
theorem Joz {K} {a} {xs} (Pv:Nat->St->Hp->Prop) (h0:Pv 0 σ H) (hl:∀i σ H,i<=xs.length->Pv i σ H->Ss K H a xs)
  (hs:∀i x σ H,xs[i]?=some x->Pv i σ H->g x σ H λσ3 H3=>tt σ3 H3 λb H4=>if b=true then te σ3 H4 λv H5=>∃ys,H5 D=some (.lst ys)/\ys.length < S6/\Pv (i+1) σ3 (upd H5 D (.lst (ys++ [v]))) else Pv (i+1) σ3 H4)
  (hd:∀σ H,Pv xs.length σ H->R H):
  ∃W:Nat->Nat->St->Hp->Prop,(∃m,W 0 m σ H)/\∀i m σ' H',W i m σ' H'->(Itl K a).stop i H'/\R H'\/(Itl K a).go i H'/\∃N:St->Hp->Prop,(∀σ2 H2,N σ2 H2->∃m',m' < m/\W (i+1) m' σ2 H2)/\
   ∀x H2,(Itl K a).yld i H' x H2->g x σ' H2 λσ3 H3=>tt σ3 H3 λb H4=>if b=true then te σ3 H4 λv H5=>∃ys,H5 D=some (.lst ys)/\ys.length < S6/\N σ3 (upd H5 D (.lst (ys++ [v]))) else N σ3 H4:=by
 refine ⟨λi m σ H=>m=xs.length - i/\i<=xs.length/\Pv i σ H,⟨xs.length,by simp,yaj _,h0⟩,?_⟩;rintro i m σ H ⟨rfl,hi,p⟩;have q:=hl i σ H hi p;by_cases hlt:i < xs.length
 ·refine .inr ⟨⟨xs,xs[i],q,by simp [hlt]⟩,Pv _,λσ' H' p'=>⟨xs.length - _,by omega,rfl,hlt,p'⟩,λx H' y=>?_⟩;obtain ⟨e,y⟩:=y;subst e;exact hs i x σ _ (y xs q) p
 ·have e:i=xs.length:=by omega
  subst e;exact .inl ⟨⟨xs,q,yg _⟩,hd σ H p⟩
end
theorem Jor {H} {A B:St->Hp->Prop} (h:A (σ.set i (some v)) H):Jq5 i v σ H λσ3 H3=>Jzo σ3 H3 λb H4=>if b=true then A σ3 H4 else B σ3 H4:=h
noncomputable def sgn (c:Nat):V:=.str ⟨#[c]⟩
noncomputable def Its (z:Str):It:=⟨λi _=>i < z.cps.size,λi H x H'=>H'=H/\∃c,z.cps[i]?=some c/\x=sgn c,λi _=>z.cps.size=i⟩
noncomputable def Sx7 (tl:TE):TI:=λσ H R=>tl σ H λx H1=>∃z,x= .str z/\R (Its z) H1
theorem Ya1 {P:S7} {w:S9} {K:Sd} {tg:Expr} {z:Str} {it:S1} {n:String} {fl:Nat->Array S2} {St:Nat->Sb->Prop}
  (Wk:∀A':Sa,A'.handled=none->Walks P w A' it [it] [it] z.cps.size (SignAt z) St) (hst:∀i h,St i h->∃o,h.get? it=some o/\o.cls= .type n/\∃a,o.data= .fields a)
  (hn: ["enumerate","zip","dict_itemiterator","dict_reverseitemiterator","odict_iterator","itertools.zip_longest","itertools.pairwise"].contains n=false)
  (hself:∀(A:Sa) (i:Nat) (s:S3) (Q:S2->S3->Prop) (E:S2->S3->Prop),St i s.heap->Q (.ref it) s->Sc (model P w) A (pyIter (.ref it)) Q E s):Turn P w K tg (Its z) [it] it St where
 mem:=by simp
 obj:=λi h st b hb=>by
  have e:b=it:=by simpa using hb
  subst e;obtain ⟨o,e,_,a,d⟩:=hst i h st;exact ⟨o,e,λv z=>by rw [d] at z;cases z⟩
 keep:=λi h h' st k=>by
  have W0:=Wk callerA rfl;exact W0.frame i h h' st λb hb o e=>k b hb o e
 item:=by
  intro X hP hw hK hc i pins s σ H E I hf st hg;subst hP hw hK;obtain ⟨f0,f1,f2,f3,f4,f5⟩:=hf it (by simp);have W:=Wk X.A (I.ok.hd hc);refine W.item i s _ _ hg st λv h' tk hv st' kk=>?_;obtain ⟨c,u,hcp,rfl⟩:=hv;have I1:Sm X pins σ H {s with heap:=h',toks:=tk}:=I.turned (λb o hb e=>kk b o (by simpa using hb) e) f0 f1 f3 f4 f5;obtain ⟨o,e,cl,a,d⟩:=hst _ _ st';exact ⟨_,rfl,Y6 (s:={s with heap:=h',toks:=tk}) e cl d hn ⟨sgn c,H,I1,⟨u,rfl⟩,⟨rfl,c,hcp,rfl⟩,st',λb hb=>(hf b hb).1⟩⟩
 done:=by
  intro X hP hw hK hc i pins s σ H E I hf st hg;subst hP hw hK;obtain ⟨f0,f1,f2,f3,f4,f5⟩:=hf it (by simp);have W:=Wk X.A (I.ok.hd hc);have hg':z.cps.size=i:=hg;subst hg';exact W.done s _ _ st λh' tk kk=>⟨rfl,I.turned (λb o hb e=>kk b o (by simpa using hb) e) f0 f1 f3 f4 f5⟩
 self:=hself
theorem Snj {X:Cx} {tg l:Expr} {tl:TE} (hl:PE X l tl):PI X tg l (Sx7 tl):=by
 intro pins s σ H R I h;refine thn (hl pins s σ H _ I h) λv s1 zq=>?_;obtain ⟨x,H1,I1,r1,z,e,q⟩:=zq;subst e;obtain ⟨t,rfl⟩:=r1;have fin:∀(o:Obj) (St:Nat->Sb->Prop) (n:String),Turn X.prog X.w X.K tg (Its z) [s1.heap.objs.size] s1.heap.objs.size St->St 0 (s1.heap.push o)->PIE X pins σ tg R (.ref s1.heap.objs.size) {s1 with heap:=s1.heap.push o}:=λo St n T st0=>by
  refine ⟨s1.heap.objs.size,[s1.heap.objs.size],St,Its z,H1,rfl,I1.kept (t':=s1.toks) λb o e=>ym _ e,T,st0,λb hb=>?_,q⟩;have e:b=s1.heap.objs.size:=by simpa using hb
  subst e;exact I1.fpOk (yg _) (I1.hok.fresh (yg _))
 cases ha:z.cps.all (· < 128)
 ·refine wpAny_pyIter_wide ha (fin _ (λi h=>h.IsStrIter s1.heap.objs.size "str_iterator" z t i) "str_iterator" (Ya1 (n:="str_iterator") (fl:=λ_=>#[]) (λA' hA=>Walks.strWide hA _ z t) (λi h st=>?_) (by decide) (λA i s Q E st q=>wpAny_pyIter_striter_wide st q)) ⟨_,yt _ rfl,rfl,rfl⟩);obtain ⟨o,e,c,d⟩:=st;exact ⟨o,e,c,_,d⟩
 ·refine wpAny_pyIter_ascii ha (fin _ (λi h=>h.IsStrIter s1.heap.objs.size "str_ascii_iterator" z t i) "str_ascii_iterator" (Ya1 (n:="str_ascii_iterator") (fl:=λ_=>#[]) (λA' hA=>Walks.strAscii hA _ z t) (λi h st=>?_) (by decide) (λA i s Q E st q=>wpAny_pyIter_striter_ascii st q)) ⟨_,yt _ rfl,rfl,rfl⟩);obtain ⟨o,e,c,d⟩:=st;exact ⟨o,e,c,_,d⟩
theorem Ydm {g:TG} {tt:TT} {te:TE} {H} {D} {σ} {R:Hp->Prop} (Pv:Nat->St->Hp->Prop) (h0:Pv 0 σ H)
  (hs:∀i c σ H,z.cps[i]?=some c->Pv i σ H->g (sgn c) σ H λσ3 H3=>tt σ3 H3 λb H4=>if b=true then te σ3 H4 λv H5=>∃ys,H5 D=some (.lst ys)/\ys.length < S6/\Pv (i+1) σ3 (upd H5 D (.lst (ys++ [v]))) else Pv (i+1) σ3 H4)
  (hd:∀σ H,Pv z.cps.size σ H->R H):
  ∃W:Nat->Nat->St->Hp->Prop,(∃m,W 0 m σ H)/\∀i m σ' H',W i m σ' H'->(Its z).stop i H'/\R H'\/(Its z).go i H'/\∃N:St->Hp->Prop,(∀σ2 H2,N σ2 H2->∃m',m' < m/\W (i+1) m' σ2 H2)/\
   ∀x H2,(Its z).yld i H' x H2->g x σ' H2 λσ3 H3=>tt σ3 H3 λb H4=>if b=true then te σ3 H4 λv H5=>∃ys,H5 D=some (.lst ys)/\ys.length < S6/\N σ3 (upd H5 D (.lst (ys++ [v]))) else N σ3 H4:=by
 refine ⟨λi m σ H=>m=z.cps.size - i/\i<=z.cps.size/\Pv i σ H,⟨z.cps.size,by simp,yaj _,h0⟩,?_⟩;rintro i m σ H ⟨rfl,hi,p⟩;by_cases hlt:i < z.cps.size
 ·refine .inr ⟨hlt,Pv _,λσ' H' p'=>⟨z.cps.size - _,by omega,rfl,hlt,p'⟩,λx H' y=>?_⟩;obtain ⟨e,c,hcp,y⟩:=y;subst e y;exact hs i c σ _ hcp p
 ·have e:i=z.cps.size:=by omega
  subst e;exact .inl ⟨rfl,hd σ H p⟩
section
variable {X:Cx}
theorem Jqi:OpR X (binaryOp .FloorDiv) (rI (λ_ j=>0 < j/\j.natAbs.log2 < 9000) λi j=>.int (i/j)):=opI λi j _ _ _ _ _ hc q=>floordiv_int (by omega) (by rw [Int.fdiv_eq_ediv_of_nonneg i (by omega)];exact q) (.inl (PyProof.noPylong_of_log2 hc.2))
noncomputable def Smj:V->Option S2
 | .ty n=>some (.type n)
 | .ref a=>some (.ref a)
 |_=>none
theorem Yc0:∀{ys:List Str} {us:List S2},Sx (ys.map V.str) us->StrsAre us ys
 | [],_,.nil=>.nil
 |_::_,_,.cons ⟨_,rfl⟩ t=>.cons _ _ (Yc0 t)
inductive Sl9 (K:Sd) (x:V) (xs:List V) (H:Hp) (Q:VK):Prop where
 |mk (z:Str) (a:S1) (ys:List Str) (_:x= .str z) (_:xs= [.ref a]) (_:Ss K H a (ys.map V.str)) (_:(ys.map (·.length)).sum+ys.length*z.length<=16777216) (_:Q (.str (Txt.join z ys)) H)
theorem Ygb:MtR X "str.join" (Sl9 X.K):=by
 rintro pins s σ H x xs v us Q I rx rs ⟨z,a,ys,rfl,rfl,hq,hz,q⟩;obtain ⟨t,rfl⟩:=rx;obtain ⟨u,rfl,ru⟩:=Jq1 rs;cases ru;obtain ⟨its,r,pl,_⟩:=I.list hq;exact join_list pl.isList (by simpa using Yc0 r) hz λt' k=>⟨.str _,H,I.tok _,⟨_,rfl⟩,q⟩
inductive Sxg (K:Sd) (xs:List V) (H:Hp) (Q:VK):Prop where
 |mk (a:S1) (bs:List Bool) (_:xs= [.ref a]) (_:Ss K H a (bs.map V.bl)) (_:Q (.bl (bs.all id)) H)
theorem Jqy (hc:X.calm=true):Jp9 X (.builtin "all") (Sxg X.K):=by
 rintro pins s σ H xs us Q I r ⟨a,bs,rfl,hq,q⟩;obtain ⟨u,rfl,ru⟩:=Jq1 r;cases ru;obtain ⟨its,rv,pl,hz⟩:=I.list hq;have hlen:=rv.length;refine call_all_walk (wpAny_pyIter_list pl.isList ⟨s.heap.objs.size,[s.heap.objs.size,a],[s.heap.objs.size],its.toArray.size,_,_,λi=>bs.getD i true,rfl,Walks.list (A:=X.A.in1) (I.ok.hd hc) s.heap.objs.size a ?_ its.toArray,⟨⟨_,yt _ rfl,rfl,rfl⟩,pl.isList.at λo e=>ym _ e⟩,?_,λh' tk k=>?_⟩)
 ·obtain ⟨o,_,e,_⟩:=pl;exact yy (yk e)
 ·intro i v s' Q' E' hv hq';have hv':=by simpa using hv
  have hi:=(yj.mp hv').1;have hb:i < bs.length:=by rw [ye] at hlen;omega
  obtain ⟨u',hu',ru'⟩:=rv.get (by rw [yi,yh hb];rfl);rw [hv'] at hu';cases hu';cases ru';refine wpAny_truthy_bool ?_;have:bs.getD i true=bs[i]:=by rw [ybz,yh hb];rfl
  rw [<-this];exact hq'
 ·have e:((yav its.toArray.size).all λi=>bs.getD i true)=bs.all id:=by
   have hl2:its.toArray.size=bs.length:=by rw [ye] at hlen;rw [yp];exact hlen.symm
   rw [hl2,Bool.eq_iff_iff,yaz,yaz];constructor
   ·intro hh b hb;obtain ⟨i,hi,rfl⟩:=List.getElem_of_mem hb;have:=hh i (ybu.mpr hi);rw [ybz,yh hi] at this;exact this
   ·intro hh i hi;have hi':=ybu.mp hi;rw [ybz,yh hi'];exact hh _ (yaq hi')
  rw [e];exact ⟨.bl _,H,I.kept λb o e=>k b o (λz=>by
   have z':=by simpa using z
   exact absurd (yk e) (by rw [z'];exact ybg _)) (ym _ e),rfl,q⟩
end
mutual
inductive Sbb (K:Sd) (H:Hp):V->PyData->Prop
 |non:Sbb K H .non .none
 |bl (b:Bool):Sbb K H (.bl b) (.bool b)
 |int (i:Int):Sbb K H (.int i) (.int i)
 |str (z:Str):Sbb K H (.str z) (.str z)
 |lst {a:S1} {xs:List V} {ds:List PyData}:Ss K H a xs->Sap K H xs ds->Sbb K H (.ref a) (.list ds)
 |tup {a:S1} {xs:List V} {ds:List PyData}:Su K H a xs->Sap K H xs ds->Sbb K H (.ref a) (.tuple ds)
inductive Sap (K:Sd) (H:Hp):List V->List PyData->Prop
 |nil:Sap K H [] []
 |cons {x:V} {d:PyData} {xs:List V} {ds:List PyData}:Sbb K H x d->Sap K H xs ds->Sap K H (x::xs) (d::ds)
end
section
variable {X:Cx} {pins:List (S1×Obj)} {σ:St} {H:Hp} {s:S3}
mutual
theorem Sbb.reads (I:Sm X pins σ H s):∀{x} {d},Sbb X.K H x d->∀{v},Sz x v->∃as,Reads s.heap v d as
 |_,_,.non,_,r=>by cases r;exact ⟨_,.none⟩
 |_,_,.bl b,_,r=>by cases r;exact ⟨_,.bool b⟩
 |_,_,.int i,_,r=>by obtain ⟨t,rfl⟩:=r;exact ⟨_,.int i t⟩
 |_,_,.str z,_,r=>by obtain ⟨t,rfl⟩:=r;exact ⟨_,.str z t⟩
 |_,_,.lst hq hd,_,r=>by
  cases r;obtain ⟨its,rv,⟨o,n,e,c,dd,dt⟩,_⟩:=I.list hq;obtain ⟨as,ra⟩:=Sap.reads I hd rv;exact ⟨_,.list e c dt (by simpa using ra)⟩
 |_,_,.tup hq hd,_,r=>by
  cases r;obtain ⟨its,rv,⟨o,e,c,n,dt⟩,_⟩:=I.tuple hq;obtain ⟨as,ra⟩:=Sap.reads I hd rv;exact ⟨_,.tuple e c dt (by simpa using ra)⟩
theorem Sap.reads (I:Sm X pins σ H s):∀{xs:List V} {ds:List PyData},Sap X.K H xs ds->∀{us:List S2},Sx xs us->∃as,ReadsAll s.heap us ds as
 |_,_,.nil,_,r=>by cases r;exact ⟨_,.nil⟩
 |_,_,.cons h t,_,r=>by
  cases r with
  |cons r1 r2=>
   obtain ⟨as,ra⟩:=Sbb.reads I h r1;obtain ⟨bs,rb⟩:=Sap.reads I t r2;exact ⟨_,.cons ra rb⟩
end
inductive Sxi (K:Sd) (neg:Bool) (x:V) (y:V) (H:Hp) (Q:VK):Prop where
 |mk (d:_) (e:_) (_:Sbb K H x d) (_:Sbb K H y e) (_:SeqAt.shaped d=true) (_:SeqAt.shaped e=true) (_:Q (.bl (if neg then !PyData.eqv d e else PyData.eqv d e)) H)
theorem Sna (hu:X.A.units+64 < cLine):OpR X (compareOp .NotEq) (Sxi X.K true):=by
 rintro pins s σ H x y v u Q I rx ry ⟨d,e,hd,he,sd,se,q⟩;obtain ⟨as,ra⟩:=hd.reads I rx;obtain ⟨bs,rb⟩:=he.reads I ry;exact ne_dataH ra rb sd se hu (Joa I q rfl)
end
theorem Jnr:bootBuiltins "isinstance" =some (.builtin "isinstance"):=by decide +kernel
theorem Joh:bootBuiltins "len" =some (.builtin "len"):=by decide +kernel
theorem Jwb:bootBuiltins "max" =some (.builtin "max"):=by decide +kernel
theorem Yac:bootBuiltins "min" =some (.builtin "min"):=by decide +kernel
theorem Juf:bootBuiltins "all" =some (.builtin "all"):=by decide +kernel
theorem Yab:bootBuiltins "int" =some (.type "int"):=by decide +kernel
theorem Smg:bootBuiltins "str" =some (.type "str"):=by decide +kernel
theorem Ybi:bootBuiltins "bool" =some (.type "bool"):=by decide +kernel
theorem Jpu:bootBuiltins "list" =some (.type "list"):=by decide +kernel
theorem Joo:bootBuiltins "tuple" =some (.type "tuple"):=by decide +kernel
structure FT (K:Sd) (mg:Str->Option S2) (x:Str) (st:Stmt) (ps:List Str) (f:S1) (fd:S8):Prop where
 mgx:mg x=some (.ref f)
 fn:Fun K x x st f fd
 bd:Sbf K fd ps []
section
variable {X:Cx} {x:Str} {st:Stmt} {ps:List Str} {f:S1} {fd:S8} {sp:Sp} {k j:Nat} {p pos:Pos} {e:Expr} {es:List Expr} {t:TA}
theorem Jna (F:FT X.K X.mg x st ps f fd) (G:So X.prog X.w X.K X.mg X.base CX0 k f fd ps sp) (hr:Sas j X.A) (hk:k<=j) (ha:PA X (e::es) t) (hg:Gl X x:=by rfl) (hdb:(x==("__debug__" :Str))=false:=by decide)
  (he:starEach (e::es) X.env=(false,eval e X.env)::starEach es X.env:=by rfl) (hpl:(backTo pos (starEach es X.env)).any (·.1)=false:=by rfl):PE X (.Call (.Name x p) (e::es) [] pos) (Sld sp [] E0 t):=
 Ygl G (hr.mono hk) hg F.mgx F.fn.kp F.bd .nil Jpa ha hdb he hpl
end
theorem Si.upd (h:H D=none):Si H (upd H D o):=λb u e=>by rw [Jnc (Jnd e h)];exact e
noncomputable def Sc9 (H:Hp) (p:S1):Prop:=∃a b c:Int,H p=some (.lst [.int a,.int b,.int c])
noncomputable def But (p:S1) (H H':Hp):Prop:=(∀b o,b≠p->H b=some o->H' b=some o)/\Sc9 H' p
theorem But.trans (a:But p H H1) (b:But p H1 H2):But p H H2:=⟨λc o n e=>b.1 c o n (a.1 c o n e),b.2⟩
theorem But.refl (s:Sc9 H p):But p H H:=⟨λ_ _ _ e=>e,s⟩
theorem But.same (a:But p H H1) (b:Si H1 H2):But p H H2:=⟨λc o n e=>b c o (a.1 c o n e),let ⟨x,y,z,e⟩:=a.2;⟨x,y,z,b p _ e⟩⟩
theorem Sc9.same (a:Sc9 H p) (b:Si H H1):Sc9 H1 p:=by obtain ⟨x,y,z,e⟩:=a;exact ⟨x,y,z,b p _ e⟩
theorem But.of (a:Sc9 H p) (b:Si H H1):But p H H1:=(But.refl a).same b
theorem But.free (s:Sc9 H p) (b:But p H H') (h:H' D=none):H D=none:=by
 by_cases e:D=p
 ·obtain ⟨x,y,z,q⟩:=b.2;rw [e,q] at h;cases h
 ·cases q:H D with
  |none=>rfl
  |some o=>
   rw [b.1 D o e q] at h;cases h
theorem But.updD (b:But p H H') (hD:H D=none) (ne:D≠p):But p H (upd H' D o):=by
 refine ⟨λc u n e=>?_,?_⟩
 ·rw [Jnc (Jnd e hD)];exact b.1 c u n e
 ·obtain ⟨x,y,z,q⟩:=b.2;exact ⟨x,y,z,by rw [Jnc (yx ne)];exact q⟩
theorem Sc9.ne (s:Sc9 H p) (hD:H D=none):D≠p:=by
 obtain ⟨x,y,z,q⟩:=s;exact (Jnd q hD).symm
theorem Jw2 (s:Sc9 H p) (h:H a=some o) (hn:∀x y z:Int,o≠ .lst [.int x,.int y,.int z]):a≠p:=by
 intro e;obtain ⟨x,y,z,q⟩:=s;rw [e,q] at h;exact hn x y z (yz.inj h).symm
inductive Soi (vs:List V) (H:Hp) (Q:VK) (z3:XK):Prop where
 |mk (p:S1) (m:Int) (_:vs= [.ref p,.int m]) (_:Sc9 H p) (_:0 < m) (_:m.natAbs.log2 < 9000) (_:∀(r:Int) (H':Hp),0<=r->r < m->But p H H'->Q (.int r) H')
inductive Yfb (vs:List V) (H:Hp) (Q:VK) (z3:XK):Prop where
 |mk (c:Int) (_:vs= [.int c]) (_:∀(p:S1) (H':Hp),H p=none->Si H H'->Sc9 H' p->Q (.ref p) H')
inductive Snx (K:Sd) (vs:List V) (H:Hp) (Q:VK) (z3:XK):Prop where
 |mk (a:S1) (ns:List Int) (k:Nat) (_:vs= [.ref a,.int k]) (_:Ss K H a (ns.map V.int)) (_:∀n:Int,Q (.int n) H)
theorem Jsx {i:Int} {j:Nat} (hi:i=j) (h:xs[j]?=some v):atI xs i=some v:=by rw [hi];exact Jsb h
theorem Jvx {ns:List Int} {k:Nat} (h):atI (ns.map V.int) (k)=some (.int ns[k]):=Jsb (by rw [yi,yh h];rfl)
theorem Jtp (hr:Sas k A):A.units+64 < cLine:=hr.units
end L2
namespace L2
open PySem PySem.Spec PyProof.Rows Builtin Builtin.ObjectAttr
noncomputable abbrev VEm:List S2:=[.type "ValueError",.type "Exception",.type "BaseException",.type "object"]
noncomputable def xcB (K:Sd) (C fI:S1):Bool:=
 Sf K (.ref C) "__getattribute__" ==some (some (.builtin "BaseException.__getattribute__"))&&Sf K (.ref C) "__getattr__" ==some none&&Sf K (.ref C) "__setattr__" ==some (some (.builtin "object.__setattr__"))&&
 Sf K (.ref C) "__init__" ==some (some (.ref fI))&&PySem.W.typeIn K (.ref fI)==some (.type "function")&&PySem.W.keepIn K (.ref C)&&PySem.W.hasDictIn K C&&Sg K C (.type "BaseException")==some true&&Sg K C (.type "object")==some true&&
 Sf K (.ref C) "__class__" ==some (some (.builtin "object.__class__"))&&PySem.W.specialIn K (.builtin "object.__class__") "__get__" ==some (some (.builtin "getset_descriptor.__get__"))&&PySem.W.takesIn K (.builtin "object.__class__")==some true
structure Sag (K:Sd) (C W fI:S1):Prop where
 obj:∃(nm q:Str) (N:S1) (bs:List S2) (sn:List Str) (sub:List S2) (ab:Bool) (col:Option Bool) (dd:Option S1) (k0 k1 k2 k3 k5:Option S2),
  K.lookup C=some (excClassObj nm q C N bs (.ref W::VEm) true sn sub ab col dd k0 k1 k2 k3 k5 "ValueError.__new__")
 tl:PySem.W.tailIn K VEm (.ref W::VEm)=true
 all:xcB K C fI=true
theorem Jot {K} (h:xcB K C fI=true):
  (Sf K (.ref C) "__getattribute__" =some (some (.builtin "BaseException.__getattribute__"))/\Sf K (.ref C) "__getattr__" =some none/\Sf K (.ref C) "__setattr__" =some (some (.builtin "object.__setattr__")))/\
  (Sf K (.ref C) "__init__" =some (some (.ref fI))/\PySem.W.typeIn K (.ref fI)=some (.type "function")/\PySem.W.keepIn K (.ref C)=true/\PySem.W.hasDictIn K C=true)/\Sg K C (.type "BaseException")=some true/\Sg K C (.type "object")=some true/\
  Sf K (.ref C) "__class__" =some (some (.builtin "object.__class__"))/\PySem.W.specialIn K (.builtin "object.__class__") "__get__" =some (some (.builtin "getset_descriptor.__get__"))/\PySem.W.takesIn K (.builtin "object.__class__")=some true:=by
 unfold xcB at h;simp only [yap,beq_iff_eq] at h;obtain ⟨⟨⟨⟨⟨⟨⟨⟨⟨⟨⟨a,b⟩,c⟩,d⟩,e⟩,f⟩,g⟩,i⟩,j⟩,k⟩,l⟩,m⟩:=h;exact ⟨⟨a,b,c⟩,⟨d,e,f,g⟩,i,j,k,l,m⟩
section
variable {K:Sd} {C W fI:S1} (c:Sag K C W fI)
include c
theorem Sag.ga:Sf K (.ref C) "__getattribute__" =some (some (.builtin "BaseException.__getattribute__")):=(Jot c.all).1.1
theorem Sag.gh:Sf K (.ref C) "__getattr__" =some none:=(Jot c.all).1.2.1
theorem Sag.sa:Sf K (.ref C) "__setattr__" =some (some (.builtin "object.__setattr__")):=(Jot c.all).1.2.2
theorem Sag.ini:Sf K (.ref C) "__init__" =some (some (.ref fI)):=(Jot c.all).2.1.1
theorem Sag.fn:PySem.W.typeIn K (.ref fI)=some (.type "function"):=(Jot c.all).2.1.2.1
theorem Sag.kp:PySem.W.keepIn K (.ref C)=true:=(Jot c.all).2.1.2.2.1
theorem Sag.hd:PySem.W.hasDictIn K C=true:=(Jot c.all).2.1.2.2.2
theorem Sag.mb:Sg K C (.type "BaseException")=some true:=(Jot c.all).2.2.1
theorem Sag.mo:Sg K C (.type "object")=some true:=(Jot c.all).2.2.2.1
theorem Sag.cl:Sf K (.ref C) "__class__" =some (some (.builtin "object.__class__")):=(Jot c.all).2.2.2.2.1
theorem Sag.cg:PySem.W.specialIn K (.builtin "object.__class__") "__get__" =some (some (.builtin "getset_descriptor.__get__")):=(Jot c.all).2.2.2.2.2.1
theorem Sag.ct:PySem.W.takesIn K (.builtin "object.__class__")=some true:=(Jot c.all).2.2.2.2.2.2
end
theorem Yd8 (self) (C W):refuseLoop self "__setattr__" (.ref C:: .ref W::VEm)=pure ():=by
 rw [refuseLoop_ref,refuseLoop_ref];exact PySem.F.store_ValueError.passes self
theorem Sag.mro {K} (c:Sag K C W fI):∃cd,PySem.W.clsIn K C=some cd/\cd.mro= .ref C:: .ref W::VEm/\cd.hasDict=true:=by
 obtain ⟨nm,q,N,bs,sn,sub,ab,col,dd,k0,k1,k2,k3,k5,l⟩:=c.obj;unfold PySem.W.clsIn;rw [l];exact ⟨_,rfl,rfl,rfl⟩
section
variable {prog:S7} {w:S9} {A:Sa} {E:S2->S3->Prop} {s:S3} {K:Sd} {x C W fI:S1} {ox:Obj} {od:Option Obj} {name:Str}
theorem Yht:builtinKind "BaseException.__getattribute__" =some .slot:=by decide +kernel
theorem Yfr:splitId "BaseException.__getattribute__" =some ("BaseException","__getattribute__"):=by decide +kernel
theorem Yc4 {tk} {R} (c:Sag K C W fI) (X:K.In s.heap) (I:PySem.W.InstAt s.heap x ox C od) (hf:PySem.W.findObj K C od name=some r)
  (h:Sc (model prog w) A.in1 (match r with| .value v=>ret v| .bind g b=>bindTo g b (.ref x) (.ref C)| .missing=>unsupported "none")
   (λfin s'=>match fin with| .done f=>R (.ok f) s'| .again c'=>c'.quiet=true/\codeAny (model prog w) A c' R s') (λe s'=>R (.error e) s') s) (hr:r≠ .missing):
  codeAny (model prog w) A (.call (.builtin "BaseException.__getattribute__") ⟨[.ref x,.str name tk],[]⟩) R s:=by
 have T0:=I.type (M:=model prog w);have T4:PySem.W.Looks (model prog w) s.heap (isInstance (.ref x) (.type "BaseException")) true:=T0.andThen (PySem.W.looks_mroIn X c.mb);have ck:=λ{Q' E' A'} q=>
  @PySem.W.check_slot (model prog w) A' E' s "BaseException.__getattribute__" "BaseException" "__getattribute__" (.ref x) [.str name tk] [] Q' Yht Yfr T4 (F.args_bexc_ga (.ref x) (.str name tk)) q
 refine codeAny_call_builtin F.excAttr_ValueError.ga.plain F.entry_bexc_ga (ck (S4 (S5 (S4 (S5 (S4 (T0.here (S4 ((PySem.W.looks_find X I hf).here ?_)))))))));cases r with
 |missing=>exact absurd rfl hr
 |value v=>exact h
 |bind gg b=>exact h
theorem Sp5 {Q} (c:Sag K C W fI) (X:K.In s.heap) (I:PySem.W.InstAt s.heap x ox C od) (hf:PySem.W.findObj K C od name=some (.value v)) (hh:PySem.W.handedIn v=true)
  (q:Q v {s with toks:=s.toks+1}):Sc (model prog w) A (getAttr (.ref x) name expr) Q E s:=by
 obtain ⟨hp,g,d,t,os⟩:=s;refine S4 (wpAny_mkText (wpAny_holding (S4 ((I.type).at (S4 ((PySem.W.looks_findIn X c.ga).at (S4 ((PySem.W.looks_findIn X c.gh).at ?_))))))));have e0:callGetattribute (.ref x) (.str name t) (.builtin "BaseException.__getattribute__") expr=boundAndCalled (.builtin "BaseException.__getattribute__") (.ref x) (.str name t):=by cases expr <;> rfl
 rw [e0];unfold boundAndCalled;rw [F.excAttr_ValueError.ga.bind];refine S4 (wpAny_attempt (wpAny_holding (S4 (S5 (wpAny_call (Yc4 c X I hf (S5 ?_) (λz=>nomatch z)))))));show Sc _ _ (handedOut v) _ _ _;rw [PySem.W.handedOut_of hh];exact S5 q
end
section
variable {prog:S7} {w:S9} {A:Sa} {E:S2->S3->Prop} {s:S3} {K:Sd} {x C W fI:S1} {ox:Obj} {od:Option Obj} {name:Str} {v:S2}
theorem Sp6 (c:Sag K C W fI) (X:K.In s.heap) (I:PySem.W.InstAt s.heap x ox C od) (hn:Sf K (.ref C) name=some none)
  (h:Sc (model prog w) A.in1 (storeInOwnDict (.ref x) (.ref C) (.str name tk) name v false)
   (λfin s'=>match fin with| .done f=>R (.ok f) s'| .again c'=>c'.quiet=true/\codeAny (model prog w) A c' R s') (λe s'=>R (.error e) s') s):
  codeAny (model prog w) A (.call (.builtin "object.__setattr__") ⟨[.ref x,.str name tk,v],[]⟩) R s:=by
 have SF:=PySem.F.store_object;obtain ⟨cd,hc,hm,_⟩:=c.mro;have T0:=I.type (M:=model prog w);have sub:PySem.W.Looks (model prog w) s.heap (isInstance (.ref x) (.type "object")) true:=T0.andThen (PySem.W.looks_mroIn X c.mo);have hmr:PySem.W.Looks (model prog w) s.heap (mroOf (.ref C)) cd.mro:=(PySem.W.looks_clsIn X hc).andThen .now;refine codeAny_call_builtin SF.slot.plain SF.entry (@PySem.W.check_slot (model prog w) _ _ s "object.__setattr__" "object" "__setattr__" (.ref x) [.str name tk,v] [] _ SF.kind SF.split sub (SF.args (.ref x) (.str name tk) v) ?_);rw [PySem.W.osa_eq,refuse_eq];refine S4 (S4 (T0.here (S4 (hmr.here ?_))));rw [hm,Yd8];exact S5 (S4 (T0.here (S4 ((PySem.W.looks_findIn X hn).here (S4 (S5 h))))))
theorem Ybf (c:Sag K C W fI) (X:K.In s.heap) (hx:s.heap.get? x=some ox) (hcl:ox.cls= .ref C) (hdi:ox.dict=none) (hd:ox.data= .fields vs) (hn:Sf K (.ref C) name=some none)
  (h:∀h',(∀b u,b≠x->s.heap.get? b=some u->h'.get? b=some u)->h'.get? x=some {ox with dict:=some s.heap.objs.size}->h'.Ns1 s.heap.objs.size (λy=>if y=name then some v else none)->Q () {s with heap:=h',toks:=s.toks+2}):
  Sc (model prog w) A (setAttr (.ref x) name v) Q E s:=by
 have I:PySem.W.InstAt s.heap x ox C none:=⟨hx,hcl,by unfold PySem.W.notCls;rw [hd],by rw [hdi];trivial⟩;obtain ⟨cd,hc,_,hdct⟩:=c.mro;refine PySem.W.set_plain X I c.sa (Sp6 c X I hn ?_);obtain ⟨oc,odi,oda,osl⟩:=ox;subst hcl hdi hd;refine S4 (S5 (S4 (S4 (wpAny_loadPart hx (S4 (PySem.W.Looks.here (PySem.W.looks_clsIn X hc) ?_))))));rw [hdct];have e1:(s.heap.push {cls:=.type "dict",data:=.dict #[]}).get? x=some ⟨.ref C,none,.fields vs,osl⟩:=ym _ hx;have nx:=ybw (yk hx);have n0:(s.heap.push {cls:=.type "dict",data:=.dict #[]}).Ns s.heap.objs.size (λ_=>none):=⟨_,#[],_,yt s.heap rfl,rfl,(λe he=>absurd he (by simp)),λ_=>rfl⟩;refine S4 (wpAny_alloc (S4 (wpAny_update e1 ?_)));have n1:((s.heap.push {cls:=.type "dict",data:=.dict #[]}).update x λo=>{o with dict:=some s.heap.objs.size}).Ns1 s.heap.objs.size (λ_=>none):=
  (Heap.Ns1.of_empty n0).at λo q=>by rw [ybr _ _ (yx nx)];exact q
 refine S5 (S4 (S5 (S4 (wpAny_nsSet1 n1 λh' n2 sb=>?_))));obtain ⟨oD,esD,epD,hoD,hdD,hcD⟩:=n2.count (PySem.Within.cons name v PySem.Within.nil);refine S4 (wpAny_lookBehind hoD (by rw [hdD];exact pastItsLine_dict (yae hcD (Nat.le_add_left 1 S6))) (S5 (h h' (λb u hb q=>?_) ((sb.2 _ (yx nx)).trans (yck (λo=>{o with dict:=some s.heap.objs.size}) e1 rfl)) n2)));rw [sb.2 b (yy (yk q)),ybr _ _ (yx hb)];exact ym _ q
end
noncomputable abbrev Skg (us:List S2):Obj:={cls:=.type "tuple",data:=.seq us.toArray}
noncomputable abbrev Skf (C:S1) (t:S1):Obj:={cls:=.ref C,data:=.fields #[.ref t,.none,.none,.none,.bool false,.none]}
section
variable {prog:S7} {w:S9} {A:Sa} {E:S2->S3->Prop} {K:Sd} {C W fI:S1} {us:List S2} {hp:Sb} {g:Array GenState} {d:Drawn} {t:Nat} {os:OsState}
theorem Yfs (c:Sag K C W fI) (X:K.In hp) (hz:us.length<=S6)
  (h:Sc (model prog w) A (call (.ref fI) (.ref (hp.objs.size+1)::us)) (λr s'=>r= .none/\Q (.done (.ret (.ref (hp.objs.size+1)))) s') E ⟨(hp.push (Skg us)).push (Skf C hp.objs.size),g,d,t,os⟩):
  Sc (model prog w) A (Builtin.«type.__call__» ⟨.ref C::us,[]⟩) Q E ⟨hp,g,d,t,os⟩:=by
 obtain ⟨nm,q,N,bs,sn,sub,ab,col,dd,k0,k1,k2,k3,k5,l⟩:=c.obj;have FV:=F.excBase_ValueError;have kC:=X _ _ l;have TL:=PySem.W.tail_of_in X c.tl;have up:∀b o,hp.get? b=some o->((hp.push (Skg us)).push (Skf C hp.objs.size)).get? b=some o:=λb o e=>ym _ (ym _ e);have X2:=X.keeps up;have kC2:=X2 _ _ l;have hcC:(Value.ref C:: .ref W::VEm).contains (.ref C)=true:=by simp
 repeat (first|with_reducible refine wpAny_loadPart_at kC ?_|with_reducible refine wpAny_madeBy_exc kC ?_|wp_step)
 refine codeAny_call_builtin_code (Code.quiet_builtin _ FV.quiet) (wpAny_check_new_subT FV TL kC (codeAny_exc_new_subT FV TL kC ?_ hz))
 repeat (first|with_reducible refine wpAny_loadPart_at gE ?_|(with_reducible refine wpAny_isSubtype_exc kC2 ?_;rw [hcC])|wp_step)
 refine (PySem.W.looks_findIn X2 c.ini).at (wpAny_holding (S4 ((PySem.W.bind_fn X2 _ c.fn).at (S4 (wpAny_mono h (λr s' hr=>?_) λ_ _ z=>z)))));obtain ⟨rfl,hQ⟩:=hr
 wp_walk
 exact hQ
theorem Yhu {s:S3} {Q} (c:Sag K C W fI) (X:K.In s.heap) (hz:us.length<=S6)
  (h:Sc (model prog w) (A.under (.builtin "type.__call__" ⟨.ref C::us,[]⟩)) (call (.ref fI) (.ref (s.heap.objs.size+1)::us)) (λr s'=>r= .none/\Q (.ref (s.heap.objs.size+1)) s') E {s with heap:=(s.heap.push (Skg us)).push (Skf C s.heap.objs.size)}):
  Sc (model prog w) A (call (.ref C) us) Q E s:=by
 obtain ⟨hp,g,d,t,os⟩:=s;obtain ⟨nm,q,N,bs,sn,sub,ab,col,dd,k0,k1,k2,k3,k5,l⟩:=c.obj;have kC:=X _ _ l;have v1:=tc_lookup;have v2:=tc_bind (.ref C);have hT:(⟨hp,g,d,t,os⟩:S3).TypeIs (.ref C) "type" :=⟨_,kC,rfl⟩;refine wpAny_call (codeAny_of_tree ?_)
 repeat (any_goals (first|assumption|with_reducible refine wpAny_loadPart_at kC ?_|wp_step))
 exact ⟨rfl,codeAny_call_builtin_at (Code.quiet_builtin _ (by decide +kernel)) entry_typeCall (wpAny_check_type_call_sub kC (Yfs c X hz h))⟩
end
end L2
namespace L2
open PySem PySem.Spec PyProof.Rows
noncomputable def XO (e C:S1) (dx:Option S1) (fr:Bool):HO:=.ext λh=>∃o vs,h.get? e=some o/\o.cls= .ref C/\o.dict=dx/\o.data= .fields vs/\(∃t,vs[0]?=some (.ref t))/\∃y,vs[1]?=some y/\(fr=true->y= .none)
noncomputable def XD (dx:S1) (fs:List (Str×V)):HO:=.ext λh=>∃mA,h.Ns1 dx mA/\(∀f,Scx (fs.lookup f) (mA f))/\PySem.Within mA (fs.map (·.1))/\fs.length<=1000
section
variable {P:S7} {w:S9} {H:Hp} {h:Sb} {e C dx:S1} {od:Option S1} {fr:Bool} {fs:List (Str×V)}
theorem Yft (he:h.get? e=some o) (h1:o.cls= .ref C) (h2:o.dict=od) (h3:o.data= .fields vs) (h4:∃t,vs[0]?=some (.ref t)) (h5:∃y,vs[1]?=some y/\(fr=true->y= .none)):Sah P w H h e (XO e C od fr):=
 ⟨⟨o,vs,he,h1,h2,h3,h4,h5⟩,⟨o,he⟩,λ_ _ ⟨o,vs,a,r⟩ k=>⟨o,vs,k o a,r⟩⟩
theorem Jxf (hok:HOk P w H h) (q:H e=some (XO e C od fr)):∃o vs,h.get? e=some o/\o.cls= .ref C/\o.dict=od/\o.data= .fields vs/\(∃t,vs[0]?=some (.ref t))/\∃y,vs[1]?=some y/\(fr=true->y= .none):=(hok e _ q).1
theorem Ssw (n:h.Ns1 dx mA) (r:∀f,Scx (fs.lookup f) (mA f)) (w':PySem.Within mA (fs.map (·.1))) (z:fs.length<=1000):Sah P w H h dx (XD dx fs):=
 ⟨⟨mA,n,r,w',z⟩,(let ⟨o,_,_,q,_⟩:=n;⟨o,q⟩),λ_ _ ⟨m,a,r⟩ k=>⟨m,a.at k,r⟩⟩
theorem Sp7 (hok:HOk P w H h) (q:H dx=some (XD dx fs)):∃mA,h.Ns1 dx mA/\(∀f,Scx (fs.lookup f) (mA f))/\PySem.Within mA (fs.map (·.1))/\fs.length<=1000:=(hok dx _ q).1
theorem Yc5 (hok:HOk P w H h) (q:H e=some (XO e C (some dx) fr)) (qd:H dx=some (XD dx fs)):∃(ox oD:Obj) (mA:Str->Option S2),PySem.W.InstAt h e ox C (some oD)/\(∀n,PySem.W.lookIn n oD=some (mA n))/\∀f,Scx (fs.lookup f) (mA f):=by
 obtain ⟨o,vs,he,hc,hd,hf,_⟩:=Jxf hok q;obtain ⟨mA,n1,r,_⟩:=Sp7 hok qd;obtain ⟨oD,hD,hl⟩:=Jye n1;exact ⟨o,oD,mA,⟨he,hc,by unfold PySem.W.notCls;rw [hf],by rw [hd];exact hD⟩,hl,r⟩
end
section
variable {X:Cx} {pins:List (S1×Obj)} {σ:St} {H:Hp} {s:S3} {e C W fI dx:S1} {fs:List (Str×V)} {fr:Bool} {f:Str} {v:V} {A:Sa} {E:S2->S3->Prop}
theorem Ya5 (I:Sm X pins σ H s) (q:H e=some (XO e C (some dx) fr)) (qd:H dx=some (XD dx fs)) (c:Sag X.K C W fI) (n:NoAttr X.K C f) (l:fs.lookup f=some v)
  (h:∀u s',Sm X pins σ H s'->Sz v u->Q u s'):Sc (model X.prog X.w) A (getAttr (.ref e) f b) Q E s:=by
 obtain ⟨ox,oD,mA,J,hl,r⟩:=Yc5 I.hok q qd;obtain ⟨u,hu,ru⟩:=Scx.some_of (by rw [<-l];exact r f);exact Sp5 c I.kIn J (PySem.W.findObj_own c.hd n rfl (by rw [hl,hu])) (Jyb ru) (h u _ (I.tok _) ru)
theorem Yfu (I:Sm X pins σ H s) (q:H e=some (XO e C none fr)) (c:Sag X.K C W fI) (n:NoAttr X.K C f) (ry:Sz y u)
  (h:∀dx s',H dx=none->dx≠e->Sm X pins σ (upd (upd H dx (XD dx [(f,y)])) e (XO e C (some dx) fr)) s'->Q () s'):Sc (model X.prog X.w) A (setAttr (.ref e) f u) Q E s:=by
 obtain ⟨o,vs,he,hc,hd,hf,h0,h1⟩:=Jxf I.hok q;have hn:=I.hok.fresh (yg _);refine Ybf c I.kIn he hc hd hf n λh' kp ke n1=>h s.heap.objs.size _ hn (ybw (yk he)) ?_;have qd:∀m:Hp,Sah X.prog X.w m h' s.heap.objs.size (XD s.heap.objs.size [(f,y)]):=λm=>Ssw n1 (λg=>by
  by_cases z:g=f
  ·have zb:=beq_iff_eq.mpr z;simp only [ybp,zb,if_pos z];exact ry
  ·have zb:=beq_eq_false_iff_ne.mpr z;simp only [ybp,zb,if_neg z];exact True.intro) (λg hg=>by
  by_cases z:g=f
  ·rw [z];simp
  ·exact absurd (if_neg z) hg) (by simp)
 have un1:Un X.fs [] H (upd (upd H s.heap.objs.size (XD s.heap.objs.size [(f,y)])) e (XO e C (some s.heap.objs.size) fr)) s.heap h':=by
  have nb:∀b ob,s.heap.get? b=some ob->b≠s.heap.objs.size:=λb ob z=>yy (yk z);have sm:∀b u',H b=some u'->u'≠XO e C none fr->upd (upd H s.heap.objs.size (XD s.heap.objs.size [(f,y)])) e (XO e C (some s.heap.objs.size) fr) b=some u':=λb u' z d=>by
   rw [Jnc (λw':b=e=>d (by rw [w',q] at z;exact (yz.inj z).symm)),Jnc (Jnd z hn)];exact z
  refine ⟨λb ob z n _ _=>kp b ob (λw'=>by rw [w',q] at n;cases n) z,λb ob z n _ _=>⟨ob.slots,kp b ob (λw'=>by rw [w',q] at n;cases n) z⟩,λb ob z n _=>?_,λb ob z _=>?_,λb xs z=>sm b _ z (λw'=>by cases w'),λb ob u' z=>sm b _ z (λw'=>by cases w'),λb ps z=>⟨#[],by rw [sm b _ z (λw'=>by cases w')];simp⟩⟩
  ·rw [Jnc (λw'=>by rw [w',q] at n;cases n),Jnc (nb b ob z)];exact n
  ·by_cases w':b=e
   ·exact ⟨_,by rw [w'];exact ke⟩
   ·exact ⟨ob,kp b ob w' z⟩
 refine I.un un1 λb ob z=>?_;by_cases w1:b=e
 ·subst w1;rw [Sn] at z;cases z;exact Yft ke hc rfl hf h0 h1
 ·rw [Jnc w1] at z;by_cases w2:b=s.heap.objs.size
  ·subst w2;rw [Sn] at z;cases z;exact qd _
  ·rw [Jnc w2] at z;have keep:∀c' u',H c'=some u'->u'≠XO e C none fr->upd (upd H s.heap.objs.size (XD s.heap.objs.size [(f,y)])) e (XO e C (some s.heap.objs.size) fr) c'=some u':=λc' u' zz d=>by
    rw [Jnc (λw':c'=e=>d (by rw [w',q] at zz;exact (yz.inj zz).symm)),Jnc (Jnd zz hn)];exact zz
   refine (I.hok b ob z).stay (λc' v' hc' zz=>kp c' v' ?_ zz) (λc' zz=>keep c' _ zz (λw'=>by cases w')) (λc' xs zz=>keep c' _ zz (λw'=>by cases w')) λc' xs zz=>keep c' _ zz (λw'=>by cases w');rcases hc' with rfl|hc'
   ·exact w1
   ·rintro rfl;rw [q] at hc';cases hc'
theorem Sm.xmade (I:Sm X pins σ H s):Sm X pins σ (upd H (s.heap.objs.size+1) (XO (s.heap.objs.size+1) C none true)) {s with heap:=(s.heap.push (Skg us)).push (Skf C s.heap.objs.size)}:=by
 refine (I.kept (t':=s.toks) λb u q=>ym _ q).laid (λb u q=>ym _ q) (Nat.le_of_eq (yat _ _)) ?_;exact Yft (Heap.get?_push_at (by simp only [yat]) rfl) rfl rfl rfl ⟨_,rfl⟩ ⟨_,rfl,λ_=>rfl⟩
end
inductive Yhk (K:Sd) (f:Str) (Q:VK) (x:V) (H1:Hp):Prop where
 |mk (e:_) (C:_) (W:_) (fI:_) (dx:_) (fs:_) (v:_) (fr:_) (_:x= .ref e) (_:H1 e=some (XO e C (some dx) fr)) (_:H1 dx=some (XD dx fs)) (_:Sag K C W fI) (_:NoAttr K C f) (_:fs.lookup f=some v) (_:Q v H1)
noncomputable def Sso (K:Sd) (ta:TE) (f:Str):TE:=λσ H Q=>ta σ H (Yhk K f Q)
noncomputable def Ss4 (K:Sd) (ta tv:TE) (f:Str):TS:=λD σ H=>tv σ H λy H1=>ta σ H1 λx H2=>∃e C W fI fr,x= .ref e/\H2 e=some (XO e C none fr)/\Sag K C W fI/\NoAttr K C f/\∀dx,H2 dx=none->dx≠e->
 D.nx σ (upd (upd H2 dx (XD dx [(f,y)])) e (XO e C (some dx) fr))
noncomputable def Ssm (C:S1) (sp:Sp) (t:TA):TE:=λσ H Q=>t σ H λvs H1=>vs.length<=1000/\∀e,H1 e=none->sp (.ref e::vs) (upd H1 e (XO e C none true)) (λv H2=>v= .non/\Q (.ref e) H2) E0
section
variable {X:Cx} {o e value:Expr} {f:Str} {pos pos' tpos p:Pos} {ta tv:TE} {C W fI:S1} {fd:S8} {ps:List Str} {sp:Sp} {k j:Nat} {x:Str} {es:List Expr} {t:TA}
theorem Ybw (he:PE X e ta) (hb:attributeBase e f X.env (eval e X.env)=eval e X.env):PE X (.Attribute e f pos) (Sso X.K ta f):=by
 intro pins s σ H Q I h;refine Ybh hb (thn (he pins s σ H _ I h) λu s1 zq=>?_);obtain ⟨x,H1,I1,rx,a,C,W,fI,dx,fs,v,fr,ex,q,qd,c,n,l,k⟩:=zq;subst ex;obtain rfl:u=Value.ref a:=rx;exact Ya5 I1 q qd c n l λu' s2 I2 ru=>⟨v,H1,I2,ru,k⟩
theorem Jq3 (ha:PE X o ta) (hv:PE X value tv) (hs:swapsWith value (some (.Attribute o f pos')) pos.line X.env=pure false):PS X (.Assign [.Attribute o f pos'] value pos) (Ss4 X.K ta tv f):=by
 intro pins s σ H D I h;refine plainObj_wpAny_Assign_Attribute (thn (hv pins s σ H _ I h) λu s1 ⟨y,H1,I1,ry,q⟩=>thn (ha pins s1 σ H1 _ I1 q) λov s2 zq=>?_) hs;obtain ⟨x,H2,I2,rx,a,C,W,fI,fr,ex,ea,c,n,q2⟩:=zq;subst ex;obtain rfl:ov=Value.ref a:=rx;exact Yfu I2 ea c n ry λdx s3 h1 h2 I3=>⟨σ,_,I3,q2 dx h1 h2⟩
theorem Ygu {σ:St} {H} {s} {Q} {us} {vs} (c:Sag X.K C W fI) (G:So X.prog X.w X.K X.mg X.base CX0 k fI fd ps sp) (hr:Sas (k+1) X.A) (hb:Sbf X.K fd ps []) (I:Sm X pins σ H s) (r:Sx vs us) (hz:vs.length<=1000)
  (h:∀e,H e=none->sp (.ref e::vs) (upd H e (XO e C none true)) (λv H2=>v= .non/\Q (.ref e) H2) E0):Sc (model X.prog X.w) X.A (call (.ref C) us) (EP X pins σ Q) X.xe s:=by
 have hq:=h (s.heap.objs.size+1) (I.hok.fresh (Nat.le_succ _));have I2:=Sm.xmade (C:=C) (us:=us) I;have r2:Sx (V.ref (s.heap.objs.size+1)::vs) (Value.ref (s.heap.objs.size+1)::us):=.cons rfl r;have hl:(Value.ref (s.heap.objs.size+1)::us++ []).length=ps.length:=by
  rw [ybb,<-r2.length,G.len _ _ _ _ hq]
 refine Yhu c I.kIn (by rw [<-r.length];exact yae hz (by decide)) (wpAny_call (codeAny_mono (G.run _ X.stack _ _ ⟨Value.ref (s.heap.objs.size+1)::us,[]⟩ (Value.ref (s.heap.objs.size+1)::us) _ _ E0 (hr.make C us [])
  (I2.env0.make C us []) (by have:=hb _ (Value.ref (s.heap.objs.size+1)::us) I2.kIn hl;rw [ybb] at this;exact this) r2 hq) λr s' hq'=>?_))
 cases r with
 |error e=>exact False.elim hq'
 |ok fl=>
  cases fl with
  |ret u=>
   obtain ⟨v,H',I3,rv,ev,q3⟩:=I2.after hq';subst ev;exact ⟨rv,⟨V.ref (s.heap.objs.size+1),H',I3,rfl,q3⟩⟩
  |next=>exact False.elim hq'
  |brk=>exact False.elim hq'
  |cont=>exact False.elim hq'
theorem Jp2 (c:Sag X.K C W fI) (G:So X.prog X.w X.K X.mg X.base CX0 k fI fd ps sp) (hr:Sas j X.A) (hk:k+1<=j) (hb:Sbf X.K fd ps []) (hm:X.mg x=some (.ref C)) (ha:PA X (e::es) t) (hg:Gl X x:=by rfl)
  (hdb:(x==("__debug__" :Str))=false:=by decide) (he:starEach (e::es) X.env=(false,eval e X.env)::starEach es X.env:=by rfl) (hpl:(backTo pos (starEach es X.env)).any (·.1)=false:=by rfl):
  PE X (.Call (.Name x p) (e::es) [] pos) (Ssm C sp t):=by
 intro pins s σ H Q I h;exact wpAny_Call_Name_kw (Jse I hg hm (PySem.W.callWith_K I.ok.mod.kin c.kp (thn (ha pos pins s σ H _ I h) λus s1 ⟨vs,H1,I1,r,z,q⟩=>⟨I1.kIn,Ygu c G (hr.mono hk) hb I1 r z q⟩) he hpl) hdb)
end
section
variable {K:Sd} {C W fI:S1} {x:S1}
theorem Sy7 (c:Sag K C W fI):PySem.W.KitX K (.ref x) (.ref C) (λh=>∃ox od,PySem.W.InstAt h x ox C (some od)) where
 ty:=λ_ _ _ ⟨_,_,I⟩=>I.type
 it:=λ_ _ X _=>by
  obtain ⟨nm,q,N,bs,sn,sub,ab,col,dd,k0,k1,k2,k3,k5,l⟩:=c.obj;intro A' Q' E' s' k q;exact S4 (wpAny_loadPart (k _ _ (X _ _ l)) (S5 q))
 ne:=λh tp dd its n sl X htp=>by
  obtain ⟨nm,q,N,bs,sn,sub,ab,col,dd,k0,k1,k2,k3,k5,l⟩:=c.obj;refine Bool.eq_false_iff.mpr λz=>?_;have e:=Value.ref.inj (beq_iff_eq.mp z);subst e;have z:=congrArg (Option.map (·.cls)) ((X _ _ l).symm.trans htp);simp at z
 ca:=λ{prog w A E Q s} X ⟨ox,od,I⟩ kq=>by
  have hf:PySem.W.findObj K C (some od) "__class__" =some (.bind (.builtin "getset_descriptor.__get__") (.builtin "object.__class__")):=PySem.W.findObj_data (by obtain ⟨cd,hc,_⟩:=c.mro;rw [hc];rfl) c.cl c.cg c.ct;obtain ⟨hp,g,d,t,os⟩:=s;refine S4 (wpAny_mkText (S4 (wpAny_attempt (wpAny_holding (S4 ((I.type).at (S4 ((PySem.W.looks_findIn X c.ga).at (S4 ((PySem.W.looks_findIn X c.gh).at ?_))))))))));show Sc _ _ ((holding _ (boundAndCalled (.builtin "BaseException.__getattribute__") (.ref x) (.str "__class__" t))).attempt >>=_) _ _ _;unfold boundAndCalled;rw [F.excAttr_ValueError.ga.bind];exact S4 (wpAny_attempt (wpAny_holding (S4 (S5 (wpAny_call (Yc4 c X I hf (S4 (wpAny_holding (wpAny_call (PySem.W.class_get X I c.mo (S5 (S5 (S5 kq))))))) (λz=>nomatch z)))))))
end
section
variable {M:Model} {A:Sa} {E:S2->S3->Prop} {s:S3} {env:Env} {outer:List Env} {base:Sb} {L e T:S1} {oe oT:Obj} {vs ts:Array S2} {Q:Unit->S3->Prop}
theorem Jyj {hadNext} (hfr:A.frames=some (env::outer)) (hl:s.heap.FunFrames base (env::outer)) (hf:env.frame=some L) (he:s.heap.get? e=some oe) (hd:oe.data= .fields vs) (hz:1 < vs.size)
  (hQ:∀h' T,(∀b o,s.heap.get? b=some o->b∉frs (env::outer)->b≠e->h'.get? b=some o)->(∀b o,s.heap.get? b=some o->b≠e->∃sl,h'.get? b=some {o with slots:=sl})->s.heap.objs.size<=T->
   h'.get? e=some (oe.mapFields (·.setIfInBounds 1 (.ref T)))->(∃oT ts,h'.get? T=some oT/\oT.data= .fields ts/\ts[3]?=some (rawInt L))->Q () {s with heap:=h'}):
  Sc M A (do let a<-frameOf env;let pl<-entryPlaceOf L hadNext;let b<-EntryCells.newEntry head a .none (rawInt L) .none pl;setField (.ref e) 1 b) Q E s:=by
 have hen:e∉frs (env::outer):=λz=>by
  obtain ⟨_,o,ho,nf⟩:=hl.mem z;rw [he] at ho;cases ho;exact nf vs hd
 refine S4 (wpAny_frameOf_fun hfr hl hf λh1 sl1=>S4 (wpAny_entryPlaceOf λpl hpl=>?_));unfold EntryCells.newEntry newFields;have he1:=(sl1.2.1 e hen).trans he;refine S4 (wpAny_newObj_type (wpAny_setField (ym _ he1) hd hz (hQ _ h1.objs.size (λb o hb hn ne=>?_) (λb o hb ne=>?_) (Nat.le_of_eq sl1.1.symm) (yck _ (ym _ he1) (Obj.isFreed_of_fields (Obj.data_mapFields hd _))) ?_)) (hpl.sizeOk5 _ _ _ _ _))
 ·rw [ybr _ _ (yx ne)];exact ym _ ((sl1.2.1 b hn).trans hb)
 ·obtain ⟨sl,q⟩:=sl1.2.2 b o hb;exact ⟨sl,by rw [ybr _ _ (yx ne)];exact ym _ q⟩
 ·refine ⟨_,_,(ybr _ _ (yx (ybw (yk he1)))).trans (yt h1 rfl),rfl,?_⟩
  first|(simp;done)|(rcases hpl with rfl|⟨_,_,_,_,_,_,_,rfl⟩ <;> simp)
theorem Yas (hfr:A.frames=some (env::outer)) (hl:s.heap.FunFrames base (env::outer)) (hf:env.frame=some L) (he:s.heap.get? e=some oe) (hd:oe.data= .fields vs) (h1:vs[1]?=some .none)
  (hQ:∀h' T,(∀b o,s.heap.get? b=some o->b∉frs (env::outer)->b≠e->h'.get? b=some o)->(∀b o,s.heap.get? b=some o->b≠e->∃sl,h'.get? b=some {o with slots:=sl})->s.heap.objs.size<=T->
   h'.get? e=some (oe.mapFields (·.setIfInBounds 1 (.ref T)))->(∃oT ts,h'.get? T=some oT/\oT.data= .fields ts/\ts[3]?=some (rawInt L))->Q () {s with heap:=h'}):
  Sc M A (noteFrame (.ref e) env) Q E s:=by
 unfold noteFrame;simp only [hf];exact S4 (wpAny_field he hd h1 (Jyj hfr hl hf he hd (yci.mp h1).1 hQ))
theorem Yco (hfr:A.frames=some (env::outer)) (hl:s.heap.FunFrames base (env::outer)) (hf:env.frame=some L) (he:s.heap.get? e=some oe) (hd:oe.data= .fields vs) (h1:vs[1]?=some (.ref T))
  (hT:s.heap.get? T=some oT) (hdT:oT.data= .fields ts) (h3:ts[3]?=some .none) (ne:T≠e)
  (hQ:∀h' T',(∀b o,s.heap.get? b=some o->b∉frs (env::outer)->b≠e->b≠T->h'.get? b=some o)->(∀b o,s.heap.get? b=some o->b≠e->b≠T->∃sl,h'.get? b=some {o with slots:=sl})->s.heap.objs.size<=T'->
   h'.get? e=some (oe.mapFields (·.setIfInBounds 1 (.ref T')))->(∃oT ts,h'.get? T'=some oT/\oT.data= .fields ts/\ts[3]?=some (rawInt L))->Q () {s with heap:=h'}):
  Sc M A (noteFrame (.ref e) env) Q E s:=by
 unfold noteFrame;simp only [hf];refine S4 (wpAny_field he hd h1 (S4 (wpAny_field hT hdT h3 ?_)));have ot:∀b,b≠T->(s.heap.update T (Obj.mapFields (·.setIfInBounds 3 Value.none))).get? b=s.heap.get? b:=λb hb=>ybr _ _ (yx hb);have nr:∀b o,s.heap.get? b=some o->(∀ws,o.data≠ .fields ws)->b≠T:=λb o hb nf z=>by
  rw [z,hT] at hb;cases hb;exact nf ts hdT
 refine S4 (wpAny_setField hT hdT (yci.mp h3).1 ?_);refine Jyj hfr (hl.of_keeps λb o hb nf=>⟨o,(ot b (nr b o hb nf)).trans hb,rfl⟩) hf ((ot e (yx ne)).trans he) hd (yci.mp h1).1 λh' T' k1 k2 k3 k4 k5=>?_;refine hQ h' T' (λb o hb hn h1 h2=>k1 b o ((ot b h2).trans hb) hn h1) (λb o hb h1 h2=>k2 b o ((ot b h2).trans hb) h1) ?_ k4 k5;have z:(s.heap.update T (Obj.mapFields (·.setIfInBounds 3 Value.none))).objs.size=s.heap.objs.size:=Heap.size_after_update ..;rw [<-z];exact k3
end
noncomputable def Flt (X:Cx) (pins:List (S1×Obj)) (H:Hp) (h:Sb) (e:S1) (fl:S2):Prop:=
 ∃oe vs T oT ts,h.get? e=some oe/\oe.data= .fields vs/\vs[1]?=some (.ref T)/\H T=none/\h.get? T=some oT/\oT.data= .fields ts/\ts[3]?=some fl/\X.s₀.heap.objs.size<=T/\∀p∈X.pn++pins,p.1≠T
noncomputable def Ybg (X:Cx):Prop:=X.stack=X.env::X.outer/\X.env.frame=some X.env.locals
section
variable {X:Cx} {pins:List (S1×Obj)} {σ:St} {H:Hp} {s:S3} {e C:S1} {od:Option S1} {fr fr':Bool} {A:Sa} {M:Model} {E:S2->S3->Prop} {Q:Unit->S3->Prop} {fl:S2} {h':Sb}
theorem Sm.freeOf (I:Sm X pins σ H s) (hb:s.heap.get? b=some o) (hd:o.data= .fields ts):b≠X.env.locals/\∀x c,X.env.cells.lookup x=some c->c≠b:=by
 refine ⟨λz=>?_,λx c e z=>?_⟩
 ·obtain ⟨m,⟨o',es,ep,ho',hd',_⟩,_⟩:=I.loc;rw [z,ho'] at hb;cases hb;rw [hd'] at hd;cases hd
 ·obtain ⟨v,o',ho',hd'⟩:=I.cell x c e;rw [z,hb] at ho';cases ho';rw [hd] at hd';cases hd'
theorem Sm.fly {ch:List S1} (I:Sm X pins σ H s) (q:H e=some (XO e C od fr)) (hch:∀b∈ch,X.s₀.heap.objs.size<=b/\H b=none/\(∃o ts,s.heap.get? b=some o/\o.data= .fields ts)/\∀p∈X.pn++pins,p.1≠b)
  (k:∀b o,s.heap.get? b=some o->b∉frs X.stack->b≠e->b∉ch->h'.get? b=some o) (ks:∀b o,s.heap.get? b=some o->b≠e->b∉ch->∃sl,h'.get? b=some {o with slots:=sl})
  (new:Sah X.prog X.w (upd H e (XO e C od fr')) h' e (XO e C od fr')):Sm X pins σ (upd H e (XO e C od fr')) {s with heap:=h'}:=by
 have ne:∀b u,H b=some u->u≠XO e C od fr->b≠e:=λb u z d w'=>d (by rw [w',q] at z;exact (yz.inj z).symm);have nn:∀b,H b=none->b≠e:=λb z w'=>by rw [w',q] at z;cases z
 have u:Un (frs X.stack) ch H (upd H e (XO e C od fr')) s.heap h':=by
  refine ⟨λb o hb n hs hc=>k b o hb hs (nn b n) hc,λb o hb n _ hc=>ks b o hb (nn b n) hc,λb o _ n _=>by rw [Jnc (nn b n)];exact n,λb o hb hc=>?_,λb xs z=>?_,λb o u z=>?_,λb ps z=>⟨#[],?_⟩⟩
  ·by_cases w':b=e
   ·rw [w'];exact new.2.1
   ·obtain ⟨sl,z⟩:=ks b o hb w' hc;exact ⟨_,z⟩
  ·rw [Jnc (ne b _ z (λw'=>by cases w'))];exact z
  ·rw [Jnc (ne b _ z (λw'=>by cases w'))];exact z
  ·rw [Jnc (ne b _ z (λw'=>by cases w')),z];simp
 refine I.call u (λb o z=>?_) I.bare λb hb=>?_
 ·by_cases w':b=e
  ·subst w';rw [Sn] at z;cases z;exact new
  ·rw [Jnc w'] at z;refine (I.hok b o z).stay (λc v hc zz=>k c v zz ?_ ?_ ?_) (λc zz=>by rw [Jnc (ne c _ zz (λw'=>by cases w'))];exact zz) (λc xs zz=>by rw [Jnc (ne c _ zz (λw'=>by cases w'))];exact zz) λc xs zz=>by rw [Jnc (ne c _ zz (λw'=>by cases w'))];exact zz
   ·intro hs;have:=I.stkFree c hs;rcases hc with rfl|hc
    ·rw [this] at z;cases z
    ·rw [this] at hc;cases hc
   ·rcases hc with rfl|hc
    ·exact w'
    ·exact ne c _ hc (λw'=>by cases w')
   ·intro hb;have:=(hch c hb).2.1;rcases hc with rfl|hc
    ·rw [this] at z;cases z
    ·rw [this] at hc;cases hc
 ·obtain ⟨h1,_,⟨o,ts,ho,hd⟩,h4⟩:=hch b hb;exact ⟨.inr h1,(I.freeOf ho hd).1,(I.freeOf ho hd).2,h4⟩
theorem Ybv (I:Sm X pins σ H s) (hs:Ybg X) (hA:A.frames=some X.stack) (q:H e=some (XO e C od fr)) (hfl:fr=true\/Flt X pins H s.heap e .none)
  (h:∀s',Sm X pins σ (upd H e (XO e C od false)) s'->Flt X pins (upd H e (XO e C od false)) s'.heap e (rawInt X.env.locals)->Q () s'):Sc M A (noteFrame (.ref e) X.env) Q E s:=by
 obtain ⟨o,vs,he,hc,hd,hf,⟨t0,h0⟩,y,h1,hy⟩:=Jxf I.hok q;have hA':A.frames=some (X.env::X.outer):=by rw [hA,hs.1]
 have FF:s.heap.FunFrames X.base (X.env::X.outer):=by rw [<-hs.1];exact I.stack
 have sub:∀b,b∉frs X.stack->b∉frs (X.env::X.outer):=λb z w'=>z (by rw [hs.1];exact w');have new:∀{h':Sb} {T:S1},h'.get? e=some (o.mapFields (·.setIfInBounds 1 (.ref T)))->Sah X.prog X.w (upd H e (XO e C od false)) h' e (XO e C od false):=λ{h' T} z=>by
  refine Yft z ((Obj.cls_mapFields _ _).trans hc) ?_ (Obj.data_mapFields hf _) ⟨t0,by rw [Array.getElem?_setIfInBounds_ne (by decide)];exact h0⟩ ⟨.ref T,by simp [((yci.mp h1).1)],λz=>nomatch z⟩;obtain ⟨_,_,dt,_⟩:=o;cases dt <;> first|exact hd|cases hf
 have fin:∀{h':Sb} {T:S1},Sm X pins σ (upd H e (XO e C od false)) {s with heap:=h'}->s.heap.objs.size<=T->h'.get? e=some (o.mapFields (·.setIfInBounds 1 (.ref T)))->(∃oT ts,h'.get? T=some oT/\oT.data= .fields ts/\ts[3]?=some (rawInt X.env.locals))->Q () {s with heap:=h'}:=λ{h' T} J k3 k4 ⟨oT,ts,k5,k6,k7⟩=>by
  refine h _ J ⟨_,_,T,oT,ts,k4,Obj.data_mapFields hf _,by simp [((yci.mp h1).1)],?_,k5,k6,k7,yae I.sz k3,λp hp z=>?_⟩
  ·rw [Jnc (λz=>absurd (yk he) (by rw [<-z];exact ybm.mpr k3))];exact I.hok.fresh k3
  ·obtain ⟨z1,_⟩:=I.pin p hp;exact absurd (yk z1) (by rw [z];exact ybm.mpr k3)
 by_cases hfr:y= .none
 ·subst hfr;refine Yas hA' FF hs.2 he hf h1 λh' T k1 k2 k3 k4 k5=>fin (I.fly (ch:=[]) q (λb z=>absurd z (by simp)) (λb o hb hn ne _=>k1 b o hb (sub b hn) ne) (λb o hb ne _=>k2 b o hb ne) (new k4)) k3 k4 k5
 ·rcases hfl with z|⟨oe,ws,T,oT,ts,z1,z2,z3,z4,z5,z6,z7,z8,z9⟩
  ·exact absurd (hy z) hfr
  ·rw [he] at z1;cases z1;rw [hf] at z2;cases z2;have ne:T≠e:=λw'=>by rw [w',q] at z4;cases z4
   refine Yco hA' FF hs.2 he hf z3 z5 z6 z7 ne λh' T' k1 k2 k3 k4 k5=>fin (I.fly (ch:=[T]) q (λb hb=>?_) (λb o hb hn ne hc=>k1 b o hb (sub b hn) ne (by simpa using hc)) (λb o hb ne hc=>k2 b o hb ne (by simpa using hc)) (new k4)) k3 k4 k5;obtain rfl:b=T:=by simpa using hb
   exact ⟨z8,z4,⟨oT,ts,z5,z6⟩,z9⟩
theorem Jul (I:Sm X pins σ H s) (q:H e=some (XO e C od fr)) (hfl:Flt X pins H s.heap e fl) (h:∀s',Sm X pins σ H s'->Flt X pins H s'.heap e .none->Q () s'):Sc M A (setFlight (.ref e) none) Q E s:=by
 obtain ⟨oe,vs,T,oT,ts,z1,z2,z3,z4,z5,z6,z7,z8,z9⟩:=hfl;have hz:=(yci.mp z7).1;have ne:T≠e:=λw'=>by rw [w',q] at z4;cases z4
 have ot:∀b,b≠T->(s.heap.update T (Obj.mapFields (·.setIfInBounds 3 Value.none))).get? b=s.heap.get? b:=λb hb=>ybr _ _ (yx hb);exact wpAny_setFlight_none z1 z2 z3 z5 z6 hz (h _ (I.turned (λb o hb z=>(ot b hb).trans z) z4 (I.freeOf z5 z6).1 (.inr z8) (I.freeOf z5 z6).2 z9) ⟨oe,vs,T,_,_,(ot e (yx ne)).trans z1,z2,z3,z4,yck _ z5 (Obj.isFreed_of_fields (Obj.data_mapFields z6 _)),Obj.data_mapFields z6 _,by simp [hz],z8,z9⟩)
end
noncomputable def CXX (P:S7) (w:S9):CXT:=λouter H s E ev s'=>∃e C dx H',ev= .ref e/\s'.os=s.os/\AllBare s'.gens/\Un (frs outer) [] H H' s.heap s'.heap/\HOk P w H' s'.heap/\H' e=some (XO e C (some dx) false)/\
 (∃oe vs T oT ts,s'.heap.get? e=some oe/\oe.data= .fields vs/\vs[1]?=some (.ref T)/\H' T=none/\s'.heap.get? T=some oT/\oT.data= .fields ts/\ts[3]?=some .none/\s.heap.objs.size<=T)/\E (.ref C) (some e) H'
noncomputable def Jv2 (X:Cx) (R:St->XK):Prop:=∀pins σ H s e C dx fr,Sm X pins σ H s->H e=some (XO e C (some dx) fr)->(fr=true\/Flt X pins H s.heap e .none)->R σ (.ref C) (some e) (upd H e (XO e C (some dx) false))->X.xe (.ref e) s
theorem Jol {K}:
  Jv2 (Y5 (CXX P w) P w K mg base N qual scope f cd A outer s H E) (λ_=>E):=by
 intro pins σ H1 s1 e C dx fr I q hfl hE;refine S4 (Ybv I ⟨rfl,rfl⟩ I.ok.frames q hfl λs2 I2 f2=>Jul I2 Sn f2 λs3 I3 f3=>?_);obtain ⟨oe,vs,T,oT,ts,z1,z2,z3,z4,z5,z6,z7,z8,_⟩:=f3;exact ⟨e,C,dx,_,rfl,I3.os,I3.bare,I3.base,I3.hok,Sn,⟨oe,vs,T,oT,ts,z1,z2,z3,z4,z5,z6,z7,z8⟩,hE⟩
theorem Sp0 {o} (h:H a=some o):upd H a o=H:=by
 funext b;unfold upd;split
 ·rename_i z;rw [z,h]
 ·rfl
section
variable {X:Cx} {pins:List (S1×Obj)} {σ:St} {H:Hp} {s s':S3} {R:St->XK} {ev:S2}
theorem Yhv (hw:Jv2 X R) (I:Sm X pins σ H s) (h:CXX X.prog X.w X.stack H s (R σ) ev s'):X.xe ev s':=by
 obtain ⟨e,C,dx,H',rfl,ho,hg,un,hok,q,⟨oe,vs,T,oT,ts,z1,z2,z3,z4,z5,z6,z7,z8⟩,hR⟩:=h;refine hw pins σ H' s' e C dx false (I.call' ho un hok hg λb z=>absurd z (by simp)) q (.inr ⟨oe,vs,T,oT,ts,z1,z2,z3,z4,z5,z6,z7,yae I.sz z8,λp hp z=>?_⟩) (by rw [Sp0 q];exact hR);obtain ⟨y1,_⟩:=I.pin p hp;exact absurd (yk y1) (by rw [z];exact ybm.mpr z8)
end
theorem So.calm {K} (G:So P w K mg base (CXX P w) k f fd ps sp):So P w K mg base CX0 k f fd ps (λvs H Q _=>sp vs H Q E0):=
 ⟨λvs H Q _ h=>G.len vs H Q E0 h,λA outer s H args us vs Q E hr he hb hv hs=>codeAny_mono (G.run A outer s H args us vs Q E0 hr he hb hv hs) λr s' hq=>by
  cases r with
  |error e=>obtain ⟨_,_,_,_,_,_,_,_,_,_,_,z⟩:=hq;exact z.elim
  |ok fl=>cases fl <;> exact hq⟩
theorem Fun.okX {K} {st} (F:Fun K x qual st f fd) (S:Jne N ps (Jnb st)) (len:∀vs H Q E,sp vs H Q E->vs.length=ps.length)
  (hbody:∀cdv A outer s H vs Q E,Sas k (A.deeper (envOfC qual (Jnb st) s.heap.objs.size f cdv))->sp vs H Q E->
   ∃t,PSs (Y5 (CXX P w) P w K mg base N qual (Jnb st) f cdv A outer s H E) (Jou st) t/\t {nx:=λ_ H'=>Q .non H',rt:=Q} (start N vs) H):So P w K mg base (CXX P w) (k+1) f fd ps sp:=by
 obtain ⟨dV,oc,od,kV,doc,pm,an,cdv,ct,osl,rfl,lk,hcd⟩:=F.ex;exact Sl1 lk hcd S len λA outer s H vs Q E hr hsp=>hbody cdv A outer s H vs Q E hr hsp
noncomputable def Sol (sp:Sp) (R:St->XK) (t:TA):TE:=λσ H Q=>t σ H λvs H1=>sp vs H1 Q (R σ)
inductive Yfl (C:S1) (m:Str) (sp:Sp) (R:St->XK) (t:TA) (σ:St) (Q:VK) (x:V) (H1:Hp):Prop where
 |mk (a:_) (dx:_) (fs:_) (_:x= .ref a) (_:H1 a=some (.ins C dx fs)) (_:fs.lookup m=none) (_:t σ H1 λvs H2=>sp (x::vs) H2 Q (R σ))
noncomputable def Soq (C:S1) (m:Str) (sp:Sp) (R:St->XK) (ta:TE) (t:TA):TE:=λσ H Q=>ta σ H (Yfl C m sp R t σ Q)
section
variable {X:Cx} {k j:Nat} {f C:S1} {fd:S8} {ps:List Str} {sp:Sp} {R:St->XK} {x m:Str} {p pos apos:Pos} {e o:Expr} {es:List Expr} {ta:TE} {t:TA}
theorem Ybz (G:So X.prog X.w X.K X.mg X.base (CXX X.prog X.w) k f fd ps sp) (hw:Jv2 X R) (hr:Sas k X.A) (hb:Sbf X.K fd ps [])
  (I:Sm X pins σ H s) (r:Sx vs us) (h:sp vs H Q (R σ)):Sc (model X.prog X.w) X.A (call (.ref f) us) (EP X pins σ Q) X.xe s:=by
 have hl:(us++ []).length=ps.length:=by rw [ybb,<-r.length,G.len _ _ _ _ h]
 have hb':=hb s us I.kIn hl;rw [ybb] at hb';refine wpAny_call (codeAny_mono (G.run X.A X.stack s H ⟨us,[]⟩ us vs Q (R σ) hr I.env0 hb' r h) λr s' hq=>?_);cases r with
 |error e=>exact Yhv hw I hq
 |ok fl=>
  cases fl with
  |ret u=>exact I.after hq
  |next=>exact False.elim hq
  |brk=>exact False.elim hq
  |cont=>exact False.elim hq
theorem Jqj {st} (F:FT X.K X.mg x st ps f fd) (G:So X.prog X.w X.K X.mg X.base (CXX X.prog X.w) k f fd ps sp) (hw:Jv2 X R) (hr:Sas j X.A) (hk:k<=j) (ha:PA X (e::es) t) (hg:Gl X x:=by rfl)
  (hdb:(x==("__debug__" :Str))=false:=by decide) (he:starEach (e::es) X.env=(false,eval e X.env)::starEach es X.env:=by rfl) (hpl:(backTo pos (starEach es X.env)).any (·.1)=false:=by rfl):
  PE X (.Call (.Name x p) (e::es) [] pos) (Sol sp R t):=by
 intro pins s σ H Q I h;exact wpAny_Call_Name_kw (Jse I hg F.mgx (PySem.W.callWith_K I.ok.mod.kin F.fn.kp (thn (ha pos pins s σ H _ I h) λus s1 ⟨vs,H1,I1,r,q⟩=>⟨I1.kIn,Ybz G hw (hr.mono hk) F.bd I1 r q⟩) he hpl) hdb)
theorem Yo {pl} (he:PE X o ta) (c:Cls X.K C) (hm:Jps X.K C m f) (G:So X.prog X.w X.K X.mg X.base (CXX X.prog X.w) k f fd ps sp) (hw:Jv2 X R) (hr:Sas j X.A) (hk:k<=j) (hb:Sbf X.K fd ps []) (ha:PA X (e::es) t)
  (hst:starEach (e::es) X.env=(false,eval e X.env)::starEach es X.env:=by rfl) (hpl:(backTo pos (starEach es X.env)).any (·.1)=false:=by rfl)
  (ht:eval (.Call (.Attribute o m apos) (e::es) [] pos) X.env=(do
   let ov<-eval o X.env
   standAt apos.atName
   let (f,first)<-holding [ov] (getMethod ov m pl)
   callWith pos f first (backTo pos (starEach (e::es) X.env)) (backToKw pos (keywordEach [] X.env))):=by rfl):
  PE X (.Call (.Attribute o m apos) (e::es) [] pos) (Soq C m sp R ta t):=by
 intro pins s σ H Q I h;refine PySem.W.methodCall_KW (thn (he pins s σ H _ I h) λu s1 zq=>?_) ht;obtain ⟨x,H1,I1,rx,a,dx,fs,ex,ea,l,q⟩:=zq;subst ex;obtain rfl:u=Value.ref a:=rx;exact Jqe I1 ea c hm l (PySem.W.callWith_K I.ok.mod.kin hm.kp (thn (ha pos pins s1 σ H1 _ I1 q) λus s2 ⟨vs,H2,I2,r,q2⟩=>⟨I2.kIn,Ybz (vs:=.ref a::vs) G hw (hr.mono hk) hb I2 (.cons rfl r) q2⟩) hst hpl)
end
noncomputable def Yf0 (K:Sd) (R:St->XK) (te:TE):TS:=λ_ σ H=>te σ H λv H1=>∃e C W fI dx,v= .ref e/\H1 e=some (XO e C (some dx) true)/\Sag K C W fI/\R σ (.ref C) (some e) (upd H1 e (XO e C (some dx) false))
section
variable {X:Cx} {R:St->XK} {x:Expr} {pos:Pos} {te:TE}
theorem Jog (hw:Jv2 X R) (hc:X.calm=true) (hx:PE X x te):PS X (.Raise (some x) none pos) (Yf0 X.K R te):=by
 intro pins s σ H D I h;refine S4 (wpAny_standAt (S4 (S4 (thn (hx pins s σ H _ I h) λu s1 ⟨y,H1,I1,ry,e,C,W,fI,dx,ey,q,c,k⟩=>S4 (wpAny_standAt (S5 ?_))))));subst ey;obtain rfl:u=Value.ref e:=ry;obtain ⟨o,vs,he,hcl,hd,hf,h0,y,h1,hy⟩:=Jxf I1.hok q;obtain ⟨nm,qn,N,bs,sn,sub,ab,col,dd,k0,k1,k2,k3,k5,l⟩:=c.obj;have kC:=I1.kIn _ _ l;have hcB:(Value.ref C:: .ref W::VEm).contains (.type "BaseException")=true:=by simp
 obtain ⟨oc,odi,oda,osl⟩:=o;subst hcl hd hf
 repeat (first|with_reducible refine wpAny_loadPart_at he ?_|with_reducible refine wpAny_loadPart_at kC ?_|(with_reducible refine wpAny_isSubtype_exc kC ?_;rw [hcB])|with_reducible refine wpAny_field he rfl h1 ?_|wp_step)
 exact wpAny_raiseNew_none (I.ok.hd hc) (hw pins σ H1 s1 e C dx true I1 q (.inl rfl) k)
end
structure Six (K:Sd) (C:S1):Prop where
 obj:∃(dd:Option S1) (cd:ClassData) (sl:Array (Option S2)),K.lookup C=some ⟨.type "type",dd,.cls cd,sl⟩
 mb:Sg K C (.type "BaseException")=some true
section
variable {prog:S7} {w:S9} {A:Sa} {E:S2->S3->Prop} {s:S3} {K:Sd} {e C C0:S1} {oe:Obj} {b:Bool}
theorem Yap (X:K.In s.heap) (c0:Six K C0) (he:s.heap.get? e=some oe) (hc:oe.cls= .ref C) (hm:Sg K C (.ref C0)=some b) (q:Q b s):Sc (model prog w) A (excMatches (.ref e) (.ref C0)) Q E s:=by
 obtain ⟨dd,cd,sl,l⟩:=c0.obj;have k0:=X _ _ l;have f0:=tc_notTuple;obtain ⟨oc,odi,oda,osl⟩:=oe;subst hc
 repeat (first|with_reducible refine wpAny_loadPart_at he ?_|with_reducible refine wpAny_loadPart_at k0 ?_|with_reducible refine (PySem.W.looks_mroIn X c0.mb).at ?_|with_reducible refine (PySem.W.looks_mroIn X hm).at ?_|wp_step)
 cases b <;> (repeat wp_step) <;> exact q
end
noncomputable def Cx.caught (X:Cx) (e:S1):Cx:={X with A:=X.A.mark (some (.ref e)),calm:=false,xe:=λ_ _=>False}
noncomputable def Cx.tried (X:Cx) (pins:List (S1×Obj)) (R:St->XK):Cx:=
 {X with pn:=X.pn++pins,xe:=λev s'=>∃σ H e C dx fr,ev= .ref e/\Sm X pins σ H s'/\H e=some (XO e C (some dx) fr)/\(fr=true\/Flt X pins H s'.heap e .none)/\R σ (.ref C) (some e) (upd H e (XO e C (some dx) false))}
section
variable {X:Cx} {pins pins':List (S1×Obj)} {σ:St} {H:Hp} {s:S3} {R:St->XK} {e:S1}
theorem Sm.caught (I:Sm X pins σ H s) (e):Sm (X.caught e) pins σ H s:=
 ⟨⟨I.ok.mod,I.ok.kind,I.ok.glob,I.ok.blt,I.ok.above,I.ok.inj,I.ok.has,I.ok.cab,(λz=>nomatch z),I.ok.frames,I.ok.stk,I.ok.exf,I.ok.bs,I.ok.bsz,I.ok.noex,I.ok.exfs,I.ok.funs,I.ok.frf⟩,I.os,I.bare,I.base,I.loc,I.cell,I.free,I.freeC,I.pin,I.hok,I.len⟩
theorem Sm.uncaught (ok:X.Ok) (I:Sm (X.caught e) pins σ H s):Sm X pins σ H s:=⟨ok,I.os,I.bare,I.base,I.loc,I.cell,I.free,I.freeC,I.pin,I.hok,I.len⟩
theorem Sm.tried (I:Sm X pins σ H s) (R):Sm (X.tried pins R) [] σ H s:=
 ⟨⟨I.ok.mod,I.ok.kind,I.ok.glob,I.ok.blt,I.ok.above,I.ok.inj,I.ok.has,I.ok.cab,I.ok.hd,I.ok.frames,I.ok.stk,I.ok.exf,I.ok.bs,I.ok.bsz,I.ok.noex,I.ok.exfs,I.ok.funs,I.ok.frf⟩,I.os,I.bare,I.base,I.loc,I.cell,I.free,I.freeC,(λp hp=>I.pin p (by rw [ybb] at hp;exact hp)),I.hok,I.len⟩
theorem Sm.untried (I:Sm (X.tried pins R) pins' σ H s):Sm X pins σ H s:=
 ⟨⟨I.ok.mod,I.ok.kind,I.ok.glob,I.ok.blt,I.ok.above,I.ok.inj,I.ok.has,I.ok.cab,I.ok.hd,I.ok.frames,I.ok.stk,I.ok.exf,I.ok.bs,I.ok.bsz,I.ok.noex,I.ok.exfs,I.ok.funs,I.ok.frf⟩,I.os,I.bare,I.base,I.loc,I.cell,I.free,I.freeC,(λp hp=>I.pin p (ycs _ hp)),I.hok,I.len⟩
theorem Sp8:Jv2 (X.tried pins R) R:=λpins' σ H s e C dx fr I q hfl hR=>⟨σ,H,e,C,dx,fr,rfl,I.untried,q,hfl.imp id λ⟨oe,vs,T,oT,ts,z1,z2,z3,z4,z5,z6,z7,z8,z9⟩=>⟨oe,vs,T,oT,ts,z1,z2,z3,z4,z5,z6,z7,z8,λp hp=>z9 p (ycs _ hp)⟩,hR⟩
theorem SP.map (hI:∀σ H,Sm X pl σ H s'->Sm Y pm σ H s') (h:SP X pl D f s'):SP Y pm D f s':=by
 cases f with
 |next=>obtain ⟨σ',H',I,q⟩:=h;exact ⟨σ',H',hI _ _ I,q⟩
 |brk=>obtain ⟨σ',H',I,q⟩:=h;exact ⟨σ',H',hI _ _ I,q⟩
 |cont=>obtain ⟨σ',H',I,q⟩:=h;exact ⟨σ',H',hI _ _ I,q⟩
 |ret u=>obtain ⟨v,σ',H',I,r,q⟩:=h;exact ⟨v,σ',H',hI _ _ I,r,q⟩
theorem Yd7 {i} {n} {pos} {Q} (I:Sm X pins σ H s) (hN:X.N.Nodup) (hi:X.N[i]?=some n) (hk:X.env.scope.names.lookup n=some .local)
  (h:∀s',Sm X pins (σ.set i none) H s'->Q () s'):Sc M A (do bindName X.env n .none;unbindBehindTheSuite X.env n pos) Q E s:=by
 obtain ⟨m,hn,hl⟩:=id I.loc;have hcls:(X.env.scope.kind== .class||(X.env.scope.kind== .module&&X.env.locals !=X.env.globals))=false:=by rw [I.ok.kind];rfl
 have cne:=I.cne;refine wpAny_nameGoes_keeps hk hn hcls λh' v hn' sb=>h _ ?_;have lo:∀b o,X.s₀.heap.get? b=some o->b≠X.env.locals:=λb o z=>yy (yao (yk z) I.ok.above);refine ⟨I.ok,I.os,I.bare,⟨λb o z n hb hx=>(sb.2 b (lo b o z)).trans (I.base.keep b o z n hb hx),λb o z n hb hx=>?_,I.base.free,λb o z hx=>?_,I.base.tups,I.base.frzs,I.base.tbls⟩,⟨_,hn',λj y v' e1 e2 e3=>?_⟩,λy c z=>?_,I.free,I.freeC,λp hp=>?_,λb ob z=>?_,by simpa using I.len⟩
 ·obtain ⟨sl,z1⟩:=I.base.slot b o z n hb hx;exact ⟨sl,(sb.2 b (lo b o z)).trans z1⟩
 ·obtain ⟨o',z1⟩:=I.base.there b o z hx;exact ⟨o',(sb.2 b (lo b o z)).trans z1⟩
 ·have hj:j≠i:=λz=>by
   subst z;have:j < σ.length:=by rw [I.len];exact (yj.mp hi).1
   rw [List.getElem?_set_self this] at e2;cases e2
  rw [List.getElem?_set_ne (yx hj)] at e2;obtain ⟨u',r',q⟩:=hl j y v' e1 e2 e3;refine ⟨u',r',?_⟩;rcases q with ⟨k,z⟩|⟨k,c,z,zz⟩
  ·refine .inl ⟨k,?_⟩;have:y≠n:=λz=>hj (Jwo hN e1 (z▸hi));show (if y=n then v else m y)=some u';rw [if_neg this];exact z
  ·exact .inr ⟨k,c,z,zz.sameBut sb (cne y c z)⟩
 ·obtain ⟨w',zz⟩:=I.cell y c z;exact ⟨w',zz.sameBut sb (cne y c z)⟩
 ·obtain ⟨z,n,ne,nf,d⟩:=I.pin p hp;exact ⟨(sb.2 p.1 ne).trans z,n,ne,nf,d⟩
 ·refine (I.hok b ob z).stay (λc w' hc q=>(sb.2 c ?_).trans q) (λ_ q=>q) (λ_ _ q=>q) λ_ _ q=>q;rintro rfl;rcases hc with rfl|hc
  ·rw [I.free] at z;cases z
  ·rw [I.free] at hc;cases hc
end
noncomputable abbrev TH:=Sc2->St->S2->Option S1->Hp->Prop
noncomputable def PH (X:Cx) (hs:List ExceptHandler) (th:TH):Prop:=
 ∀(pins:List (S1×Obj)) (s:S3) (σ:St) (H:Hp) (D:Sc2) (e C dx:S1),Sm X pins σ H s->H e=some (XO e C (some dx) false)->Flt X pins H s.heap e .none->th D σ (.ref C) (some e) H->
  Sc (model X.prog X.w) X.A (handleBy (.ref e) X.env hs) (SP X pins D) X.xe s
noncomputable def Sx3:TH:=λ_ _ _ _ _=>False
theorem Sng:PH X [] Sx3:=λ_ _ _ _ _ _ _ _ _ _ _ h=>h.elim
noncomputable def Sc2.less (D:Sc2) (i:Nat):Sc2:=⟨λσ H=>D.nx (σ.set i none) H,D.rt,λσ H=>D.bk (σ.set i none) H,λσ H=>D.ct (σ.set i none) H⟩
noncomputable def hAs (K:Sd) (C0:S1) (i:Nat) (ts:S1->TS) (th:TH):TH:=λD σ c eo H=>∃e C b,c= .ref C/\eo=some e/\Sg K C (.ref C0)=some b/\if b=true then ts e (D.less i) (σ.set i (some (.ref e))) H else th D σ c eo H
section
variable {X:Cx} {x n:Str} {np pos:Pos} {C0:S1} {i:Nat} {b₀:Stmt} {suite:List Stmt} {rest:List ExceptHandler} {ts:S1->TS} {th:TH}
theorem Sl7 (c0:Six X.K C0) (hm:X.mg x=some (.ref C0)) (hN:X.N.Nodup) (hi:X.N[i]?=some n) (hl:X.env.scope.names.lookup n=some .local) (hsu:∀e,PSs (X.caught e) (b₀::suite) (ts e)) (hr:PH X rest th) (hg:Gl X x:=by rfl)
  (hdb:(x==("__debug__" :Str))=false:=by decide):PH X (.ExceptHandler (some (.Name x np)) (some n) (b₀::suite) pos::rest) (hAs X.K C0 i ts th):=by
 rintro pins s σ H D e C dx I q hfl ⟨e',C',b,hC,he,hmr,h⟩;cases hC;cases he;obtain ⟨o,vs,go,gc,_⟩:=Jxf I.hok q;refine wpAny_handleBy_cons (codeAny_handlers_test (Jse (I.caught e) hg hm (Yap I.kIn c0 go gc hmr ?_) hdb)) (λz=>by cases z);cases b with
 |false=>exact hr pins s σ H D e C dx I q hfl h
 |true=>
  refine codeAny_handlers_suite_as (Jul I q hfl λs1 I1 f1=>Jua (v:=.ref e) I1 hN hi (.inl hl) rfl (λs2 I2=>wpAny_mono (hsu e pins s2 _ H (D.less i) (I2.caught e) h) (λf s3 hf=>?_) λ_ _ z=>False.elim z) (.inr hl));have go:∀{f:Flow} {σ':St} {H':Hp},Sm (X.caught e) pins σ' H' s3->(∀s',Sm X pins (σ'.set i none) H' s'->SP X pins D f s')->Sc (model X.prog X.w) X.A (do bindName X.env n .none;unbindBehindTheSuite X.env n pos) (λ_ s'=>SP X pins D f s') X.xe s3:=
   λ{f σ' H'} I3 k=>Yd7 (Sm.uncaught I.ok I3) hN hi hl k
  cases f with
  |next=>obtain ⟨σ',H',I3,k⟩:=hf;exact go I3 λs' I'=>⟨_,H',I',k⟩
  |brk=>obtain ⟨σ',H',I3,k⟩:=hf;exact go I3 λs' I'=>⟨_,H',I',k⟩
  |cont=>obtain ⟨σ',H',I3,k⟩:=hf;exact go I3 λs' I'=>⟨_,H',I',k⟩
  |ret u=>obtain ⟨v,σ',H',I3,r,k⟩:=hf;exact go I3 λs' I'=>⟨v,_,H',I',r,k⟩
end
noncomputable def Sy4 (tb:List (S1×Obj)->(St->XK)->TS) (th:TH):TS:=λD σ H=>∀pins,tb pins (λσ' c e H'=>th D σ' c e H') D σ H
theorem Snl (hst:Ybg X) (hb:∀pins R,Jv2 (X.tried pins R) R->PSs (X.tried pins R) body (tb pins R)) (hh:PH X (h₀::hs) th):
  PS X (.Try body (h₀::hs) [] [] pos) (Sy4 tb th):=by
 intro pins s σ H D I h;refine wpAny_Try_except (wpAny_mono (hb pins (λσ' c e H'=>th D σ' c e H') Sp8 [] s σ H D (I.tried _) (h pins)) (λf s1 hf=>?_) λev s1 hx=>?_)
 ·have hf':=hf.map λ_ _ J=>J.untried;cases f with
  |next=>exact wpAny_execs_nil hf'
  |brk=>exact hf'
  |cont=>exact hf'
  |ret u=>exact hf'
 ·obtain ⟨σ',H',e,C,dx,fr,rfl,I',q,hfl,hR⟩:=hx;exact Ybv I' hst I'.ok.frames q hfl λs2 I2 f2=>Jul I2 Sn f2 λs3 I3 f3=>hh pins s3 σ' _ D e C dx I3 Sn f3 hR
structure FM (K:Sd) (x qual:Str) (st:Stmt) (ps:List Str) (f:S1) (fd:S8):Prop where
 fn:Fun K x qual st f fd
 bd:Sbf K fd ps []
structure Sgr (K:Sd) (C:S1):Prop where
 ya:Sf K (.ref C) "__class__" =some (some (.builtin "object.__class__"))
 yb:PySem.W.specialIn K (.builtin "object.__class__") "__get__" =some (some (.builtin "getset_descriptor.__get__"))
 yc:PySem.W.takesIn K (.builtin "object.__class__")=some true
 yd:Sg K C (.type "object")=some true
theorem Sgr.ty {K} {C a dx} {H} {fs} (y:Sgr K C) (c:Cls K C) (e:H a=some (.ins C dx fs)):Jue K H (.ref a) (.ref C):=.ins e c y.ya y.yb y.yc y.yd
inductive Jq7 (K:Sd) (f:Str) (vs:List V) (H:Hp) (Q:VK) (z3:XK):Prop where
 |mk (e:_) (C:_) (W:_) (fI:_) (y:_) (_:vs= [.ref e,y]) (_:H e=some (XO e C none true)) (_:Sag K C W fI) (_:NoAttr K C f) (_:∀dx,H dx=none->dx≠e->Q .non (upd (upd H dx (XD dx [(f,y)])) e (XO e C (some dx) true)))
theorem Ycj {K} {C W fI} {f} {y} {H} {Q:VK} (c:Sag K C W fI) (n:NoAttr K C f) (k:∀e dx,H e=none->H dx=none->dx≠e->Q (.ref e) (upd (upd H dx (XD dx [(f,y)])) e (XO e C (some dx) true))):
  [y].length<=1000/\∀e,H e=none->Jq7 K f (.ref e:: [y]) (upd H e (XO e C none true)) (λv H2=>v= .non/\Q (.ref e) H2) E0:=by
 refine ⟨by simp,λe he=>⟨e,C,W,fI,y,rfl,Sn,c,n,λdx h1 h2=>⟨rfl,?_⟩⟩⟩;have e2:upd (upd (upd H e (XO e C none true)) dx (XD dx [(f,y)])) e (XO e C (some dx) true)=upd (upd H dx (XD dx [(f,y)])) e (XO e C (some dx) true):=by
  funext b;unfold upd;split
  ·rfl
  ·split <;> rfl
 rw [e2];exact (k e dx he (by rw [Jnc h2] at h1;exact h1) h2)
section
variable {X:Cx} {pins:List (S1×Obj)} {σ:St} {H:Hp} {s:S3}
theorem Sm.turnTup {ch:List S1} (I:Sm X pins σ H s) (hch:∀b∈ch,Jud X pins H b) (k:∀b o,b∉ch->s.heap.get? b=some o->h'.get? b=some o) (hT:s.heap.objs.size<=T)
  (new:Sah X.prog X.w (upd H T (.tup xs)) h' T (.tup xs)):Sm X pins σ (upd H T (.tup xs)) {s with heap:=h',toks:=t'}:=by
 have nb:∀b o,s.heap.get? b=some o->b≠T:=λb o z w'=>absurd (yk z) (by rw [w'];exact ybm.mpr hT);have nt:∀b u,H b=some u->b≠T:=λb u z=>Jnd z (I.hok.fresh hT);have nc:∀b u,H b=some u->b∉ch:=λb u z w'=>by rw [(hch b w').1] at z;cases z
 have u:Un (frs X.stack) ch H (upd H T (.tup xs)) s.heap h':=by
  refine ⟨λb o hb n hs hc=>k b o hc hb,λb o hb n _ hc=>⟨o.slots,k b o hc hb⟩,λb o hb n _=>by rw [Jnc (nb b o hb)];exact n,λb o hb hc=>⟨o,k b o hc hb⟩,λb ys z=>by rw [Jnc (nt b _ z)];exact z,λb o v z=>by rw [Jnc (nt b _ z)];exact z,λb ps z=>⟨#[],by rw [Jnc (nt b _ z),z];simp⟩⟩
 refine I.call u (λb o z=>?_) I.bare λb hb=>?_
 ·by_cases w':b=T
  ·subst w';rw [Sn] at z;cases z;exact new
  ·rw [Jnc w'] at z;refine (I.hok b o z).stay (λc v hc zz=>k c v ?_ zz) (λc zz=>by rw [Jnc (nt c _ zz)];exact zz) (λc ys zz=>by rw [Jnc (nt c _ zz)];exact zz) λc ys zz=>by rw [Jnc (nt c _ zz)];exact zz
   rcases hc with rfl|hc
   ·exact nc c o z
   ·exact nc c _ hc
 ·obtain ⟨_,h1,_,h3,h4,h5⟩:=hch b hb;exact ⟨h3,h1,h4,h5⟩
theorem Sm.turnMany {ch:List S1} (I:Sm X pins σ H s) (hch:∀b∈ch,Jud X pins H b) (k:∀b o,b∉ch->s.heap.get? b=some o->h'.get? b=some o):Sm X pins σ H {s with heap:=h',toks:=t'}:=by
 have nc:∀b u,H b=some u->b∉ch:=λb u z w'=>by rw [(hch b w').1] at z;cases z
 have u:Un (frs X.stack) ch H H s.heap h':=
  ⟨λb o hb n hs hc=>k b o hc hb,λb o hb n _ hc=>⟨o.slots,k b o hc hb⟩,λb o hb n _=>n,λb o hb hc=>⟨o,k b o hc hb⟩,λb ys z=>z,λb o v z=>z,λb ps z=>⟨#[],by rw [z];simp⟩⟩
 refine I.call u (λb o z=>(I.hok b o z).stay (λc v hc zz=>k c v ?_ zz) (λ_ zz=>zz) (λ_ _ zz=>zz) λ_ _ zz=>zz) I.bare λb hb=>?_
 ·rcases hc with rfl|hc
  ·exact nc c o z
  ·exact nc c _ hc
 ·obtain ⟨_,h1,_,h3,h4,h5⟩:=hch b hb;exact ⟨h3,h1,h4,h5⟩
end
theorem Yad:bootBuiltins "zip" =some (.type "zip"):=by decide +kernel
section
variable {X:Cx} {pins:List (S1×Obj)} {σ:St} {H:Hp} {s:S3}
inductive TyX (K:Sd) (H:Hp):V->S2->Prop where
 |of {x:V} {t:S2}:Jue K H x t->TyX K H x t
 |exc {e C W fI dx:S1} {fs:List (Str×V)} {fr:Bool}:H e=some (XO e C (some dx) fr)->H dx=some (XD dx fs)->Sag K C W fI->TyX K H (.ref e) (.ref C)
theorem TyX.kit (I:Sm X pins σ H s) (rx:Sz x u) (ty:TyX X.K H x t):u≠ .builtin "__main__.__loader__#opaque" /\∃Hh,PySem.W.KitX X.K u t Hh/\Hh s.heap:=by
 cases ty with
 |exc q qd c=>
  obtain rfl:u=Value.ref _:=rx;obtain ⟨ox,oD,mA,J,_,_⟩:=Yc5 I.hok q qd;exact ⟨(λz=>nomatch z),_,Sy7 c,ox,oD,J⟩
 |of ty=>
  cases ty with
  |non=>cases (rx);exact ⟨(λz=>nomatch z),_,PySem.W.kitx_none,trivial⟩
  |bl y=>cases (rx);exact ⟨(λz=>nomatch z),_,PySem.W.kitx_bool,trivial⟩
  |int i=>obtain ⟨t,q⟩:=(show ∃t,u=Value.int i t from rx);cases q;exact ⟨(λz=>nomatch z),_,PySem.W.kitx_int,trivial⟩
  |str y=>obtain ⟨t,q⟩:=(show ∃t,u=Value.str y t from rx);cases q;exact ⟨(λz=>nomatch z),_,PySem.W.kitx_str,trivial⟩
  |flt y=>obtain ⟨t,q⟩:=(show ∃t,u=Value.float y t from rx);cases q;exact ⟨(λz=>nomatch z),_,PySem.W.kitx_float,trivial⟩
  | @lst a xs ea=>
   cases (rx);obtain ⟨_,_,n,_,h1⟩:=(I.hok a _ ea);exact ⟨(λz=>nomatch z),_,PySem.W.kitx_list,_,h1,rfl⟩
  | @frz a ob xs ea=>
   cases (rx);obtain ⟨_,_,_,n,_,h1⟩:=(I.hok a _ ea);exact ⟨(λz=>nomatch z),_,PySem.W.kitx_list,_,h1,rfl⟩
  | @tup a xs ea=>
   cases (rx);obtain ⟨_,_,_,o,h1,h2,_⟩:=(I.hok a _ ea);exact ⟨(λz=>nomatch z),_,PySem.W.kitx_tuple,o,h1,h2⟩
  | @dK a kvs ea=>
   cases (rx);obtain ⟨_,_,vs,_,o,es,ep,h1,h2,_⟩:=(I.hok a _ ea);exact ⟨(λz=>nomatch z),_,PySem.W.kitx_dict,o,h1,h2.1⟩
  | @dT a kvs ea=>
   cases (rx);obtain ⟨_,_,xs,_,o,es,ep,h1,h2,_⟩:=(I.hok a _ ea);exact ⟨(λz=>nomatch z),_,PySem.W.kitx_dict,o,h1,h2.1⟩
  | @ins a C dx fs ea cl ha hn htk hm=>
   cases (rx);obtain ⟨mA,O,_⟩:=Jvw I.hok ea;obtain ⟨od,J,_⟩:=O.look;exact ⟨(λz=>nomatch z),_,PySem.W.kitx_own (cl.get _) cl.hd ha hn htk hm,J⟩
inductive Sru (K:Sd) (xs:List V) (H:Hp) (Q:VK):Prop where
 |mk (x:_) (c:_) (u:_) (t:_) (b:_) (_:xs= [x,c]) (_:Smj c=some u) (_:TyX K H x t) (_:Se K t u=some b) (_:Q (.bl b) H)
theorem Jop:Jp9 X (.builtin "isinstance") (Sru X.K):=by
 rintro pins s σ H vs us Q I r ⟨x,c,u,t,b,rfl,hc,ty,ek,k⟩;obtain ⟨v,w',rfl,r1,r2⟩:=Ya4 r;have e2:w'=u:=by
  cases c with
  |ty n=>cases hc;cases r2;rfl
  |ref a=>cases hc;cases r2;rfl
  |_=>cases hc
 subst e2;obtain ⟨hx,Hh,Z,p⟩:=ty.kit I r1;exact PySem.W.kia_one Z I.kIn p ek hx λtk=>⟨.bl b,H,I.tok _,rfl,k⟩
theorem Y2:∀{cs} {us ws},cs.mapM Smj=some us->Sx cs ws->ws=us
 | [],us,_,e,.nil=>by cases e;rfl
 |c::cs,us,_,e,.cons r t=>by
  rw [List.mapM_cons] at e;simp only [Option.bind_eq_bind,Option.bind_eq_some_iff,Option.pure_def,yz.injEq] at e;obtain ⟨u,hu,us',hus,rfl⟩:=e;rw [Y2 hus t];cases c with
  |ty n=>cases hu;cases r;rfl
  |ref a=>cases hu;cases r;rfl
  |_=>cases hu
inductive Sxj (K:Sd) (xs:List V) (H:Hp) (Q:VK):Prop where
 |mk (x:_) (p:_) (cs:_) (us:_) (t:_) (b:_) (_:xs= [x,.ref p]) (_:H p=some (.tup cs)) (_:cs.mapM Smj=some us) (_:TyX K H x t) (_:PySem.W.kitAny K t us=some b) (_:Q (.bl b) H)
theorem Jwd:Jp9 X (.builtin "isinstance") (Sxj X.K):=by
 rintro pins s σ H vs us Q I r ⟨x,p,cs,us',t,b,rfl,hp,hc,ty,ek,k⟩;obtain ⟨v,w',rfl,r1,r2⟩:=Ya4 r;obtain rfl:w'=Value.ref p:=r2;obtain ⟨hx,Hh,Z,q⟩:=ty.kit I r1;obtain ⟨_,its,rv,o,h1,h2,n,h3⟩:=(I.hok p _ hp);have e:=Y2 hc rv;subst e;obtain ⟨oc,odi,oda,osl⟩:=o;subst h2 h3;exact PySem.W.kia_tup Z I.kIn q h1 ek hx λtk=>⟨.bl b,H,I.tok _,rfl,k⟩
noncomputable def Sx6 (K:Sd) (tl:TE):TI:=λσ H R=>tl σ H λx H1=>∃a,x= .ref a/\(((∃xs,Ss K H1 a xs)/\R (Itl K a) H1)\/((∃xs,Su K H1 a xs)/\R (Itt K a) H1))
theorem Sni (hl:PE X l tl):PI X tg l (Sx6 X.K tl):=by
 intro pins s σ H R I h;refine thn (hl pins s σ H _ I h) λv s1 zq=>?_;obtain ⟨x,H1,I1,r1,a,e,q1⟩:=zq;subst e;cases r1;have fin:∀{J:It} {tn:Nat->Sb->Prop} {o:Obj},Turn X.prog X.w X.K tg J [s1.heap.objs.size] s1.heap.objs.size tn->tn 0 (s1.heap.push o)->R J H1->PIE X pins σ tg R (.ref s1.heap.objs.size) {s1 with heap:=s1.heap.push o}:=λ{J tn o} T st q=>by
  refine ⟨s1.heap.objs.size,[s1.heap.objs.size],tn,J,H1,rfl,I1.kept λb o e=>ym _ e,T,st,λb hb=>?_,q⟩;have e:=by simpa using hb
  subst e;exact I1.fpOk (yg _) (I1.hok.fresh (yg _))
 rcases q1 with ⟨⟨xs,hq⟩,q⟩|⟨⟨xs,hq⟩,q⟩
 ·obtain ⟨its,rv,p,hz⟩:=I1.list hq;exact wpAny_pyIter_list p.isList (fin (Jyo a _) ⟨_,yt _ rfl,rfl,rfl⟩ q)
 ·obtain ⟨its,rv,p,hz⟩:=I1.tuple hq;exact wpAny_pyIter_tuple (p) (fin (Jxa a _) ⟨_,yt _ rfl,rfl,rfl⟩ q)
noncomputable def Scy (x y:V) (b:Bool):Prop:=(∃a,x= .ref a/\y= .ref a/\b=true)\/(Jqo x=true/\Jqo y=true/\eqV x y=b)
theorem Ydv (h:Jqo x=true):eqV x x=true:=by
 cases x <;> first|rfl|(simp [eqV];done)|cases h
theorem Scy.self (h:Jqo x=true\/∃a,x= .ref a):Scy x x true:=by
 rcases h with h|⟨a,rfl⟩
 ·exact .inr ⟨h,h,Ydv h⟩
 ·exact .inl ⟨a,rfl,rfl,rfl⟩
theorem Scy.at (h:Scy x y b) (rx:Sz x u) (ry:Sz y v):SeqAt.EqAt A s u v b:=by
 rcases h with ⟨a,rfl,rfl,rfl⟩|⟨f1,f2,rfl⟩
 ·cases rx;cases ry;exact SeqAt.EqAt.same _
 ·exact Ydt rx ry f1 f2
end
noncomputable def Jzn (P:S7) (w:S9) (K:Sd) (mg:Str->Option S2) (base:Sb) (j:Nat) (m:Str) (ta:TE) (t:TA):TE:=λσ H Q=>ta σ H λx H1=>∃a C dx fs f fd ps sp k,x= .ref a/\H1 a=some (.ins C dx fs)/\fs.lookup m=none/\Cls K C/\Jps K C m f/\So P w K mg base CX0 k f fd ps sp/\k<=j/\Sbf K fd ps []/\
 t σ H1 λvs H2=>sp (x::vs) H2 Q E0
section
variable {X:Cx} {j:Nat} {m:Str} {apos pos:Pos} {e o:Expr} {es:List Expr} {ta:TE} {t:TA} {R:St->XK}
theorem Ju0 {pl} (he:PE X o ta) (hr:Sas j X.A) (ha:PA X (e::es) t)
  (hst:starEach (e::es) X.env=(false,eval e X.env)::starEach es X.env:=by rfl) (hpl:(backTo pos (starEach es X.env)).any (·.1)=false:=by rfl)
  (ht:eval (.Call (.Attribute o m apos) (e::es) [] pos) X.env=(do
   let ov<-eval o X.env
   standAt apos.atName
   let (f,first)<-holding [ov] (getMethod ov m pl)
   callWith pos f first (backTo pos (starEach (e::es) X.env)) (backToKw pos (keywordEach [] X.env))):=by rfl):
  PE X (.Call (.Attribute o m apos) (e::es) [] pos) (Jzn X.prog X.w X.K X.mg X.base j m ta t):=by
 intro pins s σ H Q I h;refine PySem.W.methodCall_KW (thn (he pins s σ H _ I h) λu s1 zq=>?_) ht;obtain ⟨x,H1,I1,rx,a,C,dx,fs,f,fd,ps,sp,k,ex,ea,l,c,hm,G,hk,hb,q⟩:=zq;subst ex;obtain rfl:u=Value.ref a:=rx;exact Jqe I1 ea c hm l (PySem.W.callWith_K I.ok.mod.kin hm.kp (thn (ha pos pins s1 σ H1 _ I1 q) λus s2 ⟨vs,H2,I2,r,q2⟩=>⟨I2.kIn,Jx5 (vs:=.ref a::vs) G (hr.mono hk) hb .nil Jpa I2 (.cons rfl r) (by rw [ybb];exact q2)⟩) hst hpl)
theorem Jsh (he:PE X o ta) (hr:Sas j X.A)
  (ht:eval (.Call (.Attribute o m apos) [] [] pos) X.env=(do
   let ov<-eval o X.env
   standAt apos.atName
   let (f,first)<-holding [ov] (getMethod ov m pl)
   callWith pos f first (backTo pos (starEach [] X.env)) (backToKw pos (keywordEach [] X.env))):=by rfl):
  PE X (.Call (.Attribute o m apos) [] [] pos) (Jzn X.prog X.w X.K X.mg X.base j m ta Jvt):=by
 intro pins s σ H Q I h;refine PySem.W.methodCall_KW (thn (he pins s σ H _ I h) λu s1 zq=>?_) ht;obtain ⟨x,H1,I1,rx,a,C,dx,fs,f,fd,ps,sp,k,ex,ea,l,c,hm,G,hk,hb,q⟩:=zq;subst ex;obtain rfl:u=Value.ref a:=rx;exact Jqe I1 ea c hm l (PySem.W.callWith_K0 I1.kIn hm.kp (Jx5 (vs:=[.ref a]) G (hr.mono hk) hb .nil Jpa I1 (.cons rfl .nil) q))
end
theorem Jo6 (h:n<=2000):n < S6:=Nat.lt_of_le_of_lt h (by decide)
theorem Job (n) (h:n<=2000):n<=S6:=yce (Jo6 h)
noncomputable def tpB (t:S2):Bool:=[Value.type "bool",.type "str",.type "NoneType",.type "list",.type "tuple",.type "dict"].contains t
noncomputable def Tm (K:Sd) (H:Hp) (x:V):Prop:=(∃i:Int,x= .int i)\/∃t,TyX K H x t/\tpB t=true
noncomputable def Jnp:V->Int->Int->Bool
 | .int i,lo,hi=>decide (lo<=i)&&decide (i<=hi)
 |_,_,_=>false
theorem Sou {K} (h:tpB t=true):Se K t (.type "int")=some (t== .type "bool")/\Se K t (.type "bool")=some (t== .type "bool"):=by
 unfold tpB at h;simp only [List.contains_cons,List.contains_nil,Bool.or_false,Bool.or_eq_true,beq_iff_eq] at h;rcases h with rfl|rfl|rfl|rfl|rfl|rfl <;> exact ⟨rfl,rfl⟩
theorem Ygd {K} (ty:TyX K H x t) (h:tpB t=true):∀lo hi,Jnp x lo hi=false:=by
 intro lo hi;cases ty with
 |exc=>rfl
 |of ty=>
  cases ty <;> first|rfl|(exfalso;revert h;decide)
inductive Yhh (K:Sd) (vs:List V) (H:Hp) (Q:VK) (z3:XK):Prop where
 |mk (x:V) (lo hi:Int) (_:vs= [x,.int lo,.int hi]) (_:Tm K H x) (_:Q (.bl (Jnp x lo hi)) H)
theorem TyX.same {K} (s:∀b o,x= .ref b->H b=some o->H' b=some o) (sx:∀b fs,H b=some (XD b fs)->H' b=some (XD b fs)) (ty:TyX K H x t):TyX K H' x t:=by
 cases ty with
 |exc q qd c=>exact .exc (s _ _ rfl q) (sx _ _ qd) c
 |of ty=>
  refine .of ?_;cases ty with
  |non=>exact .non
  |bl b=>exact .bl b
  |int i=>exact .int i
  |str z=>exact .str z
  |flt z=>exact .flt z
  |lst e=>exact .lst (s _ _ rfl e)
  |frz e=>exact .frz (s _ _ rfl e)
  |tup e=>exact .tup (s _ _ rfl e)
  |dK e=>exact .dK (s _ _ rfl e)
  |dT e=>exact .dT (s _ _ rfl e)
  |ins e a b c d f=>exact .ins (s _ _ rfl e) a b c d f
theorem Tm.same {K} (s:Si H H') (h:Tm K H x):Tm K H' x:=by
 rcases h with h|⟨t,ty,e⟩
 ·exact .inl h
 ·exact .inr ⟨t,ty.same (λb o _ q=>s b o q) (λb fs q=>s b _ q),e⟩
theorem Yg1 {K} {q} {xs} {g:TG} {tb:TS} {D:Sc2} {σ} {H} (Pv:Nat->St->Hp->Prop) (h0:Pv 0 σ H) (hl:(∀i σ H,i<=xs.length->Pv i σ H->Ss K H q xs)\/(∀i σ H,i<=xs.length->Pv i σ H->Su K H q xs))
  (hs:∀i x σ H,xs[i]?=some x->Pv i σ H->g x σ H λσ2 H2=>tb {D with nx:=Pv (i+1),ct:=Pv (i+1),bk:=D.nx} σ2 H2) (hd:∀σ H,Pv xs.length σ H->D.nx σ H):
  ((∃xs,Ss K H q xs)/\∃W:Nat->Nat->St->Hp->Prop,(∃m,W 0 m σ H)/\∀i m σ H,W i m σ H->
   ((Itl K q).stop i H/\D.nx σ H)\/((Itl K q).go i H/\∃N:St->Hp->Prop,(∀σ' H',N σ' H'->∃m',m' < m/\W (i+1) m' σ' H')/\∀x H',(Itl K q).yld i H x H'->g x σ H' λσ2 H2=>tb {D with nx:=N,ct:=N,bk:=D.nx} σ2 H2))\/
  ((∃xs,Su K H q xs)/\∃W:Nat->Nat->St->Hp->Prop,(∃m,W 0 m σ H)/\∀i m σ H,W i m σ H->
   ((Itt K q).stop i H/\D.nx σ H)\/((Itt K q).go i H/\∃N:St->Hp->Prop,(∀σ' H',N σ' H'->∃m',m' < m/\W (i+1) m' σ' H')/\∀x H',(Itt K q).yld i H x H'->g x σ H' λσ2 H2=>tb {D with nx:=N,ct:=N,bk:=D.nx} σ2 H2)):=by
 rcases hl with hl|hl
 ·exact .inl ⟨⟨xs,hl 0 σ H (yaj _) h0⟩,Jph Pv h0 hl hs hd⟩
 ·exact .inr ⟨⟨xs,hl 0 σ H (yaj _) h0⟩,Jvv Pv h0 hl hs hd⟩
theorem Jpb {K} {R} {C W fI} {f} {i} {y} {σ} {H} {D} (c:Sag K C W fI) (n:NoAttr K C f) (hi:σ[i]?=some (some y))
  (k:∀e dx,H e=none->H dx=none->dx≠e->R σ (.ref C) (some e) (upd (upd (upd H dx (XD dx [(f,y)])) e (XO e C (some dx) true)) e (XO e C (some dx) false))):Yf0 K R (Ssm C (Jq7 K f) (Jo7 (Skd i) Jvt)) D σ H:=⟨y,hi,Ycj (Q:=λv H1=>∃e C W fI dx,v= .ref e/\H1 e=some (XO e C (some dx) true)/\Sag K C W fI/\R σ (.ref C) (some e) (upd H1 e (XO e C (some dx) false))) c n λe dx h1 h2 h3=>⟨e,C,W,fI,dx,rfl,Sn,c,k e dx h1 h2 h3⟩⟩
theorem Yak {A:Prop} [Decidable c] (hc:c) (h:A):if decide c=true then A else B:=by grind
theorem Y9 {A:Prop} [Decidable c] (hc:¬c) (h:B):if decide c=true then A else B:=by grind
noncomputable def Jnu:Expr->Bool
 | .Starred _ _=>true
 |_=>false
theorem Yd3 (e) (es) (env) (h:Jnu e=false):starEach (e::es) env=(false,eval e env)::starEach es env:=by
 cases e <;> first|rfl|cases h
theorem Jos (ha:PE X e te) (hr:PA X es t) (hs:Jnu e=false:=by rfl):PA X (e::es) (Jo7 te t):=Sj ha hr (Yd3 e es X.env hs)
theorem pa4 (h0:PE X e0 t0) (h1:PE X e1 t1) (h2:PE X e2 t2) (h3:PE X e3 t3) (s0:Jnu e0=false:=by rfl) (s1:Jnu e1=false:=by rfl) (s2:Jnu e2=false:=by rfl) (s3:Jnu e3=false:=by rfl):PA X [e0,e1,e2,e3] (Jo7 t0 (Jo7 t1 (Jo7 t2 (Jo7 t3 (Jvt))))):=Jos h0 (Jos h1 (Jos h2 (Jos h3 (Sk) s3) s2) s1) s0
theorem pa6 (h0:PE X e0 t0) (h1:PE X e1 t1) (h2:PE X e2 t2) (h3:PE X e3 t3) (h4:PE X e4 t4) (h5:PE X e5 t5) (s0:Jnu e0=false:=by rfl) (s1:Jnu e1=false:=by rfl) (s2:Jnu e2=false:=by rfl) (s3:Jnu e3=false:=by rfl) (s4:Jnu e4=false:=by rfl) (s5:Jnu e5=false:=by rfl):PA X [e0,e1,e2,e3,e4,e5] (Jo7 t0 (Jo7 t1 (Jo7 t2 (Jo7 t3 (Jo7 t4 (Jo7 t5 (Jvt))))))):=Jos h0 (Jos h1 (Jos h2 (Jos h3 (Jos h4 (Jos h5 (Sk) s5) s4) s3) s2) s1) s0
theorem pa7 (h0:PE X e0 t0) (h1:PE X e1 t1) (h2:PE X e2 t2) (h3:PE X e3 t3) (h4:PE X e4 t4) (h5:PE X e5 t5) (h6:PE X e6 t6) (s0:Jnu e0=false:=by rfl) (s1:Jnu e1=false:=by rfl) (s2:Jnu e2=false:=by rfl) (s3:Jnu e3=false:=by rfl) (s4:Jnu e4=false:=by rfl) (s5:Jnu e5=false:=by rfl) (s6:Jnu e6=false:=by rfl):PA X [e0,e1,e2,e3,e4,e5,e6] (Jo7 t0 (Jo7 t1 (Jo7 t2 (Jo7 t3 (Jo7 t4 (Jo7 t5 (Jo7 t6 (Jvt)))))))):=Jos h0 (Jos h1 (Jos h2 (Jos h3 (Jos h4 (Jos h5 (Jos h6 (Sk) s6) s5) s4) s3) s2) s1) s0
theorem pa8 (h0:PE X e0 t0) (h1:PE X e1 t1) (h2:PE X e2 t2) (h3:PE X e3 t3) (h4:PE X e4 t4) (h5:PE X e5 t5) (h6:PE X e6 t6) (h7:PE X e7 t7) (s0:Jnu e0=false:=by rfl) (s1:Jnu e1=false:=by rfl) (s2:Jnu e2=false:=by rfl) (s3:Jnu e3=false:=by rfl) (s4:Jnu e4=false:=by rfl) (s5:Jnu e5=false:=by rfl) (s6:Jnu e6=false:=by rfl) (s7:Jnu e7=false:=by rfl):PA X [e0,e1,e2,e3,e4,e5,e6,e7] (Jo7 t0 (Jo7 t1 (Jo7 t2 (Jo7 t3 (Jo7 t4 (Jo7 t5 (Jo7 t6 (Jo7 t7 (Jvt))))))))):=Jos h0 (Jos h1 (Jos h2 (Jos h3 (Jos h4 (Jos h5 (Jos h6 (Jos h7 (Sk) s7) s6) s5) s4) s3) s2) s1) s0
theorem Sxd (h0:PE X e0 t0) (h1:PE X e1 t1) (h2:PE X e2 t2) (h3:PE X e3 t3) (h4:PE X e4 t4) (h5:PE X e5 t5) (h6:PE X e6 t6) (h7:PE X e7 t7) (h8:PE X e8 t8) (h9:PE X e9 t9) (s0:Jnu e0=false:=by rfl) (s1:Jnu e1=false:=by rfl) (s2:Jnu e2=false:=by rfl) (s3:Jnu e3=false:=by rfl) (s4:Jnu e4=false:=by rfl) (s5:Jnu e5=false:=by rfl) (s6:Jnu e6=false:=by rfl) (s7:Jnu e7=false:=by rfl) (s8:Jnu e8=false:=by rfl) (s9:Jnu e9=false:=by rfl):PA X [e0,e1,e2,e3,e4,e5,e6,e7,e8,e9] (Jo7 t0 (Jo7 t1 (Jo7 t2 (Jo7 t3 (Jo7 t4 (Jo7 t5 (Jo7 t6 (Jo7 t7 (Jo7 t8 (Jo7 t9 (Jvt))))))))))):=Jos h0 (Jos h1 (Jos h2 (Jos h3 (Jos h4 (Jos h5 (Jos h6 (Jos h7 (Jos h8 (Jos h9 (Sk) s9) s8) s7) s6) s5) s4) s3) s2) s1) s0
theorem Sxe (h0:PE X e0 t0) (h1:PE X e1 t1) (h2:PE X e2 t2) (h3:PE X e3 t3) (h4:PE X e4 t4) (h5:PE X e5 t5) (h6:PE X e6 t6) (h7:PE X e7 t7) (h8:PE X e8 t8) (h9:PE X e9 t9) (h10:PE X e10 t10) (s0:Jnu e0=false:=by rfl) (s1:Jnu e1=false:=by rfl) (s2:Jnu e2=false:=by rfl) (s3:Jnu e3=false:=by rfl) (s4:Jnu e4=false:=by rfl) (s5:Jnu e5=false:=by rfl) (s6:Jnu e6=false:=by rfl) (s7:Jnu e7=false:=by rfl) (s8:Jnu e8=false:=by rfl) (s9:Jnu e9=false:=by rfl) (s10:Jnu e10=false:=by rfl):PA X [e0,e1,e2,e3,e4,e5,e6,e7,e8,e9,e10] (Jo7 t0 (Jo7 t1 (Jo7 t2 (Jo7 t3 (Jo7 t4 (Jo7 t5 (Jo7 t6 (Jo7 t7 (Jo7 t8 (Jo7 t9 (Jo7 t10 (Jvt)))))))))))):=Jos h0 (Jos h1 (Jos h2 (Jos h3 (Jos h4 (Jos h5 (Jos h6 (Jos h7 (Jos h8 (Jos h9 (Jos h10 (Sk) s10) s9) s8) s7) s6) s5) s4) s3) s2) s1) s0
end L2
namespace L2
open PySem PySem.Spec PyProof.Rows PySem.W
section
variable {X:Cx}
theorem Jvy {K} (h:X.K=K):IxR X (Srv K):=by subst h;exact Jns
theorem Jy2 {K} (h:X.K=K):Jp9 X (.builtin "isinstance") (Sru K):=by subst h;exact Jop
end
section
variable {prog:S7} {w:S9} {A:Sa} {E:S2->S3->Prop} {s:S3}
end
section
variable {X:Cx} {pos:Pos}
end
section
variable {P:S7} {w:S9} {K:Sd} {mg:Str->Option S2} {base:Sb}
end
section
variable {X:Cx} {x:Str} {st:Stmt} {ps:List Str} {f:S1} {fd:S8} {sp:Sp} {k j:Nat} {p pos:Pos} {e:Expr} {es:List Expr} {t:TA} {er:S1}
end
noncomputable def stU (acc:List Str) (z:Str):List Str:=if acc.contains z=true then acc else acc++ [z]
noncomputable def uq (zs:List Str):List Str:=zs.foldl stU []
noncomputable def inU (zs:List Str):Key->Bool
 | .inl _=>false
 | .inr z=>(uq zs).contains z
theorem Yc1 (zs) (z):uq (zs++ [z])=stU (uq zs) z:=by unfold uq;rw [yca];rfl
theorem Sp1 (zs):(uq zs).length<=zs.length:=by
 have h:∀(l acc:List Str),(l.foldl stU acc).length<=acc.length+l.length:=by
  intro l
  induction l with
  |nil=>intro acc;simp
  |cons z r ih=>
   intro acc;rw [List.foldl_cons];have h1:=ih (stU acc z);have h2:(stU acc z).length<=acc.length+1:=by unfold stU;split <;> simp
   rw [yaf];omega
 simpa [uq] using h zs []
theorem Ya3 (h:zs.Nodup):uq zs=zs:=by
 have g:∀(l acc:List Str),(acc++l).Nodup->l.foldl stU acc=acc++l:=by
  intro l
  induction l with
  |nil=>intro acc _;simp
  |cons z r ih=>
   intro acc hn;rw [List.foldl_cons];have hz:acc.contains z=false:=by
    cases e:acc.contains z with
    |false=>rfl
    |true=>
     exact absurd rfl ((List.nodup_append.mp hn).2.2 z (List.contains_iff_mem.mp e) z yah)
   have e:stU acc z=acc++ [z]:=by unfold stU;rw [hz];rfl
   rw [e,ih (acc++ [z]) (by simpa using hn)];simp
 simpa [uq] using g zs [] (by simpa using h)
theorem Ye5 (zs) (z) (k):inU (zs++ [z]) k=(inU zs k||decide (k= .inr z)):=by
 cases k with
 |inl i=>simp [inU]
 |inr y=>
  show (uq (zs++ [z])).contains y=((uq zs).contains y||decide ((.inr y:Key)= .inr z));rw [Yc1];unfold stU;split
  ·rename_i hc
   by_cases h:y=z
   ·subst h;rw [hc];simp
   ·simp [h]
  ·rw [Bool.eq_iff_iff];simp [List.contains_iff_mem]
theorem Yhq (zs) (z):(uq (zs++ [z])).length=if inU zs (.inr z)=true then (uq zs).length else (uq zs).length+1:=by
 rw [Yc1];show (stU (uq zs) z).length=if (uq zs).contains z=true then _ else _
 unfold stU;split <;> simp
section
variable {prog:S7} {w:S9} {A:Sa} {R:Result->S3->Prop} {I:S1} {fp wr:List S1} {n:Nat} {P:Nat->S2->Prop} {St:Nat->Sb->Prop}
theorem Ju7 {h h':Sb} (hS:h.SetOf (Jo4 prog w) a S m) (k:∀o,h.get? a=some o->h'.get? a=some o) (e:∀x,S x=T x) (en:m=m'):h'.SetOf (Jo4 prog w) a T m':=by
 obtain rfl:S=T:=funext e;subst en;obtain ⟨o,es,ep,t,ho,rest⟩:=hS;exact ⟨o,es,ep,t,k o ho,rest⟩
theorem Ybb (W:Walks prog w A.in1 I fp wr n P St) (S) (hSf:S∉fp) (zs) (hn:zs.length=n) (hP:∀i v,P i v->∃z t,zs[i]?=some z/\v= .str z t) (hb:n+1 < scanBound):
  ∀k i s,n - i=k->i<=n->St i s.heap->s.heap.SetOf (Jo4 prog w) S (inU (zs.take i)) (uq (zs.take i)).length->
   (∀h' tk,(∀b o,b≠S->b∉wr->s.heap.get? b=some o->h'.get? b=some o)->h'.SetOf (Jo4 prog w) S (inU zs) (uq zs).length->R (.ok (.ret .none)) {s with heap:=h',toks:=tk})->
   codeAny (model prog w) A (.builtin "set.update.loop" ⟨[.ref S,.ref I],[]⟩) R s:=by
 have hSw:=λh=>hSf (W.sub _ h);intro k
 induction k with
 |zero=>
  intro i s hk hi hst hS hR;obtain rfl:i=n:=by omega
  refine codeAny_builtin PyProof.Rows.F.entry_set_update_loop ?_;refine S4 (W.done s _ _ hst λh' tk km=>?_);refine S5 (hR h' tk (λb o _ nb e=>km b o nb e) (Ju7 hS (λo e=>km S o hSw e) (λx=>?_) ?_))
  ·rw [yad (by omega)]
  ·rw [yad (by omega)]
 |succ k ih=>
  intro i s hk hi hst hS hR;have hlt:i < n:=by omega
  refine codeAny_builtin PyProof.Rows.F.entry_set_update_loop ?_;refine S4 (W.item i s _ _ hlt hst λv h1 tk hv hst1 km=>?_);obtain ⟨z,t,hz,rfl⟩:=hP i v hv;have et:zs.take (i+1)=zs.take i++ [z]:=by rw [yr,hz];rfl
  have room:(uq (zs.take i)).length+1 < scanBound:=by
   have h1:=Sp1 (zs.take i);rw [yaa] at h1;omega
  refine S4 (wpAny_holding ?_);refine wpAny_holding (S4 ((Jo4 prog w).pyHash (Jrs _ _ _ _) ?_));refine wpAny_setAddHashed_of (Jrs _ _ _ _) rfl (Ju7 hS (λo e=>km S o hSw e) (λ_=>rfl) rfl) room λh2 sb hS2=>S5 ⟨plainId_quiet PyProof.Rows.F.plain_set_update_loop _,ih (i+1) _ (by omega) hlt (W.frame _ _ _ hst1 λb hbf o e=>?_) (Ju7 hS2 (λo e=>e) (λx=>?_) ?_) λh3 tk3 k3 hS3=>?_⟩
  ·show h2.get? b=some o;rw [sb.2 b (λq=>hSf (by rw [<-q];exact hbf))];exact e
  ·rw [et,Ye5]
  ·rw [et,Yhq]
  ·exact hR h3 tk3 (λb o nS nw e=>k3 b o nS nw (by show h2.get? b=some o;rw [sb.2 b nS];exact km b o nw e)) hS3
end
section
variable {prog:S7} {w:S9} {A:Sa} {E:S2->S3->Prop} {s:S3}
set_option maxRecDepth 100000 in
set_option maxHeartbeats 3200000 in
theorem Ycz {l:S1} {items:Array S2} {zs:List Str} {Q:S2->S3->Prop} (hh:A.handled=none) (hl:s.heap.IsList l items) (hz:zs.length=items.size) (hi:∀(i:Nat) (v:S2),items[i]?=some v->∃z t,zs[i]?=some z/\v= .str z t) (hb:items.size+1 < scanBound)
  (h:∀(h':Sb) (tk:Nat),h'.SetOf (Jo4 prog w) s.heap.objs.size (inU zs) (uq zs).length->(∀b o,s.heap.get? b=some o->h'.get? b=some o)->Q (.ref s.heap.objs.size) {s with heap:=h',toks:=tk}):Sc (model prog w) A (call (.type "set") [.ref l]) Q E s:=by
 obtain ⟨cc,tl,hmro⟩:=F.called_set.mro;have hmade:=F.called_set.made;have hsub:=F.called_set.sub;refine wpAny_call (codeAny_of_tree ?_);show Sc _ _ (callAny (.type "set") _) _ _ _;refine S5 ⟨Code.quiet_builtin _ (by decide +kernel),codeAny_builtin F.entry_type_call ?_⟩;rw [Around.under_plain (weight_type_call_type "set" [.ref l] []) rfl];have g1:=F.called_set.notType;have g2:=F.called_set.canCreate;have g3:=F.typeCall_set_1 (.ref l)
 repeat (any_goals (first|assumption|wp_step))
 refine codeAny_mono (code_set_new_1 (.ref l) (E:=E) (Q₁:=λobj s1=>∃led:Bool,obj= .ref s.heap.objs.size/\s1={s with heap:=s.heap.push {cls:=.type "set",dict:=none,data:=.set #[] 0 (.fresh 0 0 led)}}) λled=>⟨led,rfl,rfl⟩) λr s1 hr=>?_;cases r with
 |error e=>exact hr
 |ok fl=>
  cases fl with
  |ret obj=>
   obtain ⟨led,rfl,rfl⟩:=hr;have hS:(s.heap.push {cls:=.type "set",dict:=none,data:=.set #[] 0 (.fresh 0 0 led)}).get? s.heap.objs.size=some {cls:=.type "set",dict:=none,data:=.set #[] 0 (.fresh 0 0 led)}:=yt _ rfl;have hT:Shared.TypeIs {s with heap:=s.heap.push {cls:=.type "set",dict:=none,data:=.set #[] 0 (.fresh 0 0 led)}} (.ref s.heap.objs.size) "set" :=⟨_,hS,rfl⟩;have g4:=F.called_set.init.lookup;have g5:=F.called_set.init.bind (.ref s.heap.objs.size)
   repeat (any_goals (first|assumption|wp_step))
   refine codeAny_mono (codeAny_call_builtin (R:=wants (λr s2=>r= .none/\∃h' tk,s2={s with heap:=h',toks:=tk}/\h'.SetOf (Jo4 prog w) s.heap.objs.size (inU zs) (uq zs).length/\(∀b o,s.heap.get? b=some o->h'.get? b=some o)) E) F.called_set.init.plain F.entry_set_init (check_set_init_1 hT ?_)) λr2 s2 hr2=>?_
   ·obtain ⟨⟨oc,od,oda,osl⟩,hol,hcl,nl,hdl⟩:=hl;simp only at hcl hdl;subst hcl hdl;have hol':(s.heap.push {cls:=.type "set",dict:=none,data:=.set #[] 0 (.fresh 0 0 led)}).get? l=some {cls:=.type "list",dict:=od,data:=.seq items nl,slots:=osl}:=ym _ hol;have g6:=F.sub_list_set;have g7:=F.sub_list_frozenset;have g8:(Value.type "list" ==Value.type "dict")=false:=by decide
    have hl1:(s.heap.push {cls:=.type "set",dict:=none,data:=.set #[] 0 (.fresh 0 0 led)}).IsList l items:=⟨_,hol',rfl,nl,rfl⟩;unfold Builtin.«set.__init__» noKeywords Builtin.Frozenset.updateFrom;generalize hPI:pyIter=PI
    wp_walk
    subst hPI;refine wpAny_pyIter_list hl1 (S4 (wpAny_runValue ?_));have lS:l < s.heap.objs.size:=yk hol;have h3:A.in1.in1.in1.handled=none:=by simp [hh]
    have nI:l≠(s.heap.push {cls:=.type "set",dict:=none,data:=.set #[] 0 (.fresh 0 0 led)}).objs.size:=by rw [yat];exact yy (ycl lS)
    have nS:s.heap.objs.size∉ [(s.heap.push {cls:=.type "set",dict:=none,data:=.set #[] 0 (.fresh 0 0 led)}).objs.size,l]:=by
     rw [yat];simp only [yo,yar,or_false,not_or];exact ⟨yy (ycf _),ybw lS⟩
    refine Ybb (Walks.list h3 _ l nI items) s.heap.objs.size nS zs hz hi hb (items.size - 0) 0 _ (by omega) (yaj _) ⟨⟨_,yt _ rfl,rfl,rfl⟩,hl1.push _⟩ ?S0 ?R0
    case S0=>
     have q:((s.heap.push {cls:=.type "set",dict:=none,data:=.set #[] 0 (.fresh 0 0 led)}).push {cls:=.type "list_iterator",data:=.fields #[.ref l,.int 0 0]}).get? s.heap.objs.size=some {cls:=.type "set",dict:=none,data:=.set #[] 0 (.fresh 0 0 led)}:=ym _ hS;refine ⟨_,#[],0,_,q,⟨rfl,rfl,rfl⟩,rfl,λe he=>by simp at he,λx=>?_,by decide,by rfl,rfl⟩;cases x <;> simp [inU,uq]
    case R0=>
    intro h' tk km hS';show Sc _ _ _ _ _ _;refine S5 ?_;show Sc _ _ (ret Value.none) _ _ _;refine S5 ⟨rfl,h',tk,rfl,hS',λb o e=>?_⟩;have lb:b < s.heap.objs.size:=yk e;refine km b o (yy lb) ?_ (ym _ (ym _ e));rw [yat];simp only [yo,yar,or_false];exact yy (ycl lb)
   ·cases r2 with
    |error e=>exact hr2
    |ok fl2=>
     cases fl2 with
     |ret r=>
      obtain ⟨rfl,h',tk,rfl,hS',hk'⟩:=hr2
      repeat (any_goals (first|assumption|wp_step))
      exact h _ _ hS' hk'
     |_=>exact hr2.elim
  |_=>exact hr.elim
end
noncomputable def TxS (P:S7) (w:S9) (a:S1) (zs:List Str):HO:=.ext λh=>h.SetOf (Jo4 P w) a (inU zs) (uq zs).length
theorem Sox (hS:h.SetOf (Jo4 P w) a (inU zs) (uq zs).length):Sah P w H h a (TxS P w a zs):=
 ⟨hS,(let ⟨o,_,_,_,ho,_⟩:=hS;⟨o,ho⟩),λ_ _ p k=>Ju7 p k (λ_=>rfl) rfl⟩
section
variable {X:Cx}
theorem Jwf (hc:X.calm=true):Jp9 X (.type "set") (λxs H Q=>∃(l:S1) (zs:List Str),xs= [.ref l]/\Ss X.K H l (zs.map V.str)/\zs.length<=2000/\∀a,H a=none->Q (.ref a) (upd H a (TxS X.prog X.w a zs))):=by
 rintro pins s σ H xs us Q I r ⟨l,zs,rfl,hq,hz,q⟩;obtain ⟨u,rfl,ru⟩:=Jq1 r;obtain rfl:u=Value.ref l:=ru;obtain ⟨its,rv,pl,_⟩:=I.list hq;have hlen:=rv.length;rw [ye] at hlen;refine Ycz (I.ok.hd hc) pl.isList (by simpa using hlen) (λi v hv=>?_) (by simp only [yp];unfold scanBound;omega) λh' tk hS kk=>⟨.ref s.heap.objs.size,_,I.laid kk (yg _) (Sox hS),rfl,q _ (I.hok.fresh (yg _))⟩
 ·have hv':=by simpa using hv
  have hlt:i < zs.length:=by have:=(yj.mp hv').1;omega
  obtain ⟨u,hu,ru⟩:=rv.get (by rw [yi,yh hlt];rfl);rw [hv'] at hu;cases hu;obtain ⟨t,rfl⟩:=ru;exact ⟨zs[i],t,yh hlt,rfl⟩
theorem Jwe:Jp9 X (.builtin "len") (λxs H Q=>∃(a:S1) (zs:List Str),xs= [.ref a]/\H a=some (TxS X.prog X.w a zs)/\Q (.int (uq zs).length) H):=by
 rintro pins s σ H xs us Q I r ⟨a,zs,rfl,ha,q⟩;obtain ⟨u,rfl,ru⟩:=Jq1 r;obtain rfl:u=Value.ref a:=ru;obtain ⟨o,es,ep,t,ho,hex,hd,_,_,hb,hf,hn⟩:=(I.hok a _ ha).1;refine call_len_set ho hex hd hf (by unfold scanBound at hb;omega) ?_;rw [hn];exact ⟨.int _,H,I.tok _,⟨_,rfl⟩,q⟩
end
theorem Jrp:bootBuiltins "sum" =some (.builtin "sum"):=by decide +kernel
theorem Smf:bootBuiltins "set" =some (.type "set"):=by decide +kernel
theorem Jto:bootBuiltins "enumerate" =some (.type "enumerate"):=by decide +kernel
noncomputable def Sml (ns:List Int):Prop:=ns.length<=2000/\∀n∈ns,-1000000<=n/\n<=1000000
theorem Jw6 (ns:List Int):∀i,i<=ns.length->preSum (λj=>ns.getD j 0) i=(ns.take i).sum
 |0,_=>by simp [preSum]
 |i+1,h=>by
  have ih:=Jw6 ns i (by omega);have hlt:i < ns.length:=by omega
  have e:ns.take (i+1)=ns.take i++ [ns[i]]:=by rw [yr,yh hlt];rfl
  have e2:ns.getD i 0=ns[i]:=by simp [yh hlt]
  rw [e,List.sum_append];simp only [List.sum_cons,List.sum_nil];show preSum (λj=>ns.getD j 0) i+ns.getD i 0=_;omega
theorem Yfg:∀(l:List Int),(∀n∈l,-1000000<=n/\n<=1000000)-> -1000000*(l.length:Int)<=l.sum/\l.sum<=1000000*(l.length:Int)
 | [],_=>by simp
 |n::r,h=>by
  have h1:=h n yah;have h2:=Yfg r λm hm=>h m (yac _ hm);rw [List.sum_cons,yaf];constructor <;> omega
section
variable {X:Cx}
inductive Srz (K:Sd) (xs:List V) (H:Hp) (Q:VK):Prop where
 |mk (a:S1) (ns:List Int) (_:xs= [.ref a]) (_:(Ss K H a (ns.map V.int)\/Su K H a (ns.map V.int))) (_:Sml ns) (_:Q (.int ns.sum) H)
theorem Jrq (hc:X.calm=true):Jp9 X (.builtin "sum") (Srz X.K):=by
 rintro pins s σ H xs us Q I r ⟨a,ns,rfl,hq,hs,q⟩;obtain ⟨u,rfl,ru⟩:=Jq1 r;obtain rfl:u=Value.ref a:=ru;have fit:∀j,j < ns.length->InLong ((λj=>ns.getD j 0) j)/\InLong (preSum (λj=>ns.getD j 0) (j+1)):=λj hj=>by
  have e2:ns.getD j 0=ns[j]:=by simp [yh hj]
  have b1:=hs.2 _ (yaq hj);have b2:=Yfg (ns.take (j+1)) λm hm=>hs.2 m (yct hm);have b3:(ns.take (j+1)).length<=2000:=by have:=hs.1;rw [yaa];omega
  rw [Jw6 ns (j+1) (by omega)];refine ⟨?_,?_⟩
  ·show InLong (ns.getD j 0);constructor <;> omega
  ·unfold InLong;constructor <;> omega
 have fin:∀{its:List S2} (rv:Sx (ns.map V.int) its) (i:Nat) v,its.toArray[i]?=some v->∃t,v= .int ((λj=>ns.getD j 0) i) t:=λ{its} rv i v hv=>by
  have hv':=by simpa using hv
  have hl:=rv.length;rw [ye] at hl;have hi:i < ns.length:=by have:=(yj.mp hv').1;omega
  obtain ⟨u',hu',ru'⟩:=rv.get (by rw [yi,yh hi];rfl);rw [hv'] at hu';cases hu';obtain ⟨t,rfl⟩:=ru';exact ⟨t,by simp [yh hi]⟩
 rcases hq with hq|hq
 ·obtain ⟨its,rv,pl,_⟩:=I.list hq;have hl:=rv.length;rw [ye] at hl;have ne:a≠s.heap.objs.size:=by obtain ⟨o,_,e,_⟩:=pl;exact yy (yk e)
  refine call_sum_walk (wpAny_pyIter_list pl.isList ⟨s.heap.objs.size,_,_,its.toArray.size,_,_,λj=>ns.getD j 0,rfl,Walks.list (A:=X.A.in1) (I.ok.hd hc) s.heap.objs.size a ne its.toArray,⟨⟨_,yt _ rfl,rfl,rfl⟩,pl.isList.push _⟩,λb hb=>?_,fin rv,λj hj=>fit j (by simp only [yp] at hj;omega),λh' tk t' k=>?_⟩)
  ·rw [yat];simp only [yo,yar,or_false] at hb;rcases hb with rfl|rfl
   ·exact ycf _
   ·obtain ⟨o,_,e,_⟩:=pl;exact ycl (yk e)
  ·have e:preSum (λj=>ns.getD j 0) its.toArray.size=ns.sum:=by
    rw [Jw6 ns _ (by simp only [yp];omega),yad (by simp only [yp];omega)]
   rw [e];exact ⟨.int _,H,I.kept λb o e=>k b o (λz=>by
    have z':=by simpa using z
    exact absurd (yk e) (by rw [z'];exact ybg _)) (ym _ e),⟨_,rfl⟩,q⟩
 ·obtain ⟨its,rv,pt,_⟩:=I.tuple hq;have hl:=rv.length;rw [ye] at hl;have ne:a≠s.heap.objs.size:=by obtain ⟨o,e,_⟩:=pt;exact yy (yk e)
  refine call_sum_walk (wpAny_pyIter_tuple (pt) ⟨s.heap.objs.size,_,_,its.toArray.size,_,_,λj=>ns.getD j 0,rfl,Walks.tuple (A:=X.A.in1) (I.ok.hd hc) s.heap.objs.size a ne its.toArray,⟨⟨_,yt _ rfl,rfl,rfl⟩,Heap.IsTuple.push pt _⟩,λb hb=>?_,fin rv,λj hj=>fit j (by simp only [yp] at hj;omega),λh' tk t' k=>?_⟩)
  ·rw [yat];simp only [yo,yar,or_false] at hb;rcases hb with rfl|rfl
   ·exact ycf _
   ·obtain ⟨o,e,_⟩:=pt;exact ycl (yk e)
  ·have e:preSum (λj=>ns.getD j 0) its.toArray.size=ns.sum:=by
    rw [Jw6 ns _ (by simp only [yp];omega),yad (by simp only [yp];omega)]
   rw [e];exact ⟨.int _,H,I.kept λb o e=>k b o (λz=>by
    have z':=by simpa using z
    exact absurd (yk e) (by rw [z'];exact ybg _)) (ym _ e),⟨_,rfl⟩,q⟩
end
noncomputable def ItE (K:Sd) (a:S1):It:=⟨λi H=>∃xs x,Ss K H a xs/\xs[i]?=some x,
 λi H x H'=>∃T u,H T=none/\x= .ref T/\(∀xs,Ss K H a xs->xs[i]?=some u)/\H'=upd H T (.tup [.int i,u]),
 λi H=>∃xs,Ss K H a xs/\i=xs.length⟩
noncomputable def Shm (e it l:S1) (i:Nat) (h:Sb):Prop:=(∃old,IsEnum h e it i old)/\h.IsListIter it l i
theorem Shm.obj (st:Shm e it l i h):∀b∈ [e,it],∃o,h.get? b=some o/\∀v,o.data≠ .cell v:=λb hb=>by
 obtain ⟨⟨old,h1⟩,⟨o4,h4,_,d4⟩⟩:=st;simp only [yo,yar,or_false] at hb;rcases hb with rfl|rfl
 ·exact ⟨_,h1,λv z=>by cases z⟩
 ·exact ⟨o4,h4,λv z=>by rw [d4] at z;cases z⟩
theorem Yfn {K} (e it l) (n1:e≠it) (n2:l≠e) (n3:l≠it):
  Turn P w K (.Tuple elts kt pt) (ItE K l) [e,it] e (Shm e it l) where
 mem:=by simp
 obj:=λi h st=>st.obj
 keep:=λi h h' st k=>by
  obtain ⟨⟨old,h1⟩,h2⟩:=st;exact ⟨⟨old,k e (by simp) _ h1⟩,h2.at λo q=>k it (by simp) o q⟩
 item:=by
  intro X hP hw hK hc i pins s σ H E I hf st hg;subst hP hw hK;obtain ⟨xs,x,q1,hx⟩:=hg;obtain ⟨its,rv,p1,_⟩:=I.list q1;obtain ⟨u,hu,ru⟩:=rv.get hx;have W:=WalksT.enumerate (prog:=X.prog) (w:=X.w) (I.ok.hd hc) e it l n1 n2 n3 its.toArray;obtain ⟨s1,s2⟩:=st;have li:=(yj.mp hu).1;refine W.item i s _ _ (by simp only [yp];omega) ⟨s1,s2,p1.isList⟩ λT vals h' tk hP fT tT mid kk=>⟨_,rfl,W.go elts kt pt i T _ _ _ mid λh'' st'' kk2=>?_⟩;obtain ⟨t,a,ha,rfl⟩:=hP;have ea:=by simpa [hu] using ha.symm
  subst ea;obtain ⟨t1,t2,_⟩:=st'';have kT:h''.IsTuple T #[.int i t,a]:=by
   obtain ⟨o,q,r⟩:=tT;exact ⟨o,kk2 T o (W.apart i T h' mid) q,r⟩
  refine ⟨.ref T,upd H T (.tup [.int i,x]),I.turnTup hf (λc o hc q=>kk2 c o hc (kk c o hc q)) fT ⟨(show 2<=S6 by decide),[.int i t,a],.cons ⟨t,rfl⟩ (.cons ru .nil),kT⟩,rfl,⟨T,x,I.hok.fresh fT,rfl,λxs' hq=>by rw [I.list_inj hq q1];exact hx,rfl⟩,⟨t1,t2⟩,λc hc=>?_⟩;rw [Jnc (λw'=>?_)]
  ·exact ((hf c hc).1)
  ·subst w';obtain ⟨o,q,_⟩:=Shm.obj (⟨s1,s2⟩) c hc;exact absurd (yk q) (ybm.mpr fT)
 done:=by
  intro X hP hw hK hc i pins s σ H E I hf st hg;subst hP hw hK;obtain ⟨xs,q1,hi⟩:=hg;obtain ⟨its,rv,p1,_⟩:=I.list q1;obtain ⟨s1,s2⟩:=st;have e1:=rv.length;have ei:i=its.toArray.size:=by simp only [yp];omega
  subst ei;exact (WalksT.enumerate (I.ok.hd hc) e it l n1 n2 n3 its.toArray).done s _ _ ⟨s1,s2,p1.isList⟩ λh' tk kk=>⟨rfl,I.turnMany hf λc o hc q=>kk c o hc q⟩
 self:=λ_ _ _ _ _ st h=>let ⟨_,q⟩:=st.1;wpAny_pyIter_enum q h
noncomputable def Sx4 (K:Sd) (ta:TA):TI:=λσ H R=>ta σ H λvs H1=>∃a,vs= [.ref a]/\(∃xs,Ss K H1 a xs)/\R (ItE K a) H1
theorem Jw5 (hg:Gl X "enumerate") (hm:X.mg "enumerate" =none) (ha:PA X [a] ta) (hs:starEach [a] X.env= [(false,eval a X.env)]:=by rfl):
  PI X (.Tuple elts kt pt) (.Call (.Name "enumerate" p) [a] [] pos) (Sx4 X.K ta):=by
 intro pins s σ H R I h;refine Call_ (Jqf I hg hm Jto (PyProof.Rows.callWith_type1 (thn (ha pos pins s σ H _ I h) λus s1 zq=>?_) (by rw [hs];rfl) rfl));obtain ⟨vs,H1,I1,r1,q1⟩:=zq;obtain ⟨l,rfl,⟨xs,q1⟩,q⟩:=q1;obtain ⟨u,rfl,r2⟩:=Jq1 r1;obtain rfl:u=Value.ref l:=r2;obtain ⟨its,rv,p1,_⟩:=I1.list q1;have a1:l < s1.heap.objs.size:=by obtain ⟨o,n,e,_⟩:=p1;exact yk e
 refine call_enumerate_list p1.isList λh' z1 z2 z3 kk=>?_;have I2:Sm X pins σ H1 {s1 with heap:=h'}:=I1.kept kk;refine wpAny_pyIter_enum z1 ⟨_,_,_,_,H1,rfl,I2,Yfn (s1.heap.objs.size+1) s1.heap.objs.size l (Nat.succ_ne_self _) (yy (ycl a1)) (yy a1),⟨⟨_,z1⟩,z2⟩,λc hc=>?_,q⟩;have hc':s1.heap.objs.size<=c:=by
  simp only [yo,yar,or_false] at hc;rcases hc with rfl|rfl
  ·exact Nat.le_succ _
  ·exact yg _
 exact I1.fpOk hc' (I1.hok.fresh hc')
section
variable {prog:S7} {w:S9} {A:Sa} {E:S2->S3->Prop} {s:S3}
theorem Jzq {x} {Q} (hit:s.heap.IsTupleIter it t i) (ht:s.heap.IsTuple t items) (hx:items[i]?=some x)
  (hQ:∀h',h'.IsTupleIter it t (i+1)->ybh it s.heap h'->Q x {s with heap:=h'}):Sc (model prog w) A (Builtin.SmallTypes.nextOf (.ref it)) Q E s:=by
 obtain ⟨o,ho,hc,hd⟩:=id hit;obtain ⟨ol,hol,_,nl,hdl⟩:=ht;have hT:s.TypeIs (.ref it) "tuple_iterator" :=⟨o,ho,hc⟩;refine S4 (wpAny_callSpecial?_slot hT slot_tupleiter_next (wpAny_call_entry slot_tupleiter_next hT entry_tupleiter_next ?_ (args_tupleiter_next _)));refine S4 (m:=field (.ref it) 0) (wpAny_field ho hd rfl (S4 (wpAny_field ho hd rfl (S4 (wpAny_seqItems hol hdl ?_)))));simp only [yax,hx];refine S4 (wpAny_setField ho hd (by simp) (S5 ⟨x,rfl,S5 (hQ _ ⟨_,yck _ ho (Obj.isFreed_of_fields (Obj.data_mapFields hd _)),(Obj.cls_mapFields ..).trans hc,?_⟩ (ybh.update ..))⟩));rw [Obj.data_mapFields hd];simp [rawInt]
theorem Ya0 {Q} (hh:A.handled=none) (hit:s.heap.IsTupleIter it t i) (ht:s.heap.IsTuple t items) (hx:items[i]?=none)
  (hE:∀h' e,Heap.ExtBut it s.heap h'->(∃o,h'.get? e=some o/\o.cls= .type "StopIteration")->E (.ref e) {s with heap:=h'}):Sc (model prog w) A (Builtin.SmallTypes.nextOf (.ref it)) Q E s:=by
 obtain ⟨o,ho,hc,hd⟩:=id hit;obtain ⟨ol,hol,_,nl,hdl⟩:=ht;have hT:s.TypeIs (.ref it) "tuple_iterator" :=⟨o,ho,hc⟩;refine S4 (wpAny_callSpecial?_slot hT slot_tupleiter_next (wpAny_call_entry slot_tupleiter_next hT entry_tupleiter_next ?_ (args_tupleiter_next _)));refine S4 (m:=field (.ref it) 0) (wpAny_field ho hd rfl (S4 (wpAny_field ho hd rfl (S4 (wpAny_seqItems hol hdl ?_)))));simp only [yax,hx];refine S4 (wpAny_rule (S4 (wpAny_setField ho hd (by simp) (S4 (S4 (wpAny_newObj_type (S4 (wpAny_of_eq (by first|rfl|(simp only [firstArgMember];rfl)) (wpAny_newObj_type (S4 (wpAny_handled ?_)) (by size_fits)))) (by size_fits)))))))
 first|rw [hh]|rw [hh]
 exact S4 (S5 (wpAny_throw (hE _ _ (((ybh.update ..).extBut.push _).push _) ⟨_,yt _ rfl,rfl⟩)))
end
theorem Juk (hh:A.handled=none) (it l) (hne:l≠it) (items):
  Draws prog w A it [it,l] items.size (λi v=>items[i]?=some v) (λi h=>h.IsTupleIter it l i/\h.IsTuple l items) where
 live:=λ_ _ st=>let ⟨o,ho,_⟩:=st.1;⟨o,ho⟩
 frame:=λ_ _ _ st hk=>⟨st.1.at λo e=>hk it (by simp) o e,st.2.at λo e=>hk l (by simp) o e⟩
 item:=λi s Q E hi st hQ=>Jzq st.1 st.2 (x:=items[i]) (by simp [hi]) λh' hit' hs'=>hQ _ h' s.toks (by simp [hi]) ⟨hit',st.2.extBut hs'.extBut hne⟩ hs'
 done:=λs Q E st hE=>Ya0 hh st.1 st.2 (by simp) hE
set_option maxRecDepth 100000 in
set_option maxHeartbeats 2000000 in
theorem Yds (l) (items) (n) (dct) (sl):
  Meets (Builtin.«enumerate.__new__» ⟨[.type "enumerate",.ref l],[]⟩) (λ_ R s=>s.heap.get? l=some {cls:=.type "tuple",dict:=dct,data:=.seq items n,slots:=sl}/\
   R (.ok (.ret (.ref (s.heap.push {cls:=.type "tuple_iterator",data:=.fields #[.ref l,.int 0 0]}).objs.size)))
    {s with heap:=(s.heap.push {cls:=.type "tuple_iterator",data:=.fields #[.ref l,.int 0 0]}).push {cls:=.type "enumerate",data:=.fields #[.none,.bool false,.ref s.heap.objs.size,rawInt 0,.none,.none]}}):=
 .of_wp λprog w A R s h=>by
  obtain ⟨hp,g,d,tk,os⟩:=s;obtain ⟨hl,h⟩:=h;have e1:=sub_enumerate;have e2:Heap.IsTuple (Shared.heap ⟨hp,g,d,tk,os⟩) l items:=⟨_,hl,rfl,n,rfl⟩
  wp_walk using AutoSeq1.wpAny_loadPart' hl
  refine wpAny_stack_any λst=>S5 ?_;split
  ·rename_i c _ _ _ _ _
   cases (c==Value.type "enumerate")
   ·wp_walk using AutoSeq1.wpAny_loadPart' hl,wpAny_pyIter_tuple e2
    exact ⟨_,rfl,h⟩
   ·wp_walk using AutoSeq1.wpAny_loadPart' hl,wpAny_pyIter_tuple e2
    exact ⟨_,rfl,h⟩
  ·wp_walk using AutoSeq1.wpAny_loadPart' hl,wpAny_pyIter_tuple e2
   exact ⟨_,rfl,h⟩
section
variable {prog:S7} {w:S9} {A:Sa} {E:S2->S3->Prop} {s:S3}
theorem Yc7 (hL:s.heap.IsTuple l items)
  (h:∀h',IsEnum h' (s.heap.objs.size+1) s.heap.objs.size 0 .none->h'.IsTupleIter s.heap.objs.size l 0->(∀b o,s.heap.get? b=some o->h'.get? b=some o)->Q (.ref (s.heap.objs.size+1)) {s with heap:=h'}):
  Sc (model prog w) A (call (.type "enumerate") [.ref l]) Q E s:=by
 obtain ⟨⟨c,dct,dt,sl⟩,hl,hc,n,hd⟩:=hL;subst hc hd;refine callType_new F.called_enumerate (by decide) (F.typeCall_enumerate_1 _) (F.newCall_enumerate_1 _) (λobj=>F.args_object_init_2 obj _) F.entry_enumerate_new (Yds l items n dct sl) ⟨hl,?_⟩;have hz:(s.heap.push {cls:=.type "tuple_iterator",data:=.fields #[.ref l,.int 0 0]}).objs.size=s.heap.objs.size+1:=yat ..;rw [hz];have he:=by
  have q:=yt (s.heap.push {cls:=.type "tuple_iterator",data:=.fields #[.ref l,.int 0 0]}) (o:={cls:=.type "enumerate",data:=.fields #[.none,.bool false,.ref s.heap.objs.size,rawInt 0,.none,.none]}) rfl;rw [hz] at q;exact q
 exact ⟨⟨_,he,rfl⟩,h _ he ⟨_,ym _ (yt _ rfl),rfl,rfl⟩ λb o x=>ym _ (ym _ x)⟩
end
noncomputable def ItU (K:Sd) (a:S1):It:=⟨λi H=>∃xs x,Su K H a xs/\xs[i]?=some x,
 λi H x H'=>∃T u,H T=none/\x= .ref T/\(∀xs,Su K H a xs->xs[i]?=some u)/\H'=upd H T (.tup [.int i,u]),
 λi H=>∃xs,Su K H a xs/\i=xs.length⟩
noncomputable def Shn (e it l:S1) (i:Nat) (h:Sb):Prop:=(∃old,IsEnum h e it i old)/\h.IsTupleIter it l i
theorem Shn.obj (st:Shn e it l i h):∀b∈ [e,it],∃o,h.get? b=some o/\∀v,o.data≠ .cell v:=λb hb=>by
 obtain ⟨⟨old,h1⟩,⟨o4,h4,_,d4⟩⟩:=st;simp only [yo,yar,or_false] at hb;rcases hb with rfl|rfl
 ·exact ⟨_,h1,λv z=>by cases z⟩
 ·exact ⟨o4,h4,λv z=>by rw [d4] at z;cases z⟩
theorem Yd5 {K} (e it l) (n1:e≠it) (n2:l≠e) (n3:l≠it):
  Turn P w K (.Tuple elts kt pt) (ItU K l) [e,it] e (Shn e it l) where
 mem:=by simp
 obj:=λi h st=>st.obj
 keep:=λi h h' st k=>by
  obtain ⟨⟨old,h1⟩,h2⟩:=st;exact ⟨⟨old,k e (by simp) _ h1⟩,h2.at λo q=>k it (by simp) o q⟩
 item:=by
  intro X hP hw hK hc i pins s σ H E I hf st hg;subst hP hw hK;obtain ⟨xs,x,q1,hx⟩:=hg;obtain ⟨its,rv,p1,_⟩:=I.tuple q1;obtain ⟨u,hu,ru⟩:=rv.get hx;have hh:X.A.in1.handled=none:=I.ok.hd hc;have W:=WalksT.enumerateD (prog:=X.prog) (w:=X.w) (Juk hh it l n3 its.toArray) e n1 (by simp [n1,yx n2]) (by simp);obtain ⟨s1,s2⟩:=st;have li:=(yj.mp hu).1;refine W.item i s _ _ (by simp only [yp];omega) ⟨s1,s2,p1⟩ λT vals h' tk hP fT tT mid kk=>⟨_,rfl,W.go elts kt pt i T _ _ _ mid λh'' st'' kk2=>?_⟩;obtain ⟨t,a,ha,rfl⟩:=hP;have ea:=by simpa [hu] using ha.symm
  subst ea;obtain ⟨t1,t2,_⟩:=st'';have kT:h''.IsTuple T #[.int i t,a]:=by
   obtain ⟨o,q,r⟩:=tT;exact ⟨o,kk2 T o (W.apart i T h' mid) q,r⟩
  refine ⟨.ref T,upd H T (.tup [.int i,x]),I.turnTup hf (λc o hc q=>kk2 c o hc (kk c o hc q)) fT ⟨(show 2<=S6 by decide),[.int i t,a],.cons ⟨t,rfl⟩ (.cons ru .nil),kT⟩,rfl,⟨T,x,I.hok.fresh fT,rfl,λxs' hq=>by rw [I.tuple_inj hq q1];exact hx,rfl⟩,⟨t1,t2⟩,λc hc=>?_⟩;rw [Jnc (λw'=>?_)]
  ·exact ((hf c hc).1)
  ·subst w';obtain ⟨o,q,_⟩:=Shn.obj (⟨s1,s2⟩) c hc;exact absurd (yk q) (ybm.mpr fT)
 done:=by
  intro X hP hw hK hc i pins s σ H E I hf st hg;subst hP hw hK;obtain ⟨xs,q1,hi⟩:=hg;obtain ⟨its,rv,p1,_⟩:=I.tuple q1;have hh:X.A.in1.handled=none:=I.ok.hd hc;obtain ⟨s1,s2⟩:=st;have e1:=rv.length;have ei:i=its.toArray.size:=by simp only [yp];omega
  subst ei;exact (WalksT.enumerateD (Juk hh it l n3 its.toArray) e n1 (by simp [n1,yx n2]) (by simp)).done s _ _ ⟨s1,s2,p1⟩ λh' tk kk=>⟨rfl,I.turnMany hf λc o hc q=>kk c o hc q⟩
 self:=λ_ _ _ _ _ st h=>let ⟨_,q⟩:=st.1;wpAny_pyIter_enum q h
noncomputable def Srb (K:Sd) (ta:TA):TI:=λσ H R=>ta σ H λvs H1=>∃a,vs= [.ref a]/\(∃xs,Su K H1 a xs)/\R (ItU K a) H1
theorem Yp (hg:Gl X "enumerate") (hm:X.mg "enumerate" =none) (ha:PA X [a] ta) (hs:starEach [a] X.env= [(false,eval a X.env)]:=by rfl):
  PI X (.Tuple elts kt pt) (.Call (.Name "enumerate" p) [a] [] pos) (Srb X.K ta):=by
 intro pins s σ H R I h;refine Call_ (Jqf I hg hm Jto (PyProof.Rows.callWith_type1 (thn (ha pos pins s σ H _ I h) λus s1 zq=>?_) (by rw [hs];rfl) rfl));obtain ⟨vs,H1,I1,r1,q1⟩:=zq;obtain ⟨l,rfl,⟨xs,q1⟩,q⟩:=q1;obtain ⟨u,rfl,r2⟩:=Jq1 r1;obtain rfl:u=Value.ref l:=r2;obtain ⟨its,rv,p1,_⟩:=I1.tuple q1;have a1:l < s1.heap.objs.size:=by obtain ⟨o,e,_⟩:=p1;exact yk e
 refine Yc7 (p1) λh' z1 z2 kk=>?_;have I2:Sm X pins σ H1 {s1 with heap:=h'}:=I1.kept kk;refine wpAny_pyIter_enum z1 ⟨_,_,_,_,H1,rfl,I2,Yd5 (s1.heap.objs.size+1) s1.heap.objs.size l (Nat.succ_ne_self _) (yy (ycl a1)) (yy a1),⟨⟨_,z1⟩,z2⟩,λc hc=>?_,q⟩;have hc':s1.heap.objs.size<=c:=by
  simp only [yo,yar,or_false] at hc;rcases hc with rfl|rfl
  ·exact Nat.le_succ _
  ·exact yg _
 exact I1.fpOk hc' (I1.hok.fresh hc')
noncomputable abbrev DrA (prog:S7) (w:S9) (i l:S1) (n:Nat) (P:Nat->S2->Prop) (St:Nat->Sb->Prop):Prop:=∀A:Sa,A.handled=none->Draws prog w A i [i,l] n P St
noncomputable def SqB (K:Sd) (H:Hp) (l:S1):Bool->List V->Prop
 |false,xs=>Ss K H l xs
 |true,xs=>Su K H l xs
noncomputable def IsB (h:Sb) (l:S1):Bool->Array S2->Prop
 |false,items=>h.IsList l items
 |true,items=>h.IsTuple l items
noncomputable def IS (it l:S1):Bool->Nat->Sb->Prop
 |false,i,h=>h.IsListIter it l i
 |true,i,h=>h.IsTupleIter it l i
noncomputable def itO (l:S1):Bool->Obj
 |false=>{cls:=.type "list_iterator",data:=.fields #[.ref l,.int 0 0]}
 |true=>{cls:=.type "tuple_iterator",data:=.fields #[.ref l,.int 0 0]}
theorem IS.at (x:IS it l b i h) (k:∀o,h.get? it=some o->h'.get? it=some o):IS it l b i h':=by
 cases b
 ·exact Heap.IsListIter.at x k
 ·exact Heap.IsTupleIter.at x k
theorem IS.obj (x:IS it l b i h):∃o,h.get? it=some o/\∀v,o.data≠ .cell v:=by
 cases b
 ·obtain ⟨o,e,_,d⟩:=x;exact ⟨o,e,λv z=>by rw [d] at z;cases z⟩
 ·obtain ⟨o,e,_,d⟩:=x;exact ⟨o,e,λv z=>by rw [d] at z;cases z⟩
theorem drA (b) (ne:l≠it) (items):DrA prog w it l items.size (λi v=>items[i]?=some v) (λi h=>IS it l b i h/\IsB h l b items):=λA hh=>by
 cases b
 ·exact Draws.list hh it l ne items
 ·exact Juk hh it l ne items
section
variable {prog:S7} {w:S9} {A:Sa} {E:S2->S3->Prop} {s:S3}
theorem IsB.push (x:IsB h l b items) (o):IsB (h.push o) l b items:=by
 cases b
 ·exact Heap.IsList.push x o
 ·exact Heap.IsTuple.push x o
theorem IsB.lt (x:IsB h l b items):l < h.objs.size:=by
 cases b
 ·obtain ⟨o,e,_⟩:=x;exact yk e
 ·obtain ⟨o,e,_⟩:=x;exact yk e
theorem Jtq {Q} (x:IsB s.heap l b items) (hQ:Q (.ref s.heap.objs.size) {s with heap:=s.heap.push (itO l b)}):Sc (model prog w) A (pyIter (.ref l)) Q E s:=by
 cases b
 ·exact wpAny_pyIter_list x hQ
 ·exact wpAny_pyIter_tuple x hQ
end
section
variable {X:Cx} {pins:List (S1×Obj)} {σ:St} {H:Hp} {s:S3}
theorem Sm.seqB (I:Sm X pins σ H s) (h:SqB X.K H l b xs):∃its,Sx xs its/\IsB s.heap l b its.toArray:=by
 cases b
 ·obtain ⟨its,rv,p,_⟩:=I.list h;exact ⟨its,rv,p.isList⟩
 ·obtain ⟨its,rv,p,_⟩:=I.tuple h;exact ⟨its,rv,p⟩
theorem Sm.seqB_inj (I:Sm X pins σ H s) (h:SqB X.K H l b xs) (h':SqB X.K H l b ys):xs=ys:=by
 cases b
 ·exact I.list_inj h h'
 ·exact I.tuple_inj h h'
end
structure ZE where
 i:S1
 l:S1
 b:Bool
 its:Array S2
noncomputable abbrev Jrj (h:Sb) (T:S1) (vs:List S2):Prop:=h.get? T=some {cls:=.type "tuple",data:=.seq vs.toArray}
structure ZA (z TI TO:S1) (zs:List ZE):Prop where
 nd:(z::TI::TO::zs.map (·.i)).Nodup
 m:∀q∈zs,q.l∉z::TI::TO::zs.map (·.i)
theorem Ycf {α β:Type} {M:Model} {A:Sa} {E:S2->S3->Prop} {f:α->β->Sem (ForInStep β)} {b:β} {l:List α} {Q:β->S3->Prop}:
  ∀{s:S3} (J:Nat->S3->Prop),(∀j a s,l[j]?=some a->J j s->Sc M A (f a b) (λr s'=>r= .yield b/\J (j+1) s') E s)->J 0 s->(∀s',J l.length s'->Q b s')->Sc M A (forIn l b f) Q E s:=by
 induction l with
 |nil=>
  intro s J st h0 hq;rw [List.forIn_nil];exact S5 (hq s h0)
 |cons a l ih=>
  intro s J st h0 hq;rw [yby];refine S4 (wpAny_mono (st 0 a s rfl h0) (λr s' ⟨e,j⟩=>?_) λ_ _ z=>z);subst e;exact ih (λj=>J (j+1)) (λj a s e=>st (j+1) a s (by simpa using e)) j hq
section
variable {prog:S7} {w:S9} {A:Sa} {E:S2->S3->Prop} {s:S3} {z TI TO:S1} {zs:List ZE} {k:Nat}
theorem Ssu {k} {Q} {vs:List S2} (sz:vs.length<=S6) (hT:Jrj s.heap T vs) (h:∀h',Jrj h' T (vs.set k x)->ybh T s.heap h'->Q () {s with heap:=h'}):Sc (model prog w) A (updateSeq T (·.setIfInBounds k x)) Q E s:=by
 refine wpAny_updateSeq hT rfl (h _ ?_ (ybh.update ..)) (by simpa using sz) (by simp;omega);show _=some _;rw [yck _ hT rfl];simp [Obj.mapSeq]
theorem ZA.ne (Z:ZA z TI TO zs):z≠TI/\z≠TO/\TI≠TO/\(∀q∈zs,q.i≠z/\q.i≠TI/\q.i≠TO/\q.l≠z/\q.l≠TI/\q.l≠TO)/\(∀q∈zs,∀r∈zs,q.l≠r.i)/\∀(i j:Nat) (q r:ZE),zs[i]?=some q->zs[j]?=some r->i≠j->q.i≠r.i:=by
 obtain ⟨nd,m⟩:=Z;simp only [ybq,yo,not_or] at nd;obtain ⟨⟨h1,h2,h3⟩,⟨h4,h5⟩,h6,h7⟩:=nd;have mem:∀q∈zs,q.i∈zs.map (·.i):=λq hq=>ybc hq;refine ⟨h1,h2,h4,λq hq=>?_,λq hq r hr e=>?_,λi j q r hi hj ne e=>ne ?_⟩
 ·have q1:=mem q hq;have q2:=m q hq;simp only [yo,not_or] at q2;exact ⟨λe=>h3 (e▸q1),λe=>h5 (e▸q1),λe=>h6 (e▸q1),q2.1,q2.2.1,q2.2.2.1⟩
 ·have q2:=m q hq;simp only [yo,not_or] at q2;exact q2.2.2.2 (e▸mem r hr)
 ·have e1:(zs.map (·.i))[i]?=some q.i:=by rw [yi,hi];rfl
  have e2:(zs.map (·.i))[j]?=some q.i:=by rw [yi,hj,e];rfl
  obtain ⟨li,ei⟩:=yj.mp e1;obtain ⟨lj,ej⟩:=yj.mp e2;have pw:=List.pairwise_iff_getElem.mp h7;rcases Nat.lt_trichotomy i j with c|c|c
  ·exact absurd (ei.trans ej.symm) (pw i j li lj c)
  ·exact c
  ·exact absurd (ej.trans ei.symm) (pw j i lj li c)
theorem IsB.at {h h':Sb} {l:S1} {b:Bool} {items:Array S2} (x:IsB h l b items) (k:∀o,h.get? l=some o->h'.get? l=some o):IsB h' l b items:=by
 cases b
 ·obtain ⟨o,e,r⟩:=x;exact ⟨o,k o e,r⟩
 ·obtain ⟨o,e,r⟩:=x;exact ⟨o,k o e,r⟩
theorem IS.but {it l:S1} {b:Bool} {i:Nat} {h h':Sb} {c:S1} (e:it≠c) (sb:ybh c h h') (x:IS it l b i h):IS it l b i h':=x.at λo q=>sb.extBut _ _ e q
theorem Yhw {Q:S2->S3->Prop} {q0:ZE} {ws:List S2} (Z:ZA z TI TO (q0::zs)) (hz:IsZip s.heap z TI TO .none) (hTI:Jrj s.heap TI ((q0::zs).map λq=>.ref q.i)) (hTO:Jrj s.heap TO ws) (hw:ws.length=(q0::zs).length) (hs:(q0::zs).length<=S6)
  (hh:A.handled=none) (hq:∀q∈q0::zs,IsB s.heap q.l q.b q.its/\k < q.its.size/\IS q.i q.l q.b k s.heap)
  (hQ:∀(xs:List S2) h' tk,xs.length=(q0::zs).length->(∀(j:Nat) (q:ZE) (x:S2),(q0::zs)[j]?=some q->xs[j]?=some x->q.its[k]?=some x)->IsZip h' z TI TO (rawInt s.heap.objs.size)->Jrj h' TO xs->(∀q∈q0::zs,IS q.i q.l q.b (k+1) h')->Jrj h' s.heap.objs.size xs->
   (∀d o,d≠z->d≠TO->d∉(q0::zs).map (·.i)->s.heap.get? d=some o->h'.get? d=some o)->Q (.ref s.heap.objs.size) {s with heap:=h',toks:=tk}):
  Sc (model prog w) A (Builtin.«zip.__next__» ⟨[.ref z],[]⟩) (λfin s'=>∃v,fin= .done (.ret v)/\Q v s') E s:=by
 obtain ⟨zTI,zTO,TITO,ap,al,ai⟩:=Z.ne;show Sc _ _ (field (.ref z) 2 >>=_) _ _ _;refine S4 (wpAny_field hz rfl (x:=.bool false) rfl ?_);refine S4 (m:=field (.ref z) 3) (wpAny_field hz rfl (x:=.ref TI) rfl ?_);refine S4 (wpAny_seqItems hTI rfl ?_);refine S4 (m:=Builtin.SmallTypes.ownedTupleIsFree (.ref z)) ?_;refine S4 (wpAny_field hz rfl (x:=.none) rfl (S5 ?_));refine S4 (wpAny_rule (S4 (wpAny_field hz rfl (x:=.ref TO) rfl (S4 (wpAny_setField_rec hz (by simp) λh1 hz1 s1=>?_)))));refine S4 ?_;refine Ycf (λj s'=>∃(h':Sb) (tk:_) (vs:List S2),s'={s with heap:=h',toks:=tk}/\h'.objs.size=s.heap.objs.size/\IsZip h' z TI TO .ellipsis/\Jrj h' TO vs/\vs.length=(q0::zs).length/\(∀i,i < j->∀(q:ZE) (x:S2),(q0::zs)[i]?=some q->vs[i]?=some x->q.its[k]?=some x)/\(∀(i:Nat) (q:ZE),(q0::zs)[i]?=some q->IS q.i q.l q.b (if i < j then k+1 else k) h')/\∀d o,d≠z->d≠TO->d∉(q0::zs).map (·.i)->s.heap.get? d=some o->h'.get? d=some o) (λj a s' hj hJ=>?_) ?_ ?_
 ·obtain ⟨q,hq',rfl⟩:∃q,(q0::zs)[j]?=some q/\a=(.ref q.i,j):=by
   rw [List.getElem?_zipIdx] at hj;obtain ⟨v,hv,rfl⟩:=yba.mp hj;rw [yi] at hv;obtain ⟨q,h1,rfl⟩:=yba.mp hv;exact ⟨q,h1,by simp⟩
  have mq:=yq hq';obtain ⟨a1,a2,a3,a4,a5,a6⟩:=ap q mq;obtain ⟨b1,b2,b3⟩:=hq q mq;obtain ⟨h',tk,vs,rfl,sz,hz',ho,lw,don,st,fr⟩:=hJ;have stq:=st j q hq';rw [if_neg (ybg j)] at stq;have iB:IsB h' q.l q.b q.its:=b1.at λo e=>fr _ _ a4 a6 (λhm=>by
   obtain ⟨r,hr,e⟩:=yn.mp hm;exact al q mq r hr e.symm) e
  refine S4 (wpAny_onRaise ?_);refine S4 (m:=Builtin.SmallTypes.nextOf (.ref q.i)) ((drA (prog:=prog) (w:=w) q.b (al q mq q mq) q.its A hh).item k _ _ _ b2 ⟨stq,iB⟩ λx h2 k2 px u1 s2=>S5 ?_);have o2:Jrj h2 TO vs:=s2.extBut _ _ (yx a3) ho;refine S4 (wpAny_seqItems o2 rfl (S4 (Ssu (by omega) o2 λh3 o3 s3=>S4 (wpAny_letGo (S5 ?_)))));refine ⟨rfl,h3,k2,vs.set j x,rfl,by rw [s3.1,s2.1,sz],s3.extBut _ _ zTO (s2.extBut _ _ (yx a1) hz'),o3,by rw [ybl];exact lw,λi hi r y hr hy=>?_,λi r hr=>?_,λd o c1 c2 c3 e=>s3.extBut _ _ c2 (s2.extBut _ _ (λz=>c3 (z▸ybc mq)) (fr d o c1 c2 c3 e))⟩
  ·rw [ycm] at hy;split at hy
   ·rename_i ij
    subst ij;rw [hq'] at hr;cases hr;split at hy
    ·cases hy;exact px
    ·cases hy
   ·exact don i (by omega) r y hr hy
  ·by_cases ij:i=j
   ·subst ij;rw [hq'] at hr;cases hr;rw [if_pos (ycf i)];exact IS.but a3 s3 u1.1
   ·have e:(if i < j+1 then k+1 else k)=(if i < j then k+1 else k):=by split <;> split <;> omega
    rw [e];exact IS.but (ap r (yq hr)).2.2.1 s3 (IS.but (ai i j r q hr hq' ij) s2 (st i r hr))
 ·refine ⟨h1,_,ws,rfl,s1.1,hz1,s1.extBut _ _ (yx zTO) hTO,hw,λi hi=>absurd hi (Nat.not_lt_zero i),λi q hi=>?_,λd o c1 _ _ e=>s1.extBut _ _ c1 e⟩;rw [if_neg (Nat.not_lt_zero i)];exact IS.but (ap q (yq hi)).1 s1 (hq q (yq hi)).2.2
 ·rintro s' ⟨h9,tk,vs,rfl,sz,zz,o9,lw,don,st,fr⟩;have ln:((List.map (λq:ZE=>Value.ref q.i) (q0::zs)).toArray.toList.zipIdx).length=(q0::zs).length:=by simp
  rw [ln] at don st;refine S4 (wpAny_seqItems o9 rfl (S4 (wpAny_newTuple ?_)));have zlt:z < h9.objs.size:=yk zz;refine S4 (m:=Builtin.SmallTypes.ownedTupleHandOut (.ref z) (.ref h9.objs.size)) ?_;have zp:IsZip (h9.push {cls:=.type "tuple",data:=.seq vs.toArray}) z TI TO .ellipsis:=ym _ zz;refine S4 (wpAny_setField_rec zp (by simp) λh10 hz10 s10=>?_);refine wpAny_setField_rec hz10 (by simp) λh11 hz11 s11=>?_;have up:∀d o,d≠z->h9.get? d=some o->h11.get? d=some o:=λd o c1 e=>s11.extBut _ _ c1 (s10.extBut _ _ c1 (ym _ e));have nw:Jrj h11 h9.objs.size vs:=s11.extBut _ _ (ybw zlt) (s10.extBut _ _ (ybw zlt) (yt _ rfl));rw [sz] at hz11 nw;refine S5 ⟨_,rfl,?_⟩;dsimp only;rw [sz];exact hQ vs h11 _ lw (λj q x hj hx=>don j (yj.mp hj).1 q x hj hx) hz11 (up _ _ (yx zTO) o9) (λq mq=>by
   obtain ⟨j,hj⟩:=ybk mq;have:=st j q hj;rw [if_pos (yj.mp hj).1] at this;exact this.at λo e=>up _ _ (ap q mq).1 e) nw λd o c1 c2 c3 e=>up d o c1 (fr d o c1 c2 c3 e)
theorem Sp9 {Q:_} {q0:ZE} (Z:ZA z TI TO (q0::zs)) (hz:IsZip s.heap z TI TO .none) (hTI:Jrj s.heap TI ((q0::zs).map λq=>.ref q.i)) (hh:A.handled=none) (hb:IsB s.heap q0.l q0.b q0.its) (t1:IS q0.i q0.l q0.b q0.its.size s.heap)
  (hE:∀h' e,(∀d o,d≠z->d≠q0.i->s.heap.get? d=some o->h'.get? d=some o)->(∃o,h'.get? e=some o/\o.cls= .type "StopIteration")->E (.ref e) {s with heap:=h'}):
  Sc (model prog w) A (Builtin.«zip.__next__» ⟨[.ref z],[]⟩) Q E s:=by
 obtain ⟨zTI,zTO,TITO,ap,al,ai⟩:=Z.ne;obtain ⟨a1,a2,a3,a4,a5,a6⟩:=ap q0 yah;show Sc _ _ (field (.ref z) 2 >>=_) _ _ _;refine S4 (wpAny_field hz rfl rfl (S4 (wpAny_field hz rfl rfl (S4 (wpAny_seqItems hTI rfl ?_)))));refine S4 (S4 (wpAny_field hz rfl rfl (S5 (S4 (wpAny_rule (S4 (wpAny_field hz rfl rfl (S4 (wpAny_setField_rec hz (by simp) λh1 hz1 s1=>S4 ?_)))))))));have D:=drA (prog:=prog) (w:=w) q0.b (al q0 yah q0 yah) q0.its A hh;refine S4 (S4 (wpAny_onRaise (S4 (D.done _ _ _ ⟨IS.but a1 s1 t1,hb.at λo e=>s1.extBut _ _ a4 e⟩ λh2 e s2 he=>?_))));obtain ⟨oe,hoe,hce⟩:=he;have hz2:=s2 _ _ (yx a1) hz1;have ez:e≠z:=λq=>by subst q;rw [hz2] at hoe;cases hoe;simp at hce
 exact wpAny_setField_rec hz2 (by simp) λh3 _ s3=>hE h3 e (λd o c1 c2 q=>s3.extBut _ _ c1 (s2 _ _ c2 (s1.extBut _ _ c1 q))) ⟨oe,s3.extBut _ _ ez hoe,hce⟩
noncomputable def ZNS (z TI TO:S1) (zs:List ZE) (i:Nat) (h:Sb):Prop:=IsZip h z TI TO .none/\Jrj h TI (zs.map λq=>.ref q.i)/\(∃ws:List S2,ws.length=zs.length/\Jrj h TO ws)/\∀q∈zs,IS q.i q.l q.b i h/\IsB h q.l q.b q.its
noncomputable def ZNM (z TI TO:S1) (zs:List ZE) (i:Nat) (T:S1) (h:Sb):Prop:=IsZip h z TI TO (rawInt T)/\Jrj h TI (zs.map λq=>.ref q.i)/\(∃ws:List S2,ws.length=zs.length/\Jrj h TO ws)/\(∀q∈zs,IS q.i q.l q.b (i+1) h/\IsB h q.l q.b q.its)/\T∉z::TO::zs.map (·.i)
theorem Yfp {q0:ZE} (hh:A.handled=none) (Z:ZA z TI TO (q0::zs)) (hs:(q0::zs).length<=S6) (hn:∀q∈q0::zs,q0.its.size<=q.its.size):
  WalksT prog w A z (z::TI::TO::((q0::zs).map (·.i)++(q0::zs).map (·.l))) (z::TO::(q0::zs).map (·.i)) q0.its.size
   (λi vals=>vals.size=(q0::zs).length/\∀(j:Nat) (q:ZE) (x:S2),(q0::zs)[j]?=some q->vals[j]?=some x->q.its[i]?=some x) (ZNS z TI TO (q0::zs)) (ZNM z TI TO (q0::zs)) where
 sub:=λc hc=>by
  simp only [yo,yay] at hc⊢;grind
 frame:=λi h h' hst hk=>by
  obtain ⟨hz,hTI,⟨ws,lw,hTO⟩,hq⟩:=hst;refine ⟨hk z (by simp) _ hz,hk TI (by simp) _ hTI,⟨ws,lw,hk TO (by simp) _ hTO⟩,λq mq=>⟨(hq q mq).1.at λo e=>hk _ ?_ o e,(hq q mq).2.at λo e=>hk _ ?_ o e⟩⟩
  ·exact yac _ (yac _ (yac _ (ycs _ (ybc mq))))
  ·exact yac _ (yac _ (yac _ (ybi _ (ybc mq))))
 item:=λi s Q E hi hst hQ=>by
  obtain ⟨hz,hTI,⟨ws,lw,hTO⟩,hq⟩:=hst;obtain ⟨zTI,zTO,TITO,ap,al,ai⟩:=Z.ne;have hT:s.TypeIs (.ref z) "zip" :=⟨_,hz,rfl⟩;refine S4 (wpAny_attempt (wpAny_callSpecial?_slot hT F.slot_zip_next (wpAny_call_entry F.slot_zip_next hT F.entry_zip_next
   (Yhw (k:=i) Z hz hTI hTO lw hs hh (λq mq=>⟨(hq q mq).2,yao hi (hn q mq),(hq q mq).1⟩) λxs h' tk lx px a1 a2 a3 a4 hk=>S5 ?_) (F.args_zip_next_1 _))))
  have notm:∀q∈q0::zs,q.l∉(q0::zs).map (·.i):=λq mq hm=>by
   obtain ⟨r,hr,e⟩:=yn.mp hm;exact al q mq r hr e.symm
  have lt:∀{d o},s.heap.get? d=some o->s.heap.objs.size≠d:=λe=>ybw (yk e);refine hQ s.heap.objs.size xs.toArray h' tk ⟨by simpa using lx,λj q x hj hx=>px j q x hj (by simpa using hx)⟩ (yg _) ⟨_,a4,rfl,_,rfl⟩ ⟨a1,hk _ _ (yx zTI) TITO (λhm=>?_) hTI,⟨xs,lx,a2⟩,λq mq=>⟨a3 q mq,(hq q mq).2.at λo e=>hk _ _ (ap q mq).2.2.2.1 (ap q mq).2.2.2.2.2 (notm q mq) e⟩,λhm=>?_⟩ λd o hd e=>hk d o (λq=>hd (by simp [q])) (λq=>hd (by simp [q])) (λq=>hd (yac _ (yac _ q))) e
  ·obtain ⟨r,hr,e⟩:=yn.mp hm;exact (ap r hr).2.1 e
  ·rcases yo.mp hm with e|hm
   ·exact lt hz e
   ·rcases yo.mp hm with e|hm
    ·exact lt hTO e
    ·obtain ⟨r,hr,e⟩:=yn.mp hm;obtain ⟨o,e',_⟩:=(hq r hr).1.obj;exact lt e' e.symm
 go:=λelts k pos i T s Q E hm hQ=>by
  obtain ⟨hz,hTI,⟨ws,lw,hTO⟩,hq,_⟩:=hm;obtain ⟨zTI,zTO,TITO,ap,al,ai⟩:=Z.ne;exact wpAny_letOwnedTupleGo_zip hz λh' hz' sb=>hQ h' ⟨hz',sb.extBut _ _ (yx zTI) hTI,⟨ws,lw,sb.extBut _ _ (yx zTO) hTO⟩,λq mq=>⟨IS.but (ap q mq).1 sb (hq q mq).1,(hq q mq).2.at λo e=>sb.extBut _ _ (ap q mq).2.2.2.1 e⟩⟩ λd o hd e=>sb.extBut _ _ (λq=>hd (by simp [q])) e
 apart:=λi T h hm hT=>hm.2.2.2.2 hT
 done:=λs Q E hst hQ=>by
  obtain ⟨hz,hTI,_,hq⟩:=hst;have hT:s.TypeIs (.ref z) "zip" :=⟨_,hz,rfl⟩;have h0:=hq q0 yah;refine S4 (wpAny_attempt (wpAny_callSpecial?_slot hT F.slot_zip_next (wpAny_call_entry F.slot_zip_next hT F.entry_zip_next
   (Sp9 Z hz hTI hh h0.2 h0.1 λh' e hk he=>?_) (F.args_zip_next_1 _))))
  obtain ⟨o,ho,hc⟩:=he;exact S4 (wpAny_isInstance ⟨o,ho,hc⟩ isSubtype_stop (S5 (hQ h' s.toks λd o' hd e'=>hk d o' (λq=>hd (by simp [q])) (λq=>hd (by simp [q])) e')))
 self:=λi s Q E hst hQ=>wpAny_pyIter_zip hst.1 hQ
end
noncomputable def Jri (h:Sb):List Obj->Sb
 | []=>h
 |o::r=>Jri (h.push o) r
noncomputable def itA (h:Sb):List Obj->List S1
 | []=>[]
 |o::r=>h.objs.size::itA (h.push o) r
theorem Jym {os:List Obj}:∀{h:Sb},h.get? c=some o->(Jri h os).get? c=some o:=by
 induction os with
 |nil=>exact λe=>e
 |cons q r ih=>exact λe=>ih (ym _ e)
theorem Yb2 {os:List Obj}:∀{h:Sb},(Jri h os).objs.size=h.objs.size+os.length:=by
 induction os with
 |nil=>intro h;rfl
 |cons q r ih=>
  intro h;show (Jri (h.push q) r).objs.size=h.objs.size+(r.length+1);rw [ih,yat];omega
theorem Jyw {os:List Obj}:∀{h:Sb},itA h os=List.range' h.objs.size os.length:=by
 induction os with
 |nil=>intro h;rfl
 |cons q r ih=>
  intro h;show h.objs.size::itA (h.push q) r=_;rw [ih,yat];rfl
theorem Yg4 {os:List Obj}:∀{h:Sb} {j:Nat} {o:Obj},os[j]?=some o->o.isFreed=false->(Jri h os).get? (h.objs.size+j)=some o:=by
 induction os with
 |nil=>intro h j o e;simp at e
 |cons q r ih=>
  intro h j o e f;cases j with
  |zero=>
   cases e;exact Jym (h:=h.push q) (yt _ f)
  |succ j=>
   have:=ih (h:=h.push q) (j:=j) (by simpa using e) f;rw [yat] at this;rw [show h.objs.size+(j+1)=h.objs.size+1+j by omega];exact this
noncomputable abbrev zOs (ls:List (S1×Bool)):List Obj:=ls.map λl=>itO l.1 l.2
noncomputable abbrev gD (h:Sb) (ls:List (S1×Bool)):Sb:=(Jri h (zOs ls)).push {cls:=.type "tuple",data:=.seq ((itA h (zOs ls)).map Value.ref).toArray}
noncomputable abbrev gE (h:Sb) (ls:List (S1×Bool)):Sb:=(gD h ls).push {cls:=.type "tuple",data:=.seq (ls.map λ_=>Value.none).toArray}
noncomputable abbrev gF (h:Sb) (ls:List (S1×Bool)):Sb:=(gE h ls).push {cls:=.type "zip",data:=.fields #[.none,.bool false,.bool false,.ref (Jri h (zOs ls)).objs.size,.ref (gD h ls).objs.size]}
section
variable {prog:S7} {w:S9} {A:Sa} {E:S2->S3->Prop} {s:S3} {ls:List (S1×Bool)}
theorem Jsj (h:Sb):IsZip (gF h ls) (gE h ls).objs.size (Jri h (zOs ls)).objs.size (gD h ls).objs.size .none/\Jrj (gF h ls) (Jri h (zOs ls)).objs.size ((itA h (zOs ls)).map Value.ref)/\Jrj (gF h ls) (gD h ls).objs.size (ls.map λ_=>Value.none)/\
  (∀(j:Nat) (i:S1) (l:S1×Bool),(itA h (zOs ls))[j]?=some i->ls[j]?=some l->IS i l.1 l.2 0 (gF h ls))/\(∀c o,h.get? c=some o->(gF h ls).get? c=some o)/\(∀c∈(gE h ls).objs.size::(Jri h (zOs ls)).objs.size::(gD h ls).objs.size::itA h (zOs ls),h.objs.size<=c)/\
  ((gE h ls).objs.size::(Jri h (zOs ls)).objs.size::(gD h ls).objs.size::itA h (zOs ls)).Nodup:=by
 have z0:=Yb2 (h:=h) (os:=zOs ls);have z1:(gD h ls).objs.size=(Jri h (zOs ls)).objs.size+1:=yat ..;have z2:(gE h ls).objs.size=(gD h ls).objs.size+1:=yat ..;have p:∀{h:Sb} {c:S1} {o q:Obj},h.get? c=some o->(h.push q).get? c=some o:=λe=>ym _ e;have fr:∀l b,(itO l b).isFreed=false:=λl b=>by cases b <;> rfl
 refine ⟨yt _ rfl,p (p (yt _ rfl)),p (yt _ rfl),λj i l hi hl=>?_,λc o e=>p (p (p (Jym e))),λc hc=>?_,?_⟩
 ·rw [Jyw] at hi;have hj:j < (zOs ls).length:=by simpa using (yj.mp hi).1
  rw [List.getElem?_range' hj] at hi;have e:=Yg4 (h:=h) (os:=zOs ls) (j:=j) (o:=itO l.1 l.2) (by rw [yi,hl];rfl) (fr _ _);have e':(gF h ls).get? i=some (itO l.1 l.2):=p (p (p (by rw [<-yz.inj hi];simpa using e)));obtain ⟨l,b⟩:=l;cases b
  ·exact ⟨_,e',rfl,rfl⟩
  ·exact ⟨_,e',rfl,rfl⟩
 ·rw [Jyw] at hc;simp only [yo,List.mem_range'_1] at hc;omega
 ·rw [Jyw];simp only [ybq,yo,List.mem_range'_1,not_or];exact ⟨⟨by omega,by omega,by omega⟩,⟨by omega,by omega⟩,by omega,List.nodup_range'⟩
end
noncomputable def SqN (K:Sd) (H:Hp) (ls:List (S1×Bool)) (xss:List (List V)):Prop:=xss.length=ls.length/\∀(j:Nat) (l:S1×Bool) (xs:List V),ls[j]?=some l->xss[j]?=some xs->SqB K H l.1 l.2 xs
noncomputable def Jtl (K:Sd) (ls:List (S1×Bool)):It:=
 ⟨λi H=>∃(x0:List V) (xss:List (List V)),SqN K H ls (x0::xss)/\(∀xs∈xss,x0.length<=xs.length)/\i < x0.length,
  λi H x H'=>∃(T:S1) (ps:List V),H T=none/\x= .ref T/\(∀xss,SqN K H ls xss->ps.length=xss.length/\∀(j:Nat) (p:V) (xs:List V),ps[j]?=some p->xss[j]?=some xs->xs[i]?=some p)/\H'=upd H T (.tup ps),
  λi H=>∃(x0:List V) (xss:List (List V)),SqN K H ls (x0::xss)/\(∀xs∈xss,x0.length<=xs.length)/\i=x0.length⟩
noncomputable def ZNT (z TI TO:S1) (is:List S1) (ls:List (S1×Bool)) (k:Nat) (h:Sb):Prop:=IsZip h z TI TO .none/\Jrj h TI (is.map Value.ref)/\(∃ws:List S2,ws.length=is.length/\Jrj h TO ws)/\∀(j:Nat) (i:S1) (l:S1×Bool),is[j]?=some i->ls[j]?=some l->IS i l.1 l.2 k h
theorem Slh:∀{ps:List V} {vs:List S2},ps.length=vs.length->(∀(j:Nat) (p:V) (v:S2),ps[j]?=some p->vs[j]?=some v->Sz p v)->Sx ps vs
 | [],[],_,_=>.nil
 |p::ps,v::vs,e,f=>.cons (f 0 p v rfl rfl) (Slh (by simpa using e) λj p v h1 h2=>f (j+1) p v (by simpa using h1) (by simpa using h2))
 | [],_::_,e,_=>by simp at e
 |_::_,[],e,_=>by simp at e
theorem Sm.zes {X:Cx} (I:Sm X pins σ H s):∀{ls:List (S1×Bool)} {xss:List (List V)} {is:List S1},is.length=ls.length->SqN X.K H ls xss->
  ∃zs:List ZE,zs.map (·.i)=is/\zs.map (λq=>(q.l,q.b))=ls/\∀(j:Nat) (q:ZE) (xs:List V),zs[j]?=some q->xss[j]?=some xs->Sx xs q.its.toList/\IsB s.heap q.l q.b q.its:=by
 intro ls
 induction ls with
 |nil=>
  intro xss is li _;obtain rfl:is= []:=List.length_eq_zero_iff.mp li;exact ⟨[],rfl,rfl,λj q xs e=>by simp at e⟩
 |cons l ls ih=>
  intro xss is li sq;cases is with
  |nil=>simp at li
  |cons i is=>
   cases xss with
   |nil=>simp [SqN] at sq
   |cons x xss=>
    obtain ⟨its,r,p⟩:=I.seqB (sq.2 0 l x rfl rfl);obtain ⟨zs,e1,e2,e3⟩:=ih (xss:=xss) (is:=is) (by simpa using li) ⟨by simpa using sq.1,λj l xs h1 h2=>sq.2 (j+1) l xs (by simpa using h1) (by simpa using h2)⟩;refine ⟨⟨i,l.1,l.2,its.toArray⟩::zs,by rw [yan,e1],by rw [yan,e2],λj q xs h1 h2=>?_⟩;cases j with
    |zero=>cases h1;cases h2;exact ⟨r,p⟩
    |succ j=>exact e3 j q xs (by simpa using h1) (by simpa using h2)
theorem ZNT.obj {z TI TO:S1} {is:List S1} {ls:List (S1×Bool)} (li:is.length=ls.length) (st:ZNT z TI TO is ls k h):∀b∈z::TI::TO::is,∃o,h.get? b=some o/\∀v,o.data≠ .cell v:=λb hb=>by
 obtain ⟨h1,h2,⟨ws,_,h3⟩,h4⟩:=st;simp only [yo] at hb;rcases hb with rfl|rfl|rfl|hb
 ·exact ⟨_,h1,λv z=>by cases z⟩
 ·exact ⟨_,h2,λv z=>by cases z⟩
 ·exact ⟨_,h3,λv z=>by cases z⟩
 ·obtain ⟨j,hj⟩:=ybk hb;have hj':j < ls.length:=by rw [<-li];exact (yj.mp hj).1
  exact (h4 j b ls[j] hj (yh hj')).obj
theorem Yfv {q0:ZE} {zs:List ZE} {x0:List V} {xss:List (List V)} {s:S3} (len:(x0::xss).length=(q0::zs).length) (hn:∀xs∈xss,x0.length<=xs.length) (e3:∀(j:Nat) (q:ZE) (xs:List V),(q0::zs)[j]?=some q->(x0::xss)[j]?=some xs->Sx xs q.its.toList/\IsB s.heap q.l q.b q.its):
  q0.its.size=x0.length/\(∀q∈q0::zs,∃(j:Nat) (xs:List V),(q0::zs)[j]?=some q/\(x0::xss)[j]?=some xs)/\∀q∈q0::zs,q0.its.size<=q.its.size:=by
 have size:∀(j:Nat) (q:ZE) (xs:List V),(q0::zs)[j]?=some q->(x0::xss)[j]?=some xs->q.its.size=xs.length:=λj q xs h1 h2=>by
  have:=(e3 j q xs h1 h2).1.length;simpa using this.symm
 have at':∀q∈q0::zs,∃(j:Nat) (xs:List V),(q0::zs)[j]?=some q/\(x0::xss)[j]?=some xs:=λq hq=>by
  obtain ⟨j,hj⟩:=ybk hq;have:j < (x0::xss).length:=by rw [len];exact (yj.mp hj).1
  exact ⟨j,_,hj,yh this⟩
 have s0:=size 0 q0 x0 rfl rfl;refine ⟨s0,at',λq hq=>?_⟩;obtain ⟨j,xs,h1,h2⟩:=at' q hq;rw [s0,size j q xs h1 h2];cases j with
 |zero=>cases h2;exact yg _
 |succ j=>exact hn xs (yq (show xss[j]?=some xs by simpa using h2))
theorem Yd6 {P:S7} {w:S9} {K:Sd} {elts:List Expr} {kt:Nat} {pt:Pos} {ls:List (S1×Bool)} {z TI TO:S1} {is:List S1} (li:is.length=ls.length) (sm:ls.length<=S6) (nd:(z::TI::TO::is).Nodup) (ml:∀l∈ls,l.1∉z::TI::TO::is):
  Turn P w K (.Tuple elts kt pt) (Jtl K ls) (z::TI::TO::is) z (ZNT z TI TO is ls) where
 mem:=by simp
 obj:=λi h st=>st.obj li
 keep:=λi h h' st k=>by
  obtain ⟨h1,h2,⟨ws,lw,h3⟩,h4⟩:=st;exact ⟨k z (by simp) _ h1,k TI (by simp) _ h2,⟨ws,lw,k TO (by simp) _ h3⟩,λj i l hi hl=>(h4 j i l hi hl).at λo e=>k i (by simp [yq hi]) o e⟩
 item:=by
  intro X hP hw hK hc i pins s σ H E I hf st hg;subst hP hw hK;obtain ⟨x0,xss,sq,hn,hi⟩:=hg;obtain ⟨zs,e1,e2,e3⟩:=I.zes li sq;subst e1 e2;cases zs with
  |nil=>simp [SqN] at sq
  |cons q0 zs=>
  have len:=sq.1;rw [ye] at len sm;obtain ⟨s0,at',hn'⟩:=Yfv len hn e3;have W:=Yfp (prog:=X.prog) (w:=X.w) (I.ok.hd hc) ⟨nd,λq hq=>ml (q.l,q.b) (ybc hq)⟩ sm hn';have st0:=st;obtain ⟨s1,s2,⟨ws,lw,s3⟩,s4⟩:=st;refine W.item i s _ _ (by omega) ⟨s1,by rw [yaw] at s2;exact s2,⟨ws,by simpa using lw,s3⟩,λq hq=>?_⟩ λT vals h' tk hP fT tT mid kk=>⟨_,rfl,W.go elts kt pt i T _ _ _ mid λh'' st'' kk2=>?_⟩
  ·obtain ⟨j,xs,h1,h2⟩:=at' q hq;exact ⟨s4 j q.i (q.l,q.b) (by rw [yi,h1];rfl) (by rw [yi,h1];rfl),(e3 j q xs h1 h2).2⟩
  obtain ⟨vz,va⟩:=hP;have get:∀(j:Nat) (xs:List V),(x0::xss)[j]?=some xs->i < xs.length:=λj xs h2=>by
   cases j with
   |zero=>cases h2;exact hi
   |succ j=>exact yao hi (hn xs (yq (show xss[j]?=some xs by simpa using h2)))
  have pg:∀(j:Nat) (p:V) (xs:List V),((x0::xss).map λxs=>xs.getD i .non)[j]?=some p->(x0::xss)[j]?=some xs->xs[i]?=some p:=λj p xs hp hx=>by
   rw [yi,hx] at hp;have hp':xs.getD i .non=p:=yz.inj hp;rw [<-hp',yh (get j xs hx)];simp [ybz,yh (get j xs hx)]
  have rel:Sx ((x0::xss).map λxs=>xs.getD i .non) vals.toList:=Slh (by rw [ye,len];simpa using vz.symm) λj p v hp hv=>by
   have hj:j < (x0::xss).length:=by have:=(yj.mp hp).1;simpa using this
   have hx:(x0::xss)[j]?=some (x0::xss)[j]:=yh hj;have hz:(q0::zs)[j]?=some ((q0::zs)[j]'(by omega)):=yh (by omega);have q1:=va j _ v hz (by simpa using hv);obtain ⟨u,hu,r⟩:=(e3 j _ _ hz hx).1.get (pg j p _ hp hx);rw [Array.getElem?_toList] at hu;rw [q1] at hu;cases hu;exact r
  have kT:h''.IsTuple T vals:=by
   obtain ⟨o,q,r⟩:=tT;exact ⟨o,kk2 T o (W.apart i T h' mid) q,r⟩
  have cht:∀c,c∈z::TO::(q0::zs).map (·.i)->c∈z::TI::TO::(q0::zs).map (·.i):=λc hc=>by
   simp only [yo] at hc⊢;grind
  obtain ⟨t1,t2,t3,t4⟩:=st'';refine ⟨.ref T,upd H T (.tup ((x0::xss).map λxs=>xs.getD i .non)),I.turnTup (λc hc=>hf c (cht c hc)) (λc o hc e=>kk2 c o hc (kk c o hc e)) fT ⟨by rw [ye,len];exact sm,vals.toList,rel,by rw [Array.toArray_toList];exact kT⟩,rfl,
   ⟨T,_,I.hok.fresh fT,rfl,λxss' sq'=>?_,rfl⟩,⟨t1,by rw [yaw];exact t2,by simpa using t3,λj a l ha hl=>?_⟩,λc hc=>?_⟩
  ·have ex:xss'=x0::xss:=List.ext_getElem? λj=>by
    by_cases hj:j < (x0::xss).length
    ·have hj':j < xss'.length:=by rw [sq'.1,<-sq.1];exact hj
     have hl:j < ((q0::zs).map λq=>(q.l,q.b)).length:=by rw [<-sq.1];exact hj
     rw [yh hj,yh hj'];exact congrArg some (I.seqB_inj (sq'.2 j _ _ (yh hl) (yh hj')) (sq.2 j _ _ (yh hl) (yh hj)))
    ·rw [ycv (by rw [sq'.1,<-sq.1];omega),ycv (by omega)]
   rw [ex];exact ⟨ye ..,pg⟩
  ·rw [yi] at ha hl;obtain ⟨q,hq,rfl⟩:=yba.mp ha;rw [hq] at hl;cases hl;exact (t4 q (yq hq)).1
  rw [Jnc (λw'=>?_)]
  ·exact ((hf c hc).1)
  ·subst w';obtain ⟨o,e,_⟩:=ZNT.obj li st0 c hc;exact absurd (yk e) (ybm.mpr fT)
 done:=by
  intro X hP hw hK hc i pins s σ H E I hf st hg;subst hP hw hK;obtain ⟨x0,xss,sq,hn,hi⟩:=hg;obtain ⟨zs,e1,e2,e3⟩:=I.zes li sq;subst e1 e2;cases zs with
  |nil=>simp [SqN] at sq
  |cons q0 zs=>
  have len:=sq.1;rw [ye] at len sm;obtain ⟨s0,at',hn'⟩:=Yfv len hn e3;have W:=Yfp (prog:=X.prog) (w:=X.w) (I.ok.hd hc) ⟨nd,λq hq=>ml (q.l,q.b) (ybc hq)⟩ sm hn';obtain ⟨s1,s2,⟨ws,lw,s3⟩,s4⟩:=st;obtain rfl:i=q0.its.size:=by omega
  refine W.done s _ _ ⟨s1,by rw [yaw] at s2;exact s2,⟨ws,by simpa using lw,s3⟩,λq hq=>?_⟩ λh' tk kk=>⟨rfl,I.turnMany (λc hc=>hf c (by simp only [yo] at hc⊢;grind)) λc o hc e=>kk c o hc e⟩;obtain ⟨j,xs,h1,h2⟩:=at' q hq;exact ⟨s4 j q.i (q.l,q.b) (by rw [yi,h1];rfl) (by rw [yi,h1];rfl),(e3 j q xs h1 h2).2⟩
 self:=λ_ _ _ _ _ st h=>wpAny_pyIter_zip st.1 h
theorem Jzs {X:Cx} {ls:List (S1×Bool)} {R:It->Hp->Prop} {elts:List Expr} {kt:Nat} {pt:Pos} (I:Sm X pins σ H s) (hl:∀l∈ls,l.1 < s.heap.objs.size) (sm:ls.length<=S6) (q:R (Jtl X.K ls) H):
  Sc (model X.prog X.w) X.A (pyIter (.ref (gE s.heap ls).objs.size)) (PIE X pins σ (.Tuple elts kt pt) R) X.xe {s with heap:=gF s.heap ls}:=by
 obtain ⟨z1,z2,z3,z4,kk,big,nd⟩:=Jsj (ls:=ls) s.heap;have li:(itA s.heap (zOs ls)).length=ls.length:=by rw [Jyw];simp
 refine wpAny_pyIter_zip z1 ⟨_,_,_,_,H,rfl,I.kept kk,Yd6 li sm nd λl hm hn=>absurd (big _ hn) (Nat.not_le.mpr (hl l hm)),⟨z1,z2,⟨_,by rw [ye,li],z3⟩,z4⟩,λd hd=>?_,q⟩;exact I.fpOk (big d hd) (I.hok.fresh (big d hd))
noncomputable def Jxv (xss:List (List V)) (i:Nat) (ps:List V):Prop:=ps.length=xss.length/\∀(j:Nat) (p:V) (xs:List V),ps[j]?=some p->xss[j]?=some xs->xs[i]?=some p
section
variable {K:Sd} {g:TG} {σ:St} {H:Hp} {ls:List (S1×Bool)} {x0:List V} {xss:List (List V)}
theorem Jyq {B:(Nat->St->Hp->Prop)->Nat->V->St->Hp->Prop} {F:St->Hp->Prop} (Pv:Nat->St->Hp->Prop) (h0:Pv 0 σ H) (hl:∀i σ H,i<=x0.length->Pv i σ H->SqN K H ls (x0::xss)) (hn:∀xs∈xss,x0.length<=xs.length)
  (hs:∀i ps σ H T,Jxv (x0::xss) i ps->Pv i σ H->H T=none->B Pv i (.ref T) σ (upd H T (.tup ps))) (hd:∀σ H,Pv x0.length σ H->F σ H):
  ∃W:Nat->Nat->St->Hp->Prop,(∃m,W 0 m σ H)/\∀i m σ H,W i m σ H->((Jtl K ls).stop i H/\F σ H)\/((Jtl K ls).go i H/\(∀σ' H',Pv (i+1) σ' H'->∃m',m' < m/\W (i+1) m' σ' H')/\∀x H',(Jtl K ls).yld i H x H'->B Pv i x σ H'):=by
 refine ⟨λi m σ H=>m=x0.length - i/\i<=x0.length/\Pv i σ H,⟨x0.length,by simp,yaj _,h0⟩,?_⟩;rintro i m σ H ⟨rfl,hi,p⟩;have sq:=hl i σ H hi p;by_cases hlt:i < x0.length
 ·refine .inr ⟨⟨x0,xss,sq,hn,hlt⟩,λσ' H' p'=>⟨x0.length - (i+1),by omega,rfl,hlt,p'⟩,λx H' y=>?_⟩;obtain ⟨T,ps,hT,rfl,hp,rfl⟩:=y;exact hs i ps σ _ T (hp _ sq) p hT
 ·obtain rfl:i=x0.length:=by omega
  exact .inl ⟨⟨x0,xss,sq,hn,rfl⟩,hd σ H p⟩
theorem Ydz {tb:TS} {D:Sc2} (Pv:Nat->St->Hp->Prop) (h0:Pv 0 σ H) (hl:∀i σ H,i<=x0.length->Pv i σ H->SqN K H ls (x0::xss)) (hn:∀xs∈xss,x0.length<=xs.length)
  (hs:∀i ps σ H T,Jxv (x0::xss) i ps->Pv i σ H->H T=none->g (.ref T) σ (upd H T (.tup ps)) λσ2 H2=>tb {D with nx:=Pv (i+1),ct:=Pv (i+1),bk:=D.nx} σ2 H2) (hd:∀σ H,Pv x0.length σ H->D.nx σ H):
  ∃W:Nat->Nat->St->Hp->Prop,(∃m,W 0 m σ H)/\∀i m σ H,W i m σ H->
   ((Jtl K ls).stop i H/\D.nx σ H)\/((Jtl K ls).go i H/\∃N:St->Hp->Prop,(∀σ' H',N σ' H'->∃m',m' < m/\W (i+1) m' σ' H')/\∀x H',(Jtl K ls).yld i H x H'->g x σ H' λσ2 H2=>tb {D with nx:=N,ct:=N,bk:=D.nx} σ2 H2):=by
 obtain ⟨W,w0,w1⟩:=Jyq (F:=D.nx) (B:=λPv i x σ H=>g x σ H λσ2 H2=>tb {D with nx:=Pv (i+1),ct:=Pv (i+1),bk:=D.nx} σ2 H2) Pv h0 hl hn hs hd;exact ⟨W,w0,λi m σ H h=>(w1 i m σ H h).imp id λ⟨a,b,c⟩=>⟨a,_,b,c⟩⟩
theorem Jy7 {tt:TT} {te:TE} {R:Hp->Prop} (Pv:Nat->St->Hp->Prop) (h0:Pv 0 σ H) (hl:∀i σ H,i<=x0.length->Pv i σ H->SqN K H ls (x0::xss)) (hn:∀xs∈xss,x0.length<=xs.length)
  (hs:∀i ps σ H T,Jxv (x0::xss) i ps->Pv i σ H->H T=none->g (.ref T) σ (upd H T (.tup ps)) λσ3 H3=>tt σ3 H3 λb H4=>if b=true then te σ3 H4 (λv H5=>∃vs,H5 D=some (.lst vs)/\vs.length < S6/\Pv (i+1) σ3 (upd H5 D (.lst (vs++ [v])))) else Pv (i+1) σ3 H4)
  (hd:∀σ H,Pv x0.length σ H->R H):
  ∃W:Nat->Nat->St->Hp->Prop,(∃m,W 0 m σ H)/\∀i m σ' H',W i m σ' H'->((Jtl K ls).stop i H'/\R H')\/((Jtl K ls).go i H'/\∃N:St->Hp->Prop,(∀σ2 H2,N σ2 H2->∃m',m' < m/\W (i+1) m' σ2 H2)/\
   ∀x H2,(Jtl K ls).yld i H' x H2->g x σ' H2 λσ3 H3=>tt σ3 H3 λb H4=>if b=true then te σ3 H4 (λv H5=>∃vs,H5 D=some (.lst vs)/\vs.length < S6/\N σ3 (upd H5 D (.lst (vs++ [v])))) else N σ3 H4):=by
 obtain ⟨W,w0,w1⟩:=Jyq (F:=λ_=>R) (B:=λPv i x σ' H2=>g x σ' H2 λσ3 H3=>tt σ3 H3 λb H4=>if b=true then te σ3 H4 (λv H5=>∃vs,H5 D=some (.lst vs)/\vs.length < S6/\Pv (i+1) σ3 (upd H5 D (.lst (vs++ [v])))) else Pv (i+1) σ3 H4) Pv h0 hl hn hs hd;exact ⟨W,w0,λi m σ H h=>(w1 i m σ H h).imp id λ⟨a,b,c⟩=>⟨a,_,b,c⟩⟩
end
theorem Yet {us:List S2}:∀{as:List S1},Sx (as.map V.ref) us->us=as.map Value.ref:=by
 induction us with
 |nil=>intro as h;cases as with|nil=>rfl|cons=>cases h
 |cons u us ih=>
  intro as h;cases as with
  |nil=>cases h
  |cons a as=>
   cases h with
   |cons h1 h2=>
    obtain rfl:u=Value.ref a:=h1;rw [ih h2];rfl
theorem Jzw (a b c d):argsOk "object.__init__" ⟨[a,b,c,d],[]⟩:=by
 unfold argsOk;rw [signature?_of (n:=['_','_','t','i','n','i','_','_']) (by kernel_rfl) F.owner_object];kernel_rfl
set_option maxRecDepth 100000 in
set_option maxHeartbeats 4000000 in
theorem Ydb (l1 l2 l3:S1) (b1 b2 b3:Bool) (xs ys us):
  Meets (Builtin.«zip.__new__» ⟨[.type "zip",.ref l1,.ref l2,.ref l3],[]⟩) (λ_ R s=>IsB s.heap l1 b1 xs/\IsB s.heap l2 b2 ys/\IsB s.heap l3 b3 us/\
   R (.ok (.ret (.ref (gE s.heap [(l1,b1),(l2,b2),(l3,b3)]).objs.size))) {s with heap:=gF s.heap [(l1,b1),(l2,b2),(l3,b3)]}):=
 .of_wp λprog w A R s h=>by
  obtain ⟨hp,g,d,tk,os⟩:=s;obtain ⟨hl1,hl2,hl3,h⟩:=h;have e0:=sub_zip;have e1:=hl1;have e2:IsB (Shared.heap ⟨(hp.push (itO l1 b1)),g,d,tk,os⟩) l2 b2 ys:=IsB.push (hl2) _;have e3:IsB (Shared.heap ⟨((hp.push (itO l1 b1)).push (itO l2 b2)),g,d,tk,os⟩) l3 b3 us:=IsB.push (IsB.push (hl3) _) _
  wp_walk using Jtq e1,Jtq e2,Jtq e3
  exact ⟨_,rfl,h⟩
theorem Yca {prog:S7} {w:S9} {A:Sa} {E:S2->S3->Prop} {s:S3} {l1 l2 l3:S1} {b1 b2 b3:Bool} {xs ys us} {Q} (h1:IsB s.heap l1 b1 xs) (h2:IsB s.heap l2 b2 ys) (h3:IsB s.heap l3 b3 us) (h:Q (.ref (gE s.heap [(l1,b1),(l2,b2),(l3,b3)]).objs.size) {s with heap:=gF s.heap [(l1,b1),(l2,b2),(l3,b3)]}):
  Sc (model prog w) A (call (.type "zip") [.ref l1,.ref l2,.ref l3]) Q E s:=
 callType_new F.called_zip (by decide) (by kernel_rfl) (by kernel_rfl) (λobj=>Jzw obj _ _ _) F.entry_zip_new (Ydb l1 l2 l3 b1 b2 b3 xs ys us) ⟨h1,h2,h3,⟨_,(Jsj s.heap).1,rfl⟩,h⟩
noncomputable abbrev Sjp (K:Sd) (l1 l2 l3:S1) (b1 b2 b3:Bool):It:=Jtl K [(l1,b1),(l2,b2),(l3,b3)]
theorem Sxr {l1 l2 l3:S1} {b1 b2 b3:Bool} {xs ys us:List V} {K:Sd} {H:Hp} (h:SqB K H l1 b1 xs/\SqB K H l2 b2 ys/\SqB K H l3 b3 us):SqN K H [(l1,b1),(l2,b2),(l3,b3)] [xs,ys,us]:=by
 obtain ⟨q1,q2,q3⟩:=h;refine ⟨rfl,λj l x e1 e2=>?_⟩
 match j with
 |0=>cases e1;cases e2;exact q1
 |1=>cases e1;cases e2;exact q2
 |2=>cases e1;cases e2;exact q3
 |j+3=>simp at e1
theorem Smx {xs ys us:List V} {i:Nat} {ps:List V} {G:List V->Prop} (h:Jxv [xs,ys,us] i ps) (k:∀x y u,xs[i]?=some x->ys[i]?=some y->us[i]?=some u->G [x,y,u]):G ps:=by
 obtain ⟨l,f⟩:=h
 match ps,l with
 | [x,y,u],_=>exact k x y u (f 0 x xs rfl rfl) (f 1 y ys rfl rfl) (f 2 u us rfl rfl)
noncomputable def Srg (K:Sd) (b1 b2 b3:Bool) (ta:TA):TI:=λσ H R=>ta σ H λvs H1=>∃a b c,vs= [.ref a,.ref b,.ref c]/\(∃xs,SqB K H1 a b1 xs)/\(∃xs,SqB K H1 b b2 xs)/\(∃xs,SqB K H1 c b3 xs)/\R (Sjp K a b c b1 b2 b3) H1
theorem Yby (b1 b2 b3) (hg:Gl X "zip") (hm:X.mg "zip" =none) (ha:PA X [a,b,c] ta) (hs:starEach [a,b,c] X.env= [(false,eval a X.env),(false,eval b X.env),(false,eval c X.env)]:=by rfl) (hs2:starEach [b,c] X.env= [(false,eval b X.env),(false,eval c X.env)]:=by rfl):
  PI X (.Tuple elts kt pt) (.Call (.Name "zip" p) [a,b,c] [] pos) (Srg X.K b1 b2 b3 ta):=by
 intro pins s σ H R I h;refine Call_ (Jqf I hg hm Yad (PyProof.Rows.callWith_type1 (thn (ha pos pins s σ H _ I h) λus s1 zq=>?_) (by rw [hs,hs2]) (by rw [hs2];rfl)));obtain ⟨vs,H1,I1,r1,q1⟩:=zq;obtain ⟨l1,l2,l3,rfl,⟨x1,q1⟩,⟨x2,q2⟩,⟨x3,q3⟩,q⟩:=q1;obtain rfl:=Yet (as:=[l1,l2,l3]) r1;obtain ⟨_,_,p1⟩:=I1.seqB q1;obtain ⟨_,_,p2⟩:=I1.seqB q2;obtain ⟨_,_,p3⟩:=I1.seqB q3;refine Yca p1 p2 p3 (Jzs I1 (λl hl=>?_) (show 3<=S6 by decide) q);simp only [yo,yar,or_false] at hl;rcases hl with rfl|rfl|rfl
 ·exact p1.lt
 ·exact p2.lt
 ·exact p3.lt
section
variable {K:Sd} {g:TG} {σ:St} {H:Hp} {l1 l2 l3:S1} {b1 b2 b3:Bool} {xs ys us:List V}
theorem Jy6 {tt:TT} {te:TE} {R:Hp->Prop} (Pv:Nat->St->Hp->Prop) (h0:Pv 0 σ H) (hl:∀i σ H,i<=xs.length->Pv i σ H->SqB K H l1 b1 xs/\SqB K H l2 b2 ys/\SqB K H l3 b3 us) (e1:xs.length=ys.length) (e2:xs.length=us.length)
  (hs:∀i x y u σ H T,xs[i]?=some x->ys[i]?=some y->us[i]?=some u->Pv i σ H->H T=none->g (.ref T) σ (upd H T (.tup [x,y,u])) λσ3 H3=>tt σ3 H3 λb H4=>if b=true then te σ3 H4 (λv H5=>∃vs,H5 D=some (.lst vs)/\vs.length < S6/\Pv (i+1) σ3 (upd H5 D (.lst (vs++ [v])))) else Pv (i+1) σ3 H4)
  (hd:∀σ H,Pv xs.length σ H->R H):
  ∃W:Nat->Nat->St->Hp->Prop,(∃m,W 0 m σ H)/\∀i m σ' H',W i m σ' H'->((Sjp K l1 l2 l3 b1 b2 b3).stop i H'/\R H')\/((Sjp K l1 l2 l3 b1 b2 b3).go i H'/\∃N:St->Hp->Prop,(∀σ2 H2,N σ2 H2->∃m',m' < m/\W (i+1) m' σ2 H2)/\
   ∀x H2,(Sjp K l1 l2 l3 b1 b2 b3).yld i H' x H2->g x σ' H2 λσ3 H3=>tt σ3 H3 λb H4=>if b=true then te σ3 H4 (λv H5=>∃vs,H5 D=some (.lst vs)/\vs.length < S6/\N σ3 (upd H5 D (.lst (vs++ [v])))) else N σ3 H4):=
 Jy7 (xss:=[ys,us]) Pv h0 (λi σ H hi p=>Sxr (hl i σ H hi p)) (by simp only [yo,yar,or_false];rintro _ (rfl|rfl) <;> omega) (λi ps σ H T hp p hT=>Smx (G:=λps=>g (.ref T) σ (upd H T (.tup ps)) λσ3 H3=>tt σ3 H3 λb H4=>if b=true then te σ3 H4 (λv H5=>∃vs,H5 D=some (.lst vs)/\vs.length < S6/\Pv (i+1) σ3 (upd H5 D (.lst (vs++ [v])))) else Pv (i+1) σ3 H4) hp λx y u h1 h2 h3=>hs i x y u σ H T h1 h2 h3 p hT) hd
end
end L2
namespace L2
end L2
namespace L2
open PySem PySem.Spec PyProof.Rows PySem.W
section
variable {K:Sd} {g:TG} {σ:St} {H:Hp}
theorem Jyu {tb:TS} {D:Sc2} (Pv:Nat->St->Hp->Prop) (h0:Pv 0 σ H) (hl:∀i σ H,i<=xs.length->Pv i σ H->Ss K H a xs)
  (hs:∀i x σ H T,xs[i]?=some x->Pv i σ H->H T=none->g (.ref T) σ (upd H T (.tup [.int i,x])) λσ2 H2=>tb {D with nx:=Pv (i+1),ct:=Pv (i+1),bk:=D.nx} σ2 H2) (hd:∀σ H,Pv xs.length σ H->D.nx σ H):
  ∃W:Nat->Nat->St->Hp->Prop,(∃m,W 0 m σ H)/\∀i m σ H,W i m σ H->
   ((ItE K a).stop i H/\D.nx σ H)\/((ItE K a).go i H/\∃N:St->Hp->Prop,(∀σ' H',N σ' H'->∃m',m' < m/\W (i+1) m' σ' H')/\∀x H',(ItE K a).yld i H x H'->g x σ H' λσ2 H2=>tb {D with nx:=N,ct:=N,bk:=D.nx} σ2 H2):=by
 refine ⟨λi m σ H=>m=xs.length - i/\i<=xs.length/\Pv i σ H,⟨xs.length,by simp,yaj _,h0⟩,?_⟩;rintro i m σ H ⟨rfl,hi,p⟩;have q:=hl i σ H hi p;by_cases hlt:i < xs.length
 ·refine .inr ⟨⟨xs,xs[i],q,by simp [hlt]⟩,Pv (i+1),λσ' H' p'=>⟨xs.length - (i+1),by omega,rfl,hlt,p'⟩,λx H' y=>?_⟩;obtain ⟨T,u,hT,rfl,hu,rfl⟩:=y;exact hs i u σ _ T (hu xs q) p hT
 ·have e:i=xs.length:=by omega
  subst e;exact .inl ⟨⟨xs,q,rfl⟩,hd σ H p⟩
theorem Ydx {tb:TS} {D:Sc2} (Pv:Nat->St->Hp->Prop) (h0:Pv 0 σ H) (hl:∀i σ H,i<=xs.length->Pv i σ H->Su K H a xs)
  (hs:∀i x σ H T,xs[i]?=some x->Pv i σ H->H T=none->g (.ref T) σ (upd H T (.tup [.int i,x])) λσ2 H2=>tb {D with nx:=Pv (i+1),ct:=Pv (i+1),bk:=D.nx} σ2 H2) (hd:∀σ H,Pv xs.length σ H->D.nx σ H):
  ∃W:Nat->Nat->St->Hp->Prop,(∃m,W 0 m σ H)/\∀i m σ H,W i m σ H->
   ((ItU K a).stop i H/\D.nx σ H)\/((ItU K a).go i H/\∃N:St->Hp->Prop,(∀σ' H',N σ' H'->∃m',m' < m/\W (i+1) m' σ' H')/\∀x H',(ItU K a).yld i H x H'->g x σ H' λσ2 H2=>tb {D with nx:=N,ct:=N,bk:=D.nx} σ2 H2):=by
 refine ⟨λi m σ H=>m=xs.length - i/\i<=xs.length/\Pv i σ H,⟨xs.length,by simp,yaj _,h0⟩,?_⟩;rintro i m σ H ⟨rfl,hi,p⟩;have q:=hl i σ H hi p;by_cases hlt:i < xs.length
 ·refine .inr ⟨⟨xs,xs[i],q,by simp [hlt]⟩,Pv (i+1),λσ' H' p'=>⟨xs.length - (i+1),by omega,rfl,hlt,p'⟩,λx H' y=>?_⟩;obtain ⟨T,u,hT,rfl,hu,rfl⟩:=y;exact hs i u σ _ T (hu xs q) p hT
 ·have e:i=xs.length:=by omega
  subst e;exact .inl ⟨⟨xs,q,rfl⟩,hd σ H p⟩
theorem Ycc {xs} {tt:TT} {te:TE} {R:Hp->Prop} (Pv:Nat->St->Hp->Prop) (h0:Pv 0 σ H) (hl:∀i σ H,i<=xs.length->Pv i σ H->Su K H a xs)
  (hs:∀i x σ H T,xs[i]?=some x->Pv i σ H->H T=none->g (.ref T) σ (upd H T (.tup [.int i,x])) λσ3 H3=>tt σ3 H3 λb H4=>if b=true then te σ3 H4 (λv H5=>∃vs,H5 D=some (.lst vs)/\vs.length < S6/\Pv (i+1) σ3 (upd H5 D (.lst (vs++ [v])))) else Pv (i+1) σ3 H4)
  (hd:∀σ H,Pv xs.length σ H->R H):
  ∃W:Nat->Nat->St->Hp->Prop,(∃m,W 0 m σ H)/\∀i m σ' H',W i m σ' H'->((ItU K a).stop i H'/\R H')\/((ItU K a).go i H'/\∃N:St->Hp->Prop,(∀σ2 H2,N σ2 H2->∃m',m' < m/\W (i+1) m' σ2 H2)/\
   ∀x H2,(ItU K a).yld i H' x H2->g x σ' H2 λσ3 H3=>tt σ3 H3 λb H4=>if b=true then te σ3 H4 (λv H5=>∃vs,H5 D=some (.lst vs)/\vs.length < S6/\N σ3 (upd H5 D (.lst (vs++ [v])))) else N σ3 H4):=by
 refine ⟨λi m σ H=>m=xs.length - i/\i<=xs.length/\Pv i σ H,⟨xs.length,by simp,yaj _,h0⟩,?_⟩;rintro i m σ H ⟨rfl,hi,p⟩;have q:=hl i σ H hi p;by_cases hlt:i < xs.length
 ·refine .inr ⟨⟨xs,xs[i],q,by simp [hlt]⟩,Pv (i+1),λσ' H' p'=>⟨xs.length - (i+1),by omega,rfl,hlt,p'⟩,λx H' y=>?_⟩;obtain ⟨T,u,hT,rfl,hu,rfl⟩:=y;exact hs i u σ _ T (hu xs q) p hT
 ·have e:i=xs.length:=by omega
  subst e;exact .inl ⟨⟨xs,q,rfl⟩,hd σ H p⟩
end
section
variable {X:Cx}
theorem Yav {K} (h:X.K=K):OpR X (compareOp .In) (rIn K false):=by subst h;exact Ycr
theorem Jxg {K} (h:X.K=K):Jp9 X (.builtin "len") (λxs H Q=>∃p ys,xs= [.ref p]/\(Ss K H p ys\/Su K H p ys)/\Q (.int ys.length) H):=by subst h;exact Jnm
theorem Jsc {K} (h:X.K=K) (hc:X.calm=true):Jp9 X (.builtin "sum") (Srz K):=by subst h;exact Jrq hc
theorem Jp3 {K} (h:X.K=K) (he:PE X e ta) (hb:attributeBase e f X.env (eval e X.env)=eval e X.env):PE X (.Attribute e f pos) (Ssn K ta f):=by subst h;exact Jnl he hb
theorem Yax {K} (h1:X.prog=P) (h2:X.w=w) (h3:X.K=K) (h4:X.mg=mg) (h5:X.base=base) (he:PE X o ta) (hr:Sas j X.A)
  (ht:eval (.Call (.Attribute o m apos) [] [] pos) X.env=(do
   let ov<-eval o X.env
   standAt apos.atName
   let (f,first)<-holding [ov] (getMethod ov m pl)
   callWith pos f first (backTo pos (starEach [] X.env)) (backToKw pos (keywordEach [] X.env))):=by rfl):PE X (.Call (.Attribute o m apos) [] [] pos) (Jzn P w K mg base j m ta Jvt):=by
 subst h1 h2 h3 h4 h5;exact Jsh he hr ht
end
section
variable {X:Cx} {pos:Pos}
theorem Jra {K} {k} (h1:X.K=K) (hc:X.calm=true) (h:PGs X es t)
  (hn:(assignEach es X.env).length=n:=by rfl) (hst:(assignEach es X.env).findIdx? (·.1)=none:=by rfl):PG X (.Tuple es k pos) (Sk6 K n t):=by
 subst h1;exact Jr9 hc h hn hst
end
section
variable {g:TG} {tt:TT} {te:TE} {H:Hp} {D:S1} {σ:St} {R:Hp->Prop}
theorem Y3 {K} {a} {xs} (Pv:Nat->St->Hp->Prop) (h0:Pv 0 σ H) (hl:∀i σ H,i<=xs.length->Pv i σ H->Su K H a xs)
  (hs:∀i x σ H,xs[i]?=some x->Pv i σ H->g x σ H λσ3 H3=>tt σ3 H3 λb H4=>if b=true then te σ3 H4 (λv H5=>∃ys,H5 D=some (.lst ys)/\ys.length < S6/\Pv (i+1) σ3 (upd H5 D (.lst (ys++ [v])))) else Pv (i+1) σ3 H4)
  (hd:∀σ H,Pv xs.length σ H->R H):
  ∃W:Nat->Nat->St->Hp->Prop,(∃m,W 0 m σ H)/\∀i m σ' H',W i m σ' H'->((Itt K a).stop i H'/\R H')\/((Itt K a).go i H'/\∃N:St->Hp->Prop,(∀σ2 H2,N σ2 H2->∃m',m' < m/\W (i+1) m' σ2 H2)/\
   ∀x H2,(Itt K a).yld i H' x H2->g x σ' H2 λσ3 H3=>tt σ3 H3 λb H4=>if b=true then te σ3 H4 (λv H5=>∃ys,H5 D=some (.lst ys)/\ys.length < S6/\N σ3 (upd H5 D (.lst (ys++ [v])))) else N σ3 H4):=by
 refine ⟨λi m σ H=>m=xs.length - i/\i<=xs.length/\Pv i σ H,⟨xs.length,by simp,yaj _,h0⟩,?_⟩;rintro i m σ H ⟨rfl,hi,p⟩;have q:=hl i σ H hi p;by_cases hlt:i < xs.length
 ·refine .inr ⟨⟨xs,xs[i],q,by simp [hlt]⟩,Pv (i+1),λσ' H' p'=>⟨xs.length - (i+1),by omega,rfl,hlt,p'⟩,λx H' y=>?_⟩;obtain ⟨e,y⟩:=y;subst e;exact hs i x σ _ (y xs q) p
 ·have e:i=xs.length:=by omega
  subst e;exact .inl ⟨⟨xs,q,yg _⟩,hd σ H p⟩
end
theorem Jsy {K} {a D} {xs} {te:TE} {R:Hp->Prop} {H} {o} {rest} (ys) (hD:H D=none) (el:ys.length=xs.length) (sz:xs.length<=2000) (hq:H a=some (.lst xs))
  (he:∀(i:Nat) x y H' Q,xs[i]?=some x->ys[i]?=some y->Si H H'->(∀H5,Si H' H5->Q y H5)->te (some x::rest) H' Q) (hd:∀H',Si H H'->H' D=some (.lst ys)->R H'):
  ∃W:Nat->Nat->St->Hp->Prop,(∃m,W 0 m (o::rest) (upd H D (.lst [])))/\∀i m σ' H',W i m σ' H'->((Itl K a).stop i H'/\R H')\/((Itl K a).go i H'/\∃N:St->Hp->Prop,(∀σ2 H2,N σ2 H2->∃m',m' < m/\W (i+1) m' σ2 H2)/\
   ∀x H2,(Itl K a).yld i H' x H2->Jq5 0 x σ' H2 λσ3 H3=>Jzo σ3 H3 λb H4=>if b=true then te σ3 H4 (λv H5=>∃ys,H5 D=some (.lst ys)/\ys.length < S6/\N σ3 (upd H5 D (.lst (ys++ [v])))) else N σ3 H4):=by
 refine Joz (λi σ H'=>(∃o,σ=o::rest)/\H' D=some (.lst (ys.take i))/\Si H H') ⟨⟨_,rfl⟩,Sn,Si.upd hD⟩ (λi σ H' _ ⟨_,_,sm⟩=>Ss.of (sm _ _ hq)) ?_ ?_
 ·rintro i x σ H' hx ⟨⟨o,rfl⟩,hDs,sm⟩;have hi:i < ys.length:=by rw [el];exact (yj.mp hx).1
  refine Jor (he i x ys[i] H' _ hx (yh hi) sm λH5 s5=>⟨_,s5 _ _ hDs,?_,⟨_,rfl⟩,?_,λc u z=>?_⟩)
  ·rw [yaa];exact Jo6 (by omega)
  ·rw [Sn,yr,yh hi];rfl
  ·rw [Jnc (Jnd z hD)];exact s5 _ _ (sm _ _ z)
 ·rintro σ H' ⟨_,hDs,sm⟩;rw [yad (by omega)] at hDs;exact hd H' sm hDs
theorem Jr3 {K} {a D} {xs} {te:TE} {R:Hp->Prop} {H} {o} {rest} (ys) (hD:H D=none) (el:ys.length=xs.length) (sz:xs.length<=2000) (hq:H a=some (.tup xs))
  (he:∀(i:Nat) x y H' Q,xs[i]?=some x->ys[i]?=some y->Si H H'->(∀H5,Si H' H5->Q y H5)->te (some x::rest) H' Q) (hd:∀H',Si H H'->H' D=some (.lst ys)->R H'):
  ∃W:Nat->Nat->St->Hp->Prop,(∃m,W 0 m (o::rest) (upd H D (.lst [])))/\∀i m σ' H',W i m σ' H'->((Itt K a).stop i H'/\R H')\/((Itt K a).go i H'/\∃N:St->Hp->Prop,(∀σ2 H2,N σ2 H2->∃m',m' < m/\W (i+1) m' σ2 H2)/\
   ∀x H2,(Itt K a).yld i H' x H2->Jq5 0 x σ' H2 λσ3 H3=>Jzo σ3 H3 λb H4=>if b=true then te σ3 H4 (λv H5=>∃ys,H5 D=some (.lst ys)/\ys.length < S6/\N σ3 (upd H5 D (.lst (ys++ [v])))) else N σ3 H4):=by
 refine Y3 (λi σ H'=>(∃o,σ=o::rest)/\H' D=some (.lst (ys.take i))/\Si H H') ⟨⟨_,rfl⟩,Sn,Si.upd hD⟩ (λi σ H' _ ⟨_,_,sm⟩=>Su.of (sm _ _ hq)) ?_ ?_
 ·rintro i x σ H' hx ⟨⟨o,rfl⟩,hDs,sm⟩;have hi:i < ys.length:=by rw [el];exact (yj.mp hx).1
  refine Jor (he i x ys[i] H' _ hx (yh hi) sm λH5 s5=>⟨_,s5 _ _ hDs,?_,⟨_,rfl⟩,?_,λc u z=>?_⟩)
  ·rw [yaa];exact Jo6 (by omega)
  ·rw [Sn,yr,yh hi];rfl
  ·rw [Jnc (Jnd z hD)];exact s5 _ _ (sm _ _ z)
 ·rintro σ H' ⟨_,hDs,sm⟩;rw [yad (by omega)] at hDs;exact hd H' sm hDs
section
variable {X:Cx}
theorem Yei {K} (h:X.K=K):MtR X "str.join" (Sl9 K):=by subst h;exact Ygb
theorem Ju8 {K} (h:X.K=K):SlR X (Sry K):=by subst h;exact Jw8
theorem Snc {K} {apos cpos} {id} (h:X.K=K) (pa:PlainAttrs T) (slot:Slot T name id) (hty:typeOf (.builtin id)=pure (.type "method_descriptor")) (hm:MtR X id r) (ho:PE X o to) (ha:PA X (e::es) t)
  (hbase:attributeBase o name X.env (eval o X.env)=eval o X.env:=by rfl)
  (hfew:((backTo cpos (starEach (e::es) X.env)).all (λx=>!x.1)&&(backToKw cpos (keywordEach [] X.env)).all (λx=>x.1.isSome)
   &&decide ((e::es).length+([]:List Keyword).length+(if ([]:List Keyword).isEmpty then 0 else 1) < 30))=true:=by rfl)
  (hline:(apos.endLine==cpos.line)=true:=by rfl) (hs:starEach (e::es) X.env=(false,eval e X.env)::starEach es X.env:=by rfl) (hplain:(backTo cpos (starEach es X.env)).any (·.1)=false:=by rfl):
  PE X (.Call (.Attribute o name apos) (e::es) [] cpos) (tBM K T r to t):=by
 subst h;exact Jty pa slot hty hm ho ha hbase hfew hline hs hplain
end
theorem But.new (b:But p H H') (hD:H D=none) (hp:Sc9 H p):But p H (upd H' D o):=by
 have ne:p≠D:=λe=>by obtain ⟨_,_,_,q⟩:=hp;rw [e,hD] at q;cases q
 refine ⟨λc u n e=>?_,?_⟩
 ·rw [Jnc (λz=>by subst z;rw [hD] at e;cases e)];exact b.1 c u n e
 ·obtain ⟨x,y,z,q⟩:=b.2;exact ⟨x,y,z,by rw [Jnc ne];exact q⟩
inductive Srq (x:V) (y:V) (H:Hp) (Q:VK):Prop where
 |mk (a:_) (b:_) (xs:_) (ys:_) (_:x= .ref a) (_:y= .ref b) (_:H a=some (.tup xs)) (_:H b=some (.tup ys)) (_:xs.length+ys.length<=S6) (_:∀p H',Si H H'->H' p=some (.tup (xs++ys))->Q (.ref p) H')
section
variable {X:Cx}
theorem Jw3:OpR X (binaryOp .Add) Srq:=by
 rintro pins s σ H x y v u Q I rx ry ⟨a,b,xs,ys,rfl,rfl,ha,hb,hz,q⟩;by_cases hx:xs= []
 ·subst hx;obtain rfl:v=Value.ref a:=rx;obtain rfl:u=Value.ref b:=ry;obtain ⟨its,r1,ht,_⟩:=I.tuple (Su.of ha);obtain ⟨its2,r2,hb',_⟩:=I.tuple (Su.of hb);obtain rfl:its= []:=r1.nil_iff.mpr rfl;obtain ⟨⟨cls,dd,data,sl⟩,ho,hc,n,hd⟩:=id ht;obtain ⟨⟨cls2,dd2,data2,sl2⟩,ho2,hc2,n2,hd2⟩:=id hb';subst hc hd hc2 hd2;exact concat_meets ⟨_,ho,rfl⟩ ⟨_,ho2,rfl⟩ noFill_tuple_add seq_tuple_add PySem.F.slot_tuple_add PySem.F.entry_tuple_add (PySem.F.args_tuple_add_2 _ _)
   (tuple_addW0 a b _ _ n n2 dd dd2 sl sl2 (by simp)) ⟨ho,ho2,⟨.ref b,H,I,rfl,q b H (Si.refl H) hb⟩⟩
 ·refine Ygi pins s σ H _ _ v u Q I rx ry ⟨a,b,xs,ys,rfl,rfl,Su.of ha,Su.of hb,hx,hz,λe=>?_,λ_ p hp=>q p _ (Si.upd hp) Sn⟩;subst e;exact q a H (Si.refl H) (by rw [ybb];exact ha)
noncomputable def Srm (x:V):Prop:=Jqo x=true\/∃a,x= .ref a
theorem Jzu:∀n:Nat,(yw n true).all id=true
 |0=>rfl
 |n+1=>by rw [ych,List.all_cons,Jzu n];rfl
end
theorem Jzx (a b c d e):argsOk "object.__init__" ⟨[a,b,c,d,e],[]⟩:=by
 unfold argsOk;rw [signature?_of (n:=['_','_','t','i','n','i','_','_']) (by kernel_rfl) F.owner_object];kernel_rfl
set_option maxRecDepth 100000 in
set_option maxHeartbeats 4000000 in
theorem Ydc (l1 l2 l3 l4:S1) (b1 b2 b3 b4:Bool) (xs ys us vs):
  Meets (Builtin.«zip.__new__» ⟨[.type "zip",.ref l1,.ref l2,.ref l3,.ref l4],[]⟩) (λ_ R s=>IsB s.heap l1 b1 xs/\IsB s.heap l2 b2 ys/\IsB s.heap l3 b3 us/\IsB s.heap l4 b4 vs/\
   R (.ok (.ret (.ref (gE s.heap [(l1,b1),(l2,b2),(l3,b3),(l4,b4)]).objs.size))) {s with heap:=gF s.heap [(l1,b1),(l2,b2),(l3,b3),(l4,b4)]}):=
 .of_wp λprog w A R s h=>by
  obtain ⟨hp,g,d,tk,os⟩:=s;obtain ⟨hl1,hl2,hl3,hl4,h⟩:=h;have e0:=sub_zip;have e1:=hl1;have e2:IsB (Shared.heap ⟨(hp.push (itO l1 b1)),g,d,tk,os⟩) l2 b2 ys:=IsB.push (hl2) _;have e3:IsB (Shared.heap ⟨((hp.push (itO l1 b1)).push (itO l2 b2)),g,d,tk,os⟩) l3 b3 us:=IsB.push (IsB.push (hl3) _) _;have e4:IsB (Shared.heap ⟨(((hp.push (itO l1 b1)).push (itO l2 b2)).push (itO l3 b3)),g,d,tk,os⟩) l4 b4 vs:=IsB.push (IsB.push (IsB.push (hl4) _) _) _
  wp_walk using Jtq e1,Jtq e2,Jtq e3,Jtq e4
  exact ⟨_,rfl,h⟩
theorem Ycb {prog:S7} {w:S9} {A:Sa} {E:S2->S3->Prop} {s:S3} {l1 l2 l3 l4:S1} {b1 b2 b3 b4:Bool} {xs ys us vs} {Q} (h1:IsB s.heap l1 b1 xs) (h2:IsB s.heap l2 b2 ys) (h3:IsB s.heap l3 b3 us) (h4:IsB s.heap l4 b4 vs) (h:Q (.ref (gE s.heap [(l1,b1),(l2,b2),(l3,b3),(l4,b4)]).objs.size) {s with heap:=gF s.heap [(l1,b1),(l2,b2),(l3,b3),(l4,b4)]}):
  Sc (model prog w) A (call (.type "zip") [.ref l1,.ref l2,.ref l3,.ref l4]) Q E s:=
 callType_new F.called_zip (by decide) (by kernel_rfl) (by kernel_rfl) (λobj=>Jzx obj _ _ _ _) F.entry_zip_new (Ydc l1 l2 l3 l4 b1 b2 b3 b4 xs ys us vs) ⟨h1,h2,h3,h4,⟨_,(Jsj s.heap).1,rfl⟩,h⟩
noncomputable abbrev Sjq (K:Sd) (l1 l2 l3 l4:S1) (b1 b2 b3 b4:Bool):It:=Jtl K [(l1,b1),(l2,b2),(l3,b3),(l4,b4)]
theorem Sxs {l1 l2 l3 l4:S1} {b1 b2 b3 b4:Bool} {xs ys us vs:List V} {K:Sd} {H:Hp} (h:SqB K H l1 b1 xs/\SqB K H l2 b2 ys/\SqB K H l3 b3 us/\SqB K H l4 b4 vs):SqN K H [(l1,b1),(l2,b2),(l3,b3),(l4,b4)] [xs,ys,us,vs]:=by
 obtain ⟨q1,q2,q3,q4⟩:=h;refine ⟨rfl,λj l x e1 e2=>?_⟩
 match j with
 |0=>cases e1;cases e2;exact q1
 |1=>cases e1;cases e2;exact q2
 |2=>cases e1;cases e2;exact q3
 |3=>cases e1;cases e2;exact q4
 |j+4=>simp at e1
theorem Smy {xs ys us vs:List V} {i:Nat} {ps:List V} {G:List V->Prop} (h:Jxv [xs,ys,us,vs] i ps) (k:∀x y u v,xs[i]?=some x->ys[i]?=some y->us[i]?=some u->vs[i]?=some v->G [x,y,u,v]):G ps:=by
 obtain ⟨l,f⟩:=h
 match ps,l with
 | [x,y,u,v],_=>exact k x y u v (f 0 x xs rfl rfl) (f 1 y ys rfl rfl) (f 2 u us rfl rfl) (f 3 v vs rfl rfl)
noncomputable def Srh (K:Sd) (b1 b2 b3 b4:Bool) (ta:TA):TI:=λσ H R=>ta σ H λvs H1=>∃a b c d,vs= [.ref a,.ref b,.ref c,.ref d]/\(∃xs,SqB K H1 a b1 xs)/\(∃xs,SqB K H1 b b2 xs)/\(∃xs,SqB K H1 c b3 xs)/\(∃xs,SqB K H1 d b4 xs)/\R (Sjq K a b c d b1 b2 b3 b4) H1
theorem Ygn (b1 b2 b3 b4) (hg:Gl X "zip") (hm:X.mg "zip" =none) (ha:PA X [a,b,c,d] ta) (hs:starEach [a,b,c,d] X.env= [(false,eval a X.env),(false,eval b X.env),(false,eval c X.env),(false,eval d X.env)]:=by rfl) (hs2:starEach [b,c,d] X.env= [(false,eval b X.env),(false,eval c X.env),(false,eval d X.env)]:=by rfl):
  PI X (.Tuple elts kt pt) (.Call (.Name "zip" p) [a,b,c,d] [] pos) (Srh X.K b1 b2 b3 b4 ta):=by
 intro pins s σ H R I h;refine Call_ (Jqf I hg hm Yad (PyProof.Rows.callWith_type1 (thn (ha pos pins s σ H _ I h) λus s1 zq=>?_) (by rw [hs,hs2]) (by rw [hs2];rfl)));obtain ⟨vs,H1,I1,r1,q1⟩:=zq;obtain ⟨l1,l2,l3,l4,rfl,⟨x1,q1⟩,⟨x2,q2⟩,⟨x3,q3⟩,⟨x4,q4⟩,q⟩:=q1;obtain rfl:=Yet (as:=[l1,l2,l3,l4]) r1;obtain ⟨_,_,p1⟩:=I1.seqB q1;obtain ⟨_,_,p2⟩:=I1.seqB q2;obtain ⟨_,_,p3⟩:=I1.seqB q3;obtain ⟨_,_,p4⟩:=I1.seqB q4;refine Ycb p1 p2 p3 p4 (Jzs I1 (λl hl=>?_) (show 4<=S6 by decide) q);simp only [yo,yar,or_false] at hl;rcases hl with rfl|rfl|rfl|rfl
 ·exact p1.lt
 ·exact p2.lt
 ·exact p3.lt
 ·exact p4.lt
section
variable {K:Sd} {g:TG} {σ:St} {H:Hp} {l1 l2 l3 l4:S1} {b1 b2 b3 b4:Bool} {xs ys us vs:List V}
theorem Ycd {tt:TT} {te:TE} {R:Hp->Prop} (Pv:Nat->St->Hp->Prop) (h0:Pv 0 σ H) (hl:∀i σ H,i<=xs.length->Pv i σ H->SqB K H l1 b1 xs/\SqB K H l2 b2 ys/\SqB K H l3 b3 us/\SqB K H l4 b4 vs) (e1:xs.length=ys.length) (e2:xs.length=us.length) (e3:xs.length=vs.length)
  (hs:∀i x y u v σ H T,xs[i]?=some x->ys[i]?=some y->us[i]?=some u->vs[i]?=some v->Pv i σ H->H T=none->g (.ref T) σ (upd H T (.tup [x,y,u,v])) λσ3 H3=>tt σ3 H3 λb H4=>if b=true then te σ3 H4 (λv H5=>∃vs,H5 D=some (.lst vs)/\vs.length < S6/\Pv (i+1) σ3 (upd H5 D (.lst (vs++ [v])))) else Pv (i+1) σ3 H4)
  (hd:∀σ H,Pv xs.length σ H->R H):
  ∃W:Nat->Nat->St->Hp->Prop,(∃m,W 0 m σ H)/\∀i m σ' H',W i m σ' H'->((Sjq K l1 l2 l3 l4 b1 b2 b3 b4).stop i H'/\R H')\/((Sjq K l1 l2 l3 l4 b1 b2 b3 b4).go i H'/\∃N:St->Hp->Prop,(∀σ2 H2,N σ2 H2->∃m',m' < m/\W (i+1) m' σ2 H2)/\
   ∀x H2,(Sjq K l1 l2 l3 l4 b1 b2 b3 b4).yld i H' x H2->g x σ' H2 λσ3 H3=>tt σ3 H3 λb H4=>if b=true then te σ3 H4 (λv H5=>∃vs,H5 D=some (.lst vs)/\vs.length < S6/\N σ3 (upd H5 D (.lst (vs++ [v])))) else N σ3 H4):=
 Jy7 (xss:=[ys,us,vs]) Pv h0 (λi σ H hi p=>Sxs (hl i σ H hi p)) (by simp only [yo,yar,or_false];rintro _ (rfl|rfl|rfl) <;> omega) (λi ps σ H T hp p hT=>Smy (G:=λps=>g (.ref T) σ (upd H T (.tup ps)) λσ3 H3=>tt σ3 H3 λb H4=>if b=true then te σ3 H4 (λv H5=>∃vs,H5 D=some (.lst vs)/\vs.length < S6/\Pv (i+1) σ3 (upd H5 D (.lst (vs++ [v])))) else Pv (i+1) σ3 H4) hp λx y u v h1 h2 h3 h4=>hs i x y u v σ H T h1 h2 h3 h4 p hT) hd
theorem Sst {T} {x y u v} {σ} {H} {A B:L2.St->Hp->Prop} (hT:Su K H T [x,y,u,v]) (h:A ((((σ.set i (some x)).set j (some y)).set k (some u)).set l (some v)) H):
  Sk6 K 4 (Jv4 (Jq5 i) (Jv4 (Jq5 j) (Jv4 (Jq5 k) (Jv4 (Jq5 l) Smq)))) (.ref T) σ H λσ3 H3=>Jzo σ3 H3 λb H4=>if b=true then A σ3 H4 else B σ3 H4:=⟨T,_,rfl,hT,rfl,_,_,rfl,_,_,rfl,_,_,rfl,_,_,rfl,rfl,h⟩
end
end L2
namespace L2
end L2
namespace L2
open PySem PySem.Spec PyProof.Rows PySem.W
theorem Yct {K} {m} {apos pos} {pl} (h1:X.prog=P) (h2:X.w=w) (h3:X.K=K) (h4:X.mg=mg) (h5:X.base=base) (he:PE X o ta) (hr:Sas j X.A) (ha:PA X (e::es) t)
  (hst:starEach (e::es) X.env=(false,eval e X.env)::starEach es X.env:=by rfl) (hpl:(backTo pos (starEach es X.env)).any (·.1)=false:=by rfl)
  (ht:eval (.Call (.Attribute o m apos) (e::es) [] pos) X.env=(do
   let ov<-eval o X.env
   standAt apos.atName
   let (f,first)<-holding [ov] (getMethod ov m pl)
   callWith pos f first (backTo pos (starEach (e::es) X.env)) (backToKw pos (keywordEach [] X.env))):=by rfl):
  PE X (.Call (.Attribute o m apos) (e::es) [] pos) (Jzn P w K mg base j m ta t):=by
 subst h1 h2 h3 h4 h5;exact Ju0 he hr ha hst hpl ht
inductive Srt (K:Sd) (x:V) (y:V) (H:Hp) (Q:VK):Prop where
 |mk (p:_) (xs:_) (i:_) (v:_) (_:x= .ref p) (_:y= .int i) (_:Ss K H p xs) (_:0<=i) (_:atI xs i=some v) (_:Q v H)
theorem Ye0:Sqs X (Srt X.K):=by
 rintro pins s σ H x y v u Q I rx ry ⟨p,xs,i,z,rfl,rfl,hq,h0,he,q⟩;cases rx;obtain ⟨t,rfl⟩:=ry;obtain ⟨its,r,pl,hz⟩:=I.list hq;obtain ⟨j,h1,h2,h3,h4,h5⟩:=Jvu he;obtain ⟨w,ew,rw'⟩:=r.get h2;have hn:=Jt0;have hj:=by
  rw [seqIndex_of h0 h5] at h1;exact yz.inj h1
 exact wpAny_getItem_list pl.isList h0 (by omega) (by rw [hj];simpa using ew) ⟨z,H,I,rw',q⟩
noncomputable def Ydg (K:Sd) (H:Hp) (x y:V) (b:Bool):Prop:=Scy x y b\/∃d e,Sbb K H x d/\Sbb K H y e/\SeqAt.shaped d=true/\SeqAt.shaped e=true/\PyData.eqv d e=b
inductive Srs (K:Sd) (x:V) (y:V) (H:Hp) (Q:VK):Prop where
 |mk (p q:S1) (xs ys:List V) (bs:List Bool) (_:x= .ref p) (_:y= .ref q) (_:Su K H p xs) (_:Su K H q ys) (_:xs.length=ys.length) (_:bs.length=xs.length) (_:(∀(i:Nat) x y b,xs[i]?=some x->ys[i]?=some y->bs[i]?=some b->Ydg K H x y b)) (_:Q (.bl (bs.all id)) H)
section
variable {X:Cx}
theorem Ye3 (hr:Sas k A):A.units+100 < cLine:=by have:=hr.un;omega
theorem Ygj (hu:X.A.units+100 < cLine):OpR X (compareOp .Eq) (Srs X.K):=by
 rintro pins s σ H x y v u Q I rx ry ⟨p,q,xs,ys,bs,rfl,rfl,h1,h2,l1,l2,hs,k⟩;obtain rfl:v=Value.ref p:=rx;obtain rfl:u=Value.ref q:=ry;obtain ⟨its,r1,p1,_⟩:=I.tuple h1;obtain ⟨jts,r2,p2,_⟩:=I.tuple h2;have e1:=r1.length;have e2:=r2.length;refine SeqAt.eq_tupleAt (e:=λj=>bs.getD j false) p1 p2 (by omega) (λj j1 j2=>?_) ⟨.bl _,H,I,rfl,?_⟩
 ·simp only [yp] at j1 j2;have a1:xs[j]?=some xs[j]:=yh (by omega);have a2:ys[j]?=some ys[j]:=yh (by omega);have a3:bs[j]?=some bs[j]:=yh (by omega);obtain ⟨u,hu1,ru⟩:=r1.get a1;obtain ⟨w',hw1,rw'⟩:=r2.get a2;have b1:its.toArray[j]=u:=by simpa [yh j1] using hu1
  have b2:jts.toArray[j]=w':=by simpa [yh j2] using hw1
  have b3:bs.getD j false=bs[j]:=by simp [a3]
  rw [b1,b2,b3];rcases hs j _ _ _ a1 a2 a3 with h|⟨d,e,hd,he,sd,se,eb⟩
  ·exact h.at ru rw'
  ·obtain ⟨as,ra⟩:=hd.reads I ru;obtain ⟨cs,rb⟩:=he.reads I rw';rw [<-eb];exact keq_at ra rb sd se (by show X.A.units+1+64 < cLine;omega)
 ·have e:((yav its.toArray.size).all λj=>bs.getD j false)=bs.all id:=by
   simp only [yp];rw [show its.length=bs.length by omega,Bool.eq_iff_iff,yaz,yaz];constructor
   ·intro h b hb;obtain ⟨j,hj,rfl⟩:=List.getElem_of_mem hb;have:=h j (ybu.mpr hj);simpa [yh hj] using this
   ·intro h j hj;have hj':=ybu.mp hj;have:=h bs[j] (yaq hj');simpa [yh hj'] using this
  have e3:((yav (min its.toArray.size jts.toArray.size)).all (λj=>bs.getD j false)&&its.toArray.size==jts.toArray.size)=bs.all id:=by
   rw [show min its.toArray.size jts.toArray.size=its.toArray.size by simp only [yp];omega,e,show (its.toArray.size==jts.toArray.size)=true by simp only [yp,beq_iff_eq];omega,Bool.and_true]
  rw [e3];exact k
end
theorem ft_mk {K} (X:K.In h) (G:h.Ns mainGlobals mg) {st} {dV kV ct} (a:PySem.W.nsIn K mainGlobals q=some (some (.ref f)))
  (l:K.lookup f=some ⟨oc,od,.func (PySem.W.fnOf q q (Jp1 st) (Jou st) (Jnb st) dV kV dc pm an cd ct),sl⟩) (c:PySem.W.codeIn K cd q=true) (k:PySem.W.keepIn K (.ref f)=true)
  (hb:∀kV doc pm an cdv ct us,us.length=ps.length->bindArgs (PySem.W.fnOf q q (Jp1 st) (Jou st) (Jnb st) dV kV doc pm an cdv ct) ⟨us,[]⟩=pure (ps.zip us)):FT K mg q st ps f (PySem.W.fnOf q q (Jp1 st) (Jou st) (Jnb st) dV kV dc pm an cd ct):=
 ⟨PySem.W.mg_of X G a,Jyv l c k,.all (hb kV dc pm an cd ct)⟩
theorem fm_mk {K} {st} {dV kV ct}
  (l:K.lookup f=some ⟨oc,od,.func (PySem.W.fnOf n q (Jp1 st) (Jou st) (Jnb st) dV kV dc pm an cd ct),sl⟩) (c:PySem.W.codeIn K cd q=true) (k:PySem.W.keepIn K (.ref f)=true)
  (hb:∀kV doc pm an cdv ct us,us.length=ps.length->bindArgs (PySem.W.fnOf n q (Jp1 st) (Jou st) (Jnb st) dV kV doc pm an cdv ct) ⟨us,[]⟩=pure (ps.zip us)):FM K n q st ps f (PySem.W.fnOf n q (Jp1 st) (Jou st) (Jnb st) dV kV dc pm an cd ct):=
 ⟨Jyv l c k,.all (hb kV dc pm an cd ct)⟩
theorem xc_mk {K} {sub}
  (l:K.lookup C=some (excClassObj nm q C N bs (.ref W::VEm) true sn sub ab col dd u v w x y "ValueError.__new__")) (t:PySem.W.tailIn K VEm (.ref W::VEm)=true) (a:xcB K C fI=true):Sag K C W fI:=⟨⟨_,_,_,_,_,_,_,_,_,_,_,_,_,_,l⟩,t,a⟩
theorem ec_mk {K} (l:K.lookup C=some ⟨.type "type",dd,.cls cl,s⟩) (m:Sg K C (.type "BaseException")=some true):Six K C:=⟨⟨_,_,_,l⟩,m⟩
section
variable {K:Sd} {g:TG} {σ:St} {H:Hp}
theorem Ydl {xs} {tt:TT} {te:TE} {R:Hp->Prop} (Pv:Nat->St->Hp->Prop) (h0:Pv 0 σ H) (hl:∀i σ H,i<=xs.length->Pv i σ H->Ss K H a xs)
  (hs:∀i x σ H T,xs[i]?=some x->Pv i σ H->H T=none->g (.ref T) σ (upd H T (.tup [.int i,x])) λσ3 H3=>tt σ3 H3 λb H4=>if b=true then te σ3 H4 (λv H5=>∃vs,H5 D=some (.lst vs)/\vs.length < S6/\Pv (i+1) σ3 (upd H5 D (.lst (vs++ [v])))) else Pv (i+1) σ3 H4)
  (hd:∀σ H,Pv xs.length σ H->R H):
  ∃W:Nat->Nat->St->Hp->Prop,(∃m,W 0 m σ H)/\∀i m σ' H',W i m σ' H'->((ItE K a).stop i H'/\R H')\/((ItE K a).go i H'/\∃N:St->Hp->Prop,(∀σ2 H2,N σ2 H2->∃m',m' < m/\W (i+1) m' σ2 H2)/\
   ∀x H2,(ItE K a).yld i H' x H2->g x σ' H2 λσ3 H3=>tt σ3 H3 λb H4=>if b=true then te σ3 H4 (λv H5=>∃vs,H5 D=some (.lst vs)/\vs.length < S6/\N σ3 (upd H5 D (.lst (vs++ [v])))) else N σ3 H4):=by
 refine ⟨λi m σ H=>m=xs.length - i/\i<=xs.length/\Pv i σ H,⟨xs.length,by simp,yaj _,h0⟩,?_⟩;rintro i m σ H ⟨rfl,hi,p⟩;have q:=hl i σ H hi p;by_cases hlt:i < xs.length
 ·refine .inr ⟨⟨xs,xs[i],q,by simp [hlt]⟩,Pv (i+1),λσ' H' p'=>⟨xs.length - (i+1),by omega,rfl,hlt,p'⟩,λx H' y=>?_⟩;obtain ⟨T,u,hT,rfl,hu,rfl⟩:=y;exact hs i u σ _ T (hu xs q) p hT
 ·have e:i=xs.length:=by omega
  subst e;exact .inl ⟨⟨xs,q,rfl⟩,hd σ H p⟩
end
theorem Jzv (a b c):argsOk "object.__init__" ⟨[a,b,c],[]⟩:=by
 unfold argsOk;rw [signature?_of (n:=['_','_','t','i','n','i','_','_']) (by kernel_rfl) F.owner_object];kernel_rfl
set_option maxRecDepth 100000 in
set_option maxHeartbeats 4000000 in
theorem Yda (l1 l2:S1) (b1 b2:Bool) (xs ys):
  Meets (Builtin.«zip.__new__» ⟨[.type "zip",.ref l1,.ref l2],[]⟩) (λ_ R s=>IsB s.heap l1 b1 xs/\IsB s.heap l2 b2 ys/\
   R (.ok (.ret (.ref (gE s.heap [(l1,b1),(l2,b2)]).objs.size))) {s with heap:=gF s.heap [(l1,b1),(l2,b2)]}):=
 .of_wp λprog w A R s h=>by
  obtain ⟨hp,g,d,tk,os⟩:=s;obtain ⟨hl1,hl2,h⟩:=h;have e0:=sub_zip;have e1:=hl1;have e2:IsB (Shared.heap ⟨(hp.push (itO l1 b1)),g,d,tk,os⟩) l2 b2 ys:=IsB.push (hl2) _
  wp_walk using Jtq e1,Jtq e2
  exact ⟨_,rfl,h⟩
theorem Yc9 {prog:S7} {w:S9} {A:Sa} {E:S2->S3->Prop} {s:S3} {l1 l2:S1} {b1 b2:Bool} {xs ys} {Q} (h1:IsB s.heap l1 b1 xs) (h2:IsB s.heap l2 b2 ys) (h:Q (.ref (gE s.heap [(l1,b1),(l2,b2)]).objs.size) {s with heap:=gF s.heap [(l1,b1),(l2,b2)]}):
  Sc (model prog w) A (call (.type "zip") [.ref l1,.ref l2]) Q E s:=
 callType_new F.called_zip (by decide) (by kernel_rfl) (by kernel_rfl) (λobj=>Jzv obj _ _) F.entry_zip_new (Yda l1 l2 b1 b2 xs ys) ⟨h1,h2,⟨_,(Jsj s.heap).1,rfl⟩,h⟩
noncomputable abbrev Sjo (K:Sd) (l1 l2:S1) (b1 b2:Bool):It:=Jtl K [(l1,b1),(l2,b2)]
theorem Sxq {l1 l2:S1} {b1 b2:Bool} {xs ys:List V} {K:Sd} {H:Hp} (h:SqB K H l1 b1 xs/\SqB K H l2 b2 ys):SqN K H [(l1,b1),(l2,b2)] [xs,ys]:=by
 obtain ⟨q1,q2⟩:=h;refine ⟨rfl,λj l x e1 e2=>?_⟩
 match j with
 |0=>cases e1;cases e2;exact q1
 |1=>cases e1;cases e2;exact q2
 |j+2=>simp at e1
theorem Smw {xs ys:List V} {i:Nat} {ps:List V} {G:List V->Prop} (h:Jxv [xs,ys] i ps) (k:∀x y,xs[i]?=some x->ys[i]?=some y->G [x,y]):G ps:=by
 obtain ⟨l,f⟩:=h
 match ps,l with
 | [x,y],_=>exact k x y (f 0 x xs rfl rfl) (f 1 y ys rfl rfl)
noncomputable def Srf (K:Sd) (b1 b2:Bool) (ta:TA):TI:=λσ H R=>ta σ H λvs H1=>∃a b,vs= [.ref a,.ref b]/\(∃xs,SqB K H1 a b1 xs)/\(∃xs,SqB K H1 b b2 xs)/\R (Sjo K a b b1 b2) H1
theorem Ygm (b1 b2) (hg:Gl X "zip") (hm:X.mg "zip" =none) (ha:PA X [a,b] ta) (hs:starEach [a,b] X.env= [(false,eval a X.env),(false,eval b X.env)]:=by rfl) (hs2:starEach [b] X.env= [(false,eval b X.env)]:=by rfl):
  PI X (.Tuple elts kt pt) (.Call (.Name "zip" p) [a,b] [] pos) (Srf X.K b1 b2 ta):=by
 intro pins s σ H R I h;refine Call_ (Jqf I hg hm Yad (PyProof.Rows.callWith_type1 (thn (ha pos pins s σ H _ I h) λus s1 zq=>?_) (by rw [hs,hs2]) (by rw [hs2];rfl)));obtain ⟨vs,H1,I1,r1,q1⟩:=zq;obtain ⟨l1,l2,rfl,⟨x1,q1⟩,⟨x2,q2⟩,q⟩:=q1;obtain rfl:=Yet (as:=[l1,l2]) r1;obtain ⟨_,_,p1⟩:=I1.seqB q1;obtain ⟨_,_,p2⟩:=I1.seqB q2;refine Yc9 p1 p2 (Jzs I1 (λl hl=>?_) (show 2<=S6 by decide) q);simp only [yo,yar,or_false] at hl;rcases hl with rfl|rfl
 ·exact p1.lt
 ·exact p2.lt
section
variable {K:Sd} {g:TG} {σ:St} {H:Hp} {l1 l2:S1} {b1 b2:Bool} {xs ys:List V}
theorem Ydy {tb:TS} {D:Sc2} (Pv:Nat->St->Hp->Prop) (h0:Pv 0 σ H) (hl:∀i σ H,i<=xs.length->Pv i σ H->SqB K H l1 b1 xs/\SqB K H l2 b2 ys) (e1:xs.length=ys.length)
  (hs:∀i x y σ H T,xs[i]?=some x->ys[i]?=some y->Pv i σ H->H T=none->g (.ref T) σ (upd H T (.tup [x,y])) λσ2 H2=>tb {D with nx:=Pv (i+1),ct:=Pv (i+1),bk:=D.nx} σ2 H2) (hd:∀σ H,Pv xs.length σ H->D.nx σ H):
  ∃W:Nat->Nat->St->Hp->Prop,(∃m,W 0 m σ H)/\∀i m σ H,W i m σ H->
   ((Sjo K l1 l2 b1 b2).stop i H/\D.nx σ H)\/((Sjo K l1 l2 b1 b2).go i H/\∃N:St->Hp->Prop,(∀σ' H',N σ' H'->∃m',m' < m/\W (i+1) m' σ' H')/\∀x H',(Sjo K l1 l2 b1 b2).yld i H x H'->g x σ H' λσ2 H2=>tb {D with nx:=N,ct:=N,bk:=D.nx} σ2 H2):=
 Ydz (xss:=[ys]) Pv h0 (λi σ H hi p=>Sxq (hl i σ H hi p)) (by simp only [yo,yar,or_false];rintro _ (rfl) <;> omega) (λi ps σ H T hp p hT=>Smw (G:=λps=>g (.ref T) σ (upd H T (.tup ps)) λσ2 H2=>tb {D with nx:=Pv (i+1),ct:=Pv (i+1),bk:=D.nx} σ2 H2) hp λx y h1 h2=>hs i x y σ H T h1 h2 p hT) hd
end
section
variable {X:Cx}
end
end L2
namespace L2
open PySem PySem.Spec PyProof.Rows
section
variable {H:Hp} {lb:Array (Nat×Nat×Str)}
end
section
variable {X:Cx} {pins:List (S1×Obj)} {σ:St} {H:Hp} {s:S3} {M:Model} {A:Sa} {E:S2->S3->Prop} {name qual:Str} {st:Stmt} {pos:Pos} {firstLine:Nat} {c P:S1} {lb:Array (Nat×Nat×Str)} {clos:List (Str×S1)} {Q:S2->S3->Prop}
end
section
variable {X:Cx} {pins:List (S1×Obj)} {σ:St} {H:Hp} {s:S3} {cn:Str->Bool}
end
section
variable {X:Cx} {st:Stmt} {rest:List Stmt} {t u:TS}
end
section
variable {X:Cx} {rest:List Stmt} {t:TS} {st:Stmt} {name qual:Str} {i:Nat} {c P:S1} {lb:Array (Nat×Nat×Str)} {caps:List (Str×Nat)}
end
section
variable {M:Model} {A:Sa} {E:S2->S3->Prop} {s₀ s:S3} {m cm:Str->Option S2} {env:Env} {cs:List (Str×S1)}
end
section
variable {X:Cx} {CX:CXT} {k j i:Nat} {sp:S1->Sp} {x:Str} {p pos:Pos} {e:Expr} {es:List Expr} {t:TA} {R:St->XK}
end
end L2
namespace L2
open PySem PySem.Spec PyProof.Rows PySem.W
theorem KV.get (r:KV kvs vs):∀{i:Nat} {k:Key} {x},kvs[i]?=some (k,x)->∃u,vs[i]?=some (k,u)/\Sz x u:=by
 induction r with
 |nil=>intro i k x h;simp at h
 | @cons a b l1 l2 h t ih=>
  intro i k x e;cases i with
  |zero=>
   obtain rfl:a=(k,x):=by simpa using e
   obtain ⟨k',u⟩:=b;obtain ⟨e1,e2⟩:=h;cases e1;exact ⟨u,rfl,e2⟩
  |succ j=>exact ih (by simpa using e)
theorem Snn (h:(Jo4 P w).is k u=true):Sz (kV k) u:=by
 rw [Yaq] at h;cases k with
 |inl i=>
  cases u <;> simp [Jv5,Value.isInt] at h;subst h;exact ⟨_,rfl⟩
 |inr x=>
  obtain ⟨t,e⟩:=Value.isStrOf_shape h;exact ⟨t,e⟩
section
variable {X:Cx} {pins:List (S1×Obj)} {σ:St} {H:Hp} {s:S3}
theorem Sm.frz (I:Sm X pins σ H s) (e:H a=some (.dK kvs)) (ho:s.heap.get? a=some o):Sm X pins σ (upd H a (.frz o (.dK kvs))) s:=by
 have mu:Mut (H a):=by rw [e];trivial
 exact I.un (Un.write mu (.inl rfl) (λb u _ q=>q) ⟨o,ho⟩) (HOk.write I.hok mu (.inl rfl) (λb u _ q=>q) ⟨o,ho⟩ ⟨ho,I.hok a _ e⟩)
theorem Ydw (I:Sm X pins σ H s) (ea:H a=some (.frz o (.dK kvs))):
  kvs.length<=S6/\(a==sysModules)=false/\∃vs es ep,KV kvs vs/\o.data= .dict es ep/\s.heap.DictAt (Jo4 X.prog X.w) a vs ep:=by
 obtain ⟨e1,z,hd,vs,rel,o',es,ep,e2,x,d,r⟩:=(I.hok a _ ea);rw [e1] at e2;cases e2;exact ⟨z,hd,vs,es,ep,rel,d,o,es,e1,x,d,r⟩
end
noncomputable def Iti (a:S1) (o:Obj) (kvs:List (Key×V)):It:=
 ⟨λi H=>H a=some (.frz o (.dK kvs))/\i < kvs.length,λi H x H'=>∃T k u,H T=none/\x= .ref T/\kvs[i]?=some (k,u)/\H'=upd H T (.tup [kV k,u]),λi H=>H a=some (.frz o (.dK kvs))/\kvs.length<=i⟩
noncomputable def ISt (it a:S1) (o:Obj) (n i:Nat) (h:Sb):Prop:=∃es ep,o.data= .dict es ep/\∃ok ov,IsItemIter h it a i n ep ok ov
theorem Ybc {K} (a it) (o) (kvs):Turn P w K (.Tuple elts kt pt) (Iti a o kvs) [it] it (ISt it a o kvs.length) where
 mem:=by simp
 obj:=λi h st b hb=>by
  have e:=by simpa using hb
  subst e;obtain ⟨es,ep,_,ok,ov,e⟩:=st;exact ⟨_,e,λv z=>by cases z⟩
 keep:=λi h h' st k=>by
  obtain ⟨es,ep,q,ok,ov,e⟩:=st;exact ⟨es,ep,q,ok,ov,k it (by simp) _ e⟩
 item:=by
  intro X hP hw hK hc i pins s σ H E I hf st hg;subst hP hw hK;obtain ⟨ea,hi⟩:=hg;obtain ⟨es,ep,ed,ok,ov,st⟩:=st;obtain ⟨_,_,vs,es',ep',rel,ed',da⟩:=Ydw I ea;rw [ed] at ed';cases ed';have hl:=rel.length;have hx:kvs[i]?=some (kvs[i].1,kvs[i].2):=by simp [hi]
  obtain ⟨u,hu,ru⟩:=rel.get hx;rw [hl] at st;refine wpAny_pyNext_items_item st da hu λkey h' hk st' tT sz kk=>⟨_,rfl,wpAny_letOwnedTupleGo_items st' λh'' st'' sb=>?_⟩;have ne:s.heap.objs.size≠it:=λw'=>absurd (yk st) (by rw [<-w'];exact ybg _);refine ⟨.ref s.heap.objs.size,upd H s.heap.objs.size (.tup [kV kvs[i].1,kvs[i].2]),I.turnTup hf (λc o hc q=>(sb.2 c (by simpa using hc)).trans (kk c o (by simpa using hc) q)) (yg _)
   ⟨(show 2<=S6 by decide),[key,u],.cons (Snn hk) (.cons ru .nil),⟨_,((sb.2 _ ne).trans tT),rfl,_,rfl⟩⟩,rfl,⟨_,_,_,I.hok.fresh (yg _),rfl,hx,rfl⟩,⟨es,ep,ed,_,_,by rw [hl];exact st''⟩,λc hc=>?_⟩
  have e:=by simpa using hc
  subst e;rw [Jnc (yx ne)];exact (hf c hc).1
 done:=by
  intro X hP hw hK hc i pins s σ H E I hf st hg;subst hP hw hK;obtain ⟨ea,hi⟩:=hg;obtain ⟨es,ep,ed,ok,ov,st⟩:=st;obtain ⟨_,_,vs,es',ep',rel,ed',da⟩:=Ydw I ea;rw [ed] at ed';cases ed';have hl:=rel.length;obtain ⟨f0,f1,f2,f3,f4,f5⟩:=hf it (by simp);rw [hl] at st;exact wpAny_pyNext_items_end (I.ok.hd hc) st da (by simp;omega) λh' eb=>⟨rfl,I.turned (λb o hb e=>eb b o hb e) f0 f1 f3 f4 f5⟩
 self:=λ_ _ _ _ _ st h=>let ⟨_,_,_,_,_,q⟩:=st;kcp_self q h
noncomputable def Smr (td:TE):TI:=λσ H R=>td σ H λx H1=>∃a o kvs,x= .ref a/\H1 a=some (.frz o (.dK kvs))/\R (Iti a o kvs) H1
theorem Yq {elts} {kt} {apos cpos} (ho:PE X o td) (hbase:attributeBase o "items" X.env (eval o X.env)=eval o X.env:=by rfl) (hline:(apos.endLine==cpos.line)=true:=by rfl):
  PI X (.Tuple elts kt pt) (.Call (.Attribute o "items" apos) [] [] cpos) (Smr td):=by
 intro pins s σ H R I h;refine wpAny_Call_method0_late hbase hline (thn (ho pins s σ H _ I h) λv s1 zq=>?_);obtain ⟨x,H1,I1,r1,q1⟩:=zq;obtain ⟨a,ob,kvs,rfl,ea,q⟩:=q1;obtain rfl:v=Value.ref a:=r1;obtain ⟨t1,t2,_⟩:=Smv I1 (.inl ⟨kvs,.inr ⟨ob,ea⟩⟩);refine ⟨"dict","dict.items",PySem.F.plainAttrs_dict,PySem.F.slot_dict_items,PySem.F.type_dict_items,t1,t2,Calls.callWith_builtin rfl (PySem.evalArgs_none ?_)⟩;obtain ⟨z,hd,vs,es,ep,rel,ed,da⟩:=Ydw I1 ea;refine call_meetsIn PySem.F.slot_dict_items da.dictOf.typeIs PySem.F.entry_dict_items (PySem.F.args_dict_items_1 _) (meets_dict_items (Jo4 X.prog X.w) a hd) ⟨⟨vs,da.dictOf⟩,wpAny_pyIter_items ⟨_,yt _ rfl,rfl,rfl⟩ (da.keep λb o e=>ym _ e) ?_⟩;refine ⟨_,[_],_,_,H1,rfl,I1.kept λb o e=>ym _ (ym _ e),Ybc a _ ob kvs,⟨es,ep,ed,.none,.none,by rw [rel.length];exact yt _ rfl⟩,λb hb=>?_,q⟩;have le:s1.heap.objs.size<=b:=by
  rw [yal.mp hb];simp [Heap.push]
 exact I1.fpOk le (I1.hok.fresh le)
section
variable {g:TG} {tt:TT} {te:TE} {H:Hp} {D:S1} {σ:St} {R:Hp->Prop}
theorem Yaf (Pv:Nat->St->Hp->Prop) (h0:Pv 0 σ H) (hl:∀i σ H,i<=kvs.length->Pv i σ H->H a=some (.frz o (.dK kvs)))
  (hs:∀i k x σ H T,kvs[i]?=some (k,x)->Pv i σ H->H T=none->g (.ref T) σ (upd H T (.tup [kV k,x])) λσ3 H3=>tt σ3 H3 λb H4=>if b=true then te σ3 H4 (λv H5=>∃ys,H5 D=some (.lst ys)/\ys.length < S6/\Pv (i+1) σ3 (upd H5 D (.lst (ys++ [v])))) else Pv (i+1) σ3 H4)
  (hd:∀σ H,Pv kvs.length σ H->R H):
  ∃W:Nat->Nat->St->Hp->Prop,(∃m,W 0 m σ H)/\∀i m σ' H',W i m σ' H'->((Iti a o kvs).stop i H'/\R H')\/((Iti a o kvs).go i H'/\∃N:St->Hp->Prop,(∀σ2 H2,N σ2 H2->∃m',m' < m/\W (i+1) m' σ2 H2)/\
   ∀x H2,(Iti a o kvs).yld i H' x H2->g x σ' H2 λσ3 H3=>tt σ3 H3 λb H4=>if b=true then te σ3 H4 (λv H5=>∃ys,H5 D=some (.lst ys)/\ys.length < S6/\N σ3 (upd H5 D (.lst (ys++ [v])))) else N σ3 H4):=by
 refine ⟨λi m σ H=>m=kvs.length - i/\i<=kvs.length/\Pv i σ H,⟨kvs.length,by simp,yaj _,h0⟩,?_⟩;rintro i m σ H ⟨rfl,hi,p⟩;have q:=hl i σ H hi p;by_cases hlt:i < kvs.length
 ·refine .inr ⟨⟨q,hlt⟩,Pv (i+1),λσ' H' p'=>⟨kvs.length - (i+1),by omega,rfl,hlt,p'⟩,λx H' y=>?_⟩;obtain ⟨T,k,u,hT,rfl,y,rfl⟩:=y;exact hs i k u σ _ T y p hT
 ·have e:i=kvs.length:=by omega
  subst e;exact .inl ⟨⟨q,yg _⟩,hd σ H p⟩
end
theorem Jyy:typeLookup (.type "list") "keys" =pure none:=by rw [typeLookup_type];kernel_rfl
section
variable {prog:S7} {w:S9} {A:Sa} {E:S2->S3->Prop} {s:S3} {a:S1} {its:Array S2} {n:Nat}
theorem Jwk (hx:s.heap.get? a=some {cls:=.type "list",data:=.seq its n}) (hA:A.handled=none)
  (h:∀h' tk,(∀b o,s.heap.get? b=some o->h'.get? b=some o)->Q none {s with heap:=h',toks:=tk}):
  Sc (model prog w) A (getAttr? (.ref a) "keys") Q E s:=by
 obtain ⟨hp,g,d,tk,os⟩:=s;have hT:∀tk',(⟨hp,g,d,tk',os⟩:S3).TypeIs (.ref a) "list" :=λ_=>⟨_,hx,rfl⟩;have f1:=sub_AttributeError;have f3:=PySem.F.slot_list_getattribute.lookup;have f4:=PySem.F.slot_list_getattribute.bind (.ref a);have f5:=am_list_getattr_none
 repeat (any_goals (first|assumption|exact hT _|((with_reducible show Sc _ _ (call (Value.builtin "list.__getattribute__") _ _) _ _ _);refine call_meets PySem.F.slot_list_getattribute (hT _) am_entry_list_getattribute (PySem.F.args_list_getattribute_2 _ _) (meets_getattribute_miss_list a its n #[] "keys" _ Jyy (by decide) (by size_fits)) ⟨hx,hA,λh' tk' e hx'=>?_⟩)|wp_step))
 obtain ⟨t',u',he⟩:=hx'.there;show Sc _ _ (getattributeRaised _ _ _ _ _ _ _) _ _ _
 repeat (any_goals (first|assumption|wp_step))
 exact h _ _ hx'.keeps
end
theorem Jy9:entryFor table "dict.update.loop" =some Builtin.«dict.update.loop»:=entryFor_of_tree (by kernel_rfl)
section
variable {prog:S7} {w:S9} {K:Type} [DecidableEq K] {knd:KeyKind prog w K} {A:Sa}
theorem Yd4 {α:Type} {l:List α} {x} (h:l[i]?=some x):l.take (i+1)=l.take i++ [x]:=by
 rw [yr,h];rfl
end
theorem Yhr (e:xs.length=n) (h:ItemsOf P acc n) (hP:∀i v,i < n->P i v->∃x,xs[i]?=some x/\Sz x v):Sx xs acc.toList:=by
 obtain ⟨h1,h2⟩:=h;have go:∀xs l,xs.length=l.length->(∀(i:Nat) v,l[i]?=some v->∃x,xs[i]?=some x/\Sz x v)->Sx xs l:=by
  intro xs
  induction xs with
  |nil=>
   intro l e _;cases l with
   |nil=>exact .nil
   |cons _ _=>simp at e
  |cons x xs ih=>
   intro l e hl;cases l with
   |nil=>simp at e
   |cons v l=>
    obtain ⟨y,e1,r1⟩:=hl 0 v rfl;simp at e1;subst e1;exact .cons r1 (ih l (by simpa using e) λi v' e'=>by simpa using hl (i+1) v' (by simpa using e'))
 refine go xs acc.toList (by simp only [ybv];exact e.trans h1.symm) λi v e'=>?_;have e2:acc[i]?=some v:=by rw [<-Array.getElem?_toList];exact e'
 exact hP i v (by have:=(yci.mp e2).1;omega) (h2 i v e2)
theorem Jqs (hc:X.calm=true):Jp9 X (.type "list") (λxs H Q=>∃p i j,xs= [V.ref p]/\H p=some (.rng i j)/\ -1000<=i/\i<=1000/\ -1000<=j/\j<=1000/\
  ∀l,H l=none->Q (.ref l) (upd H l (.lst ((yav (j - i).toNat).map λk:Nat=>V.int (i+k))))):=by
 rintro pins s σ H xs us Q I r ⟨p,i,j,rfl,hp,h1,h2,h3,h4,q⟩;obtain ⟨u,rfl,r2⟩:=Jq1 r;obtain rfl:u=Value.ref p:=r2;obtain ⟨t,u,v,e⟩:=(I.hok p _ hp);refine call_list_range (n:=(j - i).toNat) (I.ok.hd hc) e (small_one (by omega) (by omega) (by omega) (by omega)) (by rw [rangeSize_one];split <;> omega) (by omega) λh' tk acc c kp hl hI=>?_;have rv:Sx ((yav (j - i).toNat).map λk:Nat=>V.int (i+k)) acc.toList:=by
  refine Yhr (by simp) hI λk w' lt hw=>?_;obtain ⟨t,rfl⟩:=hw;exact ⟨.int (i+k),by simp [lt],t,by simp⟩
 refine ⟨.ref s.heap.objs.size,_,I.laid (o:=.lst _) kp (yg _) ⟨?_,acc.toList,c,rv,by simpa using hl⟩,rfl,q _ (I.hok.fresh (yg _))⟩;rw [sizeLine_eq,ye,ybn];omega
section
variable {prog:S7} {w:S9} {K:Type} [DecidableEq K] {knd:KeyKind prog w K} {A:Sa} {E:S2->S3->Prop} {s:S3} {b:Bool}
end
section
variable {prog:S7} {w:S9} {A:Sa} {R:Result->S3->Prop} {I:S1} {fp wr:List S1} {n:Nat} {P:Nat->S2->Prop} {St:Nat->Sb->Prop}
end
section
variable {prog:S7} {w:S9} {A:Sa} {E:S2->S3->Prop} {s:S3}
end
section
variable {M:Model} {A:Sa} {E:S2->S3->Prop} {s:S3}
end
section
variable {prog:S7} {w:S9} {A:Sa} {E:S2->S3->Prop} {s:S3} {it a T:S1} {i ep slot next p m:Nat} {x:S2} {h0:Int} {tk:Tok} {o oT:Obj} {es:Array (Int×S2)} {t:SetTable} {ps:Array S2} {Q:Option S2->S3->Prop}
end
section
variable {prog:S7} {w:S9} {A:Sa} {E:S2->S3->Prop} {s:S3} {it a:S1} {i ep slot:Nat} {o:Obj} {es:Array (Int×S2)} {t:SetTable}
end
section
variable {prog:S7} {w:S9} {A:Sa} {E:S2->S3->Prop} {s:S3} {it a:S1}
end
section
variable {prog:S7} {w:S9} {A:Sa} {it a T:S1} {ep m:Nat} {o oT:Obj} {es:Array (Int×S2)} {t:SetTable} {ps:Array S2}
end
section
variable {prog:S7} {w:S9} {A:Sa} {E:S2->S3->Prop} {s:S3} {a:S1} {ep:Nat} {o:Obj} {es:Array (Int×S2)} {t:SetTable}
end
end L2
namespace L2
open PySem PySem.Spec PyProof.Rows PySem.W PySem.Calls
section
variable {prog:S7} {w:S9} {A:Sa} {E:S2->S3->Prop} {s:S3} {a:S1} {ep:Nat} {o:Obj} {es:Array (Int×S2)} {t:SetTable}
end
end L2
namespace L2
open PySem PySem.Spec PyProof.Rows PySem.W
section
variable {X:Cx}
end
theorem Ybj:bootBuiltins "dict" =some (.type "dict"):=by decide +kernel
theorem Jwc:bootBuiltins "range" =some (.type "range"):=by decide +kernel
section
variable {X:Cx}
theorem Jxn (hu:X.A.units+64 < cLine):OpR X (compareOp .NotIn) (λy x H Q=>∃a o,x= .ref a/\Sq3 H a y o/\Q (.bl (!o.isSome)) H):=by
 rintro pins s σ H y x v u Q I ry rx ⟨a,o,rfl,g,q⟩;obtain rfl:u=Value.ref a:=rx;exact Yfz (by omega) I g ry λs3 I3=>⟨.bl (!o.isSome),H,I3,rfl,q⟩
end
section
variable {X:Cx} {CX:CXT} {k j i:Nat} {sp:S1->Sp} {x:Str} {p pos:Pos} {e:Expr} {es:List Expr} {t:TA} {R:St->XK}
end
section
variable {X:Cx} {o i value:Expr} {pos pos':Pos} {td ty tv:TE}
theorem Ycw (hu:X.A.units+64 < cLine) (ho:PE X o td) (hi:PE X i ty) (hv:PE X value tv) (hs:swapsWith value (some (.Subscript o i pos')) pos.line X.env=pure false):
  PS X (.Assign [.Subscript o i pos'] value pos) (Slb td ty tv):=Ygp (by omega) ho hi hv hs
end
noncomputable def DX (P:S7) (w:S9) (a:S1) (o:Obj) (kvs:List (Key×V)):HO:=
 .ext λh=>h.get? a=some o/\kvs.length<=S6/\(a==sysModules)=false/\∃vs es ep,KV kvs vs/\o.data= .dict es ep/\h.DictAt (Jo4 P w) a vs ep
noncomputable def DK (P:S7) (w:S9) (H:Hp) (a:S1) (kvs:List (Key×V)):Prop:=H a=some (.dK kvs)\/(∃o,H a=some (.frz o (.dK kvs)))\/∃o,H a=some (DX P w a o kvs)
section
variable {P:S7} {w:S9} {H H':Hp} {h:Sb} {a:S1} {o:Obj} {kvs:List (Key×V)}
theorem Sr6 (ok:HOk P w H h) (d:DK P w H a kvs):kvs.length<=S6/\(a==sysModules)=false/\∃vs,KV kvs vs/\h.DictOf (Jo4 P w) a vs:=by
 rcases d with e|⟨o,e⟩|⟨o,e⟩
 ·exact Jy8 ok (.inl e)
 ·exact Jy8 ok (.inr ⟨o,e⟩)
 ·obtain ⟨⟨_,z,hd,vs,es,ep,rel,d,da⟩,_⟩:=(ok a _ e);exact ⟨z,hd,vs,rel,da.dictOf⟩
end
section
variable {X:Cx} {pins:List (S1×Obj)} {σ:St} {H:Hp} {s:S3} {a:S1} {o:Obj} {kvs:List (Key×V)}
inductive Soo (Q:VK) (v:V) (H1:Hp):Prop where
 |mk (a:_) (kvs:_) (_:v= .ref a) (_:H1 a=some (.dK kvs)) (_:∀o,Q v (upd H1 a (.frz o (.dK kvs))))
noncomputable def Sxy (te:TE):TE:=λσ H Q=>te σ H (Soo Q)
theorem Snd (he:PE X e te):PE X e (Sxy te):=by
 intro pins s σ H Q I h;refine thn (he pins s σ H _ I h) λu s1 zq=>?_;obtain ⟨x,H1,I1,r1,a,kvs,ex,e1,q⟩:=zq;obtain ⟨_,_,vs,_,ob,es,ep,e2,_⟩:=(I1.hok a _ e1);exact ⟨x,_,I1.frz e1 e2,r1,q ob⟩
theorem Ydk:Jp9 X (.builtin "isinstance") (λxs H Q=>∃a kvs,xs= [.ref a,.ty "dict"]/\DK X.prog X.w H a kvs/\Q (.bl true) H):=by
 rintro pins s σ H vs us Q I r ⟨a,kvs,rfl,d,k⟩;obtain ⟨v,w',rfl,r1,r2⟩:=Ya4 r;obtain rfl:v=Value.ref a:=r1;cases r2;obtain ⟨_,_,vs,_,o,es,ep,h1,h2,_⟩:=Sr6 I.hok d;exact PySem.W.kia_one PySem.W.kitx_dict I.kIn ⟨o,h1,h2.1⟩ rfl (λz=>nomatch z) λtk=>⟨.bl true,H,I.tok _,rfl,k⟩
end
section
variable {prog:S7} {w:S9} {A:Sa} {E:S2->S3->Prop} {s:S3}
end
section
variable {X:Cx}
theorem Juh:Jp9 X (.type "range") (λxs H Q=>∃j,xs= [V.int j]/\∀p,H p=none->Q (.ref p) (upd H p (.rng 0 j))):=by
 rintro pins s σ H xs us Q I r ⟨j,rfl,q⟩;obtain ⟨u,rfl,r1⟩:=Jq1 r;obtain ⟨t1,rfl⟩:=r1;exact call_range_1 ⟨.ref s.heap.objs.size,_,I.laid (o:=.rng 0 j) (λb o e=>ym _ e) (yg _) ⟨_,_,_,yt _ rfl⟩,rfl,q _ (I.hok.fresh (yg _))⟩
end
section
variable {X:Cx} {x:Str} {np pos:Pos} {C0:S1} {b₀:Stmt} {suite:List Stmt} {rest:List ExceptHandler} {ts:S1->TS} {th:TH}
end
end L2
namespace L2
open PySem PySem.Spec PyProof.Rows
section
variable {X:Cx} {pins:List (S1×Obj)} {σ:St} {H:Hp} {s:S3} {M:Model} {A:Sa} {E:S2->S3->Prop} {qual:Str} {e:Expr} {pos:Pos} {firstLine:Nat} {c P:S1} {lb:Array (Nat×Nat×Str)} {clos:List (Str×S1)} {Q:S2->S3->Prop}
end
section
variable {X:Cx} {t:TS} {e:Expr} {l:List Stmt} {qual:Str} {c P:S1} {lb:Array (Nat×Nat×Str)}
end
section
variable {X:Cx} {CX:CXT} {k j:Nat} {sp:S1->Sp} {x:Str} {p pos:Pos} {e:Expr} {es:List Expr} {t:TA}
end
theorem lvS (u:List S2) (e:u.length=n+1):∃a r,u=a::r/\r.length=n:=by
 cases u with
 |nil=>cases e
 |cons a r=>exact ⟨a,r,rfl,Nat.succ.inj e⟩
theorem lv1 (u:List S2) (e:u.length=1):∃a,u= [a]:=by
 obtain ⟨a,r,rfl,z⟩:=lvS u e;cases r with
 |nil=>exact ⟨a,rfl⟩
 |cons b r=>cases z
theorem lv2 (u:List S2) (e:u.length=2):∃a b,u= [a,b]:=by
 obtain ⟨a,r,rfl,z⟩:=lvS u e;obtain ⟨b,rfl⟩:=lv1 r z;exact ⟨a,b,rfl⟩
theorem lv3 (u:List S2) (e:u.length=3):∃a b c,u= [a,b,c]:=by
 obtain ⟨a,r,rfl,z⟩:=lvS u e;obtain ⟨b,c,rfl⟩:=lv2 r z;exact ⟨a,b,c,rfl⟩
theorem lv4 (u:List S2) (e:u.length=4):∃a b c d,u= [a,b,c,d]:=by
 obtain ⟨a,r,rfl,z⟩:=lvS u e;obtain ⟨b,c,d,rfl⟩:=lv3 r z;exact ⟨a,b,c,d,rfl⟩
theorem lv5 (u:List S2) (e:u.length=5):∃a b c d f,u= [a,b,c,d,f]:=by
 obtain ⟨a,r,rfl,z⟩:=lvS u e;obtain ⟨b,c,d,f,rfl⟩:=lv4 r z;exact ⟨a,b,c,d,f,rfl⟩
theorem lv6 (u:List S2) (e:u.length=6):∃a b c d f g,u= [a,b,c,d,f,g]:=by
 obtain ⟨a,r,rfl,z⟩:=lvS u e;obtain ⟨b,c,d,f,g,rfl⟩:=lv5 r z;exact ⟨a,b,c,d,f,g,rfl⟩
theorem lv7 (u:List S2) (e:u.length=7):∃a b c d f g i,u= [a,b,c,d,f,g,i]:=by
 obtain ⟨a,r,rfl,z⟩:=lvS u e;obtain ⟨b,c,d,f,g,i,rfl⟩:=lv6 r z;exact ⟨a,b,c,d,f,g,i,rfl⟩
section
open PySem.Builtin PySem.Builtin.Str
variable {prog:S7} {w:S9} {A:Sa} {E:S2->S3->Prop} {s:S3} {x y:Str} {t u:Tok} {Q:S2->S3->Prop}
end
section
variable {X:Cx} {k j:Nat} {f C:S1} {fd:S8} {ps:List Str} {sp:Sp} {R:St->XK} {m:Str} {pos apos:Pos} {o:Expr} {ta:TE}
end
section
variable {X:Cx} {a b:Expr} {rest:List Expr} {pos:Pos} {ta tb:TE}
end
section
variable {X:Cx}
end
noncomputable def Sot:Option Int->S2->Bool
 |none,.none=>true
 |some i,v=>Value.isInt i v
 |_,_=>false
noncomputable def tnH:Option Int->Int
 |none=>reduceHash 0xFCA86420
 |some i=>hashInt i
theorem Jpq {k:Option Int} {v:S2} (h:Sot k v=true):(k=none/\v= .none)\/∃i t,k=some i/\v= .int i t:=by
 cases k with
 |none=>cases v <;> first|exact .inl ⟨rfl,rfl⟩|cases h
 |some i=>
  obtain ⟨t,e⟩:=Value.isInt_shape (k:=i) (v:=v) h;exact .inr ⟨i,t,rfl,e⟩
noncomputable def Jub (prog:S7) (w:S9):PySem.KeyKind prog w (Option Int) where
 is:=Sot
 hash:=tnH
 inj:=λv a b ha hb=>by
  rcases Jpq ha with ⟨rfl,rfl⟩|⟨i,t,rfl,rfl⟩ <;> rcases Jpq hb with ⟨rfl,e⟩|⟨j,u,rfl,e⟩ <;> first|rfl|(injection e with e1 _;rw [e1])|exact nomatch e
 byValue:=λk v h=>by rcases Jpq h with ⟨rfl,rfl⟩|⟨i,t,rfl,rfl⟩ <;> rfl
 pyHash:=λhv h=>by
  rcases Jpq hv with ⟨rfl,rfl⟩|⟨i,t,rfl,rfl⟩
  ·exact PySem.W.pyHash_slot (T:="NoneType") rfl F.slot_NoneType_hash F.entry_NoneType_hash (F.args_NoneType_hash_1 _) (PySem.beq_builtin_none _) (.inl rfl) (S4 (S5 (S4 (wpAny_mkInt (S5 ⟨_,_,rfl,h⟩)))))
  ·exact wpAny_pyHash_int h
 eqBool:=λhu hv h=>by
  rcases Jpq hu with ⟨rfl,rfl⟩|⟨i,t,rfl,rfl⟩ <;> rcases Jpq hv with ⟨rfl,rfl⟩|⟨j,u,rfl,rfl⟩
  ·exact SeqAt.EqAt.same .none _ _ _ _ h
  ·exact SeqAt.EqAt.none_int j u _ _ _ _ h
  ·exact SeqAt.EqAt.int_none i t _ _ _ _ h
  ·have e:decide ((some i:Option Int)=some j)=(i==j):=by
    by_cases q:i=j
    ·subst q;simp
    ·rw [decide_eq_false (λz=>q (yz.inj z))];exact (beq_eq_false_iff_ne.mpr q).symm
   rw [e] at h;exact wpAny_eqBool_int h
 «strs»:=λk x t v h=>by rcases Jpq h with ⟨rfl,e⟩|⟨i,u,rfl,e⟩ <;> exact nomatch e
section
variable {prog:S7} {w:S9} {A:Sa} {E:S2->S3->Prop} {s:S3}
noncomputable abbrev Jpm:=List Int×Option Int
noncomputable def Sdq (prog:S7) (w:S9) (h:Sb) (k:Jpm) (a:S1):Prop:=∃o items n b v,h.get? a=some o/\o.cls= .type "tuple" /\o.data= .seq items n/\items.toList= [.ref b,v]/\IsTupleKey (intKind prog w) h k.1 b/\Sot k.2 v=true
noncomputable def chH (prog:S7) (w:S9) (k:Jpm):Int:=reduceHash (Builtin.Tuple.tupleHashOf [tupleKeyHash (intKind prog w) k.1,tnH k.2])
theorem Sdq.typeIs {k:Jpm} {a:S1} (x:Sdq prog w s.heap k a):s.TypeIs (.ref a) "tuple" :=by obtain ⟨o,_,_,_,_,ho,hc,_⟩:=x;exact ⟨o,ho,hc⟩
theorem Sdq.inj {h:Sb} {a:S1} {x y:Jpm} (hx:Sdq prog w h x a) (hy:Sdq prog w h y a):x=y:=by
 obtain ⟨o,its,n,b,v,ho,_,hd,hi,h1,h2⟩:=hx;obtain ⟨o',its',n',b',v',ho',_,hd',hi',h1',h2'⟩:=hy;obtain rfl:o=o':=yz.inj (ho.symm.trans ho');rw [hd] at hd';injection hd' with e1 _;subst e1;rw [hi] at hi';injection hi' with e2 e3;injection e2 with e2;injection e3 with e3 _;subst e2 e3;exact Prod.ext (h1.inj h1') ((Jub prog w).inj _ _ _ h2 h2')
theorem Sdq.keeps {h h':Sb} {k:Jpm} {a d:S1} {o:Obj} {es ep} (x:Sdq prog w h k a) (ho:h.get? d=some o) (hd:o.data= .dict es ep) (hs:ybh d h h'):Sdq prog w h' k a:=by
 obtain ⟨o',its,n,b,v,ho',hc,hd',hi,h1,h2⟩:=x;have hne:a≠d:=by
  rintro rfl;obtain rfl:o'=o:=yz.inj (ho'.symm.trans ho);rw [hd] at hd';exact nomatch hd'
 exact ⟨o',its,n,b,v,(hs.2 a hne).trans ho',hc,hd',hi,h1.keeps ho hd hs,h2⟩
theorem Yg3 {k:Jpm} {a:S1} {Q:Int->S3->Prop} (hu:A.units+1 < cLine) (hk:Sdq prog w s.heap k a) (h:Q (chH prog w k) {s with toks:=s.toks+(k.1.length+3)}):Sc (model prog w) A (pyHash (.ref a)) Q E s:=by
 have hT:=hk.typeIs;obtain ⟨o,items,n,b,v,ho,_,hd,hi,h1,h2⟩:=hk;refine PySem.W.pyHash_slot (T:="tuple") hT F.slot_tuple_hash F.entry_tuple_hash (F.args_tuple_hash_1 _) (PySem.beq_builtin_none _) (.inr (by omega)) ?_;show Sc _ _ (Builtin.Tuple.tupleItemsOf (.ref a) >>=_) _ _ s;refine S4 (wpAny_tupleItemsOf ho hd ?_);refine S4 ?_;rw [<-Array.forIn_toList,hi,yby];refine S4 (S4 (wpAny_pyHash_tuple (by simp only [Around.in1_units];omega) h1 ?_));refine S5 ?_;dsimp only;rw [yby];refine S4 (S4 ((Jub prog w).pyHash h2 ?_));refine S5 ?_;dsimp only;rw [List.forIn_nil];refine S5 ?_;exact S4 (wpAny_mkInt (S5 ⟨_,_,rfl,h⟩))
theorem Yb3 {K:Type} [DecidableEq K] {knd:KeyKind prog w K} {ks:List K} {a:S1} {Q:Bool->S3->Prop} (hk:IsTupleKey knd s.heap ks a) (h:Q true s):Sc (model prog w) A (eqIsQuiet 7 (.ref a)) Q E s:=by
 have hT:=hk.typeIs;obtain ⟨o,items,n,ho,_,hd,hi⟩:=hk;unfold eqIsQuiet;refine S4 (wpAny_specialOf hT F.slot_tuple_eq.lookup ?_);show Sc _ _ (isInstance (.ref a) (.type "tuple") >>=_) _ _ s;refine S4 (wpAny_isInstance hT isSubtype_tuple_tuple ?_);simp only [ycb,ycc,if_false];refine S4 (wpAny_seqItems ho hd ?_);refine S4 ?_;show Sc _ _ (forIn items _ _) _ _ s;rw [<-Array.forIn_toList];refine wpAny_forIn_list _ (λrest r s'=>r.1=none/\s'=s/\∀v∈rest,carriedByValue v=true) _ ?_ ?_ _ _ ⟨rfl,rfl,hi.byValue⟩
 ·rintro v rest r s' ⟨hr,rfl,hall⟩;rw [eqIsQuiet_byValue _ (hall v yah)];refine S4 (S5 ?_);simp only [ycb,ycc,if_false];exact S5 ⟨rfl,rfl,λu hu'=>hall u (yac _ hu')⟩
 ·rintro ⟨r1,r2⟩ s' ⟨hr,rfl,_⟩;simp only at hr;subst hr;exact S5 h
theorem Yes {k:Jpm} {a:S1} {Q:Bool->S3->Prop} (hk:Sdq prog w s.heap k a) (h:Q true s):Sc (model prog w) A (eqIsQuiet 8 (.ref a)) Q E s:=by
 have hT:=hk.typeIs;obtain ⟨o,items,n,b,v,ho,_,hd,hi,h1,h2⟩:=hk;unfold eqIsQuiet;refine S4 (wpAny_specialOf hT F.slot_tuple_eq.lookup ?_);show Sc _ _ (isInstance (.ref a) (.type "tuple") >>=_) _ _ s;refine S4 (wpAny_isInstance hT isSubtype_tuple_tuple ?_);simp only [ycb,ycc,if_false];refine S4 (wpAny_seqItems ho hd ?_);refine S4 ?_;show Sc _ _ (forIn items _ _) _ _ s;rw [<-Array.forIn_toList,hi,yby];refine S4 (S4 (Yb3 h1 ?_));simp only [ycb,ycc,if_false];refine S5 ?_;dsimp only;rw [yby,eqIsQuiet_byValue _ ((Jub prog w).byValue _ _ h2)];refine S4 (S4 (S5 ?_));simp only [ycb,ycc,if_false];refine S5 ?_;dsimp only;rw [List.forIn_nil];exact S5 (S5 h)
theorem Yah {x y:Jpm} {a b:S1} {P:PySem.Fin->S3->Prop} (hu:A.units < cLine) (hx:Sdq prog w s.heap x a) (hy:Sdq prog w s.heap y b) (h:P (.done (.ret (.bool (decide (x=y))))) s):
  Sc (model prog w) A (Builtin.«tuple.__eq__» ⟨[.ref a,.ref b],[]⟩) P E s:=by
 have hTb:=hy.typeIs;obtain ⟨oa,xs,na,xa,xv,hoa,_,hda,hia,hx1,hx2⟩:=hx;obtain ⟨ob,ys,nb,ya,yv,hob,_,hdb,hib,hy1,hy2⟩:=hy;show Sc _ _ (isInstance (.ref b) (.type "tuple") >>=_) _ _ s;refine S4 (wpAny_isInstance hTb isSubtype_tuple_tuple ?_);simp only [ycb,ycc,if_false];refine S4 (wpAny_tupleItemsOf hoa hda ?_);refine S4 (wpAny_tupleItemsOf hob hdb ?_);refine S4 ?_;rw [hia,hib];show Sc _ _ (forIn [(Value.ref xa,Value.ref ya),(xv,yv)] _ _) _ _ s;rw [yby];refine S4 (S4 (wpAny_eqBool_tuple hu hx1 hy1 ?_));have no:¬x=y->P (.done (.ret (.bool false))) s:=λn=>by rw [decide_eq_false n] at h;exact h
 by_cases e1:x.1=y.1
 ·rw [decide_eq_true e1];simp only [ycb,ycc,if_false];refine S5 ?_;dsimp only;rw [yby];refine S4 (S4 ((Jub prog w).eqBool hx2 hy2 ?_));by_cases e2:x.2=y.2
  ·rw [decide_eq_true e2];simp only [ycb,ycc,if_false];refine S5 ?_;dsimp only;rw [List.forIn_nil];refine S5 (S5 ?_);rw [decide_eq_true (Prod.ext e1 e2)] at h;have es:xs.size=ys.size:=by rw [<-ybv,<-ybv,hia,hib];rfl
   rw [es];have e3:Builtin.Tuple.tupleCompareSizes CmpOp.Eq ys.size ys.size= .bool true:=by
    show Value.bool (ys.size==ys.size)=_;rw [beq_self_eq_true]
   rw [e3];exact h
  ·rw [decide_eq_false e2];simp only [Bool.not_false,if_true];exact S4 (S5 (S5 (S5 (S5 (no λq=>e2 (by rw [q]))))))
 ·rw [decide_eq_false e1];simp only [Bool.not_false,if_true];exact S4 (S5 (S5 (S5 (S5 (no λq=>e1 (by rw [q]))))))
theorem Sr8 {x y:Jpm} {a b:S1} {Q:Bool->S3->Prop} (hu:A.units+1 < cLine) (hx:Sdq prog w s.heap x a) (hy:Sdq prog w s.heap y b) (h:Q (decide (x=y)) s):Sc (model prog w) A (eqBool (.ref a) (.ref b)) Q E s:=by
 unfold eqBool
 try with_reducible refine wpAny_holding ?_
 show Sc _ _ (if (Value.ref a==Value.ref b)=true then _ else _) Q E s;by_cases hab:(Value.ref a==Value.ref b)=true
 ·rw [if_pos hab];have e:a=b:=by have:=eq_of_beq hab;injection this
  subst e;obtain rfl:=hx.inj hy;exact S4 (wpAny_rule (S5 (by simpa using h)))
 ·rw [if_neg hab];exact S4 (wpAny_richCompare_same_room (op:=.Eq) hx.typeIs hy.typeIs F.slot_tuple_eq
   (wpAny_call_entry F.slot_tuple_eq hx.typeIs F.entry_tuple_eq (Yah (by simp only [Around.in1_units];omega) hx hy ⟨_,rfl,(λe=>nomatch e),wpAny_truthy_bool h⟩) (F.args_tuple_eq_2 _ _)) (by omega))
noncomputable def Jui (prog:S7) (w:S9):HeapKind prog w Jpm where
 is:=Sdq prog w
 hash:=chH prog w
 draws:=λk=>k.1.length+3
 room:=λA=>A.units+1 < cLine
 inj:=λhx hy=>hx.inj hy
 keeps:=λx ho hd hs=>x.keeps ho hd hs
 pyHash:=λhu hk h=>Yg3 hu hk h
 eqBool:=λhu hx hy h=>Sr8 hu hx hy h
 quiet:=λhk h=>Yes hk h
end
end L2
namespace L2
open PySem PySem.Spec PyProof.Rows PySem.W
section
variable {prog:S7} {w:S9} {K:Type} [DecidableEq K] {knd:HeapKind prog w K} {A:Sa}
theorem Ya8 {vs:List (K×S1×S2)} {i:Nat} {k:K} {p:S1×S2} (nd:(vs.map (·.1)).Nodup) (h:vs[i]?=some (k,p)):atKey (vs.take i) k=none:=by
 refine atKey_none_of_get λj q hj=>?_;have jl:j < i:=by
  have:=(yj.mp hj).1;rw [yaa] at this;omega
 rw [List.getElem?_take_of_lt jl] at hj;have:=idxH_unique nd hj h;omega
theorem Swz {s₀:S3} {its:Array S2} {L n it:S1} {vs:List (K×S1×S2)} {R:Result->S3->Prop} (hh:A.handled=none) (hu:∀args,knd.room (A.under (.builtin "dict.update.loop" args))) (nd:(vs.map (·.1)).Nodup) (hz:vs.length<=S6) (hi:its.size=vs.length) (hL:s₀.heap.IsList L its)
  (hp:∀(i:Nat) (k:K) (ka:S1) (v:S2),vs[i]?=some (k,ka,v)->∃T o m,its[i]?=some (Value.ref T)/\s₀.heap.get? T=some o/\o.cls= .type "tuple" /\o.data= .seq #[.ref ka,v] m/\∀h,(∀b o,s₀.heap.get? b=some o->h.get? b=some o)->knd.is h k ka)
  (hn:s₀.heap.objs.size<=n) (hit:s₀.heap.objs.size<=it) (ne:n≠it)
  (hR:∀h' tk,(∀b o,s₀.heap.get? b=some o->h'.get? b=some o)->h'.DictOfH knd n vs->R (.ok (.ret .none)) {s₀ with heap:=h',toks:=tk}):
  ∀(j i:Nat) (h:Sb) (tk:Nat),i+j=vs.length->(∀b o,s₀.heap.get? b=some o->h.get? b=some o)->h.DictOfH knd n (vs.take i)->h.IsListIter it L i->
   codeAny (model prog w) A (.builtin "dict.update.loop" ⟨[.ref n,.ref it,rawInt i,.none],[]⟩) R {s₀ with heap:=h,toks:=tk}:=by
 intro j
 induction j with
 |zero=>
  intro i h tk e keep hd st;have ei:i=vs.length:=by omega
  subst ei;rw [ybo] at hd;refine codeAny_builtin Jy9 ?_;unfold Builtin.«dict.update.loop»;refine S4 (wpAny_pyNext_list_end (s:={s₀ with heap:=h,toks:=tk}) hh st (items:=its) ?_ (by simp;omega) λh' eb=>?_)
  ·obtain ⟨o,q,r⟩:=hL;exact ⟨o,keep _ _ q,r⟩
  ·show Sc _ _ (Builtin.Dict.addKeywords n [] >>=λ_=>ret .none) _ _ _;refine S4 (S5 (S5 ?_));have kk:∀b o,s₀.heap.get? b=some o->h'.get? b=some o:=λb o q=>eb b o (λz=>absurd (yk q) (by rw [z];exact ybm.mpr hit)) (keep b o q);obtain ⟨o,es,ep,d1,d2,d3,d4,d5,d6⟩:=hd;exact hR h' tk kk ⟨o,es,ep,eb n o ne d1,d2,d3,d4,λx hx=>by
    obtain ⟨i,hi⟩:=ybk hx;obtain ⟨T,o',m,_,_,_,_,hk⟩:=hp i x.1 x.2.1 x.2.2 hi;exact hk h' kk,d6⟩
 |succ j ih=>
  intro i h tk e keep hd st;refine codeAny_builtin Jy9 ?_;unfold Builtin.«dict.update.loop»;have hi':i < vs.length:=by omega
  have hx:vs[i]?=some (vs[i].1,vs[i].2.1,vs[i].2.2):=by simp [hi']
  obtain ⟨T,o,m,hT,ho,hc,hdt,hk⟩:=hp i _ _ _ hx;have kT:∀b o,s₀.heap.get? b=some o->b≠it:=λb o q z=>absurd (yk q) (by rw [z];exact ybm.mpr hit);refine S4 (wpAny_pyNext_list_item (s:={s₀ with heap:=h,toks:=tk}) st (items:=its) ?_ hT λh' st' sb=>?_)
  ·obtain ⟨o,q,r⟩:=hL;exact ⟨o,keep _ _ q,r⟩
  have keep1:∀b o,s₀.heap.get? b=some o->h'.get? b=some o:=λb o q=>(sb.2 b (kT b o q)).trans (keep b o q);have tyT:Shared.TypeIs {s₀ with heap:=h',toks:=tk} (.ref T) "tuple" :=⟨o,keep1 _ _ ho,hc⟩;refine S4 (wpAny_holding (S4 (wpAny_tryCatch ?_)));unfold Builtin.Dict.pairItems;refine S4 (wpAny_typeOf tyT ?_);rw [if_pos (by decide)];refine S4 (wpAny_seqItems (keep1 _ _ ho) hdt (S5 ?_));show Sc _ _ (holding [.ref vs[i].2.1,vs[i].2.2] (dictSet n (.ref vs[i].2.1) vs[i].2.2)) _ _ _;have hd1:h'.DictOfH knd n (vs.take i):=by
   obtain ⟨o,es,ep,d1,d2,d3,d4,d5,d6⟩:=hd;exact ⟨o,es,ep,(sb.2 n ne).trans d1,d2,d3,d4,λx hx=>by
    obtain ⟨j,hj⟩:=ybk (yct hx);obtain ⟨T,o',m,_,_,_,_,hk⟩:=hp j x.1 x.2.1 x.2.2 hj;exact hk h' keep1,d6⟩
  refine wpAny_holding (wpAny_dictSet_heap (s:={s₀ with heap:=h',toks:=tk}) (hu _) (hk h' keep1) hd1 (hsz:=by rw [yaa];omega) λh2 hd2 sb2=>?_);refine S5 ⟨Code.quiet_builtin _ (by decide +kernel),?_⟩;rw [storedH_new (Ya8 nd hx),<-Yd4 hx] at hd2;refine ih (i+1) h2 (tk+knd.draws vs[i].1) (by omega) (λb o q=>(sb2.2 b (λz=>absurd (yk q) (by rw [z];exact ybm.mpr hn))).trans (keep1 b o q)) hd2 ?_;obtain ⟨o',q,r⟩:=st';exact ⟨o',(sb2.2 it (yx ne)).trans q,r⟩
end
noncomputable def tnV:Option Int->V
 |none=>.non
 |some i=>.int i
noncomputable def ChK (H:Hp) (a:S1) (k:Jpm):Prop:=∃b,H a=some (.tup [.ref b,tnV k.2])/\H b=some (.tup (k.1.map V.int))
noncomputable def DC (P:S7) (w:S9) (p:S1) (kvs:List (Jpm×S1×Int)):HO:=.ext λh=>kvs.length<=S6/\(p==sysModules)=false/\∃xs:List (Jpm×S1×S2),
 Paired (λ(q:Jpm×S1×Int) (x:Jpm×S1×S2)=>q.1=x.1/\q.2.1=x.2.1/\Sz (.int q.2.2) x.2.2) kvs xs/\∃o es ep,h.get? p=some o/\o.ExactDict/\o.data= .dict es ep/\es.toList=xs.map (entryOfKey (Jui P w))/\(xs.map (·.1)).Nodup
section
variable {X:Cx} {pins:List (S1×Obj)} {σ:St} {H:Hp} {s:S3}
theorem Ye6 {ns:List Int} {its:List S2} (r:Sx (ns.map V.int) its):ItemsAre (intKind X.prog X.w) ns its:=by
 induction ns generalizing its with
 |nil=>cases r;exact .nil
 |cons n ns ih=>
  cases r with
  | @cons _ v _ _ k1 k2=>
   obtain ⟨t,rfl⟩:=k1;exact .cons (by show Value.isInt n (.int n t)=true;simp [Value.isInt]) (ih k2)
theorem ChK.is {a:S1} {k:Jpm} (ok:HOk X.prog X.w H s.heap) (c:ChK H a k):∀h:Sb,(∀b o,s.heap.get? b=some o->h.get? b=some o)->Sdq X.prog X.w h k a:=by
 intro h kp;obtain ⟨b,e1,e2⟩:=c;obtain ⟨_,its,r,o,f1,f2,m,f3⟩:=(show Sah X.prog X.w H s.heap a (.tup _) from ok a _ e1);obtain ⟨_,jts,q,u,g1,g2,n,g3⟩:=(show Sah X.prog X.w H s.heap b (.tup _) from ok b _ e2);cases r with
 | @cons _ x _ _ k1 r=>
  obtain rfl:x=Value.ref b:=k1;cases r with
  | @cons _ v _ _ k2 r=>
   cases r;refine ⟨o,_,m,b,v,kp _ _ f1,f2,f3,rfl,⟨u,_,n,kp _ _ g1,g2,g3,Ye6 q⟩,?_⟩;cases hk:k.2 with
   |none=>
    rw [hk] at k2;obtain rfl:v=Value.none:=k2;rfl
   |some i=>
    rw [hk] at k2;obtain ⟨t,rfl⟩:=k2;show Value.isInt i (.int i t)=true;simp [Value.isInt]
theorem Sr5 {P:S7} {w:S9} {H':Hp} {h:Sb} {p:S1} {kvs:List (Jpm×S1×Int)} {xs:List (Jpm×S1×S2)} (z:kvs.length<=S6) (hd:(p==sysModules)=false) (r:Paired (λ(q:Jpm×S1×Int) (x:Jpm×S1×S2)=>q.1=x.1/\q.2.1=x.2.1/\Sz (.int q.2.2) x.2.2) kvs xs) (d:h.DictOfH (Jui P w) p xs):Sah P w H' h p (DC P w p kvs):=by
 obtain ⟨o,es,ep,d1,d2,d3,d4,d5,d6⟩:=d;refine ⟨⟨z,hd,xs,r,o,es,ep,d1,d2,d3,d4,d6⟩,⟨o,d1⟩,?_⟩;rintro h1 h2 ⟨z,hd,xs,r,o,es,ep,d1,d2,d3,d4,d6⟩ k;exact ⟨z,hd,xs,r,o,es,ep,k _ d1,d2,d3,d4,d6⟩
noncomputable def Ydf (H:Hp):List V->List (Jpm×S1×Int)->Prop:=Paired λx p=>∃T,x= .ref T/\H T=some (.tup [.ref p.2.1,.int p.2.2])/\ChK H p.2.1 p.1
theorem Yae (hc:X.calm=true) (hu:X.A.units+64 < cLine):Jp9 X (.type "dict") (λxs H Q=>∃L ts kvs,xs= [V.ref L]/\H L=some (.lst ts)/\Ydf H ts kvs/\kvs.length<=100000/\(kvs.map (·.1)).Nodup/\
  ∀p,H p=none->Q (.ref p) (upd H p (DC X.prog X.w p kvs))):=by
 intro pins s σ H xs us Q I r h;obtain ⟨L,ts,kvs,rfl,eL,pr,z,nd,q⟩:=h;obtain ⟨u,rfl,r2⟩:=Jq1 r;obtain rfl:u=Value.ref L:=r2;obtain ⟨zL,its,m,rv,hL⟩:=(show Sah X.prog X.w H s.heap L (.lst ts) from I.hok L _ eL);have szL:(100000:Nat)<=S6:=by rw [sizeLine_eq];decide
 have ex:∃vs:List (Jpm×S1×S2),Paired (λ(q:Jpm×S1×Int) (x:Jpm×S1×S2)=>q.1=x.1/\q.2.1=x.2.1/\Sz (.int q.2.2) x.2.2) kvs vs/\∀(i:Nat) (k:Jpm) (ka:S1) (v:S2),vs[i]?=some (k,ka,v)->∃T o m,its.toArray[i]?=some (Value.ref T)/\s.heap.get? T=some o/\o.cls= .type "tuple" /\o.data= .seq #[.ref ka,v] m/\∀h,(∀b o,s.heap.get? b=some o->h.get? b=some o)->(Jui X.prog X.w).is h k ka:=by
  have one:∀(x:V) (p:Jpm×S1×Int),(∃T,x= .ref T/\H T=some (.tup [.ref p.2.1,.int p.2.2])/\ChK H p.2.1 p.1)->∀w',Sz x w'->∃v:S2,Sz (.int p.2.2) v/\∃T o m,w'=Value.ref T/\s.heap.get? T=some o/\o.cls= .type "tuple" /\o.data= .seq #[.ref p.2.1,v] m/\∀h,(∀b o,s.heap.get? b=some o->h.get? b=some o)->(Jui X.prog X.w).is h p.1 p.2.1:=by
   rintro x p ⟨T,rfl,eT,ck⟩ w' rw';obtain rfl:w'=Value.ref T:=rw';obtain ⟨_,jts,rj,o,e1,e2,m,e3⟩:=(show Sah X.prog X.w H s.heap T (.tup _) from I.hok T _ eT);cases rj with
   | @cons _ key _ _ k1 rj=>
    obtain rfl:key=Value.ref p.2.1:=k1;cases rj with
    | @cons _ v _ _ k2 rj=>
     cases rj;exact ⟨v,k2,T,o,m,rfl,e1,e2,e3,ck.is I.hok⟩
  clear hL eL r z nd q zL
  induction pr generalizing its with
  |nil=>cases rv;exact ⟨[],.nil,λi k ka v e=>by simp at e⟩
  | @cons x p l1 l2 hx t ih=>
   cases rv with
   | @cons _ w' _ its' k1 k2=>
    obtain ⟨vs,a1,a2⟩:=ih _ k2;obtain ⟨v,b1,T,o,m,b2,b3⟩:=one x p hx w' k1;refine ⟨(p.1,p.2.1,v)::vs,.cons ⟨rfl,rfl,b1⟩ a1,λi k ka v' e=>?_⟩;cases i with
    |zero=>
     simp at e;obtain ⟨rfl,rfl,rfl⟩:=e;exact ⟨T,o,m,by simp [b2],b3⟩
    |succ j=>
     obtain ⟨T,o,m,c1,c2⟩:=a2 j k ka v' (by simpa using e);exact ⟨T,o,m,by simpa using c1,c2⟩
 obtain ⟨vs,rel,hp⟩:=ex;have el:its.toArray.size=vs.length:=by
  have e1:=rv.length;have e2:=Paired.length pr;have e3:=Paired.length rel;simp;omega
 have ndv:(vs.map (·.1)).Nodup:=by
  have e:∀{a:List (Jpm×S1×Int)} {b:List (Jpm×S1×S2)},Paired (λ(q:Jpm×S1×Int) (x:Jpm×S1×S2)=>q.1=x.1/\q.2.1=x.2.1/\Sz (.int q.2.2) x.2.2) a b->a.map (·.1)=b.map (·.1):=by
   intro a b h
   induction h with
   |nil=>rfl
   |cons h t ih=>rw [yan,yan,ih,h.1]
  rw [<-e rel];exact nd
 refine callType_codes (Q₁:=λobj s₁=>obj= .ref s.heap.objs.size/\s₁={s with heap:=s.heap.push {cls:=.type "dict",data:=.dict #[]}}) PySem.F.kt_called_dict (PySem.F.kt_typeCall_dict_1 _) PySem.F.entry_dict_init (kt_code_dict_new _ ⟨rfl,rfl⟩) ?_;rintro obj s₁ ⟨rfl,rfl⟩;have hnew:(s.heap.push {cls:=.type "dict",data:=.dict #[]}).DictOfH (Jui X.prog X.w) s.heap.objs.size []:=Heap.DictOfH.new s.heap;have hL1:(s.heap.push {cls:=.type "dict",data:=.dict #[]}).get? L=some {cls:=.type "list",data:=.seq its.toArray m}:=ym _ hL;refine ⟨hnew.typeIs,PySem.F.args_dict_init_2 _ _,?_⟩;unfold Builtin.«dict.__init__»;refine S4 ?_;unfold Builtin.Dict.selfAndRest;refine S4 (wpAny_notOrdered_dict hnew.typeIs ?_);show Sc _ _ (pure (s.heap.objs.size,[Value.ref L])) _ _ _;refine S5 ?_;show Sc _ _ (Builtin.Dict.updateFrom "dict.__init__" s.heap.objs.size (.ref L) [] .none) _ _ _;unfold Builtin.Dict.updateFrom;refine S4 (wpAny_typeOf (T:="list") ⟨_,hL1,rfl⟩ ?_);rw [if_pos (by decide)];refine S4 (Jwk hL1 (I.ok.hd hc) λh1 tk1 kp1=>?_);show Sc _ _ (rule _ >>=_) _ _ _;refine S4 (wpAny_rule ?_);have hL2:h1.IsList L its.toArray:=⟨_,kp1 _ _ hL1,rfl,_,rfl⟩;refine S4 (wpAny_pyIter_list hL2 ?_);refine S5 ⟨Code.quiet_builtin _ (by decide +kernel),?_⟩;have sz1:s.heap.objs.size < h1.objs.size:=yk (kp1 s.heap.objs.size _ (yt _ rfl));refine Swz (A:=X.A.in1) (s₀:=s) (its:=its.toArray) (L:=L) (n:=s.heap.objs.size) (it:=h1.objs.size) (vs:=vs) (knd:=Jui X.prog X.w) (I.ok.hd hc) (λc=>?_) ndv (by have:=Paired.length rel;omega) el ⟨_,hL,rfl,_,rfl⟩ hp (yg _) (yce sz1) (yy sz1) (λh' tk kp dd=>?_) vs.length 0 (h1.push {cls:=.type "list_iterator",data:=.fields #[.ref L,.int 0 0]}) tk1 (Nat.zero_add _)
  (λb o e=>ym _ (kp1 b o (ym _ e))) ?_ ?_
 ·show ((X.A.in1).under (.builtin "dict.update.loop" c)).units+1 < cLine;have e:((X.A.in1).under (.builtin "dict.update.loop" c)).units=X.A.in1.units+1:=by first|rfl|simp [Around.under,Code.cUnits,Code.frames,Code.isFrame]
  rw [e];simp only [Around.in1_units];omega
 ·exact ⟨rfl,.ref s.heap.objs.size,_,I.laid (a:=s.heap.objs.size) (o:=DC X.prog X.w s.heap.objs.size kvs) (t':=tk) kp (yg _) (Sr5 (by omega) (beq_eq_false_iff_ne.mpr (yx (yy I.big))) rel dd),rfl,q _ (I.hok.fresh (yg _))⟩
 ·obtain ⟨o,es,ep,e,d2,d3,d4,d5,d6⟩:=hnew;exact ⟨o,es,ep,ym _ (kp1 _ _ e),d2,d3,d4,λx hx=>absurd hx (by simp),d6⟩
 ·exact ⟨_,yt _ rfl,rfl,rfl⟩
end
end L2
namespace L2
open PySem PySem.Spec PyProof.Rows
end L2
namespace L2
open PySem PySem.Spec PyProof.Rows PySem.W
section
variable {X:Cx}
inductive ipM (x:V) (y:V) (H:Hp) (Q:VK):Prop where
 |mk (i:Int) (j:Int) (_:x= .int i) (_:y= .int j) (_:Sjm i j) (_:Q (.int (i*j)) H)
theorem Ye7:PIp X .Mult ipM:=by
 rintro pins s σ H x y v u Q I r1 r2 ⟨i,j,e1,e2,hc,q⟩;subst e1;subst e2;obtain ⟨t,rfl⟩:=r1;obtain ⟨t',rfl⟩:=r2;exact imul_int ⟨.int _,H,I.tok _,⟨_,rfl⟩,q⟩ hc.ok
end
section
theorem ftd_mk {K} (X:K.In h) (G:h.Ns mainGlobals mg) {st} {D:S1} {kV ct} {it:Array S2} {m:Nat} {o:Obj} (a:PySem.W.nsIn K mainGlobals q=some (some (.ref f)))
  (l:K.lookup f=some ⟨oc,od,.func (PySem.W.fnOf q q (Jp1 st) (Jou st) (Jnb st) (.ref D) kV dc pm an cd ct),sl⟩) (c:PySem.W.codeIn K cd q=true) (k:PySem.W.keepIn K (.ref f)=true) (hd:K.lookup D=some o) (ho:o.data= .seq it m)
  (hb:∀us,us.length=ps.length->∃g,bindArgs (PySem.W.fnOf q q (Jp1 st) (Jou st) (Jnb st) (.ref D) kV dc pm an cd ct) ⟨us,[]⟩=seqItems? (.ref D) >>=g/\g (some it)=pure (ps.zip us)):FT K mg q st ps f (PySem.W.fnOf q q (Jp1 st) (Jou st) (Jnb st) (.ref D) kV dc pm an cd ct):=by
 refine ⟨PySem.W.mg_of X G a,Jyv l c k,λs us X' hl=>?_⟩;rw [ybb] at hl⊢;obtain ⟨g,h1,h2⟩:=hb us hl;exact BindsTo.of_defaults rfl (X' _ _ hd) ho h1 h2
theorem fmd_mk {K} {st} {D:S1} {kV ct} {it:Array S2} {m:Nat} {o:Obj}
  (l:K.lookup f=some ⟨oc,od,.func (PySem.W.fnOf n q (Jp1 st) (Jou st) (Jnb st) (.ref D) kV dc pm an cd ct),sl⟩) (c:PySem.W.codeIn K cd q=true) (k:PySem.W.keepIn K (.ref f)=true) (hd:K.lookup D=some o) (ho:o.data= .seq it m)
  (hb:∀us,us.length=ps.length->∃g,bindArgs (PySem.W.fnOf n q (Jp1 st) (Jou st) (Jnb st) (.ref D) kV dc pm an cd ct) ⟨us,[]⟩=seqItems? (.ref D) >>=g/\g (some it)=pure (ps.zip us)):FM K n q st ps f (PySem.W.fnOf n q (Jp1 st) (Jou st) (Jnb st) (.ref D) kV dc pm an cd ct):=by
 refine ⟨Jyv l c k,λs us X' hl=>?_⟩;rw [ybb] at hl⊢;obtain ⟨g,h1,h2⟩:=hb us hl;exact BindsTo.of_defaults rfl (X' _ _ hd) ho h1 h2
end
section
variable {a:S1}
theorem Ycg {o} {kvs:List (Key×V)} {g:TG} {tb:TS} {D:Sc2} {σ} {H} (Pv:Nat->St->Hp->Prop) (h0:Pv 0 σ H) (hl:∀i σ H,i<=kvs.length->Pv i σ H->H a=some (.frz o (.dK kvs)))
  (hs:∀i k x σ H T,kvs[i]?=some (k,x)->Pv i σ H->H T=none->g (.ref T) σ (upd H T (.tup [kV k,x])) λσ2 H2=>tb {D with nx:=Pv (i+1),ct:=Pv (i+1),bk:=D.nx} σ2 H2) (hd:∀σ H,Pv kvs.length σ H->D.nx σ H):
  ∃W:Nat->Nat->St->Hp->Prop,(∃m,W 0 m σ H)/\∀i m σ H,W i m σ H->
   ((Iti a o kvs).stop i H/\D.nx σ H)\/((Iti a o kvs).go i H/\∃N:St->Hp->Prop,(∀σ' H',N σ' H'->∃m',m' < m/\W (i+1) m' σ' H')/\∀x H',(Iti a o kvs).yld i H x H'->g x σ H' λσ2 H2=>tb {D with nx:=N,ct:=N,bk:=D.nx} σ2 H2):=by
 refine ⟨λi m σ H=>m=kvs.length - i/\i<=kvs.length/\Pv i σ H,⟨kvs.length,by simp,yaj _,h0⟩,?_⟩;rintro i m σ H ⟨rfl,hi,p⟩;have q:=hl i σ H hi p;by_cases hlt:i < kvs.length
 ·refine .inr ⟨⟨q,hlt⟩,Pv (i+1),λσ' H' p'=>⟨kvs.length - (i+1),by omega,rfl,hlt,p'⟩,λx H' y=>?_⟩;obtain ⟨T,k,u,hT,rfl,y,rfl⟩:=y;exact hs i k u σ _ T y p hT
 ·have e:i=kvs.length:=by omega
  subst e;exact .inl ⟨⟨q,yg _⟩,hd σ H p⟩
end
theorem Ybk:bootBuiltins "repr" =some (.builtin "repr"):=by decide +kernel
structure Rp (d:PyData) (b t:Nat):Prop where
 sh:d.showable=true
 lv:d.leavesShort 1921=true
 bk:d.bulk<=b
 dp:d.depth<=t
theorem Rp.mono {d:PyData} {b t b' t':Nat} (h:Rp d b t) (hb:b<=b') (ht:t<=t'):Rp d b' t':=⟨h.sh,h.lv,yae h.bk hb,yae h.dp ht⟩
theorem Rp.int {i:Int} (h:i.natAbs.log2 < 1920):Rp (.int i) 0 0:=
 ⟨by simp only [PyData.showable];exact decide_eq_true h,by simp only [PyData.leavesShort,PyData.shown];exact decide_eq_true (int_text_len_1921 h),by simp [PyData.bulk],by simp [PyData.depth]⟩
theorem Rp.non:Rp .none 0 0:=⟨by simp [PyData.showable],by simp [PyData.leavesShort],by simp [PyData.bulk],by simp [PyData.depth]⟩
theorem Rp.bl (b:Bool):Rp (.bool b) 0 0:=⟨by simp [PyData.showable],by simp [PyData.leavesShort],by simp [PyData.bulk],by simp [PyData.depth]⟩
theorem Rp.str {z:Str} (h:z.cps.toList.all (λc=>decide (c < 16^8))=true):Rp (.str z) z.cps.size 0:=⟨by simp [PyData.showable],by simp only [PyData.leavesShort];exact h,by simp [PyData.bulk],by simp [PyData.depth]⟩
theorem Yew {b t:Nat}:∀{ds:List PyData},(∀d∈ds,Rp d b t)->PyData.showableAll ds=true/\PyData.leavesShortAll 1921 ds=true/\PyData.bulkAll ds<=(b+1)*ds.length/\PyData.depthAll ds<=t:=by
 intro ds
 induction ds with
 |nil=>exact λ_=>⟨by simp [PyData.showableAll],by simp [PyData.leavesShortAll],by simp [PyData.bulkAll],by simp [PyData.depthAll]⟩
 |cons d ds ih=>
  intro h;obtain ⟨i1,i2,i3,i4⟩:=ih λx hx=>h x (yac _ hx);have q:=h d yah;refine ⟨by simp [PyData.showableAll,q.sh,i1],by simp [PyData.leavesShortAll,q.lv,i2],?_,?_⟩
  ·simp only [PyData.bulkAll,yaf];have:=q.bk;rw [Nat.mul_succ];omega
  ·simp only [PyData.depthAll];have:=q.dp;omega
theorem Rp.tup {b t:Nat} {ds:List PyData} (h:∀d∈ds,Rp d b t):Rp (.tuple ds) ((b+1)*ds.length) (t+1):=by
 obtain ⟨i1,i2,i3,i4⟩:=Yew h;exact ⟨by simp only [PyData.showable];exact i1,by simp only [PyData.leavesShort];exact i2,by simp only [PyData.bulk];exact i3,by simp only [PyData.depth];omega⟩
theorem Rp.lst {b t:Nat} {ds:List PyData} (h:∀d∈ds,Rp d b t):Rp (.list ds) ((b+1)*ds.length) (t+1):=by
 obtain ⟨i1,i2,i3,i4⟩:=Yew h;exact ⟨by simp only [PyData.showable];exact i1,by simp only [PyData.leavesShort];exact i2,by simp only [PyData.bulk];exact i3,by simp only [PyData.depth];omega⟩
theorem Rp.dct:Rp (.dict []) 0 2:=⟨by simp [PyData.showable,PyData.showableKv],by simp [PyData.leavesShort,PyData.leavesShortKv],by simp [PyData.bulk,PyData.bulkKv],by simp [PyData.depth,PyData.depthKv]⟩
theorem Rp.fit {d:PyData} {b t:Nat} (h:Rp d b t) (hb:b<=8000):d.shown.length<=S6:=by
 have q:=PyData.shown_le_bulk 1921 (by decide) d h.lv;have:=h.bk;rw [sizeLine_eq];omega
mutual
theorem Sbb.nod {K:Sd} {H:Hp}:∀{x} {d},Sbb K H x d->d.hasDict=false
 |_,_,.non=>by simp [PyData.hasDict]
 |_,_,.bl b=>by simp [PyData.hasDict]
 |_,_,.int i=>by simp [PyData.hasDict]
 |_,_,.str z=>by simp [PyData.hasDict]
 |_,_,.lst hq hd=>by simp only [PyData.hasDict];exact Sap.nod hd
 |_,_,.tup hq hd=>by simp only [PyData.hasDict];exact Sap.nod hd
theorem Sap.nod {K:Sd} {H:Hp}:∀{xs:List V} {ds:List PyData},Sap K H xs ds->PyData.hasDictAll ds=false
 |_,_,.nil=>by simp [PyData.hasDictAll]
 |_,_,.cons h t=>by simp only [PyData.hasDictAll,Sbb.nod h,Sap.nod t,Bool.or_self]
end
noncomputable def ShV (K:Sd) (H:Hp) (x:V) (d:PyData):Prop:=Sbb K H x d\/∃(p a:S1) (z:Str) (b:Bool),x= .ref p/\Su K H p [.str z,.ref a,.bl b]/\H a=some (.dK [])/\d= .tuple [.str z,.dict [],.bool b]
section
variable {X:Cx}
theorem ShV.reads {pins:List (S1×Obj)} {σ:St} {H:Hp} {s:S3} (I:Sm X pins σ H s) {x:V} {d:PyData} (h:ShV X.K H x d) {v:S2} (r:Sz x v):∃as,Reads s.heap v d as/\(d.hasDict=true->sysModules∉as):=by
 rcases h with h|⟨p,a,z,b,rfl,hp,ha,rfl⟩
 ·obtain ⟨as,ra⟩:=h.reads I r;exact ⟨as,ra,PyData.noDict_hsm h.nod⟩
 ·cases r;obtain ⟨its,rv,⟨o,e,c,n,dt⟩,_⟩:=I.tuple hp;obtain ⟨_,hd,vs,rvs,dd⟩:=Sl0 I.hok ha;obtain rfl:vs= []:=by cases rvs;rfl
  obtain ⟨od,es,ep,g1,g2,g3,g4,g5,_⟩:=dd;have he:es.toList= []:=by
   cases h:es.toList with
   |nil=>rfl
   |cons x l=>rw [h] at g5;cases g5
  have rd:Reads s.heap (.ref a) (.dict []) ([a]++ []):=Reads.dict (kvs:=[]) (as:=[]) (bs:=[]) g1 g2.1 g3 (by rw [he];exact .nil) (by rw [he];exact .nil);cases rv with
  | @cons _ u1 _ _ k1 rv=>
   cases rv with
   | @cons _ u2 _ _ k2 rv=>
    cases rv with
    | @cons _ u3 _ _ k3 rv=>
     cases rv;obtain ⟨t1,rfl⟩:=k1;obtain rfl:u2=Value.ref a:=k2;cases k3;refine ⟨[]++(([a]++ [])++([]++ [])),.tuple e c dt (.cons (.str z t1) (.cons rd (.cons (.bool b) .nil))),λ_ hm=>?_⟩;have hm':sysModules∈ [a]:=hm;rw [yal.mp hm'] at hd;simp at hd
inductive Srw (K:Sd) (xs:List V) (H:Hp) (Q:VK):Prop where
 |mk (a:S1) (d:PyData) (b:Nat) (_:xs= [.ref a]) (_:ShV K H (.ref a) d) (_:Rp d b 60) (_:b<=8000) (_:Q (.str d.shown) H)
theorem Jy3 (hg:X.A.guards=some []) (hu:X.A.units+64 < cLine):Jp9 X (.builtin "repr") (Srw X.K):=by
 rintro pins s σ H xs us Q I r ⟨a,d,b,rfl,hd,rp,hb,q⟩;obtain ⟨u,rfl,ru⟩:=Jq1 r;obtain ⟨as,ra,sm⟩:=hd.reads I ru;cases ru;have dp:=rp.dp;exact repr_of_reads' ra rp.sh sm hg (by omega) (λ_ _ e=>e) (λh' u tk k=>⟨.str _,H,I.kept k,⟨_,rfl⟩,q⟩) (rp.fit hb)
end
noncomputable def OnD (D:S1) (H H':Hp):Prop:=∀q o,(q≠D\/∀xs,o≠ .lst xs)->H q=some o->H' q=some o
noncomputable def MnD {α:Type} (D:S1) (Rel:Hp->V->α->Prop):Prop:=∀H H' v a,OnD D H H'->Rel H v a->Rel H' v a
noncomputable def Sa7 {α:Type} (Rel:Hp->V->α->Prop) (H:Hp) (vs:List V) (as:List α):Prop:=vs.length=as.length/\∀(i:Nat) (v:V) (a:α),vs[i]?=some v->as[i]?=some a->Rel H v a
theorem OnD.same {D:S1} {H H':Hp} (s:Si H H'):OnD D H H':=λq o _ e=>s q o e
theorem OnD.grow {D:S1} {H:Hp} {ys zs:List V} (h:H D=some (.lst ys)):OnD D H (upd H D (.lst zs)):=λq o c e=>by
 have n:q≠D:=by
  rcases c with c|c
  ·exact c
  ·exact λz=>by
    rw [z,h] at e;exact c _ (yz.inj e).symm
 rw [Jnc n];exact e
theorem Sa7.on {α:Type} {D:S1} {Rel:Hp->V->α->Prop} {H H':Hp} {vs:List V} {as:List α} (mn:MnD D Rel) (f:OnD D H H') (h:Sa7 Rel H vs as):Sa7 Rel H' vs as:=⟨h.1,λi v a e1 e2=>mn _ _ _ _ f (h.2 i v a e1 e2)⟩
theorem Sa7.snoc {α:Type} {Rel:Hp->V->α->Prop} {H:Hp} {vs:List V} {as:List α} {v:V} {a:α} (h:Sa7 Rel H vs as) (k:Rel H v a):Sa7 Rel H (vs++ [v]) (as++ [a]):=by
 refine ⟨by rw [yab,yab,h.1];rfl,λi x b e1 e2=>?_⟩;have l:=h.1;rw [ycn] at e1 e2;by_cases c:i < vs.length
 ·rw [if_pos c] at e1;rw [if_pos (by omega)] at e2;exact h.2 i x b e1 e2
 ·rw [if_neg c] at e1;rw [if_neg (by omega),<-l] at e2;cases ei:i - vs.length with
  |zero=>
   rw [ei] at e1 e2;cases e1;cases e2;exact k
  |succ j=>
   rw [ei] at e1;simp at e1
theorem Sa7.nil {α:Type} {Rel:Hp->V->α->Prop} {H:Hp}:Sa7 Rel H [] []:=⟨rfl,λi v a e=>by simp at e⟩
theorem Sa7.at {α:Type} {Rel:Hp->V->α->Prop} {H:Hp} {vs:List V} {as:List α} {i:Nat} {v:V} (h:Sa7 Rel H vs as) (e:vs[i]?=some v):∃a,as[i]?=some a/\Rel H v a:=by
 have hi:i < vs.length:=(yj.mp e).1;have l:=h.1;exact ⟨as[i],yh _,h.2 i v _ e (yh (by omega))⟩
theorem Sa7.imp {α:Type} {Rel Rel':Hp->V->α->Prop} {H H':Hp} {vs:List V} {as:List α} (f:∀v a,Rel H v a->Rel' H' v a) (h:Sa7 Rel H vs as):Sa7 Rel' H' vs as:=⟨h.1,λi v a e1 e2=>f v a (h.2 i v a e1 e2)⟩
theorem Sa7.append {α:Type} {Rel:Hp->V->α->Prop} {H:Hp} {vs us:List V} {as bs:List α} (h:Sa7 Rel H vs as) (k:Sa7 Rel H us bs):Sa7 Rel H (vs++us) (as++bs):=by
 refine ⟨by rw [yab,yab,h.1,k.1],λi v r e1 e2=>?_⟩;have l:=h.1;rw [ycn] at e1 e2;by_cases c:i < vs.length
 ·rw [if_pos c] at e1;rw [if_pos (by omega)] at e2;exact h.2 i v r e1 e2
 ·rw [if_neg c] at e1;rw [if_neg (by omega),<-l] at e2;exact k.2 _ v r e1 e2
theorem Sa7.one {α:Type} {Rel:Hp->V->α->Prop} {H:Hp} {v:V} {a:α} (k:Rel H v a):Sa7 Rel H [v] [a]:=Sa7.snoc .nil k
theorem Jq0 {H H':Hp} {q:S1} {o:HO} (e:upd H q o=H') (h:H q=none):Si H H'/\H' q=some o:=by
 subst e;exact ⟨Si.upd h,Sn⟩
theorem Jpl {α:Type} {Pr:α->Prop}:∀y∈([]:List α),Pr y:=λ_ h=>nomatch h
theorem all_cons {α:Type} {Pr:α->Prop} {a:α} {l:List α} (h:Pr a) (k:∀y∈l,Pr y):∀y∈a::l,Pr y:=λy hy=>by
 rcases yo.mp hy with e|m
 ·rw [e];exact h
 ·exact k y m
section
variable {α:Type} {K:Sd} {a D:S1} {xs:List V} {te:TE} {R:Hp->Prop} {H:Hp} {o:Option V} {rest:St}
theorem Sl2 {Rel:Hp->V->α->Prop} {as:List α} {i:Nat} {y:α} {vs:List V} {v:V} {H' H5:Hp} (mn:MnD D Rel) (hD:H D=none) (ey:as[i]?=some y) (hDs:H' D=some (.lst vs)) (rg:Sa7 Rel H' vs (as.take i)) (sm:Si H H') (s5:Si H' H5) (r:Rel H5 v y):
  upd H5 D (.lst (vs++ [v])) D=some (.lst (vs++ [v]))/\Sa7 Rel (upd H5 D (.lst (vs++ [v]))) (vs++ [v]) (as.take (i+1))/\Si H (upd H5 D (.lst (vs++ [v]))):=by
 refine ⟨Sn,?_,λc u z=>?_⟩
 ·rw [yr,ey];have f:=OnD.grow (zs:=vs++ [v]) (s5 _ _ hDs);exact Sa7.on mn f (Sa7.snoc (rg.on mn (OnD.same s5)) r)
 ·rw [Jnc (Jnd z hD)];exact s5 _ _ (sm _ _ z)
theorem Jq2 (Rel:Hp->V->α->Prop) (as:List α) (mn:MnD D Rel) (hD:H D=none) (el:as.length=xs.length) (sz:xs.length<=2000) (hq:H a=some (.lst xs))
  (he:∀(i:Nat) x y H' Q,xs[i]?=some x->as[i]?=some y->Si H H'->(∃vs,H' D=some (.lst vs))->(∀v H5,Si H' H5->Rel H5 v y->Q v H5)->te (some x::rest) H' Q)
  (hd:∀vs H',Si H H'->H' D=some (.lst vs)->Sa7 Rel H' vs as->R H'):
  ∃W:Nat->Nat->St->Hp->Prop,(∃m,W 0 m (o::rest) (upd H D (.lst [])))/\∀i m σ' H',W i m σ' H'->((Itl K a).stop i H'/\R H')\/((Itl K a).go i H'/\∃N:St->Hp->Prop,(∀σ2 H2,N σ2 H2->∃m',m' < m/\W (i+1) m' σ2 H2)/\
   ∀x H2,(Itl K a).yld i H' x H2->Jq5 0 x σ' H2 λσ3 H3=>Jzo σ3 H3 λb H4=>if b=true then te σ3 H4 (λv H5=>∃ys,H5 D=some (.lst ys)/\ys.length < S6/\N σ3 (upd H5 D (.lst (ys++ [v])))) else N σ3 H4):=by
 refine Joz (λi σ H'=>(∃o,σ=o::rest)/\∃vs,H' D=some (.lst vs)/\Sa7 Rel H' vs (as.take i)/\Si H H') ⟨⟨_,rfl⟩,[],Sn,.nil,Si.upd hD⟩ (λi σ H' _ ⟨_,_,_,_,sm⟩=>Ss.of (sm _ _ hq)) ?_ ?_
 ·rintro i x σ H' hx ⟨⟨o,rfl⟩,vs,hDs,rg,sm⟩;have hi:i < as.length:=by rw [el];exact (yj.mp hx).1
  have l:=rg.1;rw [yaa] at l;exact Jor (he i x as[i] H' _ hx (yh hi) sm ⟨_,hDs⟩ λv H5 s5 r=>⟨_,s5 _ _ hDs,Jo6 (by omega),⟨_,rfl⟩,_,Sl2 mn hD (yh hi) hDs rg sm s5 r⟩)
 ·rintro σ H' ⟨_,vs,hDs,rg,sm⟩;rw [yad (by omega)] at rg;exact hd vs H' sm hDs rg
theorem Jr2 {lo:Int} {n:Nat} (Rel:Hp->V->α->Prop) (as:List α) (mn:MnD D Rel) (hD:H D=none) (el:as.length=n) (sz:n<=2000)
  (he:∀(i:Nat) y H' Q,as[i]?=some y->Si H H'->(∃vs,H' D=some (.lst vs))->(∀v H5,Si H' H5->Rel H5 v y->Q v H5)->te (some (.int (lo+i))::rest) H' Q)
  (hd:∀vs H',Si H H'->H' D=some (.lst vs)->Sa7 Rel H' vs as->R H'):
  ∃W:Nat->Nat->St->Hp->Prop,(∃m,W 0 m (o::rest) (upd H D (.lst [])))/\∀i m σ' H',W i m σ' H'->((Itr lo n).stop i H'/\R H')\/((Itr lo n).go i H'/\∃N:St->Hp->Prop,(∀σ2 H2,N σ2 H2->∃m',m' < m/\W (i+1) m' σ2 H2)/\
   ∀x H2,(Itr lo n).yld i H' x H2->Jq5 0 x σ' H2 λσ3 H3=>Jzo σ3 H3 λb H4=>if b=true then te σ3 H4 (λv H5=>∃ys,H5 D=some (.lst ys)/\ys.length < S6/\N σ3 (upd H5 D (.lst (ys++ [v])))) else N σ3 H4):=by
 refine Jsz (λi σ H'=>(∃o,σ=o::rest)/\∃vs,H' D=some (.lst vs)/\Sa7 Rel H' vs (as.take i)/\Si H H') ⟨⟨_,rfl⟩,[],Sn,.nil,Si.upd hD⟩ ?_ ?_
 ·rintro i σ H' hx ⟨⟨o,rfl⟩,vs,hDs,rg,sm⟩;have hi:i < as.length:=by omega
  have l:=rg.1;rw [yaa] at l;exact Jor (he i as[i] H' _ (yh hi) sm ⟨_,hDs⟩ λv H5 s5 r=>⟨_,s5 _ _ hDs,Jo6 (by omega),⟨_,rfl⟩,_,Sl2 mn hD (yh hi) hDs rg sm s5 r⟩)
 ·rintro σ H' ⟨_,vs,hDs,rg,sm⟩;rw [yad (by omega)] at rg;exact hd vs H' sm hDs rg
theorem Jy5 {tt:TT} (Rel:Hp->V->α->Prop) (as:List α) (pr:α->Bool) (mn:MnD D Rel) (hD:H D=none) (rg:Sa7 Rel H xs as) (sz:xs.length<=2000) (hq:H a=some (.lst xs))
  (ht:∀(i:Nat) x y H' (Q:Bool->Hp->Prop),as[i]?=some y->Rel H' x y->Q (pr y) H'->tt (some x::rest) H' Q)
  (hd:∀vs H',Si H H'->H' D=some (.lst vs)->Sa7 Rel H' vs (as.filter pr)->R H'):
  ∃W:Nat->Nat->St->Hp->Prop,(∃m,W 0 m (o::rest) (upd H D (.lst [])))/\∀i m σ' H',W i m σ' H'->((Itl K a).stop i H'/\R H')\/((Itl K a).go i H'/\∃N:St->Hp->Prop,(∀σ2 H2,N σ2 H2->∃m',m' < m/\W (i+1) m' σ2 H2)/\
   ∀x H2,(Itl K a).yld i H' x H2->Jq5 0 x σ' H2 λσ3 H3=>tt σ3 H3 λb H4=>if b=true then Skd 0 σ3 H4 (λv H5=>∃ys,H5 D=some (.lst ys)/\ys.length < S6/\N σ3 (upd H5 D (.lst (ys++ [v])))) else N σ3 H4):=by
 refine Joz (λi σ H'=>(∃o,σ=o::rest)/\∃vs,H' D=some (.lst vs)/\vs.length<=i/\Sa7 Rel H' vs ((as.take i).filter pr)/\Si H H') ⟨⟨_,rfl⟩,[],Sn,yg 0,.nil,Si.upd hD⟩ (λi σ H' _ ⟨_,_,_,_,_,sm⟩=>Ss.of (sm _ _ hq)) ?_ ?_
 ·rintro i x σ H' hx ⟨⟨o,rfl⟩,vs,hDs,vl,r,sm⟩;have hi:=(yj.mp hx).1;obtain ⟨y,ey,ry⟩:=rg.at hx;have ry':=mn _ _ _ _ (OnD.same sm) ry;rw [yr,ey,List.filter_append];refine ht i x y H' _ ey ry' ?_;cases c:pr y with
  |true=>
   have f:=OnD.grow (zs:=vs++ [x]) hDs;refine Jp0 ⟨x,rfl,vs,hDs,Jo6 (by omega),⟨_,rfl⟩,vs++ [x],Sn,by rw [yab];exact Nat.succ_le_succ vl,?_,λb u e=>?_⟩
   ·rw [show List.filter pr (some y).toList= [y] from by simp [c]];exact Sa7.on mn f (r.snoc ry')
   ·rw [Jnc (Jnd e hD)];exact sm _ _ e
  |false=>
   refine Jok ⟨⟨_,rfl⟩,vs,hDs,by omega,?_,sm⟩;rw [show List.filter pr (some y).toList= [] from by simp [c],ybb];exact r
 ·rintro σ H' ⟨_,vs,hDs,vl,r,sm⟩;have l:=rg.1;rw [yad (by omega)] at r;exact hd vs H' sm hDs r
theorem Juj {lo:Int} {n:Nat} (ys:List V) (hD:H D=none) (el:ys.length=n) (sz:n<=2000)
  (he:∀(i:Nat) y H' Q,ys[i]?=some y->Si H H'->(∀H5,Si H' H5->Q y H5)->te (some (.int (lo+i))::rest) H' Q)
  (hd:∀H',Si H H'->H' D=some (.lst ys)->R H'):
  ∃W:Nat->Nat->St->Hp->Prop,(∃m,W 0 m (o::rest) (upd H D (.lst [])))/\∀i m σ' H',W i m σ' H'->((Itr lo n).stop i H'/\R H')\/((Itr lo n).go i H'/\∃N:St->Hp->Prop,(∀σ2 H2,N σ2 H2->∃m',m' < m/\W (i+1) m' σ2 H2)/\
   ∀x H2,(Itr lo n).yld i H' x H2->Jq5 0 x σ' H2 λσ3 H3=>Jzo σ3 H3 λb H4=>if b=true then te σ3 H4 (λv H5=>∃ys,H5 D=some (.lst ys)/\ys.length < S6/\N σ3 (upd H5 D (.lst (ys++ [v])))) else N σ3 H4):=by
 refine Jr2 (λ_ v y=>v=y) ys (λ_ _ _ _ _ h=>h) hD el sz (λi y H' Q e s _ k=>he i y H' Q e s λH5 s5=>k y H5 s5 rfl) λvs H' s h r=>hd H' s ?_;have e:vs=ys:=List.ext_getElem? λi=>by
  by_cases c:i < vs.length
  ·have c':i < ys.length:=by rw [<-r.1];exact c
   rw [yh c,yh c',r.2 i _ _ (yh c) (yh c')]
  ·rw [ycv (by omega),ycv (by have:=r.1;omega)]
 rw [<-e];exact h
end
theorem Y0:bootBuiltins "reversed" =some (.type "reversed"):=by decide +kernel
noncomputable def Siz (K:Sd) (a:S1) (n:Nat):It:=⟨λi H=>i < n/\∃xs,Ss K H a xs/\xs.length=n,λi H x H'=>H'=H/\∀xs,Ss K H a xs->xs[n - 1 - i]?=some x,λi _=>i=n⟩
theorem Yfo {K} (a it) (n:Nat):Turn P w K tg (Siz K a n) [it] it (λi h=>h.IsRevIter it a ((n:Int) - 1 - i)) where
 mem:=by simp
 obj:=λi h st b hb=>by
  have e:=by simpa using hb
  subst e;obtain ⟨o,e,c,d⟩:=st;exact ⟨o,e,λv z=>by rw [d] at z;cases z⟩
 keep:=λi h h' st k=>st.at λo e=>k it (by simp) o e
 item:=by
  intro X hP hw hK hc i pins s σ H E I hf st hg;subst hP hw hK;obtain ⟨hi,xs,hq,hn⟩:=hg;obtain ⟨its,rv,p,hz⟩:=I.list hq;have hx:xs[n - 1 - i]?=some (xs[n - 1 - i]'(by omega)):=yh _;obtain ⟨u,hu,ru⟩:=rv.get hx;obtain ⟨f0,f1,f2,f3,f4,f5⟩:=hf it (by simp);have st0:s.heap.IsRevIter it a ((n:Int) - 1 - i):=st;rw [show (n:Int) - 1 - i=((n - 1 - i:Nat):Int) by omega] at st0;refine wpAny_pyNext_rev_item st0 p.isList (by simpa using hu) λh' st' sb=>?_;have I1:Sm X pins σ H {s with heap:=h'}:=I.turned (λb o hb e=>(sb.2 b hb).trans e) f0 f1 f3 f4 f5;rw [show ((n - 1 - i:Nat):Int) - 1=(n:Int) - 1 - ((i+1:Nat):Int) by omega] at st';obtain ⟨o,e,c,d⟩:=id st';exact ⟨u,rfl,Y6 e c d (by decide) ⟨_,H,I1,ru,⟨rfl,λys hy=>by rw [I.list_inj hy hq];exact hx⟩,st',λb hb=>(hf b hb).1⟩⟩
 done:=by
  intro X hP hw hK hc i pins s σ H E I hf st hg;subst hP hw hK;obtain ⟨f0,f1,f2,f3,f4,f5⟩:=hf it (by simp);have e:i=n:=hg;have st0:s.heap.IsRevIter it a ((n:Int) - 1 - i):=st;rw [show (n:Int) - 1 - i= -1 by omega] at st0;exact wpAny_pyNext_rev_end (I.ok.hd hc) st0 λh' eb=>⟨rfl,I.turned (λb o hb e=>eb b o hb e) f0 f1 f3 f4 f5⟩
 self:=λ_ _ _ _ _ st h=>wpAny_pyIter_revIter st h
section
variable {X:Cx} {tg a:Expr} {p pos:Pos} {ta:TA}
noncomputable def Sx5 (K:Sd) (ta:TA):TI:=λσ H R=>ta σ H λvs H1=>∃a xs,vs= [.ref a]/\Ss K H1 a xs/\R (Siz K a xs.length) H1
theorem Snh (hg:Gl X "reversed") (hm:X.mg "reversed" =none) (ha:PA X [a] ta) (hs:starEach [a] X.env= [(false,eval a X.env)]:=by rfl):
  PI X tg (.Call (.Name "reversed" p) [a] [] pos) (Sx5 X.K ta):=by
 intro pins s σ H R I h;refine Call_ (Jqf I hg hm Y0 (PyProof.Rows.callWith_type1 (thn (ha pos pins s σ H _ I h) λus s1 zq=>?_) (by rw [hs];rfl) rfl));obtain ⟨vs,H1,I1,r1,q1⟩:=zq;obtain ⟨l,xs,rfl,q1,q⟩:=q1;obtain ⟨u,rfl,r2⟩:=Jq1 r1;obtain rfl:u=Value.ref l:=r2;obtain ⟨its,rv,p1,_⟩:=I1.list q1;have el:=rv.length;refine call_reversed_list p1.isList ?_;have kk:∀b o,s1.heap.get? b=some o->(s1.heap.push (revObj l ((its.toArray.size:Int) - 1))).get? b=some o:=λb o e=>ym _ e;have st:(s1.heap.push (revObj l ((its.toArray.size:Int) - 1))).IsRevIter s1.heap.objs.size l ((xs.length:Int) - 1 - (0:Nat)):=⟨_,yt _ rfl,rfl,by
  show Data.fields #[.ref l,rawInt ((its.toArray.size:Int) - 1)]=_;rw [show ((its.toArray.size:Nat):Int) - 1=(xs.length:Int) - 1 - (0:Nat) by simp only [yp];omega]⟩
 refine wpAny_pyIter_revIter st ⟨s1.heap.objs.size,[s1.heap.objs.size],_,_,H1,rfl,I1.kept kk,Yfo l _ _,st,λb hb=>?_,q⟩;have e:=by simpa using hb
 subst e;exact I1.fpOk (yg _) (I1.hok.fresh (yg _))
end
theorem Yg0 {K} {a} {xs} {g:TG} {tb:TS} {D:Sc2} {σ} {H} (Pv:Nat->St->Hp->Prop) (h0:Pv 0 σ H) (hl:∀i σ H,i<=xs.length->Pv i σ H->Ss K H a xs)
  (hs:∀i x σ H,i < xs.length->xs[xs.length - 1 - i]?=some x->Pv i σ H->g x σ H λσ2 H2=>tb {D with nx:=Pv (i+1),ct:=Pv (i+1),bk:=D.nx} σ2 H2) (hd:∀σ H,Pv xs.length σ H->D.nx σ H):
  ∃W:Nat->Nat->St->Hp->Prop,(∃m,W 0 m σ H)/\∀i m σ H,W i m σ H->
   ((Siz K a xs.length).stop i H/\D.nx σ H)\/((Siz K a xs.length).go i H/\∃N:St->Hp->Prop,(∀σ' H',N σ' H'->∃m',m' < m/\W (i+1) m' σ' H')/\∀x H',(Siz K a xs.length).yld i H x H'->g x σ H' λσ2 H2=>tb {D with nx:=N,ct:=N,bk:=D.nx} σ2 H2):=by
 refine ⟨λi m σ H=>m=xs.length - i/\i<=xs.length/\Pv i σ H,⟨xs.length,by simp,yaj _,h0⟩,?_⟩;rintro i m σ H ⟨rfl,hi,p⟩;have q:=hl i σ H hi p;by_cases hlt:i < xs.length
 ·refine .inr ⟨⟨hlt,xs,q,rfl⟩,Pv (i+1),λσ' H' p'=>⟨xs.length - (i+1),by omega,rfl,hlt,p'⟩,λx H' y=>?_⟩;obtain ⟨e,y⟩:=y;subst e;exact hs i x σ _ hlt (y xs q) p
 ·have e:i=xs.length:=by omega
  subst e;exact .inl ⟨rfl,hd σ H p⟩
section
variable {X:Cx} {a b:Expr} {rest:List Expr} {pos:Pos} {ta tb:TE}
noncomputable def Sy2 (ta tb:TE):TE:=λσ H Q=>ta σ H λx H1=>(x= .non/\tb σ H1 Q)\/∃p kvs,x= .ref p/\Rd H1 p (.dK kvs)/\if kvs.isEmpty=true then tb σ H1 Q else Q x H1
theorem Sne (ha:PE X a ta) (hb:PE X (.BoolOp .Or (b::rest) pos) tb):PE X (.BoolOp .Or (a::b::rest) pos) (Sy2 ta tb):=by
 intro pins s σ H Q I h;refine BoolOp_or (thn (ha pins s σ H _ I h) λv s1 zq=>?_);obtain ⟨x,H1,I1,r1,q1⟩:=zq;rcases q1 with ⟨rfl,q1⟩|⟨p,kvs,rfl,rd,q1⟩
 ·cases r1;exact truthy_none (hb pins s1 σ H1 Q I1 q1)
 ·cases r1;have hs:=sizeLine_eq;obtain ⟨hz,hS,vs,r,m⟩:=Jy8 I1.hok rd;have hlen:=Paired.length r;refine wpAny_truthy_dict hS m (by omega) ?_;rw [Jwi r];cases e:kvs.isEmpty with
  |true=>
   rw [e,if_pos rfl] at q1;exact hb pins _ σ H1 Q (I1.tok _) q1
  |false=>
   rw [e] at q1;exact ⟨.ref p,H1,I1.tok _,rfl,q1⟩
end
end L2

namespace K21
local macro_rules|`(tactic|omega)=>`(tactic|first|lia|omega)
open PySem L2 PyProof.Rows PySem.NumText
noncomputable def top (i:Nat):Stmt:=PySem.Challenge.pw_weirwatch_k21_standings_numbered.main.body.getD i (.Pass ⟨0,0,0,0⟩)
set_option genInjectivity false in
structure Ad where
 Jh9:S1
 Jha:S8
 Jhb:S1
 Jhc:S8
 Jhd:S1
 Jhe:S8
 Jhf:S1
 Jhg:S8
 Jhh:S1
 Jhi:S8
 Jhj:S1
 Jhk:S8
 Jhl:S1
 Jhm:S8
 Jhn:S1
 Jho:S8
 Jhp:S1
 Jhq:S8
 Jhr:S1
 Jhs:S8
 Jht:S1
 Jhu:S8
 Jhv:S1
 Jhw:S8
 Jhx:S1
 Jhy:S8
 Jhz:S1
 Ji0:S8
 Ji1:S1
 Ji2:S8
 Ji3:S1
 Ji4:S8
 Ji5:S1
 Ji6:S8
 Ji7:S1
 Ji8:S8
 Ji9:S1
 Jia:S8
 Jib:S1
 Jic:S8
 Jid:S1
 Jie:S8
 Jif:S1
 Jig:S8
 Jih:S1
 Jii:S8
 Jij:S1
 Jik:S8
 Jil:S1
 Jim:S8
 Jin:S1
 Jio:S8
 Jip:S1
 Jiq:S8
 Jir:S1
 Jis:S8
 Jit:S1
 Jiu:S8
 Jiv:S1
 Jiw:S8
 Jix:S1
 Jiy:S8
 Jiz:S1
 Jj0:S8
 Jj1:S1
 Jj2:S8
 Jj3:S1
 Jj4:S8
 Jj5:S1
 Jj6:S8
 Jj7:S1
 Jj8:S8
 Jj9:S1
 Jja:S8
 Jjb:S1
 Jjc:S8
 Jjd:S1
 Jje:S8
 Jjf:S1
 Jjg:S8
 Jjh:S1
 Jji:S8
 Jjj:S1
 Jjk:S8
 Jjl:S1
 Jjm:S8
 Jjn:S1
 Jjo:S8
 Jjp:S1
 Jjq:S8
 Jjr:S1
 Jjs:S8
 Jjt:S1
 Jju:S8
 Jjv:S1
 Jjw:S8
 Jjx:S1
 Jjy:S8
 Jjz:S1
 Jk0:S8
 Jk1:S1
 Jk2:S8
 Jk3:S1
 Jk4:S8
 Jk5:S1
 Jk6:S8
 Jk7:S1
 Jk8:S8
 Jk9:S1
 Jka:S8
 Jkb:S1
 Jkc:S8
 Jkd:S1
 Jke:S8
 Jkf:S1
 Jkg:S8
 Jkh:S1
 Jki:S8
 Jkj:S1
 Jkk:S8
 Jkl:S1
 Jkm:S8
 Jkn:S1
 Jko:S8
 Jkp:S1
 Jkq:S8
 Jkr:S1
 Jks:S8
 Jkt:S1
 Jku:S8
 Jkv:S1
 Jkw:S8
 Jkx:S1
 Jky:S8
 Jkz:S1
 Jl0:S8
 Jl1:S1
 Jl2:S8
 Jl3:S1
 Jl4:S8
 Jl5:S1
 Jl6:S8
 Jl7:S1
 Jl8:S8
 Jl9:S1
 Jla:S8
 Jlb:S1
 Jlc:S8
 Jld:S1
 Jle:S8
 Jlf:S1
 Jlg:S8
 Jlh:S1
 Jli:S8
 Jlj:S1
 Jlk:S8
 Jll:S1
 Jlm:S8
 Jln:S1
 Jlo:S8
 Jlp:S1
 Jlq:S8
 Jlr:S1
 Jls:S8
 Jlt:S1
 Jlu:S8
 Jlv:S1
 Jlw:S8
 Jlx:S1
 Jly:S8
 Jlz:S1
 Jm0:S8
 Jm1:S1
 Jm2:S8
 Jm3:S1
 Jm4:S8
 Jm5:S1
 Jm6:S8
 a_law:S1
 d_law:S8
 Jm7:Tok
 Jm8:Tok
 Jm9:Tok
 Jma:Tok
 Jmb:Tok
 Jmc:Tok
 Jmd:Tok
 Jme:Tok
 Jmf:Tok
 Jmg:Tok
 Jmh:Tok
 Jmi:Tok
 Jmj:S1
 Jmk:S1
 Jml:S1
 Jmm:S1
 Jmn:S1
 Jmo:S1
 Jmp:S1
 Jmq:S1
 Jmr:S1
 Jms:S1
 Jmt:S1
 Jmu:S1
 Jmv:S1
 Jmw:S1
 Jmx:S1
 Jmy:S1
 Jmz:S1
 Jn0:S1
 Jn1:S1
 Jn2:S1
 Jn3:S1
structure Tx (K:Sd) (mg:Str->Option S2) (a:Ad):Prop where
 J0:FT K mg "is_whole" (top 16) ["thing","low","high"] a.Jht a.Jhu
 J1:FT K mg "is_made_of" (top 17) ["text","signs"] a.Jhv a.Jhw
 J2:FT K mg "is_name" (top 18) ["thing"] a.Jhx a.Jhy
 J3:FT K mg "is_row" (top 20) ["thing","lows","highs"] a.Jhz a.Ji0
 J4:FT K mg "is_pair" (top 21) ["thing"] a.Ji1 a.Ji2
 J5:FT K mg "is_standing" (top 22) ["river","thing"] a.Ji3 a.Ji4
 J6:FT K mg "forced_rain" (top 23) ["river","wet"] a.Ji5 a.Ji6
 J7:FT K mg "place_drawn_from" (top 24) ["river","town"] a.Ji7 a.Ji8
 J8:FT K mg "draw" (top 25) ["river","standing","choice"] a.Ji9 a.Jia
 J9:FT K mg "levels_left" (top 26) ["river","standing","choice","drawn"] a.Jib a.Jic
 Ja:FT K mg "outs_at" (top 27) ["river","settings","levels"] a.Jid a.Jie
 Jb:FT K mg "levels_behind" (top 28) ["left","outs","rain"] a.Jif a.Jig
 Jc:FT K mg "broken_at" (top 29) ["river","levels"] a.Jih a.Jii
 Jd:FT K mg "is_setting_of" (top 33) ["river","place","setting"] a.Jin a.Jio
 Je:FT K mg "is_stuck" (top 34) ["river","thing"] a.Jip a.Jiq
 Jf:FT K mg "settings_let" (top 35) ["river","stuck"] a.Jir a.Jis
 Jg:FT K mg "product" (top 36) ["numbers"] a.Jit a.Jiu
 Jh:FT K mg "levels_many" (top 37) ["basin"] a.Jiv a.Jiw
 Ji:FT K mg "standings_many" (top 38) ["river"] a.Jix a.Jiy
 Jj:FT K mg "choices_many" (top 39) ["river","stuck"] a.Jiz a.Jj0
 Jk:FT K mg "rain_rows_many" (top 40) ["river"] a.Jj1 a.Jj2
 Jl:FT K mg "weigh" (top 41) ["river","stuck"] a.Jj3 a.Jj4
 Jm:FT K mg "refuse_heavy" (top 42) ["heft"] a.Jj5 a.Jj6
 Jn:FT K mg "longer_rows" (top 43) ["rows","numbers"] a.Jj7 a.Jj8
 Jo:FT K mg "choices_let" (top 44) ["river","stuck"] a.Jj9 a.Jja
 Jp:FT K mg "rains_at" (top 45) ["river","wet"] a.Jjb a.Jjc
 Jq:FT K mg "number_by" (top 46) ["river","standing"] a.Jjd a.Jje
 Jr:FT K mg "standing_by" (top 47) ["river","number"] a.Jjf a.Jjg
 Js:FT K mg "lead" (top 48) ["river","standing","choice","rain"] a.Jjh a.Jji
 Jt:FT K mg "are_marks" (top 54) ["thing","lowest"] a.Jjx a.Jjy
 Ju:FT K mg "kept_marks" (top 55) ["marks","lowest"] a.Jjz a.Jk0
 Jv:FT K mg "refuse_no_level" (top 69) ["thing","low","high"] a.Jkr a.Jks
 Jw:FT K mg "are_unlike" (top 72) ["names"] a.Jkx a.Jky
 Jx:FT K mg "are_basins" (top 73) ["thing"] a.Jkz a.Jl0
 Jy:FT K mg "are_towns" (top 74) ["thing","basins"] a.Jl1 a.Jl2
 Jz:FT K mg "_law_cell" (top 77) ["_law_script","_law_k"] a.Jl9 a.Jla
 Ja0:FT K mg "_law_stream" (top 78) ["_law_cell_here"] a.Jlb a.Jlc
 Ja1:FT K mg "_law_take" (top 79) ["_law_stream_here","_law_many"] a.Jld a.Jle
 Ja2:FT K mg "_law_names" (top 80) ["_law_stream_here","_law_many"] a.Jlf a.Jlg
 Ja3:FT K mg "_law_gate" (top 81) ["_law_stream_here","_law_most"] a.Jlh a.Jli
 Ja4:FT K mg "_law_basin" (top 82) ["_law_stream_here","_law_name","_law_many"] a.Jlj a.Jlk
 Ja5:FT K mg "_law_great" (top 83) ["_law_stream_here"] a.Jll a.Jlm
 Ja6:FT K mg "_law_river" (top 84) ["_law_cell_here"] a.Jln a.Jlo
 Ja7:FT K mg "_law_made_gate" (top 85) ["_law_told"] a.Jlp a.Jlq
 Ja8:FT K mg "_law_made" (top 86) ["_law_told"] a.Jlr a.Jls
 Ja9:FT K mg "_law_standings" (top 87) ["_law_told"] a.Jlt a.Jlu
 Jaa:FT K mg "_law_weight" (top 88) ["_law_told","_law_stuck_here"] a.Jlv a.Jlw
 Jab:FT K mg "_law_stuck" (top 89) ["_law_cell_here","_law_told"] a.Jlx a.Jly
 Jac:FT K mg "_law_whole" (top 90) ["_law_found"] a.Jlz a.Jm0
 Jad:FT K mg "_law_no_standing" (top 91) ["_law_told","_law_m"] a.Jm1 a.Jm2
 Jae:FT K mg "_law_refused" (top 92) ["_law_some","_law_thing","_law_by_number"] a.Jm3 a.Jm4
 Jaf:FT K mg "_law_same" (top 93) ["_law_one","_law_other"] a.Jm5 a.Jm6
 f_law:FT K mg "law" (top 94) ["_law_script"] a.a_law a.d_law
 Jag:mg "LETTERS" =some (.str "abcdefghijklmnopqrstuvwxyz" a.Jm7)
 Jah:mg "MOST_LETTERS" =some (.int 8 a.Jm8)
 Jai:mg "MOST_WEIGHT" =some (.int 4000 a.Jm9)
 Jaj:mg "MOST_SETTINGS" =some (.int 4 a.Jma)
 Jak:mg "HIGHEST_MARK" =some (.int 12 a.Jmb)
 Jal:mg "HIGHEST_LEVEL" =some (.int 1000 a.Jmc)
 Jam:mg "HIGHEST" =some (.int 12 a.Jmd)
 Jan:mg "MOST_RAIN" =some (.int 6 a.Jme)
 Jao:mg "MOST_WANT" =some (.int 6 a.Jmf)
 Jap:mg "MOST_CLOUD" =some (.int 12 a.Jmg)
 Jaq:mg "MOST_BASINS" =some (.int 16 a.Jmh)
 Jar:mg "MOST_TOWNS" =some (.int 3 a.Jmi)
 Jas:mg "all" =none
 Jat:mg "bool" =none
 Jau:mg "dict" =none
 Jav:mg "enumerate" =none
 Jaw:mg "int" =none
 Jax:mg "isinstance" =none
 Jay:mg "len" =none
 Jaz:mg "list" =none
 Jb0:mg "max" =none
 Jb1:mg "min" =none
 Jb2:mg "range" =none
 Jb3:mg "repr" =none
 Jb4:mg "reversed" =none
 Jb5:mg "set" =none
 Jb6:mg "str" =none
 Jb7:mg "sum" =none
 Jb8:mg "tuple" =none
 Jb9:mg "zip" =none
 Jba:mg "WeirError" =some (.ref a.Jmj)
 Jbb:mg "NoName" =some (.ref a.Jmk)
 Jbc:mg "NoGate" =some (.ref a.Jml)
 Jbd:mg "NoBasin" =some (.ref a.Jmm)
 Jbe:mg "NoTown" =some (.ref a.Jmn)
 Jbf:mg "NoCloud" =some (.ref a.Jmo)
 Jbg:mg "NoRiver" =some (.ref a.Jmp)
 Jbh:mg "TooMany" =some (.ref a.Jmq)
 Jbi:mg "NoStanding" =some (.ref a.Jmr)
 Jbj:mg "NoStuck" =some (.ref a.Jms)
 Jbk:mg "NoNumber" =some (.ref a.Jmt)
 Jbl:mg "Turn" =some (.ref a.Jmu)
 Jbm:mg "Standings" =some (.ref a.Jmv)
 Jbn:mg "Gate" =some (.ref a.Jmw)
 Jbo:mg "StepGate" =some (.ref a.Jmx)
 Jbp:mg "FlapGate" =some (.ref a.Jmy)
 Jbq:mg "PartGate" =some (.ref a.Jmz)
 Jbr:mg "StuckGate" =some (.ref a.Jn0)
 Jbs:mg "Basin" =some (.ref a.Jn1)
 Jbt:mg "Town" =some (.ref a.Jn2)
 Jbu:mg "River" =some (.ref a.Jn3)
 Jbv:Sf K (.ref a.Jmk) "__init__" =some (some (.ref a.Jh9))
 Jbw:Sf K (.ref a.Jml) "__init__" =some (some (.ref a.Jhb))
 Jbx:Sf K (.ref a.Jmm) "__init__" =some (some (.ref a.Jhd))
 Jby:Sf K (.ref a.Jmn) "__init__" =some (some (.ref a.Jhf))
 Jbz:Sf K (.ref a.Jmo) "__init__" =some (some (.ref a.Jhh))
 Jc0:Sf K (.ref a.Jmp) "__init__" =some (some (.ref a.Jhj))
 Jc1:Sf K (.ref a.Jmq) "__init__" =some (some (.ref a.Jhl))
 Jc2:Sf K (.ref a.Jmr) "__init__" =some (some (.ref a.Jhn))
 Jc3:Sf K (.ref a.Jms) "__init__" =some (some (.ref a.Jhp))
 Jc4:Sf K (.ref a.Jmt) "__init__" =some (some (.ref a.Jhr))
 Jc5:Sf K (.ref a.Jmu) "__init__" =some (some (.ref a.Jij))
 Jc6:Sf K (.ref a.Jmu) "standing" =some (some (.ref a.Jil))
 Jc7:Sf K (.ref a.Jmv) "__init__" =some (some (.ref a.Jjj))
 Jc8:Sf K (.ref a.Jmv) "ends_by_place" =some (some (.ref a.Jjl))
 Jc9:Sf K (.ref a.Jmv) "ends_by_rain" =some (some (.ref a.Jjn))
 Jca:Sf K (.ref a.Jmv) "many" =some (some (.ref a.Jjp))
 Jcb:Sf K (.ref a.Jmv) "weight" =some (some (.ref a.Jjr))
 Jcc:Sf K (.ref a.Jmv) "number_of" =some (some (.ref a.Jjt))
 Jcd:Sf K (.ref a.Jmv) "standing_at" =some (some (.ref a.Jjv))
 Jce:Sf K (.ref a.Jmw) "lets" =some (some (.ref a.Jk1))
 Jcf:Sf K (.ref a.Jmx) "__init__" =some (some (.ref a.Jk3))
 Jcg:Sf K (.ref a.Jmx) "settings" =some (some (.ref a.Jk5))
 Jch:Sf K (.ref a.Jmx) "passes" =some (some (.ref a.Jk7))
 Jci:Sf K (.ref a.Jmy) "__init__" =some (some (.ref a.Jk9))
 Jcj:Sf K (.ref a.Jmy) "settings" =some (some (.ref a.Jkb))
 Jck:Sf K (.ref a.Jmy) "passes" =some (some (.ref a.Jkd))
 Jcl:Sf K (.ref a.Jmz) "__init__" =some (some (.ref a.Jkf))
 Jcm:Sf K (.ref a.Jmz) "settings" =some (some (.ref a.Jkh))
 Jcn:Sf K (.ref a.Jmz) "passes" =some (some (.ref a.Jkj))
 Jco:Sf K (.ref a.Jn0) "__init__" =some (some (.ref a.Jkl))
 Jcp:Sf K (.ref a.Jn0) "settings" =some (some (.ref a.Jkn))
 Jcq:Sf K (.ref a.Jn0) "passes" =some (some (.ref a.Jkp))
 Jcr:Sf K (.ref a.Jn1) "__init__" =some (some (.ref a.Jkt))
 Jcs:Sf K (.ref a.Jn2) "__init__" =some (some (.ref a.Jkv))
 Jct:Sf K (.ref a.Jn3) "__init__" =some (some (.ref a.Jl3))
 Jcu:Sf K (.ref a.Jn3) "place_of" =some (some (.ref a.Jl5))
 Jcv:Sf K (.ref a.Jn3) "beginning" =some (some (.ref a.Jl7))
 Jcw:FM K "__init__" "NoName.__init__" (Jni (top 3) 0) ["self","thing"] a.Jh9 a.Jha
 Jcx:FM K "__init__" "NoGate.__init__" (Jni (top 4) 0) ["self","thing"] a.Jhb a.Jhc
 Jcy:FM K "__init__" "NoBasin.__init__" (Jni (top 5) 0) ["self","thing"] a.Jhd a.Jhe
 Jcz:FM K "__init__" "NoTown.__init__" (Jni (top 6) 0) ["self","thing"] a.Jhf a.Jhg
 Jd0:FM K "__init__" "NoCloud.__init__" (Jni (top 7) 0) ["self","thing"] a.Jhh a.Jhi
 Jd1:FM K "__init__" "NoRiver.__init__" (Jni (top 8) 0) ["self","thing"] a.Jhj a.Jhk
 Jd2:FM K "__init__" "TooMany.__init__" (Jni (top 9) 0) ["self","count"] a.Jhl a.Jhm
 Jd3:FM K "__init__" "NoStanding.__init__" (Jni (top 10) 0) ["self","thing"] a.Jhn a.Jho
 Jd4:FM K "__init__" "NoStuck.__init__" (Jni (top 11) 0) ["self","thing"] a.Jhp a.Jhq
 Jd5:FM K "__init__" "NoNumber.__init__" (Jni (top 12) 0) ["self","thing"] a.Jhr a.Jhs
 Jd6:FM K "__init__" "Turn.__init__" (Jni (top 30) 0) ["self","river","standing","choice","rain"] a.Jij a.Jik
 Jd7:FM K "standing" "Turn.standing" (Jni (top 30) 1) ["self"] a.Jil a.Jim
 Jd8:FM K "__init__" "Standings.__init__" (Jni (top 49) 0) ["self","river","stuck"] a.Jjj a.Jjk
 Jd9:FM K "ends_by_place" "Standings.ends_by_place" (Jni (top 49) 1) ["self","standing"] a.Jjl a.Jjm
 Jda:FM K "ends_by_rain" "Standings.ends_by_rain" (Jni (top 49) 2) ["self","standing","choice"] a.Jjn a.Jjo
 Jdb:FM K "many" "Standings.many" (Jni (top 49) 3) ["self"] a.Jjp a.Jjq
 Jdc:FM K "weight" "Standings.weight" (Jni (top 49) 4) ["self"] a.Jjr a.Jjs
 Jdd:FM K "number_of" "Standings.number_of" (Jni (top 49) 7) ["self","standing"] a.Jjt a.Jju
 Jde:FM K "standing_at" "Standings.standing_at" (Jni (top 49) 8) ["self","number"] a.Jjv a.Jjw
 Jdf:FM K "lets" "Gate.lets" (Jni (top 57) 0) ["self","setting","level"] a.Jk1 a.Jk2
 Jdg:FM K "__init__" "StepGate.__init__" (Jni (top 58) 0) ["self","marks"] a.Jk3 a.Jk4
 Jdh:FM K "settings" "StepGate.settings" (Jni (top 58) 1) ["self"] a.Jk5 a.Jk6
 Jdi:FM K "passes" "StepGate.passes" (Jni (top 58) 2) ["self","setting","level"] a.Jk7 a.Jk8
 Jdj:FM K "__init__" "FlapGate.__init__" (Jni (top 59) 0) ["self","marks"] a.Jk9 a.Jka
 Jdk:FM K "settings" "FlapGate.settings" (Jni (top 59) 1) ["self"] a.Jkb a.Jkc
 Jdl:FM K "passes" "FlapGate.passes" (Jni (top 59) 2) ["self","setting","level"] a.Jkd a.Jke
 Jdm:FM K "__init__" "PartGate.__init__" (Jni (top 60) 0) ["self","marks"] a.Jkf a.Jkg
 Jdn:FM K "settings" "PartGate.settings" (Jni (top 60) 1) ["self"] a.Jkh a.Jki
 Jdo:FM K "passes" "PartGate.passes" (Jni (top 60) 2) ["self","setting","level"] a.Jkj a.Jkk
 Jdp:FM K "__init__" "StuckGate.__init__" (Jni (top 61) 0) ["self","gate","setting"] a.Jkl a.Jkm
 Jdq:FM K "settings" "StuckGate.settings" (Jni (top 61) 1) ["self"] a.Jkn a.Jko
 Jdr:FM K "passes" "StuckGate.passes" (Jni (top 61) 2) ["self","setting","level"] a.Jkp a.Jkq
 Jds:FM K "__init__" "Basin.__init__" (Jni (top 70) 0) ["self","name","low","high","start","rain","gate"] a.Jkt a.Jku
 Jdt:FM K "__init__" "Town.__init__" (Jni (top 71) 0) ["self","name","basin","want"] a.Jkv a.Jkw
 Jdu:FM K "__init__" "River.__init__" (Jni (top 75) 0) ["self","cloud","gain","basins","towns"] a.Jl3 a.Jl4
 Jdv:FM K "place_of" "River.place_of" (Jni (top 75) 1) ["self","name"] a.Jl5 a.Jl6
 Jdw:FM K "beginning" "River.beginning" (Jni (top 75) 2) ["self"] a.Jl7 a.Jl8
 Jdx:Sag K a.Jmk a.Jmj a.Jh9
 Jdy:Sag K a.Jml a.Jmj a.Jhb
 Jdz:Sag K a.Jmm a.Jmj a.Jhd
 Je0:Sag K a.Jmn a.Jmj a.Jhf
 Je1:Sag K a.Jmo a.Jmj a.Jhh
 Je2:Sag K a.Jmp a.Jmj a.Jhj
 Je3:Sag K a.Jmq a.Jmj a.Jhl
 Je4:Sag K a.Jmr a.Jmj a.Jhn
 Je5:Six K a.Jmr
 Je6:Sag K a.Jms a.Jmj a.Jhp
 Je7:Sag K a.Jmt a.Jmj a.Jhr
 Je8:Six K a.Jmt
 Je9:Cls K a.Jmu
 Jea:Mk K a.Jmu a.Jij
 Jeb:Jps K a.Jmu "standing" a.Jil
 Jec:Cls K a.Jmv
 Jed:Mk K a.Jmv a.Jjj
 Jee:Jps K a.Jmv "ends_by_place" a.Jjl
 Jef:Jps K a.Jmv "ends_by_rain" a.Jjn
 Jeg:Jps K a.Jmv "many" a.Jjp
 Jeh:Jps K a.Jmv "weight" a.Jjr
 Jei:Jps K a.Jmv "number_of" a.Jjt
 Jej:Jps K a.Jmv "standing_at" a.Jjv
 Jek:Cls K a.Jmx
 Jel:Sgr K a.Jmx
 Jem:Mk K a.Jmx a.Jk3
 Jen:Jps K a.Jmx "lets" a.Jk1
 Jeo:Jps K a.Jmx "settings" a.Jk5
 Jep:Jps K a.Jmx "passes" a.Jk7
 Jeq:Cls K a.Jmy
 Jer:Sgr K a.Jmy
 Jes:Mk K a.Jmy a.Jk9
 Jet:Jps K a.Jmy "lets" a.Jk1
 Jeu:Jps K a.Jmy "settings" a.Jkb
 Jev:Jps K a.Jmy "passes" a.Jkd
 Jew:Cls K a.Jmz
 Jex:Sgr K a.Jmz
 Jey:Mk K a.Jmz a.Jkf
 Jez:Jps K a.Jmz "lets" a.Jk1
 Jf0:Jps K a.Jmz "settings" a.Jkh
 Jf1:Jps K a.Jmz "passes" a.Jkj
 Jf2:Cls K a.Jn0
 Jf3:Sgr K a.Jn0
 Jf4:Mk K a.Jn0 a.Jkl
 Jf5:Jps K a.Jn0 "lets" a.Jk1
 Jf6:Jps K a.Jn0 "settings" a.Jkn
 Jf7:Jps K a.Jn0 "passes" a.Jkp
 Jf8:Cls K a.Jn1
 Jf9:Sgr K a.Jn1
 Jfa:Mk K a.Jn1 a.Jkt
 Jfb:Cls K a.Jn2
 Jfc:Sgr K a.Jn2
 Jfd:Mk K a.Jn2 a.Jkv
 Jfe:Cls K a.Jn3
 Jff:Mk K a.Jn3 a.Jl3
 Jfg:Jps K a.Jn3 "place_of" a.Jl5
 Jfh:Jps K a.Jn3 "beginning" a.Jl7
 Jfi:NoAttr K a.Jmk "thing"
 Jfj:NoAttr K a.Jml "thing"
 Jfk:NoAttr K a.Jmm "thing"
 Jfl:NoAttr K a.Jmn "thing"
 Jfm:NoAttr K a.Jmr "thing"
 Jfn:NoAttr K a.Jmt "thing"
 Jfo:NoAttr K a.Jmu "choice"
 Jfp:NoAttr K a.Jmu "rain"
 Jfq:NoAttr K a.Jmu "drawn"
 Jfr:NoAttr K a.Jmu "paid"
 Jfs:NoAttr K a.Jmu "outs"
 Jft:NoAttr K a.Jmu "levels"
 Jfu:NoAttr K a.Jmu "wet"
 Jfv:NoAttr K a.Jmu "broken"
 Jfw:NoAttr K a.Jmv "heft"
 Jfx:NoAttr K a.Jmv "river"
 Jfy:NoAttr K a.Jmv "row"
 Jfz:NoAttr K a.Jmv "listed"
 Jg0:NoAttr K a.Jmv "places"
 Jg1:NoAttr K a.Jmv "falls"
 Jg2:NoAttr K a.Jmv "ends"
 Jg3:NoAttr K a.Jmx "marks"
 Jg4:NoAttr K a.Jmy "marks"
 Jg5:NoAttr K a.Jmz "marks"
 Jg6:NoAttr K a.Jn0 "gate"
 Jg7:NoAttr K a.Jn0 "setting"
 Jg8:NoAttr K a.Jn1 "name"
 Jg9:NoAttr K a.Jn1 "low"
 Jga:NoAttr K a.Jn1 "high"
 Jgb:NoAttr K a.Jn1 "start"
 Jgc:NoAttr K a.Jn1 "rain"
 Jgd:NoAttr K a.Jn1 "gate"
 Jge:NoAttr K a.Jn2 "name"
 Jgf:NoAttr K a.Jn2 "basin"
 Jgg:NoAttr K a.Jn2 "want"
 Jgh:NoAttr K a.Jn3 "cloud"
 Jgi:NoAttr K a.Jn3 "gain"
 Jgj:NoAttr K a.Jn3 "basins"
 Jgk:NoAttr K a.Jn3 "towns"
 Jgl:Se K (.ref a.Jmx) (.ref a.Jmw)=some true
 Jgm:Se K (.ref a.Jmy) (.ref a.Jmw)=some true
 Jgn:Se K (.ref a.Jmz) (.ref a.Jmw)=some true
 Jgo:Se K (.ref a.Jn0) (.ref a.Jmw)=some true
 Jgp:Se K (.ref a.Jn1) (.ref a.Jn1)=some true
 Jgq:Se K (.ref a.Jn2) (.ref a.Jn2)=some true
 Jgr:Se K (.ref a.Jmx) (.type "bool")=some false
 Jgs:Se K (.ref a.Jmy) (.type "bool")=some false
 Jgt:Se K (.ref a.Jmz) (.type "bool")=some false
 Jgu:Se K (.ref a.Jn0) (.type "bool")=some false
 Jgv:W.kitAny K (.ref a.Jmx) [.ref a.Jmx,.ref a.Jmy,.ref a.Jmz,.ref a.Jn0]=some true
 Jgw:W.kitAny K (.ref a.Jmy) [.ref a.Jmx,.ref a.Jmy,.ref a.Jmz,.ref a.Jn0]=some true
 Jgx:W.kitAny K (.ref a.Jmz) [.ref a.Jmx,.ref a.Jmy,.ref a.Jmz,.ref a.Jn0]=some true
 Jgy:W.kitAny K (.ref a.Jn0) [.ref a.Jmx,.ref a.Jmy,.ref a.Jmz,.ref a.Jn0]=some true
 Jgz:Se K (.ref a.Jmx) (.ref a.Jn0)=some false
 Jh0:Se K (.ref a.Jmy) (.ref a.Jn0)=some false
 Jh1:Se K (.ref a.Jmz) (.ref a.Jn0)=some false
 Jh2:Se K (.ref a.Jmt) (.ref a.Jmr)=some false
 Jh3:Se K (.ref a.Jmr) (.ref a.Jmt)=some false
 Jh4:Se K (.ref a.Jmt) (.ref a.Jmj)=some true
 Jh5:Se K (.ref a.Jmr) (.ref a.Jmj)=some true
 Jh6:Sg K a.Jmt (.ref a.Jmt)=some true
 Jh7:Sg K a.Jmt (.ref a.Jmr)=some false
 Jh8:Sg K a.Jmr (.ref a.Jmr)=some true
noncomputable def Jow:Int->List V->Bool
 |_,[]=>true
 |lo,.int i::r=>(decide (lo<=i)&&decide (i<=12))&&Jow (i+1) r
 |_,_::_=>false
noncomputable def Jrk (lo:Int) (xs:List V):Bool:=decide (1<=xs.length/\xs.length<=4)&&Jow lo xs
theorem Jv9 (lo:Int) (x:V) (r:List V):Jow lo (x::r)=(Jnp x lo 12&&match x with| .int i=>Jow (i+1) r|_=>false):=by
 cases x <;> simp [Jow,Jnp]
inductive Sq (H:Hp):V->List V->Prop where
 |lst {p:S1} {xs:List V}:H p=some (.lst xs)->Sq H (.ref p) xs
 |tup {p:S1} {xs:List V}:H p=some (.tup xs)->Sq H (.ref p) xs
theorem Sq.same {H H':Hp} {x:V} {xs:List V} (s:Si H H') (h:Sq H x xs):Sq H' x xs:=by
 cases h with
 |lst e=>exact .lst (s _ _ e)
 |tup e=>exact .tup (s _ _ e)
theorem Sq.ty {K:Sd} {H:Hp} {x:V} {xs:List V} (h:Sq H x xs):∃t,TyX K H x t/\tpB t=true/\W.kitAny K t [.type "list",.type "tuple"]=some true:=by
 cases h with
 |lst e=>exact ⟨_,.of (.lst e),rfl,rfl⟩
 |tup e=>exact ⟨_,.of (.tup e),rfl,rfl⟩
inductive Shp (K:Sd) (H:Hp) (lo:Int):V->Bool->Prop where
 |seq {x:V} {xs:List V}:Sq H x xs->(∀y∈xs,Tm K H y)->Shp K H lo x (Jrk lo xs)
 |non {x:V} {t:S2}:TyX K H x t->W.kitAny K t [.type "list",.type "tuple"]=some false->Shp K H lo x false
inductive Ss7 (K:Sd) (vs:List V) (H:Hp) (Q:VK) (z3:XK):Prop where
 |mk (x:V) (lo:Int) (b:Bool) (_:vs= [x,.int lo]) (_:Shp K H lo x b) (_:∀H',Si H H'->Q (.bl b) H')
inductive Rf (a:Ad) (H H':Hp) (x:V) (c:S2) (eo:Option S1):Prop where
 |mk (e:_) (dx:_) (_:c= .ref a.Jml) (_:eo=some e) (_:Si H H') (_:H' e=some (XO e a.Jml (some dx) false)) (_:H' dx=some (XD dx [("thing",x)]))
theorem Rf.of {a:Ad} {H H1 H':Hp} {x:V} {c:S2} {eo:Option S1} (s:Si H H1) (h:Rf a H1 H' x c eo):Rf a H H' x c eo:=by
 obtain ⟨e,dx,h1,h2,h3,h4,h5⟩:=h;exact ⟨e,dx,h1,h2,s.trans h3,h4,h5⟩
theorem Rf.new {a:Ad} {H:Hp} {x:V} {e dx:S1} (h1:H e=none) (h2:H dx=none) (ne:dx≠e):Rf a H (upd (upd (upd H dx (XD dx [("thing",x)])) e (XO e a.Jml (some dx) true)) e (XO e a.Jml (some dx) false)) x (.ref a.Jml) (some e):=by
 refine ⟨e,dx,rfl,rfl,?_,Sn,?_⟩
 ·rw [Jp8];intro b o q;rw [Jnc (Jnd q h1),Jnc (Jnd q h2)];exact q
 ·rw [Jnc ne,Jnc ne,Sn]
inductive So1 (K:Sd) (a:Ad) (vs:List V) (H:Hp) (Q:VK) (E:XK):Prop where
 |mk (x:V) (lo:Int) (_:vs= [x,.int lo]) (_:((∃xs,Sq H x xs/\(∀y∈xs,Tm K H y)/\Jrk lo xs=true/\∀t H',Si H H'->H' t=some (.tup xs)->Q (.ref t) H')\/(Shp K H lo x false/\∀c eo H',Rf a H H' x c eo->E c eo H')))
noncomputable def IsC (a:Ad) (C:S1):Prop:=C=a.Jmx\/C=a.Jmy\/C=a.Jmz
inductive Sc7 (C:S1) (H:Hp) (g:S1) (xs:List V):Prop where
 |mk (dx:_) (t:_) (_:H g=some (.ins C dx [("marks",.ref t)])) (_:H t=some (.tup xs))
theorem Sc7.same {C:S1} {H H':Hp} {g:S1} {xs:List V} (s:Si H H') (h:Sc7 C H g xs):Sc7 C H' g xs:=by obtain ⟨dx,t,h1,h2⟩:=h;exact ⟨dx,t,s _ _ h1,s _ _ h2⟩
inductive Jzk (K:Sd) (a:Ad) (lo:Int) (vs:List V) (H:Hp) (Q:VK) (E:XK):Prop where
 |mk (p C dx:S1) (x:V) (_:vs= [.ref p,x]) (_:H p=some (.ins C dx [])) (_:Cls K C) (_:NoAttr K C "marks") (_:((∃xs,Sq H x xs/\(∀y∈xs,Tm K H y)/\Jrk lo xs=true/\∀t H',Si H H'->H' t=some (.tup xs)->Q .non (upd H' p (.ins C dx [("marks",.ref t)])))\/(Shp K H lo x false/\∀c eo H',Rf a H H' x c eo->E c eo H')))
inductive Yfa (C:S1) (vs:List V) (H:Hp) (Q:VK) (z3:XK):Prop where
 |mk (p:S1) (xs:List V) (_:vs= [.ref p]) (_:Sc7 C H p xs) (_:Q (.int xs.length) H)
inductive Ssc (vs:List V) (H:Hp) (Q:VK) (z3:XK):Prop where
 |mk (x:_) (_:vs= [x]) (_:Q (.int 1) H)
inductive GS (K:Sd) (a:Ad) (H:Hp):V->Nat->Prop where
 |plain {g C:S1} {xs:List V}:IsC a C->Sc7 C H g xs->xs.length<=4->GS K a H (.ref g) xs.length
 |stuck {g dx:S1} {x y:V}:H g=some (.ins a.Jn0 dx [("gate",x),("setting",y)])->GS K a H (.ref g) 1
theorem GS.same {K:Sd} {a:Ad} {H H':Hp} {x:V} {n:Nat} (s:Si H H') (h:GS K a H x n):GS K a H' x n:=by
 cases h with
 |plain i g l=>exact .plain i (g.same s) l
 |stuck e=>exact .stuck (s _ _ e)
inductive Yh0 (K:Sd) (a:Ad) (vs:List V) (H:Hp) (Q:VK) (E:XK):Prop where
 |mk (p dx:S1) (x y:V) (_:vs= [.ref p,x,y]) (_:H p=some (.ins a.Jn0 dx [])) (_:((∃t,TyX K H x t/\Se K t (.ref a.Jmw)=some false/\∀c eo H',Rf a H H' x c eo->E c eo H')\/(∃n,GS K a H x n/\Tm K H y/\Jnp y 0 (n - 1)=false/\∀c eo H',Rf a H H' y c eo->E c eo H')\/(∃n,GS K a H x n/\Tm K H y/\Jnp y 0 (n - 1)=true/\Q .non (upd H p (.ins a.Jn0 dx [("gate",x),("setting",y)])))))
noncomputable def Knd (z:Str):Prop:=z=("step" :Str)\/z=("flap" :Str)\/z=("part" :Str)
noncomputable def Jqu (z:Str):Int:=if z=("part" :Str) then 1 else 0
noncomputable def cOf (a:Ad) (z:Str):S1:=if z=("step" :Str) then a.Jmx else if z=("flap" :Str) then a.Jmy else a.Jmz
theorem Ydj {a:Ad} {z:Str}:IsC a (cOf a z):=by
 unfold cOf;split
 ·exact .inl rfl
 ·split
  ·exact .inr (.inl rfl)
  ·exact .inr (.inr rfl)
theorem Jyi:¬(("part" :Str)="step"):=by decide +kernel
theorem Jyh:¬(("part" :Str)="flap"):=by decide +kernel
theorem Jyg:¬(("flap" :Str)="step"):=by decide +kernel
theorem Srk:¬(("flap" :Str)="part"):=by decide +kernel
theorem Srl:¬(("step" :Str)="part"):=by decide +kernel
theorem Sok {x y:Str} (h:¬x=y):¬V.str x=V.str y:=λe=>h (V.str.inj e)
noncomputable def LET:Str:="abcdefghijklmnopqrstuvwxyz"
noncomputable def Jxw (g z:Str):Bool:=z.cps.toList.all λc=>decide (c∈g.cps.toList)
noncomputable def Jrf (z:Str):Bool:=decide (1<=z.length/\z.length<=8)&&Jxw LET z
structure Wd (n:Nat) (z:Str):Prop where
 len:z.length<=n
 low:∀c∈z.cps.toList,c < 128
theorem Ybt (z:Str):z.cps.toList.length=z.length:=ybv
theorem Ydi {g:Str} {r:Int} (h0:0<=r) (h1:r < g.length):∃c,c∈g.cps.toList/\atI g.cps.toList r=some c:=by
 obtain ⟨n,rfl⟩:=ybs h0;have hn:n < g.cps.toList.length:=by rw [Ybt];omega
 exact ⟨g.cps.toList[n],yaq hn,Jsb (yh hn)⟩
theorem Sp3 {z:Str} {n:Nat} (h:(decide (z.length<=n)&&z.cps.toList.all (λc=>decide (c < 128)))=true):Wd n z:=by
 rw [yap] at h;exact ⟨of_decide_eq_true h.1,λc hc=>of_decide_eq_true (yaz.mp h.2 c hc)⟩
theorem Sp2:Wd 26 LET:=Sp3 (by decide +kernel)
noncomputable def Jq9:V->Bool
 | .str z=>Jrf z
 |_=>false
noncomputable def Nmd (K:Sd) (H:Hp) (x:V):Prop:=Tm K H x/\∀z,x= .str z->Wd 50 z
inductive So9 (vs:List V) (H:Hp) (Q:VK) (z3:XK):Prop where
 |mk (z g:Str) (_:vs= [.str z,.str g]) (_:z.length<=2000) (_:∀H',Si H H'->Q (.bl (Jxw g z)) H')
inductive Soa (K:Sd) (vs:List V) (H:Hp) (Q:VK) (z3:XK):Prop where
 |mk (x:V) (_:vs= [x]) (_:Nmd K H x) (_:∀H',Si H H'->Q (.bl (Jq9 x)) H')
inductive RfC (C:S1) (H H':Hp) (x:V) (c:S2) (eo:Option S1):Prop where
 |mk (e:_) (dx:_) (_:c= .ref C) (_:eo=some e) (_:Si H H') (_:H' e=some (XO e C (some dx) false)/\H' dx=some (XD dx [("thing",x)]))
theorem RfC.of {C:S1} {H H1 H':Hp} {x:V} {c:S2} {eo:Option S1} (s:Si H H1) (h:RfC C H1 H' x c eo):RfC C H H' x c eo:=by
 obtain ⟨e,dx,h1,h2,h3,h4,h5⟩:=h;exact ⟨e,dx,h1,h2,s.trans h3,h4,h5⟩
theorem RfC.new {C:S1} {H:Hp} {x:V} {e dx:S1} (h1:H e=none) (h2:H dx=none) (ne:dx≠e):RfC C H (upd (upd (upd H dx (XD dx [("thing",x)])) e (XO e C (some dx) true)) e (XO e C (some dx) false)) x (.ref C) (some e):=by
 refine ⟨e,dx,rfl,rfl,?_,Sn,?_⟩
 ·rw [Jp8];intro b o q;rw [Jnc (Jnd q h1),Jnc (Jnd q h2)];exact q
 ·rw [Jnc ne,Jnc ne,Sn]
inductive Yd2 (K:Sd) (a:Ad) (vs:List V) (H:Hp) (Q:VK) (E:XK):Prop where
 |mk (x:V) (lo hi:Int) (_:vs= [x,.int lo,.int hi]) (_:Tm K H x) (_:((Jnp x lo hi=true/\Q .non H)\/(Jnp x lo hi=false/\∀c eo H',RfC a.Jmm H H' x c eo->E c eo H')))
inductive Due (n lo hi st rn g:V) (gb:Bool):Option (Nat×V)->Prop
 |name:Jq9 n=false->Due n lo hi st rn g gb (some (0,n))
 |low:Jq9 n=true->Jnp lo 0 12=false->Due n lo hi st rn g gb (some (1,lo))
 |high (l:Int):Jq9 n=true->lo= .int l->Jnp lo 0 12=true->Jnp hi l 12=false->Due n lo hi st rn g gb (some (1,hi))
 |start (l h:Int):Jq9 n=true->lo= .int l->hi= .int h->Jnp lo 0 12=true->Jnp hi l 12=true->Jnp st l h=false->Due n lo hi st rn g gb (some (1,st))
 |rain (l h:Int):Jq9 n=true->lo= .int l->hi= .int h->Jnp lo 0 12=true->Jnp hi l 12=true->Jnp st l h=true->Jnp rn 0 6=false->Due n lo hi st rn g gb (some (1,rn))
 |gate (l h:Int):Jq9 n=true->lo= .int l->hi= .int h->Jnp lo 0 12=true->Jnp hi l 12=true->Jnp st l h=true->Jnp rn 0 6=true->gb=false->Due n lo hi st rn g gb (some (2,g))
 |good (l h:Int):Jq9 n=true->lo= .int l->hi= .int h->Jnp lo 0 12=true->Jnp hi l 12=true->Jnp st l h=true->Jnp rn 0 6=true->gb=true->Due n lo hi st rn g gb none
inductive Siw (n b wt:V):Option (Nat×V)->Prop
 |name:Jq9 n=false->Siw n b wt (some (0,n))
 |basin:Jq9 n=true->Jq9 b=false->Siw n b wt (some (0,b))
 |want:Jq9 n=true->Jq9 b=true->Jnp wt 1 6=false->Siw n b wt (some (3,wt))
 |good:Jq9 n=true->Jq9 b=true->Jnp wt 1 6=true->Siw n b wt none
noncomputable def Swy (a:Ad):Nat->S1
 |0=>a.Jmk
 |1=>a.Jmm
 |2=>a.Jml
 |_=>a.Jmn
inductive GtI (K:Sd) (a:Ad) (H:Hp) (g:V) (gb:Bool):Prop where
 |mk (t:_) (_:TyX K H g t) (_:Se K t (.ref a.Jmw)=some gb/\W.kitAny K t [.ref a.Jmx,.ref a.Jmy,.ref a.Jmz,.ref a.Jn0]=some gb/\∃b,Se K t (.type "bool")=some b/\(gb=true->b=false)/\t≠ .type "float")
noncomputable def Smb (n lo hi st rn g:V):List (Str×V):=[("name",n),("low",lo),("high",hi),("start",st),("rain",rn),("gate",g)]
noncomputable def twnF (n b wt:V):List (Str×V):=[("name",n),("basin",b),("want",wt)]
noncomputable def Ski (a:Ad) (d:Option (Nat×V)) (H:Hp) (E:XK) (G:Prop):Prop:=match d with
 |none=>G
 |some (k,x)=>∀c eo H',RfC (Swy a k) H H' x c eo->E c eo H'
inductive Ygw (K:Sd) (a:Ad) (vs:List V) (H:Hp) (Q:VK) (E:XK):Prop where
 |mk (p dx:S1) (n lo hi st rn g:V) (gb:Bool) (d:Option (Nat×V)) (_:vs= [.ref p,n,lo,hi,st,rn,g]) (_:H p=some (.ins a.Jn1 dx [])) (_:Nmd K H n) (_:Tm K H lo) (_:Tm K H hi) (_:Tm K H st) (_:Tm K H rn) (_:GtI K a H g gb) (_:Due n lo hi st rn g gb d) (_:Ski a d H E (∀H',Si H H'->Q .non (upd H' p (.ins a.Jn1 dx (Smb n lo hi st rn g)))))
inductive Soj (K:Sd) (a:Ad) (vs:List V) (H:Hp) (Q:VK) (E:XK):Prop where
 |mk (p dx:S1) (n b wt:V) (d:Option (Nat×V)) (_:vs= [.ref p,n,b,wt]) (_:H p=some (.ins a.Jn2 dx [])) (_:Nmd K H n) (_:Nmd K H b) (_:Tm K H wt) (_:Siw n b wt d) (_:Ski a d H E (∀H',Si H H'->Q .non (upd H' p (.ins a.Jn2 dx (twnF n b wt)))))
theorem Nmd.same {K:Sd} {H H':Hp} {x:V} (s:Si H H') (h:Nmd K H x):Nmd K H' x:=⟨h.1.same s,h.2⟩
theorem Jw9 {K:Sd} {H H':Hp} {x:V} {t:S2} (s:Si H H') (h:TyX K H x t):TyX K H' x t:=h.same (λb o _ q=>s b o q) (λb fs q=>s b _ q)
theorem GtI.same {K:Sd} {a:Ad} {H H':Hp} {g:V} {gb:Bool} (s:Si H H') (h:GtI K a H g gb):GtI K a H' g gb:=by obtain ⟨t,ty,r⟩:=h;exact ⟨t,Jw9 s ty,r⟩
theorem Soz {K:Sd} {H:Hp} {x:V} {t:S2} (h:TyX K H x t) (e:t= .type "str"):∃z,x= .str z:=by
 cases h with
 |exc=>cases e
 |of ty=>
  cases ty with
  |str z=>exact ⟨z,rfl⟩
  |ins=>cases e
  |non=>exact absurd (Value.type.inj e) (by decide)
  |bl=>exact absurd (Value.type.inj e) (by decide)
  |int=>exact absurd (Value.type.inj e) (by decide)
  |flt=>exact absurd (Value.type.inj e) (by decide)
  |lst=>exact absurd (Value.type.inj e) (by decide)
  |frz=>exact absurd (Value.type.inj e) (by decide)
  |tup=>exact absurd (Value.type.inj e) (by decide)
  |dK=>exact absurd (Value.type.inj e) (by decide)
  |dT=>exact absurd (Value.type.inj e) (by decide)
structure Bsn where
 z:Str
 lo:Int
 hi:Int
 st:Int
 rn:Int
 g:V
 n:Nat
inductive Sce (K:Sd) (a:Ad) (H:Hp) (o:S1) (B:Bsn):Prop where
 |mk (dx:_) (_:H o=some (.ins a.Jn1 dx (Smb (.str B.z) (.int B.lo) (.int B.hi) (.int B.st) (.int B.rn) B.g))) (_:GS K a H B.g B.n)
theorem Sce.same {K:Sd} {a:Ad} {H H':Hp} {o:S1} {B:Bsn} (s:Si H H') (h:Sce K a H o B):Sce K a H' o B:=by obtain ⟨dx,h1,h2⟩:=h;exact ⟨dx,s _ _ h1,h2.same s⟩
structure Twn where
 z:Str
 b:Str
 wt:Int
inductive Scp (a:Ad) (H:Hp) (o:S1) (B:Twn):Prop where
 |mk (dx:_) (_:H o=some (.ins a.Jn2 dx (twnF (.str B.z) (.str B.b) (.int B.wt))))
theorem Scp.same {a:Ad} {H H':Hp} {o:S1} {B:Twn} (s:Si H H') (h:Scp a H o B):Scp a H' o B:=by obtain ⟨dx,h1⟩:=h;exact ⟨dx,s _ _ h1⟩
noncomputable def Sc1 (K:Sd) (a:Ad) (H:Hp):List S1->List Bsn->Prop
 | [],[]=>True
 |o::os,B::Bs=>Sce K a H o B/\Sc1 K a H os Bs
 |_,_=>False
noncomputable def Sca (a:Ad) (H:Hp):List S1->List Twn->Prop
 | [],[]=>True
 |o::os,B::Bs=>Scp a H o B/\Sca a H os Bs
 |_,_=>False
theorem Sc1.same {K:Sd} {a:Ad} {H H':Hp} (s:Si H H'):∀{os:List S1} {Bs:List Bsn},Sc1 K a H os Bs->Sc1 K a H' os Bs:=by
 intro os
 induction os with
 |nil=>
  intro Bs h;cases Bs with
  |nil=>exact True.intro
  |cons B Bs=>exact False.elim h
 |cons o os ih=>
  intro Bs h;cases Bs with
  |nil=>exact False.elim h
  |cons B Bs=>exact ⟨(yas h).same s,ih (yam h)⟩
theorem Sca.same {a:Ad} {H H':Hp} (s:Si H H'):∀{os:List S1} {Bs:List Twn},Sca a H os Bs->Sca a H' os Bs:=by
 intro os
 induction os with
 |nil=>
  intro Bs h;cases Bs with
  |nil=>exact True.intro
  |cons B Bs=>exact False.elim h
 |cons o os ih=>
  intro Bs h;cases Bs with
  |nil=>exact False.elim h
  |cons B Bs=>exact ⟨(yas h).same s,ih (yam h)⟩
theorem Sc1.len {K:Sd} {a:Ad} {H:Hp} {os:List S1}:∀{Bs:List Bsn},Sc1 K a H os Bs->os.length=Bs.length:=by
 induction os with
 |nil=>
  intro Bs h;cases Bs with
  |nil=>rfl
  |cons B Bs=>exact h.elim
 |cons o os ih=>
  intro Bs h;cases Bs with
  |nil=>exact h.elim
  |cons B Bs=>rw [yaf,yaf,ih h.2]
theorem Sca.len {a:Ad} {H:Hp} {os:List S1}:∀{Bs:List Twn},Sca a H os Bs->os.length=Bs.length:=by
 induction os with
 |nil=>
  intro Bs h;cases Bs with
  |nil=>rfl
  |cons B Bs=>exact h.elim
 |cons o os ih=>
  intro Bs h;cases Bs with
  |nil=>exact h.elim
  |cons B Bs=>rw [yaf,yaf,ih h.2]
theorem Sc1.get {K:Sd} {a:Ad} {H:Hp}:∀{os:List S1} {Bs:List Bsn} {i:Nat} {v:V},Sc1 K a H os Bs->(os.map V.ref)[i]?=some v->∃o B,v= .ref o/\Bs[i]?=some B/\Sce K a H o B:=by
 intro os
 induction os with
 |nil=>intro Bs i v h e;simp at e
 |cons o os ih=>
  intro Bs i v h e;cases Bs with
  |nil=>exact False.elim h
  |cons B Bs=>
   cases i with
   |zero=>exact ⟨o,B,by simpa using e.symm,rfl,yas h⟩
   |succ i=>exact ih (Bs:=Bs) (i:=i) (yam h) (by simpa using e)
theorem Sca.get {a:Ad} {H:Hp}:∀{os:List S1} {Bs:List Twn} {i:Nat} {v:V},Sca a H os Bs->(os.map V.ref)[i]?=some v->∃o B,v= .ref o/\Bs[i]?=some B/\Scp a H o B:=by
 intro os
 induction os with
 |nil=>intro Bs i v h e;simp at e
 |cons o os ih=>
  intro Bs i v h e;cases Bs with
  |nil=>exact False.elim h
  |cons B Bs=>
   cases i with
   |zero=>exact ⟨o,B,by simpa using e.symm,rfl,yas h⟩
   |succ i=>exact ih (Bs:=Bs) (i:=i) (yam h) (by simpa using e)
inductive Yfd (K:Sd) (vs:List V) (H:Hp) (Q:VK) (z3:XK):Prop where
 |mk (l:S1) (zs:List Str) (_:vs= [.ref l]) (_:Ss K H l (zs.map V.str)) (_:zs.length<=2000) (_:∀H',Si H H'->Q (.bl (decide ((uq zs).length=zs.length))) H')
inductive Yf2 (K:Sd) (a:Ad) (vs:List V) (H:Hp) (Q:VK) (z3:XK):Prop where
 |mk (l:S1) (os:List S1) (Bs:List Bsn) (_:vs= [.ref l]) (_:H l=some (.lst (os.map V.ref))) (_:Sc1 K a H os Bs) (_:(1<=Bs.length/\Bs.length<=16)) (_:(Bs.map (·.z)).Nodup) (_:∀H',Si H H'->Q (.bl true) H')
inductive Yhe (K:Sd) (a:Ad) (vs:List V) (H:Hp) (Q:VK) (z3:XK):Prop where
 |mk (l m:S1) (os ts:List S1) (Bs:List Bsn) (Ts:List Twn) (_:vs= [.ref m,.ref l]) (_:H l=some (.lst (os.map V.ref))) (_:Sc1 K a H os Bs) (_:Bs.length<=16) (_:H m=some (.lst (ts.map V.ref))) (_:Sca a H ts Ts) (_:Ts.length<=3) (_:(Ts.map (·.z)).Nodup) (_:(∀t∈Ts,t.b∈Bs.map (·.z))) (_:∀H',Si H H'->Q (.bl true) H')
section
variable {P:S7} {w:S9} {K:Sd} {mg:Str->Option S2} {base:Sb} {a:Ad}
theorem Jtc:Jne ["self","thing"] ["self","thing"] (Jnb (Jni (top 4) 0)):=%[|0]
theorem Jpy (T:Tx K mg a):So P w K mg base CX0 1 a.Jhb a.Jhc ["self","thing"] (Jq7 K "thing"):=by
 refine %[T.Jcx.fn.ok,Jtc|2]
 ·obtain ⟨e,C,W,fI,y,rfl,_⟩:=h;rfl
 ·obtain ⟨e,C,W,fI,y,rfl,q,c,n,k⟩:=h;refine ⟨_,(Sy (Jq3 (pv 0) (pv 1) rfl)),?_⟩;exact ⟨_,rfl,_,rfl,e,C,W,fI,true,rfl,q,c,n,k⟩
theorem Yx:Jne ["thing","low","high"] ["thing","low","high"] (Jnb (top 16)):=%[|0]
theorem Jon (T:Tx K mg a):So P w K mg base CX0 1 a.Jht a.Jhu ["thing","low","high"] (Yhh K):=by
 refine %[T.J0.fn.ok,Yx|2]
 ·obtain ⟨x,lo,hi,rfl,_⟩:=h;rfl
 ·obtain ⟨x,lo,hi,rfl,tm,k⟩:=h;refine ⟨_,(Sw (Jo1 (PW.pt (Js0 (Jo2 (Jng Jop (by rfl) T.Jax Jnr (Sj (pv 0) (Sj (Jp6 (v:=.ty "bool") (by rfl) T.Jat Ybi rfl) Sk)))) (Js1 (Jo0 (Jo2 (Jng Jop (by rfl) T.Jax Jnr (Sj (pv 0) (Sj (Jp6 (v:=.ty "int") (by rfl) T.Jaw Yab rfl) Sk)))))))) (Sy (Jnh Joy)) Jnn)
   (Sy (Jnh (Yn Jry Jry (pv 1) (pv 0) (pv 2))))),?_⟩
  rcases tm with ⟨i,rfl⟩|⟨t,ty,ht⟩
  ·refine ⟨_,rfl,_,_,_,_,_,rfl,rfl,.of (.int i),(by rfl:Se K (.type "int") (.type "bool")=some false),_,rfl,Jok ⟨_,rfl,_,_,_,_,_,rfl,rfl,.of (.int i),(by rfl:Se K (.type "int") (.type "int")=some true),_,rfl,Jok ?_⟩⟩;refine ⟨_,rfl,_,rfl,_,_,rfl,rfl,_,rfl,?_⟩;have k':Q (.bl (decide (lo<=i)&&decide (i<=hi))) H:=k;by_cases h1:lo<=i
   ·rw [decide_eq_true h1] at k'⊢;exact Jp0 ⟨_,rfl,_,_,rfl,rfl,by simpa using k'⟩
   ·rw [decide_eq_false h1] at k'⊢;exact Jok (by simpa using k')
  ·rw [Ygd ty ht] at k;have e:=Sou (K:=K) ht;cases eb:(t== .type "bool") with
   |true=>
    rw [eb] at e;exact ⟨_,rfl,_,_,_,_,_,rfl,rfl,ty,e.2,_,rfl,Jp0 (Jp0 k)⟩
   |false=>
    rw [eb] at e;exact ⟨_,rfl,_,_,_,_,_,rfl,rfl,ty,e.2,_,rfl,Jok ⟨_,rfl,_,_,_,_,_,rfl,rfl,ty,e.1,_,rfl,Jp0 k⟩⟩
theorem Sby:Jne ["thing","lowest","least","mark"] ["thing","lowest"] (Jnb (top 54)):=%[|0]
theorem Jz2 (T:Tx K mg a):So P w K mg base CX0 2 a.Jjx a.Jjy ["thing","lowest"] (Ss7 K):=by
 have Sv:=%[Jon|1];refine %[T.Jt.fn.ok,Sby|2]
 ·obtain ⟨x,lo,b,rfl,_⟩:=h;rfl
 ·obtain ⟨x,lo,b,rfl,sh,k⟩:=h;refine ⟨_,(Sw (Jo1 (Jo0 (Jo2 (Jng Jwd (by rfl) T.Jax Jnr (Sj (pv 0) (Sj (Jnz (Sj (Jp6 (v:=.ty "list") (by rfl) T.Jaz Jpu rfl) (Sj (Jp6 (v:=.ty "tuple") (by rfl) T.Jb8 Joo rfl) Sk))) Sk))))) (Sy (Jnh Joy)) Jnn)
   (Sw (Jo1 (Jo0 (Jx4 Jry Jry Sr (Jng Jnm (by rfl) T.Jay Joh (Sj (pv 0) Sk)) (Joi (by rfl) T.Jaj (v:=.int 4) ⟨_,rfl⟩))) (Sy (Jnh Joy)) Jnn)
   (Sw (Jnk (i:=2) Sby.nd rfl (yf rfl) (pv 1))
   (Sw (Jox PassesOwn.never rfl (Sni (pv 0)) (Jnf (i:=3) Sby.nd rfl (yf rfl)) (Sw (Jo1 (Jo0 (Jo2 (Jna T.J0 Sv hr (by decide) (Sj (pv 3) (Sj (pv 2) (Sj (Joi (by rfl) T.Jak (v:=.int 12) ⟨_,rfl⟩) Sk)))))) (Sy (Jnh Joy)) Jnn)
    (Sy (Jnk (i:=2) Sby.nd rfl (yf rfl) (Jnj Jnv (pv 3) Sr)))))
   (Sy (Jnh Joy)))))),?_⟩
  cases sh with
  | @non t ty e=>
   refine ⟨_,rfl,(show 2<=S6 by decide),λp hp=>⟨_,p,_,_,t,_,rfl,Sn,rfl,ty.same (λb o _ q=>Si.upd hp b o q) (λb fs q=>Si.upd hp b _ q),e,_,rfl,Jp0 (k _ (Si.upd hp))⟩⟩
  | @seq xs sq tms=>
   obtain ⟨t,ty,_,e⟩:=sq.ty (K:=K);refine ⟨_,rfl,(show 2<=S6 by decide),λp hp=>⟨_,p,_,_,t,_,rfl,Sn,rfl,ty.same (λb o _ q=>Si.upd hp b o q) (λb fs q=>Si.upd hp b _ q),e,_,rfl,Jok ?_⟩⟩;have s1:=Si.upd (o:=.tup [.ty "list",.ty "tuple"]) hp;have sq1:=sq.same s1;obtain ⟨q,rfl⟩:∃q,x= .ref q:=by cases sq <;> exact ⟨_,rfl⟩
   have len:Ss K (upd H p (.tup [.ty "list",.ty "tuple"])) q xs\/Su K (upd H p (.tup [.ty "list",.ty "tuple"])) q xs:=by
    cases sq1 with
    |lst e=>exact .inl (Ss.of e)
    |tup e=>exact .inr (Su.of e)
   refine ⟨_,rfl,q,xs,rfl,len,_,_,rfl,rfl,_,rfl,?_⟩;have no:Jrk lo xs=false->∀H',Si H H'->Q (.bl false) H':=λz H' s'=>by
    have:=k H' s';rw [z] at this;exact this
   by_cases h1:(1:Int)<=(xs.length:Int)
   ·rw [decide_eq_true h1];refine Jp0 ⟨_,_,rfl,rfl,_,rfl,?_⟩;by_cases h2:(xs.length:Int)<=4
    ·rw [decide_eq_true h2];refine Jok ⟨_,rfl,?_⟩;have lz:decide (1<=xs.length/\xs.length<=4)=true:=decide_eq_true (by omega);have ar:Jrk lo xs=Jow lo xs:=by unfold Jrk;rw [lz,Bool.true_and]
     refine ⟨_,rfl,q,rfl,Yg1 (xs:=xs) (λi σ H'=>∃(l:Int) (o:Option V),σ= [some (.ref q),some (.int lo),some (.int l),o]/\H'=upd H p (.tup [.ty "list",.ty "tuple"])/\Jow lo xs=Jow l (xs.drop i)) ⟨lo,_,rfl,rfl,rfl⟩ ?_ ?_ ?_⟩
     ·rcases len with z|z
      ·exact .inl λi σ H' _ ⟨_,_,_,e,_⟩=>by rw [e];exact z
      ·exact .inr λi σ H' _ ⟨_,_,_,e,_⟩=>by rw [e];exact z
     ·rintro i y σ H' hy ⟨l,o,rfl,rfl,em⟩;have hd:xs.drop i=y::xs.drop (i+1):=by
       obtain ⟨hi,rfl⟩:=yj.mp hy;exact List.drop_eq_getElem_cons hi
      refine ⟨_,rfl,_,rfl,y,l,12,rfl,(tms y (yq hy)).same s1,_,rfl,?_⟩;cases z:Jnp y l 12 with
      |false=>
       refine Jp0 (no ?_ _ s1);rw [ar,em,hd,Jv9,z,yco]
      |true=>
       rw [hd,Jv9,z,Bool.true_and] at em;cases y with
       |int i'=>exact Jok ⟨_,rfl,_,_,rfl,rfl,i'+1,_,rfl,rfl,em⟩
       |_=>cases z
     ·rintro σ H' ⟨l,o,rfl,rfl,em⟩;have e:Jrk lo xs=true:=by rw [ar,em,List.drop_of_length_le (yg _)];rfl
      have:=k _ s1;rw [e] at this;exact this
    ·rw [decide_eq_false h2];refine Jp0 (no ?_ _ s1);unfold Jrk;rw [decide_eq_false (by omega:¬(1<=xs.length/\xs.length<=4)),yco]
   ·rw [decide_eq_false h1];refine Jok ⟨_,rfl,Jp0 (no ?_ _ s1)⟩;unfold Jrk;rw [decide_eq_false (by omega:¬(1<=xs.length/\xs.length<=4)),yco]
theorem Jxr:Jne ["marks","lowest"] ["marks","lowest"] (Jnb (top 55)):=%[|0]
theorem Jqv (T:Tx K mg a):So P w K mg base (CXX P w) 3 a.Jjz a.Jk0 ["marks","lowest"] (So1 K a):=by
 have Sgj:=%[Jz2|1];have Sa2:=%[Jpy|1];refine %[T.Ju.fn.okX,Jxr|2]
 ·obtain ⟨x,lo,rfl,_⟩:=h;rfl
 ·obtain ⟨x,lo,rfl,h⟩:=h;refine ⟨_,(Sw (Jo1 (Jo0 (Jo2 (Jna T.Jt Sgj hr (by decide) (Sj (pv 0) (Sj (pv 1) Sk))))) (Sy (Jog Jol rfl (Jp2 T.Jdy Sa2 hr (by decide) T.Jcx.bd T.Jbc (Sj (pv 0) Sk)))) Jnn)
   (Sy (Jnh (Jny Jof (by rfl) T.Jb8 Joo (Sj (pv 0) Sk))))),?_⟩
  rcases h with ⟨xs,sq,tms,e,k⟩|⟨sh,k⟩
  ·have sh:=Shp.seq (lo:=lo) sq tms;rw [e] at sh;refine ⟨_,rfl,_,rfl,x,lo,true,rfl,sh,λH1 s1=>⟨_,rfl,Jok ?_⟩⟩;cases sq with
   |lst e=>exact ⟨_,rfl,_,xs,rfl,.inl ⟨Ss.of (s1 _ _ e),λl hl=>k l _ (s1.trans (Si.upd hl)) Sn⟩⟩
   |tup e=>exact ⟨_,rfl,_,xs,rfl,.inr ⟨Su.of (s1 _ _ e),k _ _ s1 (s1 _ _ e)⟩⟩
  ·exact ⟨_,rfl,_,rfl,x,lo,false,rfl,sh,λH1 s1=>⟨_,rfl,Jp0 (Jpb T.Jdy T.Jfj rfl λe dx h1 h2 h3=>k _ _ _ ((Rf.new h1 h2 h3).of s1))⟩⟩
theorem Js7:Jne ["self","marks"] ["self","marks"] (Jnb (Jni (top 58) 0)):=%[|0]
theorem Juq (T:Tx K mg a):So P w K mg base (CXX P w) 4 a.Jk3 a.Jk4 ["self","marks"] (Jzk K a 0):=by
 have Sbg:=%[Jqv|1];refine %[T.Jdg.fn.okX,Js7|2]
 ·obtain ⟨p,C,dx,x,rfl,_⟩:=h;rfl
 ·obtain ⟨p,C,dx,x,rfl,hp,c,n,h⟩:=h;refine ⟨_,(Sy (Jod (pv 0) (Jqj T.Ju Sbg Jol hr (by decide) (Sj (pv 1) (Sj Sr Sk))) rfl)),?_⟩;rcases h with ⟨xs,sq,tms,e,k⟩|⟨sh,k⟩
  ·exact ⟨_,rfl,x,0,rfl,.inl ⟨xs,sq,tms,e,λt H' s' ht=>⟨_,rfl,p,C,dx,[],rfl,s' _ _ hp,c,n,by simp,k t H' s' ht⟩⟩⟩
  ·exact ⟨_,rfl,x,0,rfl,.inr ⟨sh,k⟩⟩
theorem Js8:Jne ["self"] ["self"] (Jnb (Jni (top 58) 1)):=%[|0]
theorem Jrw (T:Tx K mg a):So P w K mg base CX0 1 a.Jk5 a.Jk6 ["self"] (Yfa a.Jmx):=by
 refine %[T.Jdh.fn.ok,Js8|2]
 ·obtain ⟨p,xs,rfl,_⟩:=h;rfl
 ·obtain ⟨p,xs,rfl,⟨dx,t,h1,h2⟩,k⟩:=h;refine ⟨_,(Sy (Jnh (Jng Jnm (by rfl) T.Jay Joh (Sj (Jnl (pv 0) (by rfl)) Sk)))),?_⟩;exact ⟨_,rfl,p,_,dx,_,_,rfl,h1,T.Jek,T.Jg3,rfl,t,xs,rfl,.inr (Su.of h2),k⟩
theorem Js2:Jne ["self","marks"] ["self","marks"] (Jnb (Jni (top 59) 0)):=%[|0]
theorem Juo (T:Tx K mg a):So P w K mg base (CXX P w) 4 a.Jk9 a.Jka ["self","marks"] (Jzk K a 0):=by
 have Sbg:=%[Jqv|1];refine %[T.Jdj.fn.okX,Js2|2]
 ·obtain ⟨p,C,dx,x,rfl,_⟩:=h;rfl
 ·obtain ⟨p,C,dx,x,rfl,hp,c,n,h⟩:=h;refine ⟨_,(Sy (Jod (pv 0) (Jqj T.Ju Sbg Jol hr (by decide) (Sj (pv 1) (Sj Sr Sk))) rfl)),?_⟩;rcases h with ⟨xs,sq,tms,e,k⟩|⟨sh,k⟩
  ·exact ⟨_,rfl,x,0,rfl,.inl ⟨xs,sq,tms,e,λt H' s' ht=>⟨_,rfl,p,C,dx,[],rfl,s' _ _ hp,c,n,by simp,k t H' s' ht⟩⟩⟩
  ·exact ⟨_,rfl,x,0,rfl,.inr ⟨sh,k⟩⟩
theorem Js3:Jne ["self"] ["self"] (Jnb (Jni (top 59) 1)):=%[|0]
theorem Jrt (T:Tx K mg a):So P w K mg base CX0 1 a.Jkb a.Jkc ["self"] (Yfa a.Jmy):=by
 refine %[T.Jdk.fn.ok,Js3|2]
 ·obtain ⟨p,xs,rfl,_⟩:=h;rfl
 ·obtain ⟨p,xs,rfl,⟨dx,t,h1,h2⟩,k⟩:=h;refine ⟨_,(Sy (Jnh (Jng Jnm (by rfl) T.Jay Joh (Sj (Jnl (pv 0) (by rfl)) Sk)))),?_⟩;exact ⟨_,rfl,p,_,dx,_,_,rfl,h1,T.Jeq,T.Jg4,rfl,t,xs,rfl,.inr (Su.of h2),k⟩
theorem Js5:Jne ["self","marks"] ["self","marks"] (Jnb (Jni (top 60) 0)):=%[|0]
theorem Jup (T:Tx K mg a):So P w K mg base (CXX P w) 4 a.Jkf a.Jkg ["self","marks"] (Jzk K a 1):=by
 have Sbg:=%[Jqv|1];refine %[T.Jdm.fn.okX,Js5|2]
 ·obtain ⟨p,C,dx,x,rfl,_⟩:=h;rfl
 ·obtain ⟨p,C,dx,x,rfl,hp,c,n,h⟩:=h;refine ⟨_,(Sy (Jod (pv 0) (Jqj T.Ju Sbg Jol hr (by decide) (Sj (pv 1) (Sj Sr Sk))) rfl)),?_⟩;rcases h with ⟨xs,sq,tms,e,k⟩|⟨sh,k⟩
  ·exact ⟨_,rfl,x,1,rfl,.inl ⟨xs,sq,tms,e,λt H' s' ht=>⟨_,rfl,p,C,dx,[],rfl,s' _ _ hp,c,n,by simp,k t H' s' ht⟩⟩⟩
  ·exact ⟨_,rfl,x,1,rfl,.inr ⟨sh,k⟩⟩
theorem Js6:Jne ["self"] ["self"] (Jnb (Jni (top 60) 1)):=%[|0]
theorem Jrv (T:Tx K mg a):So P w K mg base CX0 1 a.Jkh a.Jki ["self"] (Yfa a.Jmz):=by
 refine %[T.Jdn.fn.ok,Js6|2]
 ·obtain ⟨p,xs,rfl,_⟩:=h;rfl
 ·obtain ⟨p,xs,rfl,⟨dx,t,h1,h2⟩,k⟩:=h;refine ⟨_,(Sy (Jnh (Jng Jnm (by rfl) T.Jay Joh (Sj (Jnl (pv 0) (by rfl)) Sk)))),?_⟩;exact ⟨_,rfl,p,_,dx,_,_,rfl,h1,T.Jew,T.Jg5,rfl,t,xs,rfl,.inr (Su.of h2),k⟩
theorem Jro:Jne ["self"] ["self"] (Jnb (Jni (top 61) 1)):=%[|0]
theorem Jrl (T:Tx K mg a):So P w K mg base CX0 1 a.Jkn a.Jko ["self"] Ssc:=by
 refine %[T.Jdq.fn.ok,Jro|2]
 ·obtain ⟨x,rfl,_⟩:=h;rfl
 ·obtain ⟨x,rfl,k⟩:=h;refine ⟨_,(Sy (Jnh Sr)),?_⟩;exact k
theorem Jpk {j:Nat} {σ:L2.St} {H:Hp} {x:V} {n:Nat} {Q:VK} (T:Tx K mg a) (g:GS K a H x n) (k:Q (.int n) H) (hj:1<=j):
  ∃g' C dx fs f fd ps sp k',x= .ref g'/\H g'=some (.ins C dx fs)/\fs.lookup ("settings" :Str)=none/\Cls K C/\Jps K C "settings" f/\So P w K mg base CX0 k' f fd ps sp/\k'<=j/\Sbf K fd ps []/\Jvt σ H λvs H2=>sp (x::vs) H2 Q E0:=by
 cases g with
 | @plain g C xs i ga l=>
  obtain ⟨dx,t,h1,h2⟩:=ga;rcases i with rfl|rfl|rfl
  ·exact ⟨g,_,dx,_,_,_,_,_,_,rfl,h1,rfl,T.Jek,T.Jeo,Jrw T,hj,T.Jdh.bd,g,xs,rfl,⟨dx,t,h1,h2⟩,k⟩
  ·exact ⟨g,_,dx,_,_,_,_,_,_,rfl,h1,rfl,T.Jeq,T.Jeu,Jrt T,hj,T.Jdk.bd,g,xs,rfl,⟨dx,t,h1,h2⟩,k⟩
  ·exact ⟨g,_,dx,_,_,_,_,_,_,rfl,h1,rfl,T.Jew,T.Jf0,Jrv T,hj,T.Jdn.bd,g,xs,rfl,⟨dx,t,h1,h2⟩,k⟩
 | @stuck g dx x y h1=>exact ⟨g,_,dx,_,_,_,_,_,_,rfl,h1,rfl,T.Jf2,T.Jf6,Jrl T,hj,T.Jdq.bd,_,rfl,k⟩
theorem GS.ty {H:Hp} {x:V} {n:Nat} (T:Tx K mg a) (g:GS K a H x n):∃t,TyX K H x t/\Se K t (.ref a.Jmw)=some true:=by
 cases g with
 |plain i ga l=>
  obtain ⟨dx,t,h1,h2⟩:=ga;rcases i with rfl|rfl|rfl
  ·exact ⟨_,.of (T.Jel.ty T.Jek h1),T.Jgl⟩
  ·exact ⟨_,.of (T.Jer.ty T.Jeq h1),T.Jgm⟩
  ·exact ⟨_,.of (T.Jex.ty T.Jew h1),T.Jgn⟩
 |stuck h1=>exact ⟨_,.of (T.Jf3.ty T.Jf2 h1),T.Jgo⟩
theorem Sxf (x y:V):Jom ("setting" :Str) y [(("gate" :Str),x)]= [(("gate" :Str),x),(("setting" :Str),y)]:=by
 have h:¬(("gate" :Str)="setting"):=by decide +kernel
 simp [Jom,h]
theorem Jrn:Jne ["self","gate","setting"] ["self","gate","setting"] (Jnb (Jni (top 61) 0)):=%[|0]
theorem Jtu (T:Tx K mg a):So P w K mg base (CXX P w) 4 a.Jkl a.Jkm ["self","gate","setting"] (Yh0 K a):=by
 have Sv:=%[Jon|1];have Sa2:=%[Jpy|1];refine %[T.Jdp.fn.okX,Jrn|2]
 ·obtain ⟨p,dx,x,y,rfl,_⟩:=h;rfl
 ·obtain ⟨p,dx,x,y,rfl,hp,h⟩:=h;refine ⟨_,(Sw (Jo1 (Jo0 (Jo2 (Jng Jop (by rfl) T.Jax Jnr (Sj (pv 1) (Sj (Joi (by rfl) T.Jbn (v:=.ref _) rfl) Sk))))) (Sy (Jog Jol rfl (Jp2 T.Jdy Sa2 hr (by decide) T.Jcx.bd T.Jbc (Sj (pv 1) Sk)))) Jnn)
   (Sw (Jo1 (Jo0 (Jo2 (Jna T.J0 Sv hr (by decide) (Sj (pv 2) (Sj Sr (Sj (Jnj Joq (Jsh (pv 1) hr) Sr) Sk)))))) (Sy (Jog Jol rfl (Jp2 T.Jdy Sa2 hr (by decide) T.Jcx.bd T.Jbc (Sj (pv 2) Sk)))) Jnn)
   (Sw (Jod (pv 0) (pv 1) rfl)
   (Sy (Jod (pv 0) (pv 2) rfl))))),?_⟩
  rcases h with ⟨t,ty,e,k⟩|⟨n,g,tm,e,k⟩|⟨n,g,tm,e,k⟩
  ·exact ⟨_,rfl,x,_,_,t,_,rfl,rfl,ty,e,_,rfl,Jp0 (Jpb T.Jdy T.Jfj rfl λe dx h1 h2 h3=>k _ _ _ (Rf.new h1 h2 h3))⟩
  ·obtain ⟨t,ty,et⟩:=g.ty T;refine ⟨_,rfl,x,_,_,t,_,rfl,rfl,ty,et,_,rfl,Jok ⟨_,rfl,_,rfl,Jpk T g ⟨_,_,rfl,rfl,y,0,(n:Int) - 1,rfl,tm,_,rfl,?_⟩ (by decide)⟩⟩;rw [e];exact Jp0 (Jpb T.Jdy T.Jfj rfl λe dx h1 h2 h3=>k _ _ _ (Rf.new h1 h2 h3))
  ·obtain ⟨t,ty,et⟩:=g.ty T;refine ⟨_,rfl,x,_,_,t,_,rfl,rfl,ty,et,_,rfl,Jok ⟨_,rfl,_,rfl,Jpk T g ⟨_,_,rfl,rfl,y,0,(n:Int) - 1,rfl,tm,_,rfl,?_⟩ (by decide)⟩⟩;rw [e];refine Jok ⟨_,rfl,_,rfl,p,_,dx,[],rfl,hp,T.Jf2,T.Jg6,by simp,_,rfl,_,rfl,p,_,dx,_,rfl,Sn,T.Jf2,T.Jg7,by simp [Jom],?_⟩;show Q .non _;rw [Jp8];exact Sxf x y▸k
theorem Yy:Jne ["_law_script","_law_k"] ["_law_script","_law_k"] (Jnb (top 77)):=%[|0]
theorem Yh (T:Tx K mg a):So P w K mg base CX0 1 a.Jl9 a.Jla ["_law_script","_law_k"] (Snx K):=by
 refine %[T.Jz.fn.ok,Yy|2]
 ·obtain ⟨x,ns,i,rfl,_⟩:=h;rfl
 ·obtain ⟨x,ns,i,rfl,hS,k⟩:=h;refine ⟨_,(Sw (Jo1 (Jo9 Sro (pv 1) (Jng Jnm (by rfl) T.Jay Joh (Sj (pv 0) Sk)) (Joc _)) (Sy (Jnh (Jno Joe (pv 0) (pv 1) (λ_ _=>rfl)))) Jnn)
   (Sy (Jnh (Jnj Jnv (Jnj Jpo Sr (pv 1)) Sr)))),?_⟩
  refine ⟨_,rfl,_,rfl,x,_,rfl,.inl hS,_,_,rfl,rfl,_,rfl,Sj8 (λq=>?_) (λq=>?_)⟩
  ·have hi:i < ns.length:=by
    have q':=of_decide_eq_true q;rw [ye] at q';omega
   exact ⟨_,rfl,_,rfl,x,_,_,_,rfl,rfl,hS,Jvx hi,k _⟩
  ·exact ⟨_,rfl,_,_,rfl,rfl,.inl ⟨by decide,by decide⟩,_,_,rfl,rfl,k _⟩
theorem Jxs:Jne ["_law_cell_here"] ["_law_cell_here"] (Jnb (top 78)):=%[|0]
theorem Jsv (T:Tx K mg a):So P w K mg base CX0 1 a.Jlb a.Jlc ["_law_cell_here"] Yfb:=by
 refine %[T.Ja0.fn.ok,Jxs|2]
 ·obtain ⟨c,rfl,_⟩:=h;rfl
 ·obtain ⟨c,rfl,k⟩:=h;refine ⟨_,(Sy (Jnh (Jo3 (Sj (Jng (Jqz rfl) (by rfl) T.Jb0 Jwb (Sj Sr (Sj (Jnj Joq (pv 0) (Jnj Jza Sr Sr)) Sk))) (Sj (Jnj Jpn (pv 0) Sr) (Sj Sr Sk)))))),?_⟩;refine ⟨_,rfl,_,_,rfl,rfl,⟨by decide,by decide,by decide⟩,_,_,rfl,rfl,_,_,rfl,_,rfl,_,_,rfl,rfl,(by show (0:Int) < 2147483647;decide),Job _ (by show 3<=2000;decide),λp hp=>?_⟩;exact k p _ hp (Si.upd hp) ⟨_,_,_,Sn⟩
theorem Sch:Jne ["_law_stream_here","_law_many","_law_digit","_law_number"] ["_law_stream_here","_law_many"] (Jnb (top 79)):=%[|0]
theorem Jpr (T:Tx K mg a):So P w K mg base CX0 1 a.Jld a.Jle ["_law_stream_here","_law_many"] Soi:=by
 refine %[T.Ja1.fn.ok,Sch|2]
 ·obtain ⟨p,m,rfl,_⟩:=h;rfl
 ·obtain ⟨p,m,rfl,⟨a0,b0,c0,hp⟩,hm,hl,k⟩:=h;refine ⟨_,(Sw (Jx3 (Jnj Jnv (Jno Joe (pv 0) Sr (λ_ _=>rfl)) Sr) (Jzb (pv 0) Sr Js9))
   (Sw (Jo1 (Jo9 Jyk (Jno Joe (pv 0) Sr (λ_ _=>rfl)) Sr (Joc _)) (Sw (Jnk (i:=2) Sch.nd rfl (yf rfl) (Jnj Jpn (Jno Joe (pv 0) Sr (λ_ _=>rfl)) (pv 1)))
    (Sw (Jx3 (Jnj Jqi (Jno Joe (pv 0) Sr (λ_ _=>rfl)) (pv 1)) (Jzb (pv 0) Sr Js9))
    (Sy (Jnh (pv 2))))) Jnn)
   (Sw (Jnk (i:=3) Sch.nd rfl (yf rfl) (Jnj Jpn (Jnj Jpo (Jnj Jnv (Jno Joe (pv 0) Sr (λ_ _=>rfl)) (Jnj Jpo Sr (Jno Joe (pv 0) Sr (λ_ _=>rfl)))) Sr) Sr))
   (Sw (Jnk (i:=3) Sch.nd rfl (yf rfl) (Jnj Jpn (Jnj Jpo (pv 3) (pv 3)) Sr))
   (Sy (Jnh (Jnj Jpn (Jnj Jqi (Jnj Jpn (Jnj Jnv (Jnj Jpo (pv 3) (Jnj Jnv (pv 3) Sr)) (Jnj Jpo Sr (Jno Joe (pv 0) Sr (λ_ _=>rfl)))) Sr) Sr) (pv 1)))))))),?_⟩
  refine ⟨_,rfl,p,_,_,_,rfl,rfl,Ss.of hp,rfl,_,_,rfl,rfl,_,rfl,p,_,_,_,rfl,rfl,hp,rfl,?_⟩;refine ⟨_,rfl,p,_,_,_,rfl,rfl,Ss.of Sn,rfl,_,_,rfl,rfl,_,rfl,Sj8 (λ_=>?_) (λ_=>?_)⟩
  ·refine ⟨_,rfl,p,_,_,_,rfl,rfl,Ss.of Sn,rfl,_,rfl,_,_,rfl,rfl,hm,?_⟩;refine ⟨_,rfl,p,_,_,_,rfl,rfl,Ss.of Sn,rfl,_,rfl,_,_,rfl,rfl,⟨hm,hl⟩,_,rfl,p,_,_,_,rfl,rfl,Sn,rfl,?_⟩;refine ⟨_,rfl,k _ _ (ybd _ (by omega)) (ybe _ hm) ⟨λb o ne e=>?_,_,_,_,Sn⟩⟩;rw [Jnc ne,Jnc ne];exact e
  ·refine ⟨_,rfl,p,_,_,_,rfl,rfl,Ss.of Sn,rfl,_,rfl,p,_,_,_,rfl,rfl,Ss.of Sn,rfl,_,_,rfl,rfl,.inl ⟨by decide,by decide⟩,_,_,rfl,rfl,_,_,rfl,rfl,.inr ⟨by decide,by decide⟩,_,_,rfl,rfl,(by show (0:Int) < 2147483629;decide),?_⟩;have n1:∀x:Int,-(2^64) < x%2147483629/\x%2147483629 < 2^64:=λx=>by
    have h1:=ybd x (show (2147483629:Int)≠0 by decide);have h2:=ybe x (show (0:Int) < 2147483629 by decide);constructor <;> omega
   have n2:∀x:Int,-(2^64) < x%2147483587/\x%2147483587 < 2^64:=λx=>by
    have h1:=ybd x (show (2147483587:Int)≠0 by decide);have h2:=ybe x (show (0:Int) < 2147483587 by decide);constructor <;> omega
   refine ⟨_,rfl,_,rfl,_,_,rfl,rfl,.inl (n1 _),_,_,rfl,rfl,(by show (0:Int) < 2147483587;decide),?_⟩;refine ⟨_,rfl,_,rfl,_,_,rfl,rfl,_,_,rfl,rfl,.inl (n2 _),_,rfl,p,_,_,_,rfl,rfl,Ss.of Sn,rfl,_,_,rfl,rfl,.inl ⟨by decide,by decide⟩,_,_,rfl,rfl,_,_,rfl,rfl,(by show (0:Int) < 2147483647;decide),_,_,rfl,rfl,⟨by decide,by decide⟩,_,rfl,_,_,rfl,rfl,hm,?_⟩;refine k _ _ (ybd _ (by omega)) (ybe _ hm) ⟨λb o ne e=>?_,_,_,_,Sn⟩;rw [Jnc ne];exact e
theorem Jtd:Jne ["self","thing"] ["self","thing"] (Jnb (Jni (top 3) 0)):=%[|0]
theorem Jru (T:Tx K mg a):So P w K mg base CX0 1 a.Jh9 a.Jha ["self","thing"] (Jq7 K "thing"):=by
 refine %[T.Jcw.fn.ok,Jtd|2]
 ·obtain ⟨e,C,W,fI,y,rfl,_⟩:=h;rfl
 ·obtain ⟨e,C,W,fI,y,rfl,q,c,n,k⟩:=h;refine ⟨_,(Sy (Jq3 (pv 0) (pv 1) rfl)),?_⟩;exact ⟨_,rfl,_,rfl,e,C,W,fI,true,rfl,q,c,n,k⟩
theorem Jsm:Jne ["self","thing"] ["self","thing"] (Jnb (Jni (top 5) 0)):=%[|0]
theorem Jvj (T:Tx K mg a):So P w K mg base CX0 1 a.Jhd a.Jhe ["self","thing"] (Jq7 K "thing"):=by
 refine %[T.Jcy.fn.ok,Jsm|2]
 ·obtain ⟨e,C,W,fI,y,rfl,_⟩:=h;rfl
 ·obtain ⟨e,C,W,fI,y,rfl,q,c,n,k⟩:=h;refine ⟨_,(Sy (Jq3 (pv 0) (pv 1) rfl)),?_⟩;exact ⟨_,rfl,_,rfl,e,C,W,fI,true,rfl,q,c,n,k⟩
theorem Jte:Jne ["self","thing"] ["self","thing"] (Jnb (Jni (top 6) 0)):=%[|0]
theorem Jwq (T:Tx K mg a):So P w K mg base CX0 1 a.Jhf a.Jhg ["self","thing"] (Jq7 K "thing"):=by
 refine %[T.Jcz.fn.ok,Jte|2]
 ·obtain ⟨e,C,W,fI,y,rfl,_⟩:=h;rfl
 ·obtain ⟨e,C,W,fI,y,rfl,q,c,n,k⟩:=h;refine ⟨_,(Sy (Jq3 (pv 0) (pv 1) rfl)),?_⟩;exact ⟨_,rfl,_,rfl,e,C,W,fI,true,rfl,q,c,n,k⟩
theorem Jxq:Jne ["text","signs"] ["text","signs"] (Jnb (top 17)):=%[|0]
theorem Jxl (T:Tx K mg a):So P w K mg base CX0 1 a.Jhv a.Jhw ["text","signs"] So9:=by
 refine %[T.J1.fn.ok,Jxq|2]
 ·obtain ⟨z,g,rfl,_⟩:=h;rfl
 ·obtain ⟨z,g,rfl,hz,k⟩:=h;refine ⟨_,(Sy (Jnh (Jng (Jqy rfl) (by rfl) T.Jas Juf (Sj (Jnx (N:=(["sign","signs"]:List Str)) (ini:=[none,some 1]) rfl (Snj (pv 0)) (λ_ _ _ _ _=>(Jnf (i:=0) (by decide +kernel:(["sign","signs"]:List Str).Nodup) rfl (yf rfl))) (λ_ _ _ _ _=>Jnw) (λ_ _ _ _ _=>(Jqr Ycs (pv 0) (pv 1) (by with_unfolding_all rfl)))) Sk)))),?_⟩;refine ⟨_,rfl,z,rfl,λD hD=>?_⟩;refine Ydm (z:=z) (D:=D) (λi σ H'=>∃o,σ= [o,some (.str g)]/\H'=upd H D (.lst ((z.cps.toList.take i).map λc=>V.bl (decide (c∈g.cps.toList))))) ?_ ?_ ?_
  ·exact ⟨none,rfl,rfl⟩
  ·rintro i c σ H' hc ⟨o,rfl,rfl⟩;refine Jor ⟨_,rfl,_,rfl,⟨#[c]⟩,g,rfl,rfl,_,Sn,?_,_,rfl,?_⟩
   ·rw [ye,yaa,Ybt];exact Jo6 (by omega)
   ·rw [Jp8,StrLaws.found_one];have e:z.cps.toList[i]?=some c:=by simpa using hc
    rw [yr,e];simp
  ·rintro σ H' ⟨o,rfl,rfl⟩;have e:z.cps.toList.take z.cps.size=z.cps.toList:=yad (by simp);refine ⟨D,z.cps.toList.map λc=>decide (c∈g.cps.toList),rfl,Ss.of (by rw [Sn,e,yaw];rfl),?_⟩;have e2:(z.cps.toList.map λc=>decide (c∈g.cps.toList)).all id=Jxw g z:=by
    unfold Jxw;rw [List.all_map];rfl
   rw [e2];exact k _ (Si.upd hD)
theorem Yge {H:Hp} {x:V} (h:Tm K H x) (n:∀z,x≠ .str z):∃t,TyX K H x t/\Se K t (.type "str")=some false:=by
 rcases h with ⟨i,rfl⟩|⟨t,ty,ht⟩
 ·exact ⟨_,.of (.int i),rfl⟩
 ·refine ⟨t,ty,?_⟩;unfold tpB at ht;simp only [List.contains_cons,List.contains_nil,Bool.or_false,Bool.or_eq_true,beq_iff_eq] at ht;rcases ht with rfl|rfl|rfl|rfl|rfl|rfl
  ·rfl
  ·obtain ⟨z,e⟩:=Soz ty rfl;exact absurd e (n z)
  ·rfl
  ·rfl
  ·rfl
  ·rfl
theorem Yb4:Jne ["thing"] ["thing"] (Jnb (top 18)):=%[|0]
theorem Jwt (T:Tx K mg a):So P w K mg base CX0 2 a.Jhx a.Jhy ["thing"] (Soa K):=by
 have Sg2:=%[Jxl|1];refine %[T.J2.fn.ok,Yb4|2]
 ·obtain ⟨x,rfl,_⟩:=h;rfl
 ·obtain ⟨x,rfl,nm,k⟩:=h;refine ⟨_,(Sw (Jo1 (Jo0 (Jo2 (Jng Jop (by rfl) T.Jax Jnr (Sj (pv 0) (Sj (Jp6 (v:=.ty "str") (by rfl) T.Jb6 Smg rfl) Sk))))) (Sy (Jnh Joy)) Jnn)
   (Sy (Jnh (Jt9 (Yn Jry Jry Sr (Jng Jys (by rfl) T.Jay Joh (Sj (pv 0) Sk)) (Joi (by rfl) T.Jah (v:=.int 8) ⟨_,rfl⟩)) (Jrz (Jna T.J1 Sg2 hr (by decide) (Sj (pv 0) (Sj (Joi (by rfl) T.Jag (v:=.str "abcdefghijklmnopqrstuvwxyz") ⟨_,rfl⟩) Sk)))))))),?_⟩
  by_cases hx:∃z,x= .str z
  ·obtain ⟨z,rfl⟩:=hx;have k:∀H',Si H H'->Q (.bl (Jrf z)) H':=k;have hz:z.length<=2000:=by have:=(nm.2 z rfl).len;omega
   refine ⟨_,rfl,_,_,_,_,_,rfl,rfl,.of (.str z),(by rfl:Se K (.type "str") (.type "str")=some true),_,rfl,Jok ?_⟩;refine ⟨_,rfl,z,rfl,Job _ hz,_,_,rfl,rfl,_,rfl,?_⟩;have no:¬(1<=z.length/\z.length<=8)->Q (.bl false) H:=λq=>by
    have k':=k H (Si.refl H);unfold Jrf at k';rw [decide_eq_false q,yco] at k';exact k'
   by_cases h1:(1:Int)<=(z.length:Int)
   ·rw [decide_eq_true h1];refine Jp0 ⟨_,_,rfl,rfl,_,rfl,?_⟩;by_cases h2:(z.length:Int)<=8
    ·rw [decide_eq_true h2];refine Jp0 ⟨_,rfl,z,_,rfl,hz,λH' s'=>?_⟩;have e:Jrf z=Jxw LET z:=by
      unfold Jrf;rw [decide_eq_true (by omega:1<=z.length/\z.length<=8),Bool.true_and]
     have k':=k H' s';rw [e] at k';exact k'
    ·rw [decide_eq_false h2];exact Jok (no (by omega))
   ·rw [decide_eq_false h1];exact Jok ⟨_,rfl,Jok (no (by omega))⟩
  ·obtain ⟨t,ty,e1⟩:=Yge nm.1 λz e=>hx ⟨z,e⟩;have k':=k H (Si.refl H);have e:Jq9 x=false:=by
    cases x with
    |str z=>exact absurd ⟨z,rfl⟩ hx
    |_=>rfl
   rw [e] at k';exact ⟨_,rfl,_,_,_,_,_,rfl,rfl,ty,e1,_,rfl,Jp0 k'⟩
theorem Jti:Jne ["thing","low","high"] ["thing","low","high"] (Jnb (top 69)):=%[|0]
theorem Jt7 (T:Tx K mg a):So P w K mg base (CXX P w) 3 a.Jkr a.Jks ["thing","low","high"] (Yd2 K a):=by
 have Sv:=%[Jon|1];have Sdt:=%[Jvj|1];refine %[T.Jv.fn.okX,Jti|2]
 ·obtain ⟨x,lo,hi,rfl,_⟩:=h;rfl
 ·obtain ⟨x,lo,hi,rfl,tm,h⟩:=h;refine ⟨_,(Sy (Jo1 (Jo0 (Jo2 (Jna T.J0 Sv hr (by decide) (Sj (pv 0) (Sj (pv 1) (Sj (pv 2) Sk)))))) (Sy (Jog Jol rfl (Jp2 T.Jdz Sdt hr (by decide) T.Jcy.bd T.Jbd (Sj (pv 0) Sk)))) Jnn)),?_⟩;refine ⟨_,rfl,_,rfl,_,rfl,x,lo,hi,rfl,tm,_,rfl,?_⟩;rcases h with ⟨e,k⟩|⟨e,k⟩
  ·rw [e];exact Jok k
  ·rw [e];exact Jp0 (Jpb T.Jdz T.Jfk rfl λe dx h1 h2 h3=>k _ _ _ (RfC.new h1 h2 h3))
theorem Jo5 {f:Str} {v:V}:∀{fs:List (Str×V)},(fs.map (·.1)).contains f=false->Jom f v fs=fs++ [(f,v)]
 | [],_=>rfl
 | (g,x) :: r,h=>by
  rw [yan,List.contains_cons,Bool.or_eq_false_iff] at h;have ne:¬g=f:=λe=>by
   have:=h.1;rw [e] at this;simp at this
  show (if g=f then (g,v)::r else (g,x)::Jom f v r)=_;rw [if_neg ne,Jo5 h.2];rfl
theorem Ju3:Jne ["self","name","low","high","start","rain","gate"] ["self","name","low","high","start","rain","gate"] (Jnb (Jni (top 70) 0)):=%[|0]
theorem Jxi (T:Tx K mg a):So P w K mg base (CXX P w) 4 a.Jkt a.Jku ["self","name","low","high","start","rain","gate"] (Ygw K a):=by
 have Sdg:=%[Jwt|1];have Saw:=%[Jt7|1];have Sav:=%[Jru|1];have Sa2:=%[Jpy|1];refine %[T.Jds.fn.okX,Ju3|2]
 ·obtain ⟨p,dx,n,lo,hi,st,rn,g,gb,d,rfl,_⟩:=h;rfl
 ·obtain ⟨p,dx,n,lo,hi,st,rn,g,gb,d,rfl,hp,nm,tlo,thi,tst,trn,gt,du,k⟩:=h;refine ⟨?t,?B,?C⟩
  case B=>
   refine' Sw (Jo1 (Jo0 (Jo2 (Jna T.J2 Sdg hr (by decide) (Sj (pv 1) Sk)))) (Sy (Jog Jol rfl (Jp2 T.Jdx Sav hr (by decide) T.Jcw.bd T.Jbb (Sj (pv 1) Sk)))) Jnn) ?_
   rotate_left
   refine' Sw (Jp5 (Jqj T.Jv Saw Jol hr (by decide) (Sj (pv 2) (Sj Sr (Sj (Joi (by rfl) T.Jam (v:=.int 12) ⟨_,rfl⟩) Sk))))) ?_
   rotate_left
   refine' Sw (Jp5 (Jqj T.Jv Saw Jol hr (by decide) (Sj (pv 3) (Sj (pv 2) (Sj (Joi (by rfl) T.Jam (v:=.int 12) ⟨_,rfl⟩) Sk))))) ?_
   rotate_left
   refine' Sw (Jp5 (Jqj T.Jv Saw Jol hr (by decide) (Sj (pv 4) (Sj (pv 2) (Sj (pv 3) Sk))))) ?_
   rotate_left
   refine' Sw (Jp5 (Jqj T.Jv Saw Jol hr (by decide) (Sj (pv 5) (Sj Sr (Sj (Joi (by rfl) T.Jan (v:=.int 6) ⟨_,rfl⟩) Sk))))) ?_
   rotate_left
   refine' Sw (Jo1 (Jo0 (Jo2 (Jng Jop (by rfl) T.Jax Jnr (Sj (pv 6) (Sj (Joi (by rfl) T.Jbn (v:=.ref _) rfl) Sk))))) (Sy (Jog Jol rfl (Jp2 T.Jdy Sa2 hr (by decide) T.Jcx.bd T.Jbc (Sj (pv 6) Sk)))) Jnn) ?_
   rotate_left
   refine' Sw (Jod (pv 0) (pv 1) rfl) ?_
   rotate_left
   refine' Sw (Jod (pv 0) (pv 2) rfl) ?_
   rotate_left
   refine' Sw (Jod (pv 0) (pv 3) rfl) ?_
   rotate_left
   refine' Sw (Jod (pv 0) (pv 4) rfl) ?_
   rotate_left
   refine' Sw (Jod (pv 0) (pv 5) rfl) ?_
   rotate_left
   exact (Sy (Jod (pv 0) (pv 6) rfl))
  refine ⟨_,rfl,n,rfl,nm,λH1 s1=>⟨_,rfl,?_⟩⟩;cases du with
  |name e=>
   rw [e];exact Jp0 (Jpb T.Jdx T.Jfi rfl λe dx h1 h2 h3=>k _ _ _ ((RfC.new h1 h2 h3).of s1))
  |low e1 e2=>
   rw [e1];exact Jok ⟨_,rfl,lo,0,12,rfl,tlo.same s1,.inr ⟨e2,λc eo H' rf=>k c eo H' (rf.of s1)⟩⟩
  |high l e1 e2 e3 e4=>
   subst e2;rw [e1];refine Jok ⟨_,rfl,_,0,12,rfl,tlo.same s1,.inl ⟨e3,?_⟩⟩;exact ⟨_,rfl,_,rfl,hi,l,12,rfl,thi.same s1,.inr ⟨e4,λc eo H' rf=>k c eo H' (rf.of s1)⟩⟩
  |start l h e1 e2 e3 e4 e5 e6=>
   subst e2 e3;rw [e1];refine Jok ⟨_,rfl,_,0,12,rfl,tlo.same s1,.inl ⟨e4,?_⟩⟩;refine ⟨_,rfl,_,rfl,_,l,12,rfl,thi.same s1,.inl ⟨e5,?_⟩⟩;exact ⟨_,rfl,_,rfl,_,rfl,st,l,h,rfl,tst.same s1,.inr ⟨e6,λc eo H' rf=>k c eo H' (rf.of s1)⟩⟩
  |rain l h e1 e2 e3 e4 e5 e6 e7=>
   subst e2 e3;rw [e1];refine Jok ⟨_,rfl,_,0,12,rfl,tlo.same s1,.inl ⟨e4,?_⟩⟩;refine ⟨_,rfl,_,rfl,_,l,12,rfl,thi.same s1,.inl ⟨e5,?_⟩⟩;refine ⟨_,rfl,_,rfl,_,rfl,st,l,h,rfl,tst.same s1,.inl ⟨e6,?_⟩⟩;exact ⟨_,rfl,rn,0,6,rfl,trn.same s1,.inr ⟨e7,λc eo H' rf=>k c eo H' (rf.of s1)⟩⟩
  |gate l h e1 e2 e3 e4 e5 e6 e7 e8=>
   subst e2 e3 e8;obtain ⟨t,ty,g1,g2,g3⟩:=gt;rw [e1];refine Jok ⟨_,rfl,_,0,12,rfl,tlo.same s1,.inl ⟨e4,?_⟩⟩;refine ⟨_,rfl,_,rfl,_,l,12,rfl,thi.same s1,.inl ⟨e5,?_⟩⟩;refine ⟨_,rfl,_,rfl,_,rfl,st,l,h,rfl,tst.same s1,.inl ⟨e6,?_⟩⟩;refine ⟨_,rfl,rn,0,6,rfl,trn.same s1,.inl ⟨e7,?_⟩⟩;exact ⟨_,rfl,g,_,_,t,_,rfl,rfl,Jw9 s1 ty,g1,_,rfl,Jp0 (Jpb T.Jdy T.Jfj rfl λe dx h1 h2 h3=>k _ _ _ ((RfC.new h1 h2 h3).of s1))⟩
  |good l h e1 e2 e3 e4 e5 e6 e7 e8=>
   subst e2 e3 e8;obtain ⟨t,ty,g1,g2,g3⟩:=gt;rw [e1];refine Jok ⟨_,rfl,_,0,12,rfl,tlo.same s1,.inl ⟨e4,?_⟩⟩;refine ⟨_,rfl,_,rfl,_,l,12,rfl,thi.same s1,.inl ⟨e5,?_⟩⟩;refine ⟨_,rfl,_,rfl,_,rfl,st,l,h,rfl,tst.same s1,.inl ⟨e6,?_⟩⟩;refine ⟨_,rfl,rn,0,6,rfl,trn.same s1,.inl ⟨e7,?_⟩⟩;refine ⟨_,rfl,g,_,_,t,_,rfl,rfl,Jw9 s1 ty,g1,_,rfl,Jok ?_⟩;refine ⟨_,rfl,_,rfl,p,_,dx,[],rfl,s1 _ _ hp,T.Jf8,T.Jg8,by simp,?_⟩;rw [show Jom "name" n []=([("name",n)]:List (Str×V)) from rfl];refine ⟨_,rfl,_,rfl,p,_,dx,_,rfl,Sn,T.Jf8,T.Jg9,by simp,?_⟩;rw [show Jom "low" (.int l) [("name",n)]=([("name",n),("low",(.int l))]:List (Str×V)) from Jo5 (fs:=[("name",n)]) (show (["name"]:List Str).contains "low" =false by decide +kernel)];refine ⟨_,rfl,_,rfl,p,_,dx,_,rfl,Sn,T.Jf8,T.Jga,by simp,?_⟩;rw [show Jom "high" (.int h) [("name",n),("low",.int l)]=([("name",n),("low",.int l),("high",(.int h))]:List (Str×V)) from Jo5 (fs:=[("name",n),("low",.int l)]) (show (["name","low"]:List Str).contains "high" =false by decide +kernel)];refine ⟨_,rfl,_,rfl,p,_,dx,_,rfl,Sn,T.Jf8,T.Jgb,by simp,?_⟩;rw [show Jom "start" st [("name",n),("low",.int l),("high",.int h)]=([("name",n),("low",.int l),("high",.int h),("start",st)]:List (Str×V)) from Jo5 (fs:=[("name",n),("low",.int l),("high",.int h)]) (show (["name","low","high"]:List Str).contains "start" =false by decide +kernel)];refine ⟨_,rfl,_,rfl,p,_,dx,_,rfl,Sn,T.Jf8,T.Jgc,by simp,?_⟩;rw [show Jom "rain" rn [("name",n),("low",.int l),("high",.int h),("start",st)]=([("name",n),("low",.int l),("high",.int h),("start",st),("rain",rn)]:List (Str×V)) from Jo5 (fs:=[("name",n),("low",.int l),("high",.int h),("start",st)]) (show (["name","low","high","start"]:List Str).contains "rain" =false by decide +kernel)];refine ⟨_,rfl,_,rfl,p,_,dx,_,rfl,Sn,T.Jf8,T.Jgd,by simp,?_⟩;rw [show Jom "gate" g [("name",n),("low",.int l),("high",.int h),("start",st),("rain",rn)]=([("name",n),("low",.int l),("high",.int h),("start",st),("rain",rn),("gate",g)]:List (Str×V)) from Jo5 (fs:=[("name",n),("low",.int l),("high",.int h),("start",st),("rain",rn)]) (show (["name","low","high","start","rain"]:List Str).contains "gate" =false by decide +kernel)];show Q .non _;simp only [Jp8];exact k _ s1
theorem Jux:Jne ["self","name","basin","want"] ["self","name","basin","want"] (Jnb (Jni (top 71) 0)):=%[|0]
theorem Jz0 (T:Tx K mg a):So P w K mg base (CXX P w) 4 a.Jkv a.Jkw ["self","name","basin","want"] (Soj K a):=by
 have Sdg:=%[Jwt|1];have Sv:=%[Jon|1];have Sav:=%[Jru|1];have Se2:=%[Jwq|1];refine %[T.Jdt.fn.okX,Jux|2]
 ·obtain ⟨p,dx,n,b,wt,d,rfl,_⟩:=h;rfl
 ·obtain ⟨p,dx,n,b,wt,d,rfl,hp,nm,nb,tw,du,k⟩:=h;refine ⟨?t,?B,?C⟩
  case B=>
   refine' Sw (Jo1 (Jo0 (Jo2 (Jna T.J2 Sdg hr (by decide) (Sj (pv 1) Sk)))) (Sy (Jog Jol rfl (Jp2 T.Jdx Sav hr (by decide) T.Jcw.bd T.Jbb (Sj (pv 1) Sk)))) Jnn) ?_
   rotate_left
   refine' Sw (Jo1 (Jo0 (Jo2 (Jna T.J2 Sdg hr (by decide) (Sj (pv 2) Sk)))) (Sy (Jog Jol rfl (Jp2 T.Jdx Sav hr (by decide) T.Jcw.bd T.Jbb (Sj (pv 2) Sk)))) Jnn) ?_
   rotate_left
   refine' Sw (Jo1 (Jo0 (Jo2 (Jna T.J0 Sv hr (by decide) (Sj (pv 3) (Sj Sr (Sj (Joi (by rfl) T.Jao (v:=.int 6) ⟨_,rfl⟩) Sk)))))) (Sy (Jog Jol rfl (Jp2 T.Je0 Se2 hr (by decide) T.Jcz.bd T.Jbe (Sj (pv 3) Sk)))) Jnn) ?_
   rotate_left
   refine' Sw (Jod (pv 0) (pv 1) rfl) ?_
   rotate_left
   refine' Sw (Jod (pv 0) (pv 2) rfl) ?_
   rotate_left
   exact (Sy (Jod (pv 0) (pv 3) rfl))
  refine ⟨_,rfl,n,rfl,nm,λH1 s1=>⟨_,rfl,?_⟩⟩;cases du with
  |name e=>
   rw [e];exact Jp0 (Jpb T.Jdx T.Jfi rfl λe dx h1 h2 h3=>k _ _ _ ((RfC.new h1 h2 h3).of s1))
  |basin e1 e2=>
   rw [e1];refine Jok ⟨_,rfl,b,rfl,nb.same s1,λH2 s2=>⟨_,rfl,?_⟩⟩;rw [e2];exact Jp0 (Jpb T.Jdx T.Jfi rfl λe dx h1 h2 h3=>k _ _ _ ((RfC.new h1 h2 h3).of (s1.trans s2)))
  |want e1 e2 e3=>
   rw [e1];refine Jok ⟨_,rfl,b,rfl,nb.same s1,λH2 s2=>⟨_,rfl,?_⟩⟩;rw [e2];refine Jok ⟨_,rfl,wt,1,6,rfl,tw.same (s1.trans s2),_,rfl,?_⟩;rw [e3];exact Jp0 (Jpb T.Je0 T.Jfl rfl λe dx h1 h2 h3=>k _ _ _ ((RfC.new h1 h2 h3).of (s1.trans s2)))
  |good e1 e2 e3=>
   rw [e1];refine Jok ⟨_,rfl,b,rfl,nb.same s1,λH2 s2=>⟨_,rfl,?_⟩⟩;rw [e2];refine Jok ⟨_,rfl,wt,1,6,rfl,tw.same (s1.trans s2),_,rfl,?_⟩;rw [e3];refine Jok ⟨_,rfl,_,rfl,p,_,dx,[],rfl,s2 _ _ (s1 _ _ hp),T.Jfb,T.Jge,by simp,?_⟩;rw [show Jom "name" n []=([("name",n)]:List (Str×V)) from rfl];refine ⟨_,rfl,_,rfl,p,_,dx,_,rfl,Sn,T.Jfb,T.Jgf,by simp,?_⟩;rw [show Jom "basin" b [("name",n)]=([("name",n),("basin",b)]:List (Str×V)) from Jo5 (fs:=[("name",n)]) (show (["name"]:List Str).contains "basin" =false by decide +kernel)];refine ⟨_,rfl,_,rfl,p,_,dx,_,rfl,Sn,T.Jfb,T.Jgg,by simp,?_⟩;rw [show Jom "want" wt [("name",n),("basin",b)]=([("name",n),("basin",b),("want",wt)]:List (Str×V)) from Jo5 (fs:=[("name",n),("basin",b)]) (show (["name","basin"]:List Str).contains "want" =false by decide +kernel)];show Q .non _;simp only [Jp8];exact k _ (s1.trans s2)
theorem ifF {b:Bool} {A B:Prop} (h:b=false) (k:B):if b=true then A else B:=by rw [h];exact Jok k
theorem ifT {b:Bool} {A B:Prop} (h:b=true) (k:A):if b=true then A else B:=by rw [h];exact Jp0 k
theorem Jxp:Jne ["names"] ["names"] (Jnb (top 72)):=%[|0]
theorem Jsu (T:Tx K mg a):So P w K mg base CX0 1 a.Jkx a.Jky ["names"] (Yfd K):=by
 refine %[T.Jw.fn.ok,Jxp|2]
 ·obtain ⟨l,zs,rfl,_⟩:=h;rfl
 ·obtain ⟨l,zs,rfl,hq,hz,k⟩:=h;refine ⟨_,(Sy (Jnh (Jqr Jrh (Jng Jwe (by rfl) T.Jay Joh (Sj (Jny (Jwf rfl) (by rfl) T.Jb5 Smf (Sj (pv 0) Sk)) Sk)) (Jng Jnm (by rfl) T.Jay Joh (Sj (pv 0) Sk)) (Joc _)))),?_⟩;refine ⟨_,rfl,l,zs,rfl,hq,hz,λt ht=>⟨t,zs,rfl,Sn,?_⟩⟩;have s1:=Si.upd (o:=TxS P w t zs) ht;refine ⟨_,rfl,l,_,rfl,.inl (s1.seq hq),rfl,?_⟩;have e:decide (V.int ((uq zs).length:Nat)=V.int ((zs.map V.str).length:Nat))=decide ((uq zs).length=zs.length):=by
   rw [ye];by_cases h:(uq zs).length=zs.length
   ·rw [decide_eq_true h,decide_eq_true (by rw [h])]
   ·rw [decide_eq_false h,decide_eq_false (λq=>h (by have:=V.int.inj q;omega))]
  rw [e];exact k _ s1
theorem Jxo:Jne ["thing"] ["thing"] (Jnb (top 73)):=%[|0]
theorem Jxk (T:Tx K mg a):So P w K mg base CX0 2 a.Jkz a.Jl0 ["thing"] (Yf2 K a):=by
 have Scv:=%[Jsu|1];refine %[T.Jx.fn.ok,Jxo|2]
 ·obtain ⟨l,os,Bs,rfl,_⟩:=h;rfl
 ·obtain ⟨l,os,Bs,rfl,hl,bl,hn,nd,k⟩:=h;have len:=bl.len;refine ⟨?t,?B,?C⟩
  case B=>
   refine' Sw ?O0 ?O1
   case O0=>
    refine' Jo1 ?O2 ?O3 ?O4
    case O2=>exact (PW.pt (Js0 (Jo0 (Jo2 (Jng Jwd (by rfl) T.Jax Jnr (Sj (pv 0) (Sj (Jnz (Sj (Jp6 (v:=.ty "list") (by rfl) T.Jaz Jpu rfl) (Sj (Jp6 (v:=.ty "tuple") (by rfl) T.Jb8 Joo rfl) Sk))) Sk))))) (Js1 (Jo0 (Jx4 Jry Jry Sr (Jng Jnm (by rfl) T.Jay Joh (Sj (pv 0) Sk)) (Joi (by rfl) T.Jaq (v:=.int 16) ⟨_,rfl⟩))))))
    case O3=>
     refine' Sy ?O5
     case O5=>exact (Jnh Joy)
    case O4=>exact Jnn
   case O1=>
   refine' Sw ?O6 ?O7
   case O6=>
    refine' Jo1 ?O8 ?O9 ?Oa
    case O8=>exact (Jo0 (Jo2 (Jng (Jqy rfl) (by rfl) T.Jas Juf (Sj (Jnx (N:=(["basin"]:List Str)) (ini:=[none]) rfl (Jo8 (pv 0)) (λ_ _ _ _ _=>(Jnf (i:=0) (by decide +kernel:(["basin"]:List Str).Nodup) rfl (yf rfl))) (λ_ _ _ _ _=>Jnw) (λ_ _ _ _ _=>(Jng (Jy2 (K:=K) rfl) (by rfl) T.Jax Jnr (Sj (pv 0) (Sj (Joi (by rfl) T.Jbs (v:=.ref _) rfl) Sk))))) Sk))))
    case O9=>
     refine' Sy ?Ob
     case Ob=>exact (Jnh Joy)
    case Oa=>exact Jnn
   case O7=>
   refine' Sy ?Oc
   case Oc=>exact (Jnh (Jna T.Jw Scv hr (by decide) (Sj (Jnx (N:=(["basin"]:List Str)) (ini:=[none]) rfl (Jo8 (pv 0)) (λ_ _ _ _ _=>(Jnf (i:=0) (by decide +kernel:(["basin"]:List Str).Nodup) rfl (yf rfl))) (λ_ _ _ _ _=>Jnw) (λ_ _ _ _ _=>(Jp3 (K:=K) rfl (pv 0) (by rfl)))) Sk)))
  refine ⟨_,rfl,(show 2<=S6 by decide),λp hp=>⟨_,p,_,_,.type "list",true,rfl,Sn,rfl,.of (.lst (Si.upd hp _ _ hl)),rfl,_,rfl,Jok ?_⟩⟩;have s1:=Si.upd (o:=.tup [.ty "list",.ty "tuple"]) hp;refine ⟨_,rfl,l,_,rfl,.inl (Ss.of (s1 _ _ hl)),_,_,rfl,rfl,_,rfl,ifT (by rw [ye];simp;omega) ⟨_,_,rfl,rfl,_,rfl,ifF (by rw [ye];simp;omega) ?_⟩⟩;refine ⟨_,rfl,l,rfl,⟨_,Ss.of (s1 _ _ hl)⟩,λD hD=>?_⟩;refine Joz (K:=K) (a:=l) (xs:=os.map V.ref) (D:=D) (λi σ H'=>∃o,σ= [o]/\H' D=some (.lst ((yw i true).map V.bl))/\Si (upd H p (.tup [.ty "list",.ty "tuple"])) H') ⟨_,rfl,Sn,Si.upd hD⟩ (λi σ H' _ ⟨o,_,_,sm⟩=>Ss.of (sm _ _ (s1 _ _ hl))) ?_ ?_
  ·rintro i v σ H' hv ⟨o,rfl,hDs,sm⟩;obtain ⟨ob,B,rfl,hB,dx,hb,gs⟩:=(bl.same (s1.trans sm)).get hv;have hi:i < os.length:=by have:=(yj.mp hv).1;rwa [ye] at this
   refine Jor ⟨_,rfl,_,_,_,_,true,rfl,rfl,.of (T.Jf9.ty T.Jf8 hb),T.Jgp,_,hDs,?_,_,rfl,?_,λc o z=>?_⟩
   ·rw [ye,ycg];exact Jo6 (by omega)
   ·rw [Sn,List.replicate_succ',yag];rfl
   ·rw [Jnc (Jnd z hD)];exact sm _ _ z
  rintro σ H1 ⟨o,rfl,hDs,sm⟩;refine ⟨D,_,rfl,Ss.of hDs,_,rfl,ifF (by simp) ?_⟩;have s2:=s1.trans sm;refine ⟨_,rfl,l,rfl,⟨_,Ss.of (s2 _ _ hl)⟩,λD2 hD2=>?_⟩;refine Joz (K:=K) (a:=l) (xs:=os.map V.ref) (D:=D2) (λi σ H'=>∃o,σ= [o]/\H' D2=some (.lst (((Bs.take i).map (·.z)).map V.str))/\Si H1 H') ⟨_,rfl,Sn,Si.upd hD2⟩ (λi σ H' _ ⟨o,_,_,sm⟩=>Ss.of (sm _ _ (s2 _ _ hl))) ?_ ?_
  ·rintro i v σ H' hv ⟨o,rfl,hDs,sm3⟩;obtain ⟨ob,B,rfl,hB,dx,hb,gs⟩:=(bl.same (s2.trans sm3)).get hv;refine Jor ⟨_,rfl,ob,_,dx,_,_,rfl,hb,T.Jf8,T.Jg8,rfl,_,hDs,?_,_,rfl,?_,λc o z=>?_⟩
   ·rw [ye,ye,yaa];exact Jo6 (by omega)
   ·rw [Sn,yr,hB];simp
   ·rw [Jnc (Jnd z hD2)];exact sm3 _ _ z
  rintro σ H2 ⟨o,rfl,hDs,sm3⟩;rw [ye,yad (by omega)] at hDs;refine ⟨D2,Bs.map (·.z),rfl,Ss.of hDs,by rw [ye];omega,λH3 s3=>?_⟩;rw [Ya3 nd,decide_eq_true rfl];exact k _ ((s2.trans sm3).trans s3)
theorem Se6:Jne ["thing","basins","names"] ["thing","basins"] (Jnb (top 74)):=%[|0]
theorem Jz3 (T:Tx K mg a):So P w K mg base CX0 2 a.Jl1 a.Jl2 ["thing","basins"] (Yhe K a):=by
 have Scv:=%[Jsu|1];refine %[T.Jy.fn.ok,Se6|2]
 ·obtain ⟨l,m,os,ts,Bs,Ts,rfl,_⟩:=h;rfl
 ·obtain ⟨l,m,os,ts,Bs,Ts,rfl,hl,bl,hn,hm,tl,tn,nd,inn,k⟩:=h;have len:=bl.len;have tlen:=tl.len;refine ⟨?t,?B,?C⟩
  case B=>
   refine' Sw ?O0 ?O1
   case O0=>
    refine' Jo1 ?O2 ?O3 ?O4
    case O2=>exact (PW.pt (Js0 (Jo0 (Jo2 (Jng Jwd (by rfl) T.Jax Jnr (Sj (pv 0) (Sj (Jnz (Sj (Jp6 (v:=.ty "list") (by rfl) T.Jaz Jpu rfl) (Sj (Jp6 (v:=.ty "tuple") (by rfl) T.Jb8 Joo rfl) Sk))) Sk))))) (Js1 (Jo9 Jyk (Jng Jnm (by rfl) T.Jay Joh (Sj (pv 0) Sk)) (Joi (by rfl) T.Jar (v:=.int 3) ⟨_,rfl⟩) (Joc _)))))
    case O3=>
     refine' Sy ?O5
     case O5=>exact (Jnh Joy)
    case O4=>exact Jnn
   case O1=>
   refine' Sw ?O6 ?O7
   case O6=>
    refine' Jo1 ?O8 ?O9 ?Oa
    case O8=>exact (Jo0 (Jo2 (Jng (Jqy rfl) (by rfl) T.Jas Juf (Sj (Jnx (N:=(["town"]:List Str)) (ini:=[none]) rfl (Jo8 (pv 0)) (λ_ _ _ _ _=>(Jnf (i:=0) (by decide +kernel:(["town"]:List Str).Nodup) rfl (yf rfl))) (λ_ _ _ _ _=>Jnw) (λ_ _ _ _ _=>(Jng (Jy2 (K:=K) rfl) (by rfl) T.Jax Jnr (Sj (pv 0) (Sj (Joi (by rfl) T.Jbt (v:=.ref _) rfl) Sk))))) Sk))))
    case O9=>
     refine' Sy ?Ob
     case Ob=>exact (Jnh Joy)
    case Oa=>exact Jnn
   case O7=>
   refine' Sw ?Oc ?Od
   case Oc=>exact (Jnk (i:=2) Se6.nd rfl (yak rfl) (Jnx (N:=(["basin"]:List Str)) (ini:=[none]) rfl (Jo8 (pv 1)) (λ_ _ _ _ _=>(Jnf (i:=0) (by decide +kernel:(["basin"]:List Str).Nodup) rfl (yf rfl))) (λ_ _ _ _ _=>Jnw) (λ_ _ _ _ _=>(Jp3 (K:=K) rfl (pv 0) (by rfl)))))
   case Od=>
   refine' Sy ?Oe
   case Oe=>exact (Jnh (Jt9 (Jna T.Jw Scv hr (by decide) (Sj (Jnx (N:=(["town"]:List Str)) (ini:=[none]) rfl (Jo8 (pv 0)) (λ_ _ _ _ _=>(Jnf (i:=0) (by decide +kernel:(["town"]:List Str).Nodup) rfl (yf rfl))) (λ_ _ _ _ _=>Jnw) (λ_ _ _ _ _=>(Jp3 (K:=K) rfl (pv 0) (by rfl)))) Sk)) (Jrz (Jng (Jqy rfl) (by rfl) T.Jas Juf (Sj (Jnx (N:=(["town","names"]:List Str)) (ini:=[none,some 2]) rfl (Jo8 (pv 0)) (λ_ _ _ _ _=>(Jnf (i:=0) (by decide +kernel:(["town","names"]:List Str).Nodup) rfl (yf rfl))) (λ_ _ _ _ _=>Jnw) (λ_ _ _ _ _=>(Jqr (Yav (K:=K) rfl) (Jp3 (K:=K) rfl (pv 0) (by rfl)) (pv 1) (by with_unfolding_all rfl)))) Sk)))))
  refine ⟨_,rfl,(show 2<=S6 by decide),λp hp=>⟨_,p,_,_,.type "list",true,rfl,Sn,rfl,.of (.lst (Si.upd hp _ _ hm)),rfl,_,rfl,Jok ?_⟩⟩;have s1:=Si.upd (o:=.tup [.ty "list",.ty "tuple"]) hp;refine ⟨_,rfl,m,_,rfl,.inl (Ss.of (s1 _ _ hm)),_,_,rfl,rfl,_,rfl,ifF (by rw [ye];simp;omega) ?_⟩;refine ⟨_,rfl,m,rfl,⟨_,Ss.of (s1 _ _ hm)⟩,λD hD=>?_⟩;refine Joz (K:=K) (a:=m) (xs:=ts.map V.ref) (D:=D) (λi σ H'=>∃o,σ= [o]/\H' D=some (.lst ((yw i true).map V.bl))/\Si (upd H p (.tup [.ty "list",.ty "tuple"])) H') ⟨_,rfl,Sn,Si.upd hD⟩ (λi σ H' _ ⟨o,_,_,sm⟩=>Ss.of (sm _ _ (s1 _ _ hm))) ?_ ?_
  ·rintro i v σ H' hv ⟨o,rfl,hDs,sm⟩;obtain ⟨ob,B,rfl,hB,dx,hb⟩:=(tl.same (s1.trans sm)).get hv;have hi:i < ts.length:=by have:=(yj.mp hv).1;rwa [ye] at this
   refine Jor ⟨_,rfl,_,_,_,_,true,rfl,rfl,.of (T.Jfc.ty T.Jfb hb),T.Jgq,_,hDs,?_,_,rfl,?_,λc o z=>?_⟩
   ·rw [ye,ycg];exact Jo6 (by omega)
   ·rw [Sn,List.replicate_succ',yag];rfl
   ·rw [Jnc (Jnd z hD)];exact sm _ _ z
  rintro σ H1 ⟨o,rfl,hDs,sm⟩;refine ⟨D,_,rfl,Ss.of hDs,_,rfl,ifF (by simp) ?_⟩;have s2:=s1.trans sm;refine ⟨_,rfl,l,rfl,⟨_,Ss.of (s2 _ _ hl)⟩,λD2 hD2=>?_⟩;refine Joz (K:=K) (a:=l) (xs:=os.map V.ref) (D:=D2) (λi σ H'=>∃o,σ= [o]/\H' D2=some (.lst (((Bs.take i).map (·.z)).map V.str))/\Si H1 H') ⟨_,rfl,Sn,Si.upd hD2⟩ (λi σ H' _ ⟨o,_,_,sm⟩=>Ss.of (sm _ _ (s2 _ _ hl))) ?_ ?_
  ·rintro i v σ H' hv ⟨o,rfl,hDs,sm3⟩;obtain ⟨ob,B,rfl,hB,dx,hb,gs⟩:=(bl.same (s2.trans sm3)).get hv;refine Jor ⟨_,rfl,ob,_,dx,_,_,rfl,hb,T.Jf8,T.Jg8,rfl,_,hDs,?_,_,rfl,?_,λc o z=>?_⟩
   ·rw [ye,ye,yaa];exact Jo6 (by omega)
   ·rw [Sn,yr,hB];simp
   ·rw [Jnc (Jnd z hD2)];exact sm3 _ _ z
  rintro σ H2 ⟨o,rfl,hD2s,sm3⟩;rw [ye,yad (by omega)] at hD2s;have s3:=s2.trans sm3;refine ⟨_,rfl,m,rfl,⟨_,Ss.of (s3 _ _ hm)⟩,λD3 hD3=>?_⟩;refine Joz (K:=K) (a:=m) (xs:=ts.map V.ref) (D:=D3) (λi σ H'=>∃o,σ= [o]/\H' D3=some (.lst (((Ts.take i).map (·.z)).map V.str))/\Si H2 H') ⟨_,rfl,Sn,Si.upd hD3⟩ (λi σ H' _ ⟨o,_,_,sm⟩=>Ss.of (sm _ _ (s3 _ _ hm))) ?_ ?_
  ·rintro i v σ H' hv ⟨o,rfl,hDs,sm4⟩;obtain ⟨ob,B,rfl,hB,dx,hb⟩:=(tl.same (s3.trans sm4)).get hv;refine Jor ⟨_,rfl,ob,_,dx,_,_,rfl,hb,T.Jfb,T.Jge,rfl,_,hDs,?_,_,rfl,?_,λc o z=>?_⟩
   ·rw [ye,ye,yaa];exact Jo6 (by omega)
   ·rw [Sn,yr,hB];simp
   ·rw [Jnc (Jnd z hD3)];exact sm4 _ _ z
  rintro σ H3 ⟨o,rfl,hD3s,sm4⟩;rw [ye,yad (by omega)] at hD3s;refine ⟨D3,Ts.map (·.z),rfl,Ss.of hD3s,by rw [ye];omega,λH4 s4=>⟨_,rfl,ifT (by rw [Ya3 nd,decide_eq_true rfl]) ?_⟩⟩;have s5:=(s3.trans sm4).trans s4;have hD24:=s4 _ _ (sm4 _ _ hD2s);refine ⟨_,rfl,m,rfl,⟨_,Ss.of (s5 _ _ hm)⟩,λD4 hD4=>?_⟩;refine Joz (K:=K) (a:=m) (xs:=ts.map V.ref) (D:=D4) (λi σ H'=>∃o,σ= [o,some (.ref D2)]/\H' D4=some (.lst ((yw i true).map V.bl))/\Si H4 H') ⟨_,rfl,Sn,Si.upd hD4⟩ (λi σ H' _ ⟨o,_,_,sm⟩=>Ss.of (sm _ _ (s5 _ _ hm))) ?_ ?_
  ·rintro i v σ H' hv ⟨o,rfl,hDs,sm6⟩;obtain ⟨ob,B,rfl,hB,dx,hb⟩:=(tl.same (s5.trans sm6)).get hv;have hi:i < ts.length:=by have:=(yj.mp hv).1;rwa [ye] at this
   refine Jor ⟨_,rfl,ob,_,dx,_,_,rfl,hb,T.Jfb,T.Jgf,rfl,_,rfl,D2,_,rfl,.inl (Ss.of (sm6 _ _ hD24)),rfl,by simp [Jqo],?_⟩;have e:inV (V.str B.b) ((Bs.map (·.z)).map V.str)=true:=by
    obtain ⟨z,hz,ez⟩:=yn.mp (inn B (yq hB));unfold inV;refine List.any_eq_true.mpr ⟨V.str z.z,yn.mpr ⟨z.z,yn.mpr ⟨z,hz,rfl⟩,rfl⟩,?_⟩;simp [eqV,ez]
   show ∃ys,_;rw [if_neg yai,e];refine ⟨_,hDs,?_,_,rfl,?_,λc o z=>?_⟩
   ·rw [ye,ycg];exact Jo6 (by omega)
   ·rw [Sn,List.replicate_succ',yag];rfl
   ·rw [Jnc (Jnd z hD4)];exact sm6 _ _ z
  rintro σ H5 ⟨o,rfl,hD4s,sm6⟩;refine ⟨D4,_,rfl,Ss.of hD4s,?_⟩;rw [show (yw (ts.map V.ref).length true).all id=true by simp];exact k _ (s5.trans sm6)
theorem Jsn:Jne ["self","thing"] ["self","thing"] (Jnb (Jni (top 7) 0)):=%[|0]
theorem Jvk (T:Tx K mg a):So P w K mg base CX0 1 a.Jhh a.Jhi ["self","thing"] (Jq7 K "thing"):=by
 refine %[T.Jd0.fn.ok,Jsn|2]
 ·obtain ⟨e,C,W,fI,y,rfl,_⟩:=h;rfl
 ·obtain ⟨e,C,W,fI,y,rfl,q,c,n,k⟩:=h;refine ⟨_,(Sy (Jq3 (pv 0) (pv 1) rfl)),?_⟩;exact ⟨_,rfl,_,rfl,e,C,W,fI,true,rfl,q,c,n,k⟩
theorem Jso:Jne ["self","thing"] ["self","thing"] (Jnb (Jni (top 8) 0)):=%[|0]
theorem Jvl (T:Tx K mg a):So P w K mg base CX0 1 a.Jhj a.Jhk ["self","thing"] (Jq7 K "thing"):=by
 refine %[T.Jd1.fn.ok,Jso|2]
 ·obtain ⟨e,C,W,fI,y,rfl,_⟩:=h;rfl
 ·obtain ⟨e,C,W,fI,y,rfl,q,c,n,k⟩:=h;refine ⟨_,(Sy (Jq3 (pv 0) (pv 1) rfl)),?_⟩;exact ⟨_,rfl,_,rfl,e,C,W,fI,true,rfl,q,c,n,k⟩
theorem Ya2 {H:Hp} {p q:S1} {o u:HO} (h:p≠q):upd (upd H p o) q u=upd (upd H q u) p o:=by
 funext c;by_cases h1:c=p
 ·subst h1;rw [Sn,Jnc h,Sn]
 ·rw [Jnc h1];by_cases h2:c=q
  ·subst h2;rw [Sn,Sn]
  ·rw [Jnc h2,Jnc h2,Jnc h1]
noncomputable def Ska (c g b t:V):List (Str×V):=[("cloud",c),("gain",g),("basins",b),("towns",t)]
inductive Yh9 (K:Sd) (a:Ad) (vs:List V) (H:Hp) (Q:VK) (z3:XK):Prop where
 |mk (p dx l m:S1) (c g:Int) (os ts:List S1) (Bs:List Bsn) (Ts:List Twn) (_:vs= [.ref p,.int c,.int g,.ref l,.ref m]) (_:H p=some (.ins a.Jn3 dx [])) (_:(0<=c/\c<=12)) (_:(0<=g/\g<=c)) (_:H l=some (.lst (os.map V.ref))) (_:Sc1 K a H os Bs) (_:(1<=Bs.length/\Bs.length<=16)) (_:(Bs.map (·.z)).Nodup) (_:H m=some (.lst (ts.map V.ref))) (_:Sca a H ts Ts) (_:Ts.length<=3) (_:(Ts.map (·.z)).Nodup) (_:(∀t∈Ts,t.b∈Bs.map (·.z))) (_:∀H' b t,Si H H'->H' b=some (.tup (os.map V.ref))->H' t=some (.tup (ts.map V.ref))->b≠p->t≠p->Q .non (upd H' p (.ins a.Jn3 dx (Ska (.int c) (.int g) (.ref b) (.ref t)))))
theorem Jqm {i lo hi:Int} (h1:lo<=i) (h2:i<=hi):Jnp (.int i) lo hi=true:=by
 show (decide (lo<=i)&&decide (i<=hi))=true;rw [decide_eq_true h1,decide_eq_true h2];rfl
theorem Ju4:Jne ["self","cloud","gain","basins","towns"] ["self","cloud","gain","basins","towns"] (Jnb (Jni (top 75) 0)):=%[|0]
theorem Jxj (T:Tx K mg a):So P w K mg base (CXX P w) 4 a.Jl3 a.Jl4 ["self","cloud","gain","basins","towns"] (Yh9 K a):=by
 have Sv:=%[Jon|1];have Sg1:=%[Jxk|1];have Sgk:=%[Jz3|1];have Sc3:=%[Jvk|1];have Sc4:=%[Jvl|1];refine %[T.Jdu.fn.okX,Ju4|2]
 ·obtain ⟨p,dx,l,m,c,g,os,ts,Bs,Ts,rfl,_⟩:=h;rfl
 ·obtain ⟨p,dx,l,m,c,g,os,ts,Bs,Ts,rfl,hp,hc,hg,hl,bl,hn,nd,hm,tl,tn,tnd,inn,k⟩:=h;refine ⟨?t,?B,?C⟩
  case B=>
   refine' Sw ?O0 ?O1
   case O0=>
    refine' Jo1 ?O2 ?O3 ?O4
    case O2=>exact (Jo0 (Jo2 (Jna T.J0 Sv hr (by decide) (Sj (pv 1) (Sj Sr (Sj (Joi (by rfl) T.Jap (v:=.int 12) ⟨_,rfl⟩) Sk))))))
    case O3=>
     refine' Sy ?O5
     case O5=>exact (Jog Jol rfl (Jp2 T.Je1 Sc3 hr (by decide) T.Jd0.bd T.Jbf (Sj (pv 1) Sk)))
    case O4=>exact Jnn
   case O1=>
   refine' Sw ?O6 ?O7
   case O6=>
    refine' Jo1 ?O8 ?O9 ?Oa
    case O8=>exact (Jo0 (Jo2 (Jna T.J0 Sv hr (by decide) (Sj (pv 2) (Sj Sr (Sj (pv 1) Sk))))))
    case O9=>
     refine' Sy ?Ob
     case Ob=>exact (Jog Jol rfl (Jp2 T.Je1 Sc3 hr (by decide) T.Jd0.bd T.Jbf (Sj (pv 2) Sk)))
    case Oa=>exact Jnn
   case O7=>
   refine' Sw ?Oc ?Od
   case Oc=>
    refine' Jo1 ?Oe ?Of ?Og
    case Oe=>exact (Jo0 (Jo2 (Jna T.Jx Sg1 hr (by decide) (Sj (pv 3) Sk))))
    case Of=>
     refine' Sy ?Oh
     case Oh=>exact (Jog Jol rfl (Jp2 T.Je2 Sc4 hr (by decide) T.Jd1.bd T.Jbg (Sj (pv 3) Sk)))
    case Og=>exact Jnn
   case Od=>
   refine' Sw ?Oi ?Oj
   case Oi=>
    refine' Jo1 ?Ok ?Ol ?Om
    case Ok=>exact (Jo0 (Jo2 (Jna T.Jy Sgk hr (by decide) (Sj (pv 4) (Sj (pv 3) Sk)))))
    case Ol=>
     refine' Sy ?On
     case On=>exact (Jog Jol rfl (Jp2 T.Je2 Sc4 hr (by decide) T.Jd1.bd T.Jbg (Sj (pv 4) Sk)))
    case Om=>exact Jnn
   case Oj=>
   refine' Sw ?Oo ?Op
   case Oo=>exact (Jod (pv 0) (pv 1) rfl)
   case Op=>
   refine' Sw ?Oq ?Or
   case Oq=>exact (Jod (pv 0) (pv 2) rfl)
   case Or=>
   refine' Sw ?Os ?Ot
   case Os=>exact (Jod (pv 0) (Jny Jof (by rfl) T.Jb8 Joo (Sj (pv 3) Sk)) rfl)
   case Ot=>
   refine' Sy ?Ou
   case Ou=>exact (Jod (pv 0) (Jny Jof (by rfl) T.Jb8 Joo (Sj (pv 4) Sk)) rfl)
  refine ⟨_,rfl,_,0,12,rfl,.inl ⟨_,rfl⟩,_,rfl,ifF (by rw [Jqm hc.1 hc.2];rfl) ?_⟩;refine ⟨_,rfl,_,rfl,_,0,c,rfl,.inl ⟨_,rfl⟩,_,rfl,ifF (by rw [Jqm hg.1 hg.2];rfl) ?_⟩;refine ⟨_,rfl,l,os,Bs,rfl,hl,bl,hn,nd,λH1 s1=>⟨_,rfl,Jok ?_⟩⟩;refine ⟨_,rfl,_,rfl,l,m,os,ts,Bs,Ts,rfl,s1 _ _ hl,bl.same s1,hn.2,s1 _ _ hm,tl.same s1,tn,tnd,inn,λH2 s2=>⟨_,rfl,Jok ?_⟩⟩;have s3:=s1.trans s2;have hp2:=s3 _ _ hp;refine ⟨_,rfl,_,rfl,p,_,dx,[],rfl,hp2,T.Jfe,T.Jgh,by simp,?_⟩;rw [show Jom "cloud" (.int c) []=([("cloud",.int c)]:List (Str×V)) from rfl];refine ⟨_,rfl,_,rfl,p,_,dx,_,rfl,Sn,T.Jfe,T.Jgi,by simp,?_⟩;rw [show Jom "gain" (.int g) [("cloud",.int c)]=([("cloud",.int c),("gain",.int g)]:List (Str×V)) from Jo5 (fs:=[("cloud",.int c)]) (show (["cloud"]:List Str).contains "gain" =false by decide +kernel),Jp8];have nl:l≠p:=λe=>by subst e;rw [hl] at hp;cases hp
  have nm:m≠p:=λe=>by subst e;rw [hm] at hp;cases hp
  refine ⟨_,rfl,l,_,rfl,.inl ⟨Ss.of (by rw [Jnc nl];exact s3 _ _ hl),λb hb=>?_⟩⟩;have nb:b≠p:=λe=>by subst e;rw [Sn] at hb;cases hb
  rw [Jnc nb] at hb;rw [Ya2 nb.symm];refine ⟨_,rfl,p,_,dx,_,rfl,Sn,T.Jfe,T.Jgj,by simp,?_⟩;rw [show Jom "basins" (.ref b) [("cloud",.int c),("gain",.int g)]=([("cloud",.int c),("gain",.int g),("basins",.ref b)]:List (Str×V)) from Jo5 (fs:=[("cloud",.int c),("gain",.int g)]) (show (["cloud","gain"]:List Str).contains "basins" =false by decide +kernel),Jp8];have s4:=s3.trans (Si.upd (o:=.tup (os.map V.ref)) hb);refine ⟨_,rfl,m,_,rfl,.inl ⟨Ss.of (by rw [Jnc nm];exact s4 _ _ hm),λt ht=>?_⟩⟩;have nt:t≠p:=λe=>by subst e;rw [Sn] at ht;cases ht
  rw [Jnc nt] at ht;rw [Ya2 nt.symm];refine ⟨_,rfl,p,_,dx,_,rfl,Sn,T.Jfe,T.Jgk,by simp,?_⟩;rw [show Jom "towns" (.ref t) [("cloud",.int c),("gain",.int g),("basins",.ref b)]=(Ska (.int c) (.int g) (.ref b) (.ref t)) from Jo5 (fs:=[("cloud",.int c),("gain",.int g),("basins",.ref b)]) (show (["cloud","gain","basins"]:List Str).contains "towns" =false by decide +kernel),Jp8];have s5:=Si.upd (o:=.tup (ts.map V.ref)) ht;exact k _ b t (s4.trans s5) (s5 _ _ Sn) Sn nb nt
noncomputable def wl:List V->List Int->List Int->List Bool
 |v::vs,l::ls,h::hs=>Jnp v l h::wl vs ls hs
 |_,_,_=>[]
theorem Yfq:∀{vs:List V} {ls hs:List Int},vs.length=ls.length->ls.length=hs.length->(wl vs ls hs).length=vs.length
 | [],_,_,_,_=>rfl
 |_::_,[],_,e,_=>by simp at e
 |_::_,_::_,[],_,e=>by simp at e
 |_::vs,_::ls,_::hs,e1,e2=>by
  show (wl vs ls hs).length+1=vs.length+1;rw [Yfq (by simpa using e1) (by simpa using e2)]
theorem Ybe:∀{vs:List V} {ls hs:List Int} {i:Nat} {v x y:V},vs[i]?=some v->(ls.map V.int)[i]?=some x->(hs.map V.int)[i]?=some y->∃l h,x= .int l/\y= .int h/\(wl vs ls hs)[i]?=some (Jnp v l h)
 |_::_,l::_,h::_,0,v,x,y,e1,e2,e3=>⟨l,h,by simpa using e2.symm,by simpa using e3.symm,by cases e1;rfl⟩
 |_::vs,_::ls,_::hs,i+1,v,x,y,e1,e2,e3=>by
  obtain ⟨l,h,a1,a2,a3⟩:=Ybe (vs:=vs) (ls:=ls) (hs:=hs) (i:=i) (v:=v) (x:=x) (y:=y) (by simpa using e1) (by simpa using e2) (by simpa using e3);exact ⟨l,h,a1,a2,a3⟩
 | [],_,_,_,_,_,_,e,_,_=>by simp at e
 |_::_,[],_,_,_,_,_,_,e,_=>by simp at e
 |_::_,_::_,[],_,_,_,_,_,_,e=>by simp at e
noncomputable def Shh (K:Sd) (H:Hp) (x:V):Option (List V)->Prop
 |some vs=>∃p,x= .ref p/\H p=some (.tup vs)/\(∀v∈vs,Tm K H v)/\vs.length<=40
 |none=>∃t,TyX K H x t/\Se K t (.type "tuple")=some false
theorem Shh.same {K:Sd} {H H':Hp} {x:V} (s:Si H H'):∀{r:Option (List V)},Shh K H x r->Shh K H' x r
 |some _,⟨p,e,h1,h2,h3⟩=>⟨p,e,s _ _ h1,λv hv=>(h2 v hv).same s,h3⟩
 |none,⟨t,h1,h2⟩=>⟨t,Jw9 s h1,h2⟩
noncomputable def Yv:Option (List V)->List Int->List Int->Bool
 |some vs,ls,hs=>decide (vs.length=ls.length)&&(wl vs ls hs).all id
 |none,_,_=>false
inductive Ssd (K:Sd) (vs:List V) (H:Hp) (Q:VK) (z3:XK):Prop where
 |mk (x:V) (r:Option (List V)) (l m:S1) (ls hs:List Int) (_:vs= [x,.ref l,.ref m]) (_:Shh K H x r) (_:H l=some (.lst (ls.map V.int))) (_:H m=some (.lst (hs.map V.int))) (_:ls.length=hs.length) (_:ls.length<=40) (_:∀H',Si H H'->Q (.bl (Yv r ls hs)) H')
noncomputable def Yek:Option (List V)->Bool
 |some vs=>decide (vs.length=2)
 |none=>false
inductive Sod (K:Sd) (vs:List V) (H:Hp) (Q:VK) (z3:XK):Prop where
 |mk (x:V) (r:Option (List V)) (_:vs= [x]) (_:(match r with|some vs=>∃p,x= .ref p/\H p=some (.tup vs)|none=>∃t,TyX K H x t/\Se K t (.type "tuple")=some false)) (_:Q (.bl (Yek r)) H)
theorem Yfm {i j k:Nat} {T:S1} {x y u:V} {σ:L2.St} {H:Hp} {A B:L2.St->Hp->Prop} (hT:Su K H T [x,y,u]) (h:A (((σ.set i (some x)).set j (some y)).set k (some u)) H):
  Sk6 K 3 (Jv4 (Jq5 i) (Jv4 (Jq5 j) (Jv4 (Jq5 k) Smq))) (.ref T) σ H λσ3 H3=>Jzo σ3 H3 λb H4=>if b=true then A σ3 H4 else B σ3 H4:=by
 refine ⟨T,_,rfl,hT,rfl,_,_,rfl,_,_,rfl,_,_,rfl,rfl,?_⟩;show if true=true then A (((σ.set i (some x)).set j (some y)).set k (some u)) H else B (((σ.set i (some x)).set j (some y)).set k (some u)) H
 rw [if_pos rfl];exact h
theorem Ycx:Jne ["thing","lows","highs"] ["thing","lows","highs"] (Jnb (top 20)):=%[|0]
theorem Ycq (T:Tx K mg a):So P w K mg base CX0 2 a.Jhz a.Ji0 ["thing","lows","highs"] (Ssd K):=by
 have Sv:=%[Jon|1];refine %[T.J3.fn.ok,Ycx|2]
 ·obtain ⟨x,r,l,m,ls,hs,rfl,_⟩:=h;rfl
 ·obtain ⟨x,r,l,m,ls,hs,rfl,rt,hl,hm,e1,e2,k⟩:=h;refine ⟨?t,?B,?C⟩
  case B=>
   refine' Sw ?O0 ?O1
   case O0=>
    refine' Jo1 ?O2 ?O3 ?O4
    case O2=>exact (PW.pt (Js0 (Jo0 (Jo2 (Jng Jop (by rfl) T.Jax Jnr (Sj (pv 0) (Sj (Jp6 (v:=.ty "tuple") (by rfl) T.Jb8 Joo rfl) Sk))))) (Js1 (Jo9 Ym (Jng Jnm (by rfl) T.Jay Joh (Sj (pv 0) Sk)) (Jng Jnm (by rfl) T.Jay Joh (Sj (pv 1) Sk)) (Joc _)))))
    case O3=>
     refine' Sy ?O5
     case O5=>exact (Jnh Joy)
    case O4=>exact Jnn
   case O1=>
   refine' Sy ?O6
   case O6=>exact (Jnh (Jng (Jqy rfl) (by rfl) T.Jas Juf (Sj (Jnx (N:=(["number","low","high"]:List Str)) (ini:=[none,none,none]) rfl (Yby true false false (by rfl) T.Jb9 (Sj (pv 0) (Sj (pv 1) (Sj (pv 2) Sk)))) (λ_ _ _ _ _=>(Jra (K:=K) (n:=3) rfl rfl (Jnq (Jnf (i:=0) (by decide +kernel:(["number","low","high"]:List Str).Nodup) rfl (yf rfl)) (Jnq (Jnf (i:=1) (by decide +kernel:(["number","low","high"]:List Str).Nodup) rfl (yf rfl)) (Jnq (Jnf (i:=2) (by decide +kernel:(["number","low","high"]:List Str).Nodup) rfl (yf rfl)) Jp4))))) (λ_ _ _ _ _=>Jnw) (λ_ _ _ _ _=>(Jna T.J0 Sv hr (by decide) (Sj (pv 0) (Sj (pv 1) (Sj (pv 2) Sk)))))) Sk)))
  cases r with
  |none=>
   obtain ⟨t,ty,ek⟩:=rt;refine ⟨_,rfl,x,_,_,t,_,rfl,rfl,ty,ek,_,rfl,Jp0 ?_⟩;refine Jp0 ?_;exact k _ (λ_ _ h=>h)
  |some vs=>
   obtain ⟨p,rfl,hp,tms,hn⟩:=rt;refine ⟨_,rfl,_,_,_,.type "tuple",true,rfl,rfl,.of (.tup hp),rfl,_,rfl,Jok ?_⟩;refine ⟨_,rfl,p,_,rfl,.inr (Su.of hp),_,rfl,l,_,rfl,.inl (Ss.of hl),rfl,?_⟩;by_cases en:vs.length=ls.length
   ·refine ⟨_,rfl,ifF (by simp [en]) ?_⟩;refine ⟨_,rfl,_,rfl,_,rfl,p,l,m,rfl,⟨_,Su.of hp⟩,⟨_,Ss.of hl⟩,⟨_,Ss.of hm⟩,λD hD=>?_⟩;have s0:=Si.upd (o:=.lst []) hD;refine Jy6 (K:=K) (l1:=p) (l2:=l) (l3:=m) (b1:=true) (b2:=false) (b3:=false) (xs:=vs) (ys:=ls.map V.int) (us:=hs.map V.int) (D:=D) (λi σ H'=>(∃o1 o2 o3,σ= [o1,o2,o3])/\H' D=some (.lst (((wl vs ls hs).take i).map V.bl))/\Si H H') ⟨⟨_,_,_,rfl⟩,Sn,s0⟩ (λi σ H' _ ⟨_,_,sm⟩=>⟨Su.of (sm _ _ hp),Ss.of (sm _ _ hl),Ss.of (sm _ _ hm)⟩) (by rw [ye];exact en) (by rw [ye];omega) ?_ ?_
    ·rintro i x y u σ H' Ta hx hy hu ⟨⟨o1,o2,o3,rfl⟩,hDs,sm⟩ hT;obtain ⟨lo,hi,rfl,rfl,ew⟩:=Ybe hx hy hu;have sT:=Si.upd (o:=.tup [x,.int lo,.int hi]) hT;have hi':i < vs.length:=(yj.mp hx).1;refine Yfm (Su.of Sn) ⟨_,rfl,_,rfl,_,rfl,_,lo,hi,rfl,(tms _ (yq hx)).same (sm.trans sT),_,sT _ _ hDs,?_,⟨_,_,_,rfl⟩,?_,?_⟩
     ·rw [ye,yaa];exact Jo6 (by omega)
     ·rw [Sn,yr,ew];simp
     ·intro c o z;rw [Jnc (Jnd z hD)];exact sT _ _ (sm _ _ z)
    rintro σ H1 ⟨_,hDs,sm⟩;rw [yad (by rw [Yfq en e1];omega)] at hDs;refine ⟨D,_,rfl,Ss.of hDs,?_⟩;have e:Yv (some vs) ls hs=(wl vs ls hs).all id:=by
     show (decide (vs.length=ls.length)&&_)=_;rw [decide_eq_true en,Bool.true_and]
    rw [<-e];exact k _ sm
   ·refine ⟨_,rfl,ifT (by simp;omega) ?_⟩;have e:Yv (some vs) ls hs=false:=by
     show (decide (vs.length=ls.length)&&_)=_;rw [decide_eq_false en,yco]
    rw [e] at k;exact k _ (λ_ _ h=>h)
theorem Yb5:Jne ["thing"] ["thing"] (Jnb (top 21)):=%[|0]
theorem Yat (T:Tx K mg a):So P w K mg base CX0 1 a.Ji1 a.Ji2 ["thing"] (Sod K):=by
 refine %[T.J4.fn.ok,Yb5|2]
 ·obtain ⟨x,r,rfl,_⟩:=h;rfl
 ·obtain ⟨x,r,rfl,rt,k⟩:=h;refine ⟨?t,?B,?C⟩
  case B=>
   refine' Sy ?O0
   case O0=>exact (Jnh (Jt9 (Jng Jop (by rfl) T.Jax Jnr (Sj (pv 0) (Sj (Jp6 (v:=.ty "tuple") (by rfl) T.Jb8 Joo rfl) Sk))) (Jrz (Jqr Jrh (Jng Jnm (by rfl) T.Jay Joh (Sj (pv 0) Sk)) Sr (Joc _)))))
  cases r with
  |none=>
   obtain ⟨t,ty,ek⟩:=rt;refine ⟨_,rfl,x,_,_,t,_,rfl,rfl,ty,ek,_,rfl,?_⟩;exact Jok k
  |some vs=>
   obtain ⟨p,rfl,hp⟩:=rt;refine ⟨_,rfl,_,_,_,.type "tuple",true,rfl,rfl,.of (.tup hp),rfl,_,rfl,Jp0 ?_⟩;refine ⟨_,rfl,p,_,rfl,.inr (Su.of hp),rfl,?_⟩;have e:decide (V.int (vs.length:Nat)=V.int 2)=Yek (some vs):=by
    show _=decide (vs.length=2);by_cases h:vs.length=2
    ·rw [decide_eq_true h,decide_eq_true (by rw [h];rfl)]
    ·rw [decide_eq_false h,decide_eq_false (λq=>h (by have:=V.int.inj q;omega))]
   rw [e];exact k
structure Riv where
 c:Int
 g:Int
 Bs:List Bsn
 Ts:List Twn
inductive Sal (K:Sd) (a:Ad) (H:Hp) (o:S1) (R:Riv):Prop where
 |mk (dx b t:S1) (os ts:List S1) (_:H o=some (.ins a.Jn3 dx (Ska (.int R.c) (.int R.g) (.ref b) (.ref t)))) (_:H b=some (.tup (os.map V.ref))) (_:Sc1 K a H os R.Bs) (_:H t=some (.tup (ts.map V.ref))) (_:Sca a H ts R.Ts) (_:R.Bs.length<=16/\R.Ts.length<=3/\∀B∈R.Bs,0<=B.rn/\B.rn<=6)
theorem Sal.same {K:Sd} {a:Ad} {H H':Hp} {o:S1} {R:Riv} (s:Si H H') (h:Sal K a H o R):Sal K a H' o R:=
 let ⟨dx,b,t,os,ts,h1,h2,h3,h4,h5,h6⟩:=h
 ⟨dx,b,t,os,ts,s _ _ h1,s _ _ h2,h3.same s,s _ _ h4,h5.same s,h6⟩
inductive Pr where
 |no
 |oth (vs:List V)
 |two (u w:V) (r:Option (List V))
noncomputable def PrT (K:Sd) (H:Hp) (x:V):Pr->Prop
 | .no=>∃t,TyX K H x t/\Se K t (.type "tuple")=some false
 | .oth vs=>∃p,x= .ref p/\H p=some (.tup vs)/\vs.length≠2
 | .two u w r=>∃p,x= .ref p/\H p=some (.tup [u,w])/\Shh K H u r/\Tm K H w
noncomputable def stB (R:Riv):Pr->Bool
 | .two _ w r=>Jnp w 0 R.c&&Yv r (R.Bs.map (·.lo)) (R.Bs.map (·.hi))
 |_=>false
inductive Yba (K:Sd) (a:Ad) (vs:List V) (H:Hp) (Q:VK) (z3:XK):Prop where
 |mk (o:S1) (R:Riv) (x:V) (r:Pr) (_:vs= [.ref o,x]) (_:Sal K a H o R) (_:PrT K H x r) (_:∀H',Si H H'->Q (.bl (stB R r)) H')
theorem Jx6:Jne ["river","thing"] ["river","thing"] (Jnb (top 22)):=%[|0]
theorem Jwu (T:Tx K mg a):So P w K mg base CX0 3 a.Ji3 a.Ji4 ["river","thing"] (Yba K a):=by
 have Siy:=%[Ycq|1];have Shy:=%[Yat|1];have Sv:=%[Jon|1];refine %[T.J5.fn.ok,Jx6|2]
 ·obtain ⟨o,R,x,r,rfl,_⟩:=h;rfl
 ·obtain ⟨o,R,x,r,rfl,ro,rx,k⟩:=h;refine ⟨?t,?B,?C⟩
  case B=>
   refine' Sw ?O0 ?O1
   case O0=>
    refine' Jo1 ?O2 ?O3 ?O4
    case O2=>exact (PW.pt (Js0 (Jo0 (Jo2 (Jna T.J4 Shy hr (by decide) (Sj (pv 1) Sk)))) (Js1 (Jo0 (Jo2 (Jna T.J0 Sv hr (by decide) (Sj (Jno Jns (pv 1) Sr (λ_ _=>rfl)) (Sj Sr (Sj (Jnl (pv 0) (by rfl)) Sk)))))))))
    case O3=>
     refine' Sy ?O5
     case O5=>exact (Jnh Joy)
    case O4=>exact Jnn
   case O1=>
   refine' Sy ?O6
   case O6=>exact (Jnh (Jna T.J3 Siy hr (by decide) (Sj (Jno Jns (pv 1) Sr (λ_ _=>rfl)) (Sj (Jnx (N:=(["basin"]:List Str)) (ini:=[none]) rfl (Jrb (Jnl (pv 0) (by rfl))) (λ_ _ _ _ _=>(Jnf (i:=0) (by decide +kernel:(["basin"]:List Str).Nodup) rfl (yf rfl))) (λ_ _ _ _ _=>Jnw) (λ_ _ _ _ _=>(Jp3 (K:=K) rfl (pv 0) (by rfl)))) (Sj (Jnx (N:=(["basin"]:List Str)) (ini:=[none]) rfl (Jrb (Jnl (pv 0) (by rfl))) (λ_ _ _ _ _=>(Jnf (i:=0) (by decide +kernel:(["basin"]:List Str).Nodup) rfl (yf rfl))) (λ_ _ _ _ _=>Jnw) (λ_ _ _ _ _=>(Jp3 (K:=K) rfl (pv 0) (by rfl)))) Sk)))))
  cases r with
  |no=>
   refine ⟨_,rfl,x,none,rfl,rx,_,rfl,Jp0 ?_⟩;exact Jp0 (k _ λ_ _ h=>h)
  |oth vs=>
   obtain ⟨p,rfl,hp,ne⟩:=rx;refine ⟨_,rfl,_,some vs,rfl,⟨p,rfl,hp⟩,_,rfl,ifT (by rw [show Yek (some vs)=false from decide_eq_false ne];rfl) ?_⟩;exact Jp0 (k _ λ_ _ h=>h)
  |two u y r=>
   obtain ⟨p,rfl,hp,rt,ty⟩:=rx;obtain ⟨dx,b,t,os,ts,ho,hb,bl,ht,tl,n1,n2,n3⟩:=ro;refine ⟨_,rfl,_,some [u,y],rfl,⟨p,rfl,hp⟩,_,rfl,Jok ?_⟩;refine ⟨_,rfl,p,_,1,y,rfl,rfl,Su.of hp,rfl,_,rfl,o,_,dx,_,_,rfl,ho,T.Jfe,T.Jgh,rfl,y,0,R.c,rfl,ty,_,rfl,?_⟩;cases ew:Jnp y 0 R.c with
   |false=>
    have e:stB R (.two u y r)=false:=by
     show (Jnp y 0 R.c&&_)=false;rw [ew,yco]
    rw [e] at k;exact Jp0 (k _ λ_ _ h=>h)
   |true=>
    have e:stB R (.two u y r)=Yv r (R.Bs.map (·.lo)) (R.Bs.map (·.hi)):=by
     show (Jnp y 0 R.c&&_)=_;rw [ew,Bool.true_and]
    rw [e] at k;have len:=bl.len;refine Jok ⟨_,rfl,p,_,0,u,rfl,rfl,Su.of hp,rfl,?_⟩;refine ⟨_,rfl,o,_,dx,_,_,rfl,ho,T.Jfe,T.Jgj,rfl,b,rfl,⟨_,Su.of hb⟩,λD hD=>?_⟩;refine Jr3 ((R.Bs.map (·.lo)).map V.int) hD (by simp [len]) (by rw [ye];omega) hb ?_ ?_
    ·intro i x y H' Q' hx hy sm k';obtain ⟨ob,B,rfl,hB,dx,hb,gs⟩:=(bl.same sm).get hx;rw [yi,yi,hB] at hy;cases hy;exact ⟨_,rfl,ob,_,dx,_,_,rfl,hb,T.Jf8,T.Jg9,rfl,k' _ λ_ _ h=>h⟩
    intro H1 s1 hD1;refine ⟨_,rfl,o,_,dx,_,_,rfl,s1 _ _ ho,T.Jfe,T.Jgj,rfl,b,rfl,⟨_,Su.of (s1 _ _ hb)⟩,λD2 hD2=>?_⟩;refine Jr3 ((R.Bs.map (·.hi)).map V.int) hD2 (by simp [len]) (by rw [ye];omega) (s1 _ _ hb) ?_ ?_
    ·intro i x y H' Q' hx hy sm k';obtain ⟨ob,B,rfl,hB,dx,hb,gs⟩:=(bl.same (s1.trans sm)).get hx;rw [yi,yi,hB] at hy;cases hy;exact ⟨_,rfl,ob,_,dx,_,_,rfl,hb,T.Jf8,T.Jga,rfl,k' _ λ_ _ h=>h⟩
    intro H2 s2 hD3;exact ⟨u,r,D,D2,_,_,rfl,rt.same (s1.trans s2),s2 _ _ hD1,hD3,by simp,by rw [ye];omega,λH3 s3=>k _ ((s1.trans s2).trans s3)⟩
theorem Ydo (xs:List V) (k:Nat) (h:k<=xs.length):Jqt xs none (some (k:Int))=xs.take k:=by
 unfold Jqt;rw [HT.sIx_none,HT.sIx_nat];simp [ybt h]
theorem Y4 (xs:List V) (k:Nat) (h:k<=xs.length):Jqt xs (some (k:Int)) none=xs.drop k:=by
 unfold Jqt;rw [HT.sIx_none,HT.sIx_nat,ybt h];exact yad (by rw [ybj];exact yg _)
theorem Ydh {xs:List V} {r:Int} (h0:0<=r) (h1:r < xs.length):∃v,v∈xs/\atI xs r=some v:=by
 obtain ⟨n,rfl⟩:=ybs h0;have hn:n < xs.length:=by omega
 exact ⟨xs[n],yaq hn,Jsb (yh hn)⟩
theorem Jpx {i:Int} (h:i.natAbs<=1000):i.natAbs.log2 < 9000:=Nat.lt_of_le_of_lt (Nat.log2_le_self _) (by omega)
noncomputable def one (c:Nat):Str:=⟨#[c]⟩
theorem Jsd (cs:List Nat):(Txt.join ("" :Str) (cs.map one)).cps.toList=cs:=by
 have e1:Txt.join ("" :Str) (cs.map one)=Str.join ("" :Str) (cs.map one):=beq_iff_eq.mp (join_plain_closes ("" :Str) _);rw [e1]
 induction cs with
 |nil=>rfl
 |cons c r ih=>
  cases r with
  |nil=>rfl
  |cons d r'=>
   have e:Str.join ("" :Str) ((c::d::r').map one)=one c++("" :Str)++Str.join ("" :Str) ((d::r').map one):=rfl;rw [e];have a:∀x y:Str,(x++y).cps.toList=x.cps.toList++y.cps.toList:=λx y=>by
    show (x.cps++y.cps).toList=_;exact Array.toList_append
   rw [a,a,ih (beq_iff_eq.mp (join_plain_closes ("" :Str) _))];have z:("" :Str).cps.toList= []:=by decide +kernel
   rw [z];rfl
theorem Yfi (cs:List Nat):((cs.map one).map (·.length)).sum=cs.length:=by
 induction cs with
 |nil=>rfl
 |cons c r ih=>
  rw [yan,yan,List.sum_cons,ih,yaf];show 1+_=_;omega
structure Ltr (n:Nat) (z:Str):Prop where
 len:z.length<=n
 inn:∀c∈z.cps.toList,c∈LET.cps.toList
theorem Ltr.wd {n:Nat} {z:Str} (a:Ltr n z):Wd n z:=⟨a.len,λc hc=>Sp2.low c (a.inn c hc)⟩
theorem Yga {i j:Int} {c:Nat} (i0:0<=i) (i1:i < 26) (j0:0<=j) (j1:j < 26) (hi:atI LET.cps.toList i=some c) (hj:atI LET.cps.toList j=some c):i=j:=by
 have all:(yav 26).all (λp=>(yav 26).all λq=>decide (p=q)||!decide (atI LET.cps.toList (p:Int)=atI LET.cps.toList (q:Int)))=true:=by decide +kernel
 obtain ⟨p,rfl⟩:=ybs i0;obtain ⟨q,rfl⟩:=ybs j0;have h1:=yaz.mp all p (ybu.mpr (by omega));have h2:=yaz.mp h1 q (ybu.mpr (by omega));rw [hi,hj] at h2;have h3:p=q:=by simpa using h2
 rw [h3]
noncomputable def NmK (f:Int) (n:Nat) (k:Nat) (z:Str):Prop:=1<=z.cps.toList.length/\z.cps.toList.length<=8/\(∀c∈z.cps.toList,c∈LET.cps.toList)/\∃c,atI LET.cps.toList ((f+(k:Int))%26)=some c/\z.cps.toList[n]?=some c
noncomputable def Nms (zs:List Str):Prop:=zs.Nodup/\∀z∈zs,Jrf z=true/\Ltr 8 z
theorem Sn8 {f:Int} {n:Nat} {zs:List Str} (hl:zs.length<=26) (h:∀(k:Nat) z,zs[k]?=some z->NmK f n k z):Nms zs:=by
 refine ⟨List.pairwise_iff_getElem.mpr λi j hi hj lt e=>?_,λz hz=>?_⟩
 ·obtain ⟨_,_,_,c,h1,h2⟩:=h i _ (yh hi);obtain ⟨_,_,_,d,h3,h4⟩:=h j _ (yh hj);rw [e,h4] at h2;cases h2;have:=Yga (by omega) (by omega) (by omega) (by omega) h1 h3;omega
 ·obtain ⟨k,hk⟩:=ybk hz;obtain ⟨h1,h2,h3,_⟩:=h k z hk;have el:z.length=z.cps.toList.length:=by rw [ybv];rfl
  refine ⟨?_,by omega,h3⟩;unfold Jrf Jxw;rw [yap];exact ⟨decide_eq_true (by omega),yaz.mpr λd hd=>decide_eq_true (h3 d hd)⟩
inductive Yh5 (vs:List V) (H:Hp) (Q:VK) (z3:XK):Prop where
 |mk (p:S1) (m:Nat) (_:vs= [.ref p,.int m]) (_:Sc9 H p) (_:m<=26) (_:∀(l:S1) (zs:List Str) (H':Hp),H l=none->But p H H'->H' l=some (.lst (zs.map V.str))->zs.length=m->Nms zs->Q (.ref l) H')
theorem Sb5:Jne ["_law_stream_here","_law_many","_law_letters","_law_size","_law_at","_law_base","_law_first"] ["_law_stream_here","_law_many"] (Jnb (top 80)):=%[|0]
theorem Jtv (T:Tx K mg a):So P w K mg base CX0 2 a.Jlf a.Jlg ["_law_stream_here","_law_many"] Yh5:=by
 have Sl:=%[Jpr|1];refine %[T.Ja2.fn.ok,Sb5|2]
 ·obtain ⟨p,m,rfl,_⟩:=h;rfl
 ·obtain ⟨p,m,rfl,st,hm,k⟩:=h;refine ⟨?t,?B,?C⟩
  case B=>
   refine' Sw ?O0 ?O1
   case O0=>exact (Jnk (i:=2) Sb5.nd rfl (yak rfl) Jpf)
   case O1=>
   refine' Sw ?O2 ?O3
   case O2=>exact (Jnk (i:=3) Sb5.nd rfl (yf rfl) (Jnj Jnv Sr (Jna T.Ja1 Sl hr (by decide) (Sj (pv 0) (Sj Sr Sk)))))
   case O3=>
   refine' Sw ?O4 ?O5
   case O4=>exact (Jnk (i:=4) Sb5.nd rfl (yak rfl) (Jna T.Ja1 Sl hr (by decide) (Sj (pv 0) (Sj (pv 3) Sk))))
   case O5=>
   refine' Sw ?O6 ?O7
   case O6=>exact (Jnk (i:=5) Sb5.nd rfl (yak rfl) (Jnx (N:=(["_law_k","_law_letters","_law_stream_here"]:List Str)) (ini:=[none,some 2,some 0]) rfl (Jpe (by rfl) T.Jb2 (Sj (pv 3) Sk)) (λ_ _ _ _ _=>(Jnf (i:=0) (by decide +kernel:(["_law_k","_law_letters","_law_stream_here"]:List Str).Nodup) rfl (yf rfl))) (λ_ _ _ _ _=>Jnw) (λ_ _ _ _ _=>(Jno Ye8 (pv 1) (Jna T.Ja1 Sl hr (by decide) (Sj (pv 2) (Sj Sr Sk))) (λ_ _=>rfl)))))
   case O7=>
   refine' Sw ?O8 ?O9
   case O8=>exact (Jnk (i:=6) Sb5.nd rfl (yak rfl) (Jna T.Ja1 Sl hr (by decide) (Sj (pv 0) (Sj Sr Sk))))
   case O9=>
   refine' Sy ?Oa
   case Oa=>exact (Jnh (Jnx (N:=(["_law_k","_law_base","_law_at","_law_letters","_law_first"]:List Str)) (ini:=[none,some 5,some 4,some 2,some 6]) rfl (Jpe (by rfl) T.Jb2 (Sj (pv 1) Sk)) (λ_ _ _ _ _=>(Jnf (i:=0) (by decide +kernel:(["_law_k","_law_base","_law_at","_law_letters","_law_first"]:List Str).Nodup) rfl (yf rfl))) (λ_ _ _ _ _=>Jnw) (λ_ _ _ _ _=>(Snc (K:=K) rfl F.plainAttrs_str F.slot_str_join F.type_str_join (Yei (K:=K) rfl) Jpf (Sj (Jnj Jt8 (Jnj Jt8 (Jpj (Ju8 (K:=K) rfl) (pv 1) Jsi (Jp7 (pv 2))) (Jo3 (Sj (Jno Ye8 (pv 3) (Jnj Jpn (Jnj Jnv (pv 4) (pv 0)) Sr) (λ_ _=>rfl)) Sk))) (Jpj (Ju8 (K:=K) rfl) (pv 1) (Jp7 (Jnj Jnv (pv 2) Sr)) Jsi)) Sk)))))
  refine ⟨_,rfl,p,8,rfl,st,by decide,by decide,λsz H1 z0 z1 b1=>⟨_,_,rfl,rfl,?_⟩⟩;refine ⟨_,rfl,_,rfl,p,_,rfl,b1.2,by omega,Jpx (by omega),λat_ H2 a0 a1 b2=>?_⟩;have b12:=b1.trans b2;refine ⟨_,rfl,_,rfl,by omega,by omega,λD hD=>?_⟩;have neD:D≠p:=b12.2.ne hD;refine Jsz (D:=D) (λi σ H'=>∃(o:Option V) (cs:List Nat),σ= [o,some (.str LET),some (.ref p)]/\H' D=some (.lst (cs.map sgn))/\cs.length=i/\(∀c∈cs,c∈LET.cps.toList)/\But p H2 H')
   ?_ ?_ ?_
  ·exact ⟨none,[],rfl,Sn,rfl,(λy hy=>absurd hy (by simp)),But.of b12.2 (Si.upd hD)⟩
  ·rintro i σ H' hi ⟨o,cs,rfl,hDs,hl,hw,b⟩;refine Jor ⟨_,rfl,_,rfl,p,26,rfl,b.2,by decide,by decide,λr H3 r0 r1 b3=>?_⟩;obtain ⟨c,hc,hat⟩:=Ydi (g:=LET) r0 (by
    have:LET.length=26:=by decide +kernel
    omega)
   refine ⟨LET,r,c,rfl,rfl,Job _ (by decide +kernel),hat,cs.map sgn,b3.1 D _ neD hDs,?_,_,cs++ [c],rfl,?_,?_,?_,(b.trans b3).new hD b12.2⟩
   ·rw [ye];exact Jo6 (by omega)
   ·rw [Sn,yag];rfl
   ·rw [yab];show cs.length+1=i+1;omega
   ·intro y hy;rcases yay.mp hy with hy|hy
    ·exact hw y hy
    ·rw [yal.mp hy];exact hc
  rintro σ H3 ⟨o,cs,rfl,hDs,hl,hw,b3⟩;have hl':cs.length=(1+sz).toNat:=hl;have b13:=b12.trans b3;refine ⟨_,rfl,p,26,rfl,b13.2,by decide,by decide,λf H4 f0 f1 b4=>?_⟩;have hD4:=b4.1 _ _ neD hDs;have b14:=b13.trans b4;obtain ⟨n,rfl⟩:=ybs a0;have hn:n < cs.length:=by omega
  have e1:Jqt (cs.map sgn) none (some (n:Int))=(cs.take n).map sgn:=by rw [Ydo _ n (by rw [ye];omega),List.map_take]
  have e2:Jqt (cs.map sgn) (some ((n:Int)+1)) none=(cs.drop (n+1)).map sgn:=by rw [show ((n:Int)+1)=((n+1:Nat):Int) from rfl,Y4 _ (n+1) (by rw [ye];omega),List.map_drop]
  refine ⟨_,rfl,_,rfl,by omega,by omega,λD2 hD2=>?_⟩;have s4:=Si.upd (o:=.lst []) hD2;refine Jsz (D:=D2) (λi σ H'=>∃(o:Option V) (zs:List Str),σ= [o,some (.ref D),some (.int n),some (.str LET),some (.int f)]/\H' D2=some (.lst (zs.map V.str))/\zs.length=i/\(∀(k:Nat) z,zs[k]?=some z->NmK f n k z)/\Si H4 H') ?_ ?_ ?_
  ·exact ⟨_,[],rfl,Sn,rfl,(λk z e=>by simp at e),s4⟩
  ·rintro i σ H' hi ⟨o,zs,rfl,hDs2,hzl,hz,sm⟩;obtain ⟨c,hc,hat⟩:=Ydi (g:=LET) (r:=(f+(0+(i:Int)))%26) (by omega) (by
    have:LET.length=26:=by decide +kernel
    omega)
   have hD':=sm _ _ hD4;refine Jor ?_;refine ⟨rfl,_,rfl,_,rfl,_,rfl,D,_,rfl,Ss.of hD',λq1 hq1=>?_⟩;rw [e1];have t1:=Si.upd (o:=.lst ((cs.take n).map sgn)) hq1;have g1:=Sn (H:=H') (a:=q1) (o:=.lst ((cs.take n).map sgn));generalize upd H' q1 (.lst ((cs.take n).map sgn))=K1 at*;refine ⟨_,rfl,_,rfl,_,rfl,_,_,rfl,rfl,_,_,rfl,rfl,(show (0:Int) < 26 by decide),LET,_,c,rfl,rfl,Job _ (by decide +kernel),hat,(show 1<=S6 by decide),λq2 hq2=>?_⟩;have t2:=Si.upd (o:=.lst [.str ⟨#[c]⟩]) hq2;have g2:=Sn (H:=K1) (a:=q2) (o:=.lst [.str ⟨#[c]⟩]);generalize upd K1 q2 (.lst [.str ⟨#[c]⟩])=K2 at*;have hl3:((cs.take n).map sgn).length+ [V.str ⟨#[c]⟩].length<=S6:=Job _ (by rw [ye,yaa];show _+1<=2000;omega);refine ⟨q1,q2,_,_,rfl,rfl,t2 _ _ g1,g2,hl3,λq3 hq3=>?_⟩;have t3:=Si.upd (o:=.lst ((cs.take n).map sgn++ [.str ⟨#[c]⟩])) hq3;have g3:=Sn (H:=K2) (a:=q3) (o:=.lst ((cs.take n).map sgn++ [.str ⟨#[c]⟩]));generalize upd K2 q3 (.lst ((cs.take n).map sgn++ [.str ⟨#[c]⟩]))=K3 at*;have t13:=(t1.trans t2).trans t3;refine ⟨_,rfl,_,rfl,_,_,rfl,rfl,_,rfl,D,_,rfl,Ss.of (t13 _ _ hD'),λq4 hq4=>?_⟩;rw [e2];have t4:=Si.upd (o:=.lst ((cs.drop (n+1)).map sgn)) hq4;have g4:=Sn (H:=K3) (a:=q4) (o:=.lst ((cs.drop (n+1)).map sgn));generalize upd K3 q4 (.lst ((cs.drop (n+1)).map sgn))=K4 at*;have hl5:((cs.take n).map sgn++ [V.str ⟨#[c]⟩]).length+((cs.drop (n+1)).map sgn).length<=S6:=Job _ (by rw [yab,ye,ye,yaa,ybj];show _+1+_<=2000;omega);refine ⟨q3,q4,_,_,rfl,rfl,t4 _ _ g3,g4,hl5,λq5 hq5=>?_⟩;obtain ⟨ws,ew,wl,wn,wi⟩:∃ws:List Nat,(cs.take n).map sgn++ [.str ⟨#[c]⟩]++(cs.drop (n+1)).map sgn=ws.map sgn/\ws.length=cs.length/\ws[n]?=some c/\∀d∈ws,d∈LET.cps.toList:=by
    refine ⟨cs.take n++ [c]++cs.drop (n+1),by simp [sgn],by simp;omega,?_,λd hd=>?_⟩
    ·rw [List.append_assoc,List.getElem?_append_right (by simp;omega)];simp [ybt (yce hn)]
    ·rcases yay.mp hd with hd|hd
     ·rcases yay.mp hd with hd|hd
      ·exact hw d (yct hd)
      ·rw [yal.mp hd];exact hc
     ·exact hw d (List.mem_of_mem_drop hd)
   rw [ew];have t5:=Si.upd (o:=.lst (ws.map sgn)) hq5;have g5:=Sn (H:=K4) (a:=q5) (o:=.lst (ws.map sgn));generalize upd K4 q5 (.lst (ws.map sgn))=K5 at*;have t15:=(t13.trans t4).trans t5;have hsg:ws.map sgn=(ws.map one).map V.str:=by rw [yaw];rfl
   refine ⟨"",q5,ws.map one,rfl,rfl,Ss.of (by rw [<-hsg];exact g5),?_,_,t15 _ _ hDs2,?_,_,zs++ [Txt.join ("" :Str) (ws.map one)],rfl,?_,?_,λk z e=>?_,?_⟩
   ·have:("" :Str).length=0:=by decide +kernel
    rw [this,Yfi];omega
   ·rw [ye];exact Jo6 (by omega)
   ·rw [Sn,yag];rfl
   ·rw [yab,hzl];rfl
   ·rw [ycn] at e;split at e
    ·exact hz k z e
    ·have hk:k=i:=by
      have:=(yj.mp e).1;simp at this;omega
     subst hk;rw [hzl,Nat.sub_self] at e;cases e;rw [Int.zero_add] at hat;refine ⟨?_,?_,?_,c,hat,?_⟩
     ·rw [Jsd];omega
     ·rw [Jsd];omega
     ·rw [Jsd];exact wi
     ·rw [Jsd];exact wn
   ·exact λb o e=>by
     have nb:b≠D2:=Jnd e hD2;rw [Jnc nb];exact t15 _ _ (sm b o e)
  ·rintro σ H5 ⟨o,zs,rfl,hDs2,hzl,hz,sm⟩;have ez:zs.length=m:=by rw [hzl];exact yax m
   exact k D2 zs H5 (But.free st b14 hD2) (b14.same sm) hDs2 ez (Sn8 (by omega) hz)
theorem Jw1 {ns:List Int} {s:Int} (h:0<=s/\s < ns.length):atI (ns.map V.int) s=some (.int (ns.getD s.toNat 0))/\ns.getD s.toNat 0∈ns:=by
 obtain ⟨n,rfl⟩:∃n:Nat,s=n:=⟨s.toNat,by omega⟩;have hn:n < ns.length:=by omega
 have e:ns.getD (n:Int).toNat 0=ns[n]:=by rw [yax];simp [ybz,hn]
 rw [e];exact ⟨Jvx hn,yaq hn⟩
theorem Jvb:∀(ns:List Int) (lo m n:Int),Jow lo (ns.map V.int)=true->ns.getLast?=some m->m+1<=n->n<=12->Jow lo ((ns++ [n]).map V.int)=true
 | [],_,_,_,_,h,_,_=>by simp at h
 | [x],lo,m,n,h,hl,h1,h2=>by
  have e:x=m:=by simpa using hl
  subst e;simp [Jow] at h⊢;omega
 |x::y::r,lo,m,n,h,hl,h1,h2=>by
  have hl':(y::r).getLast?=some m:=by simpa using hl
  have h':((decide (lo<=x)&&decide (x<=12))&&Jow (x+1) ((y::r).map V.int))=true:=h;rw [yap] at h';have ih:=Jvb (y::r) (x+1) m n h'.2 hl' h1 h2;show ((decide (lo<=x)&&decide (x<=12))&&Jow (x+1) (((y::r)++ [n]).map V.int))=true;rw [h'.1,ih];rfl
theorem Jva:∀(ns:List Int) (lo m:Int),Jow lo (ns.map V.int)=true->ns.getLast?=some m->lo<=m/\m<=12
 | [],_,_,_,h=>by simp at h
 | [x],lo,m,h,hl=>by
  have e:x=m:=by simpa using hl
  subst e;simpa [Jow] using h
 |x::y::r,lo,m,h,hl=>by
  have hl':(y::r).getLast?=some m:=by simpa using hl
  have h':((decide (lo<=x)&&decide (x<=12))&&Jow (x+1) ((y::r).map V.int))=true:=h;rw [yap,yap,decide_eq_true_eq,decide_eq_true_eq] at h';have ih:=Jva (y::r) (x+1) m h'.2 hl';omega
structure Jnt where
 kd:Str
 ns:List Int
 sv:Option Int
structure Sbk (G:Jnt):Prop where
 kd:Knd G.kd
 ns:Jrk (Jqu G.kd) (G.ns.map V.int)=true
 sv:∀i,G.sv=some i->0<=i/\i < G.ns.length
noncomputable def G1 (G:Jnt):List Int:=match G.sv with
 |none=>G.ns
 |some j=>[G.ns.getD j.toNat 0]
inductive Sdm (p:S1) (H:Hp) (x:V) (G:Jnt):Prop where
 |mk (t m:S1) (_:x= .ref t) (_:H m=some (.lst ((G1 G).map V.int))) (_:m≠p) (_:(G.sv=none/\H t=some (.tup [.str G.kd,.ref m])\/∃(j:Int) (m2:S1),G.sv=some j/\H t=some (.tup [.str G.kd,.ref m,.ref m2,.int j])/\H m2=some (.lst (G.ns.map V.int))/\m2≠p))
theorem Sdm.on {p q:S1} {H H':Hp} {x:V} {G:Jnt} (f:∀b o,H b=some o->(b≠p\/∀xs,o≠ .lst xs)->H' b=some o) (n:∀b o,H b=some o->b≠p->b≠q) (h:Sdm p H x G):Sdm q H' x G:=by
 obtain ⟨t,m,e,h1,n1,h2⟩:=h;refine ⟨t,m,e,f _ _ h1 (.inl n1),n _ _ h1 n1,?_⟩;rcases h2 with ⟨a,h2⟩|⟨j,m2,a,h2,h3,n2⟩
 ·exact .inl ⟨a,f _ _ h2 (.inr λ_ z=>by cases z)⟩
 ·exact .inr ⟨j,m2,a,f _ _ h2 (.inr λ_ z=>by cases z),f _ _ h3 (.inl n2),n _ _ h3 n2⟩
theorem Sdm.same {p:S1} {H H':Hp} {x:V} {G:Jnt} (s:Si H H') (h:Sdm p H x G):Sdm p H' x G:=h.on (λb o e _=>s b o e) λ_ _ _ n=>n
theorem Sdm.but {p:S1} {H H':Hp} {x:V} {G:Jnt} (st:Sc9 H p) (b:But p H H') (h:Sdm p H x G):Sdm p H' x G:=h.on (λc o e d=>b.1 c o (d.elim id λd=>Jw2 st e λ_ _ _ z=>d _ z) e) λ_ _ _ n=>n
inductive Yh1 (vs:List V) (H:Hp) (Q:VK) (z3:XK):Prop where
 |mk (p:S1) (mo:Int) (_:vs= [.ref p,.int mo]) (_:(1<=mo/\mo<=4)) (_:Sc9 H p) (_:∀(x:V) (G:Jnt) (H':Hp),But p H H'->Sdm p H' x G->Sbk G->(G.ns.length:Int)<=mo->Q x H')
theorem Sb3:Jne ["_law_stream_here","_law_most","_law_kind","_law_mark","_law_marks","_law_k","_law_at"] ["_law_stream_here","_law_most"] (Jnb (top 81)):=%[|0]
theorem Jvc (T:Tx K mg a):So P w K mg base CX0 2 a.Jlh a.Jli ["_law_stream_here","_law_most"] Yh1:=by
 have Sl:=%[Jpr|1];refine %[T.Ja3.fn.ok,Sb3|2]
 ·obtain ⟨p,mo,rfl,_⟩:=h;rfl
 ·obtain ⟨p,mo,rfl,hmo,st,k⟩:=h;refine ⟨?t,?B,?C⟩
  case B=>
   refine' Sw ?O0 ?O1
   case O0=>exact (Jnk (i:=2) Sb3.nd rfl (yf rfl) (Jno Joe (Jo3 (Sj Jpf (Sj Jpf (Sj Jpf Sk)))) (Jna T.Ja1 Sl hr (by decide) (Sj (pv 0) (Sj Sr Sk))) (λ_ _=>rfl)))
   case O1=>
   refine' Sw ?O2 ?O3
   case O2=>exact (Jnk (i:=3) Sb3.nd rfl (yf rfl) (Jnj Jnv (Jna T.Ja1 Sl hr (by decide) (Sj (pv 0) (Sj Sr Sk))) (Jny Yc8 (by rfl) T.Jaw Yab (Sj (Jqr Jrh (pv 2) Jpf (Joc _)) Sk))))
   case O3=>
   refine' Sw ?O4 ?O5
   case O4=>exact (Jnk (i:=4) Sb3.nd rfl (yf rfl) (Jo3 (Sj (pv 3) Sk)))
   case O5=>
   refine' Sw ?O6 ?O7
   case O6=>
    refine' Jox ?O8 ?O9 ?Oa ?Ob ?Oc
    case O8=>exact PassesOwn.never
    case O9=>exact rfl
    case Oa=>exact (Jpe (by rfl) T.Jb2 (Sj (Jna T.Ja1 Sl hr (by decide) (Sj (pv 0) (Sj (pv 1) Sk))) Sk))
    case Ob=>exact (Jnf (i:=5) Sb3.nd rfl (yf rfl))
    case Oc=>
    refine' Sw ?Od ?Oe
    case Od=>exact (Jnk (i:=3) Sb3.nd rfl (yf rfl) (Jnj Jnv (Jnj Jnv (pv 3) Sr) (Jna T.Ja1 Sl hr (by decide) (Sj (pv 0) (Sj Sr Sk)))))
    case Oe=>
    refine' Sy ?Of
    case Of=>exact (Jp5 (Jty F.plainAttrs_list F.slot_list_append F.type_list_append Jr4 (pv 4) (Sj (pv 3) Sk)))
   case O7=>
   refine' Sw ?Og ?Oh
   case Og=>
    refine' Jo1 ?Oi ?Oj ?Ok
    case Oi=>exact (Jo9 Jyk (Jna T.Ja1 Sl hr (by decide) (Sj (pv 0) (Sj Sr Sk))) Sr (Joc _))
    case Oj=>
     refine' Sy ?Ol
     case Ol=>exact (Jnh (Jnz (Sj (pv 2) (Sj (pv 4) Sk))))
    case Ok=>exact Jnn
   case Oh=>
   refine' Sw ?Om ?On
   case Om=>exact (Jnk (i:=6) Sb3.nd rfl (yf rfl) (Jna T.Ja1 Sl hr (by decide) (Sj (pv 0) (Sj (Jng Jnm (by rfl) T.Jay Joh (Sj (pv 4) Sk)) Sk))))
   case On=>
   refine' Sy ?Oo
   case Oo=>
   refine' Jnh ?Op
   case Op=>
   refine' Jnz ?Oq
   case Oq=>
   refine' pa4 ?Or ?Os ?Ot ?Ou
   case Or=>exact (pv 2)
   case Os=>exact (Jo3 (Sj (Jno Joe (pv 4) (pv 6) (λ_ _=>rfl)) Sk))
   case Ot=>exact (pv 4)
   case Ou=>exact (pv 6)
  refine ⟨(show 3<=S6 by decide),λL hL=>?_⟩;have sL:=Si.upd (o:=.lst [.str "step",.str "flap",.str "part"]) hL;have bL:=But.of st sL;have nL:L≠p:=st.ne hL;refine ⟨_,rfl,p,3,rfl,bL.2,by decide,by decide,λr H1 r0 r1 b1=>?_⟩;obtain ⟨kd,hat,hk⟩:∃kd:Str,atI [V.str "step",.str "flap",.str "part"] r=some (.str kd)/\Knd kd:=by
   have cs:r=0\/r=1\/r=2:=by omega
   rcases cs with rfl|rfl|rfl
   ·exact ⟨_,rfl,.inl rfl⟩
   ·exact ⟨_,rfl,.inr (.inl rfl)⟩
   ·exact ⟨_,rfl,.inr (.inr rfl)⟩
  refine ⟨L,_,r,_,rfl,rfl,Ss.of (b1.1 _ _ nL Sn),hat,?_⟩;have bK:=bL.trans b1;have el:Jqu kd=if decide (V.str kd=V.str "part")=true then 1 else 0:=by
   unfold Jqu;by_cases h:kd=("part" :Str)
   ·rw [if_pos h,if_pos (decide_eq_true (by rw [h]))]
   ·rw [if_neg h,if_neg (by rw [decide_eq_false (λe=>h (V.str.inj e))];decide)]
  have hlo:Jqu kd=0\/Jqu kd=1:=by unfold Jqu;split <;> simp
  refine ⟨_,rfl,p,3,rfl,bK.2,by decide,by decide,λr2 H2 s0 s1 b2=>?_⟩;refine ⟨_,rfl,rfl,.inr ⟨_,rfl,_,_,rfl,rfl,?_⟩⟩;rw [<-el];have b02:=bK.trans b2;refine ⟨_,rfl,(show 1<=S6 by decide),λl hl=>?_⟩;have hl0:H l=none:=But.free st b02 hl;have nlp:l≠p:=st.ne hl0;have b3:But p H (upd H2 l (.lst [.int (r2+Jqu kd)])):=b02.updD hl0 nlp;refine ⟨_,rfl,_,rfl,p,mo,rfl,b3.2,by omega,Jpx (by omega),λj H3 j0 j1 b4=>⟨j,rfl,by omega,by omega,?_⟩⟩;refine Ych (λi σ H'=>∃(o o':Option V) (ns:List Int) (m:Int),σ= [some (.ref p),some (.int mo),some (.str kd),some (.int m),some (.ref l),o,o']/\But p H H'/\H' l=some (.lst (ns.map V.int))/\Jow (Jqu kd) (ns.map V.int)=true/\ns.getLast?=some m/\ns.length=i+1/\m<=3+3*i)
   ⟨_,_,[r2+Jqu kd],r2+Jqu kd,rfl,b3.trans b4,b4.1 _ _ nlp Sn,?_,rfl,by simp,by omega⟩ ?_ ?_
  ·simp [Jow];omega
  ·rintro i σ H4 hi ⟨o,o',ns,m,rfl,b5,h5,hmk,hla,hle,hmi⟩;have hb:=Jva ns (Jqu kd) m hmk hla;refine ⟨_,rfl,_,_,rfl,rfl,_,rfl,p,3,rfl,b5.2,by decide,by decide,λr' H5 t0 t1 b6=>?_⟩;refine ⟨_,_,rfl,rfl,?_⟩;have h6:=b6.1 _ _ nlp h5;refine ⟨_,rfl,.inl ⟨rfl,_,Ss.of h6⟩,_,rfl,l,_,_,rfl,rfl,h6,by rw [ye];exact Jo6 (by omega),?_⟩;refine ⟨_,_,ns++ [m+1+r'],m+1+r',rfl,(b5.trans b6).updD hl0 nlp,?_,Jvb ns (Jqu kd) m _ hmk hla (by omega) (by omega),by simp,by simp;omega,by omega⟩;rw [Sn];simp
  ·rintro σ H4 ⟨o,o',ns,m,rfl,b5,h5,hmk,hla,hle,hmi⟩;have hn:(ns.length:Int)<=mo:=by omega
   have har:Jrk (Jqu kd) (ns.map V.int)=true:=by
    unfold Jrk;rw [hmk,Bool.and_true,ye];exact decide_eq_true (by omega)
   refine ⟨_,rfl,p,6,rfl,b5.2,by decide,by decide,λr6 H6 _ _ b6=>⟨_,_,rfl,rfl,_,rfl,Sj8 (λ_=>?_) (λ_=>?_)⟩⟩
   ·have h6:=b6.1 _ _ nlp h5;refine ⟨_,rfl,_,rfl,(show 2<=S6 by decide),λt ht=>?_⟩;have sT:=Si.upd (o:=.tup [.str kd,.ref l]) ht;exact k (.ref t) ⟨kd,ns,none⟩ _ ((b5.trans b6).same sT) ⟨t,l,rfl,sT _ _ h6,nlp,.inl ⟨rfl,Sn⟩⟩ ⟨hk,har,λi e=>by cases e⟩ hn
   ·have h6:=b6.1 _ _ nlp h5;refine ⟨_,rfl,_,rfl,l,_,rfl,.inl (Ss.of h6),p,_,rfl,(b5.trans b6).2,by rw [ye];omega,by rw [ye];exact Jpx (by omega),λr7 H7 u0 u1 b7=>?_⟩;rw [ye] at u1;have h7:=b7.1 _ _ nlp h6;have hat7:=(Jw1 (ns:=ns) (s:=r7) ⟨u0,u1⟩).1;refine ⟨_,rfl,_,rfl,_,rfl,l,_,r7,_,rfl,rfl,Ss.of h7,hat7,(show 1<=S6 by decide),λm1 hm1=>?_⟩;have sM:=Si.upd (o:=.lst [.int (ns.getD r7.toNat 0)]) hm1;have b57:=(b5.trans b6).trans b7;have nm1:m1≠p:=b57.2.ne hm1;refine ⟨_,rfl,_,rfl,(show 4<=S6 by decide),λt ht=>?_⟩;have sT:=Si.upd (o:=.tup [.str kd,.ref m1,.ref l,.int r7]) ht;refine k (.ref t) ⟨kd,ns,some r7⟩ _ ((b57.same sM).same sT) ⟨t,m1,rfl,sT _ _ Sn,nm1,.inr ⟨r7,l,rfl,Sn,sT _ _ (sM _ _ h7),nlp⟩⟩ ⟨hk,har,λi e=>?_⟩ hn;cases e;exact ⟨u0,u1⟩
structure Jpt where
 z:Str
 lo:Int
 hi:Int
 st:Int
 rn:Int
 G:Jnt
structure Jxu (B:Jpt):Prop where
 lo:0<=B.lo/\B.lo<=12
 hi:B.lo<=B.hi/\B.hi<=12
 st:B.lo<=B.st/\B.st<=B.hi
 rn:0<=B.rn/\B.rn<=6
 G:Sbk B.G
inductive Sdl (p:S1) (H:Hp) (x:V) (B:Jpt):Prop where
 |mk (t:S1) (g:V) (_:x= .ref t) (_:H t=some (.tup [.str B.z,.int B.lo,.int B.hi,.int B.st,.int B.rn,g])/\Sdm p H g B.G)
theorem Sdl.same {p:S1} {H H':Hp} {x:V} {B:Jpt} (s:Si H H') (h:Sdl p H x B):Sdl p H' x B:=by
 obtain ⟨t,g,e,h1,h2⟩:=h;exact ⟨t,g,e,s _ _ h1,h2.same s⟩
theorem Sdl.but {p:S1} {H H':Hp} {x:V} {B:Jpt} (st:Sc9 H p) (b:But p H H') (h:Sdl p H x B):Sdl p H' x B:=by
 obtain ⟨t,g,e,h1,h2⟩:=h;exact ⟨t,g,e,b.1 _ _ (Jw2 st h1 (λ_ _ _ z=>by cases z)) h1,h2.but st b⟩
noncomputable def Cap (n:Nat) (s r m:Int):Prop:=n=1/\s=7/\r=5/\m=4\/n=2/\s=4/\r=3/\m=2\/n=3/\s=3/\r=2/\m=2\/n=4/\s=2/\r=2/\m=2
theorem Cap.at {n:Nat} {s r m:Int} (h:Cap n s r m):atI [V.int 7,.int 4,.int 3,.int 2] ((n:Int) - 1)=some (.int s)/\atI [V.int 5,.int 3,.int 2,.int 2] ((n:Int) - 1)=some (.int r)/\atI [V.int 4,.int 2,.int 2,.int 2] ((n:Int) - 1)=some (.int m)/\(2<=s/\s<=7)/\(2<=r/\r<=5)/\2<=m/\m<=4:=by
 rcases h with ⟨rfl,rfl,rfl,rfl⟩|⟨rfl,rfl,rfl,rfl⟩|⟨rfl,rfl,rfl,rfl⟩|⟨rfl,rfl,rfl,rfl⟩ <;> exact ⟨rfl,rfl,rfl,by decide,by decide,by decide⟩
structure Lgt (s r m:Int) (B:Jpt):Prop where
 s:B.hi - B.lo < s
 r:B.rn < r
 m:(B.G.ns.length:Int)<=m
inductive Yf6 (vs:List V) (H:Hp) (Q:VK) (z3:XK):Prop where
 |mk (p:S1) (z:Str) (n:Nat) (s r m:Int) (_:vs= [.ref p,.str z,.int n]) (_:Sc9 H p) (_:Cap n s r m) (_:∀(x:V) (B:Jpt) (H':Hp),But p H H'->Sdl p H' x B->Jxu B->B.z=z->Lgt s r m B->Q x H')
theorem Sbi:Jne ["_law_stream_here","_law_name","_law_many","_law_low","_law_span","_law_start","_law_rain"] ["_law_stream_here","_law_name","_law_many"] (Jnb (top 82)):=%[|0]
theorem Jz5 (T:Tx K mg a):So P w K mg base CX0 3 a.Jlj a.Jlk ["_law_stream_here","_law_name","_law_many"] Yf6:=by
 have Sl:=%[Jpr|1];have Sd9:=%[Jvc|1];refine %[T.Ja4.fn.ok,Sbi|2]
 ·obtain ⟨p,z,n,s,r,m,rfl,_⟩:=h;rfl
 ·obtain ⟨p,z,n,cs,cr,cm,rfl,st,cap,k⟩:=h;obtain ⟨a1,a2,a3,bs,br,bm⟩:=cap.at;refine ⟨?t,?B,?C⟩
  case B=>
   refine' Sw ?O0 ?O1
   case O0=>exact (Jnk (i:=3) Sbi.nd rfl (yf rfl) (Jna T.Ja1 Sl hr (by decide) (Sj (pv 0) (Sj Sr Sk))))
   case O1=>
   refine' Sw ?O2 ?O3
   case O2=>exact (Jnk (i:=4) Sbi.nd rfl (yf rfl) (Jna T.Ja1 Sl hr (by decide) (Sj (pv 0) (Sj (Jno Joe (Jo3 (pa4 Sr Sr Sr Sr)) (Jnj Joq (pv 2) Sr) (λ_ _=>rfl)) Sk))))
   case O3=>
   refine' Sw ?O4 ?O5
   case O4=>exact (Jnk (i:=5) Sbi.nd rfl (yf rfl) (Jnj Jnv (pv 3) (Jna T.Ja1 Sl hr (by decide) (Sj (pv 0) (Sj (Jnj Jnv (pv 4) Sr) Sk)))))
   case O5=>
   refine' Sw ?O6 ?O7
   case O6=>exact (Jnk (i:=6) Sbi.nd rfl (yf rfl) (Jna T.Ja1 Sl hr (by decide) (Sj (pv 0) (Sj (Jno Joe (Jo3 (pa4 Sr Sr Sr Sr)) (Jnj Joq (pv 2) Sr) (λ_ _=>rfl)) Sk))))
   case O7=>
   refine' Sy ?O8
   case O8=>
   refine' Jnh ?O9
   case O9=>
   refine' Jnz ?Oa
   case Oa=>
   refine' pa6 ?Ob ?Oc ?Od ?Oe ?Of ?Og
   case Ob=>exact (pv 1)
   case Oc=>exact (pv 3)
   case Od=>exact (Jnj Jnv (pv 3) (pv 4))
   case Oe=>exact (pv 5)
   case Of=>exact (pv 6)
   case Og=>exact (Jna T.Ja3 Sd9 hr (by decide) (Sj (pv 0) (Sj (Jno Joe (Jo3 (pa4 Sr Sr Sr Sr)) (Jnj Joq (pv 2) Sr) (λ_ _=>rfl)) Sk)))
  refine ⟨_,rfl,p,4,rfl,st,by decide,by decide,λlo H1 l0 l1 b1=>?_⟩;refine ⟨_,rfl,(show 4<=S6 by decide),λL1 hL1=>?_⟩;have c1:=b1.same (Si.upd (o:=.lst [V.int 7,.int 4,.int 3,.int 2]) hL1);refine ⟨_,rfl,_,_,rfl,rfl,L1,_,_,_,rfl,rfl,Ss.of Sn,a1,p,cs,rfl,c1.2,by omega,Jpx (by omega),λhi H2 h0 h1 b2=>?_⟩;refine ⟨_,rfl,_,rfl,_,rfl,_,_,rfl,rfl,p,hi+1,rfl,b2.2,by omega,Jpx (by omega),λsv H3 s0 s1 b3=>⟨_,_,rfl,rfl,?_⟩⟩;refine ⟨_,rfl,(show 4<=S6 by decide),λL2 hL2=>?_⟩;have c3:=b3.same (Si.upd (o:=.lst [V.int 5,.int 3,.int 2,.int 2]) hL2);refine ⟨_,rfl,_,_,rfl,rfl,L2,_,_,_,rfl,rfl,Ss.of Sn,a2,p,cr,rfl,c3.2,by omega,Jpx (by omega),λrn H4 n0 n1 b4=>?_⟩;refine ⟨_,rfl,_,rfl,_,rfl,_,rfl,_,_,rfl,rfl,_,rfl,_,rfl,_,rfl,(show 4<=S6 by decide),λL3 hL3=>?_⟩;have c4:=b4.same (Si.upd (o:=.lst [V.int 4,.int 2,.int 2,.int 2]) hL3);refine ⟨_,rfl,_,_,rfl,rfl,L3,_,_,_,rfl,rfl,Ss.of Sn,a3,p,cm,rfl,by omega,c4.2,λg G H5 b5 gt gg gm=>?_⟩;refine ⟨(show 6<=S6 by decide),λt ht=>?_⟩;have sT:=Si.upd (o:=.tup [.str z,.int lo,.int (lo+hi),.int (lo+sv),.int rn,g]) ht;exact k (.ref t) ⟨z,lo,lo+hi,lo+sv,rn,G⟩ _ (((((c1.trans b2).trans c3).trans c4).trans b5).same sT) ⟨t,g,rfl,Sn,gt.same sT⟩ ⟨by dsimp only;omega,by dsimp only;omega,by dsimp only;omega,by dsimp only;omega,gg⟩ rfl ⟨by dsimp only;omega,by dsimp only;omega,gm⟩
theorem Ygt {bs:List V} {ns:List Int} (h:∀b∈bs,∃o,b=V.ref o) (hn:1<=ns.length):bs≠ns.map V.int:=by
 intro e;cases ns with
 |nil=>simp at hn
 |cons n r=>
  obtain ⟨o,q⟩:=h (.int n) (by rw [e];simp);cases q
theorem Sbk.len {G:Jnt} (h:Sbk G):1<=G.ns.length/\G.ns.length<=4:=by
 have q:=h.ns;unfold Jrk at q;rw [yap,decide_eq_true_eq,ye] at q;exact q.1
theorem G1.len {G:Jnt} (h:Sbk G):1<=(G1 G).length:=by
 unfold G1;split
 ·exact h.len.1
 ·exact yg 1
theorem Sdm.put {p D:S1} {H:Hp} {x:V} {G:Jnt} {bs:List V} {o:HO} (g:Sbk G) (hD:H D=some (.lst bs)) (hb:∀b∈bs,∃o,b=V.ref o) (h:Sdm p H x G):Sdm p (upd H D o) x G:=by
 obtain ⟨t,m,e,h1,n1,h2⟩:=h;have tp:∀xs,H t=some (.tup xs)->upd H D o t=some (.tup xs):=λxs h=>by
  rw [Jnc (λz=>by rw [z,hD] at h;cases h)];exact h
 have ls:∀(q:S1) (ns:List Int),1<=ns.length->H q=some (.lst (ns.map V.int))->upd H D o q=some (.lst (ns.map V.int)):=λq ns hn h=>by
  rw [Jnc (λz=>by rw [z,hD] at h;cases h;exact Ygt hb hn rfl)];exact h
 refine ⟨t,m,e,ls _ _ (G1.len g) h1,n1,?_⟩;rcases h2 with ⟨a,h2⟩|⟨j,m2,a,h2,h3,n2⟩
 ·exact .inl ⟨a,tp _ h2⟩
 ·exact .inr ⟨j,m2,a,tp _ h2,ls _ _ g.len.1 h3,n2⟩
theorem Sdl.put {p D:S1} {H:Hp} {x:V} {B:Jpt} {bs:List V} {o:HO} (g:Jxu B) (hD:H D=some (.lst bs)) (hb:∀b∈bs,∃o,b=V.ref o) (h:Sdl p H x B):Sdl p (upd H D o) x B:=by
 obtain ⟨t,y,e,h1,h2⟩:=h;refine ⟨t,y,e,?_,h2.put g.G hD hb⟩;rw [Jnc (λz=>by rw [z,hD] at h1;cases h1)];exact h1
noncomputable def BTL (p:S1) (H:Hp):List V->List Jpt->Prop
 | [],[]=>True
 |x::xs,B::Bs=>Sdl p H x B/\BTL p H xs Bs
 |_,_=>False
theorem BTL.map {p q:S1} {H H':Hp} (f:∀x B,Jxu B->Sdl p H x B->Sdl q H' x B):∀{xs:List V} {Bs:List Jpt},(∀B∈Bs,Jxu B)->BTL p H xs Bs->BTL q H' xs Bs:=by
 intro xs
 induction xs with
 |nil=>
  intro Bs g h;cases Bs with
  |nil=>exact True.intro
  |cons B Bs=>exact False.elim h
 |cons x xs ih=>
  intro Bs g h;cases Bs with
  |nil=>exact False.elim h
  |cons B Bs=>exact ⟨f _ _ (g _ yah) (yas h),ih (λB hB=>g B (yac _ hB)) (yam h)⟩
theorem BTL.snoc {p:S1} {H:Hp} {x:V} {B:Jpt} (h:Sdl p H x B):∀{xs:List V} {Bs:List Jpt},BTL p H xs Bs->BTL p H (xs++ [x]) (Bs++ [B]):=by
 intro xs
 induction xs with
 |nil=>
  intro Bs q;cases Bs with
  |nil=>exact ⟨h,True.intro⟩
  |cons B Bs=>exact False.elim q
 |cons x xs ih=>
  intro Bs q;cases Bs with
  |nil=>exact False.elim q
  |cons B Bs=>exact ⟨yas q,ih (yam q)⟩
theorem BTL.refs {p:S1} {H:Hp}:∀{xs:List V} {Bs:List Jpt},BTL p H xs Bs->∀b∈xs,∃o,b=V.ref o:=by
 intro xs
 induction xs with
 |nil=>exact λ_ b hb=>absurd hb (by simp)
 |cons x xs ih=>
  intro Bs h b hb;cases Bs with
  |nil=>exact False.elim h
  |cons B Bs=>
   rcases yo.mp hb with rfl|hb
   ·obtain ⟨⟨t,g,e,_⟩,_⟩:=h;exact ⟨t,e⟩
   ·exact ih (yam h) b hb
theorem BTL.len {p:S1} {H:Hp}:∀{xs:List V} {Bs:List Jpt},BTL p H xs Bs->xs.length=Bs.length:=by
 intro xs
 induction xs with
 |nil=>
  intro Bs h;cases Bs with
  |nil=>rfl
  |cons B Bs=>exact False.elim h
 |cons x xs ih=>
  intro Bs h;cases Bs with
  |nil=>exact False.elim h
  |cons B Bs=>rw [yaf,yaf,ih (yam h)]
structure Jqx where
 z:Str
 b:Str
 wt:Int
inductive Sdz (H:Hp) (x:V) (B:Jqx):Prop where
 |mk (t:S1) (_:x= .ref t) (_:H t=some (.tup [.str B.z,.str B.b,.int B.wt]))
theorem Sdz.same {H H':Hp} {x:V} {B:Jqx} (s:Si H H') (h:Sdz H x B):Sdz H' x B:=by obtain ⟨t,e,h1⟩:=h;exact ⟨t,e,s _ _ h1⟩
theorem Sdz.but {p:S1} {H H':Hp} {x:V} {B:Jqx} (st:Sc9 H p) (b:But p H H') (h:Sdz H x B):Sdz H' x B:=
 let ⟨t,e,h1⟩:=h
 ⟨t,e,b.1 _ _ (Jw2 st h1 (λ_ _ _ z=>by cases z)) h1⟩
theorem Sdz.put {D:S1} {H:Hp} {x:V} {B:Jqx} {bs:List V} {o:HO} (hD:H D=some (.lst bs)) (h:Sdz H x B):Sdz (upd H D o) x B:=by
 obtain ⟨t,e,h1⟩:=h;refine ⟨t,e,?_⟩;rw [Jnc (λz=>by rw [z,hD] at h1;cases h1)];exact h1
noncomputable def TTL (H:Hp):List V->List Jqx->Prop
 | [],[]=>True
 |x::xs,B::Bs=>Sdz H x B/\TTL H xs Bs
 |_,_=>False
theorem TTL.map {H H':Hp} (f:∀x B,Sdz H x B->Sdz H' x B):∀{xs:List V} {Bs:List Jqx},TTL H xs Bs->TTL H' xs Bs:=by
 intro xs
 induction xs with
 |nil=>
  intro Bs h;cases Bs with
  |nil=>exact True.intro
  |cons B Bs=>exact False.elim h
 |cons x xs ih=>
  intro Bs h;cases Bs with
  |nil=>exact False.elim h
  |cons B Bs=>exact ⟨f _ _ (yas h),ih (yam h)⟩
theorem TTL.snoc {H:Hp} {x:V} {B:Jqx} (h:Sdz H x B):∀{xs:List V} {Bs:List Jqx},TTL H xs Bs->TTL H (xs++ [x]) (Bs++ [B]):=by
 intro xs
 induction xs with
 |nil=>
  intro Bs q;cases Bs with
  |nil=>exact ⟨h,True.intro⟩
  |cons B Bs=>exact False.elim q
 |cons x xs ih=>
  intro Bs q;cases Bs with
  |nil=>exact False.elim q
  |cons B Bs=>exact ⟨yas q,ih (yam q)⟩
theorem TTL.len {H:Hp}:∀{xs:List V} {Bs:List Jqx},TTL H xs Bs->xs.length=Bs.length:=by
 intro xs
 induction xs with
 |nil=>
  intro Bs h;cases Bs with
  |nil=>rfl
  |cons B Bs=>exact False.elim h
 |cons x xs ih=>
  intro Bs h;cases Bs with
  |nil=>exact False.elim h
  |cons B Bs=>rw [yaf,yaf,ih (yam h)]
structure Jpg where
 c:Int
 g:Int
 Bs:List Jpt
 Ts:List Jqx
structure Jst (R:Jpg):Prop where
 c:0<=R.c/\R.c<=12
 g:0<=R.g/\R.g<=R.c
 n:1<=R.Bs.length/\R.Bs.length<=16
 Bs:∀B∈R.Bs,Jxu B/\Jrf B.z=true/\Ltr 8 B.z
 nd:(R.Bs.map (·.z)).Nodup
 tn:R.Ts.length<=3
 Ts:∀B∈R.Ts,Jrf B.z=true/\Ltr 8 B.z/\B.b∈R.Bs.map (·.z)/\1<=B.wt/\B.wt<=6
 td:(R.Ts.map (·.z)).Nodup
inductive Sfq (p:S1) (H:Hp) (x:V) (R:Jpg):Prop where
 |mk (t lb lt:S1) (bs ts:List V) (_:x= .ref t) (_:H t=some (.tup [.int R.c,.int R.g,.ref lb,.ref lt])) (_:H lb=some (.lst bs)) (_:BTL p H bs R.Bs) (_:H lt=some (.lst ts)) (_:TTL H ts R.Ts) (_:lb≠p) (_:lt≠p)
inductive Ydd (R:Jpg):Prop where
 |mk (n L C S T r:Nat) (_:(n,L,C,S,T,r)∈ [(1,7,5,4,3,5),(1,4,13,2,2,7),(2,4,3,2,3,3),(3,3,2,2,2,2),(4,2,2,2,1,2)]) (_:R.Bs.length=n) (_:R.c < C) (_:R.Ts.length < T) (_:∀B∈R.Bs,Lgt L r S B)
inductive Ygy (vs:List V) (H:Hp) (Q:VK) (z3:XK):Prop where
 |mk (p:S1) (_:vs= [.ref p]) (_:Sc9 H p) (_:∀(x:V) (R:Jpg) (H':Hp),But p H H'->Sfq p H' x R->Jst R->Ydd R->Q x H')
theorem Saa:Jne ["_law_stream_here","_law_cloud","_law_gain","_law_name","_law_low","_law_high","_law_start","_law_basin_here","_law_towns"] ["_law_stream_here"] (Jnb (top 83)):=%[|0]
theorem Jz6 (T:Tx K mg a):So P w K mg base CX0 3 a.Jll a.Jlm ["_law_stream_here"] Ygy:=by
 have Sl:=%[Jpr|1];have Sbw:=%[Jtv|1];have Sd9:=%[Jvc|1];refine %[T.Ja5.fn.ok,Saa|2]
 ·obtain ⟨p,rfl,_⟩:=h;rfl
 ·obtain ⟨p,rfl,st,k⟩:=h;refine ⟨?t,?B,?C⟩
  case B=>
   refine' Sw ?O0 ?O1
   case O0=>exact (Jnk (i:=1) Saa.nd rfl (yf rfl) (Jnj Jnv Sr (Jna T.Ja1 Sl hr (by decide) (Sj (pv 0) (Sj Sr Sk)))))
   case O1=>
   refine' Sw ?O2 ?O3
   case O2=>exact (Jnk (i:=2) Saa.nd rfl (yf rfl) (Jna T.Ja1 Sl hr (by decide) (Sj (pv 0) (Sj (Jnj Jnv (pv 1) Sr) Sk))))
   case O3=>
   refine' Sw ?O4 ?O5
   case O4=>exact (Jnk (i:=3) Saa.nd rfl (yf rfl) (Jno Joe (Jna T.Ja2 Sbw hr (by decide) (Sj (pv 0) (Sj Sr Sk))) Sr (λ_ _=>rfl)))
   case O5=>
   refine' Sw ?O6 ?O7
   case O6=>exact (Jnk (i:=4) Saa.nd rfl (yf rfl) (Jna T.Ja1 Sl hr (by decide) (Sj (pv 0) (Sj Sr Sk))))
   case O7=>
   refine' Sw ?O8 ?O9
   case O8=>exact (Jnk (i:=5) Saa.nd rfl (yf rfl) (Jnj Jnv (pv 4) (Jna T.Ja1 Sl hr (by decide) (Sj (pv 0) (Sj Sr Sk)))))
   case O9=>
   refine' Sw ?Oa ?Ob
   case Oa=>exact (Jnk (i:=6) Saa.nd rfl (yf rfl) (Jnj Jnv (pv 4) (Jna T.Ja1 Sl hr (by decide) (Sj (pv 0) (Sj (Jnj Jnv (Jnj Joq (pv 5) (pv 4)) Sr) Sk)))))
   case Ob=>
   refine' Sw ?Oc ?Od
   case Oc=>exact (Jnk (i:=7) Saa.nd rfl (yf rfl) (Jnz (pa6 (pv 3) (pv 4) (pv 5) (pv 6) (Jna T.Ja1 Sl hr (by decide) (Sj (pv 0) (Sj Sr Sk))) (Jna T.Ja3 Sd9 hr (by decide) (Sj (pv 0) (Sj Sr Sk))))))
   case Od=>
   refine' Sw ?Oe ?Of
   case Oe=>exact (Jnk (i:=8) Saa.nd rfl (yf rfl) (Jpj Jw8 (Jo3 (Sj (Jnz (Sj Jpf (Sj (pv 3) (Sj (Jnj Jnv Sr (Jna T.Ja1 Sl hr (by decide) (Sj (pv 0) (Sj Sr Sk)))) Sk)))) Sk)) Jsi (Jp7 (Jna T.Ja1 Sl hr (by decide) (Sj (pv 0) (Sj Sr Sk))))))
   case Of=>
   refine' Sy ?Og
   case Og=>
   refine' Jnh ?Oh
   case Oh=>
   refine' Jnz ?Oi
   case Oi=>
   refine' pa4 ?Oj ?Ok ?Ol ?Om
   case Oj=>exact (pv 1)
   case Ok=>exact (pv 2)
   case Ol=>exact (Jo3 (Sj (pv 7) Sk))
   case Om=>exact (pv 8)
  refine ⟨_,rfl,p,4,rfl,st,by decide,by decide,λcl H1 c0 c1 b1=>⟨_,_,rfl,rfl,?_⟩⟩;refine ⟨_,rfl,_,rfl,_,_,rfl,rfl,p,9+cl+1,rfl,b1.2,by omega,Jpx (by omega),λgn H2 g0 g1 b2=>?_⟩;have b12:=b1.trans b2;refine ⟨_,rfl,p,1,rfl,b12.2,by omega,λl zs H3 hl b3 hl3 len nms=>?_⟩;have b13:=b12.trans b3;obtain ⟨z,rfl⟩:∃z,zs= [z]:=by
   match zs,len with
   | [z],_=>exact ⟨z,rfl⟩
  refine ⟨l,_,0,_,rfl,rfl,Ss.of hl3,rfl,?_⟩;refine ⟨_,rfl,p,10,rfl,b13.2,by decide,by decide,λlo H4 l0 l1 b4=>?_⟩;refine ⟨_,rfl,_,rfl,p,4,rfl,b4.2,by decide,by decide,λhi H5 h0 h1 b5=>⟨_,_,rfl,rfl,?_⟩⟩;refine ⟨_,rfl,_,rfl,_,rfl,_,rfl,_,_,rfl,rfl,_,_,rfl,rfl,p,lo+hi - lo+1,rfl,b5.2,by omega,Jpx (by omega),λsv H6 s0 s1 b6=>⟨_,_,rfl,rfl,?_⟩⟩;refine ⟨_,rfl,_,rfl,_,rfl,_,rfl,_,rfl,p,7,rfl,b6.2,by decide,by decide,λrn H7 n0 n1 b7=>?_⟩;refine ⟨_,rfl,p,2,rfl,by omega,b7.2,λg G H8 b8 gt gg gm=>⟨(show 6<=S6 by decide),λt ht=>?_⟩⟩;have b18:=(((b13.trans b4).trans (b5.trans b6)).trans b7).trans b8;have sT:=Si.upd (o:=.tup [.str z,.int lo,.int (lo+hi),.int (lo+sv),.int rn,g]) ht;have bt:Sdl p (upd H8 t (.tup [.str z,.int lo,.int (lo+hi),.int (lo+sv),.int rn,g])) (.ref t) ⟨z,lo,lo+hi,lo+sv,rn,G⟩:=⟨t,g,rfl,Sn,gt.same sT⟩;have b19:=b18.same sT;generalize upd H8 t (.tup [.str z,.int lo,.int (lo+hi),.int (lo+sv),.int rn,g])=H9 at*;refine ⟨_,rfl,_,rfl,p,6,rfl,b19.2,by decide,by decide,λwt HA w0 w1 bA=>⟨_,_,rfl,rfl,(show 3<=S6 by decide),λtt htt=>⟨(show 1<=S6 by decide),λL hL=>?_⟩⟩⟩;have sB:=Si.upd (o:=.tup [.str "mill",.str z,.int (1+wt)]) htt;have gB:=Sn (H:=HA) (a:=tt) (o:=.tup [.str "mill",.str z,.int (1+wt)]);generalize upd HA tt (.tup [.str "mill",.str z,.int (1+wt)])=HB at*;have sC:=Si.upd (o:=.lst [.ref tt]) hL;have gC:=Sn (H:=HB) (a:=L) (o:=.lst [.ref tt]);generalize upd HB L (.lst [.ref tt])=HC at*;have b1C:=((b19.trans bA).same sB).same sC;have nL:L≠p:=(((b19.trans bA).same sB)).2.ne hL;have ntt:tt≠p:=(b19.trans bA).2.ne htt;refine ⟨_,rfl,p,2,rfl,b1C.2,by decide,by decide,λr2 HD d0 d1 bD=>⟨_,rfl,L,_,rfl,Ss.of (bD.1 _ _ nL gC),λlt hlt=>?_⟩⟩;have b1D:=b1C.trans bD;obtain ⟨Ts,ts,ets,ttl,tn,tgd,td⟩:∃(Ts:List Jqx) (ts:List V),Jqt [.ref tt] none (some r2)=ts/\TTL HD ts Ts/\Ts.length<=1/\(∀B∈Ts,Jrf B.z=true/\Ltr 8 B.z/\B.b∈ [z]/\1<=B.wt/\B.wt<=6)/\(Ts.map (·.z)).Nodup:=by
   have cs:r2=0\/r2=1:=by omega
   rcases cs with rfl|rfl
   ·exact ⟨[],[],rfl,True.intro,yaj _,λB hB=>absurd hB (by simp),List.nodup_nil⟩
   ·refine ⟨[⟨"mill",z,1+wt⟩],[.ref tt],rfl,⟨⟨tt,rfl,bD.1 _ _ ntt (sC _ _ gB)⟩,True.intro⟩,yg _,λB hB=>?_,by simp⟩;rw [yal.mp hB];exact ⟨(show Jrf "mill" =true by decide +kernel),⟨(show ("mill" :Str).length<=8 by decide +kernel),(show ∀c∈("mill" :Str).cps.toList,c∈LET.cps.toList by decide +kernel)⟩,by simp,by dsimp only;omega,by dsimp only;omega⟩
  rw [ets];have sE:=Si.upd (o:=.lst ts) hlt;have gE:=Sn (H:=HD) (a:=lt) (o:=.lst ts);generalize upd HD lt (.lst ts)=HE at*;have nlt:lt≠p:=b1D.2.ne hlt;refine ⟨_,rfl,_,rfl,_,rfl,(show 1<=S6 by decide),λlb hlb=>⟨_,rfl,(show 4<=S6 by decide),λq hq=>?_⟩⟩;have b1E:=b1D.same sE;have nlb:lb≠p:=b1E.2.ne hlb;have sF:=Si.upd (o:=.lst [.ref t]) hlb;have gF:=Sn (H:=HE) (a:=lb) (o:=.lst [.ref t]);generalize upd HE lb (.lst [.ref t])=HF at*;have sG:=Si.upd (o:=.tup [.int (9+cl),.int gn,.ref lb,.ref lt]) hq;have gG:=Sn (H:=HF) (a:=q) (o:=.tup [.int (9+cl),.int gn,.ref lb,.ref lt]);generalize upd HF q (.tup [.int (9+cl),.int gn,.ref lb,.ref lt])=HG at*;have sEG:=(sE.trans sF).trans sG;have btG:=(((bt.but b19.2 (((bA.same sB).same sC).trans bD)).same sE).same sF).same sG;have nz:=nms.2 z yah;refine k (.ref q) ⟨9+cl,gn,[⟨z,lo,lo+hi,lo+sv,rn,G⟩],Ts⟩ HG ((b1E.same sF).same sG) ⟨q,lb,lt,[.ref t],ts,rfl,gG,sG _ _ gF,⟨btG,True.intro⟩,sG _ _ (sF _ _ gE),TTL.map (λx B h=>h.same sEG) ttl,nlb,nlt⟩ ⟨by dsimp only;omega,by dsimp only;omega,by simp,λB hB=>?_,by simp,yae tn (by decide),tgd,td⟩ ⟨1,4,13,2,2,7,by decide,rfl,by dsimp only;omega,by dsimp only;omega,λB hB=>?_⟩
  ·rw [yal.mp hB];exact ⟨⟨by dsimp only;omega,by dsimp only;omega,by dsimp only;omega,by dsimp only;omega,gg⟩,nz.1,nz.2⟩
  ·rw [yal.mp hB];exact ⟨by dsimp only;omega,by dsimp only;omega,gm⟩
theorem Cap.tn {n:Nat} {s r m:Int} (h:Cap n s r m):∃L C S T:Nat,s=L/\r=C/\m=S/\atI [V.int 3,.int 3,.int 2,.int 1] ((n:Int) - 1)=some (.int T)/\1<=T/\T<=3/\(n,L,C,S,T,C)∈ [(1,7,5,4,3,5),(1,4,13,2,2,7),(2,4,3,2,3,3),(3,3,2,2,2,2),(4,2,2,2,1,2)]/\1<=n/\n<=4:=by
 rcases h with ⟨rfl,rfl,rfl,rfl⟩|⟨rfl,rfl,rfl,rfl⟩|⟨rfl,rfl,rfl,rfl⟩|⟨rfl,rfl,rfl,rfl⟩
 ·exact ⟨7,5,4,3,rfl,rfl,rfl,rfl,by decide⟩
 ·exact ⟨4,3,2,3,rfl,rfl,rfl,rfl,by decide⟩
 ·exact ⟨3,2,2,2,rfl,rfl,rfl,rfl,by decide⟩
 ·exact ⟨2,2,2,1,rfl,rfl,rfl,rfl,by decide⟩
inductive Yf7 (vs:List V) (H:Hp) (Q:VK) (z3:XK):Prop where
 |mk (c:Int) (_:vs= [.int c]) (_:∀(x:V) (R:Jpg) (p:S1) (H':Hp),H p=none->Si H H'->Sc9 H' p->Sfq p H' x R->Jst R->Ydd R->Q x H')
theorem Jzi {t1 t2:TS} {D:Sc2} {σ:L2.St} {H:Hp} (Mid:L2.St->Hp->Prop) (h1:∀R,(∀σ H,Mid σ H->R σ H)->t1 {D with nx:=R} σ H) (h2:∀σ H,Mid σ H->t2 D σ H):Skc t1 t2 D σ H:=h1 _ h2
theorem Ye {i:Nat} {v:V} {σ:L2.St} {H:Hp} {t1 t2:TS} {D:Sc2} (h:Skc t1 t2 D (σ.set i (some v)) H):Jq5 i v σ H (Sc2.nx {D with nx:=Skc t1 t2 D}):=h
theorem Sab:Jne ["_law_cell_here","_law_stream_here","_law_many","_law_cloud","_law_gain","_law_names_here","_law_basins","_law_towns","_law_name"] ["_law_cell_here"] (Jnb (top 84)):=%[|0]
theorem Jz7 (T:Tx K mg a):So P w K mg base CX0 4 a.Jln a.Jlo ["_law_cell_here"] Yf7:=by
 have Sl:=%[Jpr|1];have Sbw:=%[Jtv|1];have Sfx:=%[Jz5|1];have Sfy:=%[Jz6|1];have Scj:=%[Jsv|1];refine %[T.Ja6.fn.ok,Sab|2]
 ·obtain ⟨c,rfl,_⟩:=h;rfl
 ·obtain ⟨c,rfl,k⟩:=h;refine ⟨?t,?B,?C⟩
  case B=>
   refine' Sw ?O0 ?O1
   case O0=>exact (Jnk (i:=1) Sab.nd rfl (yak rfl) (Jna T.Ja0 Scj hr (by decide) (Sj (pv 0) Sk)))
   case O1=>
   refine' Sw ?O2 ?O3
   case O2=>exact (Jnk (i:=2) Sab.nd rfl (yak rfl) (Jnj Jnv Sr (Jno Joe (Jo3 (pa8 Sr Sr Sr Sr Sr Sr Sr Sr)) (Jna T.Ja1 Sl hr (by decide) (Sj (pv 1) (Sj Sr Sk))) (λ_ _=>rfl))))
   case O3=>
   refine' Sw ?O4 ?O5
   case O4=>
    refine' Jo1 ?O6 ?O7 ?O8
    case O6=>exact (PW.pt (Snm (Jo9 Jrh (pv 2) Sr (Joc _)) (Ygq (Jo9 Jrh (Jna T.Ja1 Sl hr (by decide) (Sj (pv 1) (Sj Sr Sk))) Sr (Joc _)))))
    case O7=>
     refine' Sy ?O9
     case O9=>exact (Jnh (Jna T.Ja5 Sfy hr (by decide) (Sj (pv 1) Sk)))
    case O8=>exact Jnn
   case O5=>
   refine' Sw ?Oa ?Ob
   case Oa=>exact (Jnk (i:=3) Sab.nd rfl (yf rfl) (Jna T.Ja1 Sl hr (by decide) (Sj (pv 1) (Sj (Jno Joe (Jo3 (pa4 Sr Sr Sr Sr)) (Jnj Joq (pv 2) Sr) (λ_ _=>rfl)) Sk))))
   case Ob=>
   refine' Sw ?Oc ?Od
   case Oc=>exact (Jnk (i:=4) Sab.nd rfl (yf rfl) (Jna T.Ja1 Sl hr (by decide) (Sj (pv 1) (Sj (Jnj Jnv (pv 3) Sr) Sk))))
   case Od=>
   refine' Sw ?Oe ?Of
   case Oe=>exact (Jnk (i:=5) Sab.nd rfl (yf rfl) (Jna T.Ja2 Sbw hr (by decide) (Sj (pv 1) (Sj (pv 2) Sk))))
   case Of=>
   refine' Sw ?Og ?Oh
   case Og=>exact (Ju1 (i:=6) (N:=(["_law_name","_law_stream_here","_law_many"]:List Str)) (ini:=[none,some 1,some 2]) Sab.nd rfl (yf rfl) rfl (Jo8 (pv 5)) (λ_ _ _ _ _=>(Jnf (i:=0) (by decide +kernel:(["_law_name","_law_stream_here","_law_many"]:List Str).Nodup) rfl (yf rfl))) (λ_ _ _ _ _=>Jnw) (λ_ _ _ _ _=>(Jna T.Ja4 Sfx hr (by decide) (Sj (pv 1) (Sj (pv 0) (Sj (pv 2) Sk))))))
   case Oh=>
   refine' Sw ?Oi ?Oj
   case Oi=>exact (Jnk (i:=7) Sab.nd rfl (yf rfl) (Jo3 Sk))
   case Oj=>
   refine' Sw ?Ok ?Ol
   case Ok=>
    refine' Jox ?Om ?On ?Oo ?Op ?Oq
    case Om=>exact PassesOwn.never
    case On=>exact rfl
    case Oo=>exact (Jo8 (Jpj Jw8 (Jna T.Ja2 Sbw hr (by decide) (Sj (pv 1) (Sj Sr Sk))) Jsi (Jp7 (Jna T.Ja1 Sl hr (by decide) (Sj (pv 1) (Sj (Jno Joe (Jo3 (pa4 Sr Sr Sr Sr)) (Jnj Joq (pv 2) Sr) (λ_ _=>rfl)) Sk))))))
    case Op=>exact (Jnf (i:=8) Sab.nd rfl (yf rfl))
    case Oq=>
    refine' Sy ?Or
    case Or=>exact (Jp5 (Jty F.plainAttrs_list F.slot_list_append F.type_list_append Jr4 (pv 7) (Sj (Jnz (Sj (pv 8) (Sj (Jno Joe (pv 5) (Jna T.Ja1 Sl hr (by decide) (Sj (pv 1) (Sj (pv 2) Sk))) (λ_ _=>rfl)) (Sj (Jnj Jnv Sr (Jna T.Ja1 Sl hr (by decide) (Sj (pv 1) (Sj Sr Sk)))) Sk)))) Sk)))
   case Ol=>
   refine' Sy ?Os
   case Os=>
   refine' Jnh ?Ot
   case Ot=>
   refine' Jnz ?Ou
   case Ou=>
   refine' pa4 ?Ov ?Ow ?Ox ?Oy
   case Ov=>exact (pv 3)
   case Ow=>exact (pv 4)
   case Ox=>exact (pv 6)
   case Oy=>exact (pv 7)
  refine ⟨_,rfl,c,rfl,λp H1 hp s1 st=>?_⟩;refine ⟨(show 8<=S6 by decide),λL0 hL0=>?_⟩;have nL0:L0≠p:=st.ne hL0;have b0:=But.of st (Si.upd (o:=.lst [V.int 0,V.int 0,V.int 1,V.int 1,V.int 1,V.int 2,V.int 2,V.int 3]) hL0);refine ⟨_,rfl,p,8,rfl,b0.2,by decide,by decide,λr3 H4 r30 r31 b1=>?_⟩;obtain ⟨n,m0,cs,cr,cm,hat,em,cap⟩:∃(n:Nat) (m0 cs cr cm:Int),atI [V.int 0,V.int 0,V.int 1,V.int 1,V.int 1,V.int 2,V.int 2,V.int 3] r3=some (.int m0)/\1+m0=n/\Cap n cs cr cm:=by
   have cs:r3=0\/r3=1\/r3=2\/r3=3\/r3=4\/r3=5\/r3=6\/r3=7:=by omega
   rcases cs with rfl|rfl|rfl|rfl|rfl|rfl|rfl|rfl
   ·exact ⟨1,0,_,_,_,rfl,rfl,.inl ⟨rfl,rfl,rfl,rfl⟩⟩
   ·exact ⟨1,0,_,_,_,rfl,rfl,.inl ⟨rfl,rfl,rfl,rfl⟩⟩
   ·exact ⟨2,1,_,_,_,rfl,rfl,.inr (.inl ⟨rfl,rfl,rfl,rfl⟩)⟩
   ·exact ⟨2,1,_,_,_,rfl,rfl,.inr (.inl ⟨rfl,rfl,rfl,rfl⟩)⟩
   ·exact ⟨2,1,_,_,_,rfl,rfl,.inr (.inl ⟨rfl,rfl,rfl,rfl⟩)⟩
   ·exact ⟨3,2,_,_,_,rfl,rfl,.inr (.inr (.inl ⟨rfl,rfl,rfl,rfl⟩))⟩
   ·exact ⟨3,2,_,_,_,rfl,rfl,.inr (.inr (.inl ⟨rfl,rfl,rfl,rfl⟩))⟩
   ·exact ⟨4,3,_,_,_,rfl,rfl,.inr (.inr (.inr ⟨rfl,rfl,rfl,rfl⟩))⟩
  refine ⟨L0,_,r3,_,rfl,rfl,Ss.of (b1.1 _ _ nL0 Sn),hat,_,_,rfl,rfl,?_⟩;rw [em];obtain ⟨a1,a2,a3,bs_,br,bm⟩:=cap.at;obtain ⟨CL,CC,CS,CT,e1,e2,e3,a4,ct1,ct3,mem,n1,n4⟩:=cap.tn;have b5:=b0.trans b1;refine Ye ?_;refine Jzi (λσ H'=>σ= [some (.int c),some (.ref p),some (.int n),none,none,none,none,none,none]/\But p H1 H') (λR hR=>?_) ?_
  ·refine ⟨_,rfl,rfl,_,rfl,Sj8 (λ_=>?_) (λ_=>hR _ _ ⟨rfl,b5⟩)⟩;refine ⟨_,rfl,p,6,rfl,b5.2,by decide,by decide,λr6 H5 _ _ b6=>⟨rfl,_,rfl,Sj8 (λ_=>?_) (λ_=>hR _ _ ⟨rfl,b5.trans b6⟩)⟩⟩;have b56:=b5.trans b6;exact ⟨_,rfl,p,rfl,b6.2,λx R' H6 b7 rt rg rl=>k x R' p H6 hp (λy u e=>(b56.trans b7).1 _ _ (Jnd e hp) (s1 _ _ e)) (b56.trans b7).2 rt rg rl⟩
  rintro σ H5' ⟨rfl,b5'⟩;refine ⟨_,rfl,(show 4<=S6 by decide),λL1 hL1=>?_⟩;have c5:=b5'.same (Si.upd (o:=.lst [V.int 5,.int 3,.int 2,.int 2]) hL1);refine ⟨_,rfl,_,_,rfl,rfl,L1,_,_,_,rfl,rfl,Ss.of Sn,a2,p,cr,rfl,c5.2,by omega,Jpx (by omega),λcl H5 c0 c1 b6=>?_⟩;refine ⟨_,rfl,_,rfl,_,_,rfl,rfl,p,cl+1,rfl,b6.2,by omega,Jpx (by omega),λgn H6 g0 g1 b7=>?_⟩;refine ⟨_,rfl,_,rfl,p,n,rfl,b7.2,by omega,λl zs H7 hl b8 hl7 len nms=>?_⟩;have b57:=(c5.trans b6).trans (b7.trans b8);have nlp:l≠p:=b7.2.ne hl;refine ⟨_,rfl,l,rfl,⟨_,Ss.of hl7⟩,λD hD=>?_⟩;have nD:D≠p:=b57.2.ne hD;refine Joz (K:=K) (a:=l) (xs:=zs.map V.str) (D:=D) (λi σ H'=>∃(o:Option V) (bs:List V) (Bs:List Jpt),σ= [o,some (.ref p),some (.int n)]/\H' D=some (.lst bs)/\BTL p H' bs Bs/\Bs.length=i/\(∀B∈Bs,Jxu B)/\(∀B∈Bs,Lgt cs cr cm B)/\Bs.map (·.z)=zs.take i/\But p H7 H') ?_ ?_ ?_ ?_
  ·exact ⟨_,[],[],rfl,Sn,True.intro,rfl,(λB hB=>absurd hB (by simp)),(λB hB=>absurd hB (by simp)),rfl,But.of b57.2 (Si.upd hD)⟩
  ·rintro i σ H' _ ⟨o,bs,Bs,rfl,_,_,_,_,_,_,b⟩;exact Ss.of (b.1 _ _ nlp hl7)
  ·rintro i x σ H' hx ⟨o,bs,Bs,rfl,hDs,btl,hln,good,lgt,names,b⟩;rw [yi] at hx;cases ez:zs[i]? with
   |none=>rw [ez] at hx;cases hx
   |some z=>
    rw [ez] at hx;cases hx;have hi:i < zs.length:=(yj.mp ez).1;refine Jor ⟨_,rfl,_,rfl,_,rfl,p,z,n,cs,cr,cm,rfl,b.2,cap,λx B H8 b9 bt bg bz bl=>?_⟩;have btl8:=BTL.map (λx B _ h=>h.but b.2 b9) good btl;have hD8:=b9.1 _ _ nD hDs;have blen:=btl.len;refine ⟨bs,hD8,Jo6 (by omega),_,bs++ [x],Bs++ [B],rfl,Sn,?_,by rw [yab];show Bs.length+1=i+1;omega,?_,?_,?_,(b.trans b9).updD hD nD⟩
    ·exact BTL.snoc (bt.put bg hD8 btl.refs) (BTL.map (λx B g h=>h.put g hD8 btl.refs) good btl8)
    ·intro B' hB';rcases yay.mp hB' with h|h
     ·exact good B' h
     ·rw [yal.mp h];exact bg
    ·intro B' hB';rcases yay.mp hB' with h|h
     ·exact lgt B' h
     ·rw [yal.mp h];exact bl
    ·rw [yag,names,yr,ez,List.map_singleton,bz];rfl
  rintro σ H8 ⟨o,bs,Bs,rfl,hDs,btl,hln,good,lgt,names,b9⟩;rw [ye] at hln names;rw [ybo] at names;have st8:Sc9 H8 p:=b9.2;have hl8:=b9.1 _ _ nlp hl7;refine ⟨(show 0<=S6 by decide),λlt hlt=>?_⟩;have nlt:lt≠p:=st8.ne hlt;have sA:=Si.upd (o:=.lst []) hlt;have bA:=But.of st8 sA;refine ⟨_,rfl,p,2,rfl,bA.2,by omega,λl2 ys HB hl2 bB hB len2 nms2=>?_⟩;have nl2:l2≠p:=bA.2.ne hl2;refine ⟨_,rfl,(show 4<=S6 by decide),λL4 hL4=>?_⟩;have cB:=bB.same (Si.upd (o:=.lst [V.int 3,.int 3,.int 2,.int 1]) hL4);refine ⟨_,rfl,_,_,rfl,rfl,L4,_,_,_,rfl,rfl,Ss.of Sn,a4,p,CT,rfl,cB.2,by omega,Jpx (by omega),λr4 HC r40 r41 bC=>⟨_,rfl,l2,_,rfl,Ss.of (bC.1 _ _ nl2 ((Si.upd hL4) _ _ hB)),λq hq=>?_⟩⟩;obtain ⟨us,eu,hus,ul4⟩:∃us:List Str,Jqt (ys.map V.str) none (some r4)=us.map V.str/\us.Sublist ys/\us.length < CT:=by
   obtain ⟨k4,rfl⟩:=ybs r40;refine ⟨ys.take k4,by rw [Ydo _ k4 (by rw [ye];omega),List.map_take],List.take_sublist _ _,?_⟩;rw [yaa];omega
  rw [eu];have bD:=(bA.trans cB).trans bC;have nq:q≠p:=bD.2.ne hq;have hltC:HC lt=some (.lst []):=bC.1 _ _ nlt (cB.1 _ _ nlt Sn);have nql:q≠lt:=λe=>by rw [e,hltC] at hq;cases hq
  have sq:=Si.upd (o:=.lst (us.map V.str)) hq;have ul:us.length<=3:=by
   have:=hus.length_le;omega
  refine ⟨q,rfl,⟨_,Ss.of Sn⟩,?_⟩;refine Jph (xs:=us.map V.str) (λi σ H'=>∃(o:Option V) (ts:List V) (Ts:List Jqx),σ= [some (.int c),some (.ref p),some (.int n),some (.int cl),some (.int gn),some (.ref l),some (.ref D),some (.ref lt),o]/\H' lt=some (.lst ts)/\TTL H' ts Ts/\Ts.length=i/\Ts.map (·.z)=us.take i/\(∀B∈Ts,B.b∈zs/\1<=B.wt/\B.wt<=6)/\But p H8 H'/\H' q=some (.lst (us.map V.str))) ?_ ?_ ?_ ?_
  ·exact ⟨_,[],[],rfl,sq _ _ hltC,True.intro,rfl,rfl,λB hB=>absurd hB (by simp),bD.same sq,Sn⟩
  ·rintro i σ H' _ ⟨_,_,_,_,_,_,_,_,_,_,h⟩;exact Ss.of h
  ·rintro i x σ H' hx ⟨o,ts,Ts,rfl,hts,ttl,tln,tnm,tgd,b,hq'⟩;rw [yi] at hx;cases ez:us[i]? with
   |none=>rw [ez] at hx;cases hx
   |some u=>
    rw [ez] at hx;cases hx;have hi:i < us.length:=(yj.mp ez).1;have tlen:=ttl.len;refine ⟨_,rfl,.inl ⟨rfl,_,Ss.of hts⟩,_,rfl,_,rfl,_,rfl,_,rfl,p,n,rfl,b.2,by omega,Jpx (by omega),λr5 HE e0 e1 bE=>?_⟩;have hr5:r5.toNat < zs.length:=by omega
    refine ⟨l,_,r5,.str zs[r5.toNat],rfl,rfl,Ss.of (bE.1 _ _ nlp (b.1 _ _ nlp hl8)),Jsx (j:=r5.toNat) (by omega) (by rw [yi,yh hr5];rfl),?_⟩;refine ⟨_,rfl,p,3,rfl,bE.2,by decide,by decide,λr6 HF f0 f1 bF=>⟨_,_,rfl,rfl,(show 3<=S6 by decide),λt ht=>?_⟩⟩;have bG:=bE.trans bF;have htsF:=bG.1 _ _ nlt hts;have sT:=Si.upd (o:=.tup [.str u,.str zs[r5.toNat],.int (1+r6)]) ht;refine ⟨lt,_,_,rfl,rfl,sT _ _ htsF,Jo6 (by omega),?_⟩;refine ⟨_,ts++ [.ref t],Ts++ [⟨u,zs[r5.toNat],1+r6⟩],rfl,Sn,?_,by rw [yab];show Ts.length+1=i+1;omega,?_,?_,((b.trans bG).same sT).updD hlt nlt,?_⟩
    ·refine TTL.snoc ?_ (TTL.map (λx B h=>(((h.but b.2 bG).same sT).put (sT _ _ htsF))) ttl);exact Sdz.put (sT _ _ htsF) ⟨t,rfl,Sn⟩
    ·rw [yag,tnm,yr,ez];rfl
    ·intro B hB;rcases yay.mp hB with h|h
     ·exact tgd B h
     ·rw [yal.mp h];exact ⟨yaq hr5,by dsimp only;omega,by dsimp only;omega⟩
    ·rw [Jnc nql];exact sT _ _ (bG.1 _ _ nq hq')
  ·rintro σ HZ ⟨o,ts,Ts,rfl,hts,ttl,tln,tnm,tgd,b,_⟩;rw [ye] at tln tnm;rw [ybo] at tnm;refine ⟨_,rfl,_,rfl,_,rfl,_,rfl,(show 4<=S6 by decide),λt ht=>?_⟩;have sT:=Si.upd (o:=.tup [.int cl,.int gn,.ref D,.ref lt]) ht;have bZ:=((b57.trans b9).trans b).same sT;refine k (.ref t) ⟨cl,gn,Bs,Ts⟩ p _ hp (λx u e=>bZ.1 _ _ (Jnd e hp) (s1 _ _ e)) bZ.2 ⟨t,D,lt,bs,ts,rfl,Sn,sT _ _ (b.1 _ _ nD hDs),BTL.map (λx B _ h=>(h.but st8 b).same sT) good btl,sT _ _ hts,TTL.map (λx B h=>h.same sT) ttl,nD,nlt⟩ ?_ ?_
   ·refine ⟨by dsimp only;omega,by dsimp only;omega,by dsimp only;omega,λB hB=>⟨good B hB,nms.2 _ (by rw [<-names];exact ybc hB)⟩,by dsimp only;rw [names];exact nms.1,by dsimp only;omega,λB hB=>?_,?_⟩
    ·have hu:B.z∈us:=by rw [<-tnm];exact ybc hB
     have h1:=nms2.2 _ (hus.subset hu);have h2:=tgd B hB;exact ⟨h1.1,h1.2,by dsimp only;rw [names];exact h2.1,h2.2⟩
    ·dsimp only;rw [tnm];exact hus.nodup nms2.1
   ·exact ⟨n,CL,CC,CS,CT,CC,mem,by dsimp only;omega,by dsimp only;omega,by dsimp only;omega,by rw [<-e1,<-e2,<-e3];exact lgt⟩
noncomputable def nOf (G:Jnt):Nat:=match G.sv with
 |some _=>1
 |none=>G.ns.length
inductive GX (a:Ad) (H:Hp) (x:V) (G:Jnt):Prop where
 |mk (g:S1) (_:Sc7 (cOf a G.kd) H g (G.ns.map V.int)) (_:match G.sv with|none=>x= .ref g|some j=>∃s dx,x= .ref s/\H s=some (.ins a.Jn0 dx [("gate",.ref g),("setting",.int j)]))
theorem GX.same {a:Ad} {H H':Hp} {x:V} {G:Jnt} (s:Si H H') (h:GX a H x G):GX a H' x G:=by
 obtain ⟨g,ga,r⟩:=h;refine ⟨g,ga.same s,?_⟩;cases e:G.sv with
 |none=>rw [e] at r;exact r
 |some j=>
  rw [e] at r;obtain ⟨q,dx,r1,r2⟩:=r;exact ⟨q,dx,r1,s _ _ r2⟩
theorem GX.gs {K:Sd} {a:Ad} {H:Hp} {x:V} {G:Jnt} (gg:Sbk G) (h:GX a H x G):GS K a H x (nOf G):=by
 obtain ⟨g,ga,r⟩:=h;unfold nOf;cases e:G.sv with
 |none=>
  rw [e] at r;subst r;have q:=GS.plain (K:=K) Ydj ga (by rw [ye];exact gg.len.2);rw [ye] at q;exact q
 |some j=>
  rw [e] at r;obtain ⟨q,dx,rfl,r2⟩:=r;exact .stuck r2
inductive Yf9 (a:Ad) (b:Nat) (vs:List V) (H:Hp) (Q:VK) (z3:XK):Prop where
 |mk (p:S1) (x:V) (G:Jnt) (_:vs= [x]) (_:Sdm p H x G) (_:Sbk G) (_:1<=b) (_:(G.sv=none\/2<=b)) (_:∀(g:V) (H':Hp),Si H H'->GX a H' g G->Q g H')
inductive Sxp (K:Sd) (a:Ad) (vs:List V) (H:Hp) (Q:VK) (z3:XK):Prop where
 |mk (p:S1) (x:V) (G:Jnt) (_:vs= [x]) (_:Sdm p H x G) (_:Sbk G) (_:∀(g:V) (H':Hp),Si H H'->GX a H' g G->Q g H')
theorem Jzp {H:Hp} {ns:List Int} {y:V} (h:y∈ns.map V.int):Tm K H y:=by
 obtain ⟨i,_,rfl⟩:=yn.mp h;exact .inl ⟨i,rfl⟩
theorem Jwh {C:S1} {lo:Int} {x:V} {H:Hp} {Q1:Hp->Prop} {E:XK} {g dx:S1} (c:Cls K C) (n:NoAttr K C "marks") (hg:H g=none) (hd:H dx=none) (ne:dx≠g)
  (h:∃xs,Sq H x xs/\(∀y∈xs,Tm K H y)/\Jrk lo xs=true/\∀H',Si H H'->Sc7 C H' g xs->Q1 H'):
  Jzk K a lo [.ref g,x] (upd (upd H dx (.own g)) g (.ins C dx [])) (λv H2=>v= .non/\Q1 H2) E:=by
 have s1:Si H (upd (upd H dx (.own g)) g (.ins C dx [])):=λb o e=>by rw [Jnc (Jnd e hg),Jnc (Jnd e hd)];exact e
 refine ⟨g,C,dx,x,rfl,Sn,c,n,?_⟩;obtain ⟨xs,sq,tms,e,k⟩:=h;refine .inl ⟨xs,sq.same s1,λy hy=>(tms y hy).same s1,e,λt H' s' ht=>⟨rfl,?_⟩⟩;have ng:t≠g:=Sl5 ht (s' _ _ Sn) (by intro z;cases z);exact k _ (λb o e=>by rw [Jnc (Jnd e hg)];exact s' _ _ (s1 _ _ e)) ⟨dx,t,Sn,by rw [Jnc ng];exact ht⟩
theorem Jv0:Jne ["_law_told"] ["_law_told"] (Jnb (top 85)):=%[|0]
theorem Jqp (T:Tx K mg a) (b:Nat) (Sbm:So P w K mg base CX0 (5+b) a.Jlp a.Jlq ["_law_told"] (Yf9 a b)):So P w K mg base CX0 (5+b+1) a.Jlp a.Jlq ["_law_told"] (Yf9 a (b+1)):=by
 have Sdp:=%[Juq|1];have Sdn:=%[Juo|1];have Sdo:=%[Jup|1];have Sd8:=%[Jtu|1];refine %[T.Ja7.fn.ok,Jv0|2]
 ·obtain ⟨p,x,G,rfl,_⟩:=h;rfl
 ·obtain ⟨p,x,⟨kd,ns,sv⟩,rfl,⟨t,m,rfl,hm,nm,hc⟩,gg,hb1,hb2,k⟩:=h;refine ⟨?t,?B,?C⟩
  case B=>
   refine' Sw ?O0 ?O1
   case O0=>
    refine' Jo1 ?O2 ?O3 ?O4
    case O2=>exact (Jo9 Jrh (Jng Jnm (by rfl) T.Jay Joh (Sj (pv 0) Sk)) Sr (Joc _))
    case O3=>
     refine' Sy ?O5
     case O5=>exact (Jnh (Jqd T.Jf4 Sd8.calm (hr.mono (by omega)) (by rfl) T.Jbr T.Jdp.bd .nil Jpa (Sj (Jna T.Ja7 Sbm hr (yg _) (Sj (Jnz (Sj (Jno Jns (pv 0) Sr (λ_ _=>rfl)) (Sj (Jno Jns (pv 0) Sr (λ_ _=>rfl)) Sk))) Sk)) (Sj (Jno Jns (pv 0) Sr (λ_ _=>rfl)) Sk))))
    case O4=>exact Jnn
   case O1=>
   refine' Sw ?O6 ?O7
   case O6=>
    refine' Jo1 ?O8 ?O9 ?Oa
    case O8=>exact (Jo9 Jrh (Jno Jns (pv 0) Sr (λ_ _=>rfl)) Jpf (Joc _))
    case O9=>
     refine' Sy ?Ob
     case Ob=>exact (Jnh (Jqd T.Jem Sdp.calm (hr.mono (by omega)) (by rfl) T.Jbo T.Jdg.bd .nil Jpa (Sj (Jny Jpv (by rfl) T.Jaz Jpu (Sj (Jno Jns (pv 0) Sr (λ_ _=>rfl)) Sk)) Sk)))
    case Oa=>exact Jnn
   case O7=>
   refine' Sw ?Oc ?Od
   case Oc=>
    refine' Jo1 ?Oe ?Of ?Og
    case Oe=>exact (Jo9 Jrh (Jno Jns (pv 0) Sr (λ_ _=>rfl)) Jpf (Joc _))
    case Of=>
     refine' Sy ?Oh
     case Oh=>exact (Jnh (Jqd T.Jes Sdn.calm (hr.mono (by omega)) (by rfl) T.Jbp T.Jdj.bd .nil Jpa (Sj (Jny Jpv (by rfl) T.Jaz Jpu (Sj (Jno Jns (pv 0) Sr (λ_ _=>rfl)) Sk)) Sk)))
    case Og=>exact Jnn
   case Od=>
   refine' Sy ?Oi
   case Oi=>exact (Jnh (Jqd T.Jey Sdo.calm (hr.mono (by omega)) (by rfl) T.Jbq T.Jdm.bd .nil Jpa (Sj (Jny Jpv (by rfl) T.Jaz Jpu (Sj (Jno Jns (pv 0) Sr (λ_ _=>rfl)) Sk)) Sk)))
  have hkd:Knd kd:=gg.kd;have har:Jrk (Jqu kd) (ns.map V.int)=true:=gg.ns;have hsv:∀i,sv=some i->0<=i/\i < (ns.length:Int):=gg.sv;have hlen:=gg.len;dsimp only at hc hlen;rcases hc with ⟨rfl,ht⟩|⟨j,m2,rfl,ht,hm2,nm2⟩
  ·have hm':H m=some (.lst (ns.map V.int)):=hm;refine ⟨_,rfl,t,_,rfl,.inr (Su.of ht),rfl,_,rfl,Y9 (λz=>absurd (V.int.inj z) (show (2:Int)≠4 by decide)) ?_⟩;rcases hkd with rfl|rfl|rfl
   ·have e1:Jqu "step" =0:=if_neg Srl;have e2:cOf a "step" =a.Jmx:=if_pos rfl;have hr':Jrk (0) (ns.map V.int)=true:=by rw [<-e1];exact har
    refine ⟨_,rfl,t,_,0,_,rfl,rfl,Su.of ht,rfl,rfl,_,rfl,Yak rfl ⟨_,rfl,t,_,1,_,rfl,rfl,Su.of ht,rfl,m,_,rfl,.inl (Ss.of hm'),λl hl g dx hg hd ne=>Jwh T.Jek T.Jg3 hg hd ne ⟨ns.map V.int,.lst Sn,λy hy=>Jzp hy,hr',λH' s' ga=>?_⟩⟩⟩;exact k _ _ ((Si.upd hl).trans s') ⟨g,by rw [e2];exact ga,rfl⟩
   ·have e1:Jqu "flap" =0:=if_neg Srk;have e2:cOf a "flap" =a.Jmy:=by unfold cOf;rw [if_neg Jyg,if_pos rfl]
    have hr':Jrk (0) (ns.map V.int)=true:=by rw [<-e1];exact har
    refine ⟨_,rfl,t,_,0,_,rfl,rfl,Su.of ht,rfl,rfl,_,rfl,Y9 (Sok Jyg) ⟨_,rfl,t,_,0,_,rfl,rfl,Su.of ht,rfl,rfl,_,rfl,Yak rfl ⟨_,rfl,t,_,1,_,rfl,rfl,Su.of ht,rfl,m,_,rfl,.inl (Ss.of hm'),λl hl g dx hg hd ne=>Jwh T.Jeq T.Jg4 hg hd ne ⟨ns.map V.int,.lst Sn,λy hy=>Jzp hy,hr',λH' s' ga=>?_⟩⟩⟩⟩;exact k _ _ ((Si.upd hl).trans s') ⟨g,by rw [e2];exact ga,rfl⟩
   ·have e1:Jqu "part" =1:=if_pos rfl;have e2:cOf a "part" =a.Jmz:=by unfold cOf;rw [if_neg Jyi,if_neg Jyh]
    have hr':Jrk (1) (ns.map V.int)=true:=by rw [<-e1];exact har
    refine ⟨_,rfl,t,_,0,_,rfl,rfl,Su.of ht,rfl,rfl,_,rfl,Y9 (Sok Jyi) ⟨_,rfl,t,_,0,_,rfl,rfl,Su.of ht,rfl,rfl,_,rfl,Y9 (Sok Jyh) ⟨_,rfl,t,_,1,_,rfl,rfl,Su.of ht,rfl,m,_,rfl,.inl (Ss.of hm'),λl hl g dx hg hd ne=>Jwh T.Jew T.Jg5 hg hd ne ⟨ns.map V.int,.lst Sn,λy hy=>Jzp hy,hr',λH' s' ga=>?_⟩⟩⟩⟩;exact k _ _ ((Si.upd hl).trans s') ⟨g,by rw [e2];exact ga,rfl⟩
  ·have hj:=hsv j rfl;have b1:1<=b:=by
    rcases hb2 with h|h
    ·cases h
    ·omega
   refine ⟨_,rfl,t,_,rfl,.inr (Su.of ht),rfl,_,rfl,Yak rfl ?_⟩;refine ⟨_,rfl,t,_,0,_,rfl,rfl,Su.of ht,rfl,_,rfl,t,_,2,_,rfl,rfl,Su.of ht,rfl,(show 2<=S6 by decide),λq hq=>?_⟩;have sq:=Si.upd (o:=.tup [.str kd,.ref m2]) hq;refine ⟨p,_,⟨kd,ns,none⟩,rfl,⟨q,m2,rfl,sq _ _ hm2,nm2,.inl ⟨rfl,Sn⟩⟩,⟨hkd,har,λ_ z=>by cases z⟩,b1,.inl rfl,λgv H1 s1 gx=>?_⟩;obtain ⟨g,ga,rfl⟩:=gx;have s01:=sq.trans s1;have gs:GS K a H1 (.ref g) ns.length:=by
    have q:=GS.plain (K:=K) Ydj ga (by rw [ye];exact hlen.2);rw [ye] at q;exact q
   refine ⟨_,rfl,t,_,3,_,rfl,rfl,Su.of (s01 _ _ ht),rfl,λx dx hx hdx ne=>?_⟩;have sn:Si H1 (upd (upd H1 dx (.own x)) x (.ins a.Jn0 dx [])):=λb o e=>by rw [Jnc (Jnd e hx),Jnc (Jnd e hdx)];exact e
   refine ⟨x,dx,_,.int j,rfl,Sn,.inr (.inr ⟨ns.length,gs.same sn,.inl ⟨j,rfl⟩,by simp [Jnp];omega,rfl,?_⟩)⟩;have sx:Si H1 (upd (upd (upd H1 dx (.own x)) x (.ins a.Jn0 dx [])) x (.ins a.Jn0 dx [("gate",.ref g),("setting",.int j)])):=by
    rw [Jp8];exact λb o e=>by rw [Jnc (Jnd e hx),Jnc (Jnd e hdx)];exact e
   exact k _ _ (s01.trans sx) ⟨g,ga.same sx,x,dx,rfl,Sn⟩
theorem Jut (T:Tx K mg a):So P w K mg base CX0 7 a.Jlp a.Jlq ["_law_told"] (Sxp K a):=by
 have h0:So P w K mg base CX0 (5+0) a.Jlp a.Jlq ["_law_told"] (Yf9 a 0):=by
  refine ⟨λvs H Q E h=>?_,λA outer s H args us vs Q E hr he hb hv h=>?_⟩ <;>
  ·obtain ⟨_,_,_,_,_,_,z,_⟩:=h;exact absurd z (by omega)
 refine (Jqp T 1 (Jqp T 0 h0)).imp λvs H Q E h=>?_;obtain ⟨p,x,G,e,gt,gg,k⟩:=h;exact ⟨p,x,G,e,gt,gg,by omega,.inr (by omega),k⟩
theorem GS.put {K:Sd} {a:Ad} {H:Hp} {x:V} {n:Nat} {D:S1} {bs:List V} {o:HO} (hD:H D=some (.lst bs)) (h:GS K a H x n):GS K a (upd H D o) x n:=by
 cases h with
 |plain i g l=>
  obtain ⟨dx,t,h1,h2⟩:=g;exact .plain i ⟨dx,t,by rw [Jnc (λz=>by rw [z,hD] at h1;cases h1)];exact h1,by rw [Jnc (λz=>by rw [z,hD] at h2;cases h2)];exact h2⟩ l
 |stuck e=>exact .stuck (by rw [Jnc (λz=>by rw [z,hD] at e;cases e)];exact e)
theorem Sce.put {K:Sd} {a:Ad} {H:Hp} {b D:S1} {B:Bsn} {bs:List V} {o:HO} (hD:H D=some (.lst bs)) (h:Sce K a H b B):Sce K a (upd H D o) b B:=by
 obtain ⟨dx,h1,h2⟩:=h;exact ⟨dx,by rw [Jnc (λz=>by rw [z,hD] at h1;cases h1)];exact h1,h2.put hD⟩
theorem Sc1.map {K:Sd} {a:Ad} {H H':Hp} (f:∀x B,Sce K a H x B->Sce K a H' x B):∀{xs:List S1} {Bs:List Bsn},Sc1 K a H xs Bs->Sc1 K a H' xs Bs:=by
 intro xs
 induction xs with
 |nil=>
  intro Bs h;cases Bs with
  |nil=>exact True.intro
  |cons B Bs=>exact False.elim h
 |cons x xs ih=>
  intro Bs h;cases Bs with
  |nil=>exact False.elim h
  |cons B Bs=>exact ⟨f _ _ (yas h),ih (yam h)⟩
theorem Sc1.snoc {K:Sd} {a:Ad} {H:Hp} {x:S1} {B:Bsn} (h:Sce K a H x B):∀{xs:List S1} {Bs:List Bsn},Sc1 K a H xs Bs->Sc1 K a H (xs++ [x]) (Bs++ [B]):=by
 intro xs
 induction xs with
 |nil=>
  intro Bs q;cases Bs with
  |nil=>exact ⟨h,True.intro⟩
  |cons B Bs=>exact False.elim q
 |cons x xs ih=>
  intro Bs q;cases Bs with
  |nil=>exact False.elim q
  |cons B Bs=>exact ⟨yas q,ih (yam q)⟩
theorem Scp.put {a:Ad} {H:Hp} {b D:S1} {B:Twn} {bs:List V} {o:HO} (hD:H D=some (.lst bs)) (h:Scp a H b B):Scp a (upd H D o) b B:=by
 obtain ⟨dx,h1⟩:=h;exact ⟨dx,by rw [Jnc (λz=>by rw [z,hD] at h1;cases h1)];exact h1⟩
theorem Sca.map {a:Ad} {H H':Hp} (f:∀x B,Scp a H x B->Scp a H' x B):∀{xs:List S1} {Bs:List Twn},Sca a H xs Bs->Sca a H' xs Bs:=by
 intro xs
 induction xs with
 |nil=>
  intro Bs h;cases Bs with
  |nil=>exact True.intro
  |cons B Bs=>exact False.elim h
 |cons x xs ih=>
  intro Bs h;cases Bs with
  |nil=>exact False.elim h
  |cons B Bs=>exact ⟨f _ _ (yas h),ih (yam h)⟩
theorem Sca.snoc {a:Ad} {H:Hp} {x:S1} {B:Twn} (h:Scp a H x B):∀{xs:List S1} {Bs:List Twn},Sca a H xs Bs->Sca a H (xs++ [x]) (Bs++ [B]):=by
 intro xs
 induction xs with
 |nil=>
  intro Bs q;cases Bs with
  |nil=>exact ⟨h,True.intro⟩
  |cons B Bs=>exact False.elim q
 |cons x xs ih=>
  intro Bs q;cases Bs with
  |nil=>exact False.elim q
  |cons B Bs=>exact ⟨yas q,ih (yam q)⟩
theorem BTL.get {p:S1} {H:Hp}:∀{xs:List V} {Bs:List Jpt} {i:Nat} {x:V},BTL p H xs Bs->xs[i]?=some x->∃B,Bs[i]?=some B/\Sdl p H x B:=by
 intro xs
 induction xs with
 |nil=>intro Bs i x h e;simp at e
 |cons x xs ih=>
  intro Bs i y h e;cases Bs with
  |nil=>exact False.elim h
  |cons B Bs=>
   cases i with
   |zero=>cases e;exact ⟨B,rfl,yas h⟩
   |succ i=>exact @ih Bs i _ (yam h) (by simpa using e)
theorem TTL.get {H:Hp}:∀{xs:List V} {Bs:List Jqx} {i:Nat} {x:V},TTL H xs Bs->xs[i]?=some x->∃B,Bs[i]?=some B/\Sdz H x B:=by
 intro xs
 induction xs with
 |nil=>intro Bs i x h e;simp at e
 |cons x xs ih=>
  intro Bs i y h e;cases Bs with
  |nil=>exact False.elim h
  |cons B Bs=>
   cases i with
   |zero=>cases e;exact ⟨B,rfl,yas h⟩
   |succ i=>exact @ih Bs i _ (yam h) (by simpa using e)
theorem GX.put {a:Ad} {H:Hp} {x:V} {G:Jnt} {D:S1} {bs:List V} {o:HO} (hD:H D=some (.lst bs)) (h:GX a H x G):GX a (upd H D o) x G:=by
 obtain ⟨g,⟨dx,t,h1,h2⟩,r⟩:=h;refine ⟨g,⟨dx,t,by rw [Jnc (λz=>by rw [z,hD] at h1;cases h1)];exact h1,by rw [Jnc (λz=>by rw [z,hD] at h2;cases h2)];exact h2⟩,?_⟩;cases e:G.sv with
 |none=>rw [e] at r;exact r
 |some j=>
  rw [e] at r;obtain ⟨q,dx,r1,r2⟩:=r;exact ⟨q,dx,r1,by rw [Jnc (λz=>by rw [z,hD] at r2;cases r2)];exact r2⟩
noncomputable def GXL (a:Ad) (H:Hp):List V->List Jnt->Prop
 | [],[]=>True
 |x::xs,G::Gs=>GX a H x G/\GXL a H xs Gs
 |_,_=>False
theorem GXL.map {a:Ad} {H H':Hp} (f:∀x G,GX a H x G->GX a H' x G):∀{xs:List V} {Gs:List Jnt},GXL a H xs Gs->GXL a H' xs Gs:=by
 intro xs
 induction xs with
 |nil=>
  intro Bs h;cases Bs with
  |nil=>exact True.intro
  |cons B Bs=>exact False.elim h
 |cons x xs ih=>
  intro Bs h;cases Bs with
  |nil=>exact False.elim h
  |cons B Bs=>exact ⟨f _ _ (yas h),ih (yam h)⟩
theorem GXL.snoc {a:Ad} {H:Hp} {x:V} {G:Jnt} (h:GX a H x G):∀{xs:List V} {Gs:List Jnt},GXL a H xs Gs->GXL a H (xs++ [x]) (Gs++ [G]):=by
 intro xs
 induction xs with
 |nil=>
  intro Bs q;cases Bs with
  |nil=>exact ⟨h,True.intro⟩
  |cons B Bs=>exact False.elim q
 |cons x xs ih=>
  intro Bs q;cases Bs with
  |nil=>exact False.elim q
  |cons B Bs=>exact ⟨yas q,ih (yam q)⟩
theorem GXL.get {a:Ad} {H:Hp}:∀{xs:List V} {Gs:List Jnt} {i:Nat} {x:V},GXL a H xs Gs->xs[i]?=some x->∃G,Gs[i]?=some G/\GX a H x G:=by
 intro xs
 induction xs with
 |nil=>intro Bs i x h e;simp at e
 |cons x xs ih=>
  intro Bs i y h e;cases Bs with
  |nil=>exact False.elim h
  |cons B Bs=>
   cases i with
   |zero=>cases e;exact ⟨B,rfl,yas h⟩
   |succ i=>exact @ih Bs i _ (yam h) (by simpa using e)
theorem GXL.same {a:Ad} {H H':Hp} {xs:List V} {Gs:List Jnt} (s:Si H H') (h:GXL a H xs Gs):GXL a H' xs Gs:=h.map λ_ _ h=>h.same s
noncomputable def Jtm (B:Bsn):Str×Int×Int×Int×Int×Nat:=(B.z,B.lo,B.hi,B.st,B.rn,B.n)
noncomputable def Jvs (B:Jpt):Str×Int×Int×Int×Int×Nat:=(B.z,B.lo,B.hi,B.st,B.rn,nOf B.G)
structure Jvf (R:Jpg) (S:Riv):Prop where
 c:S.c=R.c
 g:S.g=R.g
 Bs:S.Bs.map Jtm=R.Bs.map Jvs
 Ts:S.Ts.map (λB=>(B.z,B.b,B.wt))=R.Ts.map (λB=>(B.z,B.b,B.wt))
inductive Yh2 (K:Sd) (a:Ad) (vs:List V) (H:Hp) (Q:VK) (z3:XK):Prop where
 |mk (p:S1) (x:V) (R:Jpg) (_:vs= [x]) (_:Sfq p H x R) (_:Jst R) (_:∀(o:S1) (S:Riv) (H':Hp),Si H H'->Sal K a H' o S->Jvf R S->GXL a H' (S.Bs.map (·.g)) (R.Bs.map (·.G))->Q (.ref o) H')
theorem GS.gti {H:Hp} {x:V} {n:Nat} (T:Tx K mg a) (g:GS K a H x n):GtI K a H x true:=by
 cases g with
 |plain i ga l=>
  obtain ⟨dx,t,h1,h2⟩:=ga;rcases i with rfl|rfl|rfl
  ·exact ⟨_,.of (T.Jel.ty T.Jek h1),T.Jgl,T.Jgv,_,T.Jgr,λ_=>rfl,by intro w';cases w'⟩
  ·exact ⟨_,.of (T.Jer.ty T.Jeq h1),T.Jgm,T.Jgw,_,T.Jgs,λ_=>rfl,by intro w';cases w'⟩
  ·exact ⟨_,.of (T.Jex.ty T.Jew h1),T.Jgn,T.Jgx,_,T.Jgt,λ_=>rfl,by intro w';cases w'⟩
 |stuck h1=>exact ⟨_,.of (T.Jf3.ty T.Jf2 h1),T.Jgo,T.Jgy,_,T.Jgu,λ_=>rfl,by intro w';cases w'⟩
theorem Yar {H:Hp} {z:Str} (h:Ltr 8 z):Nmd K H (.str z):=⟨.inr ⟨_,.of (.str z),rfl⟩,λy e=>by cases e;exact ⟨yae h.len (by omega),h.wd.low⟩⟩
theorem Saq:Jne ["_law_told","_law_basins","_law_name","_law_low","_law_high","_law_start","_law_rain","_law_gate_here"] ["_law_told"] (Jnb (top 86)):=%[|0]
theorem Yi (T:Tx K mg a):So P w K mg base CX0 8 a.Jlr a.Jls ["_law_told"] (Yh2 K a):=by
 have Sbm:=%[Jut|1];have Sef:=%[Jxi|1];have Sep:=%[Jz0|1];have Seg:=%[Jxj|1];refine %[T.Ja8.fn.ok,Saq|2]
 ·obtain ⟨p,x,R,rfl,_⟩:=h;rfl
 ·obtain ⟨p,x,R,rfl,⟨t,lb,lt,bs,ts,rfl,ht,hb,btl,htt,ttl,_,_⟩,rg,k⟩:=h;refine ⟨?t,?B,?C⟩
  case B=>
   refine' Sw ?O0 ?O1
   case O0=>exact (Jnk (i:=1) Saq.nd rfl (yf rfl) (Jo3 Sk))
   case O1=>
   refine' Sw ?O2 ?O3
   case O2=>
    refine' Jox ?O4 ?O5 ?O6 ?O7 ?O8
    case O4=>exact PassesOwn.never
    case O5=>exact rfl
    case O6=>exact (Jo8 (Jno Jns (pv 0) Sr (λ_ _=>rfl)))
    case O7=>exact (Jr9 rfl (Jnq (Jnf (i:=2) Saq.nd rfl (yf rfl)) (Jnq (Jnf (i:=3) Saq.nd rfl (yf rfl)) (Jnq (Jnf (i:=4) Saq.nd rfl (yf rfl)) (Jnq (Jnf (i:=5) Saq.nd rfl (yf rfl)) (Jnq (Jnf (i:=6) Saq.nd rfl (yf rfl)) (Jnq (Jnf (i:=7) Saq.nd rfl (yf rfl)) Jp4)))))))
    case O8=>
    refine' Sy ?O9
    case O9=>exact (Jp5 (Jty F.plainAttrs_list F.slot_list_append F.type_list_append Jr4 (pv 1) (Sj (Jqd T.Jfa Sef.calm (hr.mono (by decide)) (by rfl) T.Jbs T.Jds.bd .nil Jpa (pa6 (pv 2) (pv 3) (pv 4) (pv 5) (pv 6) (Jna T.Ja7 Sbm hr (by decide) (Sj (pv 7) Sk)))) Sk)))
   case O3=>
   refine' Sy ?Oa
   case Oa=>
   refine' Jnh ?Ob
   case Ob=>exact (Jqd T.Jff Seg.calm (hr.mono (by decide)) (by rfl) T.Jbu T.Jdu.bd .nil Jpa (pa4 (Jno Jns (pv 0) Sr (λ_ _=>rfl)) (Jno Jns (pv 0) Sr (λ_ _=>rfl)) (pv 1) (Jnx (N:=(["_law_name","_law_basin_here","_law_want"]:List Str)) (ini:=[none,none,none]) rfl (Jo8 (Jno Jns (pv 0) Sr (λ_ _=>rfl))) (λ_ _ _ _ _=>(Jra (K:=K) (n:=3) rfl rfl (Jnq (Jnf (i:=0) (by decide +kernel:(["_law_name","_law_basin_here","_law_want"]:List Str).Nodup) rfl (yf rfl)) (Jnq (Jnf (i:=1) (by decide +kernel:(["_law_name","_law_basin_here","_law_want"]:List Str).Nodup) rfl (yf rfl)) (Jnq (Jnf (i:=2) (by decide +kernel:(["_law_name","_law_basin_here","_law_want"]:List Str).Nodup) rfl (yf rfl)) Jp4))))) (λ_ _ _ _ _=>Jnw) (λ_ _ _ _ _=>(Jqd T.Jfd Sep.calm (hr.mono (by decide)) (by rfl) T.Jbt T.Jdt.bd .nil Jpa (Sj (pv 0) (Sj (pv 1) (Sj (pv 2) Sk))))))))
  refine ⟨(show 0<=S6 by decide),λnb hnb=>?_⟩;have s0:=Si.upd (o:=.lst []) hnb;refine ⟨_,rfl,t,_,2,_,rfl,rfl,Su.of (s0 _ _ ht),rfl,lb,rfl,⟨_,Ss.of (s0 _ _ hb)⟩,?_⟩;have blen:=btl.len;refine Jph (xs:=bs) (λi σ H'=>∃(o1 o2 o3 o4 o5 o6:Option V) (os:List S1) (Bs:List Bsn),σ= [some (.ref t),some (.ref nb),o1,o2,o3,o4,o5,o6]/\H' nb=some (.lst (os.map V.ref))/\Sc1 K a H' os Bs/\Bs.length=i/\Bs.map Jtm=(R.Bs.take i).map Jvs/\GXL a H' (Bs.map (·.g)) ((R.Bs.take i).map (·.G))/\Si H H') ?_ ?_ ?_ ?_
  ·exact ⟨_,_,_,_,_,_,[],[],rfl,Sn,True.intro,rfl,rfl,True.intro,s0⟩
  ·rintro i σ H' _ ⟨_,_,_,_,_,_,_,_,_,_,_,_,_,_,sm⟩;exact Ss.of (sm _ _ hb)
  ·rintro i x σ H' hx ⟨o1,o2,o3,o4,o5,o6,os,Bs,rfl,hnbs,bl,bln,bkey,gxl,sm⟩;obtain ⟨B,eB,⟨tb,g,rfl,htb,gt⟩⟩:=btl.get hx;have hB:B∈R.Bs:=yq eB;obtain ⟨bg,bnm,blt⟩:=rg.Bs B hB;have olen:=bl.len;have hi:i < R.Bs.length:=(yj.mp eB).1;have hn:=rg.n;refine ⟨tb,_,rfl,Su.of (sm _ _ htb),rfl,_,_,rfl,_,_,rfl,_,_,rfl,_,_,rfl,_,_,rfl,_,_,rfl,rfl,?_⟩;refine ⟨_,rfl,.inl ⟨rfl,_,Ss.of hnbs⟩,_,rfl,_,rfl,_,rfl,_,rfl,_,rfl,_,rfl,p,g,B.G,rfl,gt.same sm,bg.G,λgv H1 s1 gx=>?_⟩;have gs:GS K a H1 gv (nOf B.G):=gx.gs bg.G;intro x dx hx1 hd1 ne;have sn:Si H1 (upd (upd H1 dx (.own x)) x (.ins a.Jn1 dx [])):=λb o e=>by rw [Jnc (Jnd e hx1),Jnc (Jnd e hd1)];exact e
   refine ⟨x,dx,.str B.z,.int B.lo,.int B.hi,.int B.st,.int B.rn,gv,true,none,rfl,Sn,Yar blt,.inl ⟨_,rfl⟩,.inl ⟨_,rfl⟩,.inl ⟨_,rfl⟩,.inl ⟨_,rfl⟩,(gs.gti T).same sn,.good B.lo B.hi bnm rfl rfl (Jqm bg.lo.1 bg.lo.2) (Jqm bg.hi.1 bg.hi.2) (Jqm bg.st.1 bg.st.2) (Jqm bg.rn.1 bg.rn.2) rfl,λH2 s2=>⟨rfl,?_⟩⟩;have s3:Si H1 (upd H2 x (.ins a.Jn1 dx (Smb (.str B.z) (.int B.lo) (.int B.hi) (.int B.st) (.int B.rn) gv))):=λb o e=>by rw [Jnc (Jnd e hx1)];exact s2 _ _ (sn _ _ e)
   have s13:=s1.trans s3;have hnb3:=s13 _ _ hnbs;refine ⟨nb,_,_,rfl,rfl,hnb3,by rw [ye];exact Jo6 (by omega),?_⟩;refine ⟨_,_,_,_,_,_,os++ [x],Bs++ [⟨B.z,B.lo,B.hi,B.st,B.rn,gv,nOf B.G⟩],rfl,by rw [Sn,yag];rfl,?_,by rw [yab];show Bs.length+1=i+1;omega,?_,?_,?_⟩
   ·exact Sc1.snoc (Sce.put hnb3 ⟨dx,Sn,gs.same s3⟩) (Sc1.map (λx B h=>(h.same s13).put hnb3) bl)
   ·rw [yag,bkey,yr,eB,yag];rfl
   ·rw [yag,yr,eB,yag];exact GXL.snoc (GX.put hnb3 (gx.same s3)) (GXL.map (λx G h=>(h.same s13).put hnb3) gxl)
   ·intro b o e;rw [Jnc (Jnd e hnb)];exact s13 _ _ (sm _ _ e)
  ·rintro σ H1 ⟨o1,o2,o3,o4,o5,o6,os,Bs,rfl,hnbs,bl,bln,bkey,gxl,sm⟩;rw [yad (by omega)] at bkey gxl;refine ⟨_,rfl,t,_,0,_,rfl,rfl,Su.of (sm _ _ ht),rfl,?_⟩;refine ⟨_,rfl,t,_,1,_,rfl,rfl,Su.of (sm _ _ ht),rfl,?_⟩;refine ⟨_,rfl,_,rfl,t,_,3,_,rfl,rfl,Su.of (sm _ _ ht),rfl,lt,rfl,⟨_,Ss.of (sm _ _ htt)⟩,λD hD=>?_⟩;have tlen:=ttl.len;refine Joz (K:=K) (a:=lt) (xs:=ts) (D:=D) (λi σ H'=>∃(o1 o2 o3:Option V) (ws:List S1) (Ws:List Twn),σ= [o1,o2,o3]/\H' D=some (.lst (ws.map V.ref))/\Sca a H' ws Ws/\Ws.length=i/\Ws.map (λB=>(B.z,B.b,B.wt))=(R.Ts.take i).map (λB=>(B.z,B.b,B.wt))/\Si H1 H') ?_ ?_ ?_ ?_
   ·exact ⟨_,_,_,[],[],rfl,Sn,True.intro,rfl,rfl,Si.upd hD⟩
   ·rintro i σ H' _ ⟨_,_,_,_,_,_,_,_,_,_,s1⟩;exact Ss.of (s1 _ _ (sm _ _ htt))
   ·rintro i x σ H' hx ⟨p1,p2,p3,ws,Ws,rfl,hDs,wl,wln,wkey,s1⟩;obtain ⟨B,eB,⟨tb,rfl,htb⟩⟩:=ttl.get hx;obtain ⟨bnm,blt,bin,bw⟩:=rg.Ts B (yq eB);have hi:i < R.Ts.length:=(yj.mp eB).1;have h3:=rg.tn;have wlen:=wl.len;obtain ⟨Bb,hBb,ebb⟩:=yn.mp bin;have blb:Ltr 8 B.b:=by rw [<-ebb];exact (rg.Bs Bb hBb).2.2
    have bnb:Jrf B.b=true:=by rw [<-ebb];exact (rg.Bs Bb hBb).2.1
    refine Yfm (Su.of (s1 _ _ (sm _ _ htb))) ⟨_,rfl,_,rfl,_,rfl,λx dx hx1 hd1 ne=>?_⟩;have sn:Si H' (upd (upd H' dx (.own x)) x (.ins a.Jn2 dx [])):=λb o e=>by rw [Jnc (Jnd e hx1),Jnc (Jnd e hd1)];exact e
    refine ⟨x,dx,.str B.z,.str B.b,.int B.wt,none,rfl,Sn,Yar blt,Yar blb,.inl ⟨_,rfl⟩,.good bnm bnb (Jqm bw.1 bw.2),λH2 s2=>⟨rfl,?_⟩⟩;have s3:Si H' (upd H2 x (.ins a.Jn2 dx (twnF (.str B.z) (.str B.b) (.int B.wt)))):=λb o e=>by rw [Jnc (Jnd e hx1)];exact s2 _ _ (sn _ _ e)
    have hD3:=s3 _ _ hDs;refine ⟨_,hD3,by rw [ye];exact Jo6 (by omega),_,_,_,ws++ [x],Ws++ [⟨B.z,B.b,B.wt⟩],rfl,by rw [Sn,yag];rfl,?_,by rw [yab];show Ws.length+1=i+1;omega,?_,?_⟩
    ·exact Sca.snoc (Scp.put hD3 ⟨dx,Sn⟩) (Sca.map (λx B h=>(h.same s3).put hD3) wl)
    ·rw [yag,wkey,yr,eB,yag];rfl
    ·intro b o e;rw [Jnc (Jnd e hD)];exact s3 _ _ (s1 _ _ e)
   ·rintro σ H2 ⟨p1,p2,p3,ws,Ws,rfl,hDs,wl,wln,wkey,s1⟩;rw [yad (by omega)] at wkey;intro x dx hx1 hd1 ne;have sn:Si H2 (upd (upd H2 dx (.own x)) x (.ins a.Jn3 dx [])):=λb o e=>by rw [Jnc (Jnd e hx1),Jnc (Jnd e hd1)];exact e
    have hz:Bs.map (·.z)=R.Bs.map (·.z):=by
     have:=congrArg (List.map (·.1)) bkey;simpa [yaw,Jtm,Jvs,Function.comp_def] using this
    have hr:Bs.map (·.rn)=R.Bs.map (·.rn):=by
     have:=congrArg (List.map (·.2.2.2.2.1)) bkey;simpa [yaw,Jtm,Jvs,Function.comp_def] using this
    have hw:Ws.map (·.z)=R.Ts.map (·.z):=by
     have:=congrArg (List.map (·.1)) wkey;simpa [yaw,Function.comp_def] using this
    have hwb:Ws.map (·.b)=R.Ts.map (·.b):=by
     have:=congrArg (List.map (·.2.1)) wkey;simpa [yaw,Function.comp_def] using this
    have n1:=rg.n;have n2:=rg.tn;refine ⟨x,dx,nb,D,R.c,R.g,os,ws,Bs,Ws,rfl,Sn,rg.c,rg.g,sn _ _ (s1 _ _ hnbs),(bl.same s1).same sn,by omega,by rw [hz];exact rg.nd,sn _ _ hDs,wl.same sn,by omega,by rw [hw];exact rg.td,λB hB=>?_,λH3 b t s3 hb3 ht3 nb3 nt3=>⟨rfl,?_⟩⟩
    ·have:B.b∈R.Ts.map (·.b):=by rw [<-hwb];exact ybc hB
     obtain ⟨C,hC,e⟩:=yn.mp this;rw [hz,<-e];exact (rg.Ts C hC).2.2.1
    ·have s4:Si H2 (upd H3 x (.ins a.Jn3 dx (Ska (.int R.c) (.int R.g) (.ref b) (.ref t)))):=λb o e=>by rw [Jnc (Jnd e hx1)];exact s3 _ _ (sn _ _ e)
     refine k x ⟨R.c,R.g,Bs,Ws⟩ _ ((sm.trans s1).trans s4) ⟨dx,b,t,os,ws,Sn,by rw [Jnc nb3];exact hb3,(bl.same s1).same s4,by rw [Jnc nt3];exact ht3,wl.same s4,by dsimp only;omega,by dsimp only;omega,λB hB=>?_⟩ ⟨rfl,rfl,bkey,wkey⟩ ((gxl.same s1).same s4);have:B.rn∈R.Bs.map (·.rn):=by rw [<-hr];exact ybc hB
     obtain ⟨C,hC,e⟩:=yn.mp this;rw [<-e];exact (rg.Bs C hC).1.rn
noncomputable def Jqb (ns:List Int):Int:=ns.foldl (·*·) 1
theorem Jta (ns:List Int) (n:Int):Jqb (ns++ [n])=Jqb ns*n:=by
 unfold Jqb;rw [yca];rfl
inductive Soe (vs:List V) (H:Hp) (Q:VK) (z3:XK):Prop where
 |mk (l:S1) (ns:List Int) (_:vs= [.ref l]) (_:H l=some (.lst (ns.map V.int))) (_:(∀n∈ns,0<=n/\n<=1000)) (_:Q (.int (Jqb ns)) H)
noncomputable def lvN (B:Bsn):Int:=B.hi - B.lo+1
noncomputable def stN (R:Riv):Int:=Jqb (R.Bs.map lvN)*(R.c+1)
inductive So7 (K:Sd) (a:Ad) (vs:List V) (H:Hp) (Q:VK) (z3:XK):Prop where
 |mk (b:S1) (B:Bsn) (_:vs= [.ref b]) (_:Sce K a H b B) (_:Q (.int (lvN B)) H)
inductive Ssf (K:Sd) (a:Ad) (vs:List V) (H:Hp) (Q:VK) (z3:XK):Prop where
 |mk (o:S1) (R:Riv) (_:vs= [.ref o]) (_:Sal K a H o R) (_:(∀B∈R.Bs,0<=lvN B/\lvN B<=1000)) (_:(0<=R.c/\R.c<=12)) (_:∀H',Si H H'->Q (.int (stN R)) H')
theorem Scz:Jne ["numbers","result","number"] ["numbers"] (Jnb (top 36)):=%[|0]
theorem Jwx (T:Tx K mg a):So P w K mg base CX0 1 a.Jit a.Jiu ["numbers"] Soe:=by
 refine %[T.Jg.fn.ok,Scz|2]
 ·obtain ⟨l,ns,rfl,_⟩:=h;rfl
 ·obtain ⟨l,ns,rfl,hl,hb,k⟩:=h;refine ⟨?t,?B,?C⟩
  case B=>
   refine' Sw ?O0 ?O1
   case O0=>exact (Jnk (i:=1) Scz.nd rfl (yf rfl) Sr)
   case O1=>
   refine' Sw ?O2 ?O3
   case O2=>
    refine' Jox ?O4 ?O5 ?O6 ?O7 ?O8
    case O4=>exact PassesOwn.never
    case O5=>exact rfl
    case O6=>exact (Jo8 (pv 0))
    case O7=>exact (Jnf (i:=2) Scz.nd rfl (yf rfl))
    case O8=>
    refine' Sy ?O9
    case O9=>exact (Yb1 (i:=1) Scz.nd rfl (yf rfl) (pv 2) Ye7)
   case O3=>
   refine' Sy ?Oa
   case Oa=>exact (Jnh (pv 1))
  refine ⟨_,rfl,l,rfl,⟨_,Ss.of hl⟩,?_⟩;refine Jph (xs:=ns.map V.int) (λi σ H'=>∃(o:Option V),σ= [some (.ref l),some (.int (Jqb (ns.take i))),o]/\H'=H) ?_ ?_ ?_ ?_
  ·exact ⟨_,rfl,rfl⟩
  ·rintro i σ H' _ ⟨_,_,rfl⟩;exact Ss.of hl
  ·rintro i x σ H' hx ⟨o,rfl,rfl⟩;rw [yi] at hx;cases en:ns[i]? with
   |none=>rw [en] at hx;cases hx
   |some n=>
    rw [en] at hx;cases hx;have hn:=hb n (yq en);refine ⟨_,rfl,_,rfl,_,_,rfl,rfl,.inr ⟨by omega,by omega⟩,some (.int n),?_,rfl⟩;rw [yr,en,show (some n).toList= [n] from rfl,Jta];rfl
  ·rintro σ H' ⟨o,rfl,rfl⟩;rw [ye,ybo];exact ⟨_,rfl,k⟩
theorem Jx7:Jne ["basin"] ["basin"] (Jnb (top 37)):=%[|0]
theorem Jqh (T:Tx K mg a):So P w K mg base CX0 1 a.Jiv a.Jiw ["basin"] (So7 K a):=by
 refine %[T.Jh.fn.ok,Jx7|2]
 ·obtain ⟨b,B,rfl,_⟩:=h;rfl
 ·obtain ⟨b,B,rfl,⟨dx,hb,gs⟩,k⟩:=h;refine ⟨?t,?B,?C⟩
  case B=>
   refine' Sy ?O0
   case O0=>exact (Jnh (Jnj Jnv (Jnj Joq (Jnl (pv 0) (by rfl)) (Jnl (pv 0) (by rfl))) Sr))
  exact ⟨_,rfl,b,_,dx,_,_,rfl,hb,T.Jf8,T.Jga,rfl,_,rfl,b,_,dx,_,_,rfl,hb,T.Jf8,T.Jg9,rfl,_,_,rfl,rfl,_,_,rfl,rfl,k⟩
theorem Ju6:Jne ["river"] ["river"] (Jnb (top 38)):=%[|0]
theorem Jqq (T:Tx K mg a):So P w K mg base CX0 2 a.Jix a.Jiy ["river"] (Ssf K a):=by
 have Sei:=%[Jwx|1];have Sat:=%[Jqh|1];refine %[T.Ji.fn.ok,Ju6|2]
 ·obtain ⟨o,R,rfl,_⟩:=h;rfl
 ·obtain ⟨o,R,rfl,ro,hl,hc,k⟩:=h;refine ⟨?t,?B,?C⟩
  case B=>
   refine' Sy ?O0
   case O0=>exact (Jnh (Jnj Jpo (Jna T.Jg Sei hr (by decide) (Sj (Jnx (N:=(["basin"]:List Str)) (ini:=[none]) rfl (Jrb (Jnl (pv 0) (by rfl))) (λ_ _ _ _ _=>(Jnf (i:=0) (by decide +kernel:(["basin"]:List Str).Nodup) rfl (yf rfl))) (λ_ _ _ _ _=>Jnw) (λ_ _ _ _ _=>(Jna T.Jh Sat hr (by decide) (Sj (pv 0) Sk)))) Sk)) (Jnj Jnv (Jnl (pv 0) (by rfl)) Sr)))
  obtain ⟨dx,b,t,os,ts,ho,hb,bl,ht,tl,n1,n2,n3⟩:=ro;have len:=bl.len;refine ⟨_,rfl,o,_,dx,_,_,rfl,ho,T.Jfe,T.Jgj,rfl,b,rfl,⟨_,Su.of hb⟩,λD hD=>?_⟩;refine Jr3 ((R.Bs.map lvN).map V.int) hD (by simp [len]) (by rw [ye];omega) hb ?_ ?_
  ·intro i x y H' Q' hx hy sm k';obtain ⟨ob,B,rfl,hB,ba⟩:=(bl.same sm).get hx;rw [yi,yi,hB] at hy;cases hy;exact ⟨_,rfl,ob,B,rfl,ba,k' _ λ_ _ h=>h⟩
  intro H1 s1 hD1;refine ⟨D,_,rfl,hD1,λn hn=>?_,?_⟩
  ·obtain ⟨B,hB,rfl⟩:=yn.mp hn;exact hl B hB
  exact ⟨_,rfl,o,_,dx,_,_,rfl,s1 _ _ ho,T.Jfe,T.Jgh,rfl,_,_,rfl,rfl,_,_,rfl,rfl,.inr ⟨by omega,by omega⟩,k _ s1⟩
noncomputable def Sdd (H:Hp) (x:V):Option (List (Int×Int))->Prop
 |none=>x= .non
 |some l=>∃(d:S1) (o:Obj),x= .ref d/\H d=some (.frz o (.dK (l.map λp=>(yau p.1,V.int p.2))))
theorem Sdd.same {H H':Hp} {x:V} {sk:Option (List (Int×Int))} (s:Si H H') (h:Sdd H x sk):Sdd H' x sk:=by
 cases sk with
 |none=>exact h
 |some l=>
  obtain ⟨d,o,e,h⟩:=h;exact ⟨d,o,e,s _ _ h⟩
noncomputable def SkB (R:Riv) (p:Int×Int):Prop:=0<=p.1/\∃B:Bsn,R.Bs[p.1.toNat]?=some B/\0<=p.2/\p.2 < B.n
noncomputable def Jvg (R:Riv) (sk:Option (List (Int×Int))):Prop:=∀l,sk=some l->l.length<=16/\(l.map (·.1)).Nodup/\∀p∈l,SkB R p
inductive Yhc (K:Sd) (a:Ad) (vs:List V) (H:Hp) (Q:VK) (z3:XK):Prop where
 |mk (o:S1) (R:Riv) (p:Int×Int) (_:vs= [.ref o,.int p.1,.int p.2]) (_:Sal K a H o R) (_:SkB R p) (_:Q (.bl true) H)
inductive Yd1 (K:Sd) (a:Ad) (vs:List V) (H:Hp) (Q:VK) (z3:XK):Prop where
 |mk (o:S1) (R:Riv) (x:V) (sk:Option (List (Int×Int))) (_:vs= [.ref o,x]) (_:Sal K a H o R) (_:Sdd H x sk) (_:Jvg R sk) (_:∀H',Si H H'->Q (.bl true) H')
theorem Juz:Jne ["river","place","setting"] ["river","place","setting"] (Jnb (top 33)):=%[|0]
theorem Jus (T:Tx K mg a):So P w K mg base CX0 2 a.Jin a.Jio ["river","place","setting"] (Yhc K a):=by
 have Sv:=%[Jon|1];refine %[T.Jd.fn.ok,Juz|2]
 ·obtain ⟨o,R,p,rfl,_⟩:=h;rfl
 ·obtain ⟨o,R,⟨i,j⟩,rfl,⟨dx,b,t,os,ts,ho,hb,bl,ht,tl,n1,n2,n3⟩,⟨i0,B,eB,j0,j1⟩,k⟩:=h;refine ⟨?t,?B,?C⟩
  case B=>
   refine' Sw ?O0 ?O1
   case O0=>
    refine' Jo1 ?O2 ?O3 ?O4
    case O2=>exact (Jo0 (Jo2 (Jna T.J0 Sv hr (by decide) (Sj (pv 1) (Sj Sr (Sj (Jnj Joq (Jng Jnm (by rfl) T.Jay Joh (Sj (Jnl (pv 0) (by rfl)) Sk)) Sr) Sk))))))
    case O3=>
     refine' Sy ?O5
     case O5=>exact (Jnh Joy)
    case O4=>exact Jnn
   case O1=>
   refine' Sy ?O6
   case O6=>exact (Jnh (Jna T.J0 Sv hr (by decide) (Sj (pv 2) (Sj Sr (Sj (Jnj Joq (Jsh (Jnl (Jno Jns (Jnl (pv 0) (by rfl)) (pv 1) (λ_ _=>rfl)) (by rfl)) hr) Sr) Sk)))))
  dsimp only at i0 eB j0 j1;have len:=bl.len;have hi:i.toNat < R.Bs.length:=(yj.mp eB).1;have hio:i.toNat < os.length:=by omega
  obtain ⟨ob,B',eo,hB,dx',hb',gs⟩:=bl.get (i:=i.toNat) (v:=.ref os[i.toNat]) (by rw [yi,yh hio];rfl);rw [eB] at hB;cases hB;refine ⟨_,rfl,_,rfl,o,_,dx,_,_,rfl,ho,T.Jfe,T.Jgj,rfl,b,_,rfl,.inr (Su.of hb),_,_,rfl,rfl,.int i,0,_,rfl,.inl ⟨i,rfl⟩,_,rfl,ifF (by rw [ye];simp [Jnp];omega) ?_⟩;refine ⟨_,rfl,_,rfl,o,_,dx,_,_,rfl,ho,T.Jfe,T.Jgj,rfl,_,rfl,b,_,i,_,rfl,rfl,Su.of hb,Jsx (j:=i.toNat) (by omega) (by rw [yi,yh hio];rfl),?_⟩;rw [eo];refine ⟨ob,_,dx',_,_,rfl,hb',T.Jf8,T.Jgd,rfl,Jpk T gs ⟨_,_,rfl,rfl,.int j,0,_,rfl,.inl ⟨j,rfl⟩,?_⟩ (by decide)⟩;rw [show Jnp (.int j) 0 ((B.n:Int) - 1)=true by simp [Jnp];omega];exact k
theorem Yw:Jne ["river","thing"] ["river","thing"] (Jnb (top 34)):=%[|0]
theorem Yg (T:Tx K mg a):So P w K mg base CX0 3 a.Jip a.Jiq ["river","thing"] (Yd1 K a):=by
 have Ses:=%[Jus|1];refine %[T.Je.fn.ok,Yw|2]
 ·obtain ⟨o,R,x,sk,rfl,_⟩:=h;rfl
 ·obtain ⟨o,R,x,sk,rfl,ro,sa,so,k⟩:=h;refine ⟨?t,?B,?C⟩
  case B=>
   refine' Sw ?O0 ?O1
   case O0=>
    refine' Jo1 ?O2 ?O3 ?O4
    case O2=>exact (Jo9 Yaw (pv 1) Jpp (Joc _))
    case O3=>
     refine' Sy ?O5
     case O5=>exact (Jnh Joy)
    case O4=>exact Jnn
   case O1=>
   refine' Sw ?O6 ?O7
   case O6=>
    refine' Jo1 ?O8 ?O9 ?Oa
    case O8=>exact (Jo0 (Jo2 (Jng Ydk (by rfl) T.Jax Jnr (Sj (pv 1) (Sj (Jp6 (v:=.ty "dict") (by rfl) T.Jau Ybj rfl) Sk)))))
    case O9=>
     refine' Sy ?Ob
     case Ob=>exact (Jnh Joy)
    case Oa=>exact Jnn
   case O7=>
   refine' Sy ?Oc
   case Oc=>exact (Jnh (Jng (Jqy rfl) (by rfl) T.Jas Juf (Sj (Jnx (N:=(["place","setting","river"]:List Str)) (ini:=[none,none,some 0]) rfl (Yq (pv 1)) (λ_ _ _ _ _=>(Jra (K:=K) (n:=2) rfl rfl (Jnq (Jnf (i:=0) (by decide +kernel:(["place","setting","river"]:List Str).Nodup) rfl (yf rfl)) (Jnq (Jnf (i:=1) (by decide +kernel:(["place","setting","river"]:List Str).Nodup) rfl (yf rfl)) Jp4)))) (λ_ _ _ _ _=>Jnw) (λ_ _ _ _ _=>(Jna T.Jd Ses hr (by decide) (Sj (pv 2) (Sj (pv 0) (Sj (pv 1) Sk)))))) Sk)))
  cases sk with
  |none=>
   cases sa;exact ⟨_,rfl,rfl,_,rfl,Yak rfl (k _ λ_ _ h=>h)⟩
  |some l=>
   obtain ⟨d,ob,rfl,hd⟩:=sa;obtain ⟨l16,lnd,lok⟩:=so l rfl;refine ⟨_,rfl,rfl,_,rfl,Y9 (λz=>by cases z) ?_⟩;refine ⟨_,rfl,d,_,rfl,.inr (.inl ⟨ob,hd⟩),_,rfl,Jok ?_⟩;refine ⟨_,rfl,d,ob,_,rfl,hd,λD hD=>?_⟩;refine Yaf (λi σ H'=>(∃o1 o2,σ= [o1,o2,some (.ref o)])/\Si H H'/\H' D=some (.lst ((yw i true).map V.bl))) ⟨⟨_,_,rfl⟩,Si.upd hD,Sn⟩ (λi σ H' _ ⟨_,sm,_⟩=>sm _ _ hd) ?_ ?_
   ·rintro i k x σ H' Ta hx ⟨⟨o1,o2,rfl⟩,sm,hDs⟩ hT;rw [yi] at hx;cases ep:l[i]? with
    |none=>rw [ep] at hx;cases hx
    |some p=>
     rw [ep] at hx;cases hx;have sT:=Si.upd (o:=.tup [V.int p.1,V.int p.2]) hT;refine ⟨Ta,_,rfl,Su.of Sn,rfl,_,_,rfl,_,_,rfl,rfl,?_⟩;have lt:i < l.length:=(yj.mp ep).1;refine ⟨_,rfl,_,rfl,_,rfl,o,R,p,rfl,(ro.same sm).same sT,lok p (yq ep),_,sT _ _ hDs,?_,⟨_,_,rfl⟩,?_,?_⟩
     ·rw [ye,ycg];exact Jo6 (by omega)
     ·exact λc u e=>by
       rw [Jnc (Jnd e hD)];exact sT _ _ (sm _ _ e)
     ·rw [Sn,List.replicate_succ',yag];rfl
   ·rintro σ H' ⟨_,sm,hDs⟩;refine ⟨D,_,rfl,Ss.of hDs,?_⟩;rw [show ∀n,(yw n true).all id=true from λn=>by simp];exact k _ sm
noncomputable def rgI (n:Nat):List Int:=(yav n).map λk:Nat=>(k:Int)
noncomputable def Jpc (R:Riv) (sk:Option (List (Int×Int))):List (List Int):=(sk.getD []).foldl (λrs p=>rs.set p.1.toNat [p.2]) (R.Bs.map λB=>rgI B.n)
noncomputable def RwL (H:Hp) (D:S1) (vs:List V) (rs:List (List Int)):Prop:=vs.length=rs.length/\∀(i:Nat) (v:V) (r:List Int),vs[i]?=some v->rs[i]?=some r->∃q,v= .ref q/\q≠D/\H q=some (.lst (r.map V.int))
theorem RwL.on {H H':Hp} {D:S1} {vs:List V} {rs:List (List Int)} (f:∀q u,q≠D->H q=some u->H' q=some u) (h:RwL H D vs rs):RwL H' D vs rs:=by
 refine ⟨h.1,λi v r e1 e2=>?_⟩;obtain ⟨q,rfl,n,g⟩:=h.2 i v r e1 e2;exact ⟨q,rfl,n,f _ _ n g⟩
theorem RwL.snoc {H:Hp} {D q:S1} {vs:List V} {rs:List (List Int)} {r:List Int} (h:RwL H D vs rs) (n:q≠D) (g:H q=some (.lst (r.map V.int))):RwL H D (vs++ [.ref q]) (rs++ [r]):=by
 refine ⟨by rw [yab,yab,h.1];rfl,λi v r' e1 e2=>?_⟩;rw [ycn] at e1 e2;have l:=h.1;by_cases c:i < vs.length
 ·rw [if_pos c] at e1;rw [if_pos (by omega)] at e2;exact h.2 i v r' e1 e2
 ·rw [if_neg c] at e1;rw [if_neg (by omega)] at e2;rw [l] at e1;have z:i - rs.length=0:=by
   have:=(yj.mp e2).1;simp at this;omega
  rw [z] at e1 e2;cases e1;cases e2;exact ⟨q,rfl,n,g⟩
theorem RwL.set {H:Hp} {D q:S1} {vs:List V} {rs:List (List Int)} {r:List Int} {j:Nat} (h:RwL H D vs rs) (n:q≠D) (g:H q=some (.lst (r.map V.int))):RwL H D (vs.set j (.ref q)) (rs.set j r):=by
 refine ⟨by rw [ybl,ybl,h.1],λi v r' e1 e2=>?_⟩;have l:=h.1;rw [ycm] at e1 e2;by_cases c:j=i
 ·rw [if_pos c] at e1 e2;split at e1
  ·rw [if_pos (by omega)] at e2;cases e1;cases e2;exact ⟨q,rfl,n,g⟩
  ·cases e1
 ·rw [if_neg c] at e1 e2;exact h.2 i v r' e1 e2
theorem Ybr {n j:Nat} (h:j < n):ixN n (j:Int)=some j:=by
 unfold ixN;rw [if_pos (by omega),if_pos (by omega)];rfl
inductive Ssb (K:Sd) (a:Ad) (vs:List V) (H:Hp) (Q:VK) (z3:XK):Prop where
 |mk (o:S1) (R:Riv) (x:V) (sk:Option (List (Int×Int))) (_:vs= [.ref o,x]) (_:Sal K a H o R) (_:Sdd H x sk) (_:Jvg R sk) (_:∀(l:S1) (us:List V) (H':Hp),H l=none->Si H H'->H' l=some (.lst us)->RwL H' l us (Jpc R sk)->Q (.ref l) H')
theorem GS.le {K:Sd} {a:Ad} {H:Hp} {x:V} {n:Nat} (h:GS K a H x n):n<=4:=by
 cases h with
 |plain _ _ l=>exact l
 |stuck _=>decide
theorem Sba:Jne ["river","stuck","let","place","setting"] ["river","stuck"] (Jnb (top 35)):=%[|0]
theorem Jrg (T:Tx K mg a):So P w K mg base CX0 2 a.Jir a.Jis ["river","stuck"] (Ssb K a):=by
 refine %[T.Jf.fn.ok,Sba|2]
 ·obtain ⟨o,R,x,sk,rfl,_⟩:=h;rfl
 ·obtain ⟨o,R,x,sk,rfl,⟨dx,b,t,os,ts,ho,hb,bl,ht,tl,n1,n2,n3⟩,sa,so,k⟩:=h;refine ⟨?t,?B,?C⟩
  case B=>
   refine' Sw ?O0 ?O1
   case O0=>exact (Ju1 (i:=2) (N:=(["basin"]:List Str)) (ini:=[none]) Sba.nd rfl (yf rfl) rfl (Jrb (Jnl (pv 0) (by rfl))) (λ_ _ _ _ _=>(Jnf (i:=0) (by decide +kernel:(["basin"]:List Str).Nodup) rfl (yf rfl))) (λ_ _ _ _ _=>Jnw) (λ_ _ _ _ _=>(Jny (Jqs rfl) (by rfl) T.Jaz Jpu (Sj (Jny Juh (by rfl) T.Jb2 Jwc (Sj (Yax (P:=P) (w:=w) (K:=K) (mg:=mg) (base:=base) rfl rfl rfl rfl rfl (Jp3 (K:=K) rfl (pv 0) (by rfl)) hr) Sk)) Sk))))
   case O1=>
   refine' Sw ?O2 ?O3
   case O2=>
    refine' Jo1 ?O4 ?O5 ?O6
    case O4=>exact (Jo9 Ygk (pv 1) Jpp (Joc _))
    case O5=>
     refine' Sy ?O7
     case O7=>
     refine' Jox ?O8 ?O9 ?Oa ?Ob ?Oc
     case O8=>exact PassesOwn.never
     case O9=>exact rfl
     case Oa=>exact (Yq (pv 1))
     case Ob=>exact (Jr9 rfl (Jnq (Jnf (i:=3) Sba.nd rfl (yf rfl)) (Jnq (Jnf (i:=4) Sba.nd rfl (yf rfl)) Jp4)))
     case Oc=>
     refine' Sy ?Od
     case Od=>exact (Jx3 (Jo3 (Sj (pv 4) Sk)) (Jzb (pv 2) (pv 3) Js9))
    case O6=>exact Jnn
   case O3=>
   refine' Sy ?Oe
   case Oe=>exact (Jnh (pv 2))
  have len:=bl.len;refine ⟨_,rfl,o,_,dx,_,_,rfl,ho,T.Jfe,T.Jgj,rfl,b,rfl,⟨_,Su.of hb⟩,λD hD=>?_⟩;refine Y3 (K:=K) (a:=b) (xs:=os.map V.ref) (D:=D) (λi σ H'=>∃(q:Option V) (us:List V),σ= [q]/\H' D=some (.lst us)/\RwL H' D us ((R.Bs.take i).map λB=>rgI B.n)/\Si H H') ?_ ?_ ?_ ?_
  ·exact ⟨_,[],rfl,Sn,⟨rfl,λi v r e=>by simp at e⟩,Si.upd hD⟩
  ·rintro i σ H' _ ⟨_,_,_,_,_,sm⟩;exact Su.of (sm _ _ hb)
  ·rintro i x σ H' hx ⟨q,us,rfl,hDs,rw_,sm⟩;have hi:i < os.length:=by
    have:=(yj.mp hx).1
    rwa [ye] at this
   obtain ⟨ob,B,rfl,hB,dx',hb',gs⟩:=(bl.same sm).get hx;have h4:=gs.le;refine Jor ⟨_,rfl,ob,_,dx',_,_,rfl,hb',T.Jf8,T.Jgd,rfl,Jpk T gs ⟨_,rfl,λp hp=>⟨p,_,_,rfl,Sn,by omega,by omega,by omega,by omega,λl hl=>?_⟩⟩ (by decide)⟩;have er:((yav ((B.n:Int) - 0).toNat).map λk:Nat=>V.int (0+k))=(rgI B.n).map V.int:=by
    unfold rgI;rw [yaw,Int.sub_zero,yax];exact List.map_congr_left λk _=>by simp
   rw [er];have s1:=Si.upd (o:=.rng 0 (B.n:Int)) hp;have s2:=Si.upd (o:=.lst ((rgI B.n).map V.int)) hl;have hD2:=s2 _ _ (s1 _ _ hDs);have nl:l≠D:=λz=>by
    rw [z,s1 _ _ hDs] at hl;cases hl
   refine ⟨us,hD2,?_,_,us++ [.ref l],rfl,Sn,?_,λc u e=>?_⟩
   ·have:=rw_.1;rw [ye,yaa] at this;exact Jo6 (by omega)
   ·rw [yr,hB,yag];refine RwL.snoc (RwL.on (λq u n g=>?_) rw_) nl (by rw [Jnc nl];exact Sn);rw [Jnc n];exact s2 _ _ (s1 _ _ g)
   ·rw [Jnc (Jnd e hD)];exact s2 _ _ (s1 _ _ (sm _ _ e))
  rintro σ H1 ⟨_,us,_,hDs,rw_,sm⟩;rw [yad (by rw [ye];omega)] at rw_;cases sk with
  |none=>
   cases sa;exact ⟨_,rfl,rfl,_,rfl,ifF (by simp) ⟨_,rfl,k D us H1 hD sm hDs rw_⟩⟩
  |some l=>
   obtain ⟨d,ob,rfl,hd⟩:=sa;obtain ⟨l16,lnd,lok⟩:=so l rfl;refine ⟨_,rfl,rfl,_,rfl,ifT (by simp) ?_⟩;refine ⟨_,rfl,d,ob,_,rfl,sm _ _ hd,?_⟩;refine Ycg (λi σ H'=>∃(o3 o4:Option V) (us:List V),σ= [some (.ref o),some (.ref d),some (.ref D),o3,o4]/\H' D=some (.lst us)/\us.length=R.Bs.length/\RwL H' D us (Jpc R (some (l.take i)))/\Si H H') ?_ ?_ ?_ ?_
   ·exact ⟨_,_,us,rfl,hDs,by rw [rw_.1,ye],rw_,sm⟩
   ·rintro i σ H' _ ⟨_,_,_,_,_,_,_,sm⟩;exact sm _ _ hd
   ·rintro i kk x σ H' Ta hx ⟨o3,o4,us,rfl,hDs,ul,rw_,sm⟩ hT;rw [yi] at hx;cases ep:l[i]? with
    |none=>rw [ep] at hx;cases hx
    |some p=>
     rw [ep] at hx;cases hx;have sT:=Si.upd (o:=.tup [kV (.inl p.1),V.int p.2]) hT;obtain ⟨p0,B,eB,_⟩:=lok p (yq ep);have hp:p.1.toNat < R.Bs.length:=(yj.mp eB).1;refine ⟨Ta,_,rfl,Su.of Sn,rfl,_,_,rfl,_,_,rfl,rfl,?_⟩;refine ⟨_,rfl,(show 1<=S6 by decide),λq hq=>?_⟩;have s2:=Si.upd (o:=.lst [V.int p.2]) hq;have hD2:=s2 _ _ (sT _ _ hDs);have nq:q≠D:=λz=>by
      rw [z,sT _ _ hDs] at hq;cases hq
     refine ⟨_,rfl,_,rfl,D,us,p.1,p.1.toNat,rfl,rfl,hD2,?_,_,_,us.set p.1.toNat (.ref q),rfl,Sn,by rw [ybl,ul],?_,λc u e=>?_⟩
     ·have:=Ybr (n:=us.length) (j:=p.1.toNat) (by omega)
      rwa [Int.toNat_of_nonneg p0] at this
     ·have ef:Jpc R (some (l.take (i+1)))=(Jpc R (some (l.take i))).set p.1.toNat [p.2]:=by
       unfold Jpc;show List.foldl _ _ (l.take (i+1))=List.set (List.foldl _ _ (l.take i)) _ _;rw [yr,ep,yca];rfl
      rw [ef];refine RwL.on (λb u n g=>by rw [Jnc n];exact g) (RwL.set (RwL.on (λb u n g=>s2 _ _ (sT _ _ g)) rw_) nq Sn)
     ·rw [Jnc (Jnd e hD)];exact s2 _ _ (sT _ _ (sm _ _ e))
   ·rintro σ H2 ⟨o3,o4,us,rfl,hDs,ul,rw_,sm⟩;rw [ye,ybo] at rw_;exact ⟨_,rfl,k D us H2 hD sm hDs rw_⟩
theorem Jwl (R:Riv) (sk:Option (List (Int×Int))) (h:∀B∈R.Bs,B.n<=4):∀r∈Jpc R sk,r.length<=4:=by
 unfold Jpc;have go:∀(l:List (Int×Int)) (rs:List (List Int)),(∀r∈rs,r.length<=4)->∀r∈l.foldl (λrs p=>rs.set p.1.toNat [p.2]) rs,r.length<=4:=by
  intro l
  induction l with
  |nil=>exact λrs h=>h
  |cons p l ih=>
   intro rs h;refine ih _ λr hr=>?_;rcases ycp hr with hr|rfl
   ·exact h r hr
   ·exact (show 1<=4 by decide)
 refine go _ _ λr hr=>?_;obtain ⟨B,hB,rfl⟩:=yn.mp hr;unfold rgI;rw [ye,ybn];exact h B hB
theorem Sc1.n4 {K:Sd} {a:Ad} {H:Hp} {os:List S1} {Bs:List Bsn} (h:Sc1 K a H os Bs):∀B∈Bs,B.n<=4:=λB hB=>by
 obtain ⟨i,hi⟩:=ybk hB;have lt:i < os.length:=by
  rw [h.len];exact (yj.mp hi).1
 obtain ⟨ob,B',_,e,dx,_,gs⟩:=h.get (i:=i) (v:=.ref os[i]) (by rw [yi,yh lt];rfl);rw [hi] at e;cases e;exact gs.le
noncomputable def chN (R:Riv) (sk:Option (List (Int×Int))):Int:=Jqb ((Jpc R sk).map λr=>(r.length:Int))*(R.Ts.length+1)
inductive Ss8 (K:Sd) (a:Ad) (vs:List V) (H:Hp) (Q:VK) (z3:XK):Prop where
 |mk (o:S1) (R:Riv) (x:V) (sk:Option (List (Int×Int))) (_:vs= [.ref o,x]) (_:Sal K a H o R) (_:Sdd H x sk) (_:Jvg R sk) (_:∀H',Si H H'->Q (.int (chN R sk)) H')
theorem Jvq:Jne ["river","stuck"] ["river","stuck"] (Jnb (top 39)):=%[|0]
theorem Jvo (T:Tx K mg a):So P w K mg base CX0 3 a.Jiz a.Jj0 ["river","stuck"] (Ss8 K a):=by
 have Sei:=%[Jwx|1];have Sc6:=%[Jrg|1];refine %[T.Jj.fn.ok,Jvq|2]
 ·obtain ⟨o,R,x,sk,rfl,_⟩:=h;rfl
 ·obtain ⟨o,R,x,sk,rfl,ro,sa,so,k⟩:=h;refine ⟨?t,?B,?C⟩
  case B=>
   refine' Sy ?O0
   case O0=>exact (Jnh (Jnj Jpo (Jna T.Jg Sei hr (by decide) (Sj (Jnx (N:=(["settings"]:List Str)) (ini:=[none]) rfl (Jo8 (Jna T.Jf Sc6 hr (by decide) (Sj (pv 0) (Sj (pv 1) Sk)))) (λ_ _ _ _ _=>(Jnf (i:=0) (by decide +kernel:(["settings"]:List Str).Nodup) rfl (yf rfl))) (λ_ _ _ _ _=>Jnw) (λ_ _ _ _ _=>(Jng (Jxg (K:=K) rfl) (by rfl) T.Jay Joh (Sj (pv 0) Sk)))) Sk)) (Jnj Jnv (Jng Jnm (by rfl) T.Jay Joh (Sj (Jnl (pv 0) (by rfl)) Sk)) Sr)))
  refine ⟨_,rfl,_,rfl,o,R,x,sk,rfl,ro,sa,so,λl us H1 hl s1 hl1 rw_=>?_⟩;obtain ⟨dx,b,t,os,ts,ho,hb,bl,ht,tl,n1,n2,n3⟩:=ro;have r4:=Jwl R sk bl.n4;refine ⟨l,rfl,⟨_,Ss.of hl1⟩,λD hD=>?_⟩;have ll:(Jpc R sk).length=R.Bs.length:=by
   unfold Jpc;have go:∀(l:List (Int×Int)) (rs:List (List Int)),(l.foldl (λrs p=>rs.set p.1.toNat [p.2]) rs).length=rs.length:=by
    intro l
    induction l with
    |nil=>exact λrs=>rfl
    |cons p l ih=>exact λrs=>(ih _).trans ybl
   rw [go,ye]
  have ul:us.length=R.Bs.length:=by rw [rw_.1,ll]
  have bll:=bl.len;refine Jsy (((Jpc R sk).map λr=>(r.length:Int)).map V.int) hD (by rw [ye,ye];omega) (by omega) hl1 ?_ ?_
  ·intro i x y H' Q' hx hy sm k';rw [yi,yi] at hy;cases er:(Jpc R sk)[i]? with
   |none=>rw [er] at hy;cases hy
   |some r=>
    rw [er] at hy;cases hy;obtain ⟨q,rfl,_,g⟩:=rw_.2 i x r hx er;refine ⟨_,rfl,q,_,rfl,.inl (Ss.of (sm _ _ g)),?_⟩;rw [ye];exact k' _ λ_ _ h=>h
  intro H2 s2 hD2;have s02:=s1.trans s2;refine ⟨D,_,rfl,hD2,λn hn=>?_,?_⟩
  ·obtain ⟨r,hr',rfl⟩:=yn.mp hn;have:=r4 r hr';omega
  have tln:=tl.len;refine ⟨_,rfl,o,_,dx,_,_,rfl,s02 _ _ ho,T.Jfe,T.Jgk,rfl,t,_,rfl,.inr (Su.of (s02 _ _ ht)),_,_,rfl,rfl,_,_,rfl,rfl,.inr ?_,?_⟩
  ·rw [ye];omega
  ·rw [ye,tln];exact k _ s02
theorem Yag (xs:List V) (i j:Nat):Jqt xs (some (i:Int)) (some (j:Int))=(xs.drop i).take (j - i):=by
 unfold Jqt;rw [HT.sIx_nat,HT.sIx_nat];rcases Nat.le_total i xs.length with h|h
 ·rw [ybt h];rcases Nat.le_total j xs.length with h'|h'
  ·rw [ybt h']
  ·rw [Nat.min_eq_right h',yad (by rw [ybj];exact yg _),yad (by rw [ybj];omega)]
 ·rw [Nat.min_eq_right h,List.drop_of_length_le (yg _),List.drop_of_length_le h,List.take_nil,List.take_nil]
noncomputable def wsC (rn:Nat) (ws:List Int) (k:Nat):List Int:=(ws.drop (k - rn)).take (k+1 - (k - rn))
noncomputable def wsS (c rn:Nat) (ws:List Int):List Int:=(yav (c+1)).map λk=>(wsC rn ws k).sum
noncomputable def wsN (R:Riv) (i:Nat):List Int:=(R.Bs.take i).foldl (λws B=>wsS R.c.toNat B.rn.toNat ws) (1::yw R.c.toNat 0)
noncomputable def rrN (R:Riv):Int:=(wsN R R.Bs.length).sum
theorem Jwa (c rn:Nat) (ws:List Int):(wsS c rn ws).length=c+1:=by
 unfold wsS;rw [ye,ybn]
noncomputable def WsB (c:Nat) (b:Int) (ws:List Int):Prop:=ws.length=c+1/\∀x∈ws,0<=x/\x<=b
theorem Yfh {b:Int} (b0:0<=b):∀(ws:List Int),(∀x∈ws,0<=x/\x<=b)->0<=ws.sum/\ws.sum<=ws.length*b:=by
 intro ws
 induction ws with
 |nil=>exact λ_=>by simp
 |cons x ws ih=>
  intro h;have h1:=h x yah;have h2:=ih λy hy=>h y (yac _ hy);rw [List.sum_cons,yaf];have e:(((ws.length+1:Nat):Int))*b=ws.length*b+b:=by
   rw [Int.natCast_add,Int.add_mul];simp
  rw [e];omega
theorem WsB.step {c rn:Nat} {b:Int} {ws:List Int} (hc:c<=12) (b0:0<=b) (h:WsB c b ws):WsB c (13*b) (wsS c rn ws):=by
 refine ⟨Jwa _ _ _,λx hx=>?_⟩;unfold wsS at hx;obtain ⟨k,_,rfl⟩:=yn.mp hx;have hs:∀y∈wsC rn ws k,0<=y/\y<=b:=λy hy=>h.2 y (List.mem_of_mem_drop (yct hy));have q:=Yfh b0 _ hs;refine ⟨q.1,ybf q.2 (Int.mul_le_mul_of_nonneg_right ?_ b0)⟩;have:(wsC rn ws k).length<=ws.length:=by
  unfold wsC;rw [yaa,ybj];omega
 have:=h.1;omega
theorem Jxe (R:Riv) {i:Nat} {B:Bsn} (h:R.Bs[i]?=some B):wsN R (i+1)=wsS R.c.toNat B.rn.toNat (wsN R i):=by
 unfold wsN;rw [yr,h,yca];rfl
theorem Sli (R:Riv) (hc:R.c.toNat<=12):∀i,i<=R.Bs.length->WsB R.c.toNat (13^i) (wsN R i):=by
 intro i
 induction i with
 |zero=>
  intro _;refine ⟨by show (1::yw R.c.toNat 0).length=_;simp,λx hx=>?_⟩;have hx':x∈(1::yw R.c.toNat (0:Int)):=hx;rcases yo.mp hx' with rfl|hx'
  ·decide
  ·rw [(List.mem_replicate.mp hx').2];decide
 |succ i ih=>
  intro h;obtain ⟨B,hB⟩:∃B,R.Bs[i]?=some B:=⟨R.Bs[i],yh (by omega)⟩;rw [Jxe R hB,Int.pow_succ,Int.mul_comm];exact WsB.step hc (Int.le_of_lt (Int.pow_pos (by decide))) (ih (by omega))
theorem Smk (ws:List Int) {rn:Int} (h0:0<=rn) (j:Nat):Jqt (ws.map V.int) (some (if (0:Int) > 0+(j:Int) - rn then 0 else 0+(j:Int) - rn)) (some (0+(j:Int)+1))=(wsC rn.toNat ws j).map V.int:=by
 have e1:(if (0:Int) > 0+(j:Int) - rn then 0 else 0+(j:Int) - rn)=((j - rn.toNat:Nat):Int):=by
  split <;> omega
 have e2:(0+(j:Int)+1)=((j+1:Nat):Int):=by omega
 rw [e1,e2,Yag];unfold wsC;rw [List.map_take,List.map_drop]
theorem Slj {c rn:Nat} {ws:List Int} {j:Nat} {y:V} (h:((wsS c rn ws).map V.int)[j]?=some y):y= .int (wsC rn ws j).sum:=by
 have hj:=(yj.mp h).1;rw [ye,Jwa] at hj;rw [yi] at h;unfold wsS at h;rw [yi,ycd hj] at h;exact (yz.inj h).symm
theorem Yc3 {rn:Nat} {ws:List Int} {j:Nat} (h:Sml ws):Sml (wsC rn ws j):=by
 refine ⟨?_,λn hn=>h.2 n (List.mem_of_mem_drop (yct hn))⟩;have:=h.1;unfold wsC;rw [yaa,ybj];omega
inductive Sse (K:Sd) (a:Ad) (vs:List V) (H:Hp) (Q:VK) (z3:XK):Prop where
 |mk (o:S1) (R:Riv) (_:vs= [.ref o]) (_:Sal K a H o R) (_:R.Bs.length<=4) (_:(0<=R.c/\R.c<=12)) (_:∀H',Si H H'->Q (.int (rrN R)) H')
theorem Juc {R:Riv} (hc:R.c.toNat<=12) {i:Nat} (h:i<=R.Bs.length) (h4:R.Bs.length<=4):Sml (wsN R i)/\∀x∈wsN R i,0<=x/\x<=28561:=by
 obtain ⟨l,b⟩:=Sli R hc i h;have p:(13:Int)^i<=28561:=by
  have cs:i=0\/i=1\/i=2\/i=3\/i=4:=by omega
  rcases cs with rfl|rfl|rfl|rfl|rfl <;> decide
 refine ⟨⟨by omega,λn hn=>?_⟩,λx hx=>?_⟩
 ·have:=b n hn;omega
 ·have:=b x hx;omega
theorem Say:Jne ["river","with_sum","basin"] ["river"] (Jnb (top 40)):=%[|0]
theorem Jtx (T:Tx K mg a):So P w K mg base CX0 1 a.Jj1 a.Jj2 ["river"] (Sse K a):=by
 refine %[T.Jk.fn.ok,Say|2]
 ·obtain ⟨o,R,rfl,_⟩:=h;rfl
 ·obtain ⟨o,R,rfl,⟨dx,b,t,os,ts,ho,hb,bl,ht,tl,n1,n2,n3⟩,h4,hc,k⟩:=h;refine ⟨?t,?B,?C⟩
  case B=>
   refine' Sw ?O0 ?O1
   case O0=>exact (Jnk (i:=1) Say.nd rfl (yak rfl) (Jnj Jt8 (Jo3 (Sj Sr Sk)) (Jnx (N:=(["cube"]:List Str)) (ini:=[none]) rfl (Jpe (by rfl) T.Jb2 (Sj (Jnl (pv 0) (by rfl)) Sk)) (λ_ _ _ _ _=>(Jnf (i:=0) (by decide +kernel:(["cube"]:List Str).Nodup) rfl (yf rfl))) (λ_ _ _ _ _=>Jnw) (λ_ _ _ _ _=>Sr))))
   case O1=>
   refine' Sw ?O2 ?O3
   case O2=>
    refine' Jox ?O4 ?O5 ?O6 ?O7 ?O8
    case O4=>exact PassesOwn.never
    case O5=>exact rfl
    case O6=>exact (Jrb (Jnl (pv 0) (by rfl)))
    case O7=>exact (Jnf (i:=2) Say.nd rfl (yak rfl))
    case O8=>
    refine' Sy ?O9
    case O9=>exact (Jnk (i:=1) Say.nd rfl (yak rfl) (Jnx (N:=(["cubes","with_sum","basin"]:List Str)) (ini:=[none,some 1,some 2]) rfl (Jpe (by rfl) T.Jb2 (Sj (Jnj Jnv (Jnl (pv 0) (by rfl)) Sr) Sk)) (λ_ _ _ _ _=>(Jnf (i:=0) (by decide +kernel:(["cubes","with_sum","basin"]:List Str).Nodup) rfl (yf rfl))) (λ_ _ _ _ _=>Jnw) (λ_ _ _ _ _=>(Jng (Jsc (K:=K) rfl rfl) (by rfl) T.Jb7 Jrp (Sj (Jpj (Ju8 (K:=K) rfl) (pv 1) (Jp7 (Jng (Jqz rfl) (by rfl) T.Jb0 Jwb (Sj (Jnj Joq (pv 0) (Jp3 (K:=K) rfl (pv 2) (by rfl))) (Sj Sr Sk)))) (Jp7 (Jnj Jnv (pv 0) Sr))) Sk)))))
   case O3=>
   refine' Sy ?Oa
   case Oa=>exact (Jnh (Jng (Jrq rfl) (by rfl) T.Jb7 Jrp (Sj (pv 1) Sk)))
  have hc12:R.c.toNat<=12:=by omega
  have len:=bl.len;refine ⟨(show 1<=S6 by decide),λl1 hl1=>?_⟩;have s1:=Si.upd (o:=.lst [V.int 1]) hl1;refine ⟨_,rfl,o,_,dx,_,_,rfl,s1 _ _ ho,T.Jfe,T.Jgh,rfl,_,rfl,by omega,by omega,λD hD=>?_⟩;refine Juj ((yw R.c.toNat (0:Int)).map V.int) hD (by simp) (by omega) (λi y H' Q' hy sm k'=>?_) ?_
  ·rw [yi] at hy;obtain ⟨z,hz,rfl⟩:=yba.mp hy;rw [(List.mem_replicate.mp (yq hz)).2] at k';exact k' _ (Si.refl _)
  intro H2 s2 hDs;have hz: [V.int 1].length+((yw R.c.toNat (0:Int)).map V.int).length<=S6:=Job _ (by rw [ye,ycg];show 1+_<=2000;omega);refine ⟨l1,D,_,_,rfl,rfl,s2 _ _ Sn,hDs,hz,λq0 hq0=>?_⟩;have s12:=s1.trans s2;have e0: [V.int 1]++(yw R.c.toNat (0:Int)).map V.int=(wsN R 0).map V.int:=by
   rfl
  rw [e0];have s3:=Si.upd (o:=.lst ((wsN R 0).map V.int)) hq0;have s13:=s12.trans s3;refine ⟨_,rfl,o,_,dx,_,_,rfl,s13 _ _ ho,T.Jfe,T.Jgj,rfl,b,rfl,⟨_,Su.of (s13 _ _ hb)⟩,?_⟩;refine Jvv (K:=K) (a:=b) (xs:=os.map V.ref) (λi σ H'=>∃(q:S1) (o2:Option V),σ= [some (.ref o),some (.ref q),o2]/\H' q=some (.lst ((wsN R i).map V.int))/\Si H H') ?_ ?_ ?_ ?_
  ·exact ⟨q0,_,rfl,Sn,s13⟩
  ·rintro i σ H' _ ⟨_,_,_,_,sm⟩;exact Su.of (sm _ _ hb)
  ·rintro i x σ H' hx ⟨q,o2,rfl,hq,sm⟩;obtain ⟨ob,B,rfl,hB,dx',hb',gs⟩:=(bl.same sm).get hx;have hi:i < R.Bs.length:=(yj.mp hB).1;obtain ⟨sml,wb⟩:=Juc (R:=R) hc12 (i:=i) (by omega) h4;have hrn:=n3 B (yq hB);refine ⟨_,rfl,o,_,dx,_,_,rfl,sm _ _ ho,T.Jfe,T.Jgh,rfl,_,_,rfl,rfl,_,rfl,by omega,by omega,λD2 hD2=>?_⟩;refine Juj ((wsS R.c.toNat B.rn.toNat (wsN R i)).map V.int) hD2 (by rw [ye,Jwa];omega) (by omega) (λj y H2 Q' hy sm2 k'=>?_) ?_
   ·have hj:=Slj hy;cases hj;refine ⟨_,rfl,_,rfl,_,rfl,ob,_,dx',_,_,rfl,sm2 _ _ hb',T.Jf8,T.Jgc,rfl,_,_,rfl,rfl,_,_,rfl,_,rfl,_,rfl,_,_,rfl,rfl,_,rfl,q,_,rfl,Ss.of (sm2 _ _ hq),λp hp=>?_⟩;rw [Smk _ hrn.1];exact ⟨p,_,rfl,.inl (Ss.of Sn),Yc3 sml,k' _ (Si.upd hp)⟩
   ·intro H2 sm2 hDs2;refine ⟨D2,_,rfl,?_,sm.trans sm2⟩;rw [Jxe R hB];exact hDs2
  ·rintro σ H' ⟨q,o2,rfl,hq,sm⟩;rw [ye,len] at hq;exact ⟨_,rfl,q,_,rfl,.inl (Ss.of hq),(Juc hc12 (yg _) h4).1,k _ sm⟩
noncomputable def wgN (R:Riv) (sk:Option (List (Int×Int))):Int:=stN R*chN R sk*rrN R
inductive Yhg (K:Sd) (a:Ad) (vs:List V) (H:Hp) (Q:VK) (z3:XK):Prop where
 |mk (o:S1) (R:Riv) (x:V) (sk:Option (List (Int×Int))) (_:vs= [.ref o,x]) (_:Sal K a H o R) (_:Sdd H x sk) (_:Jvg R sk) (_:R.Bs.length<=4) (_:(∀B∈R.Bs,0<=lvN B/\lvN B<=13)) (_:(0<=R.c/\R.c<=12)) (_:∀H',Si H H'->Q (.int (wgN R sk)) H')
inductive Ygz (vs:List V) (H:Hp) (Q:VK) (z3:XK):Prop where
 |mk (n:Int) (_:vs= [.int n]) (_:n<=4000) (_:Q .non H)
theorem Yex {R:Riv} (h4:R.Bs.length<=4) (hc:0<=R.c/\R.c<=12):0<=rrN R/\rrN R<=400000:=by
 have hc12:R.c.toNat<=12:=by omega
 have hb:=(Juc hc12 (yg R.Bs.length) h4).2;have q:=Yfh (b:=28561) (by decide) _ hb;have l:=(Sli R hc12 _ (yg R.Bs.length)).1;unfold rrN;rw [l] at q;omega
theorem Jzd {b:Int} (b1:1<=b):∀(ns:List Int),(∀n∈ns,0<=n/\n<=b)->0<=Jqb ns/\Jqb ns<=b^ns.length:=by
 have go:∀(ns:List Int) (c A:Int),0<=c->c<=A->(∀n∈ns,0<=n/\n<=b)->0<=ns.foldl (·*·) c/\ns.foldl (·*·) c<=A*b^ns.length:=by
  intro ns
  induction ns with
  |nil=>
   intro c A c0 cA _;rw [List.length_nil,Int.pow_zero,Int.mul_one];exact ⟨c0,cA⟩
  |cons n ns ih=>
   intro c A c0 cA h;have h2:=h n yah;have q:=ih (c*n) (A*b) (Int.mul_nonneg c0 h2.1) (ycq cA h2.2 h2.1 (ybf c0 cA)) λm hm=>h m (yac _ hm);rw [yaf,Int.pow_succ,Int.mul_comm (b^ns.length) b,<-Int.mul_assoc];exact q
 intro ns h;have q:=go ns 1 1 (by decide) (by decide) h;rw [Int.one_mul] at q;exact q
theorem Jsp:Jne ["self","thing"] ["self","thing"] (Jnb (Jni (top 11) 0)):=%[|0]
theorem Jvm (T:Tx K mg a):So P w K mg base CX0 1 a.Jhp a.Jhq ["self","thing"] (Jq7 K "thing"):=by
 refine %[T.Jd4.fn.ok,Jsp|2]
 ·obtain ⟨e,C,W,fI,y,rfl,_⟩:=h;rfl
 ·obtain ⟨e,C,W,fI,y,rfl,q,c,n,k⟩:=h;refine ⟨_,(Sy (Jq3 (pv 0) (pv 1) rfl)),?_⟩;exact ⟨_,rfl,_,rfl,e,C,W,fI,true,rfl,q,c,n,k⟩
theorem Jsr:Jne ["self","count"] ["self","count"] (Jnb (Jni (top 9) 0)):=%[|0]
theorem Jvn (T:Tx K mg a):So P w K mg base CX0 1 a.Jhl a.Jhm ["self","count"] (Jq7 K "count"):=by
 refine %[T.Jd2.fn.ok,Jsr|2]
 ·obtain ⟨e,C,W,fI,y,rfl,_⟩:=h;rfl
 ·obtain ⟨e,C,W,fI,y,rfl,q,c,n,k⟩:=h;refine ⟨_,(Sy (Jq3 (pv 0) (pv 1) rfl)),?_⟩;exact ⟨_,rfl,_,rfl,e,C,W,fI,true,rfl,q,c,n,k⟩
theorem Yf1:Jne ["river","stuck"] ["river","stuck"] (Jnb (top 41)):=%[|0]
theorem Yl (T:Tx K mg a):So P w K mg base (CXX P w) 4 a.Jj3 a.Jj4 ["river","stuck"] (Yhg K a):=by
 have Sh2:=%[Yg|1];have Sbn:=%[Jqq|1];have Sf1:=%[Jvo|1];have Sej:=%[Jtx|1];have Sdu:=%[Jvm|1];refine %[T.Jl.fn.okX,Yf1|2]
 ·obtain ⟨o,R,x,sk,rfl,_⟩:=h;rfl
 ·obtain ⟨o,R,x,sk,rfl,ro,sa,so,h4,hl,hc,k⟩:=h;refine ⟨?t,?B,?C⟩
  case B=>
   refine' Sw ?O0 ?O1
   case O0=>
    refine' Jo1 ?O2 ?O3 ?O4
    case O2=>exact (Jo0 (Ys (Jna T.Je Sh2 hr (by decide) (Sj (pv 0) (Sj (pv 1) Sk))) (λ_=>rfl)))
    case O3=>
     refine' Sy ?O5
     case O5=>exact (Jog Jol rfl (Jp2 T.Je6 Sdu hr (by decide) T.Jd4.bd T.Jbj (Sj (pv 1) Sk)))
    case O4=>exact Jnn
   case O1=>
   refine' Sy ?O6
   case O6=>exact (Jnh (Jnj Jpo (Jnj Jpo (Jna T.Ji Sbn hr (by decide) (Sj (pv 0) Sk)) (Jna T.Jj Sf1 hr (by decide) (Sj (pv 0) (Sj (pv 1) Sk)))) (Jna T.Jk Sej hr (by decide) (Sj (pv 0) Sk))))
  refine ⟨_,rfl,_,rfl,o,R,x,sk,rfl,ro,sa,so,λH1 s1=>⟨_,rfl,Jok ?_⟩⟩;refine ⟨_,rfl,o,R,rfl,ro.same s1,λB hB=>⟨(hl B hB).1,ybf (hl B hB).2 (by decide)⟩,hc,λH2 s2=>?_⟩;have s12:=s1.trans s2;refine ⟨_,rfl,_,rfl,o,R,x,sk,rfl,ro.same s12,sa.same s12,so,λH3 s3=>?_⟩;have s13:=s12.trans s3;have st1: -(2^64) < stN R/\stN R < 2^64:=by
   have q:=Jzd (b:=13) (by decide) (R.Bs.map lvN) λn hn=>by
    obtain ⟨B,hB,rfl⟩:=yn.mp hn;exact hl B hB
   rw [ye] at q;have p:(13:Int)^R.Bs.length<=28561:=by
    have cs:R.Bs.length=0\/R.Bs.length=1\/R.Bs.length=2\/R.Bs.length=3\/R.Bs.length=4:=by omega
    rcases cs with e|e|e|e|e <;> rw [e] <;> decide
   have m:stN R<=28561*13:=ycq (ybf q.2 p) (by omega) (by omega) (by decide);have m0:0<=stN R:=Int.mul_nonneg q.1 (by omega);omega
  refine ⟨_,_,rfl,rfl,.inl st1,?_⟩;refine ⟨_,rfl,o,R,rfl,ro.same s13,h4,hc,λH4 s4=>⟨_,_,rfl,rfl,.inr ?_,k _ (s13.trans s4)⟩⟩;have:=Yex h4 hc;omega
theorem Jvr:Jne ["heft"] ["heft"] (Jnb (top 42)):=%[|0]
theorem Jvp (T:Tx K mg a):So P w K mg base (CXX P w) 3 a.Jj5 a.Jj6 ["heft"] Ygz:=by
 have Sdv:=%[Jvn|1];refine %[T.Jm.fn.okX,Jvr|2]
 ·obtain ⟨n,rfl,_⟩:=h;rfl
 ·obtain ⟨n,rfl,hn,k⟩:=h;refine ⟨?t,?B,?C⟩
  case B=>
   refine' Sy ?O0
   case O0=>
   refine' Jo1 ?O1 ?O2 ?O3
   case O1=>exact (Jo9 Jyk (pv 0) (Joi (by rfl) T.Jai (v:=.int 4000) ⟨_,rfl⟩) (Joc _))
   case O2=>
    refine' Sy ?O4
    case O4=>exact (Jog Jol rfl (Jp2 T.Je3 Sdv hr (by decide) T.Jd2.bd T.Jbh (Sj (pv 0) Sk)))
   case O3=>exact Jnn
  exact ⟨_,rfl,_,_,rfl,rfl,_,rfl,ifF (decide_eq_false (by omega)) k⟩
noncomputable def stF (R:Riv) (n:Int) (i:Nat):List Int×Int:=(R.Bs.take i).foldl (λp B=>(p.1++ [B.lo+p.2%lvN B],p.2/lvN B)) ([],n/(R.c+1))
theorem Jx9 (R:Riv) (n:Int) {i:Nat} {B:Bsn} (h:R.Bs[i]?=some B):stF R n (i+1)=((stF R n i).1++ [B.lo+(stF R n i).2%lvN B],(stF R n i).2/lvN B):=by
 unfold stF;rw [yr,h,yca];rfl
theorem Ju9 (R:Riv) (n:Int):∀i,i<=R.Bs.length->(stF R n i).1.length=i:=by
 intro i
 induction i with
 |zero=>exact λ_=>rfl
 |succ i ih=>
  intro h;rw [Jx9 R n (yh (by omega:i < R.Bs.length))];dsimp only;rw [yab,ih (by omega)];rfl
inductive Sb2 (H:Hp) (x:V) (ls:List Int) (wt:Int):Prop where
 |mk (t r:S1) (_:x= .ref t) (_:H t=some (.tup [.ref r,.int wt])) (_:H r=some (.tup (ls.map V.int)))
theorem Sb2.same {H H':Hp} {x:V} {ls:List Int} {wt:Int} (s:Si H H') (h:Sb2 H x ls wt):Sb2 H' x ls wt:=by
 obtain ⟨t,r,e,h1,h2⟩:=h;exact ⟨t,r,e,s _ _ h1,s _ _ h2⟩
inductive Soh (K:Sd) (a:Ad) (vs:List V) (H:Hp) (Q:VK) (z3:XK):Prop where
 |mk (o:S1) (R:Riv) (n:Int) (_:vs= [.ref o,.int n]) (_:Sal K a H o R) (_:(∀B∈R.Bs,1<=lvN B/\lvN B<=13)) (_:(0<=R.c/\R.c<=12)) (_:∀(x:V) (H':Hp),Si H H'->Sb2 H' x (stF R n R.Bs.length).1 (n%(R.c+1))->Q x H')
theorem Sb4:Jne ["river","number","rest","levels","basin"] ["river","number"] (Jnb (top 47)):=%[|0]
theorem Jwy (T:Tx K mg a):So P w K mg base CX0 2 a.Jjf a.Jjg ["river","number"] (Soh K a):=by
 have Sat:=%[Jqh|1];refine %[T.Jr.fn.ok,Sb4|2]
 ·obtain ⟨o,R,n,rfl,_⟩:=h;rfl
 ·obtain ⟨o,R,n,rfl,⟨dx,b,t,os,ts,ho,hb,bl,ht,tl,n1,n2,n3⟩,hl,hc,k⟩:=h;refine ⟨?t,?B,?C⟩
  case B=>
   refine' Sw ?O0 ?O1
   case O0=>exact (Jnk (i:=2) Sb4.nd rfl (yf rfl) (Jnj Jqi (pv 1) (Jnj Jnv (Jnl (pv 0) (by rfl)) Sr)))
   case O1=>
   refine' Sw ?O2 ?O3
   case O2=>exact (Jnk (i:=3) Sb4.nd rfl (yf rfl) (Jo3 Sk))
   case O3=>
   refine' Sw ?O4 ?O5
   case O4=>
    refine' Jox ?O6 ?O7 ?O8 ?O9 ?Oa
    case O6=>exact PassesOwn.never
    case O7=>exact rfl
    case O8=>exact (Jrb (Jnl (pv 0) (by rfl)))
    case O9=>exact (Jnf (i:=4) Sb4.nd rfl (yf rfl))
    case Oa=>
    refine' Sw ?Ob ?Oc
    case Ob=>exact (Jp5 (Jty F.plainAttrs_list F.slot_list_append F.type_list_append Jr4 (pv 3) (Sj (Jnj Jnv (Jnl (pv 4) (by rfl)) (Jnj Jpn (pv 2) (Jna T.Jh Sat hr (by decide) (Sj (pv 4) Sk)))) Sk)))
    case Oc=>
    refine' Sy ?Od
    case Od=>exact (Jnk (i:=2) Sb4.nd rfl (yf rfl) (Jnj Jqi (pv 2) (Jna T.Jh Sat hr (by decide) (Sj (pv 4) Sk))))
   case O5=>
   refine' Sy ?Oe
   case Oe=>exact (Jnh (Jnz (Sj (Jny Jof (by rfl) T.Jb8 Joo (Sj (pv 3) Sk)) (Sj (Jnj Jpn (pv 1) (Jnj Jnv (Jnl (pv 0) (by rfl)) Sr)) Sk))))
  have len:=bl.len;refine ⟨_,rfl,_,rfl,o,_,dx,_,_,rfl,ho,T.Jfe,T.Jgh,rfl,_,_,rfl,rfl,_,_,rfl,rfl,⟨by omega,Jpx (by omega)⟩,?_⟩;refine ⟨(show 0<=S6 by decide),λL hL=>?_⟩;have sL:=Si.upd (o:=.lst []) hL;refine ⟨_,rfl,o,_,dx,_,_,rfl,sL _ _ ho,T.Jfe,T.Jgj,rfl,b,rfl,⟨_,Su.of (sL _ _ hb)⟩,?_⟩;refine Jvv (K:=K) (a:=b) (xs:=os.map V.ref) (λi σ H'=>∃(o4:Option V),σ= [some (.ref o),some (.int n),some (.int (stF R n i).2),some (.ref L),o4]/\H' L=some (.lst ((stF R n i).1.map V.int))/\Si H H') ?_ ?_ ?_ ?_
  ·exact ⟨_,rfl,Sn,sL⟩
  ·rintro i σ H' _ ⟨_,_,_,sm⟩;exact Su.of (sm _ _ hb)
  ·rintro i x σ H' hx ⟨o4,rfl,hLs,sm⟩;obtain ⟨ob,B,rfl,hB,ba⟩:=(bl.same sm).get hx;obtain ⟨dx',hb',gs⟩:=ba;have hi:i < R.Bs.length:=(yj.mp hB).1;have hlv:=hl B (yq hB);have ln:=Ju9 R n i (by omega);refine ⟨_,rfl,.inl ⟨rfl,_,Ss.of hLs⟩,_,rfl,ob,_,dx',_,_,rfl,hb',T.Jf8,T.Jg9,rfl,_,rfl,_,rfl,ob,B,rfl,⟨dx',hb',gs⟩,_,_,rfl,rfl,by omega,_,_,rfl,rfl,L,_,_,rfl,rfl,hLs,by rw [ye];exact Jo6 (by omega),?_⟩;have sm2:Si H (upd H' L (.lst ((stF R n i).1.map V.int++ [.int (B.lo+(stF R n i).2%lvN B)]))):=λc u e=>by
    rw [Jnc (Jnd e hL)];exact sm _ _ e
   have nL:ob≠L:=λz=>by
    rw [z,hLs] at hb';cases hb'
   refine ⟨_,rfl,_,rfl,ob,B,rfl,(Sce.put hLs ⟨dx',hb',gs⟩),_,_,rfl,rfl,⟨by omega,Jpx (by omega)⟩,?_⟩;rw [Jx9 R n hB];exact ⟨_,rfl,by rw [Sn,yag];rfl,sm2⟩
  ·rintro σ H' ⟨o4,rfl,hLs,sm⟩;rw [ye,len] at hLs;refine ⟨_,rfl,L,_,rfl,.inl ⟨Ss.of hLs,λr hr'=>?_⟩⟩;have s2:=Si.upd (o:=.tup ((stF R n R.Bs.length).1.map V.int)) hr';have s02:=sm.trans s2;refine ⟨_,rfl,_,rfl,o,_,dx,_,_,rfl,s02 _ _ ho,T.Jfe,T.Jgh,rfl,_,_,rfl,rfl,_,_,rfl,rfl,by omega,(show 2<=S6 by decide),λt' ht'=>?_⟩;have s3:=Si.upd (o:=.tup [.ref r,.int (n%(R.c+1))]) ht';exact k _ _ (s02.trans s3) ⟨t',r,rfl,Sn,s3 _ _ Sn⟩
noncomputable def nbF (R:Riv) (ls:List Int) (wt:Int) (i:Nat):Int×Int:=((R.Bs.zip ls).take i).foldl (λp q=>(p.1+p.2*(q.2 - q.1.lo),p.2*lvN q.1)) (wt,R.c+1)
theorem Yej {R:Riv} {ls:List Int} {wt:Int} {i:Nat} {B:Bsn} {l:Int} (h1:R.Bs[i]?=some B) (h2:ls[i]?=some l):nbF R ls wt (i+1)=((nbF R ls wt i).1+(nbF R ls wt i).2*(l - B.lo),(nbF R ls wt i).2*lvN B):=by
 unfold nbF;have e:(R.Bs.zip ls)[i]?=some (B,l):=List.getElem?_zip_eq_some.mpr ⟨h1,h2⟩;rw [yr,e,yca];rfl
inductive Sob (K:Sd) (a:Ad) (vs:List V) (H:Hp) (Q:VK) (z3:XK):Prop where
 |mk (o:S1) (R:Riv) (x:V) (ls:List Int) (wt:Int) (_:vs= [.ref o,x]) (_:Sal K a H o R) (_:Sb2 H x ls wt) (_:ls.length=R.Bs.length) (_:(∀B∈R.Bs,(1<=lvN B/\lvN B<=13)/\0<=B.lo/\B.lo<=12)) (_:(∀l∈ls,0<=l/\l<=1000)) (_:∀H',Si H H'->Q (.int (nbF R ls wt R.Bs.length).1) H')
theorem Sar:Jne ["river","standing","number","step","basin","level"] ["river","standing"] (Jnb (top 46)):=%[|0]
theorem Jtw (T:Tx K mg a):So P w K mg base CX0 2 a.Jjd a.Jje ["river","standing"] (Sob K a):=by
 have Sat:=%[Jqh|1];refine %[T.Jq.fn.ok,Sar|2]
 ·obtain ⟨o,R,x,ls,wt,rfl,_⟩:=h;rfl
 ·obtain ⟨o,R,x,ls,wt,rfl,⟨dx,b,t,os,ts,ho,hb,bl,ht,tl,n1,n2,n3⟩,⟨u,r,rfl,hu,hr'⟩,hls,hB,hlv,k⟩:=h;refine ⟨?t,?B,?C⟩
  case B=>
   refine' Sw ?O0 ?O1
   case O0=>exact (Jnk (i:=2) Sar.nd rfl (yf rfl) (Jno Jns (pv 1) Sr (λ_ _=>rfl)))
   case O1=>
   refine' Sw ?O2 ?O3
   case O2=>exact (Jnk (i:=3) Sar.nd rfl (yf rfl) (Jnj Jnv (Jnl (pv 0) (by rfl)) Sr))
   case O3=>
   refine' Sw ?O4 ?O5
   case O4=>
    refine' Jox ?O6 ?O7 ?O8 ?O9 ?Oa
    case O6=>exact PassesOwn.never
    case O7=>exact rfl
    case O8=>exact (Ygm true true (by rfl) T.Jb9 (Sj (Jnl (pv 0) (by rfl)) (Sj (Jno Jns (pv 1) Sr (λ_ _=>rfl)) Sk)))
    case O9=>exact (Jr9 rfl (Jnq (Jnf (i:=4) Sar.nd rfl (yf rfl)) (Jnq (Jnf (i:=5) Sar.nd rfl (yf rfl)) Jp4)))
    case Oa=>
    refine' Sw ?Ob ?Oc
    case Ob=>exact (Yb1 (i:=2) Sar.nd rfl (yf rfl) (Jnj Jpo (pv 3) (Jnj Joq (pv 5) (Jnl (pv 4) (by rfl)))) Smt)
    case Oc=>
    refine' Sy ?Od
    case Od=>exact (Yb1 (i:=3) Sar.nd rfl (yf rfl) (Jna T.Jh Sat hr (by decide) (Sj (pv 4) Sk)) Ye7)
   case O5=>
   refine' Sy ?Oe
   case Oe=>exact (Jnh (pv 2))
  have len:=bl.len;refine ⟨_,rfl,u,_,1,_,rfl,rfl,Su.of hu,rfl,?_⟩;refine ⟨_,rfl,o,_,dx,_,_,rfl,ho,T.Jfe,T.Jgh,rfl,_,_,rfl,rfl,?_⟩;refine ⟨_,rfl,o,_,dx,_,_,rfl,ho,T.Jfe,T.Jgj,rfl,_,rfl,u,_,0,_,rfl,rfl,Su.of hu,rfl,b,r,rfl,⟨_,Su.of hb⟩,⟨_,Su.of hr'⟩,?_⟩;refine Ydy (K:=K) (l1:=b) (l2:=r) (b1:=true) (b2:=true) (xs:=os.map V.ref) (ys:=ls.map V.int) (λi σ H'=>∃(o4 o5:Option V),σ= [some (.ref o),some (.ref u),some (.int (nbF R ls wt i).1),some (.int (nbF R ls wt i).2),o4,o5]/\Si H H') ⟨_,_,rfl,Si.refl _⟩ (λi σ H' _ ⟨_,_,_,sm⟩=>⟨Su.of (sm _ _ hb),Su.of (sm _ _ hr')⟩) (by rw [ye,ye];omega) ?_ ?_
  ·rintro i x y σ H' Ta hx hy ⟨o4,o5,rfl,sm⟩ hT;rw [yi] at hy;cases el:ls[i]? with
   |none=>rw [el] at hy;cases hy
   |some l=>
    rw [el] at hy;cases hy;have sT:=Si.upd (o:=.tup [x,V.int l]) hT;obtain ⟨ob,B,rfl,eB,dx',hb',gs⟩:=(bl.same (sm.trans sT)).get hx;obtain ⟨h1,h2⟩:=hB B (yq eB);have h3:=hlv l (yq el);refine ⟨Ta,_,rfl,Su.of Sn,rfl,_,_,rfl,_,_,rfl,rfl,?_⟩;refine ⟨_,rfl,_,rfl,_,rfl,_,rfl,ob,_,dx',_,_,rfl,hb',T.Jf8,T.Jg9,rfl,_,_,rfl,rfl,_,_,rfl,rfl,.inr ⟨by omega,by omega⟩,_,_,rfl,rfl,?_⟩;refine ⟨_,rfl,_,rfl,ob,B,rfl,⟨dx',hb',gs⟩,_,_,rfl,rfl,.inr ⟨by omega,by omega⟩,?_⟩;rw [Yej eB el];exact ⟨_,_,rfl,sm.trans sT⟩
  ·rintro σ H' ⟨o4,o5,rfl,sm⟩;rw [ye,len];exact ⟨_,rfl,k _ sm⟩
inductive TpR (H:Hp) (v:V) (r:List Int):Prop where
 |mk (q:_) (_:v= .ref q) (_:H q=some (.tup (r.map V.int)))
noncomputable abbrev TpL (H:Hp) (vs:List V) (rs:List (List Int)):Prop:=Sa7 TpR H vs rs
theorem TpR.mn (D:S1):MnD D TpR:=by
 rintro H H' v a f ⟨q,rfl,g⟩;exact ⟨q,rfl,f q _ (.inr λ_ z=>by cases z) g⟩
theorem TpL.on {H H':Hp} {vs:List V} {rs:List (List Int)} (f:∀q xs,H q=some (.tup xs)->H' q=some (.tup xs)) (h:TpL H vs rs):TpL H' vs rs:=h.imp λv r q=>by
 obtain ⟨q,rfl,g⟩:=q;exact ⟨q,rfl,f _ _ g⟩
theorem TpL.one {H:Hp} {q:S1} {r:List Int} (g:H q=some (.tup (r.map V.int))):TpL H [.ref q] [r]:=Sa7.one ⟨q,rfl,g⟩
noncomputable def lgR (rs:List (List Int)) (ns:List Int):List (List Int):=rs.flatMap λr=>ns.map λn=>r++ [n]
inductive So8 (vs:List V) (H:Hp) (Q:VK) (z3:XK):Prop where
 |mk (R N:S1) (us:List V) (rs:List (List Int)) (ns:List Int) (_:vs= [.ref R,.ref N]) (_:H R=some (.lst us)) (_:TpL H us rs) (_:H N=some (.lst (ns.map V.int))) (_:(∀r∈rs,r.length<=100)) (_:rs.length*ns.length<=1000) (_:ns.length<=1000) (_:∀(L:S1) (ws:List V) (H':Hp),H L=none->Si H H'->H' L=some (.lst ws)->TpL H' ws (lgR rs ns)->Q (.ref L) H')
theorem Jvz (rs:List (List Int)) (ns:List Int):(lgR rs ns).length=rs.length*ns.length:=by
 unfold lgR
 induction rs with
 |nil=>simp
 |cons r rs ih=>rw [ycu,yab,ih,ye,yaf,ycj,Nat.add_comm]
theorem Yeb {rs:List (List Int)} {ns:List Int} {i:Nat} {r:List Int} (h:rs[i]?=some r):lgR (rs.take (i+1)) ns=lgR (rs.take i) ns++ns.map λn=>r++ [n]:=by
 unfold lgR;rw [yr,h,List.flatMap_append];simp
theorem Scb:Jne ["rows","numbers","longer","row"] ["rows","numbers"] (Jnb (top 43)):=%[|0]
theorem Jrx (T:Tx K mg a):So P w K mg base CX0 1 a.Jj7 a.Jj8 ["rows","numbers"] So8:=by
 refine %[T.Jn.fn.ok,Scb|2]
 ·obtain ⟨R,N,us,rs,ns,rfl,_⟩:=h;rfl
 ·obtain ⟨R,N,us,rs,ns,rfl,hR,tp,hN,h100,hm,hn,k⟩:=h;refine ⟨?t,?B,?C⟩
  case B=>
   refine' Sw ?O0 ?O1
   case O0=>exact (Jnk (i:=2) Scb.nd rfl (yf rfl) (Jo3 Sk))
   case O1=>
   refine' Sw ?O2 ?O3
   case O2=>
    refine' Jox ?O4 ?O5 ?O6 ?O7 ?O8
    case O4=>exact PassesOwn.never
    case O5=>exact rfl
    case O6=>exact (Jo8 (pv 0))
    case O7=>exact (Jnf (i:=3) Scb.nd rfl (yak rfl))
    case O8=>
    refine' Sy ?O9
    case O9=>exact (Jp5 (Jty F.plainAttrs_list F.slot_list_extend F.type_list_extend Jsf (pv 2) (Sj (Jnx (N:=(["number","row"]:List Str)) (ini:=[none,some 3]) rfl (Jo8 (pv 1)) (λ_ _ _ _ _=>(Jnf (i:=0) (by decide +kernel:(["number","row"]:List Str).Nodup) rfl (yf rfl))) (λ_ _ _ _ _=>Jnw) (λ_ _ _ _ _=>(Jnj Jw3 (pv 1) (Jnz (Sj (pv 0) Sk))))) Sk)))
   case O3=>
   refine' Sy ?Oa
   case Oa=>exact (Jnh (pv 2))
  refine ⟨(show 0<=S6 by decide),λL hL=>?_⟩;have sL:=Si.upd (o:=.lst []) hL;have ul:=tp.1;refine ⟨_,rfl,R,rfl,⟨_,Ss.of (sL _ _ hR)⟩,?_⟩;refine Jph (xs:=us) (λi σ H'=>∃(o3:Option V) (ws:List V),σ= [some (.ref R),some (.ref N),some (.ref L),o3]/\H' L=some (.lst ws)/\TpL H' ws (lgR (rs.take i) ns)/\Si H H') ?_ ?_ ?_ ?_
  ·exact ⟨_,[],rfl,Sn,.nil,sL⟩
  ·rintro i σ H' _ ⟨_,_,_,_,_,sm⟩;exact Ss.of (sm _ _ hR)
  ·rintro i x σ H' hx ⟨o3,ws,rfl,hLs,tw,sm⟩;have hi:i < us.length:=(yj.mp hx).1;obtain ⟨r,er⟩:∃r,rs[i]?=some r:=⟨rs[i],yh (by omega)⟩;obtain ⟨q,rfl,hq⟩:=tp.2 i x r hx er;have r100:=h100 r (yq er);have wl:ws.length+ns.length<=rs.length*ns.length:=by
    rw [tw.1,Jvz,yaa,ybt (by omega)];have:=Nat.mul_le_mul_right ns.length (show i+1<=rs.length by omega);rw [ycj] at this;exact this
   refine ⟨_,rfl,.inl ⟨rfl,_,Ss.of hLs⟩,_,rfl,N,rfl,⟨_,Ss.of (sm _ _ hN)⟩,λD hD=>?_⟩;refine Jq2 (K:=K) (xs:=ns.map V.int) TpR (ns.map λn=>r++ [n]) (TpR.mn D) hD (by simp) (by rw [ye];omega) (sm _ _ hN) ?_ ?_
   ·intro j y e H2 Q' hy he s2 _ k';rw [yi] at hy he;cases en:ns[j]? with
    |none=>rw [en] at hy;cases hy
    |some n=>
     rw [en] at hy he;cases hy;cases he;refine ⟨_,rfl,_,rfl,(show 1<=S6 by decide),λp hp=>?_⟩;have sp:=Si.upd (o:=.tup [V.int n]) hp;refine ⟨q,p,_,_,rfl,rfl,sp _ _ (s2 _ _ (sm _ _ hq)),Sn,Job _ (by rw [ye];show _+1<=2000;omega),λz H3 s3 hz=>k' _ _ (sp.trans s3) ⟨z,rfl,?_⟩⟩;rw [hz,yag];rfl
   ·intro ys H2 s2 hDs ty;have yl:=ty.1;rw [ye] at yl;have hL2:=s2 _ _ hLs;refine ⟨L,D,ws,ys,rfl,rfl,hL2,hDs,Job _ (by omega),_,ws++ys,rfl,Sn,?_,λc u e=>?_⟩
    ·rw [Yeb er];exact Sa7.on (TpR.mn L) (OnD.grow hL2) (Sa7.append (Sa7.on (TpR.mn L) (OnD.same s2) tw) ty)
    ·rw [Jnc (Jnd e hL)];exact s2 _ _ (sm _ _ e)
  ·rintro σ H' ⟨o3,ws,rfl,hLs,tw,sm⟩;rw [ul,ybo] at tw;exact ⟨_,rfl,k L ws H' hL sm hLs tw⟩
noncomputable def rwN (R:Riv) (sk:Option (List (Int×Int))) (i:Nat):List (List Int):=((Jpc R sk).take i).foldl lgR [[]]
theorem Ju2 {R:Riv} {sk:Option (List (Int×Int))} {i:Nat} {r:List Int} (h:(Jpc R sk)[i]?=some r):rwN R sk (i+1)=lgR (rwN R sk i) r:=by
 unfold rwN;rw [yr,h,yca];rfl
theorem Yez {R:Riv} {sk:Option (List (Int×Int))} (h4:∀r∈Jpc R sk,r.length<=4):∀i,i<=(Jpc R sk).length->(rwN R sk i).length<=4^i/\∀r∈rwN R sk i,r.length=i:=by
 intro i
 induction i with
 |zero=>
  refine λ_=>⟨yg 1,λr hr=>?_⟩;have hr':r∈ [([]:List Int)]:=hr;rw [yal.mp hr'];rfl
 |succ i ih=>
  intro h;obtain ⟨h1,h2⟩:=ih (by omega);have er:(Jpc R sk)[i]?=some (Jpc R sk)[i]:=yh (by omega);rw [Ju2 er];refine ⟨?_,λr hr=>?_⟩
  ·rw [Jvz,Nat.pow_succ];exact Nat.mul_le_mul h1 (h4 _ (yaq _))
  ·unfold lgR at hr;obtain ⟨r0,hr0,hr⟩:=ycr.mp hr;obtain ⟨n,_,rfl⟩:=yn.mp hr;rw [yab,h2 r0 hr0];rfl
theorem Jun (R:Riv) (sk:Option (List (Int×Int))):(Jpc R sk).length=R.Bs.length:=by
 unfold Jpc;have go:∀(l:List (Int×Int)) (rs:List (List Int)),(l.foldl (λrs p=>rs.set p.1.toNat [p.2]) rs).length=rs.length:=by
  intro l
  induction l with
  |nil=>exact λrs=>rfl
  |cons p l ih=>exact λrs=>(ih _).trans ybl
 rw [go,ye]
noncomputable def twV:Option Int->V
 |none=>.non
 |some i=>.int i
noncomputable def twL (R:Riv):List (Option Int):=none::(rgI R.Ts.length).map some
noncomputable def chL (R:Riv) (sk:Option (List (Int×Int))):List (List Int×Option Int):=(rwN R sk R.Bs.length).flatMap λr=>(twL R).map λt=>(r,t)
inductive CcR (H:Hp) (v:V) (c:List Int×Option Int):Prop where
 |mk (t:_) (q:_) (_:v= .ref t) (_:H t=some (.tup [.ref q,twV c.2])) (_:H q=some (.tup (c.1.map V.int)))
noncomputable abbrev CcL (H:Hp) (vs:List V) (cs:List (List Int×Option Int)):Prop:=Sa7 CcR H vs cs
theorem CcR.mn (D:S1):MnD D CcR:=by
 rintro H H' v a f ⟨t,q,rfl,g1,g2⟩;exact ⟨t,q,rfl,f t _ (.inr λ_ z=>by cases z) g1,f q _ (.inr λ_ z=>by cases z) g2⟩
theorem CcL.on {H H':Hp} {vs:List V} {cs:List (List Int×Option Int)} (f:∀q xs,H q=some (.tup xs)->H' q=some (.tup xs)) (h:CcL H vs cs):CcL H' vs cs:=h.imp λv r q=>by
 obtain ⟨t,q,rfl,g1,g2⟩:=q;exact ⟨t,q,rfl,f _ _ g1,f _ _ g2⟩
theorem Snk {i:Nat} (h:i<=4):4^i<=256:=by
 have cs:i=0\/i=1\/i=2\/i=3\/i=4:=by omega
 rcases cs with rfl|rfl|rfl|rfl|rfl <;> decide
theorem Srp {i:Nat} (h:i+1<=4):4^i*4<=256:=by
 rw [<-Nat.pow_succ];exact Snk h
inductive Snw (K:Sd) (a:Ad) (vs:List V) (H:Hp) (Q:VK) (z3:XK):Prop where
 |mk (o:S1) (R:Riv) (x:V) (sk:Option (List (Int×Int))) (_:vs= [.ref o,x]) (_:Sal K a H o R) (_:Sdd H x sk) (_:Jvg R sk) (_:R.Bs.length<=4) (_:∀(l:S1) (us:List V) (H':Hp),H l=none->Si H H'->H' l=some (.lst us)->CcL H' us (chL R sk)->Q (.ref l) H')
theorem Sae:Jne ["river","stuck","rows","settings","towns","let","row"] ["river","stuck"] (Jnb (top 44)):=%[|0]
theorem Jwr (T:Tx K mg a):So P w K mg base CX0 3 a.Jj9 a.Jja ["river","stuck"] (Snw K a):=by
 have Sc6:=%[Jrg|1];have Sck:=%[Jrx|1];refine %[T.Jo.fn.ok,Sae|2]
 ·obtain ⟨o,R,x,sk,rfl,_⟩:=h;rfl
 ·obtain ⟨o,R,x,sk,rfl,ro,sa,so,h4,k⟩:=h;refine ⟨?t,?B,?C⟩
  case B=>
   refine' Sw ?O0 ?O1
   case O0=>exact (Jnk (i:=2) Sae.nd rfl (yf rfl) (Jo3 (Sj (Jnz Sk) Sk)))
   case O1=>
   refine' Sw ?O2 ?O3
   case O2=>
    refine' Jox ?O4 ?O5 ?O6 ?O7 ?O8
    case O4=>exact PassesOwn.never
    case O5=>exact rfl
    case O6=>exact (Jo8 (Jna T.Jf Sc6 hr (by decide) (Sj (pv 0) (Sj (pv 1) Sk))))
    case O7=>exact (Jnf (i:=3) Sae.nd rfl (yf rfl))
    case O8=>
    refine' Sy ?O9
    case O9=>exact (Jnk (i:=2) Sae.nd rfl (yf rfl) (Jna T.Jn Sck hr (by decide) (Sj (pv 2) (Sj (pv 3) Sk))))
   case O3=>
   refine' Sw ?Oa ?Ob
   case Oa=>exact (Jnk (i:=4) Sae.nd rfl (yf rfl) (Jnj Jt8 (Jo3 (Sj Jpp Sk)) (Jny (Jqs rfl) (by rfl) T.Jaz Jpu (Sj (Jny Juh (by rfl) T.Jb2 Jwc (Sj (Jng Jnm (by rfl) T.Jay Joh (Sj (Jnl (pv 0) (by rfl)) Sk)) Sk)) Sk))))
   case Ob=>
   refine' Sw ?Oc ?Od
   case Oc=>exact (Jnk (i:=5) Sae.nd rfl (yf rfl) (Jo3 Sk))
   case Od=>
   refine' Sw ?Oe ?Of
   case Oe=>
    refine' Jox ?Og ?Oh ?Oi ?Oj ?Ok
    case Og=>exact PassesOwn.never
    case Oh=>exact rfl
    case Oi=>exact (Jo8 (pv 2))
    case Oj=>exact (Jnf (i:=6) Sae.nd rfl (yak rfl))
    case Ok=>
    refine' Sy ?Ol
    case Ol=>exact (Jp5 (Jty F.plainAttrs_list F.slot_list_extend F.type_list_extend Jsf (pv 5) (Sj (Jnx (N:=(["town","row"]:List Str)) (ini:=[none,some 6]) rfl (Jo8 (pv 4)) (λ_ _ _ _ _=>(Jnf (i:=0) (by decide +kernel:(["town","row"]:List Str).Nodup) rfl (yf rfl))) (λ_ _ _ _ _=>Jnw) (λ_ _ _ _ _=>(Jnz (Sj (pv 1) (Sj (pv 0) Sk))))) Sk)))
   case Of=>
   refine' Sy ?Om
   case Om=>exact (Jnh (pv 5))
  obtain ⟨dx,b,t,os,ts,ho,hb,bl,ht,tl,n1,n2,n3⟩:=id ro;have r4:=Jwl R sk bl.n4;have ll:=Jun R sk;refine ⟨(show 0<=S6 by decide),λe0 he0=>⟨(show 1<=S6 by decide),λl0 hl0=>?_⟩⟩;have s0:Si H (upd (upd H e0 (.tup [])) l0 (.lst [.ref e0])):=(Si.upd he0).trans (Si.upd hl0);have tp0:TpL (upd (upd H e0 (.tup [])) l0 (.lst [.ref e0])) [.ref e0] [[]]:=TpL.one ((Si.upd hl0) _ _ Sn);have g0:=Sn (H:=upd H e0 (.tup [])) (a:=l0) (o:=.lst [.ref e0]);generalize upd (upd H e0 (.tup [])) l0 (.lst [.ref e0])=H0 at*;refine ⟨_,rfl,_,rfl,o,R,x,sk,rfl,ro.same s0,sa.same s0,so,λl us H1 hl s1 hl1 rw_=>⟨l,rfl,⟨_,Ss.of hl1⟩,?_⟩⟩;have s01:=s0.trans s1;have ul:us.length=R.Bs.length:=by rw [rw_.1,ll]
  refine Jph (xs:=us) (λi σ H'=>∃(Rw:S1) (vs:List V) (o3:Option V),σ= [some (.ref o),some x,some (.ref Rw),o3,none,none,none]/\H' Rw=some (.lst vs)/\TpL H' vs (rwN R sk i)/\Si H1 H') ?_ ?_ ?_ ?_
  ·exact ⟨l0,[.ref e0],_,rfl,s1 _ _ g0,TpL.on (λq xs e=>s1 _ _ e) tp0,Si.refl _⟩
  ·rintro i σ H' _ ⟨_,_,_,_,_,_,sm⟩;exact Ss.of (sm _ _ hl1)
  ·rintro i y σ H' hy ⟨Rw,vs,o3,rfl,hRw,tp,sm⟩;have hi:i < us.length:=(yj.mp hy).1;obtain ⟨r,er⟩:∃r,(Jpc R sk)[i]?=some r:=⟨(Jpc R sk)[i],yh (by omega)⟩;obtain ⟨q,rfl,_,g⟩:=rw_.2 i y r hy er;have rl:=r4 r (yq er);obtain ⟨b1,b2⟩:=Yez (R:=R) (sk:=sk) r4 i (by omega);have b3:=Nat.mul_le_mul b1 rl;have b4:=Srp (i:=i) (by omega);refine ⟨_,rfl,_,rfl,Rw,q,vs,rwN R sk i,r,rfl,hRw,tp,sm _ _ g,λr' hr'=>?_,by omega,by omega,λL ws H2 hL s2 hL2 tw=>?_⟩
   ·rw [b2 r' hr'];omega
   ·refine ⟨L,ws,_,rfl,hL2,?_,sm.trans s2⟩;rw [Ju2 er];exact tw
  rintro σ H2 ⟨Rw,vs,o3,rfl,hRw,tp,s2⟩;rw [ul] at tp;have s02:=s01.trans s2;obtain ⟨b1,b2⟩:=Yez (R:=R) (sk:=sk) r4 R.Bs.length (by omega);have b5:=Snk h4;have tln:=tl.len;refine ⟨(show 1<=S6 by decide),λa1 ha1=>?_⟩;have s3:=Si.upd (o:=.lst [V.non]) ha1;have s03:=s02.trans s3;refine ⟨_,rfl,o,_,dx,_,_,rfl,s03 _ _ ho,T.Jfe,T.Jgk,rfl,t,_,rfl,.inr (Su.of (s03 _ _ ht)),_,rfl,λp hp=>⟨p,_,_,rfl,Sn,by omega,by omega,by omega,by rw [ye];omega,λl2 hl2=>?_⟩⟩;have er:((yav (((ts.map V.ref).length:Int) - 0).toNat).map λk:Nat=>V.int (0+k))=((rgI R.Ts.length).map some).map twV:=by
   unfold rgI;rw [yaw,yaw,Int.sub_zero,yax,ye,tln];exact List.map_congr_left λk _=>by simp [twV]
  rw [er];have s4:=Si.upd (o:=.rng 0 ((ts.map V.ref).length:Int)) hp;have s5:=Si.upd (o:=.lst (((rgI R.Ts.length).map some).map twV)) hl2;have tz: [V.non].length+(((rgI R.Ts.length).map some).map twV).length<=S6:=Job _ (by unfold rgI;rw [ye,ye,ye,ybn];show 1+_<=2000;omega);refine ⟨a1,l2,_,_,rfl,rfl,s5 _ _ (s4 _ _ Sn),Sn,tz,λTW hTW=>?_⟩;have e6: [V.non]++((rgI R.Ts.length).map some).map twV=(twL R).map twV:=rfl;rw [e6];have s6:=Si.upd (o:=.lst ((twL R).map twV)) hTW;have s26:=((s3.trans s4).trans s5).trans s6;have g6:=Sn (H:=upd (upd (upd H2 a1 (.lst [V.non])) p (.rng 0 ((ts.map V.ref).length:Int))) l2 (.lst (((rgI R.Ts.length).map some).map twV))) (a:=TW) (o:=.lst ((twL R).map twV));generalize upd (upd (upd (upd H2 a1 (.lst [V.non])) p (.rng 0 ((ts.map V.ref).length:Int))) l2 (.lst (((rgI R.Ts.length).map some).map twV))) TW (.lst ((twL R).map twV))=H6 at*;have s06:=s02.trans s26;have hRw6:=s26 _ _ hRw;have tp6:=TpL.on (λq xs e=>s26 _ _ e) tp;refine ⟨(show 0<=S6 by decide),λL hL=>?_⟩;have sL:=Si.upd (o:=.lst []) hL;have twl:(twL R).length<=4:=by
   unfold twL rgI;rw [yaf,ye,ye,ybn];omega
  refine ⟨_,rfl,Rw,rfl,⟨_,Ss.of (sL _ _ hRw6)⟩,?_⟩;have vl:=tp6.1;refine Jph (xs:=vs) (λi σ H'=>∃(o6:Option V) (ws:List V),σ= [some (.ref o),some x,some (.ref Rw),o3,some (.ref TW),some (.ref L),o6]/\H' L=some (.lst ws)/\CcL H' ws (((rwN R sk R.Bs.length).take i).flatMap λr=>(twL R).map λt=>(r,t))/\ws.length<=4*i/\Si H6 H') ?_ ?_ ?_ ?_
  ·exact ⟨_,[],rfl,Sn,.nil,yg 0,sL⟩
  ·rintro i σ H' _ ⟨_,_,_,_,_,_,sm⟩;exact Ss.of (sm _ _ hRw6)
  ·rintro i y σ H' hy ⟨o6,ws,rfl,hLs,cc,wl,sm⟩;have hi:i < vs.length:=(yj.mp hy).1;obtain ⟨r,err⟩:∃r,(rwN R sk R.Bs.length)[i]?=some r:=⟨(rwN R sk R.Bs.length)[i],yh (by omega)⟩;obtain ⟨q,rfl,hq⟩:=tp6.2 i y r hy err;refine ⟨_,rfl,.inl ⟨rfl,_,Ss.of hLs⟩,_,rfl,TW,rfl,⟨_,Ss.of (sm _ _ g6)⟩,λD hD=>?_⟩;refine Jq2 (K:=K) (xs:=(twL R).map twV) CcR ((twL R).map λt=>(r,t)) (CcR.mn D) hD (by simp) (by rw [ye];omega) (sm _ _ g6) ?_ ?_
   ·intro j z e H2 Q' hz he s2 _ k';rw [yi] at hz he;cases en:(twL R)[j]? with
    |none=>rw [en] at hz;cases hz
    |some n=>
     rw [en] at hz he;cases hz;cases he;refine ⟨_,rfl,_,rfl,(show 2<=S6 by decide),λp hp=>?_⟩;have sp:=Si.upd (o:=.tup [.ref q,twV n]) hp;exact k' _ _ sp ⟨p,q,rfl,Sn,sp _ _ (s2 _ _ (sm _ _ hq))⟩
   ·intro ys H2 s2 hDs ty;have yl:=ty.1;rw [ye] at yl;have hL2:=s2 _ _ hLs;refine ⟨L,D,ws,ys,rfl,rfl,hL2,hDs,Job _ (by omega),_,ws++ys,rfl,Sn,?_,by rw [yab];omega,λc u e=>?_⟩
    ·rw [yr,err,List.flatMap_append];refine Sa7.on (CcR.mn L) (OnD.grow hL2) (Sa7.append (Sa7.on (CcR.mn L) (OnD.same s2) cc) ?_);show CcL _ ys (List.flatMap _ [r]);rw [List.flatMap_singleton];exact ty
    ·rw [Jnc (Jnd e hL)];exact s2 _ _ (sm _ _ e)
  ·rintro σ H' ⟨o6,ws,rfl,hLs,cc,wl,sm⟩;rw [vl,ybo] at cc;have h0:H L=none:=by
    cases e:H L with
    |none=>rfl
    |some u=>rw [s06 _ _ e] at hL;cases hL
   exact ⟨_,rfl,k L ws H' h0 (s06.trans sm) hLs cc⟩
noncomputable def Yai (R:Riv) (wet:Int):Int:=
 if (R.Bs.map (·.rn)).sum < (if 0 > wet+R.g - R.c then 0 else wet+R.g - R.c) then (R.Bs.map (·.rn)).sum else (if 0 > wet+R.g - R.c then 0 else wet+R.g - R.c)
inductive Yf5 (K:Sd) (a:Ad) (vs:List V) (H:Hp) (Q:VK) (z3:XK):Prop where
 |mk (o:S1) (R:Riv) (wet:Int) (_:vs= [.ref o,.int wet]) (_:Sal K a H o R) (_:∀H',Si H H'->Q (.int (Yai R wet)) H')
theorem Yd0 {Bs:List Bsn} (n1:Bs.length<=16) (n3:∀B∈Bs,0<=B.rn/\B.rn<=6):Sml (Bs.map (·.rn)):=by
 refine ⟨by rw [ye];omega,λn hn=>?_⟩;obtain ⟨B,hB,rfl⟩:=yn.mp hn;have:=n3 B hB;omega
theorem Sde:Jne ["river","wet","too_many"] ["river","wet"] (Jnb (top 23)):=%[|0]
theorem Jws (T:Tx K mg a):So P w K mg base CX0 1 a.Ji5 a.Ji6 ["river","wet"] (Yf5 K a):=by
 refine %[T.J6.fn.ok,Sde|2]
 ·obtain ⟨o,R,wet,rfl,_⟩:=h;rfl
 ·obtain ⟨o,R,wet,rfl,ro,k⟩:=h;refine ⟨?t,?B,?C⟩
  case B=>
   refine' Sw ?O0 ?O1
   case O0=>exact (Jnk (i:=2) Sde.nd rfl (yf rfl) (Jng (Jqz rfl) (by rfl) T.Jb0 Jwb (Sj (Jnj Joq (Jnj Jnv (pv 1) (Jnl (pv 0) (by rfl))) (Jnl (pv 0) (by rfl))) (Sj Sr Sk))))
   case O1=>
   refine' Sy ?O2
   case O2=>exact (Jnh (Jng (Jug rfl) (by rfl) T.Jb1 Yac (Sj (pv 2) (Sj (Jng (Jrq rfl) (by rfl) T.Jb7 Jrp (Sj (Jnx (N:=(["basin"]:List Str)) (ini:=[none]) rfl (Jrb (Jnl (pv 0) (by rfl))) (λ_ _ _ _ _=>(Jnf (i:=0) (by decide +kernel:(["basin"]:List Str).Nodup) rfl (yf rfl))) (λ_ _ _ _ _=>Jnw) (λ_ _ _ _ _=>(Jp3 (K:=K) rfl (pv 0) (by rfl)))) Sk)) Sk))))
  obtain ⟨dx,b,t,os,ts,ho,hb,bl,ht,tl,n1,n2,n3⟩:=ro;have len:=bl.len;refine ⟨_,rfl,_,rfl,o,_,dx,_,_,rfl,ho,T.Jfe,T.Jgi,rfl,_,_,rfl,rfl,?_⟩;refine ⟨_,rfl,o,_,dx,_,_,rfl,ho,T.Jfe,T.Jgh,rfl,_,_,rfl,rfl,_,_,rfl,?_⟩;refine ⟨_,rfl,_,rfl,o,_,dx,_,_,rfl,ho,T.Jfe,T.Jgj,rfl,b,rfl,⟨_,Su.of hb⟩,λD hD=>?_⟩;refine Jr3 ((R.Bs.map (·.rn)).map V.int) hD (by simp [len]) (by rw [ye];omega) hb ?_ ?_
  ·intro i x y H' Q' hx hy sm k';obtain ⟨ob,B,rfl,hB,dx,hb,gs⟩:=(bl.same sm).get hx;rw [yi,yi,hB] at hy;cases hy;exact ⟨_,rfl,ob,_,dx,_,_,rfl,hb,T.Jf8,T.Jgc,rfl,k' _ λ_ _ h=>h⟩
  intro H1 s1 hD1;exact ⟨D,_,rfl,.inl (Ss.of hD1),Yd0 n1 n3,_,_,rfl,k _ s1⟩
theorem Jrc:Jne ["self","thing"] ["self","thing"] (Jnb (Jni (top 10) 0)):=%[|0]
theorem Jt2 (T:Tx K mg a):So P w K mg base CX0 1 a.Jhn a.Jho ["self","thing"] (Jq7 K "thing"):=by
 refine %[T.Jd3.fn.ok,Jrc|2]
 ·obtain ⟨e,C,W,fI,y,rfl,_⟩:=h;rfl
 ·obtain ⟨e,C,W,fI,y,rfl,q,c,n,k⟩:=h;refine ⟨_,(Sy (Jq3 (pv 0) (pv 1) rfl)),?_⟩;exact ⟨_,rfl,_,rfl,e,C,W,fI,true,rfl,q,c,n,k⟩
noncomputable def rnS (R:Riv) (wet:Int) (i:Nat):List (List Int):=(R.Bs.take i).foldl (λrs B=>(lgR rs (rgI (B.rn+1).toNat)).filter λr=>decide (r.sum<=wet)) [[]]
theorem Yu {R:Riv} {wet:Int} {i:Nat} {B:Bsn} (h:R.Bs[i]?=some B):rnS R wet (i+1)=(lgR (rnS R wet i) (rgI (B.rn+1).toNat)).filter λr=>decide (r.sum<=wet):=by
 unfold rnS;rw [yr,h,yca];rfl
noncomputable def rnL (R:Riv) (wet:Int):List (List Int):=(rnS R wet R.Bs.length).filter λr=>decide (Yai R wet<=r.sum)
inductive RnB (R:Riv):Prop where
 |mk (b:Nat) (_:1<=b) (_:b^R.Bs.length<=1000) (_:∀B∈R.Bs,0<=B.rn/\B.rn+1<=b/\B.rn<=6)
theorem Joj (n:Nat):(rgI n).length=n:=by
 unfold rgI;rw [ye,ybn]
theorem Jze {n:Nat} {x:Int} (h:x∈rgI n):0<=x/\x < n:=by
 unfold rgI at h;obtain ⟨k,hk,rfl⟩:=yn.mp h;have:=ybu.mp hk;omega
theorem Ybu {rs:List (List Int)} {ns:List Int} {r:List Int} (h:r∈lgR rs ns):∃r0∈rs,∃n∈ns,r=r0++ [n]:=by
 unfold lgR at h;obtain ⟨r0,hr0,hr⟩:=ycr.mp h;obtain ⟨n,hn,rfl⟩:=yn.mp hr;exact ⟨r0,hr0,n,hn,rfl⟩
noncomputable def R6 (i:Nat) (r:List Int):Prop:=r.length=i/\∀n∈r,0<=n/\n<=6
theorem R6.snoc {i:Nat} {r:List Int} {n:Int} (h:R6 i r) (h0:0<=n) (h6:n<=6):R6 (i+1) (r++ [n]):=by
 refine ⟨by rw [yab,h.1];rfl,λm hm=>?_⟩;rcases yay.mp hm with q|q
 ·exact h.2 m q
 ·rw [yal.mp q];exact ⟨h0,h6⟩
theorem R6.sml {i:Nat} {r:List Int} (h:R6 i r) (hi:i<=16):Sml r:=⟨by rw [h.1];omega,λn hn=>by have:=h.2 n hn;omega⟩
theorem Sl4 {rs:List (List Int)} {B:Bsn} {i:Nat} (h:∀r∈rs,R6 i r) (h0:0<=B.rn) (h6:B.rn<=6):∀r∈lgR rs (rgI (B.rn+1).toNat),R6 (i+1) r:=by
 intro r hr;obtain ⟨r0,hr0,n,hn,rfl⟩:=Ybu hr;have:=Jze hn;exact (h r0 hr0).snoc (by omega) (by omega)
theorem Yev {R:Riv} {wet:Int} {b:Nat} (hb:∀B∈R.Bs,0<=B.rn/\B.rn+1<=b/\B.rn<=6):∀i,i<=R.Bs.length->(rnS R wet i).length<=b^i/\∀r∈rnS R wet i,R6 i r:=by
 intro i
 induction i with
 |zero=>
  refine λ_=>⟨yg 1,λr hr=>?_⟩;have hr':r∈ [([]:List Int)]:=hr;rw [yal.mp hr'];exact ⟨rfl,λn hn=>nomatch hn⟩
 |succ i ih=>
  intro h;obtain ⟨h1,h2⟩:=ih (by omega);have eB:R.Bs[i]?=some R.Bs[i]:=yh (by omega);obtain ⟨q0,q1,q2⟩:=hb _ (yaq (by omega:i < R.Bs.length));rw [Yu eB];refine ⟨yae (List.length_filter_le _ _) ?_,λr hr=>Sl4 h2 q0 q2 r (List.mem_filter.mp hr).1⟩;rw [Jvz,Joj,Nat.pow_succ];exact Nat.mul_le_mul h1 (by omega)
theorem Ss0 {R:Riv} {wet:Int} (h:RnB R):(rnL R wet).length<=1000/\∀r∈rnL R wet,R6 R.Bs.length r:=by
 obtain ⟨b,_,b2,hb⟩:=h;obtain ⟨h1,h2⟩:=Yev (wet:=wet) hb R.Bs.length (yg _);exact ⟨yae (List.length_filter_le _ _) (yae h1 b2),λr hr=>h2 r (List.mem_filter.mp hr).1⟩
inductive Yha (K:Sd) (a:Ad) (vs:List V) (H:Hp) (Q:VK) (z3:XK):Prop where
 |mk (o:S1) (R:Riv) (wt:Int) (_:vs= [.ref o,.int wt]) (_:Sal K a H o R) (_:RnB R) (_:∀(L:S1) (us:List V) (H':Hp),H L=none->Si H H'->H' L=some (.lst us)->TpL H' us (rnL R wt)->Q (.ref L) H')
theorem Sbd:Jne ["river","wet","rows","basin","longer","least"] ["river","wet"] (Jnb (top 45)):=%[|0]
theorem Yk (T:Tx K mg a):So P w K mg base CX0 2 a.Jjb a.Jjc ["river","wet"] (Yha K a):=by
 have Sck:=%[Jrx|1];have Sfe:=%[Jws|1];refine %[T.Jp.fn.ok,Sbd|2]
 ·obtain ⟨o,R,wt,rfl,_⟩:=h;rfl
 ·obtain ⟨o,R,wt,rfl,ro,⟨bb,b1,bp,hb6⟩,k⟩:=h;refine ⟨?t,?B,?C⟩
  case B=>
   refine' Sw ?O0 ?O1
   case O0=>exact (Jnk (i:=2) Sbd.nd rfl (yf rfl) (Jo3 (Sj (Jnz Sk) Sk)))
   case O1=>
   refine' Sw ?O2 ?O3
   case O2=>
    refine' Jox ?O4 ?O5 ?O6 ?O7 ?O8
    case O4=>exact PassesOwn.never
    case O5=>exact rfl
    case O6=>exact (Jrb (Jnl (pv 0) (by rfl)))
    case O7=>exact (Jnf (i:=3) Sbd.nd rfl (yf rfl))
    case O8=>
    refine' Sw ?O9 ?Oa
    case O9=>exact (Jnk (i:=4) Sbd.nd rfl (yf rfl) (Jna T.Jn Sck hr (by decide) (Sj (pv 2) (Sj (Jny (Jqs rfl) (by rfl) T.Jaz Jpu (Sj (Jny Juh (by rfl) T.Jb2 Jwc (Sj (Jnj Jnv (Jnl (pv 3) (by rfl)) Sr) Sk)) Sk)) Sk))))
    case Oa=>
    refine' Sy ?Ob
    case Ob=>exact (Ju1 (i:=2) (N:=(["row","wet"]:List Str)) (ini:=[none,some 1]) Sbd.nd rfl (yf rfl) rfl (Jo8 (pv 4)) (λ_ _ _ _ _=>(Jnf (i:=0) (by decide +kernel:(["row","wet"]:List Str).Nodup) rfl (yf rfl))) (λ_ _ _ _ _=>(Jzc (Jo9 Jry (Jng (Jsc (K:=K) rfl rfl) (by rfl) T.Jb7 Jrp (Sj (pv 0) Sk)) (pv 1) (Joc _)))) (λ_ _ _ _ _=>(pv 0)))
   case O3=>
   refine' Sw ?Oc ?Od
   case Oc=>exact (Jnk (i:=5) Sbd.nd rfl (yak rfl) (Jna T.J6 Sfe hr (by decide) (Sj (pv 0) (Sj (pv 1) Sk))))
   case Od=>
   refine' Sy ?Oe
   case Oe=>exact (Jnh (Jnx (N:=(["row","least"]:List Str)) (ini:=[none,some 5]) rfl (Jo8 (pv 2)) (λ_ _ _ _ _=>(Jnf (i:=0) (by decide +kernel:(["row","least"]:List Str).Nodup) rfl (yf rfl))) (λ_ _ _ _ _=>(Jzc (Jo9 Sl6 (Jng (Jsc (K:=K) rfl rfl) (by rfl) T.Jb7 Jrp (Sj (pv 0) Sk)) (pv 1) (Joc _)))) (λ_ _ _ _ _=>(pv 0))))
  obtain ⟨dx,b,t,os,ts,ho,hb,bl,ht,tl,n1,n2,n3⟩:=id ro;have len:=bl.len;refine ⟨(show 0<=S6 by decide),λe0 he0=>⟨(show 1<=S6 by decide),λl0 hl0=>?_⟩⟩;have s0:Si H (upd (upd H e0 (.tup [])) l0 (.lst [.ref e0])):=(Si.upd he0).trans (Si.upd hl0);have tp0:TpL (upd (upd H e0 (.tup [])) l0 (.lst [.ref e0])) [.ref e0] [[]]:=TpL.one ((Si.upd hl0) _ _ Sn);have g0:=Sn (H:=upd H e0 (.tup [])) (a:=l0) (o:=.lst [.ref e0]);generalize upd (upd H e0 (.tup [])) l0 (.lst [.ref e0])=H0 at*;refine ⟨_,rfl,o,_,dx,_,_,rfl,s0 _ _ ho,T.Jfe,T.Jgj,rfl,b,rfl,⟨_,Su.of (s0 _ _ hb)⟩,?_⟩;refine Jvv (K:=K) (a:=b) (xs:=os.map V.ref) (λi σ H'=>∃(Rw:S1) (vs:List V) (o3 o4:Option V),σ= [some (.ref o),some (.int wt),some (.ref Rw),o3,o4,none]/\H' Rw=some (.lst vs)/\TpL H' vs (rnS R wt i)/\Si H H') ?_ ?_ ?_ ?_
  ·exact ⟨l0,[.ref e0],_,_,rfl,g0,tp0,s0⟩
  ·rintro i σ H' _ ⟨_,_,_,_,_,_,_,sm⟩;exact Su.of (sm _ _ hb)
  ·rintro i x σ H' hx ⟨Rw,vs,o3,o4,rfl,hRw,tp,sm⟩;obtain ⟨ob,B,rfl,hB,dx',hb',gs⟩:=(bl.same sm).get hx;have hi:i < R.Bs.length:=(yj.mp hB).1;obtain ⟨q0,q1,q2⟩:=hb6 B (yq hB);obtain ⟨r1,r2⟩:=Yev (wet:=wt) hb6 i (by omega);have hpow:bb^i*bb<=1000:=by
    rw [<-Nat.pow_succ];exact yae (Nat.pow_le_pow_right b1 (by omega)) bp
   refine ⟨_,rfl,_,rfl,ob,_,dx',_,_,rfl,hb',T.Jf8,T.Jgc,rfl,_,_,rfl,rfl,_,rfl,λp hp=>⟨p,_,_,rfl,Sn,by omega,by omega,by omega,?_,λl2 hl2=>?_⟩⟩
   ·omega
   have er:((yav ((B.rn+1) - 0).toNat).map λk:Nat=>V.int (0+k))=(rgI (B.rn+1).toNat).map V.int:=by
    unfold rgI;rw [yaw,Int.sub_zero];exact List.map_congr_left λk _=>by simp
   rw [er];have sp:Si H' (upd (upd H' p (.rng 0 (B.rn+1))) l2 (.lst ((rgI (B.rn+1).toNat).map V.int))):=(Si.upd hp).trans (Si.upd hl2);have g2:=Sn (H:=upd H' p (.rng 0 (B.rn+1))) (a:=l2) (o:=.lst ((rgI (B.rn+1).toNat).map V.int));generalize upd (upd H' p (.rng 0 (B.rn+1))) l2 (.lst ((rgI (B.rn+1).toNat).map V.int))=H1 at*;have gl:=Joj (B.rn+1).toNat;have m1:(rnS R wt i).length*(rgI (B.rn+1).toNat).length<=1000:=yae (Nat.mul_le_mul r1 (by omega)) hpow;refine ⟨Rw,l2,vs,rnS R wt i,rgI (B.rn+1).toNat,rfl,sp _ _ hRw,TpL.on (λq xs e=>sp _ _ e) tp,g2,λr hr=>?_,m1,by omega,λL ws H2 hL s2 hL2 tw=>?_⟩
   ·rw [(r2 r hr).1];omega
   have lg6:=Sl4 (B:=B) r2 q0 q2;have wl:=tw.1;rw [Jvz] at wl;have s02:=(sm.trans sp).trans s2;refine ⟨_,rfl,L,rfl,⟨_,Ss.of hL2⟩,λD hD=>?_⟩;refine Jy5 (K:=K) TpR _ (λr=>decide (r.sum<=wt)) (TpR.mn D) hD tw (by omega) hL2 ?_ ?_
   ·rintro j y r H3 Q' er ⟨q,rfl,hq⟩ k';exact ⟨_,rfl,q,r,rfl,.inr (Su.of hq),(lg6 r (yq er)).sml (by omega),_,rfl,_,_,rfl,rfl,_,rfl,k'⟩
   ·intro ys H3 s3 hDs ty;rw [<-Yu hB] at ty;exact ⟨D,ys,_,_,rfl,hDs,ty,s02.trans s3⟩
  rintro σ H2 ⟨Rw,vs,o3,o4,rfl,hRw,tp,s2⟩;rw [ye,len] at tp;obtain ⟨r1,r2⟩:=Yev (wet:=wt) hb6 R.Bs.length (yg _);refine ⟨_,rfl,_,rfl,o,R,wt,rfl,ro.same s2,λH3 s3=>?_⟩;have s03:=s2.trans s3;have tp3:=TpL.on (λq xs e=>s3 _ _ e) tp;have hRw3:=s3 _ _ hRw;have vl:=tp3.1;refine ⟨_,rfl,Rw,rfl,⟨_,Ss.of hRw3⟩,λD hD=>?_⟩;refine Jy5 (K:=K) TpR _ (λr=>decide (Yai R wt<=r.sum)) (TpR.mn D) hD tp3 (by omega) hRw3 ?_ ?_
  ·rintro j y r H4 Q' er ⟨q,rfl,hq⟩ k';exact ⟨_,rfl,q,r,rfl,.inr (Su.of hq),(r2 r (yq er)).sml (by omega),_,rfl,_,_,rfl,rfl,_,rfl,k'⟩
  ·intro ys H4 s4 hDs ty;have h0:H D=none:=by
    cases e:H D with
    |none=>rfl
    |some u=>rw [s03 _ _ e] at hD;cases hD
   exact k D ys H4 h0 (s03.trans s4) hDs ty
noncomputable def Jx0 (kd:Str) (m lv:Int):Int:=if kd=("step" :Str) then (if lv < m then lv else m) else if kd=("flap" :Str) then (if 0 > lv - m then 0 else lv - m) else lv/m
noncomputable def lvG (G:Jnt) (s lv:Int):Int:=Jx0 G.kd (G.ns.getD (match G.sv with|some j=>j|none=>s).toNat 0) lv
inductive Yb9 (C:S1) (lo:Int) (f:Int->Int->Int) (vs:List V) (H:Hp) (Q:VK) (z3:XK):Prop where
 |mk (g:S1) (ns:List Int) (s lv:Int) (_:vs= [.ref g,.int s,.int lv]) (_:Sc7 C H g (ns.map V.int)) (_:(0<=s/\s < ns.length)) (_:(∀n∈ns,lo<=n/\n<=12)) (_:(0<=lv/\lv<=1000)) (_:Q (.int (f (ns.getD s.toNat 0) lv)) H)
theorem Jth:Jne ["self","setting","level"] ["self","setting","level"] (Jnb (Jni (top 58) 2)):=%[|0]
theorem Jt5 (T:Tx K mg a):So P w K mg base CX0 1 a.Jk7 a.Jk8 ["self","setting","level"] (Yb9 a.Jmx 0 λm lv=>if lv < m then lv else m):=by
 refine %[T.Jdi.fn.ok,Jth|2]
 ·obtain ⟨g,ns,s,lv,rfl,_⟩:=h;rfl
 ·obtain ⟨g,ns,s,lv,rfl,⟨dx,t,hg,ht⟩,hs,hn,hl,k⟩:=h;obtain ⟨hat,hin⟩:=Jw1 hs;refine ⟨?t,?B,?C⟩
  case B=>
   refine' Sy ?O0
   case O0=>exact (Jnh (Jng (Jug rfl) (by rfl) T.Jb1 Yac (Sj (Jno Jns (Jnl (pv 0) (by rfl)) (pv 1) (λ_ _=>rfl)) (Sj (pv 2) Sk))))
  exact ⟨_,rfl,g,_,dx,_,_,rfl,hg,T.Jek,T.Jg3,rfl,_,rfl,t,_,_,_,rfl,rfl,Su.of ht,hat,_,rfl,_,_,rfl,k⟩
theorem Jtb:Jne ["self","setting","level"] ["self","setting","level"] (Jnb (Jni (top 59) 2)):=%[|0]
theorem Jt1 (T:Tx K mg a):So P w K mg base CX0 1 a.Jkd a.Jke ["self","setting","level"] (Yb9 a.Jmy 0 λm lv=>if 0 > lv - m then 0 else lv - m):=by
 refine %[T.Jdl.fn.ok,Jtb|2]
 ·obtain ⟨g,ns,s,lv,rfl,_⟩:=h;rfl
 ·obtain ⟨g,ns,s,lv,rfl,⟨dx,t,hg,ht⟩,hs,hn,hl,k⟩:=h;obtain ⟨hat,hin⟩:=Jw1 hs;refine ⟨?t,?B,?C⟩
  case B=>
   refine' Sy ?O0
   case O0=>exact (Jnh (Jng (Jqz rfl) (by rfl) T.Jb0 Jwb (Sj (Jnj Joq (pv 2) (Jno Jns (Jnl (pv 0) (by rfl)) (pv 1) (λ_ _=>rfl))) (Sj Sr Sk))))
  exact ⟨_,rfl,_,rfl,g,_,dx,_,_,rfl,hg,T.Jeq,T.Jg4,rfl,_,rfl,t,_,_,_,rfl,rfl,Su.of ht,hat,_,_,rfl,rfl,_,_,rfl,k⟩
theorem Jtf:Jne ["self","setting","level"] ["self","setting","level"] (Jnb (Jni (top 60) 2)):=%[|0]
theorem Jt3 (T:Tx K mg a):So P w K mg base CX0 1 a.Jkj a.Jkk ["self","setting","level"] (Yb9 a.Jmz 1 λm lv=>lv/m):=by
 refine %[T.Jdo.fn.ok,Jtf|2]
 ·obtain ⟨g,ns,s,lv,rfl,_⟩:=h;rfl
 ·obtain ⟨g,ns,s,lv,rfl,⟨dx,t,hg,ht⟩,hs,hn,hl,k⟩:=h;obtain ⟨hat,hin⟩:=Jw1 hs;refine ⟨?t,?B,?C⟩
  case B=>
   refine' Sy ?O0
   case O0=>exact (Jnh (Jnj Jqi (pv 2) (Jno Jns (Jnl (pv 0) (by rfl)) (pv 1) (λ_ _=>rfl))))
  have hm:=hn _ hin;refine ⟨_,rfl,_,rfl,g,_,dx,_,_,rfl,hg,T.Jew,T.Jg5,rfl,_,rfl,t,_,_,_,rfl,rfl,Su.of ht,hat,?_⟩;exact ⟨_,_,rfl,rfl,⟨by omega,Jpx (by omega)⟩,k⟩
theorem Jyf:∀{ns:List Int} {lo:Int},Jow lo (ns.map V.int)=true->∀n∈ns,lo<=n/\n<=12
 | [],_,_=>λ_ h=>nomatch h
 |x::r,lo,h=>by
  have h':((decide (lo<=x)&&decide (x<=12))&&Jow (x+1) (r.map V.int))=true:=h;rw [yap,yap,decide_eq_true_eq,decide_eq_true_eq] at h';intro n hn;rcases yo.mp hn with rfl|hn
  ·exact h'.1
  ·have:=Jyf h'.2 n hn;omega
theorem Sbk.marks {G:Jnt} (h:Sbk G):∀n∈G.ns,Jqu G.kd<=n/\n<=12:=by
 have q:(decide (1<=(G.ns.map V.int).length/\(G.ns.map V.int).length<=4)&&Jow (Jqu G.kd) (G.ns.map V.int))=true:=h.ns;rw [yap] at q;exact Jyf q.2
theorem Jve {H:Hp} {g:S1} {kd:Str} {ns:List Int} {s lv:Int} {Q:VK} (T:Tx K mg a) (hk:Knd kd) (ga:Sc7 (cOf a kd) H g (ns.map V.int)) (hs:0<=s/\s < ns.length) (hn:∀n∈ns,Jqu kd<=n/\n<=12) (hl:0<=lv/\lv<=1000) (k:Q (.int (Jx0 kd (ns.getD s.toNat 0) lv)) H):
  ∃C dx fs f fd ps sp,H g=some (.ins C dx fs)/\fs.lookup ("passes" :Str)=none/\Cls K C/\Jps K C "passes" f/\So P w K mg base CX0 1 f fd ps sp/\Sbf K fd ps []/\sp [.ref g,.int s,.int lv] H Q E0:=by
 obtain ⟨dx,t,h1,h2⟩:=id ga;rcases hk with rfl|rfl|rfl
 ·have e2:cOf a "step" =a.Jmx:=if_pos rfl;rw [e2] at h1 ga;exact ⟨_,dx,_,_,_,_,_,h1,rfl,T.Jek,T.Jep,Jt5 T,T.Jdi.bd,g,ns,s,lv,rfl,ga,hs,hn,hl,k⟩
 ·have e2:cOf a "flap" =a.Jmy:=by unfold cOf;rw [if_neg Jyg,if_pos rfl]
  rw [e2] at h1 ga;have ek:Jx0 "flap" (ns.getD s.toNat 0) lv=(if 0 > lv - ns.getD s.toNat 0 then 0 else lv - ns.getD s.toNat 0):=by unfold Jx0;rw [if_neg Jyg,if_pos rfl]
  rw [ek] at k;exact ⟨_,dx,_,_,_,_,_,h1,rfl,T.Jeq,T.Jev,Jt1 T,T.Jdl.bd,g,ns,s,lv,rfl,ga,hs,hn,hl,k⟩
 ·have e2:cOf a "part" =a.Jmz:=by unfold cOf;rw [if_neg Jyi,if_neg Jyh]
  rw [e2] at h1 ga;have ek:Jx0 "part" (ns.getD s.toNat 0) lv=lv/ns.getD s.toNat 0:=by unfold Jx0;rw [if_neg Jyi,if_neg Jyh]
  rw [ek] at k;exact ⟨_,dx,_,_,_,_,_,h1,rfl,T.Jew,T.Jf1,Jt3 T,T.Jdo.bd,g,ns,s,lv,rfl,ga,hs,hn,hl,k⟩
theorem Yem {H:Hp} {g:S1} {kd:Str} {xs:List V} (T:Tx K mg a) (hk:Knd kd) (ga:Sc7 (cOf a kd) H g xs):∃t,TyX K H (.ref g) t/\Se K t (.ref a.Jn0)=some false:=by
 obtain ⟨dx,t,h1,h2⟩:=ga;rcases hk with rfl|rfl|rfl
 ·rw [show cOf a "step" =a.Jmx from if_pos rfl] at h1;exact ⟨_,.of (T.Jel.ty T.Jek h1),T.Jgz⟩
 ·rw [show cOf a "flap" =a.Jmy by unfold cOf;rw [if_neg Jyg,if_pos rfl]] at h1;exact ⟨_,.of (T.Jer.ty T.Jeq h1),T.Jh0⟩
 ·rw [show cOf a "part" =a.Jmz by unfold cOf;rw [if_neg Jyi,if_neg Jyh]] at h1;exact ⟨_,.of (T.Jex.ty T.Jew h1),T.Jh1⟩
inductive Yh7 (a:Ad) (vs:List V) (H:Hp) (Q:VK) (z3:XK):Prop where
 |mk (x g dx:S1) (y:V) (kd:Str) (ns:List Int) (j lv:Int) (_:vs= [.ref x,y,.int lv]) (_:H x=some (.ins a.Jn0 dx [("gate",.ref g),("setting",.int j)])) (_:Knd kd) (_:Sc7 (cOf a kd) H g (ns.map V.int)) (_:(0<=j/\j < ns.length)) (_:(∀n∈ns,Jqu kd<=n/\n<=12)) (_:(0<=lv/\lv<=1000)) (_:Q (.int (Jx0 kd (ns.getD j.toNat 0) lv)) H)
theorem Sb9:Jne ["self","setting","level","inner"] ["self","setting","level"] (Jnb (Jni (top 61) 2)):=%[|0]
theorem Jsl (T:Tx K mg a):So P w K mg base CX0 2 a.Jkp a.Jkq ["self","setting","level"] (Yh7 a):=by
 refine %[T.Jdr.fn.ok,Sb9|2]
 ·obtain ⟨x,g,dx,y,kd,ns,j,lv,rfl,_⟩:=h;rfl
 ·obtain ⟨x,g,dx,y,kd,ns,j,lv,rfl,hx,hk,ga,hj,hn,hl,k⟩:=h;refine ⟨?t,?B,?C⟩
  case B=>
   refine' Sw ?O0 ?O1
   case O0=>exact (Jnk (i:=3) Sb9.nd rfl (yf rfl) (pv 0))
   case O1=>
   refine' Sw ?O2 ?O3
   case O2=>exact (Yeq PassesOwn.never (Jo2 (Jng Jop (by rfl) T.Jax Jnr (Sj (Jnl (pv 3) (by rfl)) (Sj (Joi (by rfl) T.Jbr (v:=.ref _) rfl) Sk)))) (Sy (Jnk (i:=3) Sb9.nd rfl (yf rfl) (Jnl (pv 3) (by rfl)))))
   case O3=>
   refine' Sy ?O4
   case O4=>exact (Jnh (Ju0 (Jnl (pv 3) (by rfl)) hr (Sj (Jnl (pv 3) (by rfl)) (Sj (pv 2) Sk))))
  obtain ⟨t,tg,et⟩:=Yem T hk ga;obtain ⟨C,dx',fs,f,fd,ps,sp,h1,h2,c,m,ok,bd,hsp⟩:=Jve (P:=P) (w:=w) (base:=base) (Q:=Q) T hk ga hj hn hl k;refine ⟨_,rfl,λ_ σ' H'=>σ'= [some (.ref x),some y,some (.int lv),some (.ref x)]/\H'=H,⟨0,rfl,rfl⟩,?_⟩;rintro n σ' H' ⟨rfl,rfl⟩;refine ⟨_,rfl,x,_,dx,_,_,rfl,hx,T.Jf2,T.Jg6,rfl,_,_,_,t,false,rfl,rfl,tg,et,_,rfl,Jok ?_⟩;exact ⟨_,rfl,x,_,dx,_,_,rfl,hx,T.Jf2,T.Jg6,rfl,g,C,dx',fs,f,fd,ps,sp,1,rfl,h1,h2,c,m,ok,by decide,bd,_,rfl,x,_,dx,_,_,rfl,hx,T.Jf2,T.Jg7,rfl,_,rfl,hsp⟩
theorem GX.passes {H:Hp} {x:V} {G:Jnt} {s lv:Int} {Q:VK} (T:Tx K mg a) (gg:Sbk G) (gx:GX a H x G) (hs:0<=s/\s < (nOf G:Int)) (hl:0<=lv/\lv<=1000) (k:Q (.int (lvG G s lv)) H):
  ∃o C dx fs f fd ps sp k',x= .ref o/\H o=some (.ins C dx fs)/\fs.lookup ("passes" :Str)=none/\Cls K C/\Jps K C "passes" f/\So P w K mg base CX0 k' f fd ps sp/\k'<=2/\Sbf K fd ps []/\sp [x,.int s,.int lv] H Q E0:=by
 obtain ⟨g,ga,r⟩:=gx;unfold lvG at k;unfold nOf at hs;cases e:G.sv with
 |none=>
  rw [e] at r k hs;subst r;obtain ⟨C,dx',fs,f,fd,ps,sp,h1,h2,c,m,ok,bd,hsp⟩:=Jve (P:=P) (w:=w) (base:=base) (Q:=Q) T gg.kd ga hs gg.marks hl k;exact ⟨g,C,dx',fs,f,fd,ps,sp,1,rfl,h1,h2,c,m,ok,by decide,bd,hsp⟩
 |some j=>
  rw [e] at r k;obtain ⟨q,dx,rfl,r2⟩:=r;exact ⟨q,_,dx,_,_,_,_,_,2,rfl,r2,rfl,T.Jf2,T.Jf7,Jsl T,by decide,T.Jdr.bd,q,g,dx,.int s,G.kd,G.ns,j,lv,rfl,r2,gg.kd,ga,gg.sv j e,gg.marks,hl,k⟩
inductive Yf8 (a:Ad) (vs:List V) (H:Hp) (Q:VK) (z3:XK):Prop where
 |mk (x:V) (G:Jnt) (s lv:Int) (_:vs= [x,.int s,.int lv]) (_:GX a H x G) (_:Sbk G) (_:(0<=s/\s < (nOf G:Int))) (_:(0<=lv/\lv<=1000)) (_:Q (.int (lvG G s lv)) H)
theorem Js4:Jne ["self","thing"] ["self","thing"] (Jnb (Jni (top 12) 0)):=%[|0]
theorem Jr5 (T:Tx K mg a):So P w K mg base CX0 1 a.Jhr a.Jhs ["self","thing"] (Jq7 K "thing"):=by
 refine %[T.Jd5.fn.ok,Js4|2]
 ·obtain ⟨e,C,W,fI,y,rfl,_⟩:=h;rfl
 ·obtain ⟨e,C,W,fI,y,rfl,q,c,n,k⟩:=h;refine ⟨_,(Sy (Jq3 (pv 0) (pv 1) rfl)),?_⟩;exact ⟨_,rfl,_,rfl,e,C,W,fI,true,rfl,q,c,n,k⟩
theorem Jzf:Jne ["self","setting","level"] ["self","setting","level"] (Jnb (Jni (top 57) 0)):=%[|0]
theorem Jqc (T:Tx K mg a):So P w K mg base (CXX P w) 3 a.Jk1 a.Jk2 ["self","setting","level"] (Yf8 a):=by
 have Sv:=%[Jon|1];have Sa2:=%[Jpy|1];have Sb8:=%[Jr5|1];refine %[T.Jdf.fn.okX,Jzf|2]
 ·obtain ⟨x,G,s,lv,rfl,_⟩:=h;rfl
 ·obtain ⟨x,G,s,lv,rfl,gx,gg,hs,hl,k⟩:=h;refine ⟨?t,?B,?C⟩
  case B=>
   refine' Sw ?O0 ?O1
   case O0=>
    refine' Jo1 ?O2 ?O3 ?O4
    case O2=>exact (Jo0 (Jo2 (Jna T.J0 Sv hr (by decide) (Sj (pv 1) (Sj Sr (Sj (Jnj Joq (Jsh (pv 0) hr) Sr) Sk))))))
    case O3=>
     refine' Sy ?O5
     case O5=>exact (Jog Jol rfl (Jp2 T.Jdy Sa2 hr (by decide) T.Jcx.bd T.Jbc (Sj (pv 1) Sk)))
    case O4=>exact Jnn
   case O1=>
   refine' Sw ?O6 ?O7
   case O6=>
    refine' Jo1 ?O8 ?O9 ?Oa
    case O8=>exact (Jo0 (Jo2 (Jna T.J0 Sv hr (by decide) (Sj (pv 2) (Sj Sr (Sj (Joi (by rfl) T.Jal (v:=.int 1000) ⟨_,rfl⟩) Sk))))))
    case O9=>
     refine' Sy ?Ob
     case Ob=>exact (Jog Jol rfl (Jp2 T.Je7 Sb8 hr (by decide) T.Jd5.bd T.Jbk (Sj (pv 2) Sk)))
    case Oa=>exact Jnn
   case O7=>
   refine' Sy ?Oc
   case Oc=>exact (Jnh (Ju0 (pv 0) hr (Sj (pv 1) (Sj (pv 2) Sk))))
  have gs:GS K a H x (nOf G):=gx.gs gg;obtain ⟨o,C,dx',fs,f,fd,ps,sp,k',rfl,h1,h2,c,m,ok,hk,bd,hsp⟩:=gx.passes (P:=P) (w:=w) (base:=base) (Q:=Q) T gg hs hl k;refine ⟨_,rfl,_,rfl,Jpk T gs ⟨_,_,rfl,rfl,.int s,0,(nOf G:Int) - 1,rfl,.inl ⟨s,rfl⟩,_,rfl,ifF (by simp [Jnp];omega) ?_⟩ (by decide)⟩;refine ⟨_,rfl,.int lv,0,1000,rfl,.inl ⟨lv,rfl⟩,_,rfl,ifF (by simp [Jnp];omega) ?_⟩;exact ⟨_,rfl,o,C,dx',fs,f,fd,ps,sp,k',rfl,h1,h2,c,m,ok,hk,bd,_,rfl,_,rfl,hsp⟩
noncomputable def plc (S:Riv) (z:Str):Nat:=(S.Bs.map (·.z)).idxOf z
inductive Yh8 (K:Sd) (a:Ad) (vs:List V) (H:Hp) (Q:VK) (z3:XK):Prop where
 |mk (o:S1) (S:Riv) (z:Str) (_:vs= [.ref o,.str z]) (_:Sal K a H o S) (_:z∈S.Bs.map (·.z)) (_:∀H',Si H H'->Q (.int (plc S z)) H')
noncomputable def TIn (S:Riv):Prop:=∀T∈S.Ts,T.b∈S.Bs.map (·.z)/\1<=T.wt/\T.wt<=6
inductive Ygx (K:Sd) (a:Ad) (vs:List V) (H:Hp) (Q:VK) (z3:XK):Prop where
 |mk (o:S1) (S:Riv) (t:Int) (T:Twn) (_:vs= [.ref o,.int t]) (_:Sal K a H o S) (_:TIn S) (_:0<=t) (_:S.Ts[t.toNat]?=some T) (_:∀H',Si H H'->Q (.int (plc S T.b)) H')
theorem Sca.at {a:Ad} {H:Hp}:∀{xs:List S1} {Bs:List Twn} {i:Nat} {B:Twn},Sca a H xs Bs->Bs[i]?=some B->∃o,xs[i]?=some o/\Scp a H o B
 |o::_,_::_,0,_,⟨h,_⟩,e=>by cases e;exact ⟨o,rfl,h⟩
 |_::_,_::_,i+1,_,⟨_,t⟩,e=>Sca.at (i:=i) t (by simpa using e)
 | [],[],i,_,_,e=>by simp at e
theorem Ye4:∀{l:List Str} {i:Nat} {z:Str},l[i]?=some z->(∀j,j < i->l[j]?≠some z)->l.idxOf z=i
 | [],_,_,h,_=>by simp at h
 |x::l,0,z,h,_=>by
  have e:x=z:=by simpa using h
  rw [e];simp
 |x::l,i+1,z,h,n=>by
  have hx:x≠z:=λe=>n 0 (by omega) (by simp [e]);have ih:=Ye4 (l:=l) (i:=i) (z:=z) (by simpa using h) (λj hj=>by have:=n (j+1) (by omega);simpa using this);have hb:(x==z)=false:=beq_false_of_ne hx;simp [List.idxOf_cons,hb,ih]
theorem Sbh:Jne ["self","name","place","basin"] ["self","name"] (Jnb (Jni (top 75) 1)):=%[|0]
theorem Jtr (T:Tx K mg a):So P w K mg base CX0 1 a.Jl5 a.Jl6 ["self","name"] (Yh8 K a):=by
 refine %[T.Jdv.fn.ok,Sbh|2]
 ·obtain ⟨o,S,z,rfl,_⟩:=h;rfl
 ·obtain ⟨o,S,z,rfl,ro,hz,k⟩:=h;refine ⟨?t,?B,?C⟩
  case B=>
   refine' Sw ?O0 ?O1
   case O0=>
    refine' Jox ?O2 ?O3 ?O4 ?O5 ?O6
    case O2=>exact PassesOwn.never
    case O3=>exact rfl
    case O4=>exact (Yp (by rfl) T.Jav (Sj (Jnl (pv 0) (by rfl)) Sk))
    case O5=>exact (Jr9 rfl (Jnq (Jnf (i:=2) Sbh.nd rfl (yf rfl)) (Jnq (Jnf (i:=3) Sbh.nd rfl (yf rfl)) Jp4)))
    case O6=>
    refine' Sy ?O7
    case O7=>
    refine' Jo1 ?O8 ?O9 ?Oa
    case O8=>exact (Jo9 Jrh (Jnl (pv 3) (by rfl)) (pv 1) (Joc _))
    case O9=>
     refine' Sy ?Ob
     case Ob=>exact (Jnh (pv 2))
    case Oa=>exact Jnn
   case O1=>
   refine' Sy ?Oc
   case Oc=>exact (Jnh Jpp)
  obtain ⟨dx,b,t,os,ts,ho,hb,bl,ht,tl,n1,n2,n3⟩:=ro;have len:=bl.len;refine ⟨_,rfl,o,_,dx,_,_,rfl,ho,T.Jfe,T.Jgj,rfl,b,rfl,⟨_,Su.of hb⟩,?_⟩;refine Ydx (xs:=os.map V.ref) (λi σ H'=>(∃o1 o2,σ= [some (.ref o),some (.str z),o1,o2])/\Si H H'/\∀j,j < i->∀B,S.Bs[j]?=some B->B.z≠z) ⟨⟨_,_,rfl⟩,Si.refl _,λj hj=>absurd hj (Nat.not_lt_zero j)⟩ (λi σ H' _ ⟨_,sm,_⟩=>Su.of (sm _ _ hb)) ?_ ?_
  ·rintro i x σ H' Ta hx ⟨⟨o1,o2,rfl⟩,sm,no⟩ hT;obtain ⟨ob,B,rfl,hB,dxb,hob,gs⟩:=(bl.same sm).get hx;have sT:=Si.upd (o:=.tup [.int i,.ref ob]) hT;refine ⟨Ta,_,rfl,Su.of Sn,rfl,_,_,rfl,_,_,rfl,rfl,?_⟩;refine ⟨_,rfl,ob,_,dxb,_,_,rfl,sT _ _ hob,T.Jf8,T.Jg8,rfl,_,rfl,rfl,_,rfl,?_⟩;by_cases e:B.z=z
   ·refine ifT (by simp [e]) ⟨_,rfl,?_⟩;have ei:plc S z=i:=by
     refine Ye4 (by rw [yi,hB,<-e];rfl) λj hj z'=>?_;rw [yi] at z';obtain ⟨B',hB',ez⟩:=yba.mp z';exact no j hj B' hB' ez
    have k':=k _ (sm.trans sT);rw [ei] at k';exact k'
   ·refine ifF (by simp [e]) ⟨⟨_,_,rfl⟩,sm.trans sT,λj hj B' hB'=>?_⟩;by_cases ej:j=i
    ·subst ej;rw [hB] at hB';cases hB';exact e
    ·exact no j (by omega) B' hB'
  ·rintro σ H' ⟨_,sm,no⟩;exfalso;have hm:(S.Bs.map (·.z)).idxOf z < (S.Bs.map (·.z)).length:=List.idxOf_lt_length_of_mem hz;have hj:(S.Bs.map (·.z)).idxOf z < S.Bs.length:=by rw [ye] at hm;exact hm
   have g:=List.getElem_idxOf hm;rw [List.getElem_map] at g;exact no _ (by rw [ye,len];exact hj) _ (yh hj) g
theorem Jss:Jne ["river","town"] ["river","town"] (Jnb (top 24)):=%[|0]
theorem Jqa (T:Tx K mg a):So P w K mg base CX0 2 a.Ji7 a.Ji8 ["river","town"] (Ygx K a):=by
 refine %[T.J7.fn.ok,Jss|2]
 ·obtain ⟨o,S,t,W,rfl,_⟩:=h;rfl
 ·obtain ⟨o,S,t,W,rfl,ro,ti,h0,hW,k⟩:=h;refine ⟨?t,?B,?C⟩
  case B=>
   refine' Sy ?O0
   case O0=>exact (Jnh (Ju0 (pv 0) hr (Sj (Jnl (Jno Jns (Jnl (pv 0) (by rfl)) (pv 1) (λ_ _=>rfl)) (by rfl)) Sk)))
  obtain ⟨dx,b,tt,os,ts,ho,hb,bl,ht,tl,n1,n2,n3⟩:=id ro;obtain ⟨ow,how,dw,hw⟩:=tl.at hW;obtain ⟨i,rfl⟩:=ybs h0;have hat:atI (ts.map V.ref) (i:Int)=some (.ref ow):=Jsb (by rw [yi];simp at how;rw [how];rfl);refine ⟨_,rfl,o,_,dx,_,_,_,_,_,1,rfl,ho,rfl,T.Jfe,T.Jfg,Jtr T,by decide,T.Jdv.bd,?_⟩;refine ⟨_,rfl,o,_,dx,_,_,rfl,ho,T.Jfe,T.Jgk,rfl,_,rfl,tt,_,_,_,rfl,rfl,Su.of ht,hat,ow,_,dw,_,_,rfl,hw,T.Jfb,T.Jgf,rfl,o,S,W.b,rfl,ro,(ti W (yq hW)).1,k⟩
noncomputable def drw (S:Riv) (ls:List Int):V->Int
 | .int t=>match S.Ts[t.toNat]? with
  |some T=>if ls.getD (plc S T.b) 0≥T.wt then T.wt else 0
  |none=>0
 |_=>0
noncomputable def Skz (S:Riv) (v:V):Prop:=v= .non\/∃j:Int,v= .int j/\0<=j/\j < S.Ts.length
inductive StA (H:Hp) (x:V) (S:Riv) (ls:List Int) (wt:Int):Prop where
 |mk (y u:S1) (_:x= .ref y) (_:H y=some (.tup [.ref u,.int wt])) (_:H u=some (.tup (ls.map V.int))) (_:ls.length=S.Bs.length)
inductive ChA (H:Hp) (x:V) (S:Riv) (cs:List Int) (tv:V):Prop where
 |mk (y u:S1) (_:x= .ref y) (_:H y=some (.tup [.ref u,tv])) (_:H u=some (.tup (cs.map V.int))) (_:cs.length=S.Bs.length/\Skz S tv)
theorem StA.same {H H':Hp} {x:V} {S:Riv} {ls:List Int} {wt:Int} (s:Si H H') (h:StA H x S ls wt):StA H' x S ls wt:=by obtain ⟨y,u,e,h1,h2,h3⟩:=h;exact ⟨y,u,e,s _ _ h1,s _ _ h2,h3⟩
theorem ChA.same {H H':Hp} {x:V} {S:Riv} {cs:List Int} {tv:V} (s:Si H H') (h:ChA H x S cs tv):ChA H' x S cs tv:=by obtain ⟨y,u,e,h1,h2,h3⟩:=h;exact ⟨y,u,e,s _ _ h1,s _ _ h2,h3⟩
theorem Yen {S:Riv} {z:Str} (h:z∈S.Bs.map (·.z)):plc S z < S.Bs.length:=by
 have hm:(S.Bs.map (·.z)).idxOf z < (S.Bs.map (·.z)).length:=List.idxOf_lt_length_of_mem h;rw [ye] at hm;exact hm
theorem Jyc {ns:List Int} {i:Nat} (h:i < ns.length):atI (ns.map V.int) (i:Int)=some (.int (ns.getD i 0)):=by
 have e:ns.getD i 0=ns[i]:=by simp [ybz,h]
 rw [e];exact Jvx h
inductive Sny (K:Sd) (a:Ad) (vs:List V) (H:Hp) (Q:VK) (z3:XK):Prop where
 |mk (o:S1) (S:Riv) (x c:V) (ls cs:List Int) (wt:Int) (tv:V) (_:vs= [.ref o,x,c]) (_:Sal K a H o S) (_:TIn S) (_:StA H x S ls wt) (_:ChA H c S cs tv) (_:∀H',Si H H'->Q (.int (drw S ls tv)) H')
theorem Sgb:Jne ["river","standing","choice","town","want"] ["river","standing","choice"] (Jnb (top 25)):=%[|0]
theorem Ygg (T:Tx K mg a):So P w K mg base CX0 3 a.Ji9 a.Jia ["river","standing","choice"] (Sny K a):=by
 have Sbc:=%[Jqa|1];refine %[T.J8.fn.ok,Sgb|2]
 ·obtain ⟨o,S,x,c,ls,cs,wt,tv,rfl,_⟩:=h;rfl
 ·obtain ⟨o,S,x,c,ls,cs,wt,tv,rfl,ro,ti,⟨y,u,rfl,hy,hu,lu⟩,⟨z,v,rfl,hz,hv,lv,tw⟩,k⟩:=h;refine ⟨?t,?B,?C⟩
  case B=>
   refine' Sw ?O0 ?O1
   case O0=>exact (Jnk (i:=3) Sgb.nd rfl (yf rfl) (Jno Jns (pv 2) Sr (λ_ _=>rfl)))
   case O1=>
   refine' Sw ?O2 ?O3
   case O2=>
    refine' Jo1 ?O4 ?O5 ?O6
    case O4=>exact (Jo9 Yaw (pv 3) Jpp (Joc _))
    case O5=>
     refine' Sy ?O7
     case O7=>exact (Jnh Sr)
    case O6=>exact Jnn
   case O3=>
   refine' Sw ?O8 ?O9
   case O8=>exact (Jnk (i:=4) Sgb.nd rfl (yf rfl) (Jnl (Jno Jns (Jnl (pv 0) (by rfl)) (pv 3) (λ_ _=>rfl)) (by rfl)))
   case O9=>
   refine' Sy ?Oa
   case Oa=>exact (Jnh (Jx1 (Jo9 Sl6 (Jno Jns (Jno Jns (pv 1) Sr (λ_ _=>rfl)) (Jna T.J7 Sbc hr (by decide) (Sj (pv 0) (Sj (pv 3) Sk))) (λ_ _=>rfl)) (pv 4) (Joc _)) (pv 4) Sr))
  obtain ⟨dx,b,tt,os,ts,ho,hb,bl,ht,tl,n1,n2,n3⟩:=id ro;refine ⟨_,rfl,z,_,1,tv,rfl,rfl,Su.of hz,rfl,?_⟩;rcases tw with rfl|⟨j,rfl,j0,j1⟩
  ·exact ⟨_,rfl,rfl,_,rfl,Yak rfl (k _ λ_ _ h=>h)⟩
  ·obtain ⟨i,rfl⟩:=ybs j0;have hi:i < S.Ts.length:=by omega
   obtain ⟨ow,how,dw,hw⟩:=tl.at (i:=i) (B:=S.Ts[i]) (yh hi);have hat:atI (ts.map V.ref) (i:Int)=some (.ref ow):=Jsb (by rw [yi,how];rfl);have pin:=(ti _ (yaq hi)).1;have pl:=Yen pin;have e:drw S ls (.int (i:Int))=if ls.getD (plc S S.Ts[i].b) 0≥S.Ts[i].wt then S.Ts[i].wt else 0:=by
    show (match S.Ts[(i:Int).toNat]? with|some T=>_|none=>_)=_;rw [yax,yh hi]
   rw [e] at k;refine ⟨_,rfl,rfl,_,rfl,Y9 (λz=>by cases z) ?_⟩;refine ⟨_,rfl,o,_,dx,_,_,rfl,ho,T.Jfe,T.Jgk,rfl,_,rfl,tt,_,_,_,rfl,rfl,Su.of ht,hat,ow,_,dw,_,_,rfl,hw,T.Jfb,T.Jgg,rfl,?_⟩;refine ⟨_,rfl,y,_,0,_,rfl,rfl,Su.of hy,rfl,_,rfl,_,rfl,o,S,(i:Int),S.Ts[i],rfl,ro,ti,j0,(by simp [hi]),λH1 s1=>?_⟩;refine ⟨u,_,_,_,rfl,rfl,Su.of (s1 _ _ hu),Jyc (by omega),_,rfl,_,_,rfl,rfl,_,rfl,?_⟩;by_cases q:S.Ts[i].wt<=ls.getD (plc S S.Ts[i].b) 0
   ·have k':=k _ s1;rw [if_pos q] at k';exact ifT (decide_eq_true q) ⟨_,rfl,k'⟩
   ·have k':=k _ s1;rw [if_neg q] at k';exact ifF (decide_eq_false q) k'
noncomputable def Yr (S:Riv):V->Nat
 | .int t=>match S.Ts[t.toNat]? with
  |some T=>plc S T.b
  |none=>0
 |_=>0
noncomputable def lft (S:Riv) (ls:List Int) (tv:V):List Int:=if drw S ls tv > 0 then ls.set (Yr S tv) (ls.getD (Yr S tv) 0 - drw S ls tv) else ls
inductive So6 (K:Sd) (a:Ad) (vs:List V) (H:Hp) (Q:VK) (z3:XK):Prop where
 |mk (o:S1) (S:Riv) (x c:V) (ls cs:List Int) (wt:Int) (tv:V) (_:vs= [.ref o,x,c,.int (drw S ls tv)]) (_:Sal K a H o S) (_:TIn S) (_:StA H x S ls wt) (_:ChA H c S cs tv) (_:∀l H',H l=none->Si H H'->H' l=some (.lst ((lft S ls tv).map V.int))->Q (.ref l) H')
theorem Sdf:Jne ["river","standing","choice","drawn","left"] ["river","standing","choice","drawn"] (Jnb (top 26)):=%[|0]
theorem Jww (T:Tx K mg a):So P w K mg base CX0 3 a.Jib a.Jic ["river","standing","choice","drawn"] (So6 K a):=by
 have Sbc:=%[Jqa|1];refine %[T.J9.fn.ok,Sdf|2]
 ·obtain ⟨o,S,x,c,ls,cs,wt,tv,rfl,_⟩:=h;rfl
 ·obtain ⟨o,S,x,c,ls,cs,wt,tv,rfl,ro,ti,⟨y,u,rfl,hy,hu,lu⟩,⟨z,v,rfl,hz,hv,lv,tw⟩,k⟩:=h;refine ⟨?t,?B,?C⟩
  case B=>
   refine' Sw ?O0 ?O1
   case O0=>exact (Jnk (i:=4) Sdf.nd rfl (yf rfl) (Jny Jpv (by rfl) T.Jaz Jpu (Sj (Jno Jns (pv 1) Sr (λ_ _=>rfl)) Sk)))
   case O1=>
   refine' Sw ?O2 ?O3
   case O2=>
    refine' Jo1 ?O4 ?O5 ?O6
    case O4=>exact (Jo9 Jyk (pv 3) Sr (Joc _))
    case O5=>
     refine' Sy ?O7
     case O7=>exact (Ygo (pv 4) (Jna T.J7 Sbc hr (by decide) (Sj (pv 0) (Sj (Jno Jns (pv 2) Sr (λ_ _=>rfl)) Sk))) Ye0 (pv 3) Smu Js9)
    case O6=>exact Jnn
   case O3=>
   refine' Sy ?O8
   case O8=>exact (Jnh (pv 4))
  refine ⟨_,rfl,y,_,0,_,rfl,rfl,Su.of hy,rfl,u,_,rfl,.inr (Su.of hu),λl hl=>?_⟩;have s1:=Si.upd (o:=.lst (ls.map V.int)) hl;refine ⟨_,rfl,_,_,rfl,rfl,_,rfl,?_⟩;by_cases hd:drw S ls tv > 0
  ·refine ifT (decide_eq_true hd) ?_;obtain ⟨j,rfl,j0,j1⟩:∃j:Int,tv= .int j/\0<=j/\j < S.Ts.length:=by
    rcases tw with rfl|h
    ·exact absurd (show (0:Int) > 0 from hd) (by decide)
    ·exact h
   obtain ⟨i,rfl⟩:=ybs j0;have hi:i < S.Ts.length:=by omega
   have pin:=(ti _ (yaq hi)).1;have pl:=Yen pin;have ep:Yr S (.int (i:Int))=plc S S.Ts[i].b:=by
    show (match S.Ts[(i:Int).toNat]? with|some T=>_|none=>_)=_;rw [yax,yh hi]
   refine ⟨_,rfl,_,rfl,_,rfl,z,_,1,_,rfl,rfl,Su.of (s1 _ _ hz),rfl,o,S,(i:Int),S.Ts[i],rfl,ro.same s1,ti,j0,(by simp [hi]),λH1 s2=>?_⟩;have hl1:=s2 _ _ (Sn (H:=H) (a:=l) (o:=.lst (ls.map V.int)));have pl':plc S S.Ts[i].b < ls.length:=by omega
   have hix:ixN (ls.map V.int).length ((plc S S.Ts[i].b:Nat):Int)=some (plc S S.Ts[i].b):=by
    unfold ixN;rw [if_pos (by omega),if_pos (by rw [ye];omega)];rfl
   refine ⟨l,_,_,_,rfl,rfl,Ss.of hl1,by omega,Jyc pl',_,rfl,_,_,rfl,rfl,l,_,_,_,rfl,rfl,hl1,hix,_,rfl,?_⟩;have e:lft S ls (.int (i:Int))=ls.set (plc S S.Ts[i].b) (ls.getD (plc S S.Ts[i].b) 0 - drw S ls (.int (i:Int))):=by
    unfold lft;rw [if_pos hd,ep]
   rw [e,List.map_set] at k;exact k l _ hl (λb o e=>by rw [Jnc (Jnd e hl)];exact (s1.trans s2) _ _ e) Sn
  ·refine ifF (decide_eq_false hd) ?_;have e:lft S ls tv=ls:=if_neg hd;rw [e] at k;exact ⟨_,rfl,k l _ hl s1 Sn⟩
noncomputable def Jwz:List Jnt->List Int->List Int->List Int
 |G::Gs,c::cs,l::ls=>lvG G c l::Jwz Gs cs ls
 |_,_,_=>[]
theorem Jsg:∀{Gs:List Jnt} {cs ls:List Int},Gs.length=cs.length->cs.length=ls.length->(Jwz Gs cs ls).length=Gs.length
 | [],_,_,_,_=>rfl
 |_::_,[],_,e,_=>by simp at e
 |_::_,_::_,[],_,e=>by simp at e
 |_::Gs,_::cs,_::ls,e1,e2=>by
  show (Jwz Gs cs ls).length+1=Gs.length+1;rw [Jsg (by simpa using e1) (by simpa using e2)]
theorem Jyl:∀{Gs:List Jnt} {cs ls:List Int} {i:Nat} {G:Jnt} {c l:Int},Gs[i]?=some G->cs[i]?=some c->ls[i]?=some l->(Jwz Gs cs ls)[i]?=some (lvG G c l)
 |_::_,_::_,_::_,0,_,_,_,h1,h2,h3=>by cases h1;cases h2;cases h3;rfl
 |_::Gs,_::cs,_::ls,i+1,_,_,_,h1,h2,h3=>Jyl (Gs:=Gs) (cs:=cs) (ls:=ls) (i:=i) (by simpa using h1) (by simpa using h2) (by simpa using h3)
 | [],_,_,_,_,_,_,h,_,_=>by simp at h
 |_::_,[],_,_,_,_,_,_,h,_=>by simp at h
 |_::_,_::_,[],_,_,_,_,_,_,h=>by simp at h
noncomputable def Sc8:List Jnt->List Int->List Int->Prop
 | [],[],[]=>True
 |G::Gs,c::cs,l::ls=>(Sbk G/\(0<=c/\c < (nOf G:Int))/\(0<=l/\l<=1000))/\Sc8 Gs cs ls
 |_,_,_=>False
theorem Sc8.len:∀{Gs:List Jnt} {cs ls:List Int},Sc8 Gs cs ls->Gs.length=cs.length/\cs.length=ls.length
 | [],[],[],_=>⟨rfl,rfl⟩
 |_::Gs,_::cs,_::ls,⟨_,t⟩=>by
  have:=t.len;simp;omega
theorem Sc8.get:∀{Gs:List Jnt} {cs ls:List Int} {i:Nat} {G:Jnt} {c l:Int},Sc8 Gs cs ls->Gs[i]?=some G->cs[i]?=some c->ls[i]?=some l->Sbk G/\(0<=c/\c < (nOf G:Int))/\(0<=l/\l<=1000)
 |_::_,_::_,_::_,0,_,_,_,⟨h,_⟩,h1,h2,h3=>by cases h1;cases h2;cases h3;exact h
 |_::Gs,_::cs,_::ls,i+1,_,_,_,⟨_,t⟩,h1,h2,h3=>t.get (i:=i) (by simpa using h1) (by simpa using h2) (by simpa using h3)
 | [],[],[],_,_,_,_,_,h,_,_=>by simp at h
inductive Soc (K:Sd) (a:Ad) (vs:List V) (H:Hp) (Q:VK) (z3:XK):Prop where
 |mk (o v l:S1) (S:Riv) (Gs:List Jnt) (cs ls:List Int) (_:vs= [.ref o,.ref v,.ref l]) (_:Sal K a H o S) (_:GXL a H (S.Bs.map (·.g)) Gs) (_:Sc8 Gs cs ls) (_:S.Bs.length=Gs.length) (_:H v=some (.tup (cs.map V.int))) (_:H l=some (.lst (ls.map V.int))) (_:∀u H',Si H H'->H' u=some (.tup ((Jwz Gs cs ls).map V.int))->Q (.ref u) H')
noncomputable def Yaa:Int->List Int->List Int->List Int->List Int
 |g,l::ls,o::os,r::rs=>(l - o+g+r)::Yaa o ls os rs
 |_,_,_,_=>[]
theorem Jtn:∀{g:Int} {ls os rs:List Int},ls.length=os.length->ls.length=rs.length->(Yaa g ls os rs).length=ls.length
 |_,[],_,_,_,_=>rfl
 |_,_::_,[],_,e,_=>by simp at e
 |_,_::_,_::_,[],_,e=>by simp at e
 |_,_::ls,o::os,_::rs,e1,e2=>by
  show (Yaa o ls os rs).length+1=ls.length+1;rw [Jtn (by simpa using e1) (by simpa using e2)]
theorem Jzy:∀{g:Int} {ls os rs:List Int} {i:Nat} {l o f r:Int},ls[i]?=some l->os[i]?=some o->(g::os)[i]?=some f->rs[i]?=some r->(Yaa g ls os rs)[i]?=some (l - o+f+r)
 |_,_::_,_::_,_::_,0,_,_,_,_,h1,h2,h3,h4=>by cases h1;cases h2;cases h3;cases h4;rfl
 |_,_::ls,o::os,_::rs,i+1,_,_,_,_,h1,h2,h3,h4=>Jzy (g:=o) (ls:=ls) (os:=os) (rs:=rs) (i:=i) (by simpa using h1) (by simpa using h2) (by simpa using h3) (by simpa using h4)
 |_,[],_,_,_,_,_,_,_,h,_,_,_=>by simp at h
 |_,_::_,[],_,_,_,_,_,_,_,h,_,_=>by simp at h
 |_,_::_,_::_,[],_,_,_,_,_,_,_,_,h=>by simp at h
inductive Yf3 (vs:List V) (H:Hp) (Q:VK) (z3:XK):Prop where
 |mk (l u r:S1) (ls os rs:List Int) (_:vs= [.ref l,.ref u,.ref r]) (_:H l=some (.lst (ls.map V.int))) (_:H u=some (.tup (os.map V.int))) (_:H r=some (.tup (rs.map V.int))) (_:ls.length=os.length) (_:ls.length=rs.length) (_:(1<=ls.length/\ls.length<=16)) (_:∀w H',Si H H'->H' w=some (.tup ((Yaa 0 ls os rs).map V.int))->Q (.ref w) H')
noncomputable def Jq6:Nat->List Bsn->List Int->List Int
 |k,B::Bs,l::ls=>if B.lo<=l/\l<=B.hi then Jq6 (k+1) Bs ls else (k:Int)::Jq6 (k+1) Bs ls
 |_,_,_=>[]
theorem Jy1:∀{k:Nat} {Bs:List Bsn} {ls:List Int} {B:Bsn} {l:Int},Bs.length=ls.length->Jq6 k (Bs++ [B]) (ls++ [l])=Jq6 k Bs ls++(if B.lo<=l/\l<=B.hi then [] else [((k+Bs.length:Nat):Int)])
 |k,[],[],B,l,_=>by
  show (if B.lo<=l/\l<=B.hi then _ else _)=_;split <;> rfl
 |_,[],_::_,_,_,e=>by simp at e
 |_,_::_,[],_,_,e=>by simp at e
 |k,B'::Bs,l'::ls,B,l,e=>by
  have ih:=Jy1 (k:=k+1) (Bs:=Bs) (ls:=ls) (B:=B) (l:=l) (by simpa using e);have ek:k+1+Bs.length=k+(B'::Bs).length:=by rw [yaf];omega
  rw [ek] at ih;show (if B'.lo<=l'/\l'<=B'.hi then Jq6 (k+1) (Bs++ [B]) (ls++ [l]) else (k:Int)::Jq6 (k+1) (Bs++ [B]) (ls++ [l]))=(if B'.lo<=l'/\l'<=B'.hi then Jq6 (k+1) Bs ls else (k:Int)::Jq6 (k+1) Bs ls)++_;rw [ih];split <;> rfl
theorem Jzz:∀{k:Nat} {Bs:List Bsn} {ls:List Int},(Jq6 k Bs ls).length<=Bs.length
 |_,[],_=>by simp [Jq6]
 |_,_::_,[]=>by simp [Jq6]
 |k,B::Bs,l::ls=>by
  have:=Jzz (k:=k+1) (Bs:=Bs) (ls:=ls);show (if B.lo<=l/\l<=B.hi then Jq6 (k+1) Bs ls else (k:Int)::Jq6 (k+1) Bs ls).length<=_;split <;> simp <;> omega
inductive Yf4 (K:Sd) (a:Ad) (vs:List V) (H:Hp) (Q:VK) (z3:XK):Prop where
 |mk (o u:S1) (S:Riv) (ls:List Int) (_:vs= [.ref o,.ref u]) (_:Sal K a H o S) (_:H u=some (.tup (ls.map V.int))) (_:ls.length=S.Bs.length) (_:∀w H',Si H H'->H' w=some (.tup ((Jq6 0 S.Bs ls).map V.int))->Q (.ref w) H')
theorem GX.lets {H:Hp} {x:V} {G:Jnt} {s lv:Int} (T:Tx K mg a) (gg:Sbk G) (gx:GX a H x G) (hs:0<=s/\s < (nOf G:Int)) (hl:0<=lv/\lv<=1000):
  ∃o C dx fs f fd ps sp k',x= .ref o/\H o=some (.ins C dx fs)/\fs.lookup ("lets" :Str)=none/\Cls K C/\Jps K C "lets" f/\So P w K mg base CX0 k' f fd ps sp/\k'<=3/\Sbf K fd ps []/\∀Q:VK,Q (.int (lvG G s lv)) H->sp [x,.int s,.int lv] H Q E0:=by
 have sp:∀Q:VK,Q (.int (lvG G s lv)) H->Yf8 a [x,.int s,.int lv] H Q E0:=λQ k=>⟨x,G,s,lv,rfl,gx,gg,hs,hl,k⟩;obtain ⟨g,ga,r⟩:=gx;obtain ⟨dx,t,h1,h2⟩:=id ga;cases e:G.sv with
 |none=>
  rw [e] at r;subst r;rcases gg.kd with q|q|q
  ·rw [q,show cOf a "step" =a.Jmx from if_pos rfl] at h1;exact ⟨g,_,dx,_,_,_,_,_,3,rfl,h1,rfl,T.Jek,T.Jen,(Jqc T).calm,by decide,T.Jdf.bd,sp⟩
  ·rw [q,show cOf a "flap" =a.Jmy by unfold cOf;rw [if_neg Jyg,if_pos rfl]] at h1;exact ⟨g,_,dx,_,_,_,_,_,3,rfl,h1,rfl,T.Jeq,T.Jet,(Jqc T).calm,by decide,T.Jdf.bd,sp⟩
  ·rw [q,show cOf a "part" =a.Jmz by unfold cOf;rw [if_neg Jyi,if_neg Jyh]] at h1;exact ⟨g,_,dx,_,_,_,_,_,3,rfl,h1,rfl,T.Jew,T.Jez,(Jqc T).calm,by decide,T.Jdf.bd,sp⟩
 |some j=>
  rw [e] at r;obtain ⟨q,dq,rfl,r2⟩:=r;exact ⟨q,_,dq,_,_,_,_,_,3,rfl,r2,rfl,T.Jf2,T.Jf5,(Jqc T).calm,by decide,T.Jdf.bd,sp⟩
theorem Yb6:Jne ["river","settings","levels"] ["river","settings","levels"] (Jnb (top 27)):=%[|0]
theorem Yau (T:Tx K mg a):So P w K mg base CX0 4 a.Jid a.Jie ["river","settings","levels"] (Soc K a):=by
 refine %[T.Ja.fn.ok,Yb6|2]
 ·obtain ⟨o,v,l,S,Gs,cs,ls,rfl,_⟩:=h;rfl
 ·obtain ⟨o,v,l,S,Gs,cs,ls,rfl,ro,gxl,so,ln,hv,hl,k⟩:=h;refine ⟨?t,?B,?C⟩
  case B=>
   refine' Sy ?O0
   case O0=>exact (Jnh (Jny Jof (by rfl) T.Jb8 Joo (Sj (Jnx (N:=(["basin","setting","level"]:List Str)) (ini:=[none,none,none]) rfl (Yby true true false (by rfl) T.Jb9 (Sj (Jnl (pv 0) (by rfl)) (Sj (pv 1) (Sj (pv 2) Sk)))) (λ_ _ _ _ _=>(Jra (K:=K) (n:=3) rfl rfl (Jnq (Jnf (i:=0) (by decide +kernel:(["basin","setting","level"]:List Str).Nodup) rfl (yf rfl)) (Jnq (Jnf (i:=1) (by decide +kernel:(["basin","setting","level"]:List Str).Nodup) rfl (yf rfl)) (Jnq (Jnf (i:=2) (by decide +kernel:(["basin","setting","level"]:List Str).Nodup) rfl (yf rfl)) Jp4))))) (λ_ _ _ _ _=>Jnw) (λ_ _ _ _ _=>(Yct (P:=P) (w:=w) (K:=K) (mg:=mg) (base:=base) rfl rfl rfl rfl rfl (Jp3 (K:=K) rfl (pv 0) (by rfl)) hr (Sj (pv 1) (Sj (pv 2) Sk))))) Sk)))
  obtain ⟨dx,b,tt,os,ts,ho,hb,bl,ht,tl,n1,n2,n3⟩:=id ro;have len:=bl.len;have sl:=so.len;refine ⟨_,rfl,o,_,dx,_,_,rfl,ho,T.Jfe,T.Jgj,rfl,_,rfl,_,rfl,b,v,l,rfl,⟨_,Su.of hb⟩,⟨_,Su.of hv⟩,⟨_,Ss.of hl⟩,λD hD=>?_⟩;have s0:=Si.upd (o:=.lst []) hD;refine Jy6 (K:=K) (l1:=b) (l2:=v) (l3:=l) (b1:=true) (b2:=true) (b3:=false) (xs:=os.map V.ref) (ys:=cs.map V.int) (us:=ls.map V.int) (D:=D) (λi σ H'=>(∃o1 o2 o3,σ= [o1,o2,o3])/\H' D=some (.lst (((Jwz Gs cs ls).take i).map V.int))/\Si H H') ⟨⟨_,_,_,rfl⟩,Sn,s0⟩ (λi σ H' _ ⟨_,_,sm⟩=>⟨Su.of (sm _ _ hb),Su.of (sm _ _ hv),Ss.of (sm _ _ hl)⟩) (by rw [ye,ye];omega) (by rw [ye,ye];omega) ?_ ?_
  ·rintro i x y u σ H' Ta hx hy hu ⟨⟨o1,o2,o3,rfl⟩,hDs,sm⟩ hT;obtain ⟨ob,B,rfl,hB,dxb,hob,gs⟩:=(bl.same sm).get hx;rw [yi] at hy hu;obtain ⟨c,hc,rfl⟩:=yba.mp hy;obtain ⟨lv,hlv,rfl⟩:=yba.mp hu;obtain ⟨G,hG,gx⟩:=(gxl.same sm).get (i:=i) (x:=B.g) (by rw [yi,hB];rfl);obtain ⟨gg,hs,hl'⟩:=so.get hG hc hlv;have sT:=Si.upd (o:=.tup [.ref ob,.int c,.int lv]) hT;have hi:i < os.length:=by have:=(yj.mp hx).1;rw [ye] at this;exact this
   refine Yfm (Su.of Sn) ⟨_,rfl,ob,_,dxb,_,_,rfl,sT _ _ hob,T.Jf8,T.Jgd,rfl,?_⟩;obtain ⟨q,C,dxq,fs,f,fd,ps,sp,k',eq,h1,h2,c',m,ok,hk,bd,hsp⟩:=GX.lets (P:=P) (w:=w) (base:=base) T gg (gx.same sT) hs hl';refine ⟨q,C,dxq,fs,f,fd,ps,sp,k',eq,h1,h2,c',m,ok,hk,bd,_,rfl,_,rfl,hsp _ ⟨_,sT _ _ hDs,?_,⟨_,_,_,rfl⟩,?_,?_⟩⟩
   ·rw [ye,yaa];exact Jo6 (by omega)
   ·rw [Sn,yr,Jyl hG hc hlv];simp
   ·intro c o z;rw [Jnc (Jnd z hD)];exact sT _ _ (sm _ _ z)
  rintro σ H1 ⟨_,hDs,sm⟩;rw [yad (by rw [Jsg sl.1 sl.2,ye];omega)] at hDs;exact ⟨D,_,rfl,.inl ⟨Ss.of hDs,λu hu=>k u _ (sm.trans (Si.upd hu)) Sn⟩⟩
theorem Ydn (xs:List V) (h:1<=xs.length):Jqt xs none (some (-1))=xs.dropLast:=by
 unfold Jqt;rw [HT.sIx_none];have e:HT.sIx xs.length xs.length (some (-1))=xs.length - 1:=by
  show (if (-1:Int) < 0 then ((-1:Int)+(xs.length:Int)).toNat else min (-1:Int).toNat xs.length)=_;rw [if_pos (by decide)];omega
 rw [e,List.dropLast_eq_take];rfl
theorem Jwp {n:Nat} (h:1<=n):¬(HT.sIx n 0 none=0/\HT.sIx n n (some (-1))=n):=by
 have e:HT.sIx n n (some (-1))=n - 1:=by
  show (if (-1:Int) < 0 then ((-1:Int)+(n:Int)).toNat else min (-1:Int).toNat n)=_;rw [if_pos (by decide)];omega
 rw [e];omega
theorem Scr:Jne ["left","outs","rain","from_above"] ["left","outs","rain"] (Jnb (top 28)):=%[|0]
theorem Juv (T:Tx K mg a):So P w K mg base CX0 1 a.Jif a.Jig ["left","outs","rain"] Yf3:=by
 refine %[T.Jb.fn.ok,Scr|2]
 ·obtain ⟨l,u,r,ls,os,rs,rfl,_⟩:=h;rfl
 ·obtain ⟨l,u,r,ls,os,rs,rfl,hl,hu,hr0,e1,e2,n,k⟩:=h;refine ⟨?t,?B,?C⟩
  case B=>
   refine' Sw ?O0 ?O1
   case O0=>exact (Jnk (i:=3) Scr.nd rfl (yf rfl) (Jnj Jw3 (Jnz (Sj Sr Sk)) (Jpj Yb8 (pv 1) Jsi (Jp7 (Ybx Jzr Sr)))))
   case O1=>
   refine' Sy ?O2
   case O2=>
   refine' Jnh ?O3
   case O3=>exact (Jny Jof (by rfl) T.Jb8 Joo (Sj (Jnx (N:=(["level","out","gained","cubes"]:List Str)) (ini:=[none,none,none,none]) rfl (Ygn false true true true (by rfl) T.Jb9 (pa4 (pv 0) (pv 1) (pv 3) (pv 2))) (λ_ _ _ _ _=>(Jra (K:=K) (n:=4) rfl rfl (Jnq (Jnf (i:=0) (by decide +kernel:(["level","out","gained","cubes"]:List Str).Nodup) rfl (yf rfl)) (Jnq (Jnf (i:=1) (by decide +kernel:(["level","out","gained","cubes"]:List Str).Nodup) rfl (yf rfl)) (Jnq (Jnf (i:=2) (by decide +kernel:(["level","out","gained","cubes"]:List Str).Nodup) rfl (yf rfl)) (Jnq (Jnf (i:=3) (by decide +kernel:(["level","out","gained","cubes"]:List Str).Nodup) rfl (yf rfl)) Jp4)))))) (λ_ _ _ _ _=>Jnw) (λ_ _ _ _ _=>(Jnj Jnv (Jnj Jnv (Jnj Joq (pv 0) (pv 1)) (pv 2)) (pv 3)))) Sk))
  refine ⟨(show 1<=S6 by decide),λq1 h1=>?_⟩;have s1:=Si.upd (o:=.tup [.int 0]) h1;refine ⟨_,rfl,_,rfl,_,rfl,u,_,rfl,Su.of (s1 _ _ hu),Jwp (by rw [ye];omega),λq2 h2=>?_⟩;rw [Ydn _ (by rw [ye];omega)];have s2:=Si.upd (o:=.tup (os.map V.int).dropLast) h2;refine ⟨q1,q2,_,_,rfl,rfl,s2 _ _ Sn,Sn,Job _ (by simp;omega),λf H3 s3 hf=>?_⟩;have s13:=(s1.trans s2).trans s3;have ef: [V.int 0]++(os.map V.int).dropLast=((0:Int)::os.dropLast).map V.int:=by rw [yan,List.map_dropLast];rfl
  rw [ef] at hf;refine ⟨_,rfl,_,rfl,_,rfl,_,rfl,l,u,f,r,rfl,⟨_,Ss.of (s13 _ _ hl)⟩,⟨_,Su.of (s13 _ _ hu)⟩,⟨_,Su.of hf⟩,⟨_,Su.of (s13 _ _ hr0)⟩,λD hD=>?_⟩;have s0:=Si.upd (o:=.lst []) hD;refine Ycd (K:=K) (l1:=l) (l2:=u) (l3:=f) (l4:=r) (b1:=false) (b2:=true) (b3:=true) (b4:=true) (xs:=ls.map V.int) (ys:=os.map V.int) (us:=((0:Int)::os.dropLast).map V.int) (vs:=rs.map V.int) (D:=D) (λi σ H'=>(∃o1 o2 o3 o4,σ= [o1,o2,o3,o4])/\H' D=some (.lst (((Yaa 0 ls os rs).take i).map V.int))/\Si H3 H') ⟨⟨_,_,_,_,rfl⟩,Sn,s0⟩ (λi σ H' _ ⟨_,_,sm⟩=>⟨Ss.of (sm _ _ (s13 _ _ hl)),Su.of (sm _ _ (s13 _ _ hu)),Su.of (sm _ _ hf),Su.of (sm _ _ (s13 _ _ hr0))⟩) (by simp;omega) (by simp;omega) (by simp;omega) ?_ ?_
  ·rintro i x y z v σ H' Ta hx hy hz hv ⟨⟨o1,o2,o3,o4,rfl⟩,hDs,sm⟩ hT;rw [yi] at hx hy hz hv;obtain ⟨lv,hlv,rfl⟩:=yba.mp hx;obtain ⟨ov,hov,rfl⟩:=yba.mp hy;obtain ⟨fv,hfv,rfl⟩:=yba.mp hz;obtain ⟨rv,hrv,rfl⟩:=yba.mp hv;have hi:i < ls.length:=(yj.mp hlv).1;have hfv':((0:Int)::os)[i]?=some fv:=by
    cases i with
    |zero=>simpa using hfv
    |succ j=>
     have e:os.dropLast[j]?=some fv:=by simpa using hfv
     rw [List.dropLast_eq_take,List.getElem?_take] at e;split at e
     ·simpa using e
     ·cases e
   have sT:=Si.upd (o:=.tup [.int lv,.int ov,.int fv,.int rv]) hT;refine Sst (Su.of Sn) ⟨_,rfl,_,rfl,_,_,rfl,rfl,_,rfl,_,_,rfl,rfl,_,rfl,_,_,rfl,rfl,_,sT _ _ hDs,?_,⟨_,_,_,_,rfl⟩,?_,?_⟩
   ·rw [ye,yaa];exact Jo6 (by omega)
   ·rw [Sn,yr,Jzy hlv hov hfv' hrv];simp
   ·intro c o z;rw [Jnc (Jnd z hD)];exact sT _ _ (sm _ _ z)
  rintro σ H4 ⟨_,hDs,sm⟩;rw [yad (by rw [Jtn e1 e2,ye];omega)] at hDs;exact ⟨D,_,rfl,.inl ⟨Ss.of hDs,λq hq=>k q _ ((s13.trans sm).trans (Si.upd hq)) Sn⟩⟩
theorem Jzg:Jne ["river","levels"] ["river","levels"] (Jnb (top 29)):=%[|0]
theorem Jz4 (T:Tx K mg a):So P w K mg base CX0 1 a.Jih a.Jii ["river","levels"] (Yf4 K a):=by
 refine %[T.Jc.fn.ok,Jzg|2]
 ·obtain ⟨o,u,S,ls,rfl,_⟩:=h;rfl
 ·obtain ⟨o,u,S,ls,rfl,ro,hu,ln,k⟩:=h;refine ⟨?t,?B,?C⟩
  case B=>
   refine' Sy ?O0
   case O0=>exact (Jnh (Jny Jof (by rfl) T.Jb8 Joo (Sj (Jnx (N:=(["place","basin","levels"]:List Str)) (ini:=[none,none,some 1]) rfl (Yp (by rfl) T.Jav (Sj (Jnl (pv 0) (by rfl)) Sk)) (λ_ _ _ _ _=>(Jra (K:=K) (n:=2) rfl rfl (Jnq (Jnf (i:=0) (by decide +kernel:(["place","basin","levels"]:List Str).Nodup) rfl (yf rfl)) (Jnq (Jnf (i:=1) (by decide +kernel:(["place","basin","levels"]:List Str).Nodup) rfl (yf rfl)) Jp4)))) (λ_ _ _ _ _=>(Jzc (Jo0 (Jx4 Jry Jry (Jp3 (K:=K) rfl (pv 1) (by rfl)) (Jno (Jvy (K:=K) rfl) (pv 2) (pv 0) (λ_ _=>rfl)) (Jp3 (K:=K) rfl (pv 1) (by rfl)))))) (λ_ _ _ _ _=>(pv 0))) Sk)))
  obtain ⟨dx,b,tt,os,ts,ho,hb,bl,ht,tl,n1,n2,n3⟩:=id ro;have len:=bl.len;refine ⟨_,rfl,o,_,dx,_,_,rfl,ho,T.Jfe,T.Jgj,rfl,b,rfl,⟨_,Su.of hb⟩,λD hD=>?_⟩;have s0:=Si.upd (o:=.lst []) hD;refine Ycc (K:=K) (a:=b) (xs:=os.map V.ref) (D:=D) (λi σ H'=>(∃o1 o2,σ= [o1,o2,some (.ref u)])/\H' D=some (.lst ((Jq6 0 (S.Bs.take i) (ls.take i)).map V.int))/\Si H H') ⟨⟨_,_,rfl⟩,Sn,s0⟩ (λi σ H' _ ⟨_,_,sm⟩=>Su.of (sm _ _ hb)) ?_ ?_
  ·rintro i x σ H' Ta hx ⟨⟨o1,o2,rfl⟩,hDs,sm⟩ hT;obtain ⟨ob,B,rfl,hB,dxb,hob,gs⟩:=(bl.same sm).get hx;have sT:=Si.upd (o:=.tup [.int i,.ref ob]) hT;have hi:i < S.Bs.length:=(yj.mp hB).1;have hil:i < ls.length:=by omega
   have hob':=sT _ _ hob;have hu':=sT _ _ (sm _ _ hu);have nx:Jq6 0 (S.Bs.take (i+1)) (ls.take (i+1))=Jq6 0 (S.Bs.take i) (ls.take i)++(if B.lo<=ls[i]/\ls[i]<=B.hi then [] else [(i:Int)]):=by
    have q:=Jy1 (k:=0) (Bs:=S.Bs.take i) (ls:=ls.take i) (B:=B) (l:=ls[i]) (by rw [yaa,yaa];omega);rw [yaa,ybt (by omega),Nat.zero_add] at q;rw [yr,hB,yr,yh hil];exact q
   refine ⟨Ta,_,rfl,Su.of Sn,rfl,_,_,rfl,_,_,rfl,rfl,?_⟩;have bad:¬(B.lo<=ls[i]/\ls[i]<=B.hi)->∃vs,(upd H' Ta (.tup [.int i,.ref ob])) D=some (.lst vs)/\vs.length < S6/\(∃p1 p2,[some (V.int i),some (.ref ob),some (.ref u)]= [p1,p2,some (V.ref u)])/\upd (upd H' Ta (.tup [.int i,.ref ob])) D (.lst (vs++ [.int i])) D=some (.lst ((Jq6 0 (S.Bs.take (i+1)) (ls.take (i+1))).map V.int))/\Si H (upd (upd H' Ta (.tup [.int i,.ref ob])) D (.lst (vs++ [.int i]))):=λq=>by
    refine ⟨_,sT _ _ hDs,?_,⟨_,_,rfl⟩,?_,?_⟩
    ·have:=Jzz (k:=0) (Bs:=S.Bs.take i) (ls:=ls.take i);rw [yaa] at this;rw [ye];exact Jo6 (by omega)
    ·rw [Sn,nx,if_neg q,yag];rfl
    ·intro c o z;rw [Jnc (Jnd z hD)];exact sT _ _ (sm _ _ z)
   refine ⟨_,rfl,ob,_,dxb,_,_,rfl,hob',T.Jf8,T.Jg9,rfl,_,rfl,_,rfl,u,_,_,_,rfl,rfl,Su.of hu',Jvx hil,_,_,rfl,rfl,_,rfl,?_⟩;by_cases h1:B.lo<=ls[i]
   ·rw [decide_eq_true h1];refine Jp0 ⟨_,rfl,ob,_,dxb,_,_,rfl,hob',T.Jf8,T.Jga,rfl,_,_,rfl,rfl,_,rfl,?_⟩;by_cases h2:ls[i]<=B.hi
    ·rw [decide_eq_true h2];refine Jok ⟨⟨_,_,rfl⟩,?_,sm.trans sT⟩;rw [nx,if_pos ⟨h1,h2⟩,ybb];exact sT _ _ hDs
    ·rw [decide_eq_false h2];exact Jp0 ⟨_,rfl,bad λz=>h2 z.2⟩
   ·rw [decide_eq_false h1];exact Jok ⟨_,rfl,Jp0 ⟨_,rfl,bad λz=>h1 z.1⟩⟩
  rintro σ H1 ⟨_,hDs,sm⟩;rw [yad (by rw [ye];omega),yad (by rw [ye];omega)] at hDs;exact ⟨D,_,rfl,.inl ⟨Ss.of hDs,λq hq=>k q _ (sm.trans (Si.upd hq)) Sn⟩⟩
noncomputable def Sov (c r:V) (d:Int) (u lv:S1) (wt:Int) (q:S1):List (Str×V):=[("choice",c),("rain",r),("drawn",.int d),("paid",.bl (decide (d > 0))),("outs",.ref u),("levels",.ref lv),("wet",.int wt),("broken",.ref q)]
structure Sgq (K:Sd) (a:Ad) (H:Hp) (o:S1) (S:Riv) (Gs:List Jnt) (x c:V) (ls cs:List Int) (wt:Int) (tv:V) (ra:S1) (rn:List Int):Prop where
 ro:Sal K a H o S
 ti:TIn S
 gx:GXL a H (S.Bs.map (·.g)) Gs
 ln:S.Bs.length=Gs.length
 st:StA H x S ls wt
 ch:ChA H c S cs tv
 hr:H ra=some (.tup (rn.map V.int))
 rl:rn.length=S.Bs.length
 sm:Sml rn
 so:Sc8 Gs cs (lft S ls tv)
 n1:1<=S.Bs.length
theorem Sgq.same {K:Sd} {a:Ad} {H H':Hp} {o:S1} {S:Riv} {Gs:List Jnt} {x c:V} {ls cs:List Int} {wt:Int} {tv:V} {ra:S1} {rn:List Int} (s:Si H H') (h:Sgq K a H o S Gs x c ls cs wt tv ra rn):Sgq K a H' o S Gs x c ls cs wt tv ra rn:=
 ⟨h.ro.same s,h.ti,h.gx.same s,h.ln,h.st.same s,h.ch.same s,s _ _ h.hr,h.rl,h.sm,h.so,h.n1⟩
noncomputable def Jvd (S:Riv) (Gs:List Jnt) (ls cs:List Int) (tv:V):List Int:=Jwz Gs cs (lft S ls tv)
noncomputable def Jvi (S:Riv) (Gs:List Jnt) (ls cs:List Int) (tv:V) (rn:List Int):List Int:=Yaa 0 (lft S ls tv) (Jvd S Gs ls cs tv) rn
noncomputable def Yd9 (S:Riv) (wt:Int) (rn:List Int):Int:=if S.c < wt - rn.sum+S.g then S.c else wt - rn.sum+S.g
inductive Sqz (a:Ad) (H:Hp) (p:S1) (c r:V) (S:Riv) (Gs:List Jnt) (ls cs:List Int) (wt:Int) (tv:V) (rn:List Int):Prop where
 |mk (dx:_) (u:_) (lv:_) (q:_) (_:H p=some (.ins a.Jmu dx (Sov c r (drw S ls tv) u lv (Yd9 S wt rn) q))) (_:H u=some (.tup ((Jvd S Gs ls cs tv).map V.int))) (_:H lv=some (.tup ((Jvi S Gs ls cs tv rn).map V.int))) (_:H q=some (.tup ((Jq6 0 S.Bs (Jvi S Gs ls cs tv rn)).map V.int)))
inductive Yhf (K:Sd) (a:Ad) (vs:List V) (H:Hp) (Q:VK) (z3:XK):Prop where
 |mk (p dx o ra:S1) (H0:Hp) (S:Riv) (Gs:List Jnt) (x c:V) (ls cs rn:List Int) (wt:Int) (tv:V) (_:vs= [.ref p,.ref o,x,c,.ref ra]) (_:H0 p=none) (_:Si H0 H) (_:H p=some (.ins a.Jmu dx [])) (_:Sgq K a H0 o S Gs x c ls cs wt tv ra rn) (_:∀H',Si H0 H'->Sqz a H' p c (.ref ra) S Gs ls cs wt tv rn->Q .non H')
theorem Jyx {S:Riv} {ls:List Int} {tv:V}:(lft S ls tv).length=ls.length:=by
 unfold lft;split
 ·rw [ybl]
 ·rfl
noncomputable def fs2 (c r:V):List (Str×V):=[("choice",c),("rain",r)]
noncomputable def fs3 (c r:V) (d:Int):List (Str×V):=[("choice",c),("rain",r),("drawn",.int d)]
noncomputable def fs4 (c r:V) (d:Int):List (Str×V):=[("choice",c),("rain",r),("drawn",.int d),("paid",.bl (decide (d > 0)))]
noncomputable def fs5 (c r:V) (d:Int) (u:S1):List (Str×V):=[("choice",c),("rain",r),("drawn",.int d),("paid",.bl (decide (d > 0))),("outs",.ref u)]
noncomputable def fs6 (c r:V) (d:Int) (u lv:S1):List (Str×V):=[("choice",c),("rain",r),("drawn",.int d),("paid",.bl (decide (d > 0))),("outs",.ref u),("levels",.ref lv)]
noncomputable def fs7 (c r:V) (d:Int) (u lv:S1) (wt:Int):List (Str×V):=[("choice",c),("rain",r),("drawn",.int d),("paid",.bl (decide (d > 0))),("outs",.ref u),("levels",.ref lv),("wet",.int wt)]
theorem pf2 (c r:V):Jom "rain" r (Jom "choice" c [])=fs2 c r:=Jo5 (show (["choice"]:List Str).contains "rain" =false by decide +kernel)
theorem pf3 (c r:V) (d:Int):Jom "drawn" (.int d) (fs2 c r)=fs3 c r d:=Jo5 (show (["choice","rain"]:List Str).contains "drawn" =false by decide +kernel)
theorem pf4 (c r:V) (d:Int):Jom "paid" (.bl (decide (0 < d))) (fs3 c r d)=fs4 c r d:=Jo5 (show (["choice","rain","drawn"]:List Str).contains "paid" =false by decide +kernel)
theorem pf5 (c r:V) (d:Int) (u:S1):Jom "outs" (.ref u) (fs4 c r d)=fs5 c r d u:=Jo5 (show (["choice","rain","drawn","paid"]:List Str).contains "outs" =false by decide +kernel)
theorem pf6 (c r:V) (d:Int) (u lv:S1):Jom "levels" (.ref lv) (fs5 c r d u)=fs6 c r d u lv:=Jo5 (show (["choice","rain","drawn","paid","outs"]:List Str).contains "levels" =false by decide +kernel)
theorem pf7 (c r:V) (d:Int) (u lv:S1) (wt:Int):Jom "wet" (.int wt) (fs6 c r d u lv)=fs7 c r d u lv wt:=Jo5 (show (["choice","rain","drawn","paid","outs","levels"]:List Str).contains "wet" =false by decide +kernel)
theorem pf8 (c r:V) (d:Int) (u lv:S1) (wt:Int) (q:S1):Jom "broken" (.ref q) (fs7 c r d u lv wt)=Sov c r d u lv wt q:=Jo5 (show (["choice","rain","drawn","paid","outs","levels","wet"]:List Str).contains "broken" =false by decide +kernel)
theorem Scq:Jne ["self","river","standing","choice","rain","left"] ["self","river","standing","choice","rain"] (Jnb (Jni (top 30) 0)):=%[|0]
theorem Jz1 (T:Tx K mg a):So P w K mg base CX0 5 a.Jij a.Jik ["self","river","standing","choice","rain"] (Yhf K a):=by
 have Slo:=%[Ygg|1];have Sfg:=%[Jww|1];have Shz:=%[Yau|1];have Set:=%[Juv|1];have Sgl:=%[Jz4|1];refine %[T.Jd6.fn.ok,Scq|2]
 ·obtain ⟨p,dx,o,ra,H0,S,Gs,x,c,ls,cs,rn,wt,tv,rfl,_⟩:=h;rfl
 ·obtain ⟨p,dx,o,ra,H0,S,Gs,x,c,ls,cs,rn,wt,tv,rfl,np,s0,hp,ti,k⟩:=h;refine ⟨?t,?B,?C⟩
  case B=>
   refine' Sw ?O0 ?O1
   case O0=>exact (Jod (pv 0) (pv 3) rfl)
   case O1=>
   refine' Sw ?O2 ?O3
   case O2=>exact (Jod (pv 0) (pv 4) rfl)
   case O3=>
   refine' Sw ?O4 ?O5
   case O4=>exact (Jod (pv 0) (Jna T.J8 Slo hr (by decide) (Sj (pv 1) (Sj (pv 2) (Sj (pv 3) Sk)))) rfl)
   case O5=>
   refine' Sw ?O6 ?O7
   case O6=>exact (Jod (pv 0) (Jqr Jyk (Jnl (pv 0) (by rfl)) Sr (Joc _)) rfl)
   case O7=>
   refine' Sw ?O8 ?O9
   case O8=>exact (Jnk (i:=5) Scq.nd rfl (yf rfl) (Jna T.J9 Sfg hr (by decide) (pa4 (pv 1) (pv 2) (pv 3) (Jnl (pv 0) (by rfl)))))
   case O9=>
   refine' Sw ?Oa ?Ob
   case Oa=>exact (Jod (pv 0) (Jna T.Ja Shz hr (by decide) (Sj (pv 1) (Sj (Jno Jns (pv 3) Sr (λ_ _=>rfl)) (Sj (pv 5) Sk)))) rfl)
   case Ob=>
   refine' Sw ?Oc ?Od
   case Oc=>exact (Jod (pv 0) (Jna T.Jb Set hr (by decide) (Sj (pv 5) (Sj (Jnl (pv 0) (by rfl)) (Sj (pv 4) Sk)))) rfl)
   case Od=>
   refine' Sw ?Oe ?Of
   case Oe=>exact (Jod (pv 0) (Jng (Jug rfl) (by rfl) T.Jb1 Yac (Sj (Jnj Jnv (Jnj Joq (Jno Jns (pv 2) Sr (λ_ _=>rfl)) (Jng (Jrq rfl) (by rfl) T.Jb7 Jrp (Sj (pv 4) Sk))) (Jnl (pv 1) (by rfl))) (Sj (Jnl (pv 1) (by rfl)) Sk))) rfl)
   case Of=>
   refine' Sy ?Og
   case Og=>exact (Jod (pv 0) (Jna T.Jc Sgl hr (by decide) (Sj (pv 1) (Sj (Jnl (pv 0) (by rfl)) Sk))) rfl)
  have new:∀{Ha:Hp} {ob:HO},Si H0 Ha->Si H0 (upd Ha p ob):=λs b oo e=>by rw [Jnc (Jnd e np)];exact s _ _ e
  refine ⟨_,rfl,_,rfl,p,_,dx,[],rfl,hp,T.Je9,T.Jfo,by simp,?_⟩;refine ⟨_,rfl,_,rfl,p,_,dx,_,rfl,Sn,T.Je9,T.Jfp,by simp [Jom],?_⟩;rw [Jp8,pf2];have h2:Si H0 (upd H p (.ins a.Jmu dx (fs2 c (.ref ra)))):=new s0;have ti2:=ti.same h2;refine ⟨_,rfl,_,rfl,_,rfl,o,S,x,c,ls,cs,wt,tv,rfl,ti2.ro,ti2.ti,ti2.st,ti2.ch,λH3 s3=>?_⟩;have p3:=s3 _ _ (Sn (H:=H) (a:=p) (o:=.ins a.Jmu dx (fs2 c (.ref ra))));have h3:=h2.trans s3;refine ⟨_,rfl,p,_,dx,_,rfl,p3,T.Je9,T.Jfq,by simp [fs2],?_⟩;rw [pf3];refine ⟨_,rfl,p,_,dx,_,_,rfl,Sn,T.Je9,T.Jfq,rfl,_,_,rfl,rfl,?_⟩;refine ⟨_,rfl,p,_,dx,_,rfl,Sn,T.Je9,T.Jfr,by simp [fs3],?_⟩;rw [Jp8,pf4];have h4:Si H0 (upd H3 p (.ins a.Jmu dx (fs4 c (.ref ra) (drw S ls tv)))):=new h3;have ti4:=ti.same h4;refine ⟨_,rfl,_,rfl,_,rfl,_,rfl,p,_,dx,_,_,rfl,Sn,T.Je9,T.Jfq,rfl,o,S,x,c,ls,cs,wt,tv,rfl,ti4.ro,ti4.ti,ti4.st,ti4.ch,λl H5 hl0 s5 hl5=>?_⟩;have p5:=s5 _ _ (Sn (H:=H3) (a:=p) (o:=.ins a.Jmu dx (fs4 c (.ref ra) (drw S ls tv))));have h5:=h4.trans s5;have ti5:=ti.same h5;obtain ⟨y,yu,rfl,hy,hyu,ly⟩:=ti5.st;obtain ⟨z,v,rfl,hz,hv,lc,tw⟩:=ti5.ch;have sol:=ti.so.len;refine ⟨_,rfl,_,rfl,z,_,0,_,rfl,rfl,Su.of hz,rfl,_,rfl,o,v,l,S,Gs,cs,lft S ls tv,rfl,ti5.ro,ti5.gx,ti5.so,ti5.ln,hv,hl5,λu H6 s6 hu6=>?_⟩;have p6:=s6 _ _ p5;have np6:∀{b:S1} {ob:HO},H6 b=some ob->(∀C d fs,ob≠ .ins C d fs)->b≠p:=λhb n e=>by rw [e,p6] at hb;exact n _ _ _ (yz.inj hb).symm
  refine ⟨_,rfl,p,_,dx,_,rfl,p6,T.Je9,T.Jfs,by simp [fs4],?_⟩;rw [pf5];have h6:Si H0 (upd H6 p (.ins a.Jmu dx (fs5 (.ref z) (.ref ra) (drw S ls tv) u))):=new (h5.trans s6);have ti6:=ti.same h6;have u6:(upd H6 p (.ins a.Jmu dx (fs5 (.ref z) (.ref ra) (drw S ls tv) u))) u=some (.tup ((Jvd S Gs ls cs tv).map V.int)):=by rw [Jnc (np6 hu6 (λ_ _ _ z=>by cases z))];exact hu6
  have l6:(upd H6 p (.ins a.Jmu dx (fs5 (.ref z) (.ref ra) (drw S ls tv) u))) l=some (.lst ((lft S ls tv).map V.int)):=by rw [Jnc (np6 (s6 _ _ hl5) (λ_ _ _ z=>by cases z))];exact s6 _ _ hl5
  have n16:S.Bs.length<=16:=by obtain ⟨_,_,_,_,_,_,_,_,_,_,q,_⟩:=ti.ro;exact q
  have el:(lft S ls tv).length=S.Bs.length:=by rw [Jyx];exact ly
  have eo:(Jvd S Gs ls cs tv).length=S.Bs.length:=by unfold Jvd;rw [Jsg sol.1 sol.2];exact ti.ln.symm
  have rl:=ti.rl;have n1:=ti.n1;refine ⟨_,rfl,_,rfl,p,_,dx,_,_,rfl,Sn,T.Je9,T.Jfs,rfl,_,rfl,l,u,ra,_,_,rn,rfl,l6,u6,ti6.hr,by omega,by omega,by omega,λlv H7 s7 hlv7=>?_⟩;have p7:=s7 _ _ (Sn (H:=H6) (a:=p) (o:=.ins a.Jmu dx (fs5 (.ref z) (.ref ra) (drw S ls tv) u)));have np7:∀{b:S1} {ob:HO},H7 b=some ob->(∀C d fs,ob≠ .ins C d fs)->b≠p:=λhb n e=>by rw [e,p7] at hb;exact n _ _ _ (yz.inj hb).symm
  refine ⟨_,rfl,p,_,dx,_,rfl,p7,T.Je9,T.Jft,by simp [fs5],?_⟩;rw [pf6];have h7:Si H0 (upd H7 p (.ins a.Jmu dx (fs6 (.ref z) (.ref ra) (drw S ls tv) u lv))):=new (h6.trans s7);have ti7:=ti.same h7;obtain ⟨dxr,b,tt,os,ts,ho,hb,bl,ht,tl,m1,m2,m3⟩:=id ti7.ro;obtain ⟨y7,yu7,ey,hy7,hyu7,ly7⟩:=ti7.st;obtain rfl:y=y7:=V.ref.inj ey;refine ⟨_,rfl,y,_,1,_,rfl,rfl,Su.of hy7,rfl,_,rfl,ra,rn,rfl,.inr (Su.of ti7.hr),ti.sm,_,_,rfl,rfl,_,rfl,o,_,dxr,_,_,rfl,ho,T.Jfe,T.Jgi,rfl,_,_,rfl,rfl,_,rfl,o,_,dxr,_,_,rfl,ho,T.Jfe,T.Jgh,rfl,_,_,rfl,?_⟩;refine ⟨_,rfl,p,_,dx,_,rfl,Sn,T.Je9,T.Jfu,by simp [fs6],?_⟩;rw [Jp8,pf7];have h8:Si H0 (upd H7 p (.ins a.Jmu dx (fs7 (.ref z) (.ref ra) (drw S ls tv) u lv (Yd9 S wt rn)))):=new (h6.trans s7);have ti8:=ti.same h8;have lv8:(upd H7 p (.ins a.Jmu dx (fs7 (.ref z) (.ref ra) (drw S ls tv) u lv (Yd9 S wt rn)))) lv=some (.tup ((Jvi S Gs ls cs tv rn).map V.int)):=by rw [Jnc (np7 hlv7 (λ_ _ _ z=>by cases z))];exact hlv7
  have u8:(upd H7 p (.ins a.Jmu dx (fs7 (.ref z) (.ref ra) (drw S ls tv) u lv (Yd9 S wt rn)))) u=some (.tup ((Jvd S Gs ls cs tv).map V.int)):=by rw [Jnc (np7 (s7 _ _ u6) (λ_ _ _ z=>by cases z))];exact s7 _ _ u6
  have e8:(Jvi S Gs ls cs tv rn).length=S.Bs.length:=by unfold Jvi;rw [Jtn (by omega) (by omega)];exact el
  refine ⟨_,rfl,_,rfl,p,_,dx,_,_,rfl,Sn,T.Je9,T.Jft,rfl,o,lv,S,_,rfl,ti8.ro,lv8,e8,λq H9 s9 hq9=>?_⟩;have p9:=s9 _ _ (Sn (H:=H7) (a:=p) (o:=.ins a.Jmu dx (fs7 (.ref z) (.ref ra) (drw S ls tv) u lv (Yd9 S wt rn))));have np9:∀{b:S1} {ob:HO},H9 b=some ob->(∀C d fs,ob≠ .ins C d fs)->b≠p:=λhb n e=>by rw [e,p9] at hb;exact n _ _ _ (yz.inj hb).symm
  refine ⟨_,rfl,p,_,dx,_,rfl,p9,T.Je9,T.Jfv,by simp [fs7],?_⟩;rw [pf8];have keep:∀{b:S1} {ob ox:HO},H9 b=some ob->(∀C d fs,ob≠ .ins C d fs)->upd H9 p ox b=some ob:=λhb n=>by rw [Jnc (np9 hb n)];exact hb
  exact k _ (new (h8.trans s9)) ⟨dx,u,lv,q,Sn,keep (s9 _ _ u8) (λ_ _ _ z=>by cases z),keep (s9 _ _ lv8) (λ_ _ _ z=>by cases z),keep hq9 (λ_ _ _ z=>by cases z)⟩
structure RvX (K:Sd) (a:Ad) (H:Hp) (o:S1) (S:Riv) (Gs:List Jnt):Prop where
 ro:Sal K a H o S
 gx:GXL a H (S.Bs.map (·.g)) Gs
 ln:S.Bs.length=Gs.length
 ti:TIn S
 n1:1<=S.Bs.length
 ok:∀(i:Nat) (B:Bsn) (G:Jnt),S.Bs[i]?=some B->Gs[i]?=some G->Sbk G/\B.n=nOf G/\0<=B.lo/\B.hi<=12
theorem RvX.same {K:Sd} {a:Ad} {H H':Hp} {o:S1} {S:Riv} {Gs:List Jnt} (s:Si H H') (h:RvX K a H o S Gs):RvX K a H' o S Gs:=⟨h.ro.same s,h.gx.same s,h.ln,h.ti,h.n1,h.ok⟩
noncomputable def Yc6 (S:Riv) (ls:List Int):Prop:=∀(i:Nat) (n:Int) (B:Bsn),ls[i]?=some n->S.Bs[i]?=some B->B.lo<=n/\n<=B.hi
noncomputable def Sjn (S:Riv) (cs:List Int):Prop:=∀(i:Nat) (n:Int) (B:Bsn),cs[i]?=some n->S.Bs[i]?=some B->0<=n/\n<=(B.n:Int) - 1
theorem Sc8.of:∀{Gs:List Jnt} {cs ls:List Int},Gs.length=cs.length->cs.length=ls.length->(∀(i:Nat) (G:Jnt) (c l:Int),Gs[i]?=some G->cs[i]?=some c->ls[i]?=some l->Sbk G/\(0<=c/\c < (nOf G:Int))/\(0<=l/\l<=1000))->Sc8 Gs cs ls
 | [],[],[],_,_,_=>True.intro
 |G::Gs,c::cs,l::ls,e1,e2,h=>⟨h 0 G c l rfl rfl rfl,Sc8.of (by simpa using e1) (by simpa using e2) λi G c l q1 q2 q3=>h (i+1) G c l (by simpa using q1) (by simpa using q2) (by simpa using q3)⟩
 | [],_::_,_,e,_,_=>by simp at e
 |_::_,[],_,e,_,_=>by simp at e
 | [],[],_::_,_,e,_=>by simp at e
 |_::_,_::_,[],_,e,_=>by simp at e
theorem Smn {S:Riv} {ls:List Int} {tv:V} (ti:TIn S):0<=drw S ls tv/\(drw S ls tv > 0->drw S ls tv<=ls.getD (Yr S tv) 0):=by
 cases tv with
 |int t=>
  show 0<=(match S.Ts[t.toNat]? with|some T=>if ls.getD (plc S T.b) 0≥T.wt then T.wt else 0|none=>0)/\((match S.Ts[t.toNat]? with|some T=>if ls.getD (plc S T.b) 0≥T.wt then T.wt else 0|none=>0) > 0->(match S.Ts[t.toNat]? with|some T=>if ls.getD (plc S T.b) 0≥T.wt then T.wt else 0|none=>0)<=ls.getD (match S.Ts[t.toNat]? with|some T=>plc S T.b|none=>0) 0);cases e:S.Ts[t.toNat]? with
  |none=>simp
  |some T=>
   have:=ti T (yq e);dsimp only;split <;> omega
 |_=>exact ⟨Int.le_refl 0,λh=>absurd (show (0:Int) > 0 from h) (by decide)⟩
theorem Sn3 {S:Riv} {ls:List Int} {tv:V} (ti:TIn S) (h0:∀n∈ls,0<=n/\n<=12):∀n∈lft S ls tv,0<=n/\n<=12:=by
 have d:=Smn (ls:=ls) (tv:=tv) ti;unfold lft;split
 ·rename_i hd
  intro n hn;rcases ycp hn with h|h
  ·exact h0 n h
  ·by_cases hp:Yr S tv < ls.length
   ·have e:ls.getD (Yr S tv) 0=ls[Yr S tv]:=by simp [ybz,hp]
    have:=h0 _ (yaq hp);rw [e] at h d;have:=d.2 hd;omega
   ·have e:ls.getD (Yr S tv) 0=0:=by simp [ybz,hp]
    rw [e] at d;have:=d.2 hd;omega
 ·exact h0
theorem RvX.sets {K:Sd} {a:Ad} {H:Hp} {o:S1} {S:Riv} {Gs:List Jnt} {ls cs:List Int} {tv:V} (h:RvX K a H o S Gs) (l1:ls.length=S.Bs.length) (l2:cs.length=S.Bs.length) (hl:Yc6 S ls) (hc:Sjn S cs):Sc8 Gs cs (lft S ls tv):=by
 have ln:=h.ln;have all:∀n∈ls,0<=n/\n<=12:=λn hn=>by
  obtain ⟨i,hi⟩:=ybk hn;have hi':i < ls.length:=(yj.mp hi).1;have b:=hl i n S.Bs[i] hi (yh (by omega));have k:=h.ok i S.Bs[i] (Gs[i]'(by omega)) (yh (by omega)) (yh (by omega));omega
 refine .of (by omega) (by rw [Jyx];omega) λi G c l q1 q2 q3=>?_;have hi:i < Gs.length:=(yj.mp q1).1;have k:=h.ok i S.Bs[i] G (yh (by omega)) q1;have b:=hc i c S.Bs[i] q2 (yh (by omega));have f:=Sn3 (tv:=tv) h.ti all l (yq q3);exact ⟨k.1,by rw [<-k.2.1];omega,by omega⟩
noncomputable def Ycn (S:Riv) (Gs:List Jnt) (ls cs:List Int) (wt:Int) (tv:V) (rn:List Int):Option (List Int×Int):=if (Jq6 0 S.Bs (Jvi S Gs ls cs tv rn)).length=0 then some (Jvi S Gs ls cs tv rn,Yd9 S wt rn) else none
noncomputable def Sm4 (H:Hp) (y:V):Option (List Int×Int)->Prop
 |none=>y= .non
 |some p=>Sb2 H y p.1 p.2
inductive Yfc (a:Ad) (vs:List V) (H:Hp) (Q:VK) (z3:XK):Prop where
 |mk (p dx u lv q:S1) (c r:V) (d wt:Int) (_:vs= [.ref p]) (_:H p=some (.ins a.Jmu dx (Sov c r d u lv wt q))) (_:∀t H',Si H H'->H' t=some (.tup [.ref lv,.int wt])->Q (.ref t) H')
inductive So5 (K:Sd) (a:Ad) (vs:List V) (H:Hp) (Q:VK) (z3:XK):Prop where
 |mk (o ra:S1) (S:Riv) (Gs:List Jnt) (x c:V) (ls cs rn:List Int) (wt:Int) (tv:V) (_:vs= [.ref o,x,c,.ref ra]) (_:Sgq K a H o S Gs x c ls cs wt tv ra rn) (_:∀y H',Si H H'->Sm4 H' y (Ycn S Gs ls cs wt tv rn)->Q y H')
theorem Juy:Jne ["self"] ["self"] (Jnb (Jni (top 30) 1)):=%[|0]
theorem Jur (T:Tx K mg a):So P w K mg base CX0 1 a.Jil a.Jim ["self"] (Yfc a):=by
 refine %[T.Jd7.fn.ok,Juy|2]
 ·obtain ⟨p,dx,u,lv,q,c,r,d,wt,rfl,_⟩:=h;rfl
 ·obtain ⟨p,dx,u,lv,q,c,r,d,wt,rfl,hp,k⟩:=h;refine ⟨?t,?B,?C⟩
  case B=>
   refine' Sy ?O0
   case O0=>exact (Jnh (Jnz (Sj (Jnl (pv 0) (by rfl)) (Sj (Jnl (pv 0) (by rfl)) Sk))))
  refine ⟨_,rfl,p,_,dx,_,_,rfl,hp,T.Je9,T.Jft,rfl,_,rfl,p,_,dx,_,_,rfl,hp,T.Je9,T.Jfu,rfl,(show 2<=S6 by decide),λt ht=>k t _ (Si.upd ht) Sn⟩
theorem Shw:Jne ["river","standing","choice","rain","turn"] ["river","standing","choice","rain"] (Jnb (top 48)):=%[|0]
theorem Ygh (T:Tx K mg a):So P w K mg base CX0 7 a.Jjh a.Jji ["river","standing","choice","rain"] (So5 K a):=by
 have Seq:=%[Jz1|1];have Ser:=%[Jur|1];refine %[T.Js.fn.ok,Shw|2]
 ·obtain ⟨o,ra,S,Gs,x,c,ls,cs,rn,wt,tv,rfl,_⟩:=h;rfl
 ·obtain ⟨o,ra,S,Gs,x,c,ls,cs,rn,wt,tv,rfl,ti,k⟩:=h;refine ⟨?t,?B,?C⟩
  case B=>
   refine' Sw ?O0 ?O1
   case O0=>exact (Jnk (i:=4) Shw.nd rfl (yf rfl) (Jqd T.Jea Seq (hr.mono (by decide)) (by rfl) T.Jbl T.Jd6.bd .nil Jpa (pa4 (pv 0) (pv 1) (pv 2) (pv 3))))
   case O1=>
   refine' Sy ?O2
   case O2=>exact (Jnh (Jx1 (Jo9 Jrh (Jng Jnm (by rfl) T.Jay Joh (Sj (Jnl (pv 4) (by rfl)) Sk)) Sr (Joc _)) (Jqk (pv 4) T.Je9 T.Jeb Ser (hr.mono (by decide)) T.Jd7.bd .nil Jpa) Jpp))
  refine ⟨_,rfl,_,rfl,_,rfl,_,rfl,λp dx hp hd ne=>?_⟩;have sn:Si H (upd (upd H dx (.own p)) p (.ins a.Jmu dx [])):=λb ob e=>by rw [Jnc (Jnd e hp),Jnc (Jnd e hd)];exact e
  refine ⟨p,dx,o,ra,H,S,Gs,x,c,ls,cs,rn,wt,tv,rfl,hp,sn,Sn,ti,λH1 s1 tr=>?_⟩;obtain ⟨dx1,u,lv,q,g1,g2,g3,g4⟩:=tr;refine ⟨rfl,_,rfl,p,_,dx1,_,_,rfl,g1,T.Je9,T.Jfv,rfl,q,_,rfl,.inr (Su.of g4),rfl,_,rfl,?_⟩;rw [ye];unfold Ycn at k;by_cases e:(Jq6 0 S.Bs (Jvi S Gs ls cs tv rn)).length=0
  ·rw [if_pos e] at k;refine ifT (by rw [e];rfl) ⟨_,rfl,p,dx1,_,rfl,g1,rfl,p,dx1,u,lv,q,c,.ref ra,_,_,rfl,g1,λt H2 s2 ht=>?_⟩;exact k _ _ (s1.trans s2) ⟨t,lv,rfl,ht,s2 _ _ g3⟩
  ·rw [if_neg e] at k;exact ifF (decide_eq_false λz=>e (by have:=V.int.inj z;omega)) (k _ _ s1 rfl)
theorem Yff {R:Riv} {n:Int} (hl:∀B∈R.Bs,1<=lvN B):∀i,i<=R.Bs.length->∀(j:Nat) (l:Int) (B:Bsn),(stF R n i).1[j]?=some l->R.Bs[j]?=some B->B.lo<=l/\l<=B.hi:=by
 intro i
 induction i with
 |zero=>exact λ_ j l B e=>by simp [stF] at e
 |succ i ih=>
  intro h j l B e1 e2;have eB:R.Bs[i]?=some R.Bs[i]:=yh (by omega);rw [Jx9 R n eB] at e1;have ln:=Ju9 R n i (by omega);rw [ycn,ln] at e1;by_cases c:j < i
  ·rw [if_pos c] at e1;exact ih (by omega) j l B e1 e2
  ·rw [if_neg c] at e1;have ej:j=i:=by
    have:=(yj.mp e1).1;simp at this;omega
   subst ej;rw [eB] at e2;cases e2;rw [Nat.sub_self] at e1;cases e1;have q:=hl _ (yq eB);have m1:=ybd (stF R n j).2 (show lvN R.Bs[j]≠0 by omega);have m2:=ybe (stF R n j).2 (show 0 < lvN R.Bs[j] by omega);have e:lvN R.Bs[j]=R.Bs[j].hi - R.Bs[j].lo+1:=rfl;omega
noncomputable def lvL:List Bsn->List (List Int)
 | []=>[[]]
 |B::Bs=>(lvL Bs).flatMap λls=>(rgI (lvN B).toNat).map λk=>(B.lo+k)::ls
theorem Jwg {α β:Type} {m:Nat} {f:α->List β}:∀{l:List α},(∀x∈l,(f x).length=m)->∀(i j:Nat) (x:α),l[i]?=some x->j < m->(l.flatMap f)[i*m+j]?=(f x)[j]?:=by
 intro l
 induction l with
 |nil=>exact λ_ i j x e=>by simp at e
 |cons y l ih=>
  intro h i j x e hj;have hy:=h y yah;rw [ycu];cases i with
  |zero=>
   cases e;rw [Nat.zero_mul,Nat.zero_add,List.getElem?_append_left (by omega)]
  |succ i=>
   rw [List.getElem?_append_right (by rw [hy,ycj];omega),hy,show (i+1)*m+j - m=i*m+j by rw [ycj];omega];exact ih (λx hx=>h x (yac _ hx)) i j x (by simpa using e) hj
theorem Jq4 {α β:Type} {m:Nat} {f:α->List β}:∀{l:List α},(∀x∈l,(f x).length=m)->(l.flatMap f).length=l.length*m:=by
 intro l
 induction l with
 |nil=>exact λ_=>by simp
 |cons y l ih=>
  intro h;rw [ycu,yab,h y yah,ih λx hx=>h x (yac _ hx),yaf,ycj,Nat.add_comm]
noncomputable def prN:List Bsn->Nat
 | []=>1
 |B::Bs=>prN Bs*(lvN B).toNat
theorem Jpd:∀Bs:List Bsn,(lvL Bs).length=prN Bs:=by
 intro Bs
 induction Bs with
 |nil=>rfl
 |cons B Bs ih=>
  show ((lvL Bs).flatMap _).length=prN Bs*_;rw [Jq4 (m:=(lvN B).toNat) λx _=>by rw [ye,Joj],ih]
theorem Yb0 (ns:List Int):∀c:Int,ns.foldl (·*·) c=c*Jqb ns:=by
 unfold Jqb
 induction ns with
 |nil=>intro c;simp
 |cons n ns ih=>
  intro c;rw [List.foldl_cons,List.foldl_cons,ih (c*n),ih (1*n),Int.one_mul,Int.mul_assoc]
theorem Yep:∀Bs:List Bsn,(∀B∈Bs,1<=lvN B)->Jqb (Bs.map lvN)=prN Bs:=by
 intro Bs
 induction Bs with
 |nil=>exact λ_=>rfl
 |cons B Bs ih=>
  intro h;have q:=h B yah;show (Bs.map lvN).foldl (·*·) (1*lvN B)=_;rw [Yb0,ih λx hx=>h x (yac _ hx)];show _=((prN Bs*(lvN B).toNat:Nat):Int);rw [Int.natCast_mul,Int.one_mul,Int.mul_comm,Int.toNat_of_nonneg (by omega)]
noncomputable def stG (Bs:List Bsn) (acc:List Int) (n:Int):List Int×Int:=Bs.foldl (λp B=>(p.1++ [B.lo+p.2%lvN B],p.2/lvN B)) (acc,n)
theorem Yhi:∀(Bs:List Bsn),(∀B∈Bs,1<=lvN B)->∀(acc:List Int) (n:Nat),n < prN Bs->∃ls,(lvL Bs)[n]?=some ls/\(stG Bs acc n).1=acc++ls:=by
 intro Bs
 induction Bs with
 |nil=>
  intro _ acc n hn;have e:n=0:=by
   have:n < 1:=hn;omega
  subst e;exact ⟨[],rfl,by simp [stG]⟩
 |cons B Bs ih=>
  intro h acc n hn;have q:=h B yah;obtain ⟨m,em⟩:∃m:Nat,lvN B=m:=⟨(lvN B).toNat,by omega⟩;have hm:0 < m:=by omega
  have hn':n < prN Bs*(lvN B).toNat:=hn;rw [em,yax] at hn';have hd:n/m < prN Bs:=(Nat.div_lt_iff_lt_mul hm).mpr hn';obtain ⟨ls,e1,e2⟩:=ih (λx hx=>h x (yac _ hx)) (acc++ [B.lo+(n:Int)%lvN B]) (n/m) hd;refine ⟨(B.lo+(n:Int)%lvN B)::ls,?_,?_⟩
  ·show ((lvL Bs).flatMap _)[n]?=_;have g:=Jwg (m:=m) (f:=λls=>(rgI (lvN B).toNat).map λk=>(B.lo+k)::ls) (l:=lvL Bs) (λx _=>by rw [ye,Joj,em,yax]) (n/m) (n%m) ls e1 (Nat.mod_lt _ hm);rw [show n/m*m+n%m=n by rw [Nat.mul_comm];exact Nat.div_add_mod n m] at g;rw [g,yi];unfold rgI;rw [yi,ycd (by rw [em,yax];exact Nat.mod_lt _ hm),em];rfl
  ·show (stG Bs (acc++ [B.lo+(n:Int)%lvN B]) ((n:Int)/lvN B)).1=_;rw [em] at e2⊢;rw [show ((n:Int)/(m:Int))=((n/m:Nat):Int) from rfl,e2,List.append_assoc];rfl
noncomputable def nbG (Bs:List Bsn) (ls:List Int) (p:Int×Int):Int×Int:=(Bs.zip ls).foldl (λp q=>(p.1+p.2*(q.2 - q.1.lo),p.2*lvN q.1)) p
theorem Ygc:∀(Bs:List Bsn),(∀B∈Bs,1<=lvN B)->∀(n:Nat) (ls:List Int) (acc st:Int),(lvL Bs)[n]?=some ls->(nbG Bs ls (acc,st)).1=acc+st*n:=by
 intro Bs
 induction Bs with
 |nil=>
  intro _ n ls acc st e;have hn:n=0:=by
   have:=(yj.mp e).1;have:n < 1:=this;omega
  subst hn;cases e;simp [nbG]
 |cons B Bs ih=>
  intro h n ls acc st e;have q:=h B yah;obtain ⟨m,em⟩:∃m:Nat,lvN B=m:=⟨(lvN B).toNat,by omega⟩;have hm:0 < m:=by omega
  have hn:n < prN (B::Bs):=by rw [<-Jpd];exact (yj.mp e).1
  have hn':n < prN Bs*(lvN B).toNat:=hn;rw [em,yax] at hn';have hd:n/m < prN Bs:=(Nat.div_lt_iff_lt_mul hm).mpr hn';have e1:(lvL Bs)[n/m]?=some ((lvL Bs)[n/m]'(by rw [Jpd];exact hd)):=yh _;generalize (lvL Bs)[n/m]'(by rw [Jpd];exact hd)=l1 at e1;have g:=Jwg (m:=m) (f:=λls=>(rgI (lvN B).toNat).map λk=>(B.lo+k)::ls) (l:=lvL Bs) (λx _=>by rw [ye,Joj,em,yax]) (n/m) (n%m) l1 e1 (Nat.mod_lt _ hm);rw [show n/m*m+n%m=n by rw [Nat.mul_comm];exact Nat.div_add_mod n m,yi] at g;unfold rgI at g;rw [yi,ycd (by rw [em,yax];exact Nat.mod_lt _ hm)] at g;have e':((lvL Bs).flatMap λls=>(rgI (lvN B).toNat).map λk=>(B.lo+k)::ls)[n]?=some ls:=e;unfold rgI at e';rw [g] at e';cases e';have i1:=ih (λx hx=>h x (yac _ hx)) (n/m) l1 (acc+st*(B.lo+((n%m:Nat):Int) - B.lo)) (st*lvN B) e1;show (nbG Bs l1 (acc+st*(B.lo+((n%m:Nat):Int) - B.lo),st*lvN B)).1=_;rw [i1,em,Int.mul_assoc,Int.add_assoc,<-Int.mul_add];congr 2;have dm:=Nat.div_add_mod n m;have dm':(m:Int)*((n/m:Nat):Int)+((n%m:Nat):Int)=n:=by rw [<-Int.natCast_mul,<-Int.natCast_add,dm]
  omega
noncomputable def stL (R:Riv):List (List Int×Int):=(lvL R.Bs).flatMap λls=>(rgI (R.c+1).toNat).map λwt=>(ls,wt)
theorem Jzm (R:Riv) (hl:∀B∈R.Bs,1<=lvN B) (hc:0<=R.c):((stL R).length:Int)=stN R:=by
 unfold stL stN;rw [Jq4 (m:=(R.c+1).toNat) λx _=>by rw [ye,Joj],Jpd,Yep _ hl,Int.natCast_mul,Int.toNat_of_nonneg (by omega)]
theorem Jzl {R:Riv} (hl:∀B∈R.Bs,1<=lvN B) (hc:0<=R.c) {n:Nat} (hn:n < (stL R).length):(stL R)[n]?=some ((stF R n R.Bs.length).1,(n:Int)%(R.c+1))/\(nbF R (stF R n R.Bs.length).1 ((n:Int)%(R.c+1)) R.Bs.length).1=n:=by
 obtain ⟨m,em⟩:∃m:Nat,R.c+1=m:=⟨(R.c+1).toNat,by omega⟩;have hm:0 < m:=by omega
 have em':(R.c+1).toNat=m:=by omega
 have hn':n < prN R.Bs*m:=by
  have:=Jq4 (m:=(R.c+1).toNat) (f:=λls=>(rgI (R.c+1).toNat).map λwt:Int=>(ls,wt)) (l:=lvL R.Bs) λx _=>by rw [ye,Joj]
  rw [Jpd,em'] at this;have hh:n < ((lvL R.Bs).flatMap λls=>(rgI (R.c+1).toNat).map λwt:Int=>(ls,wt)).length:=hn;rw [em'] at hh;omega
 have hd:n/m < prN R.Bs:=(Nat.div_lt_iff_lt_mul hm).mpr hn';obtain ⟨ls,e1,e2⟩:=Yhi R.Bs hl [] (n/m) hd;have e3:(stF R n R.Bs.length).1=ls:=by
  unfold stF;rw [ybo,em];exact e2
 rw [e3];refine ⟨?_,?_⟩
 ·have g:=Jwg (m:=m) (f:=λls=>(rgI (R.c+1).toNat).map λwt:Int=>(ls,wt)) (l:=lvL R.Bs) (λx _=>by rw [ye,Joj,em']) (n/m) (n%m) ls e1 (Nat.mod_lt _ hm);rw [show n/m*m+n%m=n by rw [Nat.mul_comm];exact Nat.div_add_mod n m,yi] at g;show ((lvL R.Bs).flatMap λls=>(rgI (R.c+1).toNat).map λwt:Int=>(ls,wt))[n]?=_;rw [g];unfold rgI;rw [yi,ycd (by rw [em'];exact Nat.mod_lt _ hm),em];rfl
 ·have ll:ls.length=R.Bs.length:=by
   rw [<-e3];exact Ju9 R n _ (yg _)
  have g:=Ygc R.Bs hl (n/m) ls ((n:Int)%(R.c+1)) (R.c+1) e1;unfold nbF;rw [yad (by rw [List.length_zip];omega)];refine g.trans ?_;rw [em];have dm:=Nat.div_add_mod n m;have dm':(m:Int)*((n/m:Nat):Int)+((n%m:Nat):Int)=n:=by rw [<-Int.natCast_mul,<-Int.natCast_add,dm]
  have em2:(n:Int)%(m:Int)=((n%m:Nat):Int):=rfl;rw [em2];omega
theorem Yg7 {R:Riv} {sk:Option (List (Int×Int))} (so:Jvg R sk):∀(i:Nat) (r:List Int) (B:Bsn),(Jpc R sk)[i]?=some r->R.Bs[i]?=some B->∀n∈r,0<=n/\n < B.n:=by
 have h0:∀(i:Nat) (r:List Int) (B:Bsn),(R.Bs.map λB=>rgI B.n)[i]?=some r->R.Bs[i]?=some B->∀n∈r,0<=n/\n < B.n:=by
  intro i r B e1 e2 n hn;rw [yi,e2] at e1;cases e1;exact Jze hn
 have go:∀(l:List (Int×Int)) (rs:List (List Int)),(∀p∈l,SkB R p)->(∀(i:Nat) (r:List Int) (B:Bsn),rs[i]?=some r->R.Bs[i]?=some B->∀n∈r,0<=n/\n < B.n)->∀(i:Nat) (r:List Int) (B:Bsn),(l.foldl (λrs p=>rs.set p.1.toNat [p.2]) rs)[i]?=some r->R.Bs[i]?=some B->∀n∈r,0<=n/\n < B.n:=by
  intro l
  induction l with
  |nil=>exact λrs _ h=>h
  |cons p l ih=>
   intro rs hp h;refine ih _ (λq hq=>hp q (yac _ hq)) λi r B e1 e2 n hn=>?_;obtain ⟨p0,B',eB,q0,q1⟩:=hp p yah;rw [ycm] at e1;by_cases c:p.1.toNat=i
   ·rw [if_pos c] at e1;split at e1
    ·cases e1;rw [c,e2] at eB;cases eB;rw [yal.mp hn];exact ⟨q0,q1⟩
    ·cases e1
   ·rw [if_neg c] at e1;exact h i r B e1 e2 n hn
 unfold Jpc;cases sk with
 |none=>exact h0
 |some l=>exact go l _ (so l rfl).2.2 h0
theorem Snp {R:Riv} {sk:Option (List (Int×Int))} (so:Jvg R sk):∀i,i<=R.Bs.length->∀r∈rwN R sk i,r.length=i/\Sjn R r:=by
 intro i
 induction i with
 |zero=>
  intro _ r hr;have hr':r∈ [([]:List Int)]:=hr;rw [yal.mp hr'];exact ⟨rfl,λi n B e=>by simp at e⟩
 |succ i ih=>
  intro h r hr;have ll:=Jun R sk;have er:(Jpc R sk)[i]?=some ((Jpc R sk)[i]'(by omega)):=yh _;rw [Ju2 er] at hr;obtain ⟨r0,h0,n,hn,rfl⟩:=Ybu hr;obtain ⟨l0,c0⟩:=ih (by omega) r0 h0;refine ⟨by rw [yab,l0];rfl,λj m B e1 e2=>?_⟩;rw [ycn,l0] at e1;by_cases c:j < i
  ·rw [if_pos c] at e1;exact c0 j m B e1 e2
  ·rw [if_neg c] at e1;have ej:j=i:=by
    have:=(yj.mp e1).1;simp at this;omega
   subst ej;rw [Nat.sub_self] at e1;cases e1;have q:=Yg7 so j _ B er e2 n hn;omega
theorem Smh {R:Riv} {sk:Option (List (Int×Int))} (so:Jvg R sk) {c:List Int×Option Int} (h:c∈chL R sk):c.1.length=R.Bs.length/\Sjn R c.1/\Skz R (twV c.2):=by
 unfold chL at h;obtain ⟨r,hr,h⟩:=ycr.mp h;obtain ⟨t,ht,rfl⟩:=yn.mp h;obtain ⟨q1,q2⟩:=Snp so R.Bs.length (yg _) r hr;refine ⟨q1,q2,?_⟩;unfold twL at ht;rcases yo.mp ht with rfl|ht
 ·exact .inl rfl
 ·obtain ⟨n,hn,rfl⟩:=yn.mp ht;have:=Jze hn;exact .inr ⟨n,rfl,this.1,this.2⟩
theorem Ybl {R:Riv} {sk:Option (List (Int×Int))} (h4:R.Bs.length<=4) (n4:∀B∈R.Bs,B.n<=4) (ht:R.Ts.length<=3):(chL R sk).length<=1024:=by
 have r4:=Jwl R sk n4;have ll:=Jun R sk;obtain ⟨b1,_⟩:=Yez (R:=R) (sk:=sk) r4 R.Bs.length (by omega);have b5:=Snk h4;unfold chL;rw [Jq4 (m:=R.Ts.length+1) λx _=>by rw [ye];unfold twL;rw [yaf,ye,Joj]];have:=Nat.mul_le_mul (yae b1 b5) (show R.Ts.length+1<=4 by omega);omega
theorem Sme:∀{k:Nat} {Bs:List Bsn} {ls:List Int},(Jq6 k Bs ls).length=0->∀(i:Nat) (n:Int) (B:Bsn),ls[i]?=some n->Bs[i]?=some B->B.lo<=n/\n<=B.hi:=by
 intro k Bs
 induction Bs generalizing k with
 |nil=>exact λ_ i n B _ e=>by simp at e
 |cons C Bs ih=>
  intro ls h i n B e1 e2;cases ls with
  |nil=>simp at e1
  |cons l ls=>
   have h':(if C.lo<=l/\l<=C.hi then Jq6 (k+1) Bs ls else (k:Int)::Jq6 (k+1) Bs ls).length=0:=h;by_cases c:C.lo<=l/\l<=C.hi
   ·rw [if_pos c] at h';cases i with
    |zero=>cases e1;cases e2;exact c
    |succ i=>exact ih h' i n B (by simpa using e1) (by simpa using e2)
   ·rw [if_neg c] at h';simp at h'
inductive FlV (bad:S1->Prop) (H:Hp) (v:V) (rs:List (List Int)):Prop where
 |mk (q:_) (us:_) (_:v= .ref q) (_:¬bad q) (_:H q=some (.lst us)) (_:TpL H us rs)
theorem FlV.mn {bad:S1->Prop} {D:S1} (h:bad D):MnD D (FlV bad):=by
 rintro H H' v a f ⟨q,us,rfl,nb,g,r⟩;exact ⟨q,us,rfl,nb,f q _ (.inl λe=>nb (e▸h)) g,TpL.on (λq xs e=>f q _ (.inr λ_ z=>by cases z) e) r⟩
noncomputable def Sct (H H':Hp):Prop:=∀q o,(∀C d fs,o≠ .ins C d fs)->H q=some o->H' q=some o
theorem Sct.same {H H':Hp} (s:Si H H'):Sct H H':=λq o _ e=>s q o e
theorem Sct.tup {H H':Hp} (f:Sct H H'):∀q xs,H q=some (.tup xs)->H' q=some (.tup xs):=λq xs e=>f q _ (λ_ _ _ z=>by cases z) e
theorem Sct.lst {H H':Hp} {q:S1} {xs:List V} (f:Sct H H') (e:H q=some (.lst xs)):H' q=some (.lst xs):=f q _ (λ_ _ _ z=>by cases z) e
theorem FlV.to {bad bad':S1->Prop} {H H':Hp} {v:V} {rs:List (List Int)} (s:Sct H H') (hb:∀q,bad' q->bad q) (h:FlV bad H v rs):FlV bad' H' v rs:=by
 obtain ⟨q,us,rfl,nb,g,r⟩:=h;exact ⟨q,us,rfl,λz=>nb (hb q z),s.lst g,TpL.on s.tup r⟩
theorem Sb2.to {H H':Hp} {x:V} {ls:List Int} {wt:Int} (s:Sct H H') (h:Sb2 H x ls wt):Sb2 H' x ls wt:=by
 obtain ⟨t,r,e,h1,h2⟩:=h;exact ⟨t,r,e,s.tup _ _ h1,s.tup _ _ h2⟩
noncomputable def NoB:S1->Prop:=λ_=>False
noncomputable def flL (S:Riv):List (List (List Int)):=(yav (S.c+1).toNat).map λk:Nat=>rnL S (k:Int)
structure Jzt (S:Riv):Prop where
 n4:S.Bs.length<=4
 lv:∀B∈S.Bs,(1<=lvN B/\lvN B<=13)/\0<=B.lo/\B.lo<=12
 c:0<=S.c/\S.c<=12
 rb:RnB S
structure Si6 (K:Sd) (a:Ad) (H:Hp) (s:S1) (S:Riv) (Gs:List Jnt) (sk:Option (List (Int×Int))):Prop where
 at_:∃(dx o L F:S1) (fs:List (Str×V)) (us vs:List V),H s=some (.ins a.Jmv dx fs)/\fs.lookup ("river" :Str)=some (.ref o)/\fs.lookup ("listed" :Str)=some (.ref L)/\fs.lookup ("falls" :Str)=some (.ref F)/\fs.lookup ("ends_by_rain" :Str)=none/\fs.lookup ("ends_by_place" :Str)=none/\RvX K a H o S Gs/\H L=some (.lst us)/\CcL H us (chL S sk)/\H F=some (.lst vs)/\Sa7 (FlV NoB) H vs (flL S)
 so:Jvg S sk
 s4:Jzt S
theorem Si6.same {K:Sd} {a:Ad} {H H':Hp} {s:S1} {S:Riv} {Gs:List Jnt} {sk:Option (List (Int×Int))} (m:Si H H') (h:Si6 K a H s S Gs sk):Si6 K a H' s S Gs sk:=by
 obtain ⟨⟨dx,o,L,F,fs,us,vs,g1,l1,l2,l3,l4,l5,rv,g2,cc,g3,fl⟩,so,s4⟩:=h;exact ⟨⟨dx,o,L,F,fs,us,vs,m _ _ g1,l1,l2,l3,l4,l5,rv.same m,m _ _ g2,CcL.on (λq xs e=>m _ _ e) cc,m _ _ g3,fl.imp λv a h=>h.to (.same m) λq z=>z⟩,so,s4⟩
inductive So0 (K:Sd) (a:Ad) (vs:List V) (H:Hp) (Q:VK) (z3:XK):Prop where
 |mk (s:S1) (S:Riv) (Gs:List Jnt) (sk:Option (List (Int×Int))) (x c:V) (ls cs:List Int) (wt:Int) (tv:V) (_:vs= [.ref s,x,c]) (_:Si6 K a H s S Gs sk) (_:StA H x S ls wt) (_:Yc6 S ls) (_:(0<=wt/\wt<=S.c)) (_:ChA H c S cs tv) (_:Sjn S cs) (_:∀(v:V) (H':Hp),Si H H'->Q v H')
inductive Snz (K:Sd) (a:Ad) (vs:List V) (H:Hp) (Q:VK) (z3:XK):Prop where
 |mk (s:S1) (S:Riv) (Gs:List Jnt) (sk:Option (List (Int×Int))) (x:V) (ls:List Int) (wt:Int) (_:vs= [.ref s,x]) (_:Si6 K a H s S Gs sk) (_:StA H x S ls wt) (_:Yc6 S ls) (_:(0<=wt/\wt<=S.c)) (_:∀(v:V) (H':Hp),Si H H'->Q v H')
theorem Yeg {S:Riv} {Gs:List Jnt} {ls cs rn:List Int} {tv:V} (hl:ls.length=S.Bs.length) (hg:Gs.length=S.Bs.length) (hc:cs.length=S.Bs.length) (hr:rn.length=S.Bs.length):(Jvi S Gs ls cs tv rn).length=S.Bs.length:=by
 have e1:(lft S ls tv).length=S.Bs.length:=by rw [Jyx];exact hl
 have e2:(Jvd S Gs ls cs tv).length=S.Bs.length:=by unfold Jvd;rw [Jsg (by omega) (by omega)];exact hg
 unfold Jvi;rw [Jtn (by omega) (by omega)];exact e1
theorem Sb7:Jne ["self","standing","choice","led"] ["self","standing","choice"] (Jnb (Jni (top 49) 2)):=%[|0]
theorem Jqn (T:Tx K mg a):So P w K mg base CX0 8 a.Jjn a.Jjo ["self","standing","choice"] (So0 K a):=by
 have Slp:=%[Ygh|1];have Sdc:=%[Jtw|1];refine %[T.Jda.fn.ok,Sb7|2]
 ·obtain ⟨s,S,Gs,sk,x,c,ls,cs,wt,tv,rfl,_⟩:=h;rfl
 ·obtain ⟨s,S,Gs,sk,x,c,ls,cs,wt,tv,rfl,sp,sa,lvi,hwt,ca,csi,k⟩:=h;refine ⟨?t,?B,?C⟩
  case B=>
   refine' Sw ?O0 ?O1
   case O0=>exact (Ju1 (i:=3) (N:=(["rain","standing","choice","self"]:List Str)) (ini:=[none,some 1,some 2,some 0]) Sb7.nd rfl (yf rfl) rfl (Jo8 (Jno Joe (Jnl (pv 0) (by rfl)) (Jno Jns (pv 1) Sr (λ_ _=>rfl)) (λ_ _=>rfl))) (λ_ _ _ _ _=>(Jnf (i:=0) (by decide +kernel:(["rain","standing","choice","self"]:List Str).Nodup) rfl (yf rfl))) (λ_ _ _ _ _=>Jnw) (λ_ _ _ _ _=>(Jna T.Js Slp hr (by decide) (pa4 (Jp3 (K:=K) rfl (pv 3) (by rfl)) (pv 1) (pv 2) (pv 0)))))
   case O1=>
   refine' Sy ?O2
   case O2=>exact (Jnh (Jnx (N:=(["end","self"]:List Str)) (ini:=[none,some 0]) rfl (Jo8 (pv 3)) (λ_ _ _ _ _=>(Jnf (i:=0) (by decide +kernel:(["end","self"]:List Str).Nodup) rfl (yf rfl))) (λ_ _ _ _ _=>Jnw) (λ_ _ _ _ _=>(Jx1 (Jo9 Yaw (pv 0) Jpp (Joc _)) Jpp (Jna T.Jq Sdc hr (by decide) (Sj (Jp3 (K:=K) rfl (pv 1) (by rfl)) (Sj (pv 0) Sk)))))))
  obtain ⟨⟨dx,o,L,F,fs,us,vs,g1,l1,l2,l3,l4,l5,rv,g2,cc,g3,fl⟩,so,s4⟩:=sp;obtain ⟨y,u,rfl,hy,hu,lu⟩:=id sa;obtain ⟨z,v,rfl,hz,hv,lv,tw⟩:=id ca;have ln:=rv.ln;have hc:=s4.c;obtain ⟨n,en⟩:∃n:Nat,wt=n:=⟨wt.toNat,by omega⟩;have hn:n < vs.length:=by rw [fl.1];unfold flL;rw [ye,ybn];omega
  obtain ⟨rs,er,q,ws,ev,_,hq,tp⟩:=fl.at (yh hn);have ers:rs=rnL S wt:=by
   unfold flL at er;rw [yi,ycd (by rw [fl.1] at hn;unfold flL at hn;rw [ye,ybn] at hn;exact hn)] at er;rw [en];exact (yz.inj er).symm
  rw [ers] at tp;have r6:=Ss0 (wet:=wt) s4.rb;have wl:=tp.1;refine ⟨_,rfl,s,_,dx,_,_,rfl,g1,T.Jec,T.Jg1,l3,_,rfl,y,_,1,_,rfl,rfl,Su.of hy,rfl,F,_,_,_,rfl,rfl,Ss.of g3,Jsx en (by rw [yh hn,ev]),q,rfl,⟨_,Ss.of hq⟩,λD hD=>?_⟩;refine Jq2 (K:=K) (xs:=ws) (λH v p=>Sm4 H v p) ((rnL S wt).map λrn=>Ycn S Gs ls cs wt tv rn) (λH H' v p f h=>?_) hD (by rw [ye,wl]) (by omega) hq ?_ ?_
  ·cases p with
   |none=>exact h
   |some p=>
    obtain ⟨t,r,e,h1,h2⟩:=h;exact ⟨t,r,e,f _ _ (.inr λ_ z=>by cases z) h1,f _ _ (.inr λ_ z=>by cases z) h2⟩
  ·intro i x' p H' Q' hx hp sm _ k';have hi:i < (rnL S wt).length:=by rw [<-wl];exact (yj.mp hx).1
   rw [yi,yh hi] at hp;cases hp;obtain ⟨ra,rfl,hra⟩:=tp.2 i x' _ hx (yh hi);have r6':=r6.2 _ (yaq hi);have rv2:=rv.same sm;exact ⟨_,rfl,s,_,dx,_,_,rfl,sm _ _ g1,T.Jec,T.Jfx,l1,_,rfl,_,rfl,_,rfl,o,ra,S,Gs,_,_,ls,cs,_,wt,tv,rfl,⟨rv2.ro,rv2.ti,rv2.gx,rv2.ln,sa.same sm,ca.same sm,sm _ _ hra,r6'.1,r6'.sml (by have:=s4.n4;omega),rv2.sets lu lv lvi csi,rv2.n1⟩,λy H5 s5 h5=>k' y H5 s5 h5⟩
  intro es H1 s1 hD1 rg;have el:=rg.1;rw [ye] at el;refine ⟨_,rfl,D,rfl,⟨_,Ss.of hD1⟩,λD2 hD2=>?_⟩;refine Jq2 (K:=K) (xs:=es) (λ_ _ (_:V)=>True) es (λ_ _ _ _ _ h=>h) hD2 rfl (by omega) hD1 ?_ λvs H2 s2 _ _=>k _ H2 (s1.trans s2);intro i x' _ H' Q' hx _ sm _ k';have hi:i < (rnL S wt).length:=by rw [<-el];exact (yj.mp hx).1
  have r6':=r6.2 _ (yaq hi);have ld:Sm4 H1 x' (Ycn S Gs ls cs wt tv (rnL S wt)[i]):=rg.2 i x' _ hx (by rw [yi,yh hi];rfl);have s1m:=s1.trans sm;cases el2:Ycn S Gs ls cs wt tv (rnL S wt)[i] with
  |none=>
   rw [el2] at ld;cases ld;exact ⟨_,rfl,rfl,_,rfl,Yak rfl (k' _ _ (Si.refl _) True.intro)⟩
  |some p=>
   rw [el2] at ld;have lb:Jvi S Gs ls cs tv (rnL S wt)[i]=p.1/\(Jq6 0 S.Bs (Jvi S Gs ls cs tv (rnL S wt)[i])).length=0:=by
    unfold Ycn at el2;split at el2
    ·rename_i hb
     cases el2;exact ⟨rfl,hb⟩
    ·cases el2
   have ll:=Yeg (ls:=ls) (cs:=cs) (tv:=tv) lu ln.symm lv r6'.1;have bi:=Sme lb.2;rw [lb.1] at ll bi;obtain ⟨t,r,rfl,h1,h2⟩:=id ld;refine ⟨_,rfl,rfl,_,rfl,Y9 (λz=>by cases z) ?_⟩;refine ⟨_,rfl,s,_,dx,_,_,rfl,s1m _ _ g1,T.Jec,T.Jfx,l1,_,rfl,o,S,_,p.1,p.2,rfl,(rv.same s1m).ro,Sb2.same sm ld,ll,s4.lv,λl hl=>?_,λH5 s5=>k' _ _ s5 True.intro⟩;obtain ⟨j,hj⟩:=ybk hl;have hj':j < S.Bs.length:=by rw [<-ll];exact (yj.mp hj).1
   have b1:=bi j l S.Bs[j] hj (yh hj');have b2:=rv.ok j S.Bs[j] (Gs[j]'(by omega)) (yh hj') (yh (by omega));omega
theorem Jql:Jne ["self","standing"] ["self","standing"] (Jnb (Jni (top 49) 1)):=%[|0]
theorem Jqg (T:Tx K mg a):So P w K mg base CX0 9 a.Jjl a.Jjm ["self","standing"] (Snz K a):=by
 have Sci:=%[Jqn|1];refine %[T.Jd9.fn.ok,Jql|2]
 ·obtain ⟨s,S,Gs,sk,x,ls,wt,rfl,_⟩:=h;rfl
 ·obtain ⟨s,S,Gs,sk,x,ls,wt,rfl,sp,sa,lvi,hwt,k⟩:=h;refine ⟨?t,?B,?C⟩
  case B=>
   refine' Sy ?O0
   case O0=>exact (Jnh (Jnx (N:=(["choice","standing","self"]:List Str)) (ini:=[none,some 1,some 0]) rfl (Jo8 (Jnl (pv 0) (by rfl))) (λ_ _ _ _ _=>(Jnf (i:=0) (by decide +kernel:(["choice","standing","self"]:List Str).Nodup) rfl (yf rfl))) (λ_ _ _ _ _=>Jnw) (λ_ _ _ _ _=>(Jw4 (pv 2) T.Jec T.Jef Sci (hr.mono (by decide)) T.Jda.bd .nil Jpa (Sj (pv 1) (Sj (pv 0) Sk))))))
  obtain ⟨⟨dx,o,L,F,fs,us,vs,g1,l1,l2,l3,l4,l5,rv,g2,cc,g3,fl⟩,so,s4⟩:=id sp;obtain ⟨_,_,_,os,ts,_,_,bl,_,tl,_,t3,_⟩:=id rv.ro;have cl:=Ybl (sk:=sk) s4.n4 bl.n4 t3;have ul:=cc.1;refine ⟨_,rfl,s,_,dx,_,_,rfl,g1,T.Jec,T.Jfz,l2,L,rfl,⟨_,Ss.of g2⟩,λD hD=>?_⟩;refine Jq2 (K:=K) (xs:=us) (λ_ _ (_:V)=>True) us (λ_ _ _ _ _ h=>h) hD rfl (by omega) g2 ?_ λds H1 s1 _ _=>k _ _ s1;intro i x' _ H' Q' hx _ sm _ k';have hi:i < (chL S sk).length:=by rw [<-ul];exact (yj.mp hx).1
  obtain ⟨t,q,rfl,h1,h2⟩:=cc.2 i x' _ hx (yh hi);obtain ⟨c1,c2,c3⟩:=Smh so (yaq hi);exact ⟨_,rfl,s,dx,fs,rfl,sm _ _ g1,l4,_,rfl,_,rfl,s,S,Gs,sk,x,_,ls,_,wt,_,rfl,sp.same sm,sa.same sm,lvi,hwt,⟨t,q,rfl,sm _ _ h1,sm _ _ h2,c1,c3⟩,c2,λv H5 s5=>k' v _ s5 True.intro⟩
noncomputable def sF1 (h:Int):List (Str×V):=[("heft",.int h)]
noncomputable def sF2 (h:Int) (o:S1):List (Str×V):=[("heft",.int h),("river",.ref o)]
noncomputable def sF3 (h:Int) (o rw:S1):List (Str×V):=[("heft",.int h),("river",.ref o),("row",.ref rw)]
noncomputable def sF4 (h:Int) (o rw L:S1):List (Str×V):=[("heft",.int h),("river",.ref o),("row",.ref rw),("listed",.ref L)]
noncomputable def sF5 (h:Int) (o rw L pl:S1):List (Str×V):=[("heft",.int h),("river",.ref o),("row",.ref rw),("listed",.ref L),("places",.ref pl)]
noncomputable def sF6 (h:Int) (o rw L pl F:S1):List (Str×V):=[("heft",.int h),("river",.ref o),("row",.ref rw),("listed",.ref L),("places",.ref pl),("falls",.ref F)]
noncomputable def Sjb (h:Int) (o rw L pl F en:S1):List (Str×V):=[("heft",.int h),("river",.ref o),("row",.ref rw),("listed",.ref L),("places",.ref pl),("falls",.ref F),("ends",.ref en)]
theorem qf2 (h:Int) (o:S1):Jom "river" (.ref o) (sF1 h)=sF2 h o:=Jo5 (show (["heft"]:List Str).contains "river" =false by decide +kernel)
theorem qf3 (h:Int) (o rw:S1):Jom "row" (.ref rw) (sF2 h o)=sF3 h o rw:=Jo5 (show (["heft","river"]:List Str).contains "row" =false by decide +kernel)
theorem qf4 (h:Int) (o rw L:S1):Jom "listed" (.ref L) (sF3 h o rw)=sF4 h o rw L:=Jo5 (show (["heft","river","row"]:List Str).contains "listed" =false by decide +kernel)
theorem qf5 (h:Int) (o rw L pl:S1):Jom "places" (.ref pl) (sF4 h o rw L)=sF5 h o rw L pl:=Jo5 (show (["heft","river","row","listed"]:List Str).contains "places" =false by decide +kernel)
theorem qf6 (h:Int) (o rw L pl F:S1):Jom "falls" (.ref F) (sF5 h o rw L pl)=sF6 h o rw L pl F:=Jo5 (show (["heft","river","row","listed","places"]:List Str).contains "falls" =false by decide +kernel)
theorem qf7 (h:Int) (o rw L pl F en:S1):Jom "ends" (.ref en) (sF6 h o rw L pl F)=Sjb h o rw L pl F en:=Jo5 (show (["heft","river","row","listed","places","falls"]:List Str).contains "ends" =false by decide +kernel)
noncomputable abbrev StR:Hp->V->List Int×Int->Prop:=λH v p=>Sb2 H v p.1 p.2
inductive Se5 (K:Sd) (a:Ad) (H:Hp) (s:S1) (S:Riv) (Gs:List Jnt) (sk:Option (List (Int×Int))):Prop where
 |mk (dx o rw L pl F en:S1) (rs us vs:List V) (_:H s=some (.ins a.Jmv dx (Sjb (wgN S sk) o rw L pl F en))) (_:RvX K a H o S Gs) (_:H rw=some (.lst rs)) (_:Sa7 StR H rs (stL S)) (_:H L=some (.lst us)) (_:CcL H us (chL S sk)) (_:H F=some (.lst vs)) (_:Sa7 (FlV NoB) H vs (flL S))
theorem Se5.same {K:Sd} {a:Ad} {H H':Hp} {s:S1} {S:Riv} {Gs:List Jnt} {sk:Option (List (Int×Int))} (m:Si H H') (h:Se5 K a H s S Gs sk):Se5 K a H' s S Gs sk:=by
 obtain ⟨dx,o,rw_,L,pl,F,en,rs,us,vs,h1,h2,h3,h4,h5,h6,h7,h8⟩:=h;exact ⟨dx,o,rw_,L,pl,F,en,rs,us,vs,m _ _ h1,h2.same m,m _ _ h3,h4.imp λv p q=>Sb2.same m q,m _ _ h5,CcL.on (λq xs e=>m _ _ e) h6,m _ _ h7,h8.imp λv p q=>q.to (.same m) λ_ z=>z⟩
structure Shv (K:Sd) (a:Ad) (H:Hp) (o:S1) (S:Riv) (Gs:List Jnt) (x:V) (sk:Option (List (Int×Int))):Prop where
 rv:RvX K a H o S Gs
 sa:Sdd H x sk
 so:Jvg S sk
 s4:Jzt S
 wg:wgN S sk<=4000
 st:stN S<=2000
theorem Shv.same {K:Sd} {a:Ad} {H H':Hp} {o:S1} {S:Riv} {Gs:List Jnt} {x:V} {sk:Option (List (Int×Int))} (m:Si H H') (h:Shv K a H o S Gs x sk):Shv K a H' o S Gs x sk:=⟨h.rv.same m,h.sa.same m,h.so,h.s4,h.wg,h.st⟩
inductive Sof (K:Sd) (a:Ad) (vs:List V) (H:Hp) (Q:VK) (z3:XK):Prop where
 |mk (p dx o:S1) (H0:Hp) (S:Riv) (Gs:List Jnt) (x:V) (sk:Option (List (Int×Int))) (_:vs= [.ref p,.ref o,x]) (_:H0 p=none) (_:Si H0 H) (_:H p=some (.ins a.Jmv dx [])) (_:Shv K a H0 o S Gs x sk) (_:∀H',Si H0 H'->Se5 K a H' p S Gs sk->Q .non H')
theorem Jyz {α β:Type} {f:α->β} (inj:∀x y,f x=f y->x=y) {l:List α} (h:l.Nodup):(l.map f).Nodup:=List.pairwise_map.mpr (h.imp λhne e=>hne (inj _ _ e))
theorem Sn4 {rs:List (List Int)} {ns:List Int} (h1:rs.Nodup) (h2:ns.Nodup):(lgR rs ns).Nodup:=by
 unfold lgR
 induction rs with
 |nil=>exact List.nodup_nil
 |cons r rs ih=>
  rw [ybq] at h1;rw [ycu,List.nodup_append];refine ⟨?_,ih h1.2,?_⟩
  ·exact Jyz (λx y e=>by simpa using e) h2
  ·intro x hx y hy e;obtain ⟨n,_,rfl⟩:=yn.mp hx;obtain ⟨r',hr',hy⟩:=ycr.mp hy;obtain ⟨n',_,rfl⟩:=yn.mp hy;have:r=r':=by simpa using (List.append_inj' e rfl).1
   exact h1.1 (this▸hr')
theorem Yeu (n:Nat):(rgI n).Nodup:=Jyz (λx y e=>Int.ofNat.inj e) List.nodup_range
theorem Yg9 (R:Riv) (sk:Option (List (Int×Int))):∀r∈Jpc R sk,r.Nodup:=by
 have go:∀(l:List (Int×Int)) (rs:List (List Int)),(∀r∈rs,r.Nodup)->∀r∈l.foldl (λrs p=>rs.set p.1.toNat [p.2]) rs,r.Nodup:=by
  intro l
  induction l with
  |nil=>exact λrs h=>h
  |cons p l ih=>
   refine λrs h=>ih _ λr hr=>?_;rcases ycp hr with q|rfl
   ·exact h r q
   ·simp
 refine go _ _ λr hr=>?_;obtain ⟨B,_,rfl⟩:=yn.mp hr;exact Yeu _
theorem Snq (R:Riv) (sk:Option (List (Int×Int))):∀i,i<=R.Bs.length->(rwN R sk i).Nodup:=by
 intro i
 induction i with
 |zero=>exact λ_=>by simp [rwN]
 |succ i ih=>
  intro h;have ll:=Jun R sk;have er:(Jpc R sk)[i]?=some ((Jpc R sk)[i]'(by omega)):=yh _;rw [Ju2 er];exact Sn4 (ih (by omega)) (Yg9 R sk _ (yaq _))
theorem Smi (R:Riv) (sk:Option (List (Int×Int))):(chL R sk).Nodup:=by
 have h:=Snq R sk R.Bs.length (yg _);have ht:(twL R).Nodup:=by
  unfold twL;rw [ybq];refine ⟨λz=>?_,Jyz (λx y e=>by simpa using e) (Yeu _)⟩;obtain ⟨n,_,e⟩:=yn.mp z;cases e
 unfold chL;generalize rwN R sk R.Bs.length=rs at h
 induction rs with
 |nil=>exact List.nodup_nil
 |cons r rs ih=>
  rw [ybq] at h;rw [ycu,List.nodup_append];refine ⟨Jyz (λx y e=>by simpa using e) ht,ih h.2,?_⟩;intro x hx y hy e;obtain ⟨n,_,rfl⟩:=yn.mp hx;obtain ⟨r',hr',hy⟩:=ycr.mp hy;obtain ⟨n',_,rfl⟩:=yn.mp hy;have:r=r':=congrArg (·.1) e;exact h.1 (this▸hr')
theorem Jrm:Jne ["self","river","stuck"] ["self","river","stuck"] (Jnb (Jni (top 49) 0)):=%[|0]
theorem Jts (T:Tx K mg a):So P w K mg base CX0 10 a.Jjj a.Jjk ["self","river","stuck"] (Sof K a):=by
 have Sg3:=%[Yl|1];have Sf2:=%[Jvp|1];have Sbn:=%[Jqq|1];have Sfh:=%[Jwy|1];have Sfd:=%[Jwr|1];have Sh3:=%[Yk|1];have Scd:=%[Jqg|1];refine %[T.Jd8.fn.ok,Jrm|2]
 ·obtain ⟨p,dx,o,H0,S,Gs,x,sk,rfl,_⟩:=h;rfl
 ·obtain ⟨p,dx,o,H0,S,Gs,x,sk,rfl,np,s0,hp,si,k⟩:=h;have hu64:=Jtp hr;refine ⟨?t,?B,?C⟩
  case B=>
   refine' Sw ?O0 ?O1
   case O0=>exact (Jod (pv 0) (Jna T.Jl Sg3.calm hr (by decide) (Sj (pv 1) (Sj (pv 2) Sk))) rfl)
   case O1=>
   refine' Sw ?O2 ?O3
   case O2=>exact (Jp5 (Jna T.Jm Sf2.calm hr (by decide) (Sj (Jnl (pv 0) (by rfl)) Sk)))
   case O3=>
   refine' Sw ?O4 ?O5
   case O4=>exact (Jod (pv 0) (pv 1) rfl)
   case O5=>
   refine' Sw ?O6 ?O7
   case O6=>exact (Jod (pv 0) (Jnx (N:=(["number","river"]:List Str)) (ini:=[none,some 1]) rfl (Jpe (by rfl) T.Jb2 (Sj (Jna T.Ji Sbn hr (by decide) (Sj (pv 1) Sk)) Sk)) (λ_ _ _ _ _=>(Jnf (i:=0) (by decide +kernel:(["number","river"]:List Str).Nodup) rfl (yf rfl))) (λ_ _ _ _ _=>Jnw) (λ_ _ _ _ _=>(Jna T.Jr Sfh hr (by decide) (Sj (pv 1) (Sj (pv 0) Sk))))) rfl)
   case O7=>
   refine' Sw ?O8 ?O9
   case O8=>exact (Jod (pv 0) (Jna T.Jo Sfd hr (by decide) (Sj (pv 1) (Sj (pv 2) Sk))) rfl)
   case O9=>
   refine' Sw ?Oa ?Ob
   case Oa=>exact (Jod (pv 0) (Jny (Yae rfl hu64) (by rfl) T.Jau Ybj (Sj (Jnx (N:=(["place","choice"]:List Str)) (ini:=[none,none]) rfl (Jw5 (by rfl) T.Jav (Sj (Jnl (pv 0) (by rfl)) Sk)) (λ_ _ _ _ _=>(Jra (K:=K) (n:=2) rfl rfl (Jnq (Jnf (i:=0) (by decide +kernel:(["place","choice"]:List Str).Nodup) rfl (yf rfl)) (Jnq (Jnf (i:=1) (by decide +kernel:(["place","choice"]:List Str).Nodup) rfl (yf rfl)) Jp4)))) (λ_ _ _ _ _=>Jnw) (λ_ _ _ _ _=>(Jnz (Sj (pv 1) (Sj (pv 0) Sk))))) Sk)) rfl)
   case Ob=>
   refine' Sw ?Oc ?Od
   case Oc=>exact (Jod (pv 0) (Jnx (N:=(["wet","river"]:List Str)) (ini:=[none,some 1]) rfl (Jpe (by rfl) T.Jb2 (Sj (Jnj Jnv (Jnl (pv 1) (by rfl)) Sr) Sk)) (λ_ _ _ _ _=>(Jnf (i:=0) (by decide +kernel:(["wet","river"]:List Str).Nodup) rfl (yf rfl))) (λ_ _ _ _ _=>Jnw) (λ_ _ _ _ _=>(Jna T.Jp Sh3 hr (by decide) (Sj (pv 1) (Sj (pv 0) Sk))))) rfl)
   case Od=>
   refine' Sy ?Oe
   case Oe=>exact (Jod (pv 0) (Jnx (N:=(["standing","self"]:List Str)) (ini:=[none,some 0]) rfl (Jo8 (Jnl (pv 0) (by rfl))) (λ_ _ _ _ _=>(Jnf (i:=0) (by decide +kernel:(["standing","self"]:List Str).Nodup) rfl (yf rfl))) (λ_ _ _ _ _=>Jnw) (λ_ _ _ _ _=>(Jw4 (pv 1) T.Jec T.Jee Scd (hr.mono (by decide)) T.Jd9.bd .nil Jpa (Sj (pv 0) Sk)))) rfl)
  have new:∀{Ha:Hp} {ob:HO},Si H0 Ha->Si H0 (upd Ha p ob):=λs b oo e=>by rw [Jnc (Jnd e np)];exact s _ _ e
  have d2:∀{Ha:Hp} {C d:S1} {f:List (Str×V)} {ob:HO},Ha p=some (.ins C d f)->Sct Ha (upd Ha p ob):=λ{Ha C d f ob} g q oo n e=>by
   rw [Jnc (λz=>by rw [z,g] at e;exact n _ _ _ (yz.inj e).symm)];exact e
  have s4:=si.s4;have hc:=s4.c;have lv1:∀B∈S.Bs,1<=lvN B:=λB hB=>(s4.lv B hB).1.1;have st0:=Jzm S lv1 hc.1;have stb:=si.st;have i0:=si.same s0;refine ⟨_,rfl,_,rfl,o,S,x,sk,rfl,i0.rv.ro,i0.sa,si.so,s4.n4,λB hB=>⟨by have:=lv1 B hB;omega,(s4.lv B hB).1.2⟩,hc,λH1 s1=>?_⟩;have p1:=s1 _ _ hp;have h1:=s0.trans s1;refine ⟨_,rfl,p,_,dx,_,rfl,p1,T.Jec,T.Jfw,by simp,?_⟩;refine ⟨_,rfl,p,_,dx,_,_,rfl,Sn,T.Jec,T.Jfw,rfl,_,rfl,si.wg,?_⟩;refine ⟨_,rfl,_,rfl,p,_,dx,_,rfl,Sn,T.Jec,T.Jfx,by simp [Jom],?_⟩;rw [Jp8];rw [show Jom "river" (V.ref o) (Jom "heft" (V.int (wgN S sk)) [])=sF2 (wgN S sk) o from qf2 _ _];have h2:Si H0 (upd H1 p (.ins a.Jmv dx (sF2 (wgN S sk) o))):=new h1;have g2:=Sn (H:=H1) (a:=p) (o:=.ins a.Jmv dx (sF2 (wgN S sk) o));generalize upd H1 p (.ins a.Jmv dx (sF2 (wgN S sk) o))=H2 at*;have i2:=si.same h2;refine ⟨_,rfl,o,S,rfl,i2.rv.ro,λB hB=>⟨by have:=lv1 B hB;omega,ybf (s4.lv B hB).1.2 (by decide)⟩,hc,λH3 s3=>?_⟩;have g3:=s3 _ _ g2;have h3:=h2.trans s3;refine ⟨_,rfl,by omega,by omega,λD hD=>?_⟩;refine Jr2 StR (stL S) (λH H' v q f h=>?_) hD (by omega) (by omega) ?_ ?_
  ·obtain ⟨t,r,e,h1,h2⟩:=h;exact ⟨t,r,e,f _ _ (.inr λ_ z=>by cases z) h1,f _ _ (.inr λ_ z=>by cases z) h2⟩
  ·intro i y H' Q' hy sm _ k';have hi:i < (stL S).length:=(yj.mp hy).1;rw [(Jzl lv1 hc.1 hi).1] at hy;cases hy;rw [Int.zero_add];exact ⟨_,rfl,_,rfl,o,S,(i:Int),rfl,(si.same (h3.trans sm)).rv.ro,λB hB=>(s4.lv B hB).1,hc,λy H5 s5 h5=>k' y H5 s5 h5⟩
  intro rs H4 s34 hD4 rg;have g4:=s34 _ _ g3;have h4:=h3.trans s34;refine ⟨_,rfl,p,_,dx,_,rfl,g4,T.Jec,T.Jfy,by simp [sF2],?_⟩;rw [qf3];have h5:Si H0 (upd H4 p (.ins a.Jmv dx (sF3 (wgN S sk) o D))):=new h4;have f5:Sct H4 (upd H4 p (.ins a.Jmv dx (sF3 (wgN S sk) o D))):=d2 g4;have g5:=Sn (H:=H4) (a:=p) (o:=.ins a.Jmv dx (sF3 (wgN S sk) o D));generalize upd H4 p (.ins a.Jmv dx (sF3 (wgN S sk) o D))=H5 at*;have i5:=si.same h5;refine ⟨_,rfl,_,rfl,o,S,x,sk,rfl,i5.rv.ro,i5.sa,si.so,s4.n4,λL us H6 hL s6 hL6 cc=>?_⟩;have g6:=s6 _ _ g5;have h6:=h5.trans s6;refine ⟨_,rfl,p,_,dx,_,rfl,g6,T.Jec,T.Jfz,by simp [sF3],?_⟩;rw [qf4];have h7:Si H0 (upd H6 p (.ins a.Jmv dx (sF4 (wgN S sk) o D L))):=new h6;have f7:Sct H6 (upd H6 p (.ins a.Jmv dx (sF4 (wgN S sk) o D L))):=d2 g6;have g7:=Sn (H:=H6) (a:=p) (o:=.ins a.Jmv dx (sF4 (wgN S sk) o D L));generalize upd H6 p (.ins a.Jmv dx (sF4 (wgN S sk) o D L))=H7 at*;have f57:Sct H4 H7:=λq ob n e=>f7 q ob n (s6 _ _ (f5 q ob n e));have hL7:=f7.lst hL6;have cc7:=CcL.on f7.tup cc;have ul:=cc7.1;obtain ⟨_,_,_,_,_,_,_,bl,_,tl,_,t3,_⟩:=id si.rv.ro;have cl:=Ybl (sk:=sk) s4.n4 bl.n4 t3;refine ⟨_,rfl,p,_,dx,_,_,rfl,g7,T.Jec,T.Jfz,rfl,L,rfl,⟨_,Ss.of hL7⟩,λD2 hD2=>?_⟩;refine Ydl (K:=K) (a:=L) (xs:=us) (D:=D2) (λi σ H'=>(∃o1 o2,σ= [o1,o2])/\∃(ts:List V) (kvs:List (Jpm×S1×Int)),H' D2=some (.lst ts)/\ts.length=i/\kvs.map (·.1)=(chL S sk).take i/\Ydf H' ts kvs/\Si H7 H') ⟨⟨_,_,rfl⟩,[],[],Sn,rfl,rfl,.nil,Si.upd hD2⟩ (λi σ H' _ ⟨_,_,_,_,_,_,_,sm⟩=>Ss.of (sm _ _ hL7)) ?_ ?_
  ·rintro i x' σ H' Ta hx ⟨⟨o1,o2,rfl⟩,ts,kvs,hDs,tl,ek,pc,sm⟩ hT;have hi:i < us.length:=(yj.mp hx).1;have ec:(chL S sk)[i]?=some ((chL S sk)[i]'(by omega)):=yh _;generalize (chL S sk)[i]'(by omega)=c at ec;obtain ⟨t,q,rfl,e1,e2⟩:=cc7.2 i x' c hx ec;have sT:=Si.upd (o:=.tup [.int i,.ref t]) hT;refine ⟨Ta,_,rfl,Su.of Sn,rfl,_,_,rfl,_,_,rfl,rfl,?_⟩;refine ⟨_,rfl,_,rfl,(show 2<=S6 by decide),λT2 hT2=>?_⟩;have sT2:=sT.trans (Si.upd (o:=.tup [.ref t,.int i]) hT2);have f8:=OnD.grow (zs:=ts++ [.ref T2]) (sT2 _ _ hDs);refine ⟨ts,sT2 _ _ hDs,Jo6 (by omega),⟨_,_,rfl⟩,ts++ [.ref T2],kvs++ [(c,t,(i:Int))],Sn,by rw [yab,tl];rfl,by rw [yag,ek,yr,ec];rfl,?_,λb u e=>?_⟩
   ·have tk:∀b xs,H' b=some (.tup xs)->upd (upd (upd H' Ta (.tup [.int i,.ref t])) T2 (.tup [.ref t,.int i])) D2 (.lst (ts++ [.ref T2])) b=some (.tup xs):=λb xs e=>f8 b _ (.inr λ_ z=>by cases z) (sT2 _ _ e);refine Paired.snoc (Paired.imp' (λv e h=>?_) pc) ⟨T2,rfl,f8 _ _ (.inr λ_ z=>by cases z) Sn,q,?_,tk _ _ (sm _ _ e2)⟩
    ·obtain ⟨T3,rfl,h1,b,h2,h3⟩:=h;exact ⟨T3,rfl,tk _ _ h1,b,tk _ _ h2,tk _ _ h3⟩
    ·have e:tnV c.2=twV c.2:=by cases c.2 <;> rfl
     show _=some (HO.tup [.ref q,tnV c.2]);rw [e];exact tk _ _ (sm _ _ e1)
   ·rw [Jnc (Jnd e hD2)];exact sT2 _ _ (sm _ _ e)
  rintro σ H8 ⟨_,ts,kvs,hDs,tl,ek,pc,s78⟩;rw [yad (by omega)] at ek;have kl:kvs.length=(chL S sk).length:=by rw [<-ek,ye]
  refine ⟨D2,ts,kvs,rfl,hDs,pc,by omega,by rw [ek];exact Smi S sk,λpl hpl=>?_⟩;generalize DC _ _ pl kvs=dc;have s89:=Si.upd (o:=dc) hpl;have s79:=s78.trans s89;have g9:=s79 _ _ g7;have h9:=h7.trans s79;refine ⟨_,rfl,p,_,dx,_,rfl,g9,T.Jec,T.Jg0,by simp [sF4],?_⟩;rw [qf5];have h10:Si H0 (upd (upd H8 pl dc) p (.ins a.Jmv dx (sF5 (wgN S sk) o D L pl))):=new h9;have f9:Sct (upd H8 pl dc) (upd (upd H8 pl dc) p (.ins a.Jmv dx (sF5 (wgN S sk) o D L pl))):=d2 g9;have f10:Sct H7 (upd (upd H8 pl dc) p (.ins a.Jmv dx (sF5 (wgN S sk) o D L pl))):=λq ob n e=>f9 q ob n (s79 _ _ e);have g10:=Sn (H:=upd H8 pl dc) (a:=p) (o:=.ins a.Jmv dx (sF5 (wgN S sk) o D L pl));clear f9 g9 h9 s79 s89 hpl;generalize upd (upd H8 pl dc) p (.ins a.Jmv dx (sF5 (wgN S sk) o D L pl))=H10 at*;obtain ⟨dxr,b,t,os,ts',ho,hb,bl10,ht,tl10,_,_,_⟩:=id (si.same h10).rv.ro;refine ⟨_,rfl,o,_,dxr,_,_,rfl,ho,T.Jfe,T.Jgh,rfl,_,_,rfl,rfl,_,rfl,by omega,by omega,λD3 hD3=>?_⟩;refine Jr2 (FlV λq=>q=D3) (flL S) (FlV.mn rfl) hD3 (by unfold flL;rw [ye,ybn]) (by omega) ?_ ?_
  ·rintro i y H' Q' hy sm ⟨ds,hDs'⟩ k';have hi:i < (S.c+1).toNat:=by
    have:=(yj.mp hy).1;unfold flL at this;rw [ye,ybn] at this;exact this
   unfold flL at hy;rw [yi,ycd hi] at hy;cases hy;rw [Int.zero_add];refine ⟨_,rfl,_,rfl,o,S,(i:Int),rfl,(si.same (h10.trans sm)).rv.ro,s4.rb,λL' us' H5 hL' s5 g5 tp=>k' _ _ s5 ⟨L',us',rfl,λz=>?_,g5,tp⟩⟩;rw [z,hDs'] at hL';cases hL'
  intro vs H11 s1011 hD11 fl;have g11:=s1011 _ _ g10;have h11:=h10.trans s1011;refine ⟨_,rfl,p,_,dx,_,rfl,g11,T.Jec,T.Jg1,by simp [sF5],?_⟩;rw [qf6];have h12:Si H0 (upd H11 p (.ins a.Jmv dx (sF6 (wgN S sk) o D L pl D3))):=new h11;have f12:Sct H11 (upd H11 p (.ins a.Jmv dx (sF6 (wgN S sk) o D L pl D3))):=d2 g11;have g12:=Sn (H:=H11) (a:=p) (o:=.ins a.Jmv dx (sF6 (wgN S sk) o D L pl D3));generalize upd H11 p (.ins a.Jmv dx (sF6 (wgN S sk) o D L pl D3))=H12 at*;have f712:Sct H7 H12:=λq ob n e=>f12 q ob n (s1011 _ _ (f10 q ob n e));have f412:Sct H4 H12:=λq ob n e=>f712 q ob n (f57 q ob n e);have hD12:=f412.lst hD4;have rg12:Sa7 StR H12 rs (stL S):=rg.imp λv q h=>Sb2.to f412 h;have hL12:=f712.lst hL7;have cc12:=CcL.on f712.tup cc7;have hF12:=f12.lst hD11;have fl12:Sa7 (FlV NoB) H12 vs (flL S):=fl.imp λv q h=>FlV.to (bad':=NoB) f12 (λ_ z=>z.elim) h;have sp12:Si6 K a H12 p S Gs sk:=⟨⟨dx,o,L,D3,_,us,vs,g12,rfl,rfl,rfl,rfl,rfl,(si.same h12).rv,hL12,cc12,hF12,fl12⟩,si.so,s4⟩;have rl:=rg12.1;refine ⟨_,rfl,p,_,dx,_,_,rfl,g12,T.Jec,T.Jfy,rfl,D,rfl,⟨_,Ss.of hD12⟩,λD4 hD4'=>?_⟩;refine Jq2 (K:=K) (xs:=rs) (λ_ _ (_:V)=>True) rs (λ_ _ _ _ _ h=>h) hD4' rfl (by omega) hD12 ?_ ?_
  ·intro i x' _ H' Q' hx _ sm _ k';have hi:i < (stL S).length:=by rw [<-rl];exact (yj.mp hx).1
   have es:=(Jzl lv1 hc.1 hi).1;have sd:=rg12.2 i x' _ hx es;obtain ⟨t1,r1,rfl,e1,e2⟩:=id sd;have m1:=ybd (i:Int) (show S.c+1≠0 by omega);have m2:=ybe (i:Int) (show 0 < S.c+1 by omega);exact ⟨_,rfl,p,dx,_,rfl,sm _ _ g12,rfl,_,rfl,p,S,Gs,sk,_,_,_,rfl,sp12.same sm,⟨t1,r1,rfl,sm _ _ e1,sm _ _ e2,Ju9 S i _ (yg _)⟩,λj n B q1 q2=>Yff lv1 S.Bs.length (yg _) j n B q1 q2,⟨m1,by omega⟩,λv H5 s5=>k' v H5 s5 True.intro⟩
  intro es H13 s13 hD13 _;have g13:=s13 _ _ g12;refine ⟨_,rfl,p,_,dx,_,rfl,g13,T.Jec,T.Jg2,by simp [sF6],?_⟩;rw [qf7];have f14:Sct H13 (upd H13 p (.ins a.Jmv dx (Sjb (wgN S sk) o D L pl D3 D4))):=d2 g13;have f1214:Sct H12 (upd H13 p (.ins a.Jmv dx (Sjb (wgN S sk) o D L pl D3 D4))):=λq ob n e=>f14 q ob n (s13 _ _ e);have h14:Si H0 (upd H13 p (.ins a.Jmv dx (Sjb (wgN S sk) o D L pl D3 D4))):=new (h12.trans s13);exact k _ h14 ⟨dx,o,D,L,pl,D3,D4,rs,us,vs,Sn,(si.same h14).rv,f1214.lst hD12,rg12.imp λv q h=>Sb2.to f1214 h,f1214.lst hL12,CcL.on f1214.tup cc12,f1214.lst hF12,fl12.imp λv q h=>FlV.to f1214 (λ_ z=>z) h⟩
theorem Ssv:∀{ls:List Int} {Bs:List Bsn},ls.length=Bs.length->(∀(i:Nat) (n:Int) (B:Bsn),ls[i]?=some n->Bs[i]?=some B->B.lo<=n/\n<=B.hi)->(wl (ls.map V.int) (Bs.map (·.lo)) (Bs.map (·.hi))).all id=true:=by
 intro ls
 induction ls with
 |nil=>exact λ_ _=>rfl
 |cons l ls ih=>
  intro Bs e h;cases Bs with
  |nil=>simp at e
  |cons B Bs=>
   have q:=h 0 l B rfl rfl;show ((decide (B.lo<=l)&&decide (l<=B.hi))&&(wl (ls.map V.int) (Bs.map (·.lo)) (Bs.map (·.hi))).all id)=true;rw [decide_eq_true q.1,decide_eq_true q.2,ih (by simpa using e) λi n B e1 e2=>h (i+1) n B (by simpa using e1) (by simpa using e2)];rfl
theorem Ssg {S:Riv} {ls:List Int} {wt:Int} {u:V} (hl:ls.length=S.Bs.length) (lvi:Yc6 S ls) (hw:0<=wt/\wt<=S.c):stB S (.two u (.int wt) (some (ls.map V.int)))=true:=by
 show ((decide (0<=wt)&&decide (wt<=S.c))&&(decide ((ls.map V.int).length=(S.Bs.map (·.lo)).length)&&(wl (ls.map V.int) (S.Bs.map (·.lo)) (S.Bs.map (·.hi))).all id))=true;rw [decide_eq_true hw.1,decide_eq_true hw.2,decide_eq_true (by rw [ye,ye];exact hl),Ssv hl lvi];rfl
inductive Yhb (K:Sd) (a:Ad) (vs:List V) (H:Hp) (Q:VK) (z3:XK):Prop where
 |mk (s:S1) (S:Riv) (Gs:List Jnt) (sk:Option (List (Int×Int))) (_:vs= [.ref s]) (_:Se5 K a H s S Gs sk) (_:Q (.int ((stL S).length:Nat)) H)
inductive Sog (K:Sd) (a:Ad) (vs:List V) (H:Hp) (Q:VK) (z3:XK):Prop where
 |mk (s:S1) (S:Riv) (Gs:List Jnt) (sk:Option (List (Int×Int))) (_:vs= [.ref s]) (_:Se5 K a H s S Gs sk) (_:Q (.int (wgN S sk)) H)
inductive Yh6 (K:Sd) (a:Ad) (vs:List V) (H:Hp) (Q:VK) (E:XK):Prop where
 |mk (s:S1) (S:Riv) (Gs:List Jnt) (sk:Option (List (Int×Int))) (x:V) (_:vs= [.ref s,x]) (_:Se5 K a H s S Gs sk) (_:Jzt S) (_:((∃ls wt,StA H x S ls wt/\Yc6 S ls/\(0<=wt/\wt<=S.c)/\∀H',Si H H'->Q (.int (nbF S ls wt S.Bs.length).1) H')\/∃r,PrT K H x r/\stB S r=false/\∀cl eo H',RfC a.Jmr H H' x cl eo->E cl eo H'))
inductive Yhd (K:Sd) (a:Ad) (vs:List V) (H:Hp) (Q:VK) (E:XK):Prop where
 |mk (s:S1) (S:Riv) (Gs:List Jnt) (sk:Option (List (Int×Int))) (x:V) (_:vs= [.ref s,x]) (_:Se5 K a H s S Gs sk) (_:Tm K H x) (_:((∃(n:Nat) (p:List Int×Int),x= .int n/\(stL S)[n]?=some p/\∀v,Sb2 H v p.1 p.2->Q v H)\/(Jnp x 0 (((stL S).length:Nat) - 1)=false/\∀cl eo H',RfC a.Jmt H H' x cl eo->E cl eo H')))
inductive Snv (K:Sd) (a:Ad) (vs:List V) (H:Hp) (Q:VK) (z3:XK):Prop where
 |mk (o:S1) (S:Riv) (_:vs= [.ref o]) (_:Sal K a H o S) (_:∀x H',Si H H'->Sb2 H' x (S.Bs.map (·.st)) S.c->Q x H')
theorem Ju5:Jne ["self"] ["self"] (Jnb (Jni (top 49) 3)):=%[|0]
theorem Jtt (T:Tx K mg a):So P w K mg base CX0 1 a.Jjp a.Jjq ["self"] (Yhb K a):=by
 refine %[T.Jdb.fn.ok,Ju5|2]
 ·obtain ⟨s,S,Gs,sk,rfl,_⟩:=h;rfl
 ·obtain ⟨s,S,Gs,sk,rfl,⟨dx,o,rw_,L,pl,F,en,rs,us,vs,h1,h2,h3,h4,h5,h6,h7,h8⟩,k⟩:=h;refine ⟨?t,?B,?C⟩
  case B=>
   refine' Sy ?O0
   case O0=>exact (Jnh (Jng Jnm (by rfl) T.Jay Joh (Sj (Jnl (pv 0) (by rfl)) Sk)))
  rw [<-h4.1] at k;exact ⟨_,rfl,s,_,dx,_,_,rfl,h1,T.Jec,T.Jfy,rfl,rw_,_,rfl,.inl (Ss.of h3),k⟩
theorem Jsq:Jne ["self"] ["self"] (Jnb (Jni (top 49) 4)):=%[|0]
theorem Jsk (T:Tx K mg a):So P w K mg base CX0 1 a.Jjr a.Jjs ["self"] (Sog K a):=by
 refine %[T.Jdc.fn.ok,Jsq|2]
 ·obtain ⟨s,S,Gs,sk,rfl,_⟩:=h;rfl
 ·obtain ⟨s,S,Gs,sk,rfl,⟨dx,o,rw_,L,pl,F,en,rs,us,vs,h1,h2,h3,h4,h5,h6,h7,h8⟩,k⟩:=h;refine ⟨?t,?B,?C⟩
  case B=>
   refine' Sy ?O0
   case O0=>exact (Jnh (Jnl (pv 0) (by rfl)))
  exact ⟨_,rfl,s,_,dx,_,_,rfl,h1,T.Jec,T.Jfw,rfl,k⟩
theorem Jrd:Jne ["self","standing"] ["self","standing"] (Jnb (Jni (top 49) 7)):=%[|0]
theorem Jpz (T:Tx K mg a):So P w K mg base (CXX P w) 4 a.Jjt a.Jju ["self","standing"] (Yh6 K a):=by
 have Sff:=%[Jwu|1];have Sdc:=%[Jtw|1];have Sd2:=%[Jt2|1];refine %[T.Jdd.fn.okX,Jrd|2]
 ·obtain ⟨s,S,Gs,sk,x,rfl,_⟩:=h;rfl
 ·obtain ⟨s,S,Gs,sk,x,rfl,⟨dx,o,rw_,L,pl,F,en,rs,us,vs,h1,rv,h3,h4,h5,h6,h7,h8⟩,s4,k⟩:=h;refine ⟨?t,?B,?C⟩
  case B=>
   refine' Sw ?O0 ?O1
   case O0=>
    refine' Jo1 ?O2 ?O3 ?O4
    case O2=>exact (Jo0 (Jo2 (Jna T.J5 Sff hr (by decide) (Sj (Jnl (pv 0) (by rfl)) (Sj (pv 1) Sk)))))
    case O3=>
     refine' Sy ?O5
     case O5=>exact (Jog Jol rfl (Jp2 T.Je4 Sd2 hr (by decide) T.Jd3.bd T.Jbi (Sj (pv 1) Sk)))
    case O4=>exact Jnn
   case O1=>
   refine' Sy ?O6
   case O6=>exact (Jnh (Jna T.Jq Sdc hr (by decide) (Sj (Jnl (pv 0) (by rfl)) (Sj (pv 1) Sk))))
  rcases k with ⟨ls,wt,sa,lvi,hw,k⟩|⟨r,pr,er,k⟩
  ·obtain ⟨y,u,rfl,hy,hu,lu⟩:=sa;have n4:=s4.n4;refine ⟨_,rfl,s,_,dx,_,_,rfl,h1,T.Jec,T.Jfx,rfl,_,rfl,o,S,_,.two (.ref u) (.int wt) (some (ls.map V.int)),rfl,rv.ro,⟨y,rfl,hy,⟨u,rfl,hu,λv hv=>?_,by rw [ye];omega⟩,.inl ⟨_,rfl⟩⟩,λH1 s1=>⟨_,rfl,?_⟩⟩
   ·obtain ⟨n,_,rfl⟩:=yn.mp hv;exact .inl ⟨_,rfl⟩
   refine ifF (by rw [Ssg lu lvi hw];rfl) ⟨_,rfl,s,_,dx,_,_,rfl,s1 _ _ h1,T.Jec,T.Jfx,rfl,_,rfl,o,S,_,ls,wt,rfl,(rv.same s1).ro,⟨y,u,rfl,s1 _ _ hy,s1 _ _ hu⟩,lu,s4.lv,λl hl=>?_,λH2 s2=>k _ (s1.trans s2)⟩;obtain ⟨j,hj⟩:=ybk hl;have ln:=rv.ln;have hj':j < S.Bs.length:=by rw [<-lu];exact (yj.mp hj).1
   have b1:=lvi j l S.Bs[j] hj (yh hj');have b2:=rv.ok j S.Bs[j] (Gs[j]'(by omega)) (yh hj') (yh (by omega));omega
  ·refine ⟨_,rfl,s,_,dx,_,_,rfl,h1,T.Jec,T.Jfx,rfl,_,rfl,o,S,x,r,rfl,rv.ro,pr,λH1 s1=>⟨_,rfl,ifT (by rw [er];rfl) ?_⟩⟩;exact Jpb T.Je4 T.Jfm rfl λe dx h1 h2 h3=>k _ _ _ ((RfC.new h1 h2 h3).of s1)
theorem Jqw:Jne ["self","number"] ["self","number"] (Jnb (Jni (top 49) 8)):=%[|0]
theorem Jpi (T:Tx K mg a):So P w K mg base (CXX P w) 3 a.Jjv a.Jjw ["self","number"] (Yhd K a):=by
 have Sv:=%[Jon|1];have Sb8:=%[Jr5|1];refine %[T.Jde.fn.okX,Jqw|2]
 ·obtain ⟨s,S,Gs,sk,x,rfl,_⟩:=h;rfl
 ·obtain ⟨s,S,Gs,sk,x,rfl,⟨dx,o,rw_,L,pl,F,en,rs,us,vs,h1,rv,h3,h4,h5,h6,h7,h8⟩,tm,k⟩:=h;refine ⟨?t,?B,?C⟩
  case B=>
   refine' Sw ?O0 ?O1
   case O0=>
    refine' Jo1 ?O2 ?O3 ?O4
    case O2=>exact (Jo0 (Jo2 (Jna T.J0 Sv hr (by decide) (Sj (pv 1) (Sj Sr (Sj (Jnj Joq (Jng Jnm (by rfl) T.Jay Joh (Sj (Jnl (pv 0) (by rfl)) Sk)) Sr) Sk))))))
    case O3=>
     refine' Sy ?O5
     case O5=>exact (Jog Jol rfl (Jp2 T.Je7 Sb8 hr (by decide) T.Jd5.bd T.Jbk (Sj (pv 1) Sk)))
    case O4=>exact Jnn
   case O1=>
   refine' Sy ?O6
   case O6=>exact (Jnh (Jno Joe (Jnl (pv 0) (by rfl)) (pv 1) (λ_ _=>rfl)))
  have rl:=h4.1;refine ⟨_,rfl,_,rfl,s,_,dx,_,_,rfl,h1,T.Jec,T.Jfy,rfl,rw_,_,rfl,.inl (Ss.of h3),_,_,rfl,rfl,x,0,_,rfl,tm,_,rfl,?_⟩;rw [rl];rcases k with ⟨n,p,rfl,e,k⟩|⟨er,k⟩
  ·have hn:n < (stL S).length:=(yj.mp e).1;have hn':n < rs.length:=by omega
   refine ifF (by simp [Jnp];omega) ⟨_,rfl,s,_,dx,_,_,rfl,h1,T.Jec,T.Jfy,rfl,_,rfl,rw_,_,_,_,rfl,rfl,Ss.of h3,Jsx rfl (yh hn'),k _ (h4.2 n _ p (yh hn') e)⟩
  ·exact ifT (by rw [er];rfl) (Jpb T.Je7 T.Jfn rfl λe dx h1 h2 h3=>k _ _ _ (RfC.new h1 h2 h3))
theorem Jtg:Jne ["self"] ["self"] (Jnb (Jni (top 75) 2)):=%[|0]
theorem Jt4 (T:Tx K mg a):So P w K mg base CX0 1 a.Jl7 a.Jl8 ["self"] (Snv K a):=by
 refine %[T.Jdw.fn.ok,Jtg|2]
 ·obtain ⟨o,S,rfl,_⟩:=h;rfl
 ·obtain ⟨o,S,rfl,⟨dx,b,t,os,ts,ho,hb,bl,ht,tl,n1,n2,n3⟩,k⟩:=h;refine ⟨?t,?B,?C⟩
  case B=>
   refine' Sy ?O0
   case O0=>exact (Jnh (Jnz (Sj (Jny Jof (by rfl) T.Jb8 Joo (Sj (Jnx (N:=(["basin"]:List Str)) (ini:=[none]) rfl (Jrb (Jnl (pv 0) (by rfl))) (λ_ _ _ _ _=>(Jnf (i:=0) (by decide +kernel:(["basin"]:List Str).Nodup) rfl (yf rfl))) (λ_ _ _ _ _=>Jnw) (λ_ _ _ _ _=>(Jp3 (K:=K) rfl (pv 0) (by rfl)))) Sk)) (Sj (Jnl (pv 0) (by rfl)) Sk))))
  have len:=bl.len;refine ⟨_,rfl,o,_,dx,_,_,rfl,ho,T.Jfe,T.Jgj,rfl,b,rfl,⟨_,Su.of hb⟩,λD hD=>?_⟩;refine Jr3 ((S.Bs.map (·.st)).map V.int) hD (by simp [len]) (by rw [ye];omega) hb ?_ ?_
  ·intro i x y H' Q' hx hy sm k';obtain ⟨ob,B,rfl,hB,dx',hb',gs⟩:=(bl.same sm).get hx;rw [yi,yi,hB] at hy;cases hy;exact ⟨_,rfl,ob,_,dx',_,_,rfl,hb',T.Jf8,T.Jgb,rfl,k' _ (Si.refl _)⟩
  intro H1 s1 hD1;refine ⟨D,_,rfl,.inl ⟨Ss.of hD1,λr hr'=>?_⟩⟩;have s2:=Si.upd (o:=.tup ((S.Bs.map (·.st)).map V.int)) hr';refine ⟨_,rfl,o,_,dx,_,_,rfl,s2 _ _ (s1 _ _ ho),T.Jfe,T.Jgh,rfl,(show 2<=S6 by decide),λT1 hT1=>?_⟩;have s3:=Si.upd (o:=.tup [.ref r,.int S.c]) hT1;exact k _ _ ((s1.trans s2).trans s3) ⟨T1,r,rfl,Sn,s3 _ _ Sn⟩
theorem Jrr {R:Jpg} {S:Riv} (h:Jvf R S):S.Bs.length=R.Bs.length:=by
 have:=congrArg List.length h.Bs;simpa using this
theorem Jw0 {R:Jpg} {S:Riv} (h:Jvf R S) {i:Nat} {C:Jpt} (e:R.Bs[i]?=some C):∃B,S.Bs[i]?=some B/\Jtm B=Jvs C:=by
 have q:(S.Bs.map Jtm)[i]?=some (Jvs C):=by rw [h.Bs,yi,e];rfl
 rw [yi] at q;exact yba.mp q
theorem Yeo {Bs:List Bsn} (h:∀B∈Bs,1<=lvN B):∀k,prN (Bs.drop k)<=prN Bs:=by
 induction Bs with
 |nil=>intro k;simp
 |cons B Bs ih=>
  intro k;cases k with
  |zero=>exact yg _
  |succ k=>
   have q:=h B yah;refine yae (ih (λx hx=>h x (yac _ hx)) k) ?_;show prN Bs<=prN Bs*(lvN B).toNat;exact Nat.le_mul_of_pos_right _ (by omega)
theorem StR.mn (D:S1):MnD D StR:=by
 rintro H H' v a f ⟨t,r,e,h1,h2⟩;exact ⟨t,r,e,f _ _ (.inr λ_ z=>by cases z) h1,f _ _ (.inr λ_ z=>by cases z) h2⟩
inductive So3 (K:Sd) (vs:List V) (H:Hp) (Q:VK) (z3:XK):Prop where
 |mk (p:S1) (x:V) (R:Jpg) (S:Riv) (_:vs= [x]) (_:Sfq p H x R) (_:Jvf R S) (_:Jzt S) (_:stN S<=2000) (_:∀(L:S1) (us:List V) (H':Hp),H L=none->Si H H'->H' L=some (.lst us)->Sa7 StR H' us (stL S)->Q (.ref L) H')
theorem Sa4:Jne ["_law_told","_law_found","_law_one","_law_longer","_law_levels","_law_every"] ["_law_told"] (Jnb (top 87)):=%[|0]
theorem Juu (T:Tx K mg a):So P w K mg base CX0 1 a.Jlt a.Jlu ["_law_told"] (So3 K):=by
 refine %[T.Ja9.fn.ok,Sa4|2]
 ·obtain ⟨p,x,R,S,rfl,_⟩:=h;rfl
 ·obtain ⟨p,x,R,S,rfl,⟨t,lb,lt,bs,ts,rfl,ht,hb,btl,htt,ttl,nb,nt⟩,lk,s4,st,k⟩:=h;refine ⟨?t,?B,?C⟩
  case B=>
   refine' Sw ?O0 ?O1
   case O0=>exact (Jnk (i:=1) Sa4.nd rfl (yf rfl) (Jo3 (Sj (Jnz Sk) Sk)))
   case O1=>
   refine' Sw ?O2 ?O3
   case O2=>
    refine' Jox ?O4 ?O5 ?O6 ?O7 ?O8
    case O4=>exact PassesOwn.never
    case O5=>exact rfl
    case O6=>exact (Snh (by rfl) T.Jb4 (Sj (Jno Jns (pv 0) Sr (λ_ _=>rfl)) Sk))
    case O7=>exact (Jnf (i:=2) Sa4.nd rfl (yf rfl))
    case O8=>
    refine' Sw ?O9 ?Oa
    case O9=>exact (Jnk (i:=3) Sa4.nd rfl (yf rfl) (Jo3 Sk))
    case Oa=>
    refine' Sw ?Ob ?Oc
    case Ob=>
     refine' Jox ?Od ?Oe ?Of ?Og ?Oh
     case Od=>exact PassesOwn.never
     case Oe=>exact rfl
     case Of=>exact (Jo8 (pv 1))
     case Og=>exact (Jnf (i:=4) Sa4.nd rfl (yak rfl))
     case Oh=>
     refine' Sy ?Oi
     case Oi=>exact (Jp5 (Jty F.plainAttrs_list F.slot_list_extend F.type_list_extend Jsf (pv 3) (Sj (Jnx (N:=(["_law_level","_law_levels"]:List Str)) (ini:=[none,some 4]) rfl (Ycu (by rfl) T.Jb2 (Sj (Jno Jns (pv 2) Sr (λ_ _=>rfl)) (Sj (Jnj Jnv (Jno Jns (pv 2) Sr (λ_ _=>rfl)) Sr) Sk))) (λ_ _ _ _ _=>(Jnf (i:=0) (by decide +kernel:(["_law_level","_law_levels"]:List Str).Nodup) rfl (yf rfl))) (λ_ _ _ _ _=>Jnw) (λ_ _ _ _ _=>(Jnj Jw3 (Jnz (Sj (pv 0) Sk)) (pv 1)))) Sk)))
    case Oc=>
    refine' Sy ?Oj
    case Oj=>exact (Jnk (i:=1) Sa4.nd rfl (yf rfl) (pv 3))
   case O3=>
   refine' Sw ?Ok ?Ol
   case Ok=>exact (Jnk (i:=5) Sa4.nd rfl (yf rfl) (Jo3 Sk))
   case Ol=>
   refine' Sw ?Om ?On
   case Om=>
    refine' Jox ?Oo ?Op ?Oq ?Or ?Os
    case Oo=>exact PassesOwn.never
    case Op=>exact rfl
    case Oq=>exact (Jo8 (pv 1))
    case Or=>exact (Jnf (i:=4) Sa4.nd rfl (yak rfl))
    case Os=>
    refine' Sy ?Ot
    case Ot=>exact (Jp5 (Jty F.plainAttrs_list F.slot_list_extend F.type_list_extend Jsf (pv 5) (Sj (Jnx (N:=(["_law_wet","_law_levels"]:List Str)) (ini:=[none,some 4]) rfl (Jpe (by rfl) T.Jb2 (Sj (Jnj Jnv (Jno Jns (pv 0) Sr (λ_ _=>rfl)) Sr) Sk)) (λ_ _ _ _ _=>(Jnf (i:=0) (by decide +kernel:(["_law_wet","_law_levels"]:List Str).Nodup) rfl (yf rfl))) (λ_ _ _ _ _=>Jnw) (λ_ _ _ _ _=>(Jnz (Sj (pv 1) (Sj (pv 0) Sk))))) Sk)))
   case On=>
   refine' Sy ?Ou
   case Ou=>exact (Jnh (pv 5))
  have hc:=s4.c;have lv1:∀B∈S.Bs,1<=lvN B:=λB hB=>(s4.lv B hB).1.1;have bll:=btl.len;have ll:=Jrr lk;have sl:=Jzm S lv1 hc.1;have pr:prN S.Bs<=2000:=by
   have e:=Jq4 (m:=(S.c+1).toNat) (f:=λls=>(rgI (S.c+1).toNat).map λwt:Int=>(ls,wt)) (l:=lvL S.Bs) λx _=>by rw [ye,Joj]
   have e':(stL S).length=prN S.Bs*(S.c+1).toNat:=by rw [<-Jpd];exact e
   have:=Nat.le_mul_of_pos_right (prN S.Bs) (show 0 < (S.c+1).toNat by omega);omega
  refine ⟨(show 0<=S6 by decide),λe0 he0=>⟨(show 1<=S6 by decide),λl0 hl0=>?_⟩⟩;have s0:Si H (upd (upd H e0 (.tup [])) l0 (.lst [.ref e0])):=(Si.upd he0).trans (Si.upd hl0);have tp0:Sa7 TpR (upd (upd H e0 (.tup [])) l0 (.lst [.ref e0])) [.ref e0] [[]]:=TpL.one ((Si.upd hl0) _ _ Sn);have g0:=Sn (H:=upd H e0 (.tup [])) (a:=l0) (o:=.lst [.ref e0]);generalize upd (upd H e0 (.tup [])) l0 (.lst [.ref e0])=H0 at*;refine ⟨_,rfl,t,_,2,_,rfl,rfl,Su.of (s0 _ _ ht),rfl,lb,bs,rfl,Ss.of (s0 _ _ hb),?_⟩;refine Yg0 (K:=K) (a:=lb) (xs:=bs) (λi σ H'=>∃(Rw:S1) (vs:List V) (o2 o3 o4:Option V),σ= [some (.ref t),some (.ref Rw),o2,o3,o4,none]/\H' Rw=some (.lst vs)/\Sa7 TpR H' vs (lvL (S.Bs.drop (S.Bs.length - i)))/\Si H H') ?_ ?_ ?_ ?_
  ·refine ⟨l0,[.ref e0],_,_,_,rfl,g0,?_,s0⟩;rw [Nat.sub_zero,List.drop_length];exact tp0
  ·rintro i σ H' _ ⟨_,_,_,_,_,_,_,_,sm⟩;exact Ss.of (sm _ _ hb)
  ·rintro i x σ H' hi hx ⟨Rw,vs,o2,o3,o4,rfl,hRw,tp,sm⟩;obtain ⟨C,hC,t5,gv,rfl,ht5,gt⟩:=btl.get hx;obtain ⟨B,hB,ek⟩:=Jw0 lk hC;have e1:B.lo=C.lo:=congrArg (·.2.1) ek;have e2:B.hi=C.hi:=congrArg (·.2.2.1) ek;rw [show bs.length - 1 - i=S.Bs.length - (i+1) by omega] at hB;have hlt:S.Bs.length - (i+1) < S.Bs.length:=by omega
   have ed:S.Bs.drop (S.Bs.length - (i+1))=B::S.Bs.drop (S.Bs.length - i):=by
    rw [List.drop_eq_getElem_cons hlt,show S.Bs.length - (i+1)+1=S.Bs.length - i by omega];rw [yh hlt] at hB;rw [yz.inj hB]
   have hBm:=yq hB;obtain ⟨⟨b1,b2⟩,b3,b4⟩:=s4.lv B hBm;have elv:lvN B=B.hi - B.lo+1:=rfl;have pd:=Yeo lv1 (S.Bs.length - (i+1));rw [ed] at pd;have pd':prN (S.Bs.drop (S.Bs.length - i))*(lvN B).toNat<=prN S.Bs:=pd;rw [ed];generalize S.Bs.drop (S.Bs.length - i)=Ds at*;have vl:=tp.1;rw [Jpd] at vl;refine ⟨(show 0<=S6 by decide),λL hL=>?_⟩;have sL:=Si.upd (o:=.lst []) hL;refine ⟨_,rfl,Rw,rfl,⟨_,Ss.of (sL _ _ hRw)⟩,?_⟩;refine Jph (xs:=vs) (λj σ H2=>∃(o4:Option V) (ws:List V),σ= [some (.ref t),some (.ref Rw),some (.ref t5),some (.ref L),o4,none]/\H2 L=some (.lst ws)/\Sa7 TpR H2 ws (((lvL Ds).take j).flatMap λls=>(rgI (lvN B).toNat).map λk=>(B.lo+k)::ls)/\Si H' H2) ?_ ?_ ?_ ?_
   ·exact ⟨_,[],rfl,Sn,.nil,sL⟩
   ·rintro j σ H2 _ ⟨_,_,_,_,_,s2⟩;exact Ss.of (s2 _ _ hRw)
   ·rintro j y σ H2 hy ⟨o4,ws,rfl,hLs,tw,s2⟩;have hj:j < vs.length:=(yj.mp hy).1;obtain ⟨r,er,q,rfl,hq⟩:=tp.at hy;have wl:ws.length=j*(lvN B).toNat:=by
     rw [tw.1,Jq4 (m:=(lvN B).toNat) λx _=>by rw [ye,Joj],yaa,Jpd,ybt (by omega)]
    have wl2:j*(lvN B).toNat+(lvN B).toNat<=prN Ds*(lvN B).toNat:=by
     rw [<-ycj];exact Nat.mul_le_mul_right _ (by omega)
    have s02:=sm.trans s2;refine ⟨_,rfl,.inl ⟨rfl,_,Ss.of hLs⟩,_,rfl,t5,_,1,_,rfl,rfl,Su.of (s02 _ _ ht5),rfl,_,rfl,t5,_,2,_,rfl,rfl,Su.of (s02 _ _ ht5),rfl,_,_,rfl,rfl,_,_,rfl,⟨by omega,by omega,by omega,by omega⟩,λD hD=>?_⟩;have en:(C.hi+1 - C.lo).toNat=(lvN B).toNat:=by omega
    have rlen:r.length<=16:=by
     have q1:∀(Ds:List Bsn) (r:List Int),r∈lvL Ds->r.length=Ds.length:=by
      intro Ds
      induction Ds with
      |nil=>intro r hr;rw [yal.mp hr];rfl
      |cons B Ds ih=>
       intro r hr;obtain ⟨l,hl,hr⟩:=ycr.mp hr;obtain ⟨n,_,rfl⟩:=yn.mp hr;rw [yaf,ih l hl];rfl
     have q2:=q1 Ds r (yq er);have q3:=congrArg List.length ed;rw [ybj,yaf] at q3;have:=s4.n4;omega
    refine Jr2 TpR ((rgI (lvN B).toNat).map λk=>(B.lo+k)::r) (TpR.mn D) hD (by rw [ye,Joj,en]) (by omega) ?_ ?_
    ·intro m y H3 Q' hy sm3 _ k';have hm:m < (lvN B).toNat:=by
      have:=(yj.mp hy).1;rw [ye,Joj] at this;exact this
     rw [yi] at hy;unfold rgI at hy;rw [yi,ycd hm] at hy;cases hy;refine ⟨_,rfl,(show 1<=S6 by decide),λp1 hp1=>?_⟩;have sp:=Si.upd (o:=.tup [V.int (C.lo+(m:Int))]) hp1;refine ⟨_,rfl,p1,q,_,_,rfl,rfl,Sn,sp _ _ (sm3 _ _ (s2 _ _ hq)),Job _ (by rw [ye];show 1+_<=2000;omega),λz H4 s4' hz=>k' _ _ (sp.trans s4') ⟨z,rfl,?_⟩⟩;rw [hz,e1];rfl
    ·intro ys H3 s3 hD3 ty;have yl:=ty.1;rw [ye,Joj] at yl;have hL3:=s3 _ _ hLs;refine ⟨L,D,ws,ys,rfl,rfl,hL3,hD3,Job _ (by omega),_,ws++ys,rfl,Sn,?_,λc u e=>?_⟩
     ·have tk:=OnD.grow (zs:=ws++ys) hL3;rw [yr,er,List.flatMap_append];refine Sa7.on (TpR.mn L) tk (Sa7.append (tw.on (TpR.mn L) (OnD.same s3)) ?_);show Sa7 TpR _ ys (List.flatMap _ [r]);rw [List.flatMap_singleton];exact ty
     ·rw [Jnc (Jnd e hL)];exact s3 _ _ (s2 _ _ e)
   ·rintro σ H2 ⟨o4,ws,rfl,hLs,tw,s2⟩;rw [vl,yad (by rw [Jpd];exact yg _)] at tw;exact ⟨_,rfl,L,ws,_,_,_,rfl,hLs,tw,sm.trans s2⟩
  rintro σ H2 ⟨Rw,vs,o2,o3,o4,rfl,hRw,tp,s2⟩;rw [bll,<-ll,Nat.sub_self,List.drop_zero] at tp;have vl:=tp.1;rw [Jpd] at vl;refine ⟨(show 0<=S6 by decide),λL hL=>?_⟩;have sL:=Si.upd (o:=.lst []) hL;refine ⟨_,rfl,Rw,rfl,⟨_,Ss.of (sL _ _ hRw)⟩,?_⟩;refine Jph (xs:=vs) (λj σ H'=>∃(o4:Option V) (ws:List V),σ= [some (.ref t),some (.ref Rw),o2,o3,o4,some (.ref L)]/\H' L=some (.lst ws)/\Sa7 StR H' ws (((lvL S.Bs).take j).flatMap λls=>(rgI (S.c+1).toNat).map λwt=>(ls,wt))/\Si H2 H') ?_ ?_ ?_ ?_
  ·exact ⟨_,[],rfl,Sn,.nil,sL⟩
  ·rintro j σ H' _ ⟨_,_,_,_,_,sm⟩;exact Ss.of (sm _ _ hRw)
  ·rintro j y σ H' hy ⟨o4,ws,rfl,hLs,tw,sm⟩;have hj:j < vs.length:=(yj.mp hy).1;obtain ⟨r,er,q,rfl,hq⟩:=tp.at hy;have s02:=s2.trans sm;have wl:ws.length=j*(S.c+1).toNat:=by
    rw [tw.1,Jq4 (m:=(S.c+1).toNat) λx _=>by rw [ye,Joj],yaa,Jpd,ybt (by omega)]
   have wl2:j*(S.c+1).toNat+(S.c+1).toNat<=(stL S).length:=by
    have e:=Jq4 (m:=(S.c+1).toNat) (f:=λls=>(rgI (S.c+1).toNat).map λwt:Int=>(ls,wt)) (l:=lvL S.Bs) λx _=>by rw [ye,Joj]
    have e':(stL S).length=prN S.Bs*(S.c+1).toNat:=by rw [<-Jpd];exact e
    rw [e',<-ycj];exact Nat.mul_le_mul_right _ (by omega)
   have ec:=lk.c;refine ⟨_,rfl,.inl ⟨rfl,_,Ss.of hLs⟩,_,rfl,t,_,0,_,rfl,rfl,Su.of (s02 _ _ ht),rfl,_,_,rfl,rfl,_,rfl,by omega,by omega,λD hD=>?_⟩;refine Jr2 StR ((rgI (S.c+1).toNat).map λwt=>(r,wt)) (StR.mn D) hD (by rw [ye,Joj,ec]) (by omega) ?_ ?_
   ·intro m y H3 Q' hy sm3 _ k';have hm:m < (S.c+1).toNat:=by
     have:=(yj.mp hy).1;rw [ye,Joj] at this;exact this
    rw [yi] at hy;unfold rgI at hy;rw [yi,ycd hm] at hy;cases hy;refine ⟨_,rfl,_,rfl,(show 2<=S6 by decide),λp1 hp1=>?_⟩;have sp:=Si.upd (o:=.tup [.ref q,V.int (0+(m:Int))]) hp1;refine k' _ _ sp ⟨p1,q,rfl,?_,sp _ _ (sm3 _ _ (sm _ _ hq))⟩;rw [Sn,Int.zero_add]
   ·intro ys H3 s3 hD3 ty;have yl:=ty.1;rw [ye,Joj] at yl;have hL3:=s3 _ _ hLs;refine ⟨L,D,ws,ys,rfl,rfl,hL3,hD3,Job _ (by omega),_,ws++ys,rfl,Sn,?_,λc u e=>?_⟩
    ·have tk:=OnD.grow (zs:=ws++ys) hL3;rw [yr,er,List.flatMap_append];refine Sa7.on (StR.mn L) tk (Sa7.append (tw.on (StR.mn L) (OnD.same s3)) ?_);show Sa7 StR _ ys (List.flatMap _ [r]);rw [List.flatMap_singleton];exact ty
    ·rw [Jnc (Jnd e hL)];exact s3 _ _ (sm _ _ e)
  ·rintro σ H' ⟨o4,ws,rfl,hLs,tw,sm⟩;rw [vl,yad (by rw [Jpd];exact yg _)] at tw;have h0:H L=none:=by
    cases e:H L with
    |none=>rfl
    |some u=>rw [s2 _ _ e] at hL;cases hL
   exact ⟨_,rfl,k L ws H' h0 (s2.trans sm) hLs tw⟩
noncomputable def kvI (l:List (Int×Int)):List (Key×V):=l.map λp=>(yau p.1,V.int p.2)
inductive Siv (H:Hp) (x:V) (l:List (Int×Int)):Prop where
 |mk (d:_) (_:x= .ref d) (_:Rd H d (.dK (kvI l)))
theorem Siv.same {H H':Hp} {x:V} {l:List (Int×Int)} (s:Si H H') (h:Siv H x l):Siv H' x l:=by
 obtain ⟨d,e,h|⟨o,h⟩⟩:=h
 ·exact ⟨d,e,.inl (s _ _ h)⟩
 ·exact ⟨d,e,.inr ⟨o,s _ _ h⟩⟩
theorem Yc2 (i:Int):∀l:List (Int×Int),(Jtk (kvI l) (yau i)).isSome=decide (i∈l.map (·.1)):=by
 intro l;unfold Jtk kvI
 induction l with
 |nil=>rfl
 |cons p l ih=>
  rw [yan,List.find?_cons];by_cases c:p.1=i
  ·subst c;simp
  ·have e:decide ((yau p.1:Key)=yau i)=false:=decide_eq_false λz=>c (yau.inj z);rw [e];refine Eq.trans ih ?_;have:¬i=p.1:=λz=>c z.symm;simp [this]
theorem Ya6 (G:Jnt):(G1 G).length=nOf G:=by
 unfold G1 nOf;cases G.sv <;> rfl
theorem Yg6 {R:Riv} {l:List (Int×Int)} (h0:∀p∈l,0<=p.1) {i:Nat} {B:Bsn} (e:R.Bs[i]?=some B):∃r,(Jpc R (some l))[i]?=some r/\r.length=if (i:Int)∈l.map (·.1) then 1 else B.n:=by
 have go:∀(l:List (Int×Int)) (rs:List (List Int)) (r:List Int),(∀p∈l,0<=p.1)->rs[i]?=some r->∃r',(l.foldl (λrs p=>rs.set p.1.toNat [p.2]) rs)[i]?=some r'/\r'.length=if (i:Int)∈l.map (·.1) then 1 else r.length:=by
  intro l
  induction l with
  |nil=>exact λrs r _ e=>⟨r,e,by simp⟩
  |cons p l ih=>
   intro rs r hp e;have p0:=hp p yah;by_cases c:(i:Int)=p.1
   ·obtain ⟨r',e1,e2⟩:=ih (rs.set p.1.toNat [p.2]) [p.2] (λq hq=>hp q (yac _ hq)) (by
     rw [ycm,if_pos (by omega),if_pos (by have:=(yj.mp e).1;omega)])
    refine ⟨r',e1,?_⟩;rw [e2,if_pos (show (i:Int)∈(p::l).map (·.1) by rw [yan,c];exact yah)];split <;> rfl
   ·obtain ⟨r',e1,e2⟩:=ih (rs.set p.1.toNat [p.2]) r (λq hq=>hp q (yac _ hq)) (by
     rw [ycm,if_neg (by omega)];exact e)
    refine ⟨r',e1,e2.trans ?_⟩;have mm:((i:Int)∈(p::l).map (·.1))↔(i:Int)∈l.map (·.1):=by
     rw [yan,yo];exact ⟨λh=>h.resolve_left c,.inr⟩
    by_cases m:(i:Int)∈l.map (·.1)
    ·rw [if_pos m,if_pos (mm.mpr m)]
    ·rw [if_neg m,if_neg λz=>m (mm.mp z)]
 obtain ⟨r',e1,e2⟩:=go l (R.Bs.map λB=>rgI B.n) (rgI B.n) h0 (by rw [yi,e];rfl);exact ⟨r',e1,by rw [e2,Joj]⟩
theorem Yfy (ws:List Int) {rn:Int} (h0:0<=rn) (j:Nat):Jqt (ws.map V.int) (some (if 0+(j:Int) - rn > 0 then 0+(j:Int) - rn else 0)) (some (0+(j:Int)+1))=(wsC rn.toNat ws j).map V.int:=by
 have e1:(if 0+(j:Int) - rn > 0 then 0+(j:Int) - rn else 0)=((j - rn.toNat:Nat):Int):=by
  split <;> omega
 have e2:(0+(j:Int)+1)=((j+1:Nat):Int):=by omega
 rw [e1,e2,Yag];unfold wsC;rw [List.map_take,List.map_drop]
noncomputable def wtW (S:Riv) (l:List (Int×Int)) (i:Nat):Int:=(S.c+1)*Jqb ((S.Bs.take i).map lvN)*Jqb (((Jpc S (some l)).take i).map λr=>(r.length:Int))
inductive So4 (vs:List V) (H:Hp) (Q:VK) (z3:XK):Prop where
 |mk (p:S1) (x y:V) (R:Jpg) (S:Riv) (l:List (Int×Int)) (_:vs= [x,y]) (_:Sfq p H x R) (_:Jst R) (_:Jvf R S) (_:Jzt S) (_:Siv H y l) (_:(∀p∈l,0<=p.1)) (_:∀H',Si H H'->Q (.int (wgN S (some l))) H')
theorem Sac:Jne ["_law_told","_law_stuck_here","_law_weight_here","_law_ways","_law_place","_law_one"] ["_law_told","_law_stuck_here"] (Jnb (top 88)):=%[|0]
theorem Jxm (T:Tx K mg a):So P w K mg base CX0 1 a.Jlv a.Jlw ["_law_told","_law_stuck_here"] So4:=by
 refine %[T.Jaa.fn.ok,Sac|2]
 ·obtain ⟨p,x,y,R,S,l,rfl,_⟩:=h;rfl
 ·obtain ⟨p,x,y,R,S,l,rfl,⟨t,lb,lt,bs,ts,rfl,ht,hb,btl,htt,ttl,nb,nt⟩,rg,lk,s4,dk,l0,k⟩:=h;have hu64:=Jtp hr;refine ⟨?t,?B,?C⟩
  case B=>
   refine' Sw ?O0 ?O1
   case O0=>exact (Jnk (i:=2) Sac.nd rfl (yf rfl) (Jnj Jnv (Jno Jns (pv 0) Sr (λ_ _=>rfl)) Sr))
   case O1=>
   refine' Sw ?O2 ?O3
   case O2=>exact (Jnk (i:=3) Sac.nd rfl (yak rfl) (Jnj Jt8 (Jo3 (Sj Sr Sk)) (Jnj Snb (Jo3 (Sj Sr Sk)) (Jno Jns (pv 0) Sr (λ_ _=>rfl)))))
   case O3=>
   refine' Sw ?O4 ?O5
   case O4=>
    refine' Jox ?O6 ?O7 ?O8 ?O9 ?Oa
    case O6=>exact PassesOwn.never
    case O7=>exact rfl
    case O8=>exact (Jw5 (by rfl) T.Jav (Sj (Jno Jns (pv 0) Sr (λ_ _=>rfl)) Sk))
    case O9=>exact (Jr9 rfl (Jnq (Jnf (i:=4) Sac.nd rfl (yf rfl)) (Jnq (Jnf (i:=5) Sac.nd rfl (yak rfl)) Jp4)))
    case Oa=>
    refine' Sw ?Ob ?Oc
    case Ob=>exact (Jnk (i:=2) Sac.nd rfl (yf rfl) (Jnj Jpo (pv 2) (Jnj Jnv (Jnj Joq (Jno Jns (pv 5) Sr (λ_ _=>rfl)) (Jno Jns (pv 5) Sr (λ_ _=>rfl))) Sr)))
    case Oc=>
    refine' Sw ?Od ?Oe
    case Od=>
     refine' Jo1 ?Of ?Og ?Oh
     case Of=>exact (Jo9 (Jxn hu64) (pv 4) (pv 1) (by with_unfolding_all rfl))
     case Og=>
      refine' Sy ?Oi
      case Oi=>exact (Jnk (i:=2) Sac.nd rfl (yf rfl) (Jnj Jpo (pv 2) (Jng Jnm (by rfl) T.Jay Joh (Sj (Jno Jns (Jno Jns (pv 5) Sr (λ_ _=>rfl)) Sr (λ_ _=>rfl)) Sk))))
     case Oh=>exact Jnn
    case Oe=>
    refine' Sy ?Oj
    case Oj=>exact (Jnk (i:=3) Sac.nd rfl (yak rfl) (Jnx (N:=(["_law_total","_law_ways","_law_one"]:List Str)) (ini:=[none,some 3,some 5]) rfl (Jpe (by rfl) T.Jb2 (Sj (Jnj Jnv (Jno Jns (pv 0) Sr (λ_ _=>rfl)) Sr) Sk)) (λ_ _ _ _ _=>(Jnf (i:=0) (by decide +kernel:(["_law_total","_law_ways","_law_one"]:List Str).Nodup) rfl (yf rfl))) (λ_ _ _ _ _=>Jnw) (λ_ _ _ _ _=>(Jng (Jsc (K:=K) rfl rfl) (by rfl) T.Jb7 Jrp (Sj (Jpj (Ju8 (K:=K) rfl) (pv 1) (Jp7 (Jng (Jqz rfl) (by rfl) T.Jb0 Jwb (Sj Sr (Sj (Jnj Joq (pv 0) (Jno (Jvy (K:=K) rfl) (pv 2) Sr (λ_ _=>rfl))) Sk)))) (Jp7 (Jnj Jnv (pv 0) Sr))) Sk)))))
   case O5=>
   refine' Sy ?Ok
   case Ok=>exact (Jnh (Jnj Jpo (Jnj Jpo (pv 2) (Jnj Jnv (Jng Jnm (by rfl) T.Jay Joh (Sj (Jno Jns (pv 0) Sr (λ_ _=>rfl)) Sk)) Sr)) (Jng (Jrq rfl) (by rfl) T.Jb7 Jrp (Sj (pv 3) Sk))))
  obtain ⟨d,rfl,rd⟩:=id dk;have hc:=s4.c;have h4:=s4.n4;have bll:=btl.len;have ll:=Jrr lk;have ec:=lk.c;have hc12:S.c.toNat<=12:=by omega
  refine ⟨_,rfl,t,_,0,_,rfl,rfl,Su.of ht,rfl,_,_,rfl,rfl,?_⟩;refine ⟨(show 1<=S6 by decide),λl1 hl1=>⟨(show 1<=S6 by decide),λl2 hl2=>?_⟩⟩;have s1:=Si.upd (o:=.lst [V.int 1]) hl1;have s2:=Si.upd (o:=.lst [V.int 0]) hl2;refine ⟨_,rfl,t,_,0,_,rfl,rfl,Su.of (s2 _ _ (s1 _ _ ht)),rfl,l2,_,_,rfl,rfl,Sn,by omega,by omega,Job _ (by show 1*_<=2000;omega),λl3 hl3=>?_⟩;have e3:(yw R.c.toNat [V.int 0]).flatten=(yw S.c.toNat (0:Int)).map V.int:=by
   rw [ec];generalize R.c.toNat=n
   induction n with
   |zero=>rfl
   |succ n ih=>rw [ych,List.flatten_cons,ih,ych];rfl
  rw [e3];have s3:=Si.upd (o:=.lst ((yw S.c.toNat (0:Int)).map V.int)) hl3;have hz: [V.int 1].length+((yw S.c.toNat (0:Int)).map V.int).length<=S6:=Job _ (by rw [ye,ycg];show 1+_<=2000;omega);refine ⟨l1,l3,_,_,rfl,rfl,s3 _ _ (s2 _ _ Sn),Sn,hz,λq0 hq0=>?_⟩;have e0: [V.int 1]++(yw S.c.toNat (0:Int)).map V.int=(wsN S 0).map V.int:=rfl;rw [e0];have s14:=((s1.trans s2).trans s3).trans (Si.upd (o:=.lst ((wsN S 0).map V.int)) hq0);have g0:=Sn (H:=upd (upd (upd H l1 (.lst [V.int 1])) l2 (.lst [V.int 0])) l3 (.lst ((yw S.c.toNat (0:Int)).map V.int))) (a:=q0) (o:=.lst ((wsN S 0).map V.int));generalize upd (upd (upd (upd H l1 (.lst [V.int 1])) l2 (.lst [V.int 0])) l3 (.lst ((yw S.c.toNat (0:Int)).map V.int))) q0 (.lst ((wsN S 0).map V.int))=H0 at*;refine ⟨_,rfl,t,_,2,_,rfl,rfl,Su.of (s14 _ _ ht),rfl,lb,rfl,⟨_,Ss.of (s14 _ _ hb)⟩,?_⟩;refine Jyu (xs:=bs) (λi σ H'=>∃(q:S1) (o4 o5:Option V),σ= [some (.ref t),some (.ref d),some (.int (wtW S l i)),some (.ref q),o4,o5]/\H' q=some (.lst ((wsN S i).map V.int))/\Si H H') ?_ ?_ ?_ ?_
  ·refine ⟨q0,none,none,?_,g0,s14⟩;have e:wtW S l 0=R.c+1:=by
    unfold wtW;rw [List.take_zero,List.take_zero,ec];show (R.c+1)*1*1=_;omega
   rw [e];rfl
  ·rintro i σ H' _ ⟨_,_,_,_,_,sm⟩;exact Ss.of (sm _ _ hb)
  ·rintro i x σ H' Ta hx ⟨q,o4,o5,rfl,hq,sm⟩ hT;obtain ⟨C,hC,t5,gv,rfl,ht5,gt⟩:=btl.get hx;obtain ⟨B,hB,ek⟩:=Jw0 lk hC;have hi:i < S.Bs.length:=(yj.mp hB).1;have e1:B.lo=C.lo:=congrArg (·.2.1) ek;have e2:B.hi=C.hi:=congrArg (·.2.2.1) ek;have e4:B.rn=C.rn:=congrArg (·.2.2.2.2.1) ek;have e5:B.n=nOf C.G:=congrArg (·.2.2.2.2.2) ek;obtain ⟨⟨b1,b2⟩,b3,b4⟩:=s4.lv B (yq hB);have hrn:=(rg.Bs C (yq hC)).1.rn;have elv:lvN B=B.hi - B.lo+1:=rfl;have sT:=Si.upd (o:=.tup [V.int i,.ref t5]) hT;have smT:=sm.trans sT;have h5:=smT _ _ ht5;obtain ⟨r,er,erl⟩:=Yg6 l0 hB;obtain ⟨sml,wb⟩:=Juc (R:=S) hc12 (i:=i) (by omega) h4;refine ⟨Ta,_,rfl,Su.of Sn,rfl,_,_,rfl,_,_,rfl,rfl,?_⟩;refine ⟨_,rfl,_,rfl,t5,_,2,_,rfl,rfl,Su.of h5,rfl,_,rfl,t5,_,1,_,rfl,rfl,Su.of h5,rfl,_,_,rfl,rfl,_,_,rfl,rfl,_,_,rfl,rfl,.inr ⟨by omega,by omega⟩,?_⟩;have rd':Siv (upd H' Ta (.tup [V.int i,.ref t5])) (.ref d) l:=dk.same smT;obtain ⟨d',ed,rd2⟩:=rd';cases ed;have wn:wtW S l (i+1)=wtW S l i*lvN B*r.length:=by
    unfold wtW;rw [yr,yr,hB,er,yag,yag];show (S.c+1)*Jqb (_++ [lvN B])*Jqb (_++ [(r.length:Int)])=_;rw [Jta,Jta]
    ac_rfl
   refine Ye (Jzi (λσ Hb=>σ= [some (.ref t),some (.ref d),some (.int (wtW S l (i+1))),some (.ref q),some (.int i),some (.ref t5)]/\Hb=upd H' Ta (.tup [V.int i,.ref t5])) (λM hM=>?_) ?_)
   ·refine ⟨_,rfl,_,rfl,d,_,rfl,.inl ⟨_,yau (i:Int),rd2,rfl,rfl⟩,_,rfl,?_⟩;rw [Yc2];by_cases c:(i:Int)∈l.map (·.1)
    ·rw [if_pos c] at erl;refine ifF (by rw [decide_eq_true c];rfl) (hM _ _ ⟨?_,rfl⟩);rw [wn,erl,elv,e1,e2];show _= [_,_,some (V.int (_*_*1)),_,_,_];rw [Int.mul_one];rfl
    ·rw [if_neg c] at erl;obtain ⟨tg,mg,eg,hm,nm,hg⟩:=gt;subst eg;have htg:∃g2 g3,H tg=some (.tup ([.str C.G.kd,.ref mg]++g2))/\g3=g2:=by
      rcases hg with ⟨_,q⟩|⟨j,m2,_,q,_⟩
      ·exact ⟨[],_,q,rfl⟩
      ·exact ⟨[.ref m2,.int j],_,q,rfl⟩
     obtain ⟨g2,_,htg,_⟩:=htg;refine ifT (by rw [decide_eq_false c];rfl) ⟨_,rfl,_,rfl,t5,_,5,_,rfl,rfl,Su.of h5,rfl,tg,_,1,_,rfl,rfl,Su.of (smT _ _ htg),Jsx (j:=1) rfl rfl,mg,_,rfl,.inl (Ss.of (smT _ _ hm)),_,_,rfl,rfl,.inr ?_,hM _ _ ⟨?_,rfl⟩⟩
     ·rw [ye,Ya6,<-e5];have:=(rg.Bs C (yq hC)).1.G.len;have n4:nOf C.G<=4:=by unfold nOf;split <;> omega
      omega
     ·rw [wn,erl,elv,e1,e2,ye,Ya6,<-e5];rfl
   ·rintro σ Hb ⟨rfl,rfl⟩;refine ⟨_,rfl,t,_,0,_,rfl,rfl,Su.of (smT _ _ ht),rfl,_,_,rfl,rfl,_,rfl,by omega,by omega,λD2 hD2=>?_⟩;refine Juj ((wsS S.c.toNat B.rn.toNat (wsN S i)).map V.int) hD2 (by rw [ye,Jwa];omega) (by omega) (λj y H2 Q' hy sm2 k'=>?_) ?_
    ·have hj:=Slj hy;cases hj;refine ⟨_,rfl,_,rfl,_,rfl,t5,_,4,_,rfl,rfl,Su.of (sm2 _ _ h5),rfl,_,_,rfl,rfl,_,_,rfl,_,rfl,_,rfl,_,_,rfl,rfl,_,rfl,q,_,rfl,Ss.of (sm2 _ _ (sT _ _ hq)),λp hp=>?_⟩;rw [Yfy _ hrn.1,<-e4];exact ⟨p,_,rfl,.inl (Ss.of Sn),Yc3 sml,k' _ (Si.upd hp)⟩
    ·intro H2 sm2 hDs2;refine ⟨D2,_,_,rfl,?_,smT.trans sm2⟩;rw [Jxe S hB];exact hDs2
  ·rintro σ H' ⟨q,o4,o5,rfl,hq,sm⟩;rw [bll,<-ll] at hq⊢;have tl:=ttl.len;have tl2:S.Ts.length=R.Ts.length:=by have:=congrArg List.length lk.Ts;simpa using this
   have rb:=Yex h4 hc;have t3:=rg.tn;refine ⟨_,rfl,_,rfl,t,_,3,_,rfl,rfl,Su.of (sm _ _ ht),rfl,lt,_,rfl,.inl (Ss.of (sm _ _ htt)),_,_,rfl,rfl,_,_,rfl,rfl,.inr ⟨by omega,by omega⟩,?_⟩;refine ⟨_,rfl,q,_,rfl,.inl (Ss.of hq),(Juc hc12 (yg _) h4).1,_,_,rfl,rfl,.inr ?_,?_⟩
   ·have:rrN S=(wsN S S.Bs.length).sum:=rfl;omega
   ·have e:wtW S l S.Bs.length*((ts.length:Int)+1)*(wsN S S.Bs.length).sum=wgN S (some l):=by
     unfold wgN stN chN rrN wtW;have ln:=Jun S (some l);rw [ybo,yad (by omega),tl,<-tl2]
     ac_rfl
    rw [e];exact k _ sm
noncomputable def SkT (R:Jpg) (l:List (Int×Int)):Prop:=(l.map (·.1)).Nodup/\∀q∈l,0<=q.1/\∃C:Jpt,R.Bs[q.1.toNat]?=some C/\0<=q.2/\q.2 < nOf C.G
inductive So2 (vs:List V) (H:Hp) (Q:VK) (z3:XK):Prop where
 |mk (c:Int) (p:S1) (x:V) (R:Jpg) (_:vs= [.int c,x]) (_:Sfq p H x R) (_:Jst R) (_:∀(x':V) (l:List (Int×Int)) (H':Hp),Si H H'->Sdd H' x' (some l)->SkT R l->l.length<=R.Bs.length->Q x' H')
theorem Sbj:Jne ["_law_cell_here","_law_told","_law_stream_here","_law_stuck_here","_law_place","_law_one"] ["_law_cell_here","_law_told"] (Jnb (top 89)):=%[|0]
theorem Jz8 (T:Tx K mg a):So P w K mg base CX0 2 a.Jlx a.Jly ["_law_cell_here","_law_told"] So2:=by
 have Scj:=%[Jsv|1];have Sl:=%[Jpr|1];refine %[T.Jab.fn.ok,Sbj|2]
 ·obtain ⟨c,p,x,R,rfl,_⟩:=h;rfl
 ·obtain ⟨c,p,x,R,rfl,⟨t,lb,lt,bs,ts,rfl,ht,hb,btl,htt,ttl,nb,nt⟩,rg,k⟩:=h;have hu64:=Jtp hr;refine ⟨?t,?B,?C⟩
  case B=>
   refine' Sw ?O0 ?O1
   case O0=>exact (Jnk (i:=2) Sbj.nd rfl (yf rfl) (Jna T.Ja0 Scj hr (by decide) (Sj (pv 0) Sk)))
   case O1=>
   refine' Sw ?O2 ?O3
   case O2=>exact (Jnk (i:=3) Sbj.nd rfl (yf rfl) Jtz)
   case O3=>
   refine' Sw ?O4 ?O5
   case O4=>
    refine' Jox ?O6 ?O7 ?O8 ?O9 ?Oa
    case O6=>exact PassesOwn.never
    case O7=>exact rfl
    case O8=>exact (Jw5 (by rfl) T.Jav (Sj (Jno Jns (pv 1) Sr (λ_ _=>rfl)) Sk))
    case O9=>exact (Jr9 rfl (Jnq (Jnf (i:=4) Sbj.nd rfl (yf rfl)) (Jnq (Jnf (i:=5) Sbj.nd rfl (yf rfl)) Jp4)))
    case Oa=>
    refine' Sy ?Ob
    case Ob=>
    refine' Jo1 ?Oc ?Od ?Oe
    case Oc=>exact (Jo9 Jrh (Jna T.Ja1 Sl hr (by decide) (Sj (pv 2) (Sj Sr Sk))) Sr (Joc _))
    case Od=>
     refine' Sy ?Of
     case Of=>exact (Ycw hu64 (pv 3) (pv 4) (Jna T.Ja1 Sl hr (by decide) (Sj (pv 2) (Sj (Jng Jnm (by rfl) T.Jay Joh (Sj (Jno Jns (Jno Jns (pv 5) Sr (λ_ _=>rfl)) Sr (λ_ _=>rfl)) Sk)) Sk))) rfl)
    case Oe=>exact Jnn
   case O5=>
   refine' Sy ?Og
   case Og=>exact (Jnh (Snd (pv 3)))
  have bll:=btl.len;have n16:=rg.n.2;refine ⟨_,rfl,c,rfl,λp2 H1 hp2 s1 st1=>λd hd=>?_⟩;have s2:=Si.upd (o:=.dK []) hd;have s12:=s1.trans s2;have hd0:H d=none:=by
   cases e:H d with
   |none=>rfl
   |some u=>rw [s1 _ _ e] at hd;cases hd
  refine ⟨_,rfl,t,_,2,_,rfl,rfl,Su.of (s12 _ _ ht),rfl,lb,rfl,⟨_,Ss.of (s12 _ _ hb)⟩,?_⟩;refine Jyu (xs:=bs) (λi σ H'=>∃(o4 o5:Option V) (l:List (Int×Int)),σ= [some (.int c),some (.ref t),some (.ref p2),some (.ref d),o4,o5]/\H' d=some (.dK (kvI l))/\(∀q∈l,q.1 < i)/\SkT R l/\l.length<=i/\Sc9 H' p2/\Si H H') ?_ ?_ ?_ ?_
  ·exact ⟨_,_,[],rfl,Sn,(λq hq=>nomatch hq),⟨List.nodup_nil,(λq hq=>nomatch hq)⟩,yg 0,st1.same s2,s12⟩
  ·rintro i σ H' _ ⟨_,_,_,_,_,_,_,_,_,sm⟩;exact Ss.of (sm _ _ hb)
  ·rintro i x σ H' Ta hx ⟨o4,o5,l,rfl,hds,lt',sk,ll,st,sm⟩ hT;obtain ⟨C,hC,t5,gv,rfl,ht5,gt⟩:=btl.get hx;have sT:=Si.upd (o:=.tup [V.int i,.ref t5]) hT;have smT:=sm.trans sT;have stT:=st.same sT;have hdT:=sT _ _ hds;have hi:i < bs.length:=(yj.mp hx).1;refine ⟨Ta,_,rfl,Su.of Sn,rfl,_,_,rfl,_,_,rfl,rfl,?_⟩;refine ⟨_,rfl,p2,3,rfl,stT,by decide,Jpx (by decide),λr H3 r0 r1 b3=>⟨rfl,_,rfl,?_⟩⟩;have ndp:d≠p2:=Jw2 stT hdT (λ_ _ _ z=>by cases z);have hd3:=b3.1 _ _ ndp hdT;have keep:∀{Ha Hb:Hp},Si H Ha->But p2 Ha Hb->Si H Hb:=λs b c o e=>b.1 c o (Jnd e hp2) (s _ _ e);have sm3:=keep smT b3;by_cases c0:r=0
   ·subst c0;obtain ⟨tg,m,eg,hm,nm,hg⟩:=gt;subst eg;have htg:∃g2,H tg=some (.tup ([.str C.G.kd,.ref m]++g2)):=by
     rcases hg with ⟨_,q⟩|⟨j,m2,_,q,_⟩
     ·exact ⟨[],q⟩
     ·exact ⟨[.ref m2,.int j],q⟩
    obtain ⟨g2,htg⟩:=htg;have gl:=(rg.Bs C (yq hC)).1.G.len;have n4:1<=nOf C.G/\nOf C.G<=4:=by unfold nOf;split <;> omega
    have gn:=Ya6 C.G;refine Yak rfl ⟨_,rfl,_,rfl,t5,_,5,_,rfl,rfl,Su.of (sm3 _ _ ht5),rfl,tg,_,1,_,rfl,rfl,Su.of (sm3 _ _ htg),Jsx (j:=1) rfl rfl,m,_,rfl,.inl (Ss.of (sm3 _ _ hm)),p2,_,rfl,b3.2,by rw [ye];omega,Jpx (by rw [ye];omega),λr2 H4 q0 q1 b4=>?_⟩;have hd4:=b4.1 _ _ ndp hd3;rw [ye,gn] at q1;refine ⟨_,rfl,_,rfl,d,_,rfl,Siu.k (k:=yau (i:Int)) hd4 (by unfold kvI;rw [ye];exact Jo6 (by omega)),_,_,l++ [((i:Int),r2)],rfl,?_,?_,⟨?_,?_⟩,by rw [yab];exact Nat.succ_le_succ ll,?_,?_⟩
    ·have nv:Jtk (kvI l) (yau (i:Int))=none:=by
      have e:=Yc2 (i:Int) l;rw [decide_eq_false (λz=>by
       obtain ⟨q,hq,e⟩:=yn.mp z;have:=lt' q hq;omega)] at e
      cases ev:Jtk (kvI l) (yau (i:Int)) with
      |none=>rfl
      |some v=>rw [ev] at e;cases e
     rw [Sn,Yer _ nv];unfold kvI;rw [yag];rfl
    ·intro q hq;rcases yay.mp hq with hq|hq
     ·have:=lt' q hq;omega
     ·rw [yal.mp hq];show (i:Int) < ((i+1:Nat):Int);omega
    ·rw [yag,List.nodup_append];refine ⟨sk.1,by simp,λx hx y hy e=>?_⟩;obtain ⟨q,hq,rfl⟩:=yn.mp hx;have:=lt' q hq;have hy':y=(i:Int):=by simpa using hy
     omega
    ·intro q hq;rcases yay.mp hq with hq|hq
     ·exact sk.2 q hq
     ·rw [yal.mp hq];exact ⟨by show (0:Int)<=(i:Int);omega,C,hC,q0,q1⟩
    ·obtain ⟨x1,x2,x3,e⟩:=b4.2;exact ⟨x1,x2,x3,by rw [Jnc (yx ndp)];exact e⟩
    ·intro b o e;rw [Jnc (Jnd e hd0)];exact keep sm3 b4 _ _ e
   ·exact Y9 (λz=>c0 (V.int.inj z)) ⟨_,_,l,rfl,hd3,λq hq=>by have:=lt' q hq;omega,sk,by omega,b3.2,sm3⟩
  ·rintro σ H' ⟨o4,o5,l,rfl,hds,lt',sk,ll,st,sm⟩;rw [bll] at ll;refine ⟨_,rfl,d,_,rfl,hds,λo=>k _ l _ (λb u e=>?_) ⟨d,o,rfl,Sn⟩ sk ll⟩;rw [Jnc (Jnd e hd0)];exact sm _ _ e
inductive Ssa (vs:List V) (H:Hp) (Q:VK) (z3:XK):Prop where
 |mk (n:Int) (_:vs= [.int n]) (_:Q (.bl true) H)
inductive Yde (K:Sd) (H:Hp) (p q:S1):Prop where
 |mk (xs ys:List V) (d:PyData) (b:Nat) (_:Su K H p xs) (_:Su K H q ys) (_:xs.length=ys.length) (_:(∀(i:Nat) x y,xs[i]?=some x->ys[i]?=some y->Ydg K H x y true)) (_:ShV K H (.ref p) d) (_:ShV K H (.ref q) d) (_:Rp d b 60) (_:b<=8000)
inductive Yh4 (K:Sd) (vs:List V) (H:Hp) (Q:VK) (z3:XK):Prop where
 |mk (p q:S1) (_:vs= [.ref p,.ref q]) (_:Yde K H p q) (_:Q (.bl true) H)
noncomputable def Svt (K:Sd) (H:Hp) (S:Riv) (x:V) (b:Bool):Prop:=if b=true then Tm K H x/\Jnp x 0 (((stL S).length:Nat) - 1)=false else ∃r,PrT K H x r/\stB S r=false
inductive Yh3 (K:Sd) (a:Ad) (vs:List V) (H:Hp) (Q:VK) (z3:XK):Prop where
 |mk (s:S1) (S:Riv) (Gs:List Jnt) (sk:Option (List (Int×Int))) (x:V) (b:Bool) (_:vs= [.ref s,x,.bl b]) (_:Se5 K a H s S Gs sk) (_:Jzt S) (_:Svt K H S x b) (_:∀t H',Si H H'->H' t=some (.tup [.str (if b=true then "number" else "standing"),x,.bl true])->Q (.ref t) H')
theorem Jzh:Jne ["_law_found"] ["_law_found"] (Jnb (top 90)):=%[|0]
theorem Jz9 (T:Tx K mg a):So P w K mg base CX0 1 a.Jlz a.Jm0 ["_law_found"] Ssa:=by
 refine %[T.Jac.fn.ok,Jzh|2]
 ·obtain ⟨n,rfl,_⟩:=h;rfl
 ·obtain ⟨n,rfl,k⟩:=h;refine ⟨?t,?B,?C⟩
  case B=>
   refine' Sy ?O0
   case O0=>exact (Jnh (Jt9 (Jng Jop (by rfl) T.Jax Jnr (Sj (pv 0) (Sj (Jp6 (v:=.ty "int") (by rfl) T.Jaw Yab rfl) Sk))) (Jrz (Yay (Jng Jop (by rfl) T.Jax Jnr (Sj (pv 0) (Sj (Jp6 (v:=.ty "bool") (by rfl) T.Jat Ybi rfl) Sk)))))))
  refine ⟨_,rfl,_,_,_,_,_,rfl,rfl,.of (.int n),(by rfl:Se K (.type "int") (.type "int")=some true),_,rfl,Jp0 ?_⟩;exact ⟨_,rfl,_,_,_,_,_,rfl,rfl,.of (.int n),(by rfl:Se K (.type "int") (.type "bool")=some false),_,rfl,k⟩
theorem Yz:Jne ["_law_one","_law_other"] ["_law_one","_law_other"] (Jnb (top 93)):=%[|0]
theorem Yj (T:Tx K mg a):So P w K mg base CX0 1 a.Jm5 a.Jm6 ["_law_one","_law_other"] (Yh4 K):=by
 refine %[T.Jaf.fn.ok,Yz|2]
 ·obtain ⟨p,q,rfl,_⟩:=h;rfl
 ·obtain ⟨p,q,rfl,⟨xs,ys,d,b,hp,hq,ln,sd,s1,s2,rp,hb⟩,k⟩:=h;have hu64:=Jtp hr;have hu100:=Ye3 hr;have hgd:=hr.gd;refine ⟨?t,?B,?C⟩
  case B=>
   refine' Sy ?O0
   case O0=>exact (Jnh (Jt9 (Jqr (Ygj hu100) (pv 0) (pv 1) (Joc _)) (Jrz (Jqr Jrh (Jng (Jy3 hgd hu64) (by rfl) T.Jb3 Ybk (Sj (pv 0) Sk)) (Jng (Jy3 hgd hu64) (by rfl) T.Jb3 Ybk (Sj (pv 1) Sk)) (Joc _)))))
  refine ⟨_,rfl,_,rfl,p,q,xs,ys,yw xs.length true,rfl,rfl,hp,hq,ln,by simp,λi x y c e1 e2 e3=>?_,?_⟩
  ·have hc:c=true:=by
    rw [List.getElem?_replicate] at e3;split at e3
    ·exact (yz.inj e3).symm
    ·cases e3
   rw [hc];exact sd i x y e1 e2
  rw [Jzu];refine ⟨_,rfl,Jp0 ?_⟩;refine ⟨_,rfl,p,d,b,rfl,s1,rp,hb,?_⟩;refine ⟨_,rfl,q,d,b,rfl,s2,rp,hb,rfl,?_⟩;rw [decide_eq_true rfl];exact k
theorem San:Jne ["_law_some","_law_thing","_law_by_number","_law_told","e"] ["_law_some","_law_thing","_law_by_number"] (Jnb (top 92)):=%[|0]
theorem Jwv (T:Tx K mg a):So P w K mg base CX0 5 a.Jm3 a.Jm4 ["_law_some","_law_thing","_law_by_number"] (Yh3 K a):=by
 have Sau:=%[Jpz|1];have Sak:=%[Jpi|1];refine %[T.Jae.fn.ok,San|2]
 ·obtain ⟨s,S,Gs,sk,x,b,rfl,_⟩:=h;rfl
 ·obtain ⟨s,S,Gs,sk,x,b,rfl,sg,s4,no,k⟩:=h;refine ⟨?t,?B,?C⟩
  case B=>
   refine' Sw ?O0 ?O1
   case O0=>exact (Jnk (i:=3) San.nd rfl (yf rfl) Jpp)
   case O1=>
   refine' Sw ?O2 ?O3
   case O2=>exact (Snl ⟨rfl,rfl⟩ (λ_ _ hw=>(Sy (Jo1 (Ys (pv 2) (λ_=>rfl)) (Sy (Jp5 (Yo (pv 0) T.Jec T.Jej Sak hw hr (by decide) T.Jde.bd (Sj (pv 1) Sk)))) (Sy (Jp5 (Yo (pv 0) T.Jec T.Jei Sau hw hr (by decide) T.Jdd.bd (Sj (pv 1) Sk))))))) (by exact Sl7 T.Je5 T.Jbi San.nd (i:=4) rfl rfl (λ_=>(Sy (Jnk (i:=3) San.nd rfl (yf rfl) (Jnz (Sj Jpf (Sj (Ybw (pv 4) (by rfl)) (Sj (Jt9 (Jng Jop (by rfl) T.Jax Jnr (Sj (pv 4) (Sj (Joi (by rfl) T.Jba (v:=.ref _) rfl) Sk))) (Jrz (Yay (Jng Jop (by rfl) T.Jax Jnr (Sj (pv 4) (Sj (Joi (by rfl) T.Jbk (v:=.ref _) rfl) Sk)))))) Sk))))))) (by exact Sl7 T.Je8 T.Jbk San.nd (i:=4) rfl rfl (λ_=>(Sy (Jnk (i:=3) San.nd rfl (yf rfl) (Jnz (Sj Jpf (Sj (Ybw (pv 4) (by rfl)) (Sj (Jt9 (Jng Jop (by rfl) T.Jax Jnr (Sj (pv 4) (Sj (Joi (by rfl) T.Jba (v:=.ref _) rfl) Sk))) (Jrz (Yay (Jng Jop (by rfl) T.Jax Jnr (Sj (pv 4) (Sj (Joi (by rfl) T.Jbi (v:=.ref _) rfl) Sk)))))) Sk))))))) Sng)))
   case O3=>
   refine' Sy ?O4
   case O4=>exact (Jnh (pv 3))
  obtain ⟨dx,o,rw_,L,pl,F,en,rs,us,vs,h1,h2,h3,h4,h5,h6,h7,h8⟩:=id sg;cases b with
  |true=>
   refine λpins=>⟨_,rfl,_,rfl,Jp0 ⟨_,rfl,s,dx,_,rfl,h1,rfl,_,rfl,s,S,Gs,sk,x,rfl,sg,no.1,.inr ⟨no.2,?_⟩⟩⟩;intro c eo H1 rf;obtain ⟨e,dx,rfl,rfl,s1,q1,q2⟩:=rf;have ty:TyX K H1 (.ref e) (.ref a.Jmt):=.exc q1 q2 T.Je7;refine ⟨e,_,false,rfl,rfl,T.Jh7,Jok ⟨e,_,true,rfl,rfl,T.Jh6,Jp0 ?_⟩⟩;refine ⟨_,rfl,e,_,_,_,dx,_,_,_,rfl,q1,q2,T.Je7,T.Jfn,rfl,?_⟩;refine ⟨_,rfl,_,_,_,_,_,rfl,rfl,ty,T.Jh4,_,rfl,Jp0 ⟨_,rfl,_,_,_,_,_,rfl,rfl,ty,T.Jh2,_,rfl,?_⟩⟩;exact ⟨(show 3<=S6 by decide),λt ht=>⟨_,rfl,k t _ (s1.trans (Si.upd ht)) Sn⟩⟩
  |false=>
   refine λpins=>⟨_,rfl,_,rfl,Jok ⟨_,rfl,s,dx,_,rfl,h1,rfl,_,rfl,s,S,Gs,sk,x,rfl,sg,s4,.inr ?_⟩⟩;obtain ⟨r,pr,er⟩:=no;refine ⟨r,pr,er,?_⟩;intro c eo H1 rf;obtain ⟨e,dx,rfl,rfl,s1,q1,q2⟩:=rf;have ty:TyX K H1 (.ref e) (.ref a.Jmr):=.exc q1 q2 T.Je4;refine ⟨e,_,true,rfl,rfl,T.Jh8,Jp0 ?_⟩;refine ⟨_,rfl,e,_,_,_,dx,_,_,_,rfl,q1,q2,T.Je4,T.Jfm,rfl,?_⟩;refine ⟨_,rfl,_,_,_,_,_,rfl,rfl,ty,T.Jh5,_,rfl,Jp0 ⟨_,rfl,_,_,_,_,_,rfl,rfl,ty,T.Jh3,_,rfl,?_⟩⟩;exact ⟨(show 3<=S6 by decide),λt ht=>⟨_,rfl,k t _ (s1.trans (Si.upd ht)) Sn⟩⟩
theorem Ya {i:Int} (h:i.natAbs<=10^40):i.natAbs.log2 < 1920:=by
 by_cases c:i.natAbs=0
 ·rw [c];decide
 ·exact (Nat.log2_lt c).mpr (Nat.lt_of_le_of_lt h (by decide +kernel))
theorem Jpw {K:Sd} {H:Hp}:∀ns:List Int,Sap K H (ns.map V.int) (ns.map PyData.int):=by
 intro ns
 induction ns with
 |nil=>exact .nil
 |cons n ns ih=>exact .cons (.int n) ih
noncomputable def Thg (K:Sd) (H:Hp) (x:V):Prop:=Srm x/\((∃d b,Sbb K H x d/\Rp d b 40/\b<=1000)\/∃c,x= .ref c/\H c=some (.dK []))
theorem Ya9 {H:Hp} {l:S1} {xs:List V} {r:Int} (_:H l=some (.lst xs)) (h0:0<=r) (h1:r < xs.length):∃v,v∈xs/\atI xs r=some v:=Ydh h0 h1
theorem Jsa {K:Sd} {H H':Hp} {a:S1} {xs:List V} (s:Si H H') (h:Ss K H a xs):Ss K H' a xs:=by
 rcases h with (h|⟨o,h⟩)|h
 ·exact .inl (.inl (s _ _ h))
 ·exact .inl (.inr ⟨o,s _ _ h⟩)
 ·exact .inr h
theorem Yfe {K:Sd} {H H':Hp} {a:S1} {xs:List V} (s:Si H H') (h:Su K H a xs):Su K H' a xs:=by
 rcases h with (h|⟨o,h⟩)|h
 ·exact .inl (.inl (s _ _ h))
 ·exact .inl (.inr ⟨o,s _ _ h⟩)
 ·exact .inr h
mutual
theorem Sbb.same {K:Sd} {H H':Hp} (s:Si H H'):∀{x} {d},Sbb K H x d->Sbb K H' x d
 |_,_,.non=>.non
 |_,_,.bl b=>.bl b
 |_,_,.int i=>.int i
 |_,_,.str z=>.str z
 |_,_,.lst hq hd=>.lst (Jsa s hq) (Sap.same s hd)
 |_,_,.tup hq hd=>.tup (Yfe s hq) (Sap.same s hd)
theorem Sap.same {K:Sd} {H H':Hp} (s:Si H H'):∀{xs:List V} {ds:List PyData},Sap K H xs ds->Sap K H' xs ds
 |_,_,.nil=>.nil
 |_,_,.cons h t=>.cons (Sbb.same s h) (Sap.same s t)
end
theorem Jw7 {ns:List Int} (h:∀n∈ns,n.natAbs<=10^40):Rp (.tuple (ns.map PyData.int)) ns.length 1:=by
 have q:=Rp.tup (b:=0) (t:=0) (ds:=ns.map PyData.int) λd hd=>by
  obtain ⟨n,hn,rfl⟩:=yn.mp hd;exact Rp.int (Ya (h n hn))
 rw [ye,Nat.zero_add,Nat.one_mul] at q;exact q
theorem rp3 {ds:List PyData} (h:∀d∈ds,Rp d 12 3) (hl:ds.length<=3):Rp (.tuple ds) 40 4:=(Rp.tup h).mono (yae (Nat.mul_le_mul_left _ hl) (by decide)) (by decide)
theorem Ss2 {ds:List PyData} (h:∀d∈ds,Rp d 12 3) (hl:ds.length<=3):Rp (.list ds) 40 4:=(Rp.lst h).mono (yae (Nat.mul_le_mul_left _ hl) (by decide)) (by decide)
noncomputable def Sit (K:Sd) (H:Hp) (lo hi:Int) (v:V):Prop:=Tm K H v/\Jnp v lo hi=false/\∃d,Sbb K H v d/\Rp d 1 1
theorem Sit.same {K:Sd} {H H':Hp} {lo hi:Int} {v:V} (s:Si H H') (h:Sit K H lo hi v):Sit K H' lo hi v:=⟨h.1.same s,h.2.1,let ⟨d,x,r⟩:=h.2.2;⟨d,Sbb.same s x,r⟩⟩
theorem Sap.set {K:Sd} {H:Hp} {v:V} {d:PyData} (h:Sbb K H v d):∀{xs:List V} {ds:List PyData} (j:Nat),Sap K H xs ds->Sap K H (xs.set j v) (ds.set j d):=by
 intro xs
 induction xs with
 |nil=>intro ds j q;cases q;exact .nil
 |cons x xs ih=>
  intro ds j q;cases q with
  |cons q1 q2=>
   cases j with
   |zero=>exact .cons h q2
   |succ j=>exact .cons q1 (ih j q2)
theorem Sp4 {vs:List V} {ls hs:List Int} {j:Nat} {v:V} {l h:Int} (e1:vs[j]?=some v) (e2:ls[j]?=some l) (e3:hs[j]?=some h) (b:Jnp v l h=false):(wl vs ls hs).all id=false:=by
 obtain ⟨l',h',q1,q2,q3⟩:=Ybe (ls:=ls) (hs:=hs) e1 (by rw [yi,e2];rfl) (by rw [yi,e3];rfl);cases q1;cases q2;rw [b] at q3;cases e:(wl vs ls hs).all id with
 |false=>rfl
 |true=>exact absurd (yaz.mp e _ (yq q3)) (by decide)
noncomputable def NoS (K:Sd) (H:Hp) (S:Riv) (x:V):Prop:=(∃r,PrT K H x r/\stB S r=false)/\Thg K H x
theorem Jr8 {K:Sd} {H:Hp} {S:Riv} {p:S1} {u w:V} {r:Option (List V)} {d1 d2:PyData} (g:H p=some (.tup [u,w])) (rt:Shh K H u r) (tw:Tm K H w) (b:stB S (.two u w r)=false) (x1:Sbb K H u d1) (x2:Sbb K H w d2) (r1:Rp d1 12 3) (r2:Rp d2 12 3):NoS K H S (.ref p):=
 ⟨⟨.two u w r,⟨p,rfl,g,rt,tw⟩,b⟩,.inr ⟨p,rfl⟩,.inl ⟨_,40,.tup (Su.of g) (.cons x1 (.cons x2 .nil)),(rp3 (all_cons r1 (all_cons r2 Jpl)) (by simp)).mono (yg _) (by decide),by decide⟩⟩
theorem Sn9 {K:Sd} {H:Hp} {S:Riv} {sts:List Int} {j:Nat} {v:V} {B:Bsn} {G T0 q0 q1 q2 q3 u4 q4 u5 q5 u6 q6 q7 q8 q9 q14 q15 q16:S1} (ln:sts.length=S.Bs.length) (n1:1<=S.Bs.length) (n4:S.Bs.length<=4) (hj:S.Bs[j]?=some B) (bv:Sit K H B.lo B.hi v) (hs:∀n∈sts,n.natAbs<=10^40) (hc:0<=S.c/\S.c<=12)
  (gG:H G=some (.tup (sts.map V.int))) (gT:H T0=some (.tup ((sts.map V.int).set j v))) (g0:H q0=some (.tup [.ref T0,.int S.c])) (g1:H q1=some (.tup [.ref G,.int (S.c+1)])) (g2:H q2=some (.tup [.ref G,.int (-1)])) (g3:H q3=some (.tup [.ref G,.non]))
  (g4a:H u4=some (.tup (sts.map V.int++ [.int 1]))) (g4:H q4=some (.tup [.ref u4,.int 0])) (g5a:H u5=some (.tup ((sts.map V.int).drop 1))) (g5:H q5=some (.tup [.ref u5,.int 0])) (g6a:H u6=some (.lst (sts.map V.int))) (g6:H q6=some (.tup [.ref u6,.int 0]))
  (g7:H q7=some (.lst [.ref G,.int 0])) (g8:H q8=some (.tup [.ref G])) (g9:H q9=some (.tup [.ref G,.int 0,.int 0])) (g14:H q14=some (.dK [])) (g15:H q15=some (.tup [.ref G,.bl true])) (g16:H q16=some (.tup [.non,.int 0])):
  ∀y∈ [V.ref q0,.ref q1,.ref q2,.ref q3,.ref q4,.ref q5]++ [.ref q6,.ref q7,.ref q8,.ref q9,.ref G,.non,.int 0,.str "",.ref q14,.ref q15,.ref q16],NoS K H S y:=by
 have tmi:∀n:Int,Tm K H (.int n):=λn=>.inl ⟨n,rfl⟩;have tms:∀v∈sts.map V.int,Tm K H v:=λv hv=>by
  obtain ⟨n,_,rfl⟩:=yn.mp hv;exact tmi n
 have sl:(sts.map V.int).length=S.Bs.length:=by rw [ye];exact ln
 have rG:Shh K H (.ref G) (some (sts.map V.int)):=⟨G,rfl,gG,tms,by omega⟩;have dG:Sbb K H (.ref G) (.tuple (sts.map PyData.int)):=.tup (Su.of gG) (Jpw sts);have pG:Rp (.tuple (sts.map PyData.int)) 12 3:=(Jw7 hs).mono (by omega) (by decide);have p0:∀n:Int,n.natAbs<=10^40->Rp (.int n) 12 3:=λn h=>(Rp.int (Ya h)).mono (by decide) (by decide);have wc:∀(w:V) (u:V) (r:Option (List V)),Jnp w 0 S.c=false->stB S (.two u w r)=false:=λw u r h=>by
  show (Jnp w 0 S.c&&_)=false;rw [h];rfl
 have rowf:∀(w:V) (u:V) (r:Option (List V)),Yv r (S.Bs.map (·.lo)) (S.Bs.map (·.hi))=false->stB S (.two u w r)=false:=λw u r h=>by
  show (_&&Yv r _ _)=false;rw [h,Bool.and_false]
 have lenf:∀vs:List V,vs.length≠S.Bs.length->Yv (some vs) (S.Bs.map (·.lo)) (S.Bs.map (·.hi))=false:=λvs h=>by
  show (decide (vs.length=(S.Bs.map (·.lo)).length)&&_)=false;rw [decide_eq_false (by rw [ye];exact h)];rfl
 have nol:∀{y:V} {t:S2},TyX K H y t->Se K t (.type "tuple")=some false->∃r,PrT K H y r/\stB S r=false:=λh e=>⟨.no,⟨_,h,e⟩,rfl⟩;have oth:∀{p:S1} {vs:List V},H p=some (.tup vs)->vs.length≠2->∃r,PrT K H (.ref p) r/\stB S r=false:=λh e=>⟨.oth _,⟨_,rfl,h,e⟩,rfl⟩;refine all_cons ?_ (all_cons ?_ (all_cons ?_ (all_cons ?_ (all_cons ?_ (all_cons ?_ (all_cons ?_ (all_cons ?_ (all_cons ?_ (all_cons ?_ (all_cons ?_ (all_cons ?_ (all_cons ?_ (all_cons ?_ (all_cons ?_ (all_cons ?_ (all_cons ?_ Jpl))))))))))))))))
 ·obtain ⟨tm,wb,d,dv,rd⟩:=bv;have hjl:j < S.Bs.length:=(yj.mp hj).1;have ej:((sts.map V.int).set j v)[j]?=some v:=by rw [ycm,if_pos rfl,if_pos (by omega)]
  refine Jr8 g0 (r:=some ((sts.map V.int).set j v)) ⟨T0,rfl,gT,λx hx=>?_,by rw [ybl];omega⟩ (tmi _) (rowf _ _ _ ?_) (.tup (Su.of gT) (Sap.set dv j (Jpw sts))) (.int _) ?_ (p0 _ (by omega))
  ·rcases ycp hx with h|h
   ·exact tms x h
   ·rw [h];exact tm
  ·show (_&&(wl _ _ _).all id)=false;rw [Sp4 ej (by rw [yi,hj];rfl) (by rw [yi,hj];rfl) wb,Bool.and_false]
  ·refine (Rp.tup (b:=1) (t:=1) λx hx=>?_).mono (by rw [ybl,ye];omega) (by decide);rcases ycp hx with h|h
   ·obtain ⟨n,hn,rfl⟩:=yn.mp h;exact (Rp.int (Ya (hs n hn))).mono (by decide) (by decide)
   ·rw [h];exact rd
 ·exact Jr8 g1 rG (tmi _) (wc _ _ _ (by simp [Jnp];omega)) dG (.int _) pG (p0 _ (by omega))
 ·exact Jr8 g2 rG (tmi _) (wc _ _ _ (by simp [Jnp])) dG (.int _) pG (p0 _ (by decide))
 ·exact Jr8 g3 rG (.inr ⟨_,.of .non,rfl⟩) (wc _ _ _ rfl) dG .non pG (Rp.non.mono (by decide) (by decide))
 ·have e:(sts.map V.int++ [.int 1]:List V)=(sts++ [1]).map V.int:=by rw [yag];rfl
  rw [e] at g4a;refine Jr8 g4 (r:=some ((sts++ [1]).map V.int)) ⟨u4,rfl,g4a,λx hx=>?_,by rw [ye,yab,ln];show _+1<=40;omega⟩ (tmi _) (rowf _ _ _ (lenf _ (by rw [ye,yab,ln];show _+1≠_;omega))) (.tup (Su.of g4a) (Jpw _)) (.int _) ((Jw7 λn hn=>?_).mono (by rw [yab,ln];show _+1<=_;omega) (by decide)) (p0 _ (by decide))
  ·obtain ⟨n,_,rfl⟩:=yn.mp hx;exact tmi n
  ·rcases yay.mp hn with h|h
   ·exact hs n h
   ·rw [yal.mp h];decide
 ·have e:(sts.map V.int).drop 1=(sts.drop 1).map V.int:=List.map_drop.symm;rw [e] at g5a;have dl:(sts.drop 1).length=S.Bs.length - 1:=by rw [ybj,ln]
  refine Jr8 g5 (r:=some ((sts.drop 1).map V.int)) ⟨u5,rfl,g5a,λx hx=>?_,by rw [ye];omega⟩ (tmi _) (rowf _ _ _ (lenf _ (by rw [ye];omega))) (.tup (Su.of g5a) (Jpw _)) (.int _) ((Jw7 λn hn=>hs n (List.mem_of_mem_drop hn)).mono (by omega) (by decide)) (p0 _ (by decide));obtain ⟨n,_,rfl⟩:=yn.mp hx;exact tmi n
 ·have pl:Rp (.list (sts.map PyData.int)) 12 3:=(Rp.lst (b:=0) (t:=0) λd hd=>by
   obtain ⟨n,hn,rfl⟩:=yn.mp hd;exact Rp.int (Ya (hs n hn))).mono (by rw [ye];omega) (by decide)
  exact Jr8 g6 (r:=none) ⟨_,.of (.lst g6a),rfl⟩ (tmi _) (rowf _ _ _ rfl) (.lst (Ss.of g6a) (Jpw sts)) (.int _) pl (p0 _ (by decide))
 ·refine ⟨nol (.of (.lst g7)) rfl,.inr ⟨_,rfl⟩,.inl ⟨_,40,.lst (Ss.of g7) (.cons dG (.cons (.int 0) .nil)),(Ss2 (all_cons pG (all_cons (p0 _ (by decide)) Jpl)) (by simp)).mono (yg _) (by decide),by decide⟩⟩
 ·refine ⟨oth g8 (by simp),.inr ⟨_,rfl⟩,.inl ⟨_,40,.tup (Su.of g8) (.cons dG .nil),(rp3 (all_cons pG Jpl) (by simp)).mono (yg _) (by decide),by decide⟩⟩
 ·refine ⟨oth g9 (by simp),.inr ⟨_,rfl⟩,.inl ⟨_,40,.tup (Su.of g9) (.cons dG (.cons (.int 0) (.cons (.int 0) .nil))),(rp3 (all_cons pG (all_cons (p0 _ (by decide)) (all_cons (p0 _ (by decide)) Jpl))) (by simp)).mono (yg _) (by decide),by decide⟩⟩
 ·refine ⟨?_,.inr ⟨_,rfl⟩,.inl ⟨_,12,dG,pG.mono (yg _) (by decide),by decide⟩⟩;by_cases c:sts.length=2
  ·obtain ⟨n,k,rfl⟩:∃n k,sts= [n,k]:=by
    match sts,c with
    | [n,k],_=>exact ⟨n,k,rfl⟩
   exact ⟨.two (.int n) (.int k) none,⟨G,rfl,gG,⟨_,.of (.int n),rfl⟩,tmi _⟩,rowf _ _ _ rfl⟩
  ·exact oth gG (by rw [ye];exact c)
 ·exact ⟨nol (.of .non) rfl,.inl rfl,.inl ⟨_,0,.non,Rp.non.mono (yg _) (by decide),by decide⟩⟩
 ·exact ⟨nol (.of (.int 0)) rfl,.inl rfl,.inl ⟨_,12,.int 0,(p0 _ (by decide)).mono (yg _) (by decide),by decide⟩⟩
 ·exact ⟨nol (.of (.str _)) rfl,.inl rfl,.inl ⟨_,_,.str _,(Rp.str (by decide)).mono (yg _) (by decide),by decide⟩⟩
 ·exact ⟨nol (.of (.dK g14)) rfl,.inr ⟨_,rfl⟩,.inr ⟨_,rfl,g14⟩⟩
 ·exact Jr8 g15 rG (.inr ⟨_,.of (.bl true),rfl⟩) (wc _ _ _ rfl) dG (.bl true) pG ((Rp.bl true).mono (by decide) (by decide))
 ·exact Jr8 g16 (r:=none) ⟨_,.of .non,rfl⟩ (tmi _) (rowf _ _ _ rfl) .non (.int 0) (Rp.non.mono (by decide) (by decide)) (p0 _ (by decide))
inductive Ss9 (K:Sd) (vs:List V) (H:Hp) (Q:VK) (z3:XK):Prop where
 |mk (p:S1) (x:V) (R:Jpg) (S:Riv) (m:Int) (_:vs= [x,.int m]) (_:Sfq p H x R) (_:Jst R) (_:Jvf R S) (_:Jzt S) (_:∀(y:V) (H':Hp),Si H H'->NoS K H' S y->Q y H')
theorem Sa1:Jne ["_law_told","_law_m","_law_levels","_law_at","_law_low","_law_high","_law_good","_law_some"] ["_law_told","_law_m"] (Jnb (top 91)):=%[|0]
theorem Jt6 (T:Tx K mg a):So P w K mg base CX0 1 a.Jm1 a.Jm2 ["_law_told","_law_m"] (Ss9 K):=by
 refine %[T.Jad.fn.ok,Sa1|2]
 ·obtain ⟨p,x,R,S,m,rfl,_⟩:=h;rfl
 ·obtain ⟨p,x,R,S,m,rfl,⟨t,lb,lt,bs,ts,rfl,ht,hb,btl,htt,ttl,nb,nt⟩,rg,lk,s4,k⟩:=h;refine ⟨?t,?B,?C⟩
  case B=>
   refine' Sw ?O0 ?O1
   case O0=>exact (Ju1 (i:=2) (N:=(["_law_one"]:List Str)) (ini:=[none]) Sa1.nd rfl (yf rfl) rfl (Jo8 (Jno Jns (pv 0) Sr (λ_ _=>rfl))) (λ_ _ _ _ _=>(Jnf (i:=0) (by decide +kernel:(["_law_one"]:List Str).Nodup) rfl (yf rfl))) (λ_ _ _ _ _=>Jnw) (λ_ _ _ _ _=>(Jno (Jvy (K:=K) rfl) (pv 0) Sr (λ_ _=>rfl))))
   case O1=>
   refine' Sw ?O2 ?O3
   case O2=>exact (Jnk (i:=3) Sa1.nd rfl (yf rfl) (Jnj Jpn (Jnj Jqi (pv 1) Sr) (Jng Jnm (by rfl) T.Jay Joh (Sj (pv 2) Sk))))
   case O3=>
   refine' Sw ?O4 ?O5
   case O4=>exact (Jx3 (Jpj Yb8 (Jno Joe (Jno Jns (pv 0) Sr (λ_ _=>rfl)) (pv 3) (λ_ _=>rfl)) (Jp7 Sr) (Jp7 Sr)) (Jr9 rfl (Jnq (Jnf (i:=4) Sa1.nd rfl (yf rfl)) (Jnq (Jnf (i:=5) Sa1.nd rfl (yf rfl)) Jp4))))
   case O5=>
   refine' Sw ?O6 ?O7
   case O6=>
    refine' Jx3 ?O8 ?O9
    case O8=>
     refine' Jno ?Oa ?Ob ?Oc ?Od
     case Oa=>exact Joe
     case Ob=>
      refine' Jo3 ?Oe
      case Oe=>
      refine' pa7 ?Of ?Og ?Oh ?Oi ?Oj ?Ok ?Ol
      case Of=>exact (Jnj Joq (pv 4) Sr)
      case Og=>exact (Jnj Jnv (pv 5) Sr)
      case Oh=>exact Joy
      case Oi=>exact Jpp
      case Oj=>exact Jpf
      case Ok=>exact (Jo3 (Sj (pv 4) Sk))
      case Ol=>exact (Jnj Joq (pv 4) (Jnj Jza Sr Sr))
     case Oc=>exact (Jnj Jpn (pv 1) Sr)
     case Od=>exact (λ_ _=>rfl)
    case O9=>exact (Jzb (pv 2) (pv 3) Js9)
   case O7=>
   refine' Sw ?Om ?On
   case Om=>exact (Jnk (i:=6) Sa1.nd rfl (yf rfl) (Jny Jof (by rfl) T.Jb8 Joo (Sj (Jnx (N:=(["_law_one"]:List Str)) (ini:=[none]) rfl (Jo8 (Jno Jns (pv 0) Sr (λ_ _=>rfl))) (λ_ _ _ _ _=>(Jnf (i:=0) (by decide +kernel:(["_law_one"]:List Str).Nodup) rfl (yf rfl))) (λ_ _ _ _ _=>Jnw) (λ_ _ _ _ _=>(Jno (Jvy (K:=K) rfl) (pv 0) Sr (λ_ _=>rfl)))) Sk)))
   case On=>
   refine' Sw ?Oo ?Op
   case Oo=>exact (Jnk (i:=7) Sa1.nd rfl (yf rfl) (Jo3 (pa6 (Jnz (Sj (Jny Jof (by rfl) T.Jb8 Joo (Sj (pv 2) Sk)) (Sj (Jno Jns (pv 0) Sr (λ_ _=>rfl)) Sk))) (Jnz (Sj (pv 6) (Sj (Jnj Jnv (Jno Jns (pv 0) Sr (λ_ _=>rfl)) Sr) Sk))) (Jnz (Sj (pv 6) (Sj (Ybx Jzr Sr) Sk))) (Jnz (Sj (pv 6) (Sj Jpp Sk))) (Jnz (Sj (Jnj Jw3 (pv 6) (Jnz (Sj Sr Sk))) (Sj Sr Sk))) (Jnz (Sj (Jpj Yb8 (pv 6) (Jp7 Sr) Jsi) (Sj Sr Sk))))))
   case Op=>
   refine' Sw ?Oq ?Or
   case Oq=>exact (Jnk (i:=7) Sa1.nd rfl (yf rfl) (Jnj Jt8 (pv 7) (Jo3 (Sxe (Jnz (Sj (Jny Jpv (by rfl) T.Jaz Jpu (Sj (pv 6) Sk)) (Sj Sr Sk))) (Jo3 (Sj (pv 6) (Sj Sr Sk))) (Jnz (Sj (pv 6) Sk)) (Jnz (Sj (pv 6) (Sj Sr (Sj Sr Sk)))) (pv 6) Jpp Sr Jpf Jtz (Jnz (Sj (pv 6) (Sj Joy Sk))) (Jnz (Sj Jpp (Sj Sr Sk)))))))
   case Or=>
   refine' Sy ?Os
   case Os=>exact (Jnh (Jno Joe (pv 7) (Jnj Jpn (Jnj Jpn (Jnj Jqi (pv 1) Sr) Sr) Sr) (λ_ _=>rfl)))
  have bll:=btl.len;have ll:=Jrr lk;have n1:=rg.n.1;have n4:=s4.n4;have starts:∀(Ha:Hp),Si H Ha->∀(i:Nat) (x y:V),bs[i]?=some x->((R.Bs.map (·.st)).map V.int)[i]?=some y->∃t5 C gv,x= .ref t5/\Ha t5=some (.tup [.str C.z,.int C.lo,.int C.hi,.int C.st,.int C.rn,gv])/\y= .int C.st/\R.Bs[i]?=some C:=by
   intro Ha sa i x y hx hy;obtain ⟨C,hC,t5,gv,rfl,ht5,gt⟩:=btl.get hx;rw [yi,yi,hC] at hy;cases hy;exact ⟨t5,C,gv,rfl,sa _ _ ht5,rfl,hC⟩
  refine ⟨_,rfl,t,_,2,_,rfl,rfl,Su.of ht,rfl,lb,rfl,⟨_,Ss.of hb⟩,λL hL=>?_⟩;refine Jsy ((R.Bs.map (·.st)).map V.int) hL (by simp [bll]) (by omega) hb ?_ ?_
  ·intro i x y H' Q' hx hy sm k';obtain ⟨t5,C,gv,rfl,h5,rfl,_⟩:=starts H' sm i x y hx hy;exact ⟨_,rfl,t5,_,3,_,rfl,rfl,Su.of h5,rfl,k' _ (Si.refl _)⟩
  intro H1 s1 hL1;have len:(((R.Bs.map (·.st)).map V.int).length:Int)=R.Bs.length:=by simp
  refine ⟨_,rfl,_,_,rfl,rfl,⟨by decide,Jpx (by decide)⟩,_,rfl,L,_,rfl,.inl (Ss.of hL1),_,_,rfl,rfl,by omega,?_⟩;rw [len];have a0:=ybd (m/16) (show (R.Bs.length:Int)≠0 by omega);have a1:=ybe (m/16) (show 0 < (R.Bs.length:Int) by omega);obtain ⟨j,ej⟩:∃j:Nat,m/16%(R.Bs.length:Int)=j:=⟨(m/16%(R.Bs.length:Int)).toNat,by omega⟩;rw [ej];have hj:j < R.Bs.length:=by omega
  have hjb:j < bs.length:=by omega
  obtain ⟨C,hC,t5,gv,e5,ht5,gt⟩:=btl.get (yh hjb);refine ⟨_,rfl,t,_,2,_,rfl,rfl,Su.of (s1 _ _ ht),rfl,_,rfl,lb,_,_,_,rfl,rfl,Ss.of (s1 _ _ hb),Jsx rfl (by rw [yh hjb,e5]),?_⟩;refine ⟨_,rfl,_,rfl,t5,_,rfl,Su.of (s1 _ _ ht5),(by show ¬(HT.sIx 6 0 (some 1)=0/\HT.sIx 6 6 (some 3)=6);decide),λp2 hp2=>?_⟩;rw [show Jqt [V.str C.z,.int C.lo,.int C.hi,.int C.st,.int C.rn,gv] (some 1) (some 3)= [.int C.lo,.int C.hi] from rfl];generalize ep2:upd H1 p2 _=H2;obtain ⟨tp2,fp2⟩:=Jq0 ep2 hp2;refine ⟨p2,_,rfl,Su.of fp2,rfl,_,_,rfl,_,_,rfl,rfl,?_⟩;refine ⟨_,rfl,_,_,rfl,rfl,_,rfl,_,_,rfl,rfl,_,rfl,(show 1<=S6 by decide),λl1 hl1=>⟨_,rfl,_,_,rfl,rfl,⟨by decide,by decide,by decide⟩,_,_,rfl,rfl,(show 7<=S6 by decide),λl7 hl7=>?_⟩⟩;generalize el1:upd H2 l1 _=H3;obtain ⟨tl1,f1l⟩:=Jq0 el1 hl1;rw [el1] at hl7;generalize el7:upd H3 l7 _=H4;obtain ⟨tl7,f7l⟩:=Jq0 el7 hl7;have m0:=ybd m (show (7:Int)≠0 by decide);have m1:=ybe m (show (0:Int) < 7 by decide);obtain ⟨v,hv,hat⟩:=Ya9 f7l m0 m1;refine ⟨_,rfl,_,_,rfl,rfl,by decide,l7,_,_,v,rfl,rfl,Ss.of f7l,hat,?_⟩;have hL2:=tp2 _ _ hL1;have hL4:=tl7 _ _ (tl1 _ _ hL2);have g1:=tl7 _ _ f1l;have s4':=((s1.trans tp2).trans tl1).trans tl7;have nl1:l1≠L:=λz=>by rw [z,hL2] at hl1;cases hl1
  have hix:ixN ((R.Bs.map (·.st)).map V.int).length ((j:Nat):Int)=some j:=Ybr (by simp;exact hj);refine ⟨_,rfl,_,rfl,L,_,_,j,rfl,rfl,hL4,hix,?_⟩;generalize e5':upd H4 L _=H5;have s5:Si H H5:=λb u e=>by
   rw [<-e5',Jnc (Jnd e hL)];exact s4' _ _ e
  have g1':H5 l1=some (.lst [V.int C.lo]):=by
   rw [<-e5',Jnc nl1];exact g1
  have hL5:H5 L=some (.lst (((R.Bs.map (·.st)).map V.int).set j v)):=by rw [<-e5'];exact Sn
  obtain ⟨B,hB,ek⟩:=Jw0 lk hC;have e1:B.lo=C.lo:=congrArg (·.2.1) ek;have e2:B.hi=C.hi:=congrArg (·.2.2.1) ek;have bg:=(rg.Bs C (yq hC)).1;have bg1:=bg.lo;have bg2:=bg.hi;have bv:Sit K H5 B.lo B.hi v:=by
   rw [e1,e2];have r1:∀n:Int,n.natAbs<=10^40->Rp (.int n) 1 1:=λn h=>(Rp.int (Ya h)).mono (by decide) (by decide);refine all_cons ?_ (all_cons ?_ (all_cons ?_ (all_cons ?_ (all_cons ?_ (all_cons ?_ (all_cons ?_ Jpl)))))) v hv
   ·exact ⟨.inl ⟨_,rfl⟩,by simp [Jnp];omega,_,.int _,r1 _ (by omega)⟩
   ·exact ⟨.inl ⟨_,rfl⟩,by simp [Jnp];omega,_,.int _,r1 _ (by omega)⟩
   ·exact ⟨.inr ⟨_,.of (.bl _),rfl⟩,rfl,_,.bl _,(Rp.bl _).mono (by decide) (by decide)⟩
   ·exact ⟨.inr ⟨_,.of .non,rfl⟩,rfl,_,.non,Rp.non.mono (by decide) (by decide)⟩
   ·exact ⟨.inr ⟨_,.of (.str _),rfl⟩,rfl,_,.str _,(Rp.str (by decide)).mono (by decide) (by decide)⟩
   ·refine ⟨.inr ⟨_,.of (.lst g1'),rfl⟩,rfl,_,.lst (Ss.of g1') (Jpw [C.lo]),(Rp.lst (b:=0) (t:=0) λd hd=>?_).mono (yg 1) (by decide)⟩;rw [yal.mp hd];exact Rp.int (Ya (by omega))
   ·have ep:(10:Int)^Int.toNat 20=100000000000000000000:=by decide
    rw [ep];exact ⟨.inl ⟨_,rfl⟩,by simp [Jnp];omega,_,.int _,r1 _ (by omega)⟩
  refine ⟨_,rfl,t,_,2,_,rfl,rfl,Su.of (s5 _ _ ht),rfl,lb,rfl,⟨_,Ss.of (s5 _ _ hb)⟩,λL2 hL2'=>?_⟩;refine Jsy ((R.Bs.map (·.st)).map V.int) hL2' (by simp [bll]) (by omega) (s5 _ _ hb) ?_ ?_
  ·intro i x y H' Q' hx hy sm k';obtain ⟨t5,C,gv,rfl,h5,rfl,_⟩:=starts H' (s5.trans sm) i x y hx hy;exact ⟨_,rfl,t5,_,3,_,rfl,rfl,Su.of h5,rfl,k' _ (Si.refl _)⟩
  intro H6 s6 hL6;refine ⟨L2,_,rfl,.inl ⟨Ss.of hL6,λG hG=>?_⟩⟩;generalize eG:upd H6 G _=H7;obtain ⟨tG,fG⟩:=Jq0 eG hG;have s8:=(s5.trans s6).trans tG;refine ⟨_,rfl,L,_,rfl,.inl ⟨Ss.of (tG _ _ (s6 _ _ hL5)),λT0 hT0=>?_⟩⟩;generalize eT0:upd H7 T0 _=H8;obtain ⟨tT0,fT⟩:=Jq0 eT0 hT0;refine ⟨_,rfl,t,_,0,_,rfl,rfl,Su.of (tT0 _ _ (s8 _ _ ht)),rfl,(show 2<=S6 by decide),λq0 hq0=>?_⟩;generalize eq0:upd H8 q0 _=H9;obtain ⟨tq0,f0⟩:=Jq0 eq0 hq0;refine ⟨_,rfl,_,rfl,t,_,0,_,rfl,rfl,Su.of (tq0 _ _ (tT0 _ _ (s8 _ _ ht))),rfl,_,_,rfl,rfl,(show 2<=S6 by decide),λq1 hq1=>?_⟩;generalize eq1:upd H9 q1 _=H10;obtain ⟨tq1,f1⟩:=Jq0 eq1 hq1;refine ⟨_,rfl,_,rfl,(show 2<=S6 by decide),λq2 hq2=>?_⟩;generalize eq2:upd H10 q2 _=H11;obtain ⟨tq2,f2⟩:=Jq0 eq2 hq2;refine ⟨_,rfl,(show 2<=S6 by decide),λq3 hq3=>?_⟩;generalize eq3:upd H11 q3 _=H12;obtain ⟨tq3,f3⟩:=Jq0 eq3 hq3;refine ⟨_,rfl,(show 1<=S6 by decide),λp1 hp1=>?_⟩;generalize ep1:upd H12 p1 _=H13;obtain ⟨tp1,fp⟩:=Jq0 ep1 hp1;have fG':=tp1 _ _ (tq3 _ _ (tq2 _ _ (tq1 _ _ (tq0 _ _ (tT0 _ _ fG)))));refine ⟨G,p1,_,_,rfl,rfl,fG',fp,Job _ (by rw [ye,ye];show _+1<=2000;omega),λu4 H14 tu4 f4a=>?_⟩;refine ⟨(show 2<=S6 by decide),λq4 hq4=>?_⟩;generalize eq4:upd H14 q4 _=H15;obtain ⟨tq4,f4⟩:=Jq0 eq4 hq4;have fG2:=tq4 _ _ (tu4 _ _ fG');refine ⟨_,rfl,_,rfl,G,_,rfl,Su.of fG2,?_,λu5 hu5=>?_⟩
  ·rw [ye,ye];rintro ⟨h,_⟩;have h':min 1 R.Bs.length=0:=h;omega
  rw [show Jqt ((R.Bs.map (·.st)).map V.int) (some 1) none=((R.Bs.map (·.st)).map V.int).drop 1 from Y4 _ 1 (by simp;omega)];generalize eu5:upd H15 u5 _=H16;obtain ⟨tu5,f5a⟩:=Jq0 eu5 hu5;refine ⟨(show 2<=S6 by decide),λq5 hq5=>?_⟩;generalize eq5:upd H16 q5 _=H17;obtain ⟨tq5,f5⟩:=Jq0 eq5 hq5;refine ⟨(show 6<=S6 by decide),λl6 hl6=>?_⟩;generalize el6:upd H17 l6 _=H18;obtain ⟨tl6,fl6⟩:=Jq0 el6 hl6;have fG3:=tl6 _ _ (tq5 _ _ (tu5 _ _ fG2));refine ⟨_,rfl,_,rfl,G,_,rfl,.inr (Su.of fG3),λu6 hu6=>?_⟩;generalize eu6:upd H18 u6 _=H19;obtain ⟨tu6,f6a⟩:=Jq0 eu6 hu6;refine ⟨(show 2<=S6 by decide),λq6 hq6=>?_⟩;generalize eq6:upd H19 q6 _=H20;obtain ⟨tq6,f6⟩:=Jq0 eq6 hq6;refine ⟨_,rfl,(show 2<=S6 by decide),λq7 hq7=>?_⟩;generalize eq7:upd H20 q7 _=H21;obtain ⟨tq7,f7⟩:=Jq0 eq7 hq7;refine ⟨_,rfl,(show 1<=S6 by decide),λq8 hq8=>?_⟩;generalize eq8:upd H21 q8 _=H22;obtain ⟨tq8,f8⟩:=Jq0 eq8 hq8;refine ⟨_,rfl,(show 3<=S6 by decide),λq9 hq9=>?_⟩;generalize eq9:upd H22 q9 _=H23;obtain ⟨tq9,f9⟩:=Jq0 eq9 hq9;refine ⟨_,rfl,λq14 hq14=>?_⟩;generalize eq14:upd H23 q14 _=H24;obtain ⟨tq14,f14⟩:=Jq0 eq14 hq14;refine ⟨_,rfl,(show 2<=S6 by decide),λq15 hq15=>?_⟩;generalize eq15:upd H24 q15 _=H25;obtain ⟨tq15,f15⟩:=Jq0 eq15 hq15;refine ⟨(show 2<=S6 by decide),λq16 hq16=>?_⟩;generalize eq16:upd H25 q16 _=H26;obtain ⟨tq16,f16⟩:=Jq0 eq16 hq16;refine ⟨(show 11<=S6 by decide),λl11 hl11=>?_⟩;generalize el11:upd H26 l11 _=H27;obtain ⟨tl11,f11⟩:=Jq0 el11 hl11;refine ⟨l6,l11,_,_,rfl,rfl,(tl11 _ _ (tq16 _ _ (tq15 _ _ (tq14 _ _ (tq9 _ _ (tq8 _ _ (tq7 _ _ (tq6 _ _ (tu6 _ _ fl6))))))))),f11,(show 6+11<=S6 by decide),λM hM=>?_⟩;generalize eM:upd H27 M _=H28;obtain ⟨tM,fM⟩:=Jq0 eM hM;have zl11:=tM;have zq16:=tl11.trans zl11;have zq15:=tq16.trans zq16;have zq14:=tq15.trans zq15;have zq9:=tq14.trans zq14;have zq8:=tq9.trans zq9;have zq7:=tq8.trans zq8;have zq6:=tq7.trans zq7;have zu6:=tq6.trans zq6;have zl6:=tu6.trans zu6;have zq5:=tl6.trans zl6;have zu5:=tq5.trans zq5;have zq4:=tu5.trans zu5;have zu4:=tq4.trans zq4;have zp1:=tu4.trans zu4;have zq3:=tp1.trans zp1;have zq2:=tq3.trans zq3;have zq1:=tq2.trans zq2;have zq0:=tq1.trans zq1;have zT0:=tq0.trans zq0;have zG:=tT0.trans zT0;rw [<-lk.c] at f0 f1;have sts40:∀n∈R.Bs.map (·.st),n.natAbs<=10^40:=λn hn=>by
   obtain ⟨D,hD,rfl⟩:=yn.mp hn;have b1:=(rg.Bs D hD).1.lo;have b2:=(rg.Bs D hD).1.hi;have b3:=(rg.Bs D hD).1.st;omega
  have all:=Sn9 (K:=K) (S:=S) (sts:=R.Bs.map (·.st)) (by rw [ye];exact ll.symm) (by omega) n4 hB (bv.same ((s6.trans tG).trans zG)) sts40 s4.c (zG _ _ fG) (zT0 _ _ fT) (zq0 _ _ f0) (zq1 _ _ f1) (zq2 _ _ f2) (zq3 _ _ f3) (zu4 _ _ f4a) (zq4 _ _ f4) (zu5 _ _ f5a) (zq5 _ _ f5) (zu6 _ _ f6a) (zq6 _ _ f6) (zq7 _ _ f7) (zq8 _ _ f8) (zq9 _ _ f9) (zq14 _ _ f14) (zq15 _ _ f15) (zq16 _ _ f16);have w0:=ybd (m/112%34) (show (17:Int)≠0 by decide);have w1:=ybe (m/112%34) (show (0:Int) < 17 by decide);obtain ⟨y,hy,haty⟩:=Ya9 fM w0 w1;exact ⟨_,rfl,_,rfl,_,_,rfl,rfl,⟨by decide,Jpx (by decide)⟩,_,_,rfl,rfl,by decide,_,_,rfl,rfl,by decide,M,_,_,y,rfl,rfl,Ss.of fM,haty,k y _ (s8.trans zG) (all y hy)⟩
theorem Yb {R:Jpg} {S:Riv} (lk:Jvf R S) {B:Bsn} (h:B∈S.Bs):∃C∈R.Bs,Jtm B=Jvs C:=by
 have q:Jtm B∈R.Bs.map Jvs:=by rw [<-lk.Bs];exact ybc h
 obtain ⟨C,hC,e⟩:=yn.mp q;exact ⟨C,hC,e.symm⟩
theorem Sk8 {α:Type} {n:Nat} (u:List α) (e:u.length=n+1):∃a r,u=a::r/\r.length=n:=by
 cases u with
 |nil=>cases e
 |cons a r=>exact ⟨a,r,rfl,by simpa using e⟩
theorem Sn5 {α:Type} (u:List α) (e:u.length=1):∃a,u= [a]:=by
 obtain ⟨a,r,rfl,z⟩:=Sk8 u e;rw [List.eq_nil_of_length_eq_zero z];exact ⟨a,rfl⟩
theorem Sri {α:Type} (u:List α) (e:u.length=2):∃a b,u= [a,b]:=by
 obtain ⟨a,r,rfl,z⟩:=Sk8 u e;obtain ⟨b,rfl⟩:=Sn5 r z;exact ⟨a,b,rfl⟩
theorem Srj {α:Type} (u:List α) (e:u.length=3):∃a b c,u= [a,b,c]:=by
 obtain ⟨a,r,rfl,z⟩:=Sk8 u e;obtain ⟨b,c,rfl⟩:=Sri r z;exact ⟨a,b,c,rfl⟩
theorem Sxa {α:Type} (u:List α) (e:u.length=4):∃a b c d,u= [a,b,c,d]:=by
 obtain ⟨a,r,rfl,z⟩:=Sk8 u e;obtain ⟨b,c,d,rfl⟩:=Srj r z;exact ⟨a,b,c,d,rfl⟩
noncomputable def rrF (c:Nat) (rs:List Nat):Int:=(rs.foldl (λws r=>wsS c r ws) (1::yw c 0)).sum
theorem Ss3 (S:Riv):rrN S=rrF S.c.toNat (S.Bs.map λB=>B.rn.toNat):=by
 unfold rrN rrF wsN;rw [ybo,List.foldl_map]
theorem rr1:∀c < 13,∀a < 7,rrF c [a]<=7:=by decide +kernel
theorem rr2:∀c < 3,∀a < 3,∀b < 3,rrF c [a,b]<=6:=by decide +kernel
theorem rr3:∀c < 2,∀a < 2,∀b < 2,∀d < 2,rrF c [a,b,d]<=4:=by decide +kernel
theorem rr4:∀c < 2,∀a < 2,∀b < 2,∀d < 2,∀e < 2,rrF c [a,b,d,e]<=5:=by decide +kernel
theorem Sxb {x y z X Y Z:Int} (x0:0<=x) (y0:0<=y) (z0:0<=z) (hx:x<=X) (hy:y<=Y) (hz:z<=Z):x*y*z<=X*Y*Z:=
 ycq (ycq hx hy y0 (ybf x0 hx)) hz z0 (Int.mul_nonneg (ybf x0 hx) (ybf y0 hy))
structure Sqr (S:Riv) (sk:Option (List (Int×Int))):Prop where
 s4:Jzt S
 st:stN S<=2000
 wg:wgN S sk<=4000
theorem Yed {S:Riv} {sk:Option (List (Int×Int))} {n L C M T:Nat} {k:Int} (hn:S.Bs.length=n) (hL:∀B∈S.Bs,1<=lvN B/\lvN B<=(L:Int)) (l1:1<=L) (hc:0<=S.c/\S.c+1<=(C:Int)) (hM:∀x∈Jpc S sk,x.length<=M) (m1:1<=M) (hT:S.Ts.length+1<=T) (h4:n<=4) (c12:S.c<=12) (hk:rrN S<=k) (k4:(L:Int)^n*C*((M:Int)^n*T)*k<=4000) (k2:(L:Int)^n*C<=2000):stN S<=2000/\wgN S sk<=4000:=by
 have q1:=Jzd (b:=(L:Int)) (by omega) (S.Bs.map lvN) λx hx=>by
  obtain ⟨B,hB,rfl⟩:=yn.mp hx;have:=hL B hB;omega
 rw [ye,hn] at q1;have ll:=Jun S sk;have q2:=Jzd (b:=(M:Int)) (by omega) ((Jpc S sk).map λr=>(r.length:Int)) λx hx=>by
  obtain ⟨y,hy,rfl⟩:=yn.mp hx;have:=hM y hy;omega
 rw [ye,ll,hn] at q2;have rb:=Yex (R:=S) (by omega) ⟨hc.1,c12⟩;have a1:stN S<=(L:Int)^n*C:=ycq q1.2 hc.2 (by omega) (ybf q1.1 q1.2);have a0:0<=stN S:=Int.mul_nonneg q1.1 (by omega);have b1:chN S sk<=(M:Int)^n*T:=ycq q2.2 (by omega) (by omega) (ybf q2.1 q2.2);have b0:0<=chN S sk:=Int.mul_nonneg q2.1 (by omega);exact ⟨ybf a1 k2,ybf (Sxb a0 b0 rb.1 a1 b1 hk) k4⟩
theorem Yg8 {R:Jpg} {S:Riv} {M:Nat} (lk:Jvf R S) (sk:Option (List (Int×Int))) (m1:1<=M) (h:∀C∈R.Bs,nOf C.G<=M):∀x∈Jpc S sk,x.length<=M:=by
 have go:∀(l:List (Int×Int)) (rs:List (List Int)),(∀x∈rs,x.length<=M)->∀x∈l.foldl (λrs p=>rs.set p.1.toNat [p.2]) rs,x.length<=M:=by
  intro l
  induction l with
  |nil=>exact λrs h=>h
  |cons p l ih=>
   refine λrs h=>ih _ λx hx=>?_;rcases ycp hx with q|rfl
   ·exact h x q
   ·exact m1
 refine go _ _ λx hx=>?_;obtain ⟨B,hB,rfl⟩:=yn.mp hx;obtain ⟨C,hC,ek⟩:=Yb lk hB;have e:B.n=nOf C.G:=congrArg (·.2.2.2.2.2) ek;rw [Joj,e];exact h C hC
theorem Yec {R:Jpg} {S:Riv} {sk:Option (List (Int×Int))} (lg:Ydd R) (rg:Jst R) (lk:Jvf R S):Sqr S sk:=by
 obtain ⟨n,L,C,M,T,r,hm,hn,hC,hT,hB⟩:=lg;have ll:=Jrr lk;have tl:S.Ts.length=R.Ts.length:=by have:=congrArg List.length lk.Ts;simpa using this
 have ec:=lk.c;have gc:=rg.c;have bas:∀B∈S.Bs,(1<=lvN B/\lvN B<=(L:Int))/\(0<=B.lo/\B.lo<=12)/\lvN B<=13/\0<=B.rn/\B.rn < (r:Int)/\B.rn<=6:=λB hB'=>by
  obtain ⟨D,hD,ek⟩:=Yb lk hB';have e1:B.lo=D.lo:=congrArg (·.2.1) ek;have e2:B.hi=D.hi:=congrArg (·.2.2.1) ek;have e4:B.rn=D.rn:=congrArg (·.2.2.2.2.1) ek;have g:=(rg.Bs D hD).1;have g1:=g.lo;have g2:=g.hi;have g4:=g.rn;have l:=hB D hD;have l1:=l.s;have l2:=l.r;unfold lvN;omega
 have nof:∀D∈R.Bs,1<=M->nOf D.G<=M:=λD hD h1=>by
  have l:=(hB D hD).m;unfold nOf;split <;> omega
 have rns:∀x∈S.Bs.map λB=>B.rn.toNat,x < r:=λx hx=>by
  obtain ⟨B,hB',rfl⟩:=yn.mp hx;have:=bas B hB';omega
 have rl:(S.Bs.map λB=>B.rn.toNat).length=n:=by rw [ye];omega
 have main:∀(k:Int),n<=4->1<=L->1<=M->1<=r->r^n<=1000->(L:Int)^n*C*((M:Int)^n*T)*k<=4000->(L:Int)^n*C<=2000->rrN S<=k->Sqr S sk:=λk h4 l1 m1 r1 rp k4 k2 hk=>by
  obtain ⟨w1,w2⟩:=Yed (sk:=sk) (n:=n) (T:=T) (by omega) (λB hB'=>(bas B hB').1) l1 (C:=C) ⟨by omega,by omega⟩ (Yg8 lk sk m1 λD hD=>nof D hD m1) m1 (by omega) h4 (by omega) hk k4 k2;refine ⟨⟨by omega,λB hB'=>?_,by omega,r,r1,by rw [ll,hn];exact rp,λB hB'=>?_⟩,w1,w2⟩
  ·have:=bas B hB';omega
  ·have:=bas B hB';omega
 have cc:S.c.toNat < C:=by omega
 rw [Ss3] at main;generalize (S.Bs.map λB=>B.rn.toNat)=rs at*;generalize S.c.toNat=c at*;simp only [yo,yar,or_false,Prod.mk.injEq] at hm;rcases hm with ⟨rfl,rfl,rfl,rfl,rfl,rfl⟩|⟨rfl,rfl,rfl,rfl,rfl,rfl⟩|⟨rfl,rfl,rfl,rfl,rfl,rfl⟩|⟨rfl,rfl,rfl,rfl,rfl,rfl⟩|⟨rfl,rfl,rfl,rfl,rfl,rfl⟩
 ·refine main 7 (by decide) (by decide) (by decide) (by decide) (by decide) (by decide) (by decide) ?_;obtain ⟨a,rfl⟩:=Sn5 rs rl;exact rr1 c (by omega) a (by have:=rns a (by simp);omega)
 ·refine main 7 (by decide) (by decide) (by decide) (by decide) (by decide) (by decide) (by decide) ?_;obtain ⟨a,rfl⟩:=Sn5 rs rl;exact rr1 c (by omega) a (by have:=rns a (by simp);omega)
 ·refine main 6 (by decide) (by decide) (by decide) (by decide) (by decide) (by decide) (by decide) ?_;obtain ⟨a,b,rfl⟩:=Sri rs rl;exact rr2 c cc a (rns a (by simp)) b (rns b (by simp))
 ·refine main 4 (by decide) (by decide) (by decide) (by decide) (by decide) (by decide) (by decide) ?_;obtain ⟨a,b,d,rfl⟩:=Srj rs rl;exact rr3 c cc a (rns a (by simp)) b (rns b (by simp)) d (rns d (by simp))
 ·refine main 5 (by decide) (by decide) (by decide) (by decide) (by decide) (by decide) (by decide) ?_;obtain ⟨a,b,d,e,rfl⟩:=Sxa rs rl;exact rr4 c cc a (rns a (by simp)) b (rns b (by simp)) d (rns d (by simp)) e (rns e (by simp))
inductive spLaw (K:Sd) (vs:List V) (H:Hp) (Q:VK) (z3:XK):Prop where
 |mk (a:S1) (ns:List Int) (_:vs= [.ref a]) (_:Ss K H a (ns.map V.int)) (_:ns.length<=63) (_:∀H',Q (.bl true) H')
theorem Yee {α:Type} {R:Jpg} {S:Riv} (h:Jvf R S) (f:Str×Int×Int×Int×Int×Nat->α):S.Bs.map (λB=>f (Jtm B))=R.Bs.map (λB=>f (Jvs B)):=by
 have e1:S.Bs.map (λB=>f (Jtm B))=(S.Bs.map Jtm).map f:=by rw [yaw];rfl
 have e2:R.Bs.map (λB=>f (Jvs B))=(R.Bs.map Jvs).map f:=by rw [yaw];rfl
 rw [e1,e2,h.Bs]
theorem Sno {K:Sd} {a:Ad} {H:Hp} {o:S1} {S:Riv} {R:Jpg} (ro:Sal K a H o S) (lk:Jvf R S) (rg:Jst R) (gx:GXL a H (S.Bs.map (·.g)) (R.Bs.map (·.G))):RvX K a H o S (R.Bs.map (·.G)):=by
 have hl:=Jrr lk;have hz:S.Bs.map (·.z)=R.Bs.map (·.z):=Yee lk (·.1);refine ⟨ro,gx,by rw [ye];exact hl,λT hT=>?_,by have:=rg.n;omega,λi B G hB hG=>?_⟩
 ·have:(T.z,T.b,T.wt)∈R.Ts.map (λB=>(B.z,B.b,B.wt)):=by rw [<-lk.Ts];exact ybc (f:=λB:Twn=>(B.z,B.b,B.wt)) hT
  obtain ⟨C,hC,e⟩:=yn.mp this;have q:=rg.Ts C hC;have e2:C.b=T.b:=congrArg (·.2.1) e;have e3:C.wt=T.wt:=congrArg (·.2.2) e;rw [hz,<-e2,<-e3];exact ⟨q.2.2.1,q.2.2.2.1,q.2.2.2.2⟩
 ·rw [yi] at hG;obtain ⟨C,hC,rfl⟩:=yba.mp hG;have k1:(S.Bs.map Jtm)[i]?=some (Jtm B):=by rw [yi,hB];rfl
  rw [lk.Bs,yi,hC] at k1;have e:Jvs C=Jtm B:=yz.inj k1;have bg:=(rg.Bs C (yq hC)).1;have e1:C.lo=B.lo:=congrArg (·.2.1) e;have e2:C.hi=B.hi:=congrArg (·.2.2.1) e;have e3:nOf C.G=B.n:=congrArg (·.2.2.2.2.2) e;exact ⟨bg.G,e3.symm,by rw [<-e1];exact bg.lo.1,by rw [<-e2];exact bg.hi.2⟩
theorem Sfq.same {p:S1} {H H':Hp} {x:V} {R:Jpg} (rg:Jst R) (s:Si H H') (h:Sfq p H x R):Sfq p H' x R:=by
 obtain ⟨t,lb,lt,bs,ts,e,ht,hb,btl,htt,ttl,nb,nt⟩:=h;exact ⟨t,lb,lt,bs,ts,e,s _ _ ht,s _ _ hb,btl.map (λ_ _ _ h=>h.same s) (λB hB=>(rg.Bs B hB).1),s _ _ htt,ttl.map λ_ _ h=>h.same s,nb,nt⟩
theorem Ss6 {R:Jpg} {S:Riv} {l:List (Int×Int)} (lk:Jvf R S) (rg:Jst R) (h:SkT R l) (hl:l.length<=R.Bs.length):Jvg S (some l):=by
 intro l' e;cases e;refine ⟨yae hl rg.n.2,h.1,λq hq=>?_⟩;obtain ⟨h0,C,hC,c0,c1⟩:=h.2 q hq;obtain ⟨B,hB,ek⟩:=Jw0 lk hC;have e:B.n=nOf C.G:=congrArg (·.2.2.2.2.2) ek;exact ⟨h0,B,hB,c0,by rw [e];exact c1⟩
theorem Y8 (l:List Int):PyData.canLayAll0 (l.map PyData.int)=true/\PyData.depthAll (l.map PyData.int)=0:=by
 induction l with
 |nil=>exact ⟨rfl,rfl⟩
 |cons c r ih=>exact ⟨by simp only [yan,PyData.canLayAll0,PyData.canLay0,ih.1,Bool.and_self],by simp [PyData.depthAll,PyData.depth,ih.2]⟩
theorem Jre (ns:List Int):SeqAt.shaped (.tuple (ns.map PyData.int))=true/\PyData.eqv (.tuple (ns.map PyData.int)) (.tuple (ns.map PyData.int))=true:=by
 have e:=Y8 ns;have c:PyData.canLay0 (.tuple (ns.map PyData.int))=true:=by simp [PyData.canLay0,e.1]
 exact ⟨by simp [SeqAt.shaped,c,PyData.depth,e.2],SeqAt.eqv_refl _ c⟩
theorem Jtj (ns:List Int) (wt:Int):SeqAt.shaped (.tuple [.tuple (ns.map PyData.int),.int wt])=true/\PyData.eqv (.tuple [.tuple (ns.map PyData.int),.int wt]) (.tuple [.tuple (ns.map PyData.int),.int wt])=true:=by
 have e:=Y8 ns;have c:PyData.canLay0 (.tuple [.tuple (ns.map PyData.int),.int wt])=true:=by simp [PyData.canLay0,PyData.canLayAll0,e.1]
 exact ⟨by simp [SeqAt.shaped,c,PyData.depth,PyData.depthAll,e.2],SeqAt.eqv_refl _ c⟩
theorem Sb2.dat {K:Sd} {H:Hp} {x:V} {ls:List Int} {wt:Int} (h:Sb2 H x ls wt):Sbb K H x (.tuple [.tuple (ls.map PyData.int),.int wt]):=by
 obtain ⟨t,r,rfl,h1,h2⟩:=h;exact .tup (Su.of h1) (.cons (.tup (Su.of h2) (Jpw ls)) (.cons (.int wt) .nil))
theorem Yef {K:Sd} {H:Hp} {x y:V} {ls:List Int} {wt:Int} (h:Sb2 H x ls wt) (k:Sb2 H y ls wt) (hl:ls.length<=4) (hs:∀n∈ls,n.natAbs<=10^40) (hw:wt.natAbs<=10^40):∃p q,x= .ref p/\y= .ref q/\Yde K H p q:=by
 have d1:=h.dat (K:=K);have d2:=k.dat (K:=K);obtain ⟨t,r,rfl,h1,h2⟩:=h;obtain ⟨t',r',rfl,k1,k2⟩:=k;have rp:Rp (.tuple [.tuple (ls.map PyData.int),.int wt]) 40 4:=rp3 (all_cons ((Jw7 hs).mono (by omega) (by decide)) (all_cons ((Rp.int (Ya hw)).mono (by decide) (by decide)) Jpl)) (by simp);refine ⟨t,t',rfl,rfl,_,_,_,40,Su.of h1,Su.of k1,rfl,λi x y e1 e2=>?_,.inl d1,.inl d2,rp.mono (yg _) (by decide),by decide⟩
 match i,e1,e2 with
 |0,e1,e2=>
  cases e1;cases e2;exact .inr ⟨_,_,.tup (Su.of h2) (Jpw ls),.tup (Su.of k2) (Jpw ls),(Jre ls).1,(Jre ls).1,(Jre ls).2⟩
 |1,e1,e2=>
  cases e1;cases e2;exact .inl (Scy.self (.inl rfl))
 |i+2,e1,_=>simp at e1
theorem Jwm {K:Sd} {H:Hp} {t1 t2:S1} {z:Str} {x:V} (hz:z.cps.toList.all (λc=>decide (c < 16^8))=true) (hn:z.cps.size<=1000) (g1:H t1=some (.tup [.str z,x,.bl true])) (g2:H t2=some (.tup [.str z,x,.bl true])) (th:Thg K H x):Yde K H t1 t2:=by
 have sd:∀(i:Nat) (u v:V),[V.str z,x,.bl true][i]?=some u-> [V.str z,x,.bl true][i]?=some v->Ydg K H u v true:=λi u v e1 e2=>by
  rw [e1] at e2;cases e2;have m:=yq e1;simp only [yo,yar,or_false] at m;rcases m with rfl|rfl|rfl
  ·exact .inl (Scy.self (.inl rfl))
  ·exact .inl (Scy.self th.1)
  ·exact .inl (Scy.self (.inl rfl))
 have r1:Rp (.str z) 1000 40:=(Rp.str hz).mono hn (by decide);have r3:Rp (.bool true) 1000 40:=(Rp.bl true).mono (by decide) (by decide);rcases th.2 with ⟨d,b,dv,rp,hb⟩|⟨c,rfl,hc⟩
 ·refine ⟨_,_,.tuple [.str z,d,.bool true],3003,Su.of g1,Su.of g2,rfl,sd,.inl (.tup (Su.of g1) (.cons (.str z) (.cons dv (.cons (.bl true) .nil)))),.inl (.tup (Su.of g2) (.cons (.str z) (.cons dv (.cons (.bl true) .nil)))),(Rp.tup (all_cons r1 (all_cons (rp.mono hb (yg _)) (all_cons r3 Jpl)))).mono (by simp) (by decide),by decide⟩
 ·refine ⟨_,_,.tuple [.str z,.dict [],.bool true],3003,Su.of g1,Su.of g2,rfl,sd,.inr ⟨t1,c,z,true,rfl,Su.of g1,hc,rfl⟩,.inr ⟨t2,c,z,true,rfl,Su.of g2,hc,rfl⟩,(Rp.tup (all_cons r1 (all_cons (Rp.dct.mono (by decide) (by decide)) (all_cons r3 Jpl)))).mono (by simp) (by decide),by decide⟩
theorem Thg.same {K:Sd} {H H':Hp} {x:V} (s:Si H H') (h:Thg K H x):Thg K H' x:=by
 refine ⟨h.1,?_⟩;rcases h.2 with ⟨d,b,dv,r⟩|⟨c,e,hc⟩
 ·exact .inl ⟨d,b,Sbb.same s dv,r⟩
 ·exact .inr ⟨c,e,s _ _ hc⟩
theorem Sbp:Jne ["_law_script","_law_told","_law_river_here","_law_stuck_here","_law_some","_law_row","_law_due","_law_number","_law_standing","_law_found","_law_cell_here","_law_thing"] ["_law_script"] (Jnb (top 94)):=%[|0]
theorem ok_law (T:Tx K mg a):So P w K mg base CX0 12 a.a_law a.d_law ["_law_script"] (spLaw K):=by
 have Scg:=%[Yh|1];have Sfz:=%[Jz7|1];have Sgi:=%[Yi|1];have Sg0:=%[Jz8|1];have Sd7:=%[Jts|1];have Seh:=%[Juu|1];have Scu:=%[Jz9|1];have Scm:=%[Jtt|1];have Scf:=%[Jt4|1];have Sfc:=%[Jxm|1];have Sc5:=%[Jsk|1];have Sg3:=%[Yl|1];have Sau:=%[Jpz|1];have Sak:=%[Jpi|1];have Sdb:=%[Yj|1];have Sdw:=%[Jt6|1];have Sda:=%[Jwv|1];refine %[T.f_law.fn.ok,Sbp|2]
 ·obtain ⟨x,ns,rfl,_⟩:=h;rfl
 ·obtain ⟨x,ns,rfl,sq,n63,k⟩:=h;have hu64:=Jtp hr;refine ⟨?t,?B,?C⟩
  case B=>
   refine' Sw ?O0 ?O1
   case O0=>exact (Jnk (i:=1) Sbp.nd rfl (yf rfl) (Jna T.Ja6 Sfz hr (by decide) (Sj (Jna T.Jz Scg hr (by decide) (Sj (pv 0) (Sj Sr Sk))) Sk)))
   case O1=>
   refine' Sw ?O2 ?O3
   case O2=>exact (Jnk (i:=2) Sbp.nd rfl (yf rfl) (Jna T.Ja8 Sgi hr (by decide) (Sj (pv 1) Sk)))
   case O3=>
   refine' Sw ?O4 ?O5
   case O4=>exact (Jnk (i:=3) Sbp.nd rfl (yf rfl) (Jno Joe (Jo3 (Sj Jpp (Sj (Jna T.Jab Sg0 hr (by decide) (Sj (Jna T.Jz Scg hr (by decide) (Sj (pv 0) (Sj Sr Sk))) (Sj (pv 1) Sk))) Sk))) (Jnj Jpn (Jna T.Jz Scg hr (by decide) (Sj (pv 0) (Sj Sr Sk))) Sr) (λ_ _=>rfl)))
   case O5=>
   refine' Sw ?O6 ?O7
   case O6=>exact (Jnk (i:=4) Sbp.nd rfl (yf rfl) (Jqd T.Jed Sd7 (hr.mono (by decide)) (by rfl) T.Jbm T.Jd8.bd .nil Jpa (Sj (pv 2) (Sj (pv 3) Sk))))
   case O7=>
   refine' Sw ?O8 ?O9
   case O8=>exact (Jnk (i:=5) Sbp.nd rfl (yf rfl) (Jna T.Ja9 Seh hr (by decide) (Sj (pv 1) Sk)))
   case O9=>
   refine' Sw ?Oa ?Ob
   case Oa=>
    refine' Jo1 ?Oc ?Od ?Oe
    case Oc=>exact (PW.pt (Js0 (Jo0 (Jo2 (Jna T.Jac Scu hr (by decide) (Sj (Jqk (pv 4) T.Jec T.Jeg Scm (hr.mono (by decide)) T.Jdb.bd .nil Jpa) Sk)))) (Js0 (Jo9 Ym (Jqk (pv 4) T.Jec T.Jeg Scm (hr.mono (by decide)) T.Jdb.bd .nil Jpa) (Jng Jnm (by rfl) T.Jay Joh (Sj (pv 5) Sk)) (Joc _)) (Js1 (Jo9 (Sna hu64) (Jqk (Jnl (pv 4) (by rfl)) T.Jfe T.Jfh Scf (hr.mono (by decide)) T.Jdw.bd .nil Jpa) (Jqk (pv 2) T.Jfe T.Jfh Scf (hr.mono (by decide)) T.Jdw.bd .nil Jpa) (Joc _))))))
    case Od=>
     refine' Sy ?Of
     case Of=>exact (Jnh Joy)
    case Oe=>exact Jnn
   case Ob=>
   refine' Sw ?Og ?Oh
   case Og=>exact (Jnk (i:=6) Sbp.nd rfl (yf rfl) (Jna T.Jaa Sfc hr (by decide) (Sj (pv 1) (Sj (Sne (pv 3) (Jrz Jtz)) Sk))))
   case Oh=>
   refine' Sw ?Oi ?Oj
   case Oi=>
    refine' Jo1 ?Ok ?Ol ?Om
    case Ok=>exact (PW.pt (Js0 (Jo0 (Jo2 (Jna T.Jac Scu hr (by decide) (Sj (Jqk (pv 4) T.Jec T.Jeh Sc5 (hr.mono (by decide)) T.Jdc.bd .nil Jpa) Sk)))) (Js0 (Jo9 Ym (Jqk (pv 4) T.Jec T.Jeh Sc5 (hr.mono (by decide)) T.Jdc.bd .nil Jpa) (pv 6) (Joc _)) (Js1 (Jo9 Ym (Jna T.Jl Sg3.calm hr (by decide) (Sj (pv 2) (Sj (pv 3) Sk))) (pv 6) (Joc _))))))
    case Ol=>
     refine' Sy ?On
     case On=>exact (Jnh Joy)
    case Om=>exact Jnn
   case Oj=>
   refine' Sw ?Oo ?Op
   case Oo=>
    refine' Jox ?Oq ?Or ?Os ?Ot ?Ou
    case Oq=>exact PassesOwn.never
    case Or=>exact rfl
    case Os=>exact (Jw5 (by rfl) T.Jav (Sj (pv 5) Sk))
    case Ot=>exact (Jr9 rfl (Jnq (Jnf (i:=7) Sbp.nd rfl (yf rfl)) (Jnq (Jnf (i:=8) Sbp.nd rfl (yf rfl)) Jp4)))
    case Ou=>
    refine' Sw ?Ov ?Ow
    case Ov=>exact (Jnk (i:=9) Sbp.nd rfl (yf rfl) (Jw4 (pv 4) T.Jec T.Jei Sau.calm (hr.mono (by decide)) T.Jdd.bd .nil Jpa (Sj (pv 8) Sk)))
    case Ow=>
    refine' Sy ?Ox
    case Ox=>
    refine' Jo1 ?Oy ?Oz ?U0
    case Oy=>exact (PW.pt (Js0 (Jo0 (Jo2 (Jna T.Jac Scu hr (by decide) (Sj (pv 9) Sk)))) (Js0 (Jo9 Ym (pv 9) (pv 7) (Joc _)) (Js1 (Jo0 (Jo2 (Jna T.Jaf Sdb hr (by decide) (Sj (Jw4 (pv 4) T.Jec T.Jej Sak.calm (hr.mono (by decide)) T.Jde.bd .nil Jpa (Sj (pv 7) Sk)) (Sj (pv 8) Sk)))))))))
    case Oz=>
     refine' Sy ?U1
     case U1=>exact (Jnh Joy)
    case U0=>exact Jnn
   case Op=>
   refine' Sw ?U2 ?U3
   case U2=>
    refine' Jox ?U4 ?U5 ?U6 ?U7 ?U8
    case U4=>exact PassesOwn.never
    case U5=>exact rfl
    case U6=>exact (Jo8 (Jnj Jt8 (Jpj Jw8 (pv 0) (Jp7 Sr) (Jp7 Sr)) (Jo3 (Sj (Jna T.Jz Scg hr (by decide) (Sj (pv 0) (Sj Sr Sk))) Sk))))
    case U7=>exact (Jnf (i:=10) Sbp.nd rfl (yf rfl))
    case U8=>
    refine' Sw ?U9 ?Ua
    case U9=>exact (Jnk (i:=11) Sbp.nd rfl (yf rfl) (Jna T.Jad Sdw hr (by decide) (Sj (pv 1) (Sj (pv 10) Sk))))
    case Ua=>
    refine' Sw ?Ub ?Uc
    case Ub=>
     refine' Jo1 ?Ud ?Ue ?Uf
     case Ud=>exact (Jo0 (Jo2 (Jna T.Jaf Sdb hr (by decide) (Sj (Jna T.Jae Sda hr (by decide) (Sj (pv 4) (Sj (pv 11) (Sj Joy Sk)))) (Sj (Jnz (Sj Jpf (Sj (pv 11) (Sj Joy Sk)))) Sk)))))
     case Ue=>
      refine' Sy ?Ug
      case Ug=>exact (Jnh Joy)
     case Uf=>exact Jnn
    case Uc=>
    refine' Sw ?Uh ?Ui
    case Uh=>exact (Jnk (i:=11) Sbp.nd rfl (yf rfl) (Jno Joe (Jo3 (Sxd (Ybx Jzr Sr) (Jng Jnm (by rfl) T.Jay Joh (Sj (pv 5) Sk)) Joy Jpp Jpf (Jnz (Sj Sr Sk)) (Jo3 (Sj Sr Sk)) Jtz (Jnj Jza Sr Sr) (Ybx Jzr (Jnj Jza Sr Sr)))) (Jnj Jpn (pv 10) Sr) (λ_ _=>rfl)))
    case Ui=>
    refine' Sy ?Uj
    case Uj=>
    refine' Jo1 ?Uk ?Ul ?Um
    case Uk=>exact (Jo0 (Jo2 (Jna T.Jaf Sdb hr (by decide) (Sj (Jna T.Jae Sda hr (by decide) (Sj (pv 4) (Sj (pv 11) (Sj Joy Sk)))) (Sj (Jnz (Sj Jpf (Sj (pv 11) (Sj Joy Sk)))) Sk)))))
    case Ul=>
     refine' Sy ?Un
     case Un=>exact (Jnh Joy)
    case Um=>exact Jnn
   case U3=>
   refine' Sy ?Uo
   case Uo=>exact (Jnh Joy)
  refine ⟨_,rfl,x,ns,0,rfl,sq,λn0=>⟨n0,rfl,λtv R p H1 hp s1 st rt rg lg=>?_⟩⟩;refine ⟨_,rfl,p,tv,R,rfl,rt,rg,λo S H2 s2 ro lk gx=>?_⟩;have s12:=s1.trans s2;have rt2:=rt.same rg s2;have rv:=Sno ro lk rg gx;refine ⟨_,rfl,x,ns,1,rfl,Jsa s12 sq,λn1=>⟨_,rfl,n1,p,tv,R,rfl,rt2,rg,λsx l H3 s3 sa sk ln=>⟨(show 2<=S6 by decide),λlz hlz=>?_⟩⟩⟩;have s34:=s3.trans (Si.upd (o:=.lst [.non,sx]) hlz);have g4:=Sn (H:=H3) (a:=lz) (o:=.lst [.non,sx]);have sa4:=sa.same (Si.upd (o:=.lst [.non,sx]) hlz);generalize upd H3 lz (.lst [.non,sx])=H4 at*;have s14:=s12.trans s34;refine ⟨_,rfl,x,ns,1,rfl,Jsa s14 sq,λn1'=>⟨_,_,rfl,rfl,by decide,?_⟩⟩;have m0:=ybd n1' (show (2:Int)≠0 by decide);have m1:=ybe n1' (show (0:Int) < 2 by decide);obtain ⟨v,hv,hat⟩:=Ydh (xs:=[V.non,sx]) m0 (by exact m1);refine ⟨lz,_,_,v,rfl,rfl,Ss.of g4,hat,?_⟩;obtain ⟨so,sav,sov,eso⟩:∃so:Option (List (Int×Int)),Sdd H4 v so/\Jvg S so/\(so=none\/so=some l):=by
   simp only [yo,yar,or_false] at hv;rcases hv with rfl|rfl
   ·exact ⟨none,rfl,λl e=>(by cases e),.inl rfl⟩
   ·exact ⟨some l,sa4,Ss6 lk rg sk ln,.inr rfl⟩
  have lg4:=Yec (sk:=so) lg rg lk;have s4:=lg4.s4;have rv4:=rv.same s34;have rt4:=rt2.same rg s34;refine ⟨_,rfl,_,rfl,λpS dxS hpS hdS neS=>?_⟩;have sn:Si H4 (upd (upd H4 dxS (.own pS)) pS (.ins a.Jmv dxS [])):=λb ob e=>by rw [Jnc (Jnd e hpS),Jnc (Jnd e hdS)];exact e
  refine ⟨pS,dxS,o,H4,S,_,v,so,rfl,hpS,sn,Sn,⟨rv4,sav,sov,s4,lg4.wg,lg4.st⟩,λH5 s5 sg=>⟨rfl,?_⟩⟩;have s15:=s14.trans s5;have rt5:=rt4.same rg s5;refine ⟨_,rfl,p,tv,R,S,rfl,rt5,lk,s4,lg4.st,λLr us H6 hLr s6 hLr6 rgr=>?_⟩;have s16:=s15.trans s6;have s46:=s5.trans s6;have sg6:=sg.same s6;have rt6:=rt5.same rg s6;have rv6:=rv4.same s46;have sav6:=sav.same s46;obtain ⟨dxS',oS,rwS,LS,plS,FS,enS,rsS,usS,vsS,h1,h2,h3,h4,h5,h6,h7,h8⟩:=id sg6;obtain ⟨dxr,_,_,_,_,ho,_⟩:=id rv6.ro;obtain ⟨dxr',_,_,_,_,ho',_⟩:=id h2.ro;have ul:=rgr.1;have lv1:∀B∈S.Bs,1<=lvN B:=λB hB=>(s4.lv B hB).1.1;have hc:=s4.c;have sl:=Jzm S lv1 hc.1;have bst:=(rv6.ro);refine ⟨_,rfl,pS,dxS',_,rfl,h1,rfl,pS,S,_,so,rfl,sg6,_,rfl,_,rfl,Jok ?_⟩;refine ⟨_,rfl,pS,dxS',_,rfl,h1,rfl,pS,S,_,so,rfl,sg6,_,rfl,Lr,_,rfl,.inl (Ss.of hLr6),rfl,_,rfl,?_⟩;rw [ul];refine ifF (by simp) ?_;refine ⟨_,rfl,pS,_,dxS',_,_,rfl,h1,T.Jec,T.Jfx,rfl,oS,dxr',_,rfl,ho',rfl,oS,S,rfl,h2.ro,λy1 H7 s7 sd1=>?_⟩;refine ⟨_,rfl,o,dxr,_,rfl,s7 _ _ ho,rfl,o,S,rfl,(rv6.same s7).ro,λy2 H8 s8 sd2=>?_⟩;refine ⟨_,_,(Sb2.same s8 sd1).dat,sd2.dat,(Jtj _ _).1,(Jtj _ _).1,_,rfl,ifF (by rw [(Jtj _ _).2];rfl) ?_⟩;have s68:=s7.trans s8;unfold Slf;dsimp only;refine Jzi (λσ H'=>σ= [some (.ref x),some tv,some (.ref o),some v,some (.ref pS),some (.ref Lr),some (.int (wgN S so)),none,none,none,none,none]/\Si H6 H') (λM hM=>?_) ?_
  ·have rt8:=rt6.same rg s68;have sk0:∀q∈l,0<=q.1:=λq hq=>(sk.2 q hq).1;rcases eso with rfl|rfl
   ·cases sav;refine ⟨_,rfl,_,rfl,.inl ⟨rfl,λd hd=>?_⟩⟩;have s89:=Si.upd (o:=.dK []) hd;exact ⟨p,tv,.ref d,R,S,[],rfl,rt8.same rg s89,rg,lk,s4,⟨d,rfl,.inl Sn⟩,(λq hq=>nomatch hq),λH9 s9=>hM _ _ ⟨rfl,(s68.trans s89).trans s9⟩⟩
   ·obtain ⟨d,od,rfl,hd⟩:=(sav6.same s68);refine ⟨_,rfl,_,rfl,.inr ⟨d,_,rfl,.inr ⟨od,hd⟩,?_⟩⟩;cases l with
    |nil=>
     refine Jp0 λd2 hd2=>?_;have s89:=Si.upd (o:=.dK []) hd2;exact ⟨p,tv,.ref d2,R,S,[],rfl,rt8.same rg s89,rg,lk,s4,⟨d2,rfl,.inl Sn⟩,(λq hq=>nomatch hq),λH9 s9=>hM _ _ ⟨rfl,(s68.trans s89).trans s9⟩⟩
    |cons q l=>
     refine ifF rfl ?_;exact ⟨p,tv,.ref d,R,S,_,rfl,rt8,rg,lk,s4,⟨d,rfl,.inr ⟨od,hd⟩⟩,sk0,λH9 s9=>hM _ _ ⟨rfl,s68.trans s9⟩⟩
  rintro σ H9 ⟨rfl,s69⟩;have sg9:=sg6.same s69;have h19:=s69 _ _ h1;refine ⟨_,rfl,pS,dxS',_,rfl,h19,rfl,pS,S,_,so,rfl,sg9,_,rfl,_,rfl,Jok ?_⟩;refine ⟨_,rfl,pS,dxS',_,rfl,h19,rfl,pS,S,_,so,rfl,sg9,_,rfl,rfl,_,rfl,ifF (by simp) ?_⟩;refine ⟨_,rfl,_,rfl,o,S,v,so,rfl,(rv6.same s69).ro,sav6.same s69,sov,s4.n4,λB hB=>⟨by have:=lv1 B hB;omega,(s4.lv B hB).1.2⟩,hc,λH10 s10=>⟨_,rfl,rfl,_,rfl,ifF (by simp) ?_⟩⟩;have s610:=s69.trans s10;refine ⟨_,rfl,Lr,rfl,⟨_,Ss.of (s610 _ _ hLr6)⟩,?_⟩;refine Jyu (xs:=us) (λi σ H'=>∃(o7 o8 o9:Option V),σ= [some (.ref x),some tv,some (.ref o),some v,some (.ref pS),some (.ref Lr),some (.int (wgN S so)),o7,o8,o9,none,none]/\Si H6 H') ⟨_,_,_,rfl,s610⟩ (λi σ H' _ ⟨_,_,_,_,sm⟩=>Ss.of (sm _ _ hLr6)) ?_ ?_
  ·rintro i y σ H' Ta hy ⟨o7,o8,o9,rfl,sm⟩ hT;have hi:i < (stL S).length:=by rw [<-ul];exact (yj.mp hy).1
   obtain ⟨es,en⟩:=Jzl lv1 hc.1 hi;have sT:=Si.upd (o:=.tup [V.int i,y]) hT;have smT:=sm.trans sT;have sd:=Sb2.same smT (rgr.2 i y _ hy es);have ln:=Ju9 S i S.Bs.length (yg _);have lvi:Yc6 S (stF S i S.Bs.length).1:=λj n B q1 q2=>Yff lv1 S.Bs.length (yg _) j n B q1 q2;have w0:=ybd (i:Int) (show S.c+1≠0 by omega);have w1:=ybe (i:Int) (show 0 < S.c+1 by omega);have small:∀n∈(stF S i S.Bs.length).1,n.natAbs<=10^40:=λn hn=>by
    obtain ⟨j,hj⟩:=ybk hn;have hj':j < S.Bs.length:=by rw [<-ln];exact (yj.mp hj).1
    have b:=lvi j n S.Bs[j] hj (yh hj');have b2:=s4.lv _ (yaq hj');have e:lvN S.Bs[j]=S.Bs[j].hi - S.Bs[j].lo+1:=rfl;omega
   refine ⟨Ta,_,rfl,Su.of Sn,rfl,_,_,rfl,_,_,rfl,rfl,?_⟩;obtain ⟨ty,ry,rfl,hy1,hy2⟩:=id sd;refine ⟨_,rfl,pS,dxS',_,rfl,smT _ _ h1,rfl,_,rfl,pS,S,_,so,_,rfl,sg6.same smT,s4,.inl ⟨_,_,⟨ty,ry,rfl,hy1,hy2,ln⟩,lvi,⟨w0,by omega⟩,λH11 s11=>?_⟩⟩;rw [en];have smU:=smT.trans s11;refine ⟨_,rfl,_,rfl,_,rfl,Jok ⟨_,rfl,_,rfl,rfl,_,rfl,ifF (by simp) ?_⟩⟩;refine ⟨_,rfl,pS,dxS',_,rfl,smU _ _ h1,rfl,_,rfl,pS,S,_,so,_,rfl,sg6.same smU,.inl ⟨_,rfl⟩,.inl ⟨i,_,rfl,es,λu sdu=>?_⟩⟩;obtain ⟨p1,p2,rfl,e2,lt⟩:=Yef (K:=K) sdu (Sb2.same s11 sd) (by have:=s4.n4;show (stF S i S.Bs.length).1.length<=4;omega) small (by show ((i:Int)%(S.c+1)).natAbs<=10^40;omega);cases e2;exact ⟨_,rfl,p1,_,rfl,lt,_,rfl,Jok ⟨_,_,_,rfl,smU⟩⟩
  rintro σ H11 ⟨o7,o8,o9,rfl,s611⟩;have sq11:=Jsa (s16.trans s611) sq;refine ⟨_,rfl,_,rfl,_,rfl,x,_,rfl,sq11,λq hq=>?_⟩;have cutm:∃cs:List Int,Jqt (ns.map V.int) (some 3) (some 40)=cs.map V.int/\cs.length<=63:=by
   refine ⟨(ns.drop 3).take 37,?_,by rw [yaa,ybj];omega⟩;rw [List.map_take,List.map_drop];exact Yag (ns.map V.int) 3 40
  obtain ⟨cs,ecs,csl⟩:=cutm;rw [ecs];have tq:=Si.upd (o:=.lst (cs.map V.int)) hq;refine ⟨_,rfl,x,ns,2,rfl,Jsa tq sq11,λn2=>⟨(show 1<=S6 by decide),λq2 hq2=>?_⟩⟩;have tq2:=Si.upd (o:=.lst [V.int n2]) hq2;refine ⟨q,q2,_,_,rfl,rfl,tq2 _ _ Sn,Sn,Job _ (by rw [ye];show _+1<=2000;omega),λW hW=>?_⟩;have eW:cs.map V.int++ [V.int n2]=(cs++ [n2]).map V.int:=by rw [yag];rfl
  rw [eW];have tW:=Si.upd (o:=.lst ((cs++ [n2]).map V.int)) hW;have gW:=Sn (H:=upd (upd H11 q (.lst (cs.map V.int))) q2 (.lst [V.int n2])) (a:=W) (o:=.lst ((cs++ [n2]).map V.int));have s612:=((s611.trans tq).trans tq2).trans tW;generalize upd (upd (upd H11 q (.lst (cs.map V.int))) q2 (.lst [V.int n2])) W (.lst ((cs++ [n2]).map V.int))=H12 at*;refine ⟨W,rfl,⟨_,Ss.of gW⟩,?_⟩;refine Jph (xs:=(cs++ [n2]).map V.int) (λi σ H'=>∃(o10 o11:Option V),σ= [some (.ref x),some tv,some (.ref o),some v,some (.ref pS),some (.ref Lr),some (.int (wgN S so)),o7,o8,o9,o10,o11]/\Si H12 H') ⟨_,_,rfl,Si.refl _⟩ (λi σ H' _ ⟨_,_,_,sm⟩=>Ss.of (sm _ _ gW)) ?_ ?_
  ·rintro i y σ H' hy ⟨o10,o11,rfl,sm⟩;obtain ⟨m,_,rfl⟩:=yn.mp (yq hy);have sm6:=s612.trans sm;refine ⟨_,rfl,_,rfl,p,tv,R,S,m,rfl,rt6.same rg sm6,rg,lk,s4,λz H13 s13 no=>?_⟩;have sm13:=sm6.trans s13;refine ⟨_,rfl,_,rfl,pS,S,_,so,z,false,rfl,sg6.same sm13,s4,no.1,λt1 H14 s14' ht1=>?_⟩;refine ⟨_,rfl,(show 3<=S6 by decide),λt2 ht2=>?_⟩;have tt2:=Si.upd (o:=.tup [.str "standing",z,.bl true]) ht2;refine ⟨t1,t2,rfl,Jwm (by decide +kernel) (by decide +kernel) (tt2 _ _ ht1) Sn (no.2.same (s14'.trans tt2)),_,rfl,Jok ?_⟩;have sm15:=(sm13.trans s14').trans tt2;have smA:=((sm.trans s13).trans s14').trans tt2;generalize upd H14 t2 (.tup [.str "standing",z,.bl true])=H15 at*;refine ⟨_,rfl,_,rfl,Lr,_,rfl,.inl (Ss.of (sm15 _ _ hLr6)),(show 1<=S6 by decide),λa1 ha1=>⟨(show 1<=S6 by decide),λa2 ha2=>λa3 ha3=>?_⟩⟩;rw [ul];generalize ea1:upd H15 a1 _=Ha;obtain ⟨ta1,g1⟩:=Jq0 ea1 ha1;generalize ea2:upd Ha a2 _=Hb;rw [ea1] at ha2;obtain ⟨ta2,g2⟩:=Jq0 ea2 ha2;generalize ea3:upd Hb a3 _=H16;rw [ea1,ea2] at ha3;obtain ⟨ta3,g3⟩:=Jq0 ea3 ha3;have t16:=(ta1.trans ta2).trans ta3;refine ⟨_,_,rfl,rfl,⟨by decide,by decide,by decide⟩,_,_,rfl,rfl,⟨by decide,by decide,by decide⟩,_,rfl,(show 10<=S6 by decide),λlt hlt=>?_⟩;generalize elt:upd H16 lt _=H17;obtain ⟨t17,gl⟩:=Jq0 elt hlt;have w0:=ybd m (show (10:Int)≠0 by decide);have w1:=ybe m (show (0:Int) < 10 by decide);obtain ⟨z2,hz2,hat2⟩:=Ya9 gl w0 w1;refine ⟨_,rfl,_,_,rfl,rfl,by decide,lt,_,_,z2,rfl,rfl,Ss.of gl,hat2,?_⟩;have sm17:=(sm15.trans t16).trans t17;have st2:=lg4.st;have ep:(10:Int)^Int.toNat 30=1000000000000000000000000000000:=by decide
   have nz:(Tm K H17 z2/\Jnp z2 0 (((stL S).length:Nat) - 1)=false)/\Thg K H17 z2:=by
    have r1:∀n:Int,n.natAbs<=10^40->Rp (.int n) 12 3:=λn h=>(Rp.int (Ya h)).mono (by decide) (by decide);have ri:∀n:Int,n.natAbs<=10^40->Thg K H17 (.int n):=λn h=>⟨.inl rfl,.inl ⟨_,12,.int n,(r1 n h).mono (yg _) (by decide),by decide⟩⟩;have f1:=t17 _ _ (ta3 _ _ (ta2 _ _ g1));have f2:=t17 _ _ (ta3 _ _ g2);have f3:=t17 _ _ g3;refine all_cons (Pr:=λz=>(Tm K H17 z/\Jnp z 0 (((stL S).length:Nat) - 1)=false)/\Thg K H17 z) ?_ (all_cons ?_ (all_cons ?_ (all_cons ?_ (all_cons ?_ (all_cons ?_ (all_cons ?_ (all_cons ?_ (all_cons ?_ (all_cons ?_ Jpl))))))))) z2 hz2
    ·exact ⟨⟨.inl ⟨_,rfl⟩,by simp [Jnp]⟩,ri _ (by decide)⟩
    ·exact ⟨⟨.inl ⟨_,rfl⟩,by simp [Jnp];omega⟩,ri _ (by omega)⟩
    ·exact ⟨⟨.inr ⟨_,.of (.bl _),rfl⟩,rfl⟩,.inl rfl,.inl ⟨_,0,.bl _,(Rp.bl _).mono (yg _) (by decide),by decide⟩⟩
    ·exact ⟨⟨.inr ⟨_,.of .non,rfl⟩,rfl⟩,.inl rfl,.inl ⟨_,0,.non,Rp.non.mono (yg _) (by decide),by decide⟩⟩
    ·exact ⟨⟨.inr ⟨_,.of (.str _),rfl⟩,rfl⟩,.inl rfl,.inl ⟨_,_,.str _,(Rp.str (by decide +kernel)).mono (yg _) (by decide),by decide +kernel⟩⟩
    ·refine ⟨⟨.inr ⟨_,.of (.tup f1),rfl⟩,rfl⟩,.inr ⟨_,rfl⟩,.inl ⟨_,40,.tup (Su.of f1) (.cons (.int 0) .nil),(rp3 (all_cons (r1 _ (by decide)) Jpl) (by simp)).mono (yg _) (by decide),by decide⟩⟩
    ·refine ⟨⟨.inr ⟨_,.of (.lst f2),rfl⟩,rfl⟩,.inr ⟨_,rfl⟩,.inl ⟨_,40,.lst (Ss.of f2) (.cons (.int 0) .nil),(Ss2 (all_cons (r1 _ (by decide)) Jpl) (by simp)).mono (yg _) (by decide),by decide⟩⟩
    ·exact ⟨⟨.inr ⟨_,.of (.dK f3),rfl⟩,rfl⟩,.inr ⟨_,rfl⟩,.inr ⟨_,rfl,f3⟩⟩
    ·rw [ep];exact ⟨⟨.inl ⟨_,rfl⟩,by simp [Jnp];omega⟩,ri _ (by decide)⟩
    ·rw [ep];exact ⟨⟨.inl ⟨_,rfl⟩,by simp [Jnp]⟩,ri _ (by decide)⟩
   refine ⟨_,rfl,_,rfl,pS,S,_,so,z2,true,rfl,sg6.same sm17,s4,nz.1,λt3 H18 s18 ht3=>?_⟩;refine ⟨_,rfl,(show 3<=S6 by decide),λt4 ht4=>?_⟩;have tt4:=Si.upd (o:=.tup [.str "number",z2,.bl true]) ht4;refine ⟨t3,t4,rfl,Jwm (by decide +kernel) (by decide +kernel) (tt4 _ _ ht3) Sn (nz.2.same (s18.trans tt4)),_,rfl,Jok ?_⟩;exact ⟨_,_,rfl,(((smA.trans t16).trans t17).trans s18).trans tt4⟩
  ·rintro σ H' ⟨o10,o11,rfl,sm⟩;exact k _
end
end K21
end
namespace PySem.W.Fast
def tw1844369687016527316:=()
def tw8595192230182589529:=()
def tw12178453596452987496:=()
def tw7259085277497230675:=()
def tw17619731288501394070:=()
def tw6993471019146879200:=()
def tw1590195754981265274:=()
def tw9008863730762746919:=()
def tw2884244945716700346:=()
def tw7354393593878901556:=()
def tw12282527165172936684:=()
def tw18135660612027534633:=()
def tw7951928715678199378:=()
def tw13451713965585815002:=()
def tw15405404124986922626:=()
def tw16283487383864601033:=()
def tw11080404238090326448:=()
def tw12988665147911587476:=()
def tw5264173728993737015:=()
def tw9767043259175218809:=()
def tw17703952293653045554:=()
def tw6985669758602387145:=()
def tw14046200404853231892:=()
def tw4228703061460540165:=()
def tw9694348530194522803:=()
def tw6678426681287770952:=()
def tw12704049787041144409:=()
def tw12286547467399079660:=()
def tw14877063023331127000:=()
def tw16546278411567189528:=()
def tw8249005418423670959:=()
def tw11530360115831585626:=()
def tw16887753218396026428:=()
def tw4162109513278656296:=()
def tw13866234003112079800:=()
def tw8502999344068467469:=()
def tw5920604250897209693:=()
def tw4471395315023916755:=()
def tw13593738498503570563:=()
def tw4943477674165293008:=()
def tw2677016692744644665:=()
def tw16764533969138568383:=()
def tw10938095792762606773:=()
def tw17810509540623021487:=()
def tw8529815170492934323:=()
def tw6734430799984915652:=()
def tw16158557113060550942:=()
def tw16120706047787765570:=()
def tw16652701240623398032:=()
def tw16520599042396606588:=()
def tw16382542062800903824:=()
def tw16211290993790973238:=()
def tw18266581605477997132:=()
def tw18063905558109053780:=()
def tw3095988616979735309:=()
def tw12571163052927154894:=()
def tw17836665358018712634:=()
def tw10557001319885084260:=()
def tw17981875212693804921:=()
def tw7251659927587718729:=()
def tw6345256281894912282:=()
def tw13419752914264426638:=()
def tw11581675474521663149:=()
def tw186503088879336962:=()
def tw11974686416680295417:=()
def tw7142956777215967190:=()
def tw10212536731530137446:=()
def tw4486683720516936022:=()
def tw3250292506006061401:=()
def tw12532358591129453492:=()
def tw2394929916729613372:=()
def tw3342239371158029823:=()
def tw7639982459643211389:=()
def tw6763868046690733492:=()
def tw3158119824737703147:=()
def tw12693472971799869247:=()
def tw4351507671056126986:=()
def tw7931056046037236853:=()
def tw11471536558505026784:=()
def tw12367559888767540946:=()
def tw1100329077811889845:=()
def tw11177840826540047684:=()
def tw18255058759657940928:=()
def tw1680781475226600695:=()
def tw7722629087216003315:=()
def tw15521433657614044759:=()
def tw6722877650693903149:=()
def tw12459745212649984489:=()
def tw10481430979015615940:=()
def tw14097281694548261297:=()
def tw6761227711153413838:=()
def tw11655758237425891608:=()
def tw7477985377710605808:=()
def tw5051393779101018252:=()
def tw16372468640205754447:=()
def tw4962215027344061447:=()
def tw10954796373820481143:=()
def tw222876215696667940:=()
def tw6110993605420116802:=()
def tw3035017596408256684:=()
def tw10679916674925140688:=()
def tw6830105254396224307:=()
def tw15645684025516952945:=()
def tw16573987587190800182:=()
def tw14427117045676366605:=()
def tw14356533638214917654:=()
def tw1952482379835448550:=()
def tw12761065565610613538:=()
def tw18280555242268698953:=()
def tw7463417736488990290:=()
def tw3740715556789625364:=()
def tw13155539736319962262:=()
def tw4844638565019095415:=()
def tw18438062396021060782:=()
def tw13226256606049942997:=()
def tw10053727661586669398:=()
def tw4160520168800207580:=()
def tw3970444824427972915:=()
def tw5371491798428119442:=()
def tw15464666361993184769:=()
def tw5548375286994970294:=()
def tw6602016184804387380:=()
def tw9392319802275016250:=()
def tw13096488455276719991:=()
def tw9921531790129447476:=()
def tw16799753203920103671:=()
def tw12878580800263386409:=()
def tw9815590563792937392:=()
def tw2706942272752806835:=()
def tw3506179686056449066:=()
def tw5716400300285229457:=()
def tw10941993068056600161:=()
def tw11689038857235349180:=()
def tw17879388886852643113:=()
def tw2723025169348478766:=()
def tw8238277882049272910:=()
def tw12003355673657433744:=()
def tw2197967223849808392:=()
def tw886933649722724825:=()
def tw2898293830649927893:=()
def tw18193168595308518200:=()
def tw13741608077438925813:=()
def tw17707853512219223450:=()
def tw10722575182114124072:=()
def tw14498325521754936034:=()
def tw9010073433018885600:=()
def tw13604172113705316312:=()
def tw6344452427480061173:=()
def tw3566706378730058689:=()
def tw12743514701323212904:=()
def tw1210012791136396859:=()
def tw14049442416640530261:=()
def tw418474985744083681:=()
def tw14452527219815042425:=()
def tw13819133634817284437:=()
def tw8393776776847812466:=()
def tw5337673021295684660:=()
def tw9760387205802054407:=()
def tw6778755856617419421:=()
def tw1740984896303393902:=()
def tw14865154201266402973:=()
def tw10180066152874006422:=()
def tw2404778565611176635:=()
def tw3751220768601354655:=()
def tw12760743597081225321:=()
def tw2844624609677170631:=()
def tw777913241222117503:=()
def tw15781375023311760792:=()
def tw5729016250376162902:=()
def tw10648647199755339074:=()
def tw6614964654699761134:=()
def tw14562250086076784536:=()
def tw3681971569481366565:=()
def tw15267352835856205665:=()
def tw15682005768448022759:=()
def tw17575044110371967904:=()
def tw17666655847208991347:=()
def tw18074880508613258003:=()
def tw14079194441737730822:=()
def tw16638392113959875670:=()
def tw17637350381959972696:=()
def tw4411620785958205228:=()
def tw7717251879379539243:=()
def tw18350725152913533745:=()
def tw15590925554141160037:=()
def tw10983393846511838781:=()
def tw18268372011991918072:=()
def tw11770240211032968478:=()
def tw14541190186422047188:=()
def tw2317642982231944264:=()
def tw5753838066298051797:=()
def tw16019888129586329999:=()
def tw4047642964556325333:=()
def tw11589754876877290182:=()
def tw10466931521943400734:=()
def tw10333943267795698035:=()
def tw17897807749228947770:=()
def tw14712153337094132129:=()
def tw13797205951254785009:=()
def tw7367546524481513447:=()
def tw11274536046974757764:=()
def tw11607079056550122174:=()
def tw13925342255190499360:=()
def tw2387639836224092050:=()
def tw12790732180121712548:=()
def tw8731451861159625407:=()
def tw3942147227620144230:=()
def tw810580740361421942:=()
def tw13292892094618881710:=()
def tw17616193786658122177:=()
def tw4972885937428184664:=()
def tw5183851222687277878:=()
def tw5456809280467334036:=()
def tw13389061082403786559:=()
def tw923995457779103238:=()
def tw16478272707557933296:=()
def tw13380054593377325658:=()
def tw12389481613843362794:=()
def tw12482039110133000656:=()
def tw6993735190561825539:=()
def tw16737694259541462167:=()
def tw3230465156426431744:=()
def tw13156431577051589297:=()
def tw7908499486991288736:=()
def tw15359354940294181424:=()
def tw18011115147036003140:=()
def tw15569329583966609432:=()
def tw7237579431712286965:=()
def tw17788465620757442649:=()
def tw16901938548584337997:=()
def tw10839473870925395689:=()
def tw10865375389484462521:=()
def tw7276230627138132320:=()
def tw15039452024890897869:=()
def tw4937185910782438022:=()
def tw9450040491920814222:=()
def tw3420525541196859392:=()
def tw12436711693298112942:=()
def tw8638425422099693388:=()
def tw5935984129528675571:=()
def tw5655773821849833463:=()
def tw3206617171727876074:=()
def tw9528344109515374714:=()
def tw14739587450464240539:=()
def tw15507093993824294251:=()
def tw8172717447437565545:=()
def tw16114749831113461417:=()
def tw3920334783378124814:=()
def tw11027913203690911764:=()
def tw3461652245574893939:=()
def tw5157092330401775637:=()
def tw10441820376403597405:=()
def tw9733880335973525690:=()
def tw17849170857037495773:=()
def tw11369212825930389791:=()
def tw1840313571756580214:=()
def tw15204364179432325026:=()
def tw9404899486301577319:=()
def tw7280248394742996486:=()
def tw10475172532022397270:=()
def tw13427163606909005340:=()
def tw2497242680039429331:=()
def tw17523498329726335097:=()
def tw11002165219598517954:=()
def tw15799723552789081424:=()
def tw7025680876506529549:=()
def tw15908400337263977726:=()
def tw6564667347491329524:=()
def tw4339583590739186653:=()
def tw3373191786221880982:=()
def tw15979066719376897342:=()
def tw10762010833517140448:=()
def tw13953651154037064964:=()
def tw6966983201308177809:=()
def tw13065356609639381935:=()
def tw2636091400407504631:=()
def tw2201560340526402000:=()
def tw10374823177923112849:=()
def tw17143524477770256311:=()
def tw17020130516711667903:=()
def tw7695105622697040795:=()
def tw18196698447758849879:=()
def tw15579489413516667623:=()
def tw9622846723448992617:=()
def tw14435117365998576149:=()
def tw4258077579475381586:=()
def tw15950630032225365218:=()
def tw7500764853742202350:=()
def tw16545609988025533268:=()
def tw4545909003388907604:=()
def tw9358130022412908137:=()
def tw7877694731512982145:=()
def tw5698295208303089156:=()
def tw6558993001205403110:=()
def tw752372389967165295:=()
def tw9465221958053700638:=()
def tw11587962825638790552:=()
def tw13870258811041398463:=()
def tw11784505854068337740:=()
def tw7736480171854414219:=()
def tw12649880862865445967:=()
def tw11109392819883208687:=()
def tw17888305260979070929:=()
def tw4275273318164974900:=()
def tw12084875522614687460:=()
def tw16163444504237273940:=()
def tw3239891545843187067:=()
def tw516661922483897371:=()
def tw9523029249934302164:=()
def tw3830440944319359066:=()
def tw13294666528713105143:=()
def tw8972623419979564367:=()
def tw13502024617073679975:=()
def tw11384659851051455908:=()
def tw8191816406737357052:=()
def tw14787818389587452883:=()
def tw17896948088638121067:=()
def tw5878065907560135904:=()
def tw4522492170049367893:=()
def tw8986508563795726821:=()
def tw10300155497375200435:=()
def tw539203919187171429:=()
def tw12250645022662907937:=()
def tw3215794793651219087:=()
def tw886496511361265545:=()
def tw15103680510603956041:=()
def tw15199426632551652071:=()
def tw13547973937445478147:=()
def tw900333749824100248:=()
def tw12154122083141666722:=()
def tw5761407755041113588:=()
def tw14175426172265950348:=()
def tw13452090141550071351:=()
def tw13191331785054842969:=()
def tw10374497828143404859:=()
def tw17679383984512858449:=()
def tw17924968860600284522:=()
def tw15512929680414343262:=()
def tw1308071344314660312:=()
def tw2310627992054767681:=()
def tw7440963676078833582:=()
def tw17892245634919287821:=()
def tw17766869108710349131:=()
def tw11611649956850596128:=()
def tw17805652184370353059:=()
def tw12077392444619209404:=()
def tw733656334518765824:=()
def tw8077247267867252300:=()
def tw10773086090272214570:=()
def tw5945729997707490808:=()
def tw6464447545878121060:=()
end PySem.W.Fast
open PySem PySem.W PyProof.Rows
set_option maxRecDepth 100000 in
set_option maxHeartbeats 0 in
theorem PySem.Challenge.cw_weirwatch_k21_standings_numbered_holds : PySem.Challenge.rw_weirwatch_k21_standings_numbered.Holds := by
 w_on;o_law;k_head;(case hw=>w_witness2)
 k_fill
 refine L2.walk_ofK (l:=PySem.Challenge.rw_weirwatch_k21_standings_numbered) (n:=63) (k:=12) (x:="_law_script") (CX:=L2.CX0) (sp:=K21.spLaw) rfl (by decide) rfl ⟨rfl,by decide,by decide,rfl⟩ (λw h Y=>PySem.W.kIn_of Y) ?F ?S ?C
 case F=>
  intro w mg fa h KX G hmg;have T:∃a:K21.Ad,(∀(s:S3) (v:S2),BindsTo s a.d_law ⟨[v],[]⟩ [("_law_script",v)])/\K21.Tx (L2.KOf KX) mg a:=by
   have hh:=λaa ab ac ad ae af ag ah ai aj ak al am an ao ap aq ar au av aw ax ay az ba bb bc bd be bf bg bh bi bj bk bl bm bn bo bp bq br bs bt bu bv bw bx bz ca cb cc cd ce cf cg ch ci cj ck cl cm cn co cp cq cr cs ct cu cv cw cx cy cz da db dc dd de df dg dh di dj dk dl dm dn dp dq dr ds dt du dv dw dx dy dz ea eb ec ed ee ef eg eh ei ej ek el em en eo ep eq er es et eu ev ew ex ey ez fb fc fd fe ff fg fh fi fj fk fl fm fn fo fp fq fr fs ft fu fv fw fx fy fz ga gb gc gd ge gf gg gh gi gj gk gl gm gn go gp gq gr gs gt gu gv gw gx gy gz ha hb hc hd he hf hg hh hi hj hk hl hm hn ho hp hq hr hs ht hu hv hw hx hy hz ia ib ic id ie ig ih ii ij ik=>@K21.Tx.mk (L2.KOf KX) mg ⟨aa,ab,ac,ad,ae,af,ag,ah,ai,aj,ak,al,am,an,ao,ap,aq,ar,au,av,aw,ax,ay,az,ba,bb,bc,bd,be,bf,bg,bh,bi,bj,bk,bl,bm,bn,bo,bp,bq,br,bs,bt,bu,bv,bw,bx,bz,ca,cb,cc,cd,ce,cf,cg,ch,ci,cj,ck,cl,cm,cn,co,cp,cq,cr,cs,ct,cu,cv,cw,cx,cy,cz,da,db,dc,dd,de,df,dg,dh,di,dj,dk,dl,dm,dn,dp,dq,dr,ds,dt,du,dv,dw,dx,dy,dz,ea,eb,ec,ed,ee,ef,eg,eh,ei,ej,ek,el,em,en,eo,ep,eq,er,es,et,eu,ev,ew,ex,ey,ez,fb,fc,fd,fe,ff,fg,fh,fi,fj,fk,fl,fm,fn,fo,fp,fq,fr,fs,ft,fu,fv,fw,fx,fy,fz,ga,gb,gc,gd,ge,gf,gg,gh,gi,gj,gk,gl,gm,gn,go,gp,gq,gr,gs,gt,gu,gv,gw,gx,gy,gz,ha,hb,hc,hd,he,hf,hg,hh,hi,hj,hk,hl,hm,hn,ho,hp,hq,hr,hs,ht,hu,hv,hw,hx,hy,hz,ia,ib,ic,id,ie,ig,ih,ii,ij,ik⟩;dsimp only [L2.KOf,L2.NoAttr] at hh⊢;apply Exists.intro;refine' ⟨?bb,?tx⟩
   case tx=>
    apply hh
    iterate 21 (refine' L2.ft_mk KX G ?a ?b ?c ?d ?e;(case a=>k_is);(case b=>k_is);(case c=>k_is);(case d=>k_is);(case e=>first|(intro _ _ _ _ _ _ u h;obtain ⟨_,rfl⟩:=L2.lv1 u h;rfl)|(intro _ _ _ _ _ _ u h;obtain ⟨_,_,rfl⟩:=L2.lv2 u h;rfl)|(intro _ _ _ _ _ _ u h;obtain ⟨_,_,_,rfl⟩:=L2.lv3 u h;rfl)|(intro _ _ _ _ _ _ u h;obtain ⟨_,_,_,_,rfl⟩:=L2.lv4 u h;rfl)|(intro _ _ _ _ _ _ u h;obtain ⟨_,_,_,_,_,rfl⟩:=L2.lv5 u h;rfl)|(intro _ _ _ _ _ _ u h;obtain ⟨_,_,_,_,_,_,_,rfl⟩:=L2.lv7 u h;rfl)))
    refine' L2.ftd_mk KX G ?a ?b ?c ?d ?e ?f ?g;(case a=>k_is);(case b=>k_is);(case c=>k_is);(case d=>k_is);(case e=>k_is);(case f=>rfl);(case g=>intro u h;obtain ⟨_,_,rfl⟩:=L2.lv2 u h;exact ⟨_,rfl,rfl⟩)
    iterate 31 (refine' L2.ft_mk KX G ?a ?b ?c ?d ?e;(case a=>k_is);(case b=>k_is);(case c=>k_is);(case d=>k_is);(case e=>first|(intro _ _ _ _ _ _ u h;obtain ⟨_,rfl⟩:=L2.lv1 u h;rfl)|(intro _ _ _ _ _ _ u h;obtain ⟨_,_,rfl⟩:=L2.lv2 u h;rfl)|(intro _ _ _ _ _ _ u h;obtain ⟨_,_,_,rfl⟩:=L2.lv3 u h;rfl)|(intro _ _ _ _ _ _ u h;obtain ⟨_,_,_,_,rfl⟩:=L2.lv4 u h;rfl)|(intro _ _ _ _ _ _ u h;obtain ⟨_,_,_,_,_,rfl⟩:=L2.lv5 u h;rfl)|(intro _ _ _ _ _ _ u h;obtain ⟨_,_,_,_,_,_,_,rfl⟩:=L2.lv7 u h;rfl)))
    iterate 12 (refine' PySem.W.mg_of KX G ?a;(case a=>k_is))
    iterate 18 (refine' PySem.W.mg_none_of KX G ?a;(case a=>k_is))
    iterate 21 (refine' PySem.W.mg_of KX G ?a;(case a=>k_is))
    iterate 37 (k_is)
    iterate 12 (refine' L2.fm_mk ?a ?b ?c ?d;(case a=>k_is);(case b=>k_is);(case c=>k_is);(case d=>first|(intro _ _ _ _ _ _ u h;obtain ⟨_,rfl⟩:=L2.lv1 u h;rfl)|(intro _ _ _ _ _ _ u h;obtain ⟨_,_,rfl⟩:=L2.lv2 u h;rfl)|(intro _ _ _ _ _ _ u h;obtain ⟨_,_,_,rfl⟩:=L2.lv3 u h;rfl)|(intro _ _ _ _ _ _ u h;obtain ⟨_,_,_,_,rfl⟩:=L2.lv4 u h;rfl)|(intro _ _ _ _ _ _ u h;obtain ⟨_,_,_,_,_,rfl⟩:=L2.lv5 u h;rfl)|(intro _ _ _ _ _ _ u h;obtain ⟨_,_,_,_,_,_,_,rfl⟩:=L2.lv7 u h;rfl)))
    refine' L2.fmd_mk ?a ?b ?c ?d ?e ?f;(case a=>k_is);(case b=>k_is);(case c=>k_is);(case d=>k_is);(case e=>rfl);(case f=>intro u h;obtain ⟨_,_,_,rfl⟩:=L2.lv3 u h;exact ⟨_,rfl,rfl⟩)
    iterate 24 (refine' L2.fm_mk ?a ?b ?c ?d;(case a=>k_is);(case b=>k_is);(case c=>k_is);(case d=>first|(intro _ _ _ _ _ _ u h;obtain ⟨_,rfl⟩:=L2.lv1 u h;rfl)|(intro _ _ _ _ _ _ u h;obtain ⟨_,_,rfl⟩:=L2.lv2 u h;rfl)|(intro _ _ _ _ _ _ u h;obtain ⟨_,_,_,rfl⟩:=L2.lv3 u h;rfl)|(intro _ _ _ _ _ _ u h;obtain ⟨_,_,_,_,rfl⟩:=L2.lv4 u h;rfl)|(intro _ _ _ _ _ _ u h;obtain ⟨_,_,_,_,_,rfl⟩:=L2.lv5 u h;rfl)|(intro _ _ _ _ _ _ u h;obtain ⟨_,_,_,_,_,_,_,rfl⟩:=L2.lv7 u h;rfl)))
    iterate 8 (refine' L2.xc_mk ?a ?b ?c;(case a=>k_is);(case b=>kernel_rfl);(case c=>kernel_rfl))
    refine' L2.ec_mk ?a ?b;(case a=>k_is);(case b=>k_is)
    iterate 2 (refine' L2.xc_mk ?a ?b ?c;(case a=>k_is);(case b=>kernel_rfl);(case c=>kernel_rfl))
    refine' L2.ec_mk ?a ?b;(case a=>k_is);(case b=>k_is)
    iterate 45 (constructor <;> k_is)
    iterate 39 (k_is)
    iterate 24 (kernel_rfl)
   case bb=>exact λs v=>.of_eq rfl
  obtain ⟨a,b,T⟩:=T;have e:=hmg.symm.trans T.f_law.mgx;cases e;exact ⟨a.d_law,b,λbase kb nb=>K21.ok_law T⟩
 case S=>exact λK H a ns hl hO hS=>⟨a,ns,rfl,hS,hl,λ_=>rfl⟩
 case C=>exact λ_ _ _ _ z=>z
#print axioms PySem.Challenge.cw_weirwatch_k21_standings_numbered_holds
