import PyProof.Rows.All
import Wide.All
import OpenK.AllK
import Wide.FinOn
import Lean
import PyProof.EqAt
import PyProof.EqKinds
import PyProof.TupleCall
import PySem.Challenge.RW_weirwatch_k24_stuck_gates_refused
open PySem renaming Addr → S4, Value → S5, Shared → S6, wpAny_bind → S7, wpAny_pure → S8, sizeLine → S9, Program → Sa, FuncData → Sb, World → Sc, Around → Sd, Heap → Se, wpAny → Sf
open PySem.W renaming Frag → Sg, kitOne → Sh, findIn → Si, mroIn → Sj, instObj → Sk
open List renaming length_map → ye, getElem?_eq_getElem → yh, getElem?_eq_some_iff → yi, getElem?_map → ym, mem_map → yo, mem_cons → yq, mem_of_getElem? → yr, size_toArray → yw, mem_cons_of_mem → yz, take_add_one → yaa, mem_cons_self → yab, length_append → yad, replicate → yae, length_take → yaf, length_cons → yag, take_of_length_le → yah, map_append → yaj, mem_singleton → yam, map_cons → yap, map_map → yas, range → yaw, mem_append → yax, not_mem_nil → yaz, append_nil → yba, getElem_mem → ybb, mem_append_right → ybe, all_eq_true → ybf, mem_map_of_mem → ybg, nodup_cons → ybi, lookup_cons → ybj, getElem?_of_mem → ybl, length_range → ybm, take_length → ybn, lookup → ybp, length_drop → ybq, mem_range → ybu, length_set → ybx, forIn_cons → yby, getD_eq_getElem?_getD → ybz, foldl_append → yca, nodup_nil → ycb, getElem?_range → ycj, mem_filter → yck, length_replicate → ycl, replicate_succ → ycm, forIn_nil → yco, getElem?_append → ycp, mem_append_left → ycr, mem_of_mem_take → ycs, getElem?_set → yct, flatMap_cons → ycu, mem_flatMap → ycv, getElem?_eq_none → ycx, mem_or_eq_of_mem_set → ycy
open Or renaming inl → yf, inr → yaq
open Nat renaming le_refl → yg, ne_of_lt → yy, le_trans → yai, zero_le → yal, lt_of_lt_of_le → yar, lt_irrefl → ybd, not_lt → ybk, ne_of_gt → ybo, lt_succ_self → ybw, le_of_lt → ycf, min_eq_left → yci, lt_succ_of_lt → ycn
open PySem.Heap renaming lt_size → yj, get?_push_of_some → yn, get?_push_size → yt, size_push → yau, SameBut → yay, get?_update_other → ybr, get?_update_self → ycg
open Sum renaming inl → yp
open Ne renaming symm → yx
open Option renaming some → yac, map_eq_some_iff → ybc, isSome_iff_exists → ycw
open Bool renaming false_ne_true → yak, and_eq_true → yan, not_true → ybs, false_eq_true → ybt
open And renaming right → yao, left → yat
open Int renaming toNat_natCast → yav, le_trans → ybh, eq_ofNat_of_zero_le → ycc, emod_nonneg → ycd, emod_lt_of_pos → yce, mul_le_mul → ycq
open Array renaming length_toList → ybv, getElem?_eq_some_iff → ych
set_option bootstrap.genMatcherCode false
set_option hygiene false
set_option Elab.async false
set_option linter.all false
set_option maxRecDepth 100000
section
local macro_rules|`(%[|0])=>`(⟨rfl,rfl,rfl,by decide +kernel,rfl,by decide +kernel,by decide +kernel⟩)
local macro_rules|`(%[$a|1])=>`($a (P:=P) (w:=w) (base:=base) T)
local macro_rules|`(%[$a,$b|2])=>`($a $b (λvs H Q E h=>?_) (λcdv A outer s H vs Q E hr h=>?_))
namespace L2
open PySem PySem.Spec PyProof.Rows
noncomputable abbrev Key:=Sum Int Str
noncomputable def Jq1:Key->S5->Bool
 | .inl k,v=>Value.isInt k v
 | .inr x,v=>Value.isStrOf x v
noncomputable def Sru (w:Sc):Key->Int
 | .inl k=>hashInt k
 | .inr x=>hashStr w x
theorem Jn1:∀{k} {v},Jq1 k v=true->(∃i t,k=yp i/\v=Value.int i t)\/(∃x t,k=Sum.inr x/\v=Value.str x t)
 | .inl i,v,h=>by
  obtain ⟨t,e⟩:=Value.isInt_shape h;exact .inl ⟨i,t,rfl,e⟩
 | .inr x,v,h=>by
  obtain ⟨t,e⟩:=Value.isStrOf_shape h;exact .inr ⟨x,t,rfl,e⟩
theorem Jx5 (i) (t):Jq1 (.inl i) (.int i t)=true:=by simp [Jq1,Value.isInt]
theorem Ybu (x) (t):Jq1 (.inr x) (.str x t)=true:=by simp [Jq1,Value.isStrOf]
theorem Jxu (a b):decide ((yp a:Key)=yp b)=(a==b):=by grind
theorem Ydh (a b):decide ((Sum.inr a:Key)=Sum.inr b)=decide (a=b):=by simp
theorem Yh (a) (b):decide ((yp a:Key)=Sum.inr b)=false:=rfl
theorem Yj (a) (b):decide ((Sum.inr a:Key)=yp b)=false:=rfl
noncomputable def Jmj (prog:Sa) (w:Sc):PySem.KeyKind prog w Key where
 is:=Jq1
 hash:=Sru w
 inj:=λv a b ha hb=>by
  rcases Jn1 ha with ⟨i,t,rfl,rfl⟩|⟨x,t,rfl,rfl⟩
  ·rcases Jn1 hb with ⟨j,u,rfl,e⟩|⟨y,u,rfl,e⟩
   ·injection e with e1 _;rw [e1]
   ·exact nomatch e
  ·rcases Jn1 hb with ⟨j,u,rfl,e⟩|⟨y,u,rfl,e⟩
   ·exact nomatch e
   ·injection e with e1 _;rw [e1]
 byValue:=λk v h=>by
  rcases Jn1 h with ⟨i,t,rfl,rfl⟩|⟨x,t,rfl,rfl⟩ <;> rfl
 pyHash:=λhv h=>by
  rcases Jn1 hv with ⟨i,t,rfl,rfl⟩|⟨x,t,rfl,rfl⟩
  ·exact wpAny_pyHash_int h
  ·exact wpAny_pyHash_str h
 eqBool:=λhu hv h=>by
  rcases Jn1 hu with ⟨i,t,rfl,rfl⟩|⟨x,t,rfl,rfl⟩
  ·rcases Jn1 hv with ⟨j,u,rfl,rfl⟩|⟨y,u,rfl,rfl⟩
   ·rw [Jxu] at h;exact wpAny_eqBool_int h
   ·rw [Yh] at h;exact SeqAt.EqAt.int_str i t y u _ _ _ _ h
  ·rcases Jn1 hv with ⟨j,u,rfl,rfl⟩|⟨y,u,rfl,rfl⟩
   ·rw [Yj] at h;exact SeqAt.EqAt.str_int x t j u _ _ _ _ h
   ·rw [Ydh] at h;exact wpAny_eqBool_str h
 «strs»:=λk x t v h=>by
  rcases Jn1 h with ⟨i,u,rfl,e⟩|⟨y,u,rfl,e⟩
  ·exact nomatch e
  ·injection e with e1 _;subst e1;cases v <;> rfl
theorem Yo (prog) (w) (k) (v):(Jmj prog w).is k v=Jq1 k v:=rfl
theorem Jqg (prog) (w) (i) (t):(Jmj prog w).is (.inl i) (.int i t)=true:=Jx5 i t
theorem Jou (prog) (w) (x) (t):(Jmj prog w).is (.inr x) (.str x t)=true:=Ybu x t
inductive V where
 |non|bl (b:Bool)|int (i:Int)|str (x:Str)|byt (b:Array UInt8)|flt (b:UInt64)|ref (a:S4)|ty (n:String)
 deriving DecidableEq
noncomputable def Sw:V->S5->Prop
 | .non,u=>u=Value.none
 | .bl b,u=>u=Value.bool b
 | .int i,u=>∃t,u=Value.int i t
 | .str x,u=>∃t,u=Value.str x t
 | .byt b,u=>∃t,u=Value.bytes b t
 | .flt b,u=>∃t,u=Value.float b t
 | .ref a,u=>u=Value.ref a
 | .ty n,u=>u=Value.type n
noncomputable abbrev Sy:List V->List S5->Prop:=Paired Sw
theorem Sy.length (r:Sy xs us):xs.length=us.length:=Paired.length r
theorem Sy.get:∀{xs} {us} {i:Nat} {x},Sy xs us->xs[i]?=some x->∃u,us[i]?=some u/\Sw x u
 |_,_,_,_,.nil,e=>by simp at e
 |_,_,0,_,.cons r _,e=>by simp at e;subst e;exact ⟨_,rfl,r⟩
 |_,_,i+1,x,.cons _ t,e=>by
  obtain ⟨u,h1,h2⟩:=Sy.get t (by simpa using e);exact ⟨u,by simpa using h1,h2⟩
theorem Sy.set {x:V} {u:S5} (r:Sw x u):∀{xs:List V} {us:List S5} (i:Nat),Sy xs us->Sy (xs.set i x) (us.set i u)
 |_,_,_,.nil=>.nil
 |_,_,0,.cons _ t=>.cons r t
 |_,_,i+1,.cons q t=>.cons q (Sy.set r i t)
theorem Sy.append:∀{xs ys:List V} {us ws:List S5},Sy xs us->Sy ys ws->Sy (xs++ys) (us++ws)
 |_,_,_,_,.nil,s=>s
 |_,_,_,_,.cons r t,s=>.cons r (Sy.append t s)
theorem Sy.take:∀{xs:List V} {us:List S5} (n:Nat),Sy xs us->Sy (xs.take n) (us.take n)
 |_,_,0,_=>.nil
 |_,_,_+1,.nil=>.nil
 |_,_,n+1,.cons r t=>.cons r (Sy.take n t)
theorem Sy.drop:∀{xs:List V} {us:List S5} (n:Nat),Sy xs us->Sy (xs.drop n) (us.drop n)
 |_,_,0,r=>r
 |_,_,_+1,.nil=>.nil
 |_,_,n+1,.cons _ t=>Sy.drop n t
noncomputable def Scm:Option V->Option S5->Prop
 |some v,some u=>Sw v u
 |none,none=>True
 |_,_=>False
noncomputable def KV {κ:Type}:List (κ×V)->List (κ×S5)->Prop:=Paired λ(p:κ×V) (q:κ×S5)=>p.1=q.1/\Sw p.2 q.2
noncomputable def kV:Key->V
 | .inl i=>.int i
 | .inr x=>.str x
inductive HO where
 |lst (xs:List V)
 |tup (xs:List V)
 |dK (kvs:List (Key×V))|dT (kvs:List (List Key×V))
 |set (S:Int->Bool) (n:Nat)
 |ins (C dx:S4) (fs:List (Str×V))
 |own (x:S4)
 |xd (fs:List (Str×V))
 |cod (q:Str)
 |rng (lo hi:Int)
 |frz (o:Obj) (u:HO)
 |tbl (ps:Array (Nat×Nat×Str))
 |ext (φ:Se->Prop)
noncomputable abbrev Hp:=S4->Option HO
noncomputable def upd (H:Hp) (a:S4) (o:HO):Hp:=λb=>if b=a then some o else H b
theorem Sr:upd H a o a=some o:=by unfold upd;rw [if_pos rfl]
theorem Sx (h:b≠a):upd H a o b=H b:=by unfold upd;rw [if_neg h]
theorem Jnr:upd (upd H a o) a u=upd H a u:=by
 funext b;unfold upd;split <;> rfl
theorem Skx {H:Hp} {a b} {o u} (h:H a=some o) (h':H b=some u) (d:o≠u):a≠b:=by grind
theorem Jm2 {H:Hp} {a b} {o} (h:H a=some o) (h':H b=none):a≠b:=by grind
noncomputable def Sxs (o:Obj):HO:=.frz o (.ext λ_=>True)
noncomputable def Si0 (H:Hp) (lb:Array (Nat×Nat×Str)):List S5->Prop
 | []=>True
 | .int l _:: .int c _::v::r=>(∃(n m:Nat) (q:Str) (a:S4),(n,m,q)∈lb/\l=n/\c=m/\v= .ref a/\H a=some (.cod q))/\Si0 H lb r
 |_=>False
theorem Si0.mono (k:∀b q,H b=some (.cod q)->H' b=some (.cod q)) (x:Si0 H lb l):Si0 H' lb l:=by
 fun_induction Si0 H lb l with
 |case1=>exact True.intro
 |case2 l _ c _ v r ih=>
  obtain ⟨⟨n,m,q,a,h1,h2,h3,h4,h5⟩,h6⟩:=x;exact ⟨⟨n,m,q,a,h1,h2,h3,h4,k _ _ h5⟩,ih h6⟩
 |case3=>exact x.elim
section
variable (P:Sa) (w:Sc)
noncomputable def Sai (H:Hp) (h:Se) (a:S4):HO->Prop
 | .lst xs=>xs.length<=S9/\∃(its:List S5) (n:Nat),Sy xs its/\h.get? a=some {cls:=.type "list",data:=.seq its.toArray n}
 | .tup xs=>xs.length<=S9/\∃its:List S5,Sy xs its/\IsTup h a its.toArray
 | .dK kvs=>kvs.length<=S9/\(a==sysModules)=false/\∃vs,KV kvs vs/\h.DictOf (Jmj P w) a vs
 | .dT kvs=>kvs.length<=S9/\(a==sysModules)=false/\∃xs:List (List Key×S4×S5),
   Paired (λ(p:List Key×V) (q:List Key×S4×S5)=>p.1=q.1/\H q.2.1=some (.tup (p.1.map kV))/\Sw p.2 q.2.2) kvs xs/\
   ∃o es ep,h.get? a=some o/\o.ExactDict/\o.data= .dict es ep/\es.toList=xs.map (entryOfKey (tupleKind (Jmj P w)))/\(xs.map (·.1)).Nodup
 | .set S n=>h.SetOf (intKind P w) a S n
 | .ins C dx fs=>H dx=some (.own a)/\fs.length<=1000/\dx≠a/\h.get? a=some (Sk C dx)/\
   ∃mA,h.Ns1 dx mA/\(∀f,Scm (fs.lookup f) (mA f))/\PySem.Within mA (fs.map (·.1))
 | .own _=>∃o,h.get? a=some o
 | .xd fs=>∃mA,h.Ns1 a mA/\∀f,Scm (fs.lookup f) (mA f)
 | .rng lo hi=>∃t u v,h.get? a=some {cls:=.type "range",data:=.fields #[.int lo t,.int hi u,.int 1 v]}
 | .frz o u=>h.get? a=some o/\Sai H h a u
 | .tbl lb=>∃ts:Array S5,h.get? a=some ⟨.none,none,.fields ts,#[]⟩/\Si0 H lb ts.toList
 | .cod q=>h.CodeRec (.ref a) q
 | .ext φ=>φ h/\(∃o,h.get? a=some o)/\∀h1 h2:Se,φ h1->(∀o,h1.get? a=some o->h2.get? a=some o)->φ h2
noncomputable def HOk (H:Hp) (h:Se):Prop:=∀a o,H a=some o->Sai P w H h a o
end
section
variable {P:Sa} {w:Sc} {H H':Hp} {h h':Se} {a:S4} {o:HO}
theorem Sai.lt (x:Sai P w H h a o):a < h.objs.size:=by
 cases o with
 |lst xs=>obtain ⟨_,_,_,_,e⟩:=x;exact yj e
 |tup xs=>obtain ⟨_,_,_,p⟩:=x;exact p.lt
 |dK kvs=>obtain ⟨_,_,_,_,o,_,_,e,_⟩:=x;exact yj e
 |dT kvs=>obtain ⟨_,_,_,_,o,_,_,e,_⟩:=x;exact yj e
 |set S n=>obtain ⟨o,_,_,_,e,_⟩:=x;exact yj e
 |ins C dx fs=>obtain ⟨_,_,_,e,_⟩:=x;exact yj e
 |own y=>obtain ⟨_,e⟩:=x;exact yj e
 |xd fs=>obtain ⟨_,⟨_,_,_,e,_⟩,_⟩:=x;exact yj e
 |rng lo hi=>obtain ⟨_,_,_,e⟩:=x;exact yj e
 |frz ob u=>obtain ⟨e,_⟩:=x;exact yj e
 |tbl lb=>obtain ⟨_,e,_⟩:=x;exact yj e
 |cod q=>obtain ⟨_,_,_,_,e1,e2,_⟩:=x;cases e1;exact yj e2
 |ext φ=>obtain ⟨_,⟨_,e⟩,_⟩:=x;exact yj e
theorem Paired.mapP {α β:Type} {F G:α->β->Prop}:∀{l₁:List α} {l₂:List β},Paired F l₁ l₂->(∀a b,F a b->G a b)->Paired G l₁ l₂
 |_,_,.nil,_=>.nil
 |_,_,.cons r t,f=>.cons (f _ _ r) (Paired.mapP t f)
theorem Paired.imp' (f:∀a b,F a b->G a b) (r:Paired F l₁ l₂):Paired G l₁ l₂:=Paired.mapP r f
theorem Sai.stay (x:Sai P w H h a o) (k:∀b u,(b=a\/H b=some (.own a))->h.get? b=some u->h'.get? b=some u)
  (ho:∀b,H b=some (.own a)->H' b=some (.own a)) (ht:∀b xs,H b=some (.tup xs)->H' b=some (.tup xs)) (hc:∀b q,H b=some (.cod q)->H' b=some (.cod q)):Sai P w H' h' a o:=by
 induction o with
 |lst xs=>obtain ⟨z,its,n,r,e⟩:=x;exact ⟨z,its,n,r,k _ _ (.inl rfl) e⟩
 |tup xs=>obtain ⟨z,its,r,ob,e,c⟩:=x;exact ⟨z,its,r,ob,k _ _ (.inl rfl) e,c⟩
 |dK kvs=>obtain ⟨z,y,vs,r,ob,es,ep,e,c⟩:=x;exact ⟨z,y,vs,r,ob,es,ep,k _ _ (.inl rfl) e,c⟩
 |dT kvs=>
  obtain ⟨z,y,xs,r,ob,es,ep,e,c⟩:=x;exact ⟨z,y,xs,Paired.mapP r λp q z=>⟨z.1,ht _ _ z.2.1,z.2.2⟩,ob,es,ep,k _ _ (.inl rfl) e,c⟩
 |set S n=>obtain ⟨ob,es,ep,t,e,c⟩:=x;exact ⟨ob,es,ep,t,k _ _ (.inl rfl) e,c⟩
 |ins C dx fs=>
  obtain ⟨d,z,ne,e,mA,⟨od,es,ep,e2,c⟩,r⟩:=x;exact ⟨ho _ d,z,ne,k _ _ (.inl rfl) e,mA,⟨od,es,ep,k _ _ (.inr d) e2,c⟩,r⟩
 |own y=>obtain ⟨ob,e⟩:=x;exact ⟨ob,k _ _ (.inl rfl) e⟩
 |xd fs=>obtain ⟨mA,⟨od,es,ep,e,c⟩,r⟩:=x;exact ⟨mA,⟨od,es,ep,k _ _ (.inl rfl) e,c⟩,r⟩
 |rng lo hi=>obtain ⟨t,u,v,e⟩:=x;exact ⟨t,u,v,k _ _ (.inl rfl) e⟩
 |frz ob u ih=>obtain ⟨e,q⟩:=x;exact ⟨k _ _ (.inl rfl) e,ih q⟩
 |tbl lb=>obtain ⟨ts,e,r⟩:=x;exact ⟨ts,k _ _ (.inl rfl) e,r.mono hc⟩
 |cod q=>obtain ⟨c,o,vs,t,e1,e2,e3,e4⟩:=x;cases e1;exact ⟨_,o,vs,t,rfl,k _ _ (.inl rfl) e2,e3,e4⟩
 |ext φ=>obtain ⟨p,⟨o,e⟩,st⟩:=x;exact ⟨st _ _ p λo q=>k _ _ (.inl rfl) q,⟨o,k _ _ (.inl rfl) e⟩,st⟩
theorem HOk.lt (x:HOk P w H h) (e:H a=some o):a < h.objs.size:=(x a o e).lt
theorem HOk.fresh (x:HOk P w H h) (e:h.objs.size<=a):H a=none:=by
 cases q:H a with
 |none=>rfl
 |some u=>exact absurd (yar (x.lt q) e) (ybd _)
theorem HOk.kept (x:HOk P w H h) (k:∀b u,h.get? b=some u->h'.get? b=some u):HOk P w H h':=λa o e=>
 (x a o e).stay (λb u _ q=>k b u q) (λ_ q=>q) (λ_ _ q=>q) λ_ _ q=>q
theorem HOk.laid (x:HOk P w H h) (k:∀b u,h.get? b=some u->h'.get? b=some u) (hp:h.objs.size<=a) (new:Sai P w (upd H a o) h' a o):HOk P w (upd H a o) h':=λb u e=>by
 have hn:=x.fresh hp;by_cases hb:b=a
 ·subst hb;rw [Sr] at e;cases e;exact new
 ·rw [Sx hb] at e;exact (x b u e).stay (λc v _ q=>k c v q) (λc q=>by rw [Sx (Jm2 q hn)];exact q) (λc xs q=>by rw [Sx (Jm2 q hn)];exact q) λc xs q=>by rw [Sx (Jm2 q hn)];exact q
end
noncomputable def Rd (H:Hp) (a:S4) (u:HO):Prop:=H a=some u\/∃o,H a=some (.frz o u)
theorem Rd.ok (r:Rd H a u) (x:HOk P w H h):Sai P w H h a u:=by
 rcases r with r|⟨o,r⟩
 ·exact x a u r
 ·obtain ⟨_,q⟩:=x a _ r;exact q
noncomputable def Mut:Option HO->Prop
 |some (.lst _)=>True
 |some (.dK _)=>True
 |some (.dT _)=>True
 |some (.set _ _)=>True
 |some (.ins _ _ _)=>True
 |some (.ext _)=>True
 |_=>False
section
variable {P:Sa} {w:Sc} {H:Hp} {h h':Se} {x e:S4} {o':HO}
theorem HOk.write (ok:HOk P w H h) (mu:Mut (H x)) (he:e=x\/H e=some (.own x)) (k:∀b u,b≠e->h.get? b=some u->h'.get? b=some u) (heo:∃u,h'.get? e=some u)
  (new:Sai P w (upd H x o') h' x o'):HOk P w (upd H x o') h':=λb u q=>by
 have nown:∀c y,H c=some (.own y)->c≠x:=λc y r z=>by subst z;rw [r] at mu;exact mu
 have ntup:∀c xs,H c=some (.tup xs)->c≠x:=λc xs r z=>by subst z;rw [r] at mu;exact mu
 by_cases hb:b=x
 ·subst hb;rw [Sr] at q;cases q;exact new
 ·rw [Sx hb] at q;by_cases hbe:b=e
  ·have q':H b=some (.own x):=by
    rcases he with z|z
    ·exact absurd (hbe.trans z) hb
    ·rw [hbe];exact z
   rw [q] at q';cases q';obtain ⟨v,hv⟩:=heo;exact ⟨v,by rw [hbe];exact hv⟩
  ·refine (ok b u q).stay (λc v hc r=>k c v ?_ r) (λc r=>by rw [Sx (nown c b r)];exact r) (λc xs r=>by rw [Sx (ntup c xs r)];exact r) λc xs r=>by rw [Sx λz=>by subst z;rw [r] at mu;exact mu];exact r
   rcases hc with rfl|hc
   ·exact hbe
   ·rintro rfl;rcases he with z|z
    ·exact nown c b hc z
    ·rw [hc] at z;cases z;exact hb rfl
end
structure Un (fs ex:List S4) (H H':Hp) (h h':Se):Prop where
 keep:∀b o,h.get? b=some o->H b=none->b∉fs->b∉ex->h'.get? b=some o
 slot:∀b o,h.get? b=some o->H b=none->b∈fs->b∉ex->∃sl,h'.get? b=some {o with slots:=sl}
 free:∀b o,h.get? b=some o->H b=none->b∉ex->H' b=none
 there:∀b o,h.get? b=some o->b∉ex->∃o',h'.get? b=some o'
 tups:∀b xs,H b=some (.tup xs)->H' b=some (.tup xs)
 frzs:∀b o u,H b=some (.frz o u)->H' b=some (.frz o u)
 tbls:∀b ps,H b=some (.tbl ps)->∃more,H' b=some (.tbl (ps++more))
section
variable {fs fs' ex ex':List S4} {H H1 H2:Hp} {h h1 h2 h':Se} {a x e:S4} {o:HO}
theorem Un.any (u:Un fs ex H H1 h h1) (q:h.get? b=some ob) (n:H b=none) (hx:b∉ex):∃sl,h1.get? b=some {ob with slots:=sl}:=by
 by_cases hb:b∈fs
 ·exact u.slot b ob q n hb hx
 ·exact ⟨ob.slots,u.keep b ob q n hb hx⟩
theorem Un.trans (a:Un fs ex H H1 h h1) (b:Un fs ex H1 H2 h1 h2):Un fs ex H H2 h h2 where
 keep:=λc ob q n hc hx=>b.keep c ob (a.keep c ob q n hc hx) (a.free c ob q n hx) hc hx
 slot:=λc ob q n hc hx=>by
  obtain ⟨sl,e1⟩:=a.slot c ob q n hc hx;obtain ⟨sl',e2⟩:=b.slot c _ e1 (a.free c ob q n hx) hc hx;exact ⟨sl',e2⟩
 free:=λc ob q n hx=>by
  obtain ⟨o',e1⟩:=a.there c ob q hx;exact b.free c o' e1 (a.free c ob q n hx) hx
 there:=λc ob q hx=>by
  obtain ⟨o',e1⟩:=a.there c ob q hx;exact b.there c o' e1 hx
 tups:=λc xs q=>b.tups c xs (a.tups c xs q)
 frzs:=λc ob xs q=>b.frzs c ob xs (a.frzs c ob xs q)
 tbls:=λc ps q=>by
  obtain ⟨m1,e1⟩:=a.tbls c ps q;obtain ⟨m2,e2⟩:=b.tbls c _ e1;exact ⟨m1++m2,by rw [e2,Array.append_assoc]⟩
theorem Un.kept (k:∀b u,h.get? b=some u->h'.get? b=some u):Un fs ex H H h h':=
 ⟨λb ob q _ _ _=>k b ob q,λb ob q _ _ _=>⟨ob.slots,k b ob q⟩,λ_ _ _ n _=>n,λb ob q _=>⟨ob,k b ob q⟩,λ_ _ q=>q,λ_ _ _ q=>q,λ_ ps q=>⟨#[],by rw [q];simp⟩⟩
theorem Un.refl:Un fs ex H H h h:=Un.kept λ_ _ q=>q
theorem Un.laid (k:∀b u,h.get? b=some u->h'.get? b=some u) (hp:h.objs.size<=a) (hn:H a=none):Un fs ex H (upd H a o) h h' where
 keep:=λb u q _ _ _=>k b u q
 slot:=λb u q _ _ _=>⟨u.slots,k b u q⟩
 free:=λb u q n _=>by rw [Sx (yy (yar (yj q) hp))];exact n
 there:=λb u q _=>⟨u,k b u q⟩
 tups:=λb xs q=>by rw [Sx (Jm2 q hn)];exact q
 frzs:=λb u xs q=>by rw [Sx (Jm2 q hn)];exact q
 tbls:=λb ps q=>⟨#[],by rw [Sx (Jm2 q hn),q];simp⟩
theorem Un.write (mu:Mut (H x)) (he:e=x\/H e=some (.own x)) (k:∀b u,b≠e->h.get? b=some u->h'.get? b=some u) (heo:∃u,h'.get? e=some u):Un fs ex H (upd H x o) h h':=by
 have hx:∀b,H b=none->b≠x:=λb n z=>by subst z;rw [n] at mu;exact mu
 have hb:∀b,H b=none->b≠e:=λb n z=>by
  subst z;rcases he with r|r
  ·exact hx b n r
  ·rw [n] at r;cases r
 have hm:∀b u,H b=some u->¬Mut (some u)->b≠x:=λb u q nm z=>by subst z;rw [q] at mu;exact nm mu
 refine ⟨λb u q n _ _=>k b u (hb b n) q,λb u q n _ _=>⟨u.slots,k b u (hb b n) q⟩,λb u q n _=>by rw [Sx (hx b n)];exact n,λb u q _=>?_,
  λb xs q=>by rw [Sx (hm b _ q λz=>z)];exact q,λb u xs q=>by rw [Sx (hm b _ q λz=>z)];exact q,λb ps q=>⟨#[],by rw [Sx (hm b _ q λz=>z),q];simp⟩⟩
 by_cases hbe:b=e
 ·subst hbe;exact heo
 ·exact ⟨u,k b u hbe q⟩
end
noncomputable def trk (h:Se) (H:Hp):List S4:=(yaw h.objs.size).filter λa=>(H a).isSome
noncomputable def Jxs (h:Se) (H:Hp):Se:=PySem.W.hideAll h (trk h H)
theorem Ybr (h) (H):(Jxs h H).objs.size=h.objs.size:=PySem.W.hideAll_size _ _
theorem Jv0 {H} {b} {o} (e:h.get? b=some o) (n:H b=none):(Jxs h H).get? b=some o:=
 PySem.W.hideAll_get _ e λhm=>by
  have q:=(yck.mp hm).2;rw [n] at q;simp at q
theorem Yft (e:(Jxs h H).get? b=some o):h.get? b=some o/\H b=none:=by
 have e':=PySem.W.of_hideAll (trk h H) e;refine ⟨e',?_⟩;cases q:H b with
 |none=>rfl
 |some x=>
  have hm:b∈trk h H:=yck.mpr ⟨ybu.mpr (yj e'),by simp [q]⟩;have z:(Jxs h H).get? b=none:=PySem.W.hideAll_none (trk h H) hm;rw [z] at e;cases e
structure Mod (K:Sg) (mg:Str->Option S5) (base:Se):Prop where
 kin:K.In base
 glob:base.Ns mainGlobals mg
 blt:∃mb,base.Ns builtinsNs mb/\∀x:Str,x≠"__name__" ->mb x=bootBuiltins x
 nolimit:base.NoLimit
structure Cx where
 prog:Sa
 w:Sc
 K:Sg
 mg:Str->Option S5
 base:Se
 A:Sd
 N:List Str
 s₀:S6
 H₀:Hp
 env:Env
 outer:List Env
 stack:List Env
 ex:List S4
 fn:Str->Bool
 calm:Bool
 pn:List (S4×Obj)
 xe:S5->S6->Prop
noncomputable def frs (l:List Env):List S4:=l.filterMap (·.frame)
noncomputable abbrev Cx.fs (X:Cx):List S4:=frs X.outer
noncomputable def Vis (sc:Scope) (x:Str):Prop:=sc.names.lookup x=some .local\/sc.names.lookup x=some .cell\/sc.names.lookup x=some .free
noncomputable def Loc (sc:Scope) (x:Str):Prop:=sc.names.lookup x=some .local\/sc.names.lookup x=some .cell
noncomputable def Swz (env:Env) (h:Se) (m:Str->Option S5) (x:Str) (u:S5):Prop:=
 (env.kindOf x=some .local/\m x=some u)\/((env.kindOf x=some .cell\/env.kindOf x=some .free)/\∃c,env.cells.lookup x=some c/\h.IsCell c (some u))
structure Cx.Ok (X:Cx):Prop where
 mod:Mod X.K X.mg X.base
 kind:X.env.scope.kind= .function
 glob:X.env.globals=mainGlobals
 blt:X.env.builtins=builtinsNs
 above:X.s₀.heap.objs.size<=X.env.locals
 inj:∀x y c,X.env.cells.lookup x=some c->X.env.cells.lookup y=some c->x=y
 has:∀x,(X.env.kindOf x=some .cell\/X.env.kindOf x=some .free)->∃c,X.env.cells.lookup x=some c
 cab:∀x c,X.fn x=true->X.env.cells.lookup x=some c->X.s₀.heap.objs.size<=c
 hd:X.calm=true->X.A.handled=none
 frames:X.A.frames=some X.stack
 stk:X.stack=X.outer\/(X.stack=X.env::X.outer/\X.env.frame=some X.env.locals)
 exf:∀b∈X.ex,b≠X.env.locals/\∀x c,X.env.cells.lookup x=some c->c≠b
 bs:∀b o,X.base.get? b=some o->X.s₀.heap.get? b=some o/\X.H₀ b=none
 bsz:X.base.objs.size<=X.s₀.heap.objs.size
 noex:∀b o,X.base.get? b=some o->b∉X.ex
 exfs:∀b∈X.ex,b∉X.fs
 funs:X.s₀.heap.FunFrames X.base X.outer
 frf:∀b∈X.fs,X.H₀ b=none
structure Ss (X:Cx) (pins:List (S4×Obj)) (σ:List (Option V)) (H:Hp) (s:S6):Prop where
 ok:X.Ok
 os:s.os=X.s₀.os
 bare:AllBare s.gens
 base:Un X.fs X.ex X.H₀ H X.s₀.heap s.heap
 loc:∃m,s.heap.Ns X.env.locals m/\∀(i:Nat) (x:Str) (v:V),X.N[i]?=some x->σ[i]?=some (some v)->Vis X.env.scope x->∃u,Sw v u/\Swz X.env s.heap m x u
 cell:∀x c,X.env.cells.lookup x=some c->∃v,s.heap.IsCell c v
 free:H X.env.locals=none
 freeC:∀x c,X.env.cells.lookup x=some c->H c=none\/(X.fn x=false/\∃o,H c=some (Sxs o))
 pin:∀p∈X.pn++pins,s.heap.get? p.1=some p.2/\H p.1=none/\p.1≠X.env.locals/\p.1∉X.fs/\∀v,p.2.data≠ .cell v
 hok:HOk X.prog X.w H s.heap
 len:σ.length=X.N.length
section
variable {X:Cx} {pins:List (S4×Obj)} {σ:List (Option V)} {H H':Hp} {s:S6} {h':Se}
theorem Cx.Ok.nofr (ok:X.Ok) (e:X.base.get? b=some o):b∉X.fs:=λhb=>by
 have:=(ok.funs.mem hb).1;rw [e] at this;cases this
theorem Ss.bs (I:Ss X pins σ H s):∀b o,X.base.get? b=some o->s.heap.get? b=some o/\H b=none:=λb o e=>
 ⟨I.base.keep b o (I.ok.bs b o e).1 (I.ok.bs b o e).2 (I.ok.nofr e) (I.ok.noex b o e),I.base.free b o (I.ok.bs b o e).1 (I.ok.bs b o e).2 (I.ok.noex b o e)⟩
theorem Ss.bk (I:Ss X pins σ H s):∀b o,X.base.get? b=some o->s.heap.get? b=some o:=λb o e=>(I.bs b o e).1
theorem Ss.mod (I:Ss X pins σ H s):Mod X.K X.mg X.base:=I.ok.mod
theorem Ss.kIn (I:Ss X pins σ H s):X.K.In s.heap:=I.ok.mod.kin.keeps I.bk
theorem Ss.lt (I:Ss X pins σ H s):X.env.locals < s.heap.objs.size:=let ⟨_,hn,_⟩:=I.loc;hn.lt
theorem Ss.sz (I:Ss X pins σ H s):X.s₀.heap.objs.size<=s.heap.objs.size:=yai I.ok.above (ycf I.lt)
theorem Ss.nofs (I:Ss X pins σ H s) (h:s.heap.objs.size<=a):a∉X.fs:=λhb=>by
 obtain ⟨_,o,ho,_⟩:=I.ok.funs.mem hb;exact absurd (yar (yj ho) (yai I.sz h)) (ybd _)
theorem Ss.cne (I:Ss X pins σ H s):∀x c,X.env.cells.lookup x=some c->c≠X.env.locals:=λx c e z=>by
 obtain ⟨v,o,ho,hd⟩:=I.cell x c e;obtain ⟨m,⟨o',es,ep,ho',hd',_⟩,_⟩:=I.loc;rw [z,ho'] at ho;cases ho;rw [hd'] at hd;cases hd
theorem Ss.funs (I:Ss X pins σ H s):s.heap.FunFrames X.base X.outer:=by
 have all:∀l,(∀b∈frs l,b∈X.fs)->X.s₀.heap.FunFrames X.base l->s.heap.FunFrames X.base l:=by
  intro l
  induction l with
  |nil=>intro _ _;trivial
  |cons env r ih=>
   rintro hs ⟨hk,⟨L,o,hf,hn,ho,hd⟩,hr⟩;have hL:=hs L (by unfold frs;rw [List.filterMap_cons,hf];exact yab);obtain ⟨sl,e⟩:=I.base.slot L o ho (I.ok.frf L hL) hL λz=>I.ok.exfs L z hL;exact ⟨hk,⟨L,_,hf,hn,e,hd⟩,ih (λb hb=>hs b (by unfold frs;rw [List.filterMap_cons,hf];exact yz _ hb)) hr⟩
 exact all X.outer (λ_ hb=>hb) I.ok.funs
theorem Ss.stack (I:Ss X pins σ H s):s.heap.FunFrames X.base X.stack:=by
 rcases I.ok.stk with e|⟨e,hf⟩
 ·rw [e];exact I.funs
 ·rw [e];obtain ⟨m,hn,_⟩:=I.loc;exact .cons (by rw [I.ok.kind];decide) hf hn (Heap.get?_none_of_le (yai I.ok.bsz I.ok.above)) I.funs
theorem Ss.stkSub (I:Ss X pins σ H s):∀b∈frs X.stack,b∈X.env.locals::X.fs:=λb hb=>by
 rcases I.ok.stk with e|⟨e,hf⟩
 ·rw [e] at hb;exact yz _ hb
 ·rw [e] at hb;unfold frs at hb;rw [List.filterMap_cons,hf] at hb;exact hb
theorem Ss.stkFree (I:Ss X pins σ H s):∀b∈frs X.stack,H b=none:=λb hb=>by
 rcases yq.mp (I.stkSub b hb) with e|hb
 ·rw [e];exact I.free
 ·obtain ⟨_,o,ho,_⟩:=I.ok.funs.mem hb;exact I.base.free b o ho (I.ok.frf b hb) λz=>I.ok.exfs b z hb
theorem Ss.step {ch:List S4} (I:Ss X pins σ H s)
  (hch:∀b∈ch,(b∈X.ex\/X.s₀.heap.objs.size<=b)/\b≠X.env.locals/\(∀x c,X.env.cells.lookup x=some c->c≠b)/\∀p∈X.pn++pins,p.1≠b)
  (keep:∀b o,b≠X.env.locals->b∉X.fs->b∉ch->s.heap.get? b=some o->H b=none->h'.get? b=some o)
  (slot:∀b o,b≠X.env.locals->b∈X.fs->b∉ch->s.heap.get? b=some o->H b=none->∃sl,h'.get? b=some {o with slots:=sl}) (free:∀b o,b∉ch->s.heap.get? b=some o->H b=none->H' b=none)
  (there:∀b o,b∉ch->s.heap.get? b=some o->∃o',h'.get? b=some o')
  (tups:∀b xs,H b=some (.tup xs)->H' b=some (.tup xs)) (frzs:∀b o u,H b=some (.frz o u)->H' b=some (.frz o u)) (tbls:∀b ps,H b=some (.tbl ps)->∃more,H' b=some (.tbl (ps++more)))
  (ns:∀m,s.heap.Ns X.env.locals m->h'.Ns X.env.locals m) (hok:HOk X.prog X.w H' h') (hg:AllBare g'):
  Ss X pins σ H' {s with heap:=h',gens:=g',drawn:=d',toks:=t'}:=by
 have neL:∀b o,X.s₀.heap.get? b=some o->b≠X.env.locals:=λb o e=>yy (yar (yj e) I.ok.above);have neC:∀b o,X.s₀.heap.get? b=some o->b∉X.ex->b∉ch:=λb o e hx hb=>by
  rcases (hch b hb).1 with z|z
  ·exact hx z
  ·exact absurd (yar (yj e) z) (ybd _)
 have cellK:∀x c,X.env.cells.lookup x=some c->∀v,s.heap.IsCell c v->h'.IsCell c v:=λx c e v ⟨o,ho,hd⟩=>by
  have nch:=λz=>(hch c z).2.2.1 x c e rfl;rcases I.freeC x c e with n|⟨_,ob,q⟩
  ·by_cases hc:c∈X.fs
   ·obtain ⟨sl,q⟩:=slot c o (I.cne x c e) hc nch ho n;exact ⟨_,q,hd⟩
   ·exact ⟨o,keep c o (I.cne x c e) hc nch ho n,hd⟩
  ·obtain ⟨e1,_⟩:=I.hok c _ q;obtain ⟨e2,_⟩:=hok c _ (frzs c ob _ q);rw [ho] at e1;cases e1;exact ⟨_,e2,hd⟩
 refine ⟨I.ok,I.os,hg,⟨λb o e n hb hx=>?_,λb o e n hb hx=>?_,λb o e n hx=>?_,λb o e hx=>?_,λb xs e=>tups b xs (I.base.tups b xs e),λb o xs e=>frzs b o xs (I.base.frzs b o xs e),λb ps e=>?_⟩,?_,λx c e=>?_,?_,λx c e=>?_,λp hp=>?_,hok,I.len⟩
 ·exact keep b o (neL b o e) hb (neC b o e hx) (I.base.keep b o e n hb hx) (I.base.free b o e n hx)
 ·obtain ⟨sl,e1⟩:=I.base.slot b o e n hb hx;obtain ⟨sl',e2⟩:=slot b _ (neL b o e) hb (neC b o e hx) e1 (I.base.free b o e n hx);exact ⟨sl',e2⟩
 ·obtain ⟨o',e1⟩:=I.base.there b o e hx;exact free b o' (neC b o e hx) e1 (I.base.free b o e n hx)
 ·obtain ⟨o',e1⟩:=I.base.there b o e hx;exact there b o' (neC b o e hx) e1
 ·obtain ⟨m1,e1⟩:=I.base.tbls b ps e;obtain ⟨m2,e2⟩:=tbls b _ e1;exact ⟨m1++m2,by rw [e2,Array.append_assoc]⟩
 ·obtain ⟨m,hn,hl⟩:=I.loc;refine ⟨m,ns m hn,λi x v e1 e2 e3=>?_⟩;obtain ⟨u,r,l⟩:=hl i x v e1 e2 e3;refine ⟨u,r,?_⟩;rcases l with l|⟨k,c,e,z⟩
  ·exact .inl l
  ·exact .inr ⟨k,c,e,cellK x c e _ z⟩
 ·obtain ⟨v,z⟩:=I.cell x c e;exact ⟨v,cellK x c e v z⟩
 ·obtain ⟨m,⟨o,_,_,ho,_⟩,_⟩:=I.loc;exact free _ o (λz=>(hch _ z).2.1 rfl) ho I.free
 ·obtain ⟨v,o,ho,hd⟩:=I.cell x c e;rcases I.freeC x c e with n|⟨hf,ob,q⟩
  ·exact .inl (free c o (λz=>(hch c z).2.2.1 x c e rfl) ho n)
  ·exact .inr ⟨hf,ob,frzs c ob _ q⟩
 ·obtain ⟨e,n,ne,nf,d⟩:=I.pin p hp;have nch:=λz=>(hch p.1 z).2.2.2 p hp rfl;exact ⟨keep p.1 p.2 ne nf nch e n,free p.1 p.2 nch e n,ne,nf,d⟩
theorem Ss.un (I:Ss X pins σ H s) (u:Un X.fs [] H H' s.heap h') (hok:HOk X.prog X.w H' h'):Ss X pins σ H' {s with heap:=h',toks:=t'}:=by
 obtain ⟨m,⟨o,es,ep,ho,r⟩,_⟩:=id I.loc;obtain ⟨sl,hL⟩:=u.any ho I.free (by simp);exact I.step (ch:=[]) (λ_ z=>nomatch z) (λb o _ hb _ e n=>u.keep b o e n hb (by simp)) (λb o _ hb _ e n=>u.slot b o e n hb (by simp)) (λb o _ e n=>u.free b o e n (by simp)) (λb o _ e=>u.there b o e (by simp)) u.tups u.frzs u.tbls (λm' hm=>by
  obtain ⟨o',es',ep',ho',r'⟩:=hm;rw [ho] at ho';cases ho';exact ⟨_,es',ep',hL,r'⟩) hok I.bare
theorem Ss.call (I:Ss X pins σ H s) (u:Un (frs X.stack) ch H H' s.heap h') (hok:HOk X.prog X.w H' h') (hg:AllBare g')
  (hch:∀b∈ch,(b∈X.ex\/X.s₀.heap.objs.size<=b)/\b≠X.env.locals/\(∀x c,X.env.cells.lookup x=some c->c≠b)/\∀p∈X.pn++pins,p.1≠b):
  Ss X pins σ H' {s with heap:=h',gens:=g',drawn:=d',toks:=t'}:=by
 obtain ⟨m,⟨o,es,ep,ho,r⟩,_⟩:=id I.loc;obtain ⟨sl,hL⟩:=u.any ho I.free λz=>(hch _ z).2.1 rfl;exact I.step hch (λb o hL hb hc e n=>u.keep b o e n (λz=>(yq.mp (I.stkSub b z)).elim hL hb) hc) (λb o _ _ hc e n=>u.any e n hc) (λb o hc e n=>u.free b o e n hc) (λb o hc e=>u.there b o e hc) u.tups u.frzs u.tbls (λm' hm=>by
  obtain ⟨o',es',ep',ho',r'⟩:=hm;rw [ho] at ho';cases ho';exact ⟨_,es',ep',hL,r'⟩) hok hg
theorem Ss.turned (I:Ss X pins σ H s) (k:∀b o,b≠it->s.heap.get? b=some o->h'.get? b=some o) (hn:H it=none) (hL:it≠X.env.locals)
  (h1:it∈X.ex\/X.s₀.heap.objs.size<=it) (h2:∀x c,X.env.cells.lookup x=some c->c≠it) (h3:∀p∈X.pn++pins,p.1≠it):Ss X pins σ H {s with heap:=h',toks:=t'}:=by
 have nit:∀b u,H b=some u->b≠it:=λb u e z=>by rw [z,hn] at e;cases e
 refine I.step (ch:=[it]) (λb hb=>?_) (λb o _ _ hc e _=>k b o (λz=>hc (by simp [z])) e) (λb o _ _ hc e _=>⟨o.slots,k b o (λz=>hc (by simp [z])) e⟩) (λ_ _ _ _ n=>n)
  (λb o hc e=>⟨o,k b o (λz=>hc (by simp [z])) e⟩) (λ_ _ e=>e) (λ_ _ _ e=>e) (λb ps e=>⟨#[],by rw [e];simp⟩) (λm hm=>?_) (λb u e=>?_) I.bare
 ·have e:=by simpa using hb
  subst e;exact ⟨h1,hL,h2,h3⟩
 ·obtain ⟨o,es,ep,ho,r⟩:=hm;exact ⟨o,es,ep,k _ o (yx hL) ho,r⟩
 ·refine (I.hok b u e).stay (λc v hc q=>k c v ?_ q) (λ_ q=>q) (λ_ _ q=>q) λ_ _ q=>q;rcases hc with z|z
  ·rw [z];exact nit b u e
  ·exact nit c _ z
theorem Ss.tok (I:Ss X pins σ H s) (t):Ss X pins σ H {s with toks:=t}:=I.un Un.refl I.hok
theorem Ss.kept (I:Ss X pins σ H s) (k:∀b u,s.heap.get? b=some u->h'.get? b=some u):Ss X pins σ H {s with heap:=h',toks:=t'}:=I.un (Un.kept k) (I.hok.kept k)
theorem Ss.laid (I:Ss X pins σ H s) (k:∀b u,s.heap.get? b=some u->h'.get? b=some u) (hp:s.heap.objs.size<=a) (new:Sai X.prog X.w (upd H a o) h' a o):
  Ss X pins σ (upd H a o) {s with heap:=h',toks:=t'}:=I.un (Un.laid k hp (I.hok.fresh hp)) (I.hok.laid k hp new)
theorem Ss.write (I:Ss X pins σ H s) (mu:Mut (H x)) (he:e=x\/H e=some (.own x)) (k:∀b u,b≠e->s.heap.get? b=some u->h'.get? b=some u) (heo:∃u,h'.get? e=some u)
  (new:Sai X.prog X.w (upd H x o) h' x o):Ss X pins σ (upd H x o) {s with heap:=h',toks:=t'}:=I.un (Un.write mu he k heo) (I.hok.write mu he k heo new)
theorem Ss.pins_of (I:Ss X pins σ H s) (h:∀p∈pins',s.heap.get? p.1=some p.2/\H p.1=none/\p.1≠X.env.locals/\p.1∉X.fs/\∀v,p.2.data≠ .cell v):Ss X pins' σ H s:=
 ⟨I.ok,I.os,I.bare,I.base,I.loc,I.cell,I.free,I.freeC,λp hp=>(yax.mp hp).elim (λz=>I.pin p (ycr _ z)) (h p),I.hok,I.len⟩
theorem Jv8 {N:List Str} (hN:N.Nodup) {i:Nat} (a:N[i]?=some x) (b:N[j]?=some x):i=j:=by
 obtain ⟨h1,e1⟩:=yi.mp a;obtain ⟨h2,e2⟩:=yi.mp b;exact (List.getElem_inj hN).mp (e1.trans e2.symm)
theorem Jxh {E} {i} {x} {v} {u} {Q} (I:Ss X pins σ H s) (hN:X.N.Nodup) (hi:X.N[i]?=some x) (hx:Loc X.env.scope x) (r:Sw v u)
  (h:∀s',Ss X pins (σ.set i (some v)) H s'->(∃a,yay a s.heap s'.heap/\(a=X.env.locals\/X.env.cells.lookup x=some a))->Q () s') (hf:X.fn x=true\/X.env.scope.names.lookup x=some .local:=by first|exact .inl rfl|exact .inr rfl|assumption):Sf M A (storeName X.env x u) Q E s:=by
 obtain ⟨m,hn,hl⟩:=id I.loc;have hcls:(X.env.scope.kind== .class||(X.env.scope.kind== .module&&X.env.locals !=X.env.globals))=false:=by rw [I.ok.kind];rfl
 have hiσ:i < σ.length:=by rw [I.len];exact (yi.mp hi).1
 have cne:=I.cne;have tracked:∀{a:S4} {h':Se},(∃o,s.heap.get? a=some o/\H a=none)->yay a s.heap h'->HOk X.prog X.w H h':=λ{a h'} ha hs b ob e=>by
  obtain ⟨_,_,hfree⟩:=ha;refine (I.hok b ob e).stay (λc w' hc q=>(hs.2 c ?_).trans q) (λ_ q=>q) (λ_ _ q=>q) λ_ _ q=>q;rintro rfl;rcases hc with rfl|hc
  ·rw [hfree] at e;cases e
  ·rw [hfree] at hc;cases hc
 rcases hx with hk|hk
 ·refine wpAny_storeName_local hk hn (λh' hn' hs=>?_) hcls;obtain ⟨oL,_,_,hoL,_⟩:=id hn;refine h _ ⟨I.ok,I.os,I.bare,⟨λb o e n hb hx=>?_,λb o e n hb hx=>?_,I.base.free,λb o e hx=>?_,I.base.tups,I.base.frzs,I.base.tbls⟩,⟨_,hn',λj y v' e1 e2 e3=>?_⟩,λy c e=>?_,I.free,I.freeC,λp hp=>?_,tracked ⟨oL,hoL,I.free⟩ hs,by simpa using I.len⟩ ⟨_,hs,.inl rfl⟩
  ·exact (hs.2 b (yy (yar (yj e) I.ok.above))).trans (I.base.keep b o e n hb hx)
  ·obtain ⟨sl,e1⟩:=I.base.slot b o e n hb hx;exact ⟨sl,(hs.2 b (yy (yar (yj e) I.ok.above))).trans e1⟩
  ·obtain ⟨o',e1⟩:=I.base.there b o e hx;exact ⟨o',(hs.2 b (yy (yar (yj e) I.ok.above))).trans e1⟩
  ·by_cases hj:j=i
   ·subst hj;rw [hi] at e1;cases e1;rw [List.getElem?_set_self hiσ] at e2;cases e2;exact ⟨u,r,.inl ⟨hk,by simp⟩⟩
   ·rw [List.getElem?_set_ne (yx hj)] at e2;obtain ⟨u',r',q⟩:=hl j y v' e1 e2 e3;refine ⟨u',r',?_⟩;rcases q with ⟨k,e⟩|⟨k,c,e,z⟩
    ·refine .inl ⟨k,?_⟩;have:y≠x:=λe=>hj (Jv8 hN e1 (e▸hi));simp [this,e]
    ·exact .inr ⟨k,c,e,z.sameBut hs (cne y c e)⟩
  ·obtain ⟨w',z⟩:=I.cell y c e;exact ⟨w',z.sameBut hs (cne y c e)⟩
  ·obtain ⟨e,n,ne,nf,d⟩:=I.pin p hp;exact ⟨(hs.2 p.1 ne).trans e,n,ne,nf,d⟩
 ·have hfn:X.fn x=true:=by
   rcases hf with z|z
   ·exact z
   ·rw [z] at hk;cases hk
  obtain ⟨c,hc⟩:=I.ok.has x (.inl hk);obtain ⟨w',z⟩:=I.cell x c hc;refine wpAny_storeName_cell I.ok.kind hk hc z (λh' hc' hs=>?_);obtain ⟨oc,hoc,hocd⟩:=id z;refine h {s with heap:=h'} ⟨I.ok,I.os,I.bare,⟨λb o e n hb hx=>?_,λb o e n hb hx=>?_,I.base.free,λb o e hx=>?_,I.base.tups,I.base.frzs,I.base.tbls⟩,⟨m,hn.sameBut hs (yx (cne x c hc)),λj y v' e1 e2 e3=>?_⟩,λy c' e=>?_,I.free,I.freeC,λp hp=>?_,tracked ⟨oc,hoc,(I.freeC x c hc).elim id λz=>by rw [hfn] at z;cases z.1⟩ hs,by simpa using I.len⟩ ⟨c,hs,.inr hc⟩
  ·exact (hs.2 b (yy (yar (yj e) (I.ok.cab x c hfn hc)))).trans (I.base.keep b o e n hb hx)
  ·obtain ⟨sl,e1⟩:=I.base.slot b o e n hb hx;exact ⟨sl,(hs.2 b (yy (yar (yj e) (I.ok.cab x c hfn hc)))).trans e1⟩
  ·obtain ⟨o',e1⟩:=I.base.there b o e hx;exact ⟨o',(hs.2 b (yy (yar (yj e) (I.ok.cab x c hfn hc)))).trans e1⟩
  ·by_cases hj:j=i
   ·subst hj;rw [hi] at e1;cases e1;rw [List.getElem?_set_self hiσ] at e2;cases e2;exact ⟨u,r,.inr ⟨.inl hk,c,hc,hc'⟩⟩
   ·rw [List.getElem?_set_ne (yx hj)] at e2;obtain ⟨u',r',q⟩:=hl j y v' e1 e2 e3;refine ⟨u',r',?_⟩;rcases q with q|⟨k,c',e,z'⟩
    ·exact .inl q
    ·refine .inr ⟨k,c',e,z'.sameBut hs ?_⟩;rintro rfl;exact hj (Jv8 hN e1 (I.ok.inj _ _ _ e hc▸hi))
  ·by_cases hcc:c'=c
   ·subst hcc;exact ⟨_,hc'⟩
   ·obtain ⟨w2,z2⟩:=I.cell y c' e;exact ⟨w2,z2.sameBut hs hcc⟩
  ·obtain ⟨e,n,ne,nf,d⟩:=I.pin p hp;refine ⟨(hs.2 p.1 ?_).trans e,n,ne,nf,d⟩;intro q;rw [q,hoc] at e;exact d w' (by rw [<-(yac.inj e)];exact hocd)
theorem Jsr {i} {x} {v} {u} {Q} (I:Ss X pins σ H s) (hN:X.N.Nodup) (hi:X.N[i]?=some x) (hx:Loc X.env.scope x) (r:Sw v u)
  (h:∀s',Ss X pins (σ.set i (some v)) H s'->Q () s') (hf:X.fn x=true\/X.env.scope.names.lookup x=some .local:=by first|exact .inl rfl|exact .inr rfl|assumption):Sf M A (storeName X.env x u) Q E s:=
 Jxh I hN hi hx r (λs' I' _=>h s' I') hf
theorem Ss.call' (I:Ss X pins σ H s) (ho:s'.os=s.os) (u:Un (frs X.stack) ch H H' s.heap s'.heap) (hok:HOk X.prog X.w H' s'.heap) (hg:AllBare s'.gens)
  (hch:∀b∈ch,(b∈X.ex\/X.s₀.heap.objs.size<=b)/\b≠X.env.locals/\(∀x c,X.env.cells.lookup x=some c->c≠b)/\∀p∈X.pn++pins,p.1≠b):Ss X pins σ H' s':=by
 obtain ⟨h',g',d',t',o'⟩:=s';subst ho;exact I.call u hok hg hch
end
noncomputable abbrev XK:=S5->Option S4->Hp->Prop
noncomputable abbrev St:=List (Option V)
noncomputable abbrev VK:=V->Hp->Prop
noncomputable abbrev TE:=St->Hp->VK->Prop
noncomputable abbrev TT:=St->Hp->(Bool->Hp->Prop)->Prop
noncomputable abbrev TA:=St->Hp->(List V->Hp->Prop)->Prop
structure Sc8 where
 nx:St->Hp->Prop
 rt:VK
 bk:St->Hp->Prop:=λ_ _=>False
 ct:St->Hp->Prop:=λ_ _=>False
noncomputable abbrev TS:=Sc8->St->Hp->Prop
noncomputable def EP (X:Cx) (pins:List (S4×Obj)) (σ:St) (Q:VK) (u:S5) (s':S6):Prop:=∃v H',Ss X pins σ H' s'/\Sw v u/\Q v H'
noncomputable def TP (X:Cx) (pins:List (S4×Obj)) (σ:St) (Q:Bool->Hp->Prop) (b:Bool) (s':S6):Prop:=∃H',Ss X pins σ H' s'/\Q b H'
noncomputable def AP (X:Cx) (pins:List (S4×Obj)) (σ:St) (Q:List V->Hp->Prop) (us:List S5) (s':S6):Prop:=∃vs H',Ss X pins σ H' s'/\Sy vs us/\Q vs H'
noncomputable def SP (X:Cx) (pins:List (S4×Obj)) (D:Sc8) (f:Flow) (s':S6):Prop:=
 match f with
 | .next=>∃σ' H',Ss X pins σ' H' s'/\D.nx σ' H'
 | .brk=>∃σ' H',Ss X pins σ' H' s'/\D.bk σ' H'
 | .cont=>∃σ' H',Ss X pins σ' H' s'/\D.ct σ' H'
 | .ret u=>∃v σ' H',Ss X pins σ' H' s'/\Sw v u/\D.rt v H'
noncomputable def PE (X:Cx) (e:Expr) (t:TE):Prop:=
 ∀(pins:List (S4×Obj)) (s:S6) (σ:St) (H:Hp) (Q:VK),Ss X pins σ H s->t σ H Q->Sf (model X.prog X.w) X.A (eval e X.env) (EP X pins σ Q) X.xe s
noncomputable def PT (X:Cx) (e:Expr) (t:TT):Prop:=
 ∀(pins:List (S4×Obj)) (s:S6) (σ:St) (H:Hp) (Q:Bool->Hp->Prop),Ss X pins σ H s->t σ H Q->Sf (model X.prog X.w) X.A (isTrue e X.env (eval e X.env)) (TP X pins σ Q) X.xe s
noncomputable def PW (X:Cx) (e:Expr) (t:TT):Prop:=
 ∀(whole:Sem S5) (pins:List (S4×Obj)) (s:S6) (σ:St) (H:Hp) (Q:Bool->Hp->Prop),Ss X pins σ H s->t σ H Q->Sf (model X.prog X.w) X.A (isTrue e X.env whole) (TP X pins σ Q) X.xe s
theorem PW.pt (h:PW X e t):PT X e t:=h _
noncomputable def PA (X:Cx) (es:List Expr) (t:TA):Prop:=
 ∀(pos:Pos) (pins:List (S4×Obj)) (s:S6) (σ:St) (H:Hp) (Q:List V->Hp->Prop),Ss X pins σ H s->t σ H Q->Sf (model X.prog X.w) X.A (spliced (backTo pos (starEach es X.env))) (AP X pins σ Q) X.xe s
noncomputable def PS (X:Cx) (st:Stmt) (t:TS):Prop:=
 ∀(pins:List (S4×Obj)) (s:S6) (σ:St) (H:Hp) (D:Sc8),Ss X pins σ H s->t D σ H->Sf (model X.prog X.w) X.A (exec st X.env) (SP X pins D) X.xe s
noncomputable def PSs (X:Cx) (st:List Stmt) (t:TS):Prop:=
 ∀(pins:List (S4×Obj)) (s:S6) (σ:St) (H:Hp) (D:Sc8),Ss X pins σ H s->t D σ H->Sf (model X.prog X.w) X.A (execs st X.env) (SP X pins D) X.xe s
theorem thn (h:Sf M A t Q E s) (hQ:∀a s,Q a s->Q' a s):Sf M A t Q' E s:=wpAny_mono h hQ λ_ _ x=>x
section
variable {X:Cx}
inductive Sk4 (i:Nat) (σ:St) (H:Hp) (Q:VK):Prop where
 |mk (v:_) (_:σ[i]?=some (some v)) (_:Q v H)
noncomputable def tC (v:V):TE:=λ_ H Q=>Q v H
theorem Sn9 (hN:X.N[i]?=some x) (hv:Vis X.env.scope x) (hd:(x==("__debug__" :Str))=false:=by decide) (hcd:(x==("__classdict__" :Str))=false:=by decide):PE X (.Name x pos) (Sk4 i):=by
 rintro pins s σ H Q I ⟨v,e,h⟩;obtain ⟨m,hn,hl⟩:=I.loc;obtain ⟨u,r,l⟩:=hl i x v hN e hv;have fin:EP X pins σ Q u s:=⟨v,H,I,r,h⟩;rcases l with ⟨hk,hm⟩|⟨hk,c,hc,hcell⟩
 ·exact wpAny_Name (wpAny_loadName_local I.ok.kind hk hn hm fin) hd
 ·rcases hk with hk|hk
  ·exact wpAny_Name (wpAny_loadName_cell I.ok.kind hk hc hcell fin) hd
  ·exact wpAny_Name (wpAny_loadName_free I.ok.kind hk hc hcell fin hcd) hd
theorem Su:PE X (.Constant (.int i) j pos) (tC (.int i)):=λ_ _ _ H _ I h=>wpAny_Constant_int ⟨.int i,H,I.tok _,⟨_,rfl⟩,h⟩
theorem Jny:PE X (.Constant (.bool b) j pos) (tC (.bl b)):=λ_ _ _ H _ I h=>Constant_bool ⟨.bl b,H,I,rfl,h⟩
theorem Jnt:PE X (.Constant .none j pos) (tC .non):=λ_ _ _ H _ I h=>Constant_none ⟨.non,H,I,rfl,h⟩
theorem Jnl:PE X (.Constant (.str x) j pos) (tC (.str x)):=λ_ _ _ H _ I h=>Calls.Constant_str ⟨.str x,H,I.tok _,⟨_,rfl⟩,h⟩
noncomputable def Gl (X:Cx) (x:Str):Prop:=X.env.kindOf x=some .globalImplicit
theorem Jpy {pins} {s} {σ:St} {H} {x} {u} {pos} {Q} (I:Ss X pins σ H s) (hg:Gl X x) (hm:X.mg x=some u) (h:Q u s)
  (hd:(x==("__debug__" :Str))=false:=by decide):Sf (model X.prog X.w) X.A (eval (.Name x pos) X.env) Q E s:=
 Calls.Name_function_global I.ok.kind hg (Calls.loadGlobal_global (by rw [I.ok.glob];exact I.mod.glob.keeps I.bk) hm h) hd
theorem Jpx {E} {pins} {s} {σ:St} {H} {x} {u} {pos} {Q} (I:Ss X pins σ H s) (hg:Gl X x) (hm:X.mg x=none) (hv:bootBuiltins x=some u) (h:Q u s)
  (hn:x≠"__name__" :=by decide) (hd:(x==("__debug__" :Str))=false:=by decide):Sf (model X.prog X.w) X.A (eval (.Name x pos) X.env) Q E s:=by
 obtain ⟨mb,h1,h2⟩:=I.mod.blt;exact Calls.Name_function_global I.ok.kind hg (Calls.loadGlobal_builtin (by rw [I.ok.glob];exact I.mod.glob.keeps I.bk) hm (by rw [I.ok.blt];exact h1.keeps I.bk) ((h2 x hn).trans hv) h) hd
theorem Jnb (hg:Gl X x) (hm:X.mg x=some u) (r:Sw v u) (hd:(x==("__debug__" :Str))=false:=by decide):PE X (.Name x pos) (tC v):=
 λ_ _ _ H _ I h=>Jpy I hg hm ⟨v,H,I,r,h⟩ hd
theorem Jor (hg:Gl X x) (hm:X.mg x=none) (hv:bootBuiltins x=some u) (r:Sw v u) (hn:x≠"__name__" :=by decide) (hd:(x==("__debug__" :Str))=false:=by decide):PE X (.Name x pos) (tC v):=
 λ_ _ _ H _ I h=>Jpx I hg hm hv ⟨v,H,I,r,h⟩ hn hd
variable {a b:Expr} {ta tb:TE} {pos:Pos}
inductive Syo (Q:(Bool->Hp->Prop)) (x:V) (H1:Hp):Prop where
 |mk (c:_) (_:x= .bl c) (_:Q c H1)
noncomputable def tB (t:TE):TT:=λσ H Q=>t σ H (Syo Q)
theorem Jn5 (h:PE X e t) (he:∀whole,isTrue e X.env whole=(do let v<-whole;standAt e.pos;holding [v] (truthy v)):=by intro _;rfl):PT X e (tB t):=by
 intro pins s σ H Q I hw;refine isTrue_plain (thn (h pins s σ H _ I hw) λv s1 zq=>?_) (he _);obtain ⟨x,H1,I1,r1,q1⟩:=zq;obtain ⟨d,rfl,q⟩:=q1;cases r1;exact wpAny_truthy_bool ⟨H1,I1,q⟩
variable {tA tB':TT} {rest:List Expr}
noncomputable def Sym (t u:TT):TT:=λσ H Q=>t σ H λc H1=>if c=true then u σ H1 Q else Q false H1
noncomputable def tOr (t u:TT):TT:=λσ H Q=>t σ H λc H1=>if c=true then Q true H1 else u σ H1 Q
noncomputable def Syt (t:TT):TT:=λσ H Q=>t σ H λc H1=>Q (!c) H1
theorem Yb3 (ha:PT X a tA):PW X (.BoolOp .And [a] pos) tA:=by
 intro wh pins s σ H Q I h;refine isTrue_and (thn (ha pins s σ H Q I h) λc s1 e=>?_);cases c with
 |true=>exact isTrue_and_nil e
 |false=>exact e
theorem Jtg (ha:PT X a tA):PW X (.BoolOp .Or [a] pos) tA:=by
 intro wh pins s σ H Q I h;refine isTrue_or (thn (ha pins s σ H Q I h) λc s1 e=>?_);cases c with
 |false=>exact isTrue_or_nil e
 |true=>exact e
theorem Ydy (ha:PT X a tA) (hb:PW X (.BoolOp .And (b::rest) pos) tB'):PW X (.BoolOp .And (a::b::rest) pos) (Sym tA tB'):=by
 intro wh pins s σ H Q I h;refine isTrue_and (thn (ha pins s σ H _ I h) λc s1 zq=>?_);obtain ⟨H1,I1,q1⟩:=zq;cases c with
 |true=>exact hb wh pins s1 σ H1 Q I1 q1
 |false=>exact ⟨H1,I1,q1⟩
theorem Jxg (ha:PT X a tA) (hb:PW X (.BoolOp .Or (b::rest) pos) tB'):PW X (.BoolOp .Or (a::b::rest) pos) (tOr tA tB'):=by
 intro wh pins s σ H Q I h;refine isTrue_or (thn (ha pins s σ H _ I h) λc s1 zq=>?_);obtain ⟨H1,I1,q1⟩:=zq;cases c with
 |true=>exact ⟨H1,I1,q1⟩
 |false=>exact hb wh pins s1 σ H1 Q I1 q1
theorem Jn3 (ha:PT X a tA):PT X (.UnaryOp .Not a pos) (Syt tA):=by
 intro pins s σ H Q I h;exact isTrue_not (ha pins s σ H (λc H1=>Q (!c) H1) I h)
inductive Ygz (ta tb:TE) (σ:St) (Q:VK) (x:V) (H1:Hp):Prop where
 |mk (c:_) (_:x= .bl c) (_:if c=true then tb σ H1 Q else Q (.bl false) H1)
noncomputable def Sso (ta tb:TE):TE:=λσ H Q=>ta σ H (Ygz ta tb σ Q)
theorem Yw (h:PE X a t):PE X (.BoolOp op [a] pos) t:=λpins s σ H Q I hw=>BoolOp_one (h pins s σ H Q I hw)
theorem Yu (ha:PE X a ta) (hb:PE X (.BoolOp .And (b::rest) pos) tb):PE X (.BoolOp .And (a::b::rest) pos) (Sso ta tb):=by
 intro pins s σ H Q I h;refine BoolOp_and (thn (ha pins s σ H _ I h) λv s1 zq=>?_);obtain ⟨x,H1,I1,r1,q1⟩:=zq;obtain ⟨c,rfl,q1⟩:=q1;cases r1;refine wpAny_truthy_bool ?_;cases c with
 |true=>exact hb pins s1 σ H1 Q I1 q1
 |false=>exact ⟨.bl false,H1,I1,rfl,q1⟩
noncomputable def tIf (t:TT) (ta tb:TE):TE:=λσ H Q=>t σ H λc H1=>if c=true then ta σ H1 Q else tb σ H1 Q
theorem Jvp (hc:PT X c tA) (ha:PE X a ta) (hb:PE X b tb):PE X (.IfExp c a b pos) (tIf tA ta tb):=by
 intro pins s σ H Q I h;refine wpAny_IfExp (thn (hc pins s σ H _ I h) λd s1 zq=>?_);obtain ⟨H1,I1,q1⟩:=zq;cases d with
 |true=>exact ha pins s1 σ H1 Q I1 q1
 |false=>exact hb pins s1 σ H1 Q I1 q1
end
noncomputable def Sz (K:Sg) (H:Hp) (a:S4) (xs:List V):Prop:=
 Rd H a (.lst xs)\/
  ∃(o:Obj) (its:Array S5) (n:Nat),K.lookup a=some o/\o.cls= .type "list" /\o.dict=none/\o.data= .seq its n/\its.size<=S9/\Sy xs its.toList
noncomputable def SqT (K:Sg) (H:Hp) (a:S4) (xs:List V):Prop:=
 Rd H a (.tup xs)\/
  ∃(o:Obj) (its:Array S5) (n:Nat),K.lookup a=some o/\o.cls= .type "tuple" /\o.data= .seq its n/\its.size<=S9/\Sy xs its.toList
noncomputable def Sxq:S5->Option V
 | .none=>some .non
 | .bool b=>some (.bl b)
 | .int i _=>some (.int i)
 | .str x _=>some (.str x)
 | .bytes b _=>some (.byt b)
 | .float b _=>some (.flt b)
 | .ref a=>some (.ref a)
 | .type n=>some (.ty n)
 |_=>none
theorem Sw.abs (r:Sw x u):Sxq u=some x:=by
 cases x with
 |non=>cases r;rfl
 |bl _=>cases r;rfl
 |int _=>obtain ⟨t,rfl⟩:=r;rfl
 |str _=>obtain ⟨t,rfl⟩:=r;rfl
 |byt _=>obtain ⟨t,rfl⟩:=r;rfl
 |flt _=>obtain ⟨t,rfl⟩:=r;rfl
 |ref _=>cases r;rfl
 |ty _=>cases r;rfl
theorem Sw.inj (r:Sw x u) (q:Sw y u):x=y:=yac.inj (r.abs.symm.trans q.abs)
theorem Sy.inj:∀{xs ys:List V} {us:List S5},Sy xs us->Sy ys us->xs=ys
 |_,_,_,.nil,.nil=>rfl
 |_,_,_,.cons r t,.cons r' t'=>by rw [r.inj r',Sy.inj t t']
section
variable {X:Cx} {pins:List (S4×Obj)} {σ:St} {H:Hp} {s:S6} {a:S4} {xs ys:List V}
theorem Sz.of {K} (h:H a=some (.lst xs)):Sz K H a xs:=.inl (.inl h)
theorem SqT.of {K} (h:H a=some (.tup xs)):SqT K H a xs:=.inl (.inl h)
theorem Ss.list (I:Ss X pins σ H s) (h:Sz X.K H a xs):∃its:List S5,Sy xs its/\PlainL s.heap a its.toArray/\xs.length<=S9:=by
 rcases h with h|⟨o,its,n,hk,hc,hd,hs,hz,r⟩
 ·obtain ⟨z,its,n,r,e⟩:=h.ok I.hok;exact ⟨its,r,⟨_,n,e,rfl,rfl,rfl⟩,z⟩
 ·refine ⟨its.toList,r,⟨o,n,I.kIn a o hk,hc,hd,by simpa using hs⟩,?_⟩;have e:=r.length;simp only [ybv] at e;omega
theorem Ss.tuple (I:Ss X pins σ H s) (h:SqT X.K H a xs):∃its:List S5,Sy xs its/\IsTup s.heap a its.toArray/\xs.length<=S9:=by
 rcases h with h|⟨o,its,n,hk,hc,hs,hz,r⟩
 ·obtain ⟨z,its,r,p⟩:=h.ok I.hok;exact ⟨its,r,p,z⟩
 ·refine ⟨its.toList,r,⟨o,I.kIn a o hk,hc,n,by simpa using hs⟩,?_⟩;have e:=r.length;simp only [ybv] at e;omega
theorem Ss.list_inj (I:Ss X pins σ H s) (h:Sz X.K H a xs) (h':Sz X.K H a ys):xs=ys:=by
 obtain ⟨its,r,⟨o,n,e,_,_,d⟩,_⟩:=I.list h;obtain ⟨its',r',⟨o',n',e',_,_,d'⟩,_⟩:=I.list h';rw [e] at e';cases e';rw [d] at d';injection d' with d1 _;have:=by simpa using congrArg Array.toList d1
 subst this;exact r.inj r'
theorem Ss.tuple_inj (I:Ss X pins σ H s) (h:SqT X.K H a xs) (h':SqT X.K H a ys):xs=ys:=by
 obtain ⟨its,r,⟨o,e,_,n,d⟩,_⟩:=I.tuple h;obtain ⟨its',r',⟨o',e',_,n',d'⟩,_⟩:=I.tuple h';rw [e] at e';cases e';rw [d] at d';injection d' with d1 _;have:=by simpa using congrArg Array.toList d1
 subst this;exact r.inj r'
end
noncomputable abbrev Cx.wish (X:Cx) (E:S5->S6->Prop):Cx:={X with xe:=E}
noncomputable abbrev Cx.nox (X:Cx):Cx:=X.wish λ_ _=>False
theorem Cx.Ok.wish {X:Cx} (ok:X.Ok) (E):(X.wish E).Ok:=
 ⟨ok.mod,ok.kind,ok.glob,ok.blt,ok.above,ok.inj,ok.has,ok.cab,ok.hd,ok.frames,ok.stk,ok.exf,ok.bs,ok.bsz,ok.noex,ok.exfs,ok.funs,ok.frf⟩
theorem Cx.Ok.unwish {X:Cx} (ok:(X.wish E).Ok):X.Ok:=
 ⟨ok.mod,ok.kind,ok.glob,ok.blt,ok.above,ok.inj,ok.has,ok.cab,ok.hd,ok.frames,ok.stk,ok.exf,ok.bs,ok.bsz,ok.noex,ok.exfs,ok.funs,ok.frf⟩
section
variable {X:Cx} {pins:List (S4×Obj)} {σ:St} {H:Hp} {s:S6} {E:S5->S6->Prop}
theorem Ss.wish (I:Ss X pins σ H s) (E):Ss (X.wish E) pins σ H s:=⟨I.ok.wish E,I.os,I.bare,I.base,I.loc,I.cell,I.free,I.freeC,I.pin,I.hok,I.len⟩
theorem Ss.unwish (I:Ss (X.wish E) pins σ H s):Ss X pins σ H s:=⟨I.ok.unwish,I.os,I.bare,I.base,I.loc,I.cell,I.free,I.freeC,I.pin,I.hok,I.len⟩
theorem SP.unwish (h:SP (X.wish E) pins D f s'):SP X pins D f s':=by
 cases f with
 |next=>obtain ⟨σ',H',I,q⟩:=h;exact ⟨σ',H',I.unwish,q⟩
 |brk=>obtain ⟨σ',H',I,q⟩:=h;exact ⟨σ',H',I.unwish,q⟩
 |cont=>obtain ⟨σ',H',I,q⟩:=h;exact ⟨σ',H',I.unwish,q⟩
 |ret u=>obtain ⟨v,σ',H',I,r,q⟩:=h;exact ⟨v,σ',H',I.unwish,r,q⟩
theorem PSs.nox {st} (h:PSs X.nox st t):PSs X st t:=λpins s σ H D I hw=>
 wpAny_mono (h pins s σ H D (I.wish _) hw) (λ_ _ q=>q.unwish) λ_ _ z=>False.elim z
end
section
variable {X:Cx} {st:Stmt} {rest:List Stmt} {t u:TS} {e:Expr} {te:TE} {pos:Pos}
noncomputable def St0:TS:=λD σ H=>D.nx σ H
noncomputable def Sk3 (t u:TS):TS:=λD σ H=>t {D with nx:=u D} σ H
theorem Jme:PSs X [] St0:=λ_ _ σ H _ I h=>wpAny_execs_nil ⟨σ,H,I,h⟩
theorem Jlz (h1:PS X st t) (h2:PSs X rest u):PSs X (st::rest) (Sk3 t u):=by
 intro pins s σ H D I h;refine wpAny_execs_cons (thn (h1 pins s σ H {D with nx:=u D} I h) λf s1 q=>?_);cases f with
 |next=>
  obtain ⟨σ',H',I',q⟩:=q;exact h2 pins s1 σ' H' D I' q
 |ret v=>exact q
 |brk=>exact q
 |cont=>exact q
theorem Jm1 (h1:PS X st t):PSs X [st] t:=by
 intro pins s σ H D I h;refine wpAny_execs_cons (thn (h1 pins s σ H D I h) λf s1 q=>?_);cases f with
 |next=>exact wpAny_execs_nil q
 |ret v=>exact q
 |brk=>exact q
 |cont=>exact q
theorem Ss.quiet (I:Ss X pins σ H s):interactive X.env=false:=by simp [interactive,I.ok.kind]
noncomputable def Sst (te:TE):TS:=λD σ H=>te σ H λ_ H1=>D.nx σ H1
theorem Jnp (he:PE X e te) (hs:swapsWith e none pos.line X.env=pure false:=by rfl):PS X (.Expr e pos) (Sst te):=by
 intro pins s σ H D I h;exact wpAny_Expr_any (thn (he pins s σ H _ I h) λv s1 ⟨x,H1,I1,r1,q1⟩=>⟨σ,H1,I1,q1⟩) I.quiet hs
noncomputable def Syu (te:TE):TS:=λD σ H=>te σ H D.rt
theorem Jma (he:PE X e te):PS X (.Return (some e) pos) (Syu te):=by
 intro pins s σ H D I h;exact wpAny_Return_some (thn (he pins s σ H _ I h) λv s1 ⟨x,H1,I1,r1,q1⟩=>⟨x,σ,H1,I1,r1,q1⟩)
noncomputable def Syr (c:TT) (t u:TS):TS:=λD σ H=>c σ H λb H1=>if b=true then t D σ H1 else u D σ H1
theorem Jmr (hc:PT X c tc) (ha:PSs X a t) (hb:PSs X b u):PS X (.If c a b pos) (Syr tc t u):=by
 intro pins s σ H D I h;refine wpAny_If (thn (hc pins s σ H _ I h) λd s1 zq=>?_);obtain ⟨H1,I1,q1⟩:=zq;cases d with
 |true=>exact ha pins s1 σ H1 D I1 q1
 |false=>exact hb pins s1 σ H1 D I1 q1
end
noncomputable abbrev TG:=V->St->Hp->(St->Hp->Prop)->Prop
noncomputable abbrev TGs:=List V->St->Hp->(St->Hp->Prop)->Prop
noncomputable def PG (X:Cx) (target:Expr) (t:TG):Prop:=
 ∀(pins:List (S4×Obj)) (s:S6) (σ:St) (H:Hp) (v:V) (u:S5) (Q:St->Hp->Prop),Ss X pins σ H s->Sw v u->t v σ H Q->
  Sf (model X.prog X.w) X.A (assign target X.env u) (λ_ s'=>∃σ' H',Ss X pins σ' H' s'/\Q σ' H') X.xe s
noncomputable def PGs (X:Cx) (ts:List Expr) (t:TGs):Prop:=
 ∀(pins:List (S4×Obj)) (s:S6) (σ:St) (H:Hp) (vs:List V) (us:List S5) (Q:St->Hp->Prop),Ss X pins σ H s->Sy vs us->t vs σ H Q->
  Sf (model X.prog X.w) X.A (assignInOrder ((assignEach ts X.env).map (·.2)) us) (λ_ s'=>∃σ' H',Ss X pins σ' H' s'/\Q σ' H') X.xe s
noncomputable abbrev Sm7:=V->V->V->Hp->(Hp->Prop)->Prop
noncomputable def Sm3 (X:Cx) (t:Sm7):Prop:=
 ∀(pins:List (S4×Obj)) (s:S6) (σ:St) (H:Hp) (o i v:V) (ov iv u:S5) (Q:Hp->Prop),Ss X pins σ H s->Sw o ov->Sw i iv->Sw v u->t o i v H Q->
  Sf (model X.prog X.w) X.A (setItem ov iv u) (λ_ s'=>∃H',Ss X pins σ H' s'/\Q H') X.xe s
noncomputable abbrev TIp:=V->V->Hp->VK->Prop
noncomputable def PIp (X:Cx) (op:Operator) (t:TIp):Prop:=
 ∀(pins:List (S4×Obj)) (s:S6) (σ:St) (H:Hp) (x y:V) (v u:S5) (Q:VK),Ss X pins σ H s->Sw x v->Sw y u->t x y H Q->
  Sf (model X.prog X.w) X.A (inplaceOp op v u) (EP X pins σ Q) X.xe s
section
variable {X:Cx} {pos:Pos}
noncomputable def Jot (i:Nat):TG:=λv σ H Q=>Q (σ.set i (some v)) H
theorem Jm7 (hN:X.N.Nodup) (hi:X.N[i]?=some x) (hx:Loc X.env.scope x) (hf:X.fn x=true\/X.env.scope.names.lookup x=some .local:=by first|exact .inl rfl|exact .inr rfl|assumption):PG X (.Name x pos) (Jot i):=by
 intro pins s σ H v u Q I r h;exact wpAny_assign_Name (Jsr I hN hi hx r (λs' I'=>⟨_,H,I',h⟩) hf)
noncomputable def Smr:TGs:=λvs σ H Q=>vs= []/\Q σ H
noncomputable def Jto (t:TG) (u:TGs):TGs:=λvs σ H Q=>∃v r,vs=v::r/\t v σ H λσ' H'=>u r σ' H' Q
theorem Job:PGs X [] Smr:=by
 rintro pins s σ H vs us Q I r ⟨e,h⟩;subst e;cases r;exact assignInOrder_nil ⟨σ,H,I,h⟩
theorem Jmh (h1:PG X e t) (h2:PGs X es u)
  (hs:(assignEach (e::es) X.env).map (·.2)=assign e X.env::(assignEach es X.env).map (·.2):=by rfl):PGs X (e::es) (Jto t u):=by
 rintro pins s σ H vs us Q I r ⟨v,vr,e1,h⟩;subst e1;cases r with
 |cons r rr=>
  rw [hs];exact assignInOrder_cons (thn (h1 pins s σ H _ _ _ I r h) λ_ s1 ⟨σ1,H1,I1,q1⟩=>h2 pins s1 σ1 H1 _ _ Q I1 rr q1)
inductive Sjw (K:Sg) (n:Nat) (t:TGs) (v:V) (σ:St) (H:Hp) (Q:(St->Hp->Prop)):Prop where
 |mk (a:_) (xs:_) (_:v= .ref a) (_:SqT K H a xs) (_:xs.length=n) (_:t xs σ H Q)
theorem Jrr {k} (hc:X.calm=true) (h:PGs X es t)
  (hn:(assignEach es X.env).length=n:=by rfl) (hst:(assignEach es X.env).findIdx? (·.1)=none:=by rfl):PG X (.Tuple es k pos) (Sjw X.K n t):=by
 rintro pins s σ H v u Q I r ⟨a,xs,e1,hq,hl,hw⟩;subst e1;cases r;obtain ⟨its,rv,ht,hz⟩:=I.tuple hq;refine assign_Tuple_tuple (I.ok.hd hc) ht (by simp [hn,<-hl,rv.length]) hst λh' hx=>?_;have I1:Ss X pins σ H {s with heap:=h'}:=I.kept λb o e=>hx b o (yy (yj e)) e;exact h pins _ σ H xs _ Q I1 (by simpa using rv) hw
noncomputable def Sxx (to ti:TE) (t:Sm7):TG:=λv σ H Q=>to σ H λo H1=>ti σ H1 λi H2=>t o i v H2 λH3=>Q σ H3
theorem Yx (ho:PE X o to) (hi:PE X i ti) (hs:Sm3 X t)
  (ha:∀v,assign (.Subscript o i pos) X.env v=(do
   let ov<-holding [v] (eval o X.env);let iv<-holding [v,ov] (eval i X.env)
   standAt pos
   holding [v,ov,iv] (setItem ov iv v)
   release [v,ov,iv] []):=by intro _;rfl):PG X (.Subscript o i pos) (Sxx to ti t):=by
 intro pins s σ H v u Q I r h;exact S7 (wpAny_holding (thn (ho pins s σ H _ I h) λov s1 ⟨x,H1,I1,r1,q1⟩=>S7 (wpAny_holding (thn (hi pins s1 σ H1 _ I1 q1) λiv s2 ⟨y,H2,I2,r2,q2⟩=>S7 (wpAny_standAt (S7 (wpAny_holding (thn (hs pins s2 σ H2 x y v ov iv u _ I2 r1 r2 r q2) λ_ s3 ⟨H3,I3,q3⟩=>wpAny_release ⟨σ,H3,I3,q3⟩))))))))
noncomputable def Ssp (te:TE) (g:TG):TS:=λD σ H=>te σ H λx H1=>g x σ H1 D.nx
theorem Ya0 (he:PE X e te) (hg:PG X tg g) (hs:swapsWithSole [tg] e pos.line X.env=pure false:=by rfl) (hw:swappedStores [tg] e X.env=pure none:=by rfl)
  (h1:(assignEach [tg] X.env).map (·.2)= [assign tg X.env]:=by rfl):PS X (.Assign [tg] e pos) (Ssp te g):=by
 intro pins s σ H D I h;refine wpAny_Assign_stores (thn (he pins s σ H _ I h) λv s1 zq=>?_) hs hw;obtain ⟨x,H1,I1,r1,q1⟩:=zq;rw [h1];exact thn (hg pins s1 σ H1 x v _ I1 r1 q1) λ_ s2 q=>q
theorem Jmb (hN:X.N.Nodup) (hi:X.N[i]?=some x) (hx:Loc X.env.scope x) (he:PE X e te) (hs:swapsWith e (some (.Name x pos')) pos.line X.env=pure false:=by rfl) (hf:X.fn x=true\/X.env.scope.names.lookup x=some .local:=by first|exact .inl rfl|exact .inr rfl|assumption):
  PS X (.Assign [.Name x pos'] e pos) (Ssp te (Jot i)):=by
 intro pins s σ H D I h;exact wpAny_Assign_Name (thn (he pins s σ H _ I h) λv s1 ⟨y,H1,I1,r1,q1⟩=>Jsr I1 hN hi hx r1 (λs2 I2=>⟨_,H1,I2,q1⟩) hf) hs
inductive Syn (i:Nat) (te:TE) (ti:TIp) (D:Sc8) (σ:St) (H:Hp):Prop where
 |mk (x:_) (_:σ[i]?=some (some x)) (_:te σ H λy H1=>ti x y H1 λz H2=>D.nx (σ.set i (some z)) H2)
theorem Ya1 (hN:X.N.Nodup) (hi:X.N[i]?=some x) (hx:Loc X.env.scope x) (he:PE X e te) (ho:PIp X op ti) (hf:X.fn x=true\/X.env.scope.names.lookup x=some .local:=by first|exact .inl rfl|exact .inr rfl|assumption):
  PS X (.AugAssign (.Name x pos') op e pos) (Syn i te ti):=by
 rintro pins s σ H D I ⟨v,e1,h⟩;obtain ⟨m,hn,hl⟩:=I.loc;have vis:Vis X.env.scope x:=by rcases hx with k|k;exact .inl k;exact .inr (.inl k)
 obtain ⟨u,r,l⟩:=hl i x v hi e1 vis;refine wpAny_AugAssign_Name ?_;have go:Sf (model X.prog X.w) X.A (eval e X.env) (λw s₂=>Sf (model X.prog X.w) X.A (inplaceOp op u w) (λr s₃=>Sf (model X.prog X.w) X.A (storeName X.env x r) (λ_=>SP X pins D .next) X.xe s₃) X.xe s₂) X.xe s:=thn (he pins s σ H _ I h) λw s1 ⟨y,H1,I1,r1,q1⟩=>thn (ho pins s1 σ H1 v y u w _ I1 r r1 q1) λz s2 ⟨zv,H2,I2,r2,q2⟩=>Jsr I2 hN hi hx r2 (λs3 I3=>⟨_,H2,I3,q2⟩) hf;rcases l with ⟨hk,hm⟩|⟨hk,c,hc,hcell⟩
 ·exact wpAny_loadName_local I.ok.kind hk hn hm go
 ·rcases hk with hk|hk
  ·exact wpAny_loadName_cell I.ok.kind hk hc hcell go
  ·rcases hx with k|k
   ·have:X.env.scope.names.lookup x=some .free:=hk;rw [k] at this;cases this
   ·have:X.env.scope.names.lookup x=some .free:=hk;rw [k] at this;cases this
noncomputable def Ssq (to ti te:TE) (tget:V->V->Hp->VK->Prop) (tip:TIp) (tset:Sm7):TS:=λD σ H=>to σ H λo H1=>ti σ H1 λi H2=>tget o i H2 λx H3=>te σ H3 λy H4=>tip x y H4 λz H5=>tset o i z H5 λH6=>D.nx σ H6
noncomputable def Sr1 (X:Cx) (t:V->V->Hp->VK->Prop):Prop:=
 ∀(pins:List (S4×Obj)) (s:S6) (σ:St) (H:Hp) (o i:V) (ov iv:S5) (Q:VK),Ss X pins σ H s->Sw o ov->Sw i iv->t o i H Q->
  Sf (model X.prog X.w) X.A (getItem ov iv) (EP X pins σ Q) X.xe s
theorem Yg4 (ho:PE X o to) (hi:PE X i ti) (hg:Sr1 X tget) (he:PE X e te) (hp:PIp X op tip) (hs:Sm3 X tset)
  (ha:∀ov iv new,augStore i ov iv new=(do holding [new,ov,iv] (setItem ov iv new);release [new,ov,iv] [];pure .next):=by intros;rfl):PS X (.AugAssign (.Subscript o i tpos) op e pos) (Ssq to ti te tget tip tset):=by
 intro pins s σ H D I h;exact wpAny_AugAssign_SubscriptAny (thn (ho pins s σ H _ I h) λov s1 ⟨x1,H1,I1,r1,q1⟩=>thn (hi pins s1 σ H1 _ I1 q1) λiv s2 ⟨x2,H2,I2,r2,q2⟩=>thn (hg pins s2 σ H2 x1 x2 ov iv _ I2 r1 r2 q2) λold s3 ⟨x3,H3,I3,r3,q3⟩=>thn (he pins s3 σ H3 _ I3 q3) λv s4 ⟨x4,H4,I4,r4,q4⟩=>thn (hp pins s4 σ H4 x3 x4 old v _ I4 r3 r4 q4) λnew s5 ⟨x5,H5,I5,r5,q5⟩=>thn (hs pins s5 σ H5 x1 x2 x5 ov iv new _ I5 r1 r2 r5 q5) λ_ s6 ⟨H6,I6,q6⟩=>⟨σ,H6,I6,q6⟩) ha
inductive ipI (f:Int->Int->Int) (x:V) (y:V) (H:Hp) (Q:VK):Prop where
 |mk (i:_) (j:_) (_:x= .int i) (_:y= .int j) (_:Q (.int (f i j)) H)
theorem Smu:PIp X .Add (ipI λi j=>i+j):=by
 rintro pins s σ H x y v u Q I r1 r2 ⟨i,j,e1,e2,q⟩;subst e1;subst e2;obtain ⟨t,rfl⟩:=r1;obtain ⟨t',rfl⟩:=r2;exact iadd_int ⟨.int _,H,I.tok _,⟨_,rfl⟩,q⟩
theorem Smv:PIp X .Sub (ipI λi j=>i - j):=by
 rintro pins s σ H x y v u Q I r1 r2 ⟨i,j,e1,e2,q⟩;subst e1;subst e2;obtain ⟨t,rfl⟩:=r1;obtain ⟨t',rfl⟩:=r2;exact isub_int ⟨.int _,H,I.tok _,⟨_,rfl⟩,q⟩
noncomputable def Sos (c:TT) (tb:TS):TS:=λD σ H=>∃W:Nat->St->Hp->Prop,(∃m,W m σ H)/\∀m σ H,W m σ H->
 c σ H λb H1=>if b=true then ∃N:St->Hp->Prop,(∀σ' H',N σ' H'->∃m',m' < m/\W m' σ' H')/\tb {D with nx:=N,ct:=N,bk:=D.nx} σ H1 else D.nx σ H1
theorem Ydv (hp:PassesOwn (model X.prog X.w) X.A X.env X.xe) (hc:PT X c tc) (hb:PSs X body tb):PS X (.While c body [] pos) (Sos tc tb):=by
 rintro pins s σ H D I ⟨W,⟨m0,w0⟩,turn⟩;refine wpAny_While (codeAny_whileLoop (λn s'=>∃σ' H',Ss X pins σ' H' s'/\W n σ' H') ?_ m0 ⟨σ,H,I,w0⟩);rintro n s1 ⟨σ1,H1,I1,w1⟩;refine wpAny_passesOwn hp (thn (hc pins s1 σ1 H1 _ I1 (turn n σ1 H1 w1)) λb s2 zq=>?_);obtain ⟨H2,I2,q2⟩:=zq;cases b with
 |true=>
  obtain ⟨N,hN,q2⟩:=q2;refine wpAny_passesOwn hp (thn (hb pins s2 σ1 H2 _ I2 q2) λf s3 q3=>?_);cases f with
  |next=>
   obtain ⟨σ3,H3,I3,n3⟩:=q3;obtain ⟨m',hm,w3⟩:=hN σ3 H3 n3;exact ⟨m',hm,σ3,H3,I3,w3⟩
  |cont=>
   obtain ⟨σ3,H3,I3,n3⟩:=q3;obtain ⟨m',hm,w3⟩:=hN σ3 H3 n3;exact ⟨m',hm,σ3,H3,I3,w3⟩
  |brk=>exact q3
  |ret v=>exact q3
 |false=>
  exact wpAny_execs_nil ⟨σ1,H2,I2,q2⟩
end
structure It where
 go:Nat->Hp->Prop
 yld:Nat->Hp->V->Hp->Prop
 stop:Nat->Hp->Prop
noncomputable def Jsu (X:Cx) (pins:List (S4×Obj)) (H:Hp) (b:S4):Prop:=
 H b=none/\b≠X.env.locals/\b∉X.fs/\(b∈X.ex\/X.s₀.heap.objs.size<=b)/\(∀x c,X.env.cells.lookup x=some c->c≠b)/\∀p∈X.pn++pins,p.1≠b
theorem Ss.fpOk {σ:St} {H H'} {s} {b:S4} (I:Ss X pins σ H s) (hb:s.heap.objs.size<=b) (hn:H' b=none):Jsu X pins H' b:=by
 refine ⟨hn,ybo (yar I.lt hb),I.nofs hb,.inr (yai I.sz hb),λx c e z=>?_,λp hp z=>?_⟩
 ·obtain ⟨v,q⟩:=I.cell x c e;exact absurd (yar q.lt (by rw [z];exact hb)) (ybd _)
 ·exact absurd (yar (yj (I.pin p hp).1) (by rw [z];exact hb)) (ybd _)
structure Turn (P:Sa) (w:Sc) (K:Sg) (tg:Expr) (J:It) (fp:List S4) (it:S4) (tn:Nat->Se->Prop):Prop where
 mem:it∈fp
 obj:∀i h,tn i h->∀b∈fp,∃o,h.get? b=some o/\∀v,o.data≠ .cell v
 keep:∀i h h',tn i h->(∀b∈fp,∀o,h.get? b=some o->h'.get? b=some o)->tn i h'
 item:∀(X:Cx),X.prog=P->X.w=w->X.K=K->X.calm=true->∀(i:Nat) (pins:List (S4×Obj)) (s:S6) (σ:St) (H:Hp) (E:S5->S6->Prop),Ss X pins σ H s->(∀b∈fp,Jsu X pins H b)->tn i s.heap->J.go i H->
  Sf (model P w) X.A (pyNext (.ref it)) (λr s1=>∃u,r=some u/\
   Sf (model P w) X.A (letOwnedTupleGo tg (.ref it) u) (λ_ s2=>∃x H',Ss X pins σ H' s2/\Sw x u/\J.yld i H x H'/\tn (i+1) s2.heap/\∀b∈fp,H' b=none) E s1) E s
 done:∀(X:Cx),X.prog=P->X.w=w->X.K=K->X.calm=true->∀(i:Nat) (pins:List (S4×Obj)) (s:S6) (σ:St) (H:Hp) (E:S5->S6->Prop),Ss X pins σ H s->(∀b∈fp,Jsu X pins H b)->tn i s.heap->J.stop i H->
  Sf (model P w) X.A (pyNext (.ref it)) (λr s1=>r=none/\Ss X pins σ H s1) E s
 self:∀(A:Sd) (i:Nat) (s:S6) (Q:S5->S6->Prop) (E:S5->S6->Prop),tn i s.heap->Q (.ref it) s->Sf (model P w) A (pyIter (.ref it)) Q E s
noncomputable abbrev TI:=St->Hp->(It->Hp->Prop)->Prop
noncomputable def PIE (X:Cx) (pins:List (S4×Obj)) (σ:St) (tg:Expr) (R:It->Hp->Prop) (itv:S5) (s2:S6):Prop:=
 ∃(it:S4) (fp:List S4) (tn:Nat->Se->Prop) (J:It) (H':Hp),itv= .ref it/\Ss X pins σ H' s2/\Turn X.prog X.w X.K tg J fp it tn/\tn 0 s2.heap/\(∀b∈fp,Jsu X pins H' b)/\R J H'
noncomputable def PI (X:Cx) (tg iter:Expr) (wi:TI):Prop:=
 ∀(pins:List (S4×Obj)) (s:S6) (σ:St) (H:Hp) (R:It->Hp->Prop),Ss X pins σ H s->wi σ H R->
  Sf (model X.prog X.w) X.A (eval iter X.env) (λv s1=>Sf (model X.prog X.w) X.A (pyIter v) (PIE X pins σ tg R) X.xe s1) X.xe s
theorem Yan {s} {tg} {it} {u} {o} {n} {vs} {Q} (ho:s.heap.get? it=some o) (hc:o.cls= .type n) (hd:o.data= .fields vs)
  (hn: ["enumerate","zip","dict_itemiterator","dict_reverseitemiterator","odict_iterator","itertools.zip_longest","itertools.pairwise"].contains n=false) (hQ:Q () s):Sf M A (letOwnedTupleGo tg (.ref it) u) Q E s:=by
 cases tg <;> first
  |exact S8 hQ
  | (cases u <;> first
    |exact S8 hQ
    | (refine S7 (wpAny_load ho ?_)
       rw [hc,hd];show Sf M A (if (["enumerate","zip","dict_itemiterator","dict_reverseitemiterator","odict_iterator","itertools.zip_longest","itertools.pairwise"].contains n&&vs[0]?==some (rawInt _))=true then _ else _) Q E s;rw [if_neg (by intro h;rw [hn] at h;cases h)];exact S8 hQ))
noncomputable def Itl (K:Sg) (a:S4):It:=
 ⟨λi H=>∃xs x,Sz K H a xs/\xs[i]?=some x,λi H x H'=>H'=H/\∀xs,Sz K H a xs->xs[i]?=some x,λi H=>∃xs,Sz K H a xs/\xs.length<=i⟩
noncomputable def Itt (K:Sg) (a:S4):It:=
 ⟨λi H=>∃xs x,SqT K H a xs/\xs[i]?=some x,λi H x H'=>H'=H/\∀xs,SqT K H a xs->xs[i]?=some x,λi H=>∃xs,SqT K H a xs/\xs.length<=i⟩
noncomputable def Itr (lo:Int) (n:Nat):It:=⟨λi _=>i < n,λi H x H'=>H'=H/\x= .int (lo+i),λi _=>n<=i⟩
theorem Jxi {K} (a it):Turn P w K tg (Itl K a) [it] it (λi h=>h.IsListIter it a i) where
 mem:=by simp
 obj:=λi h st b hb=>by
  have e:=by simpa using hb
  subst e;obtain ⟨o,e,c,d⟩:=st;exact ⟨o,e,λv z=>by rw [d] at z;cases z⟩
 keep:=λi h h' st k=>st.at λo e=>k it (by simp) o e
 item:=by
  intro X hP hw hK hc i pins s σ H E I hf st hg;subst hP hw hK;obtain ⟨xs,x,hq,hx⟩:=hg;obtain ⟨its,rv,p,hz⟩:=I.list hq;obtain ⟨u,hu,ru⟩:=rv.get hx;obtain ⟨f0,f1,f2,f3,f4,f5⟩:=hf it (by simp);refine wpAny_pyNext_list_item st p.isList (by simpa using hu) λh' st' sb=>?_;have I1:Ss X pins σ H {s with heap:=h'}:=I.turned (λb o hb e=>(sb.2 b hb).trans e) f0 f1 f3 f4 f5;obtain ⟨o,e,c,d⟩:=id st';exact ⟨u,rfl,Yan e c d (by decide) ⟨x,H,I1,ru,⟨rfl,λys hy=>by rw [I.list_inj hy hq];exact hx⟩,st',λb hb=>(hf b hb).1⟩⟩
 done:=by
  intro X hP hw hK hc i pins s σ H E I hf st hg;subst hP hw hK;obtain ⟨xs,hq,hx⟩:=hg;obtain ⟨its,rv,p,hz⟩:=I.list hq;obtain ⟨f0,f1,f2,f3,f4,f5⟩:=hf it (by simp);have hl:=rv.length;exact wpAny_pyNext_list_end (I.ok.hd hc) st p.isList (by simp;omega) λh' eb=>⟨rfl,I.turned (λb o hb e=>eb b o hb e) f0 f1 f3 f4 f5⟩
 self:=λ_ _ _ _ _ st h=>wpAny_pyIter_listiter st h
theorem Jw1 {K} (a it):Turn P w K tg (Itt K a) [it] it (λi h=>h.IsTupleIter it a i) where
 mem:=by simp
 obj:=λi h st b hb=>by
  have e:=by simpa using hb
  subst e;obtain ⟨o,e,c,d⟩:=st;exact ⟨o,e,λv z=>by rw [d] at z;cases z⟩
 keep:=λi h h' st k=>st.at λo e=>k it (by simp) o e
 item:=by
  intro X hP hw hK hc i pins s σ H E I hf st hg;subst hP hw hK;obtain ⟨xs,x,hq,hx⟩:=hg;obtain ⟨its,rv,p,hz⟩:=I.tuple hq;obtain ⟨u,hu,ru⟩:=rv.get hx;obtain ⟨f0,f1,f2,f3,f4,f5⟩:=hf it (by simp);refine wpAny_pyNext_tuple_item st (p) (by simpa using hu) λh' st' sb=>?_;have I1:Ss X pins σ H {s with heap:=h'}:=I.turned (λb o hb e=>(sb.2 b hb).trans e) f0 f1 f3 f4 f5;obtain ⟨o,e,c,d⟩:=id st';exact ⟨u,rfl,Yan e c d (by decide) ⟨x,H,I1,ru,⟨rfl,λys hy=>by rw [I.tuple_inj hy hq];exact hx⟩,st',λb hb=>(hf b hb).1⟩⟩
 done:=by
  intro X hP hw hK hc i pins s σ H E I hf st hg;subst hP hw hK;obtain ⟨xs,hq,hx⟩:=hg;obtain ⟨its,rv,p,hz⟩:=I.tuple hq;obtain ⟨f0,f1,f2,f3,f4,f5⟩:=hf it (by simp);have hl:=rv.length;exact wpAny_pyNext_tuple_end (I.ok.hd hc) st (p) (by simp;omega) λh' eb=>⟨rfl,I.turned (λb o hb e=>eb b o hb e) f0 f1 f3 f4 f5⟩
 self:=λ_ _ _ _ _ st h=>wpAny_pyIter_tupleiter st h
theorem Yaa {K} (it) (lo) (n):Turn P w K tg (Itr lo n) [it] it (λi h=>IsRangeIter h it (lo+i*1) (n - i) 1) where
 mem:=by simp
 obj:=λi h st b hb=>by
  have e:=by simpa using hb
  subst e;exact ⟨_,st,λv z=>by
   cases z⟩
 keep:=λi h h' st k=>k it (by simp) _ st
 item:=by
  intro X hP hw hK hc i pins s σ H E I hf st hg;obtain ⟨f0,f1,f2,f3,f4,f5⟩:=hf it (by simp);refine (Walks.range (I.ok.hd hc) it lo 1 n).item i s _ _ hg st λv h' tk hv st' kk=>?_;obtain ⟨t,rfl⟩:=hv;have I1:Ss X pins σ H {s with heap:=h',toks:=tk}:=I.turned (λb o hb e=>kk b o (by simpa using hb) e) f0 f1 f3 f4 f5;refine ⟨_,rfl,Yan st' rfl rfl (by decide) ⟨.int (lo+i),H,I1,⟨t,?_⟩,⟨rfl,rfl⟩,st',λb hb=>(hf b hb).1⟩⟩;rw [Int.mul_one]
 done:=by
  intro X hP hw hK hc i pins s σ H E I hf st hg;obtain ⟨f0,f1,f2,f3,f4,f5⟩:=hf it (by simp);exact wpAny_pyNext_range_end (I.ok.hd hc) st (by have:n<=i:=hg;omega) λh' eb=>⟨rfl,I.turned (λb o hb e=>eb b o hb e) f0 f1 f3 f4 f5⟩
 self:=λ_ _ _ _ _ st h=>wpAny_pyIter_rangeiter st h
section
variable {X:Cx} {tg:Expr}
noncomputable def Sro (K:Sg) (tl:TE):TI:=λσ H R=>tl σ H λx H1=>∃a,x= .ref a/\(∃xs,Sz K H1 a xs)/\R (Itl K a) H1
noncomputable def Sy3 (K:Sg) (tl:TE):TI:=λσ H R=>tl σ H λx H1=>∃a,x= .ref a/\(∃xs,SqT K H1 a xs)/\R (Itt K a) H1
theorem Jn0 (hl:PE X l tl):PI X tg l (Sro X.K tl):=by
 intro pins s σ H R I h;refine thn (hl pins s σ H _ I h) λv s1 zq=>?_;obtain ⟨x,H1,I1,r1,q1⟩:=zq;obtain ⟨a,e,⟨xs,hq⟩,q⟩:=q1;subst e;cases r1;obtain ⟨its,rv,p,hz⟩:=I1.list hq;refine wpAny_pyIter_list p.isList ⟨s1.heap.objs.size,[s1.heap.objs.size],_,_,H1,rfl,I1.kept λb o e=>yn _ e,Jxi a _,⟨_,yt _ rfl,rfl,rfl⟩,λb hb=>?_,q⟩;have e:=by simpa using hb
 subst e;exact I1.fpOk (yg _) (I1.hok.fresh (yg _))
theorem Jtf (hl:PE X l tl):PI X tg l (Sy3 X.K tl):=by
 intro pins s σ H R I h;refine thn (hl pins s σ H _ I h) λv s1 zq=>?_;obtain ⟨x,H1,I1,r1,q1⟩:=zq;obtain ⟨a,e,⟨xs,hq⟩,q⟩:=q1;subst e;cases r1;obtain ⟨its,rv,p,hz⟩:=I1.tuple hq;refine wpAny_pyIter_tuple (p) ⟨s1.heap.objs.size,[s1.heap.objs.size],_,_,H1,rfl,I1.kept λb o e=>yn _ e,Jw1 a _,⟨_,yt _ rfl,rfl,rfl⟩,λb hb=>?_,q⟩;have e:=by simpa using hb
 subst e;exact I1.fpOk (yg _) (I1.hok.fresh (yg _))
theorem Ye0 {σ:St} {H} {s} {R} {E} {lo hi} {t u v} {tk} (I:Ss X pins σ H s) (h1: -(2^62)<=lo) (h2:lo < 2^62) (h3: -(2^62)<=hi) (h4:hi < 2^62)
  (q:R (Itr lo (hi - lo).toNat) H):Sf (model X.prog X.w) X.A (pyIter (.ref s.heap.objs.size)) (PIE X pins σ tg R) E {s with heap:=s.heap.push {cls:=.type "range",data:=.fields #[.int lo t,.int hi u,.int 1 v]},toks:=tk}:=by
 refine wpAny_pyIter_range (IsRange.new ..) (small_one h1 h2 h3 h4) ?_;have I1:Ss X pins σ H {s with heap:=s.heap.push {cls:=.type "range",data:=.fields #[.int lo t,.int hi u,.int 1 v]},toks:=tk}:=I.kept λb o e=>yn _ e;refine ⟨(s.heap.push {cls:=.type "range",data:=.fields #[.int lo t,.int hi u,.int 1 v]}).objs.size,[(s.heap.push {cls:=.type "range",data:=.fields #[.int lo t,.int hi u,.int 1 v]}).objs.size],_,_,H,rfl,
  I1.kept λb o e=>yn _ e,Yaa _ lo (hi - lo).toNat,?_,λb hb=>?_,q⟩
 ·have e1:lo+(0:Nat)*1=lo:=by simp
  have e2:(hi - lo).toNat - (0:Nat)=Builtin.Range.rangeSize lo hi 1:=by rw [rangeSize_one];split <;> omega
  rw [e1,e2];exact yt _ rfl
 ·have e:b=(s.heap.push {cls:=.type "range",data:=.fields #[.int lo t,.int hi u,.int 1 v]}).objs.size:=by simpa using hb
  subst e;exact I1.fpOk (yg _) (I1.hok.fresh (yg _))
noncomputable def Srp (ta:TA):TI:=λσ H R=>ta σ H λvs H1=>∃j:Int,vs= [.int j]/\ -(2^62)<=j/\j < 2^62/\R (Itr 0 j.toNat) H1
theorem Jns (hg:Gl X "range") (hm:X.mg "range" =none) (ha:PA X [a] ta) (hs:starEach [a] X.env= [(false,eval a X.env)]:=by rfl):PI X tg (.Call (.Name "range" p) [a] [] pos) (Srp ta):=by
 intro pins s σ H R I h;refine Call_ (Jpx I hg hm boot_range (PyProof.Rows.callWith_type1 (thn (ha pos pins s σ H _ I h) λus s1 zq=>?_) hs rfl));obtain ⟨vs,H1,I1,r1,q1⟩:=zq;obtain ⟨j,e,q1,q2,q⟩:=q1;subst e;cases r1 with
 |cons r rr=>
  cases rr;obtain ⟨t,rfl⟩:=r;exact call_range_1 (Ye0 I1 (by omega) (by omega) q1 q2 (by simpa using q))
noncomputable def Syp (wi:TI) (g:TG) (tb:TS):TS:=λD σ H=>wi σ H λJ H1=>∃W:Nat->Nat->St->Hp->Prop,(∃m,W 0 m σ H1)/\∀i m σ H,W i m σ H->
 (J.stop i H/\D.nx σ H)\/(J.go i H/\∃N:St->Hp->Prop,(∀σ' H',N σ' H'->∃m',m' < m/\W (i+1) m' σ' H')/\∀x H',J.yld i H x H'->g x σ H' λσ2 H2=>tb {D with nx:=N,ct:=N,bk:=D.nx} σ2 H2)
noncomputable def Jvr (fp:List S4) (h:Se):List (S4×Obj):=fp.filterMap λb=>(h.get? b).map λo=>(b,o)
theorem Jpz (hb:b∈fp) (e:h.get? b=some o):(b,o)∈Jvr fp h:=List.mem_filterMap.mpr ⟨b,hb,by rw [e];rfl⟩
theorem Yby (hp:p∈Jvr fp h):p.1∈fp/\h.get? p.1=some p.2:=by
 obtain ⟨b,hb,e⟩:=List.mem_filterMap.mp hp;cases q:h.get? b with
 |none=>rw [q] at e;cases e
 |some o=>
  rw [q] at e;have e':=yac.inj e;subst e';exact ⟨hb,q⟩
theorem Ss.pinned (I:Ss X pins σ H s) (hf:∀b∈fp,Jsu X pins H b) (ho:∀b∈fp,∃o,s.heap.get? b=some o/\∀v,o.data≠ .cell v):Ss X (pins++Jvr fp s.heap) σ H s:=
 I.pins_of λp hp=>(yax.mp hp).elim (λz=>I.pin p (ybe _ z)) λz=>by
  obtain ⟨hb,e⟩:=Yby z;obtain ⟨f0,f1,f2,_⟩:=hf p.1 hb;obtain ⟨o,e',d⟩:=ho p.1 hb;rw [e] at e';cases e';exact ⟨e,f0,f1,f2,d⟩
theorem Ss.unpinned (I:Ss X (pins++pl) σ H s):Ss X pins σ H s:=I.pins_of λp hp=>I.pin p (ybe _ (ycr _ hp))
theorem Jnq (hp:PassesOwn (model X.prog X.w) X.A X.env X.xe) (hc:X.calm=true) (hi:PI X tg iter wi) (hg:PG X tg g) (hb:PSs X body tb)
  (hs:∀x,foldedSetIterable iter X.env x=pure x:=by intro _;rfl):PS X (.For tg iter body [] pos) (Syp wi g tb):=by
 intro pins s σ H D I h;refine wpAny_For (thn (hi pins s σ H _ I h) λv s1 h1=>thn h1 λitv s2 h2=>?_) hs;obtain ⟨it,fp,tn,J,H2,e,I2,T,st2,f2,W,⟨m0,w0⟩,turn⟩:=h2;subst e;have stat:∀{H':Hp},(∀b∈fp,H' b=none)->∀b∈fp,Jsu X pins H' b:=λhn b hb=>⟨hn b hb,(f2 b hb).2⟩;refine codeAny_forLoop_any (λn s'=>∃i σ' H',Ss X pins σ' H' s'/\tn i s'.heap/\(∀b∈fp,H' b=none)/\W i n σ' H') ?_ m0 ⟨0,σ,H2,I2,st2,λb hb=>(f2 b hb).1,w0⟩;rintro n s3 ⟨i,σ3,H3,I3,st3,fr3,w3⟩;rcases turn i n σ3 H3 w3 with ⟨stop,qn⟩|⟨go,N,hN,step⟩
 ·refine wpAny_passesOwn hp (thn (T.done X rfl rfl rfl hc i pins s3 σ3 H3 X.xe I3 (stat fr3) st3 stop) λr s4 ⟨hr,I4⟩=>?_);subst hr;exact wpAny_execs_nil ⟨σ3,H3,I4,qn⟩
 ·refine wpAny_passesOwn hp (thn (T.item X rfl rfl rfl hc i pins s3 σ3 H3 X.xe I3 (stat fr3) st3 go) λr s4 ⟨u,hr,h4⟩=>?_);subst hr;refine wpAny_passesOwn hp (thn h4 λ_ s5 ⟨x,H5,I5,r5,y5,st5,fr5⟩=>wpAny_passesOwn hp (thn (hg _ s5 σ3 H5 x u _ (I5.pinned (stat fr5) (T.obj _ _ st5)) r5 (step x H5 y5)) λ_ s6 ⟨σ6,H6,I6,q6⟩=>wpAny_passesOwn hp (thn (hb _ s6 σ6 H6 _ I6 q6) λf s7 q7=>?_)));have again:∀{σ7:St} {H7:Hp},Ss X (pins++Jvr fp s5.heap) σ7 H7 s7->N σ7 H7->∃m,m < n/\∃i σ' H',Ss X pins σ' H' s7/\tn i s7.heap/\(∀b∈fp,H' b=none)/\W i m σ' H':=λ{σ7 H7} I7 n7=>by
   obtain ⟨m',hm,w7⟩:=hN σ7 H7 n7;refine ⟨m',hm,i+1,σ7,H7,I7.unpinned,T.keep _ _ _ st5 λb hb o e=>(I7.pin (b,o) (ybe _ (ybe _ (Jpz hb e)))).1,λb hb=>?_,w7⟩;obtain ⟨o,e,d⟩:=T.obj _ _ st5 b hb;exact (I7.pin (b,o) (ybe _ (ybe _ (Jpz hb e)))).2.1
  cases f with
  |next=>obtain ⟨σ7,H7,I7,n7⟩:=q7;exact again I7 n7
  |cont=>obtain ⟨σ7,H7,I7,n7⟩:=q7;exact again I7 n7
  |brk=>obtain ⟨σ7,H7,I7,q7⟩:=q7;exact ⟨σ7,H7,I7.unpinned,q7⟩
  |ret v=>obtain ⟨x7,σ7,H7,I7,r7,q7⟩:=q7;exact ⟨x7,σ7,H7,I7.unpinned,r7,q7⟩
end
theorem Joj {K} {a} {xs} {g:TG} {tb:TS} {D:Sc8} {σ} {H} (Pv:Nat->St->Hp->Prop) (h0:Pv 0 σ H) (hl:∀i σ H,i<=xs.length->Pv i σ H->Sz K H a xs)
  (hs:∀i x σ H,xs[i]?=some x->Pv i σ H->g x σ H λσ2 H2=>tb {D with nx:=Pv (i+1),ct:=Pv (i+1),bk:=D.nx} σ2 H2) (hd:∀σ H,Pv xs.length σ H->D.nx σ H):
  ∃W:Nat->Nat->St->Hp->Prop,(∃m,W 0 m σ H)/\∀i m σ H,W i m σ H->
   ((Itl K a).stop i H/\D.nx σ H)\/((Itl K a).go i H/\∃N:St->Hp->Prop,(∀σ' H',N σ' H'->∃m',m' < m/\W (i+1) m' σ' H')/\∀x H',(Itl K a).yld i H x H'->g x σ H' λσ2 H2=>tb {D with nx:=N,ct:=N,bk:=D.nx} σ2 H2):=by
 refine ⟨λi m σ H=>m=xs.length - i/\i<=xs.length/\Pv i σ H,⟨xs.length,by simp,yal _,h0⟩,?_⟩;rintro i m σ H ⟨rfl,hi,p⟩;have q:=hl i σ H hi p;by_cases hlt:i < xs.length
 ·refine .inr ⟨⟨xs,xs[i],q,by simp [hlt]⟩,Pv (i+1),λσ' H' p'=>⟨xs.length - (i+1),by omega,rfl,hlt,p'⟩,λx H' y=>?_⟩;obtain ⟨e,y⟩:=y;subst e;exact hs i x σ _ (y xs q) p
 ·have e:i=xs.length:=by omega
  subst e;exact .inl ⟨⟨xs,q,yg _⟩,hd σ H p⟩
theorem Jub {K} {a} {xs} {g:TG} {tb:TS} {D:Sc8} {σ} {H} (Pv:Nat->St->Hp->Prop) (h0:Pv 0 σ H) (hl:∀i σ H,i<=xs.length->Pv i σ H->SqT K H a xs)
  (hs:∀i x σ H,xs[i]?=some x->Pv i σ H->g x σ H λσ2 H2=>tb {D with nx:=Pv (i+1),ct:=Pv (i+1),bk:=D.nx} σ2 H2) (hd:∀σ H,Pv xs.length σ H->D.nx σ H):
  ∃W:Nat->Nat->St->Hp->Prop,(∃m,W 0 m σ H)/\∀i m σ H,W i m σ H->
   ((Itt K a).stop i H/\D.nx σ H)\/((Itt K a).go i H/\∃N:St->Hp->Prop,(∀σ' H',N σ' H'->∃m',m' < m/\W (i+1) m' σ' H')/\∀x H',(Itt K a).yld i H x H'->g x σ H' λσ2 H2=>tb {D with nx:=N,ct:=N,bk:=D.nx} σ2 H2):=by
 refine ⟨λi m σ H=>m=xs.length - i/\i<=xs.length/\Pv i σ H,⟨xs.length,by simp,yal _,h0⟩,?_⟩;rintro i m σ H ⟨rfl,hi,p⟩;have q:=hl i σ H hi p;by_cases hlt:i < xs.length
 ·refine .inr ⟨⟨xs,xs[i],q,by simp [hlt]⟩,Pv (i+1),λσ' H' p'=>⟨xs.length - (i+1),by omega,rfl,hlt,p'⟩,λx H' y=>?_⟩;obtain ⟨e,y⟩:=y;subst e;exact hs i x σ _ (y xs q) p
 ·have e:i=xs.length:=by omega
  subst e;exact .inl ⟨⟨xs,q,yg _⟩,hd σ H p⟩
theorem Jx1 {lo} {n} {g:TG} {tb:TS} {D:Sc8} {σ} {H} (Pv:Nat->St->Hp->Prop) (h0:Pv 0 σ H)
  (hs:∀i σ H,i < n->Pv i σ H->g (.int (lo+i)) σ H λσ2 H2=>tb {D with nx:=Pv (i+1),ct:=Pv (i+1),bk:=D.nx} σ2 H2) (hd:∀σ H,Pv n σ H->D.nx σ H):
  ∃W:Nat->Nat->St->Hp->Prop,(∃m,W 0 m σ H)/\∀i m σ H,W i m σ H->
   ((Itr lo n).stop i H/\D.nx σ H)\/((Itr lo n).go i H/\∃N:St->Hp->Prop,(∀σ' H',N σ' H'->∃m',m' < m/\W (i+1) m' σ' H')/\∀x H',(Itr lo n).yld i H x H'->g x σ H' λσ2 H2=>tb {D with nx:=N,ct:=N,bk:=D.nx} σ2 H2):=by
 refine ⟨λi m σ H=>m=n - i/\i<=n/\Pv i σ H,⟨n,by simp,yal _,h0⟩,?_⟩;rintro i m σ H ⟨rfl,hi,p⟩;by_cases hlt:i < n
 ·refine .inr ⟨hlt,Pv (i+1),λσ' H' p'=>⟨n - (i+1),by omega,rfl,hlt,p'⟩,λx H' y=>?_⟩;obtain ⟨e,y⟩:=y;subst e y;exact hs i σ _ hlt p
 ·have e:i=n:=by omega
  subst e;exact .inl ⟨yg _,hd σ H p⟩
noncomputable abbrev R2:=V->V->Hp->VK->Prop
noncomputable def OpR (X:Cx) (f:S5->S5->Sem S5) (r:R2):Prop:=
 ∀(pins:List (S4×Obj)) (s:S6) (σ:St) (H:Hp) (x y:V) (v u:S5) (Q:VK),Ss X pins σ H s->Sw x v->Sw y u->r x y H Q->
  Sf (model X.prog X.w) X.A (f v u) (EP X pins σ Q) X.xe s
noncomputable def UnR (X:Cx) (f:S5->Sem S5) (r:V->Hp->VK->Prop):Prop:=
 ∀(pins:List (S4×Obj)) (s:S6) (σ:St) (H:Hp) (x:V) (v:S5) (Q:VK),Ss X pins σ H s->Sw x v->r x H Q->
  Sf (model X.prog X.w) X.A (f v) (EP X pins σ Q) X.xe s
noncomputable def Jnm (X:Cx) (f:S5) (r:List V->Hp->VK->Prop):Prop:=
 ∀(pins:List (S4×Obj)) (s:S6) (σ:St) (H:Hp) (xs:List V) (us:List S5) (Q:VK),Ss X pins σ H s->Sy xs us->r xs H Q->
  Sf (model X.prog X.w) X.A (call f us) (EP X pins σ Q) X.xe s
noncomputable def Sx5 (X:Cx) (r:V->Hp->(Bool->Hp->Prop)->Prop):Prop:=
 ∀(pins:List (S4×Obj)) (s:S6) (σ:St) (H:Hp) (x:V) (v:S5) (Q:Bool->Hp->Prop),Ss X pins σ H s->Sw x v->r x H Q->
  Sf (model X.prog X.w) X.A (truthy v) (TP X pins σ Q) X.xe s
noncomputable def tOp (r:R2) (ta tb:TE):TE:=λσ H Q=>ta σ H λx H1=>tb σ H1 λy H2=>r x y H2 Q
noncomputable def tUn (r:V->Hp->VK->Prop) (ta:TE):TE:=λσ H Q=>ta σ H λx H1=>r x H1 Q
inductive rI (C:Int->Int->Prop) (g:Int->Int->V) (x:V) (y:V) (H:Hp) (Q:VK):Prop where
 |mk (i:_) (j:_) (_:x= .int i) (_:y= .int j) (_:C i j) (_:Q (g i j) H)
inductive rI0 (g:Int->Int->V) (x:V) (y:V) (H:Hp) (Q:VK):Prop where
 |mk (i:_) (j:_) (_:x= .int i) (_:y= .int j) (_:Q (g i j) H)
inductive rU (g:Int->V) (x:V) (H:Hp) (Q:VK):Prop where
 |mk (i:_) (_:x= .int i) (_:Q (g i) H)
section
variable {X:Cx} {a b c:Expr} {ta tb tc:TE} {pos:Pos}
theorem Sm9 (ha:PE X a ta) (hb:PE X b tb) {R:V->V->Hp->Prop} (I:Ss X pins σ H s)
  (h:ta σ H λx H1=>tb σ H1 λy H2=>R x y H2) {f:S5->S5->Sem S5}
  (hf:∀v u s2 x y H2,Ss X pins σ H2 s2->Sw x v->Sw y u->R x y H2->Sf (model X.prog X.w) X.A (f v u) Q X.xe s2):
  Sf (model X.prog X.w) X.A (eval a X.env) (λv s₁=>Sf (model X.prog X.w) X.A (eval b X.env) (λu s₂=>Sf (model X.prog X.w) X.A (f v u) Q X.xe s₂) X.xe s₁) X.xe s:=thn (ha pins s σ H _ I h) λv s1 ⟨x,H1,I1,r1,q1⟩=>thn (hb pins s1 σ H1 _ I1 q1) λu s2 ⟨y,H2,I2,r2,q2⟩=>hf v u s2 x y H2 I2 r1 r2 q2
theorem Jm9 (ho:OpR X (binaryOp op) r) (ha:PE X a ta) (hb:PE X b tb):PE X (.BinOp a op b pos) (tOp r ta tb):=by
 intro pins s σ H Q I h;exact wpAny_BinOp (Sm9 ha hb I h λv u s2 x y H2 I2 rx ry q=>ho pins s2 σ H2 x y v u Q I2 rx ry q)
theorem Yb2 (ho:UnR X (unaryOp op) r) (ha:PE X a ta):PE X (.UnaryOp op a pos) (tUn r ta):=by
 intro pins s σ H Q I h;exact UnaryOp_ (thn (ha pins s σ H _ I h) λv s1 ⟨x,H1,I1,r1,q1⟩=>ho pins s1 σ H1 x v Q I1 r1 q1)
theorem opI {C} {g:Int->Int->Int}
  (rule:∀i j t u s Q E,C i j->Q (.int (g i j) s.toks) {s with toks:=s.toks+1}->Sf (model X.prog X.w) X.A (f (.int i t) (.int j u)) Q E s):
  OpR X f (rI C λi j=>.int (g i j)):=by
 rintro pins s σ H x y v u Q I rx ry ⟨i,j,rfl,rfl,hc,q⟩;obtain ⟨t,rfl⟩:=rx;obtain ⟨t',rfl⟩:=ry;exact rule i j t t' s _ _ hc ⟨.int (g i j),H,I.tok _,⟨_,rfl⟩,q⟩
theorem Srz {g:Int->Int->Int}
  (rule:∀i j t u s Q E,Q (.int (g i j) s.toks) {s with toks:=s.toks+1}->Sf (model X.prog X.w) X.A (f (.int i t) (.int j u)) Q E s):
  OpR X f (rI0 λi j=>.int (g i j)):=by
 rintro pins s σ H x y v u Q I rx ry ⟨i,j,rfl,rfl,q⟩;obtain ⟨t,rfl⟩:=rx;obtain ⟨t',rfl⟩:=ry;exact rule i j t t' s _ _ ⟨.int (g i j),H,I.tok _,⟨_,rfl⟩,q⟩
theorem Sjz {g:Int->Int->Bool}
  (rule:∀i j t u s Q E,Q (.bool (g i j)) s->Sf (model X.prog X.w) X.A (f (.int i t) (.int j u)) Q E s):
  OpR X f (rI0 λi j=>.bl (g i j)):=by
 rintro pins s σ H x y v u Q I rx ry ⟨i,j,rfl,rfl,q⟩;obtain ⟨t,rfl⟩:=rx;obtain ⟨t',rfl⟩:=ry;exact rule i j t t' s _ _ ⟨.bl (g i j),H,I,rfl,q⟩
noncomputable def Svh (i j:Int):Prop:=0<=j/\j<=1000000/\i.natAbs < 2^64
noncomputable def Sjc (i j:Int):Prop:=(-(2^64) < i/\i < 2^64)\/(-(2^64) < j/\j < 2^64)
theorem Sjc.ok (h:Sjc i j):IntMulOk i j:=by
 rcases h with ⟨h1,h2⟩|⟨h1,h2⟩
 ·exact .of_left (intBits_le_64 h1 h2)
 ·exact .of_right (intBits_le_64 h1 h2)
theorem Jml:OpR X (binaryOp .Add) (rI0 λi j=>.int (i+j)):=Srz λ_ _ _ _ _ _ _ q=>add_int q
theorem Jnk:OpR X (binaryOp .Sub) (rI0 λi j=>.int (i - j)):=Srz λ_ _ _ _ _ _ _ q=>sub_int q
theorem Joe:OpR X (binaryOp .Mult) (rI Sjc λi j=>.int (i*j)):=opI λ_ _ _ _ _ _ _ hc q=>mul_int q hc.ok
theorem Jo3:OpR X (binaryOp .Mod) (rI (λ_ j=>0 < j) λi j=>.int (i%j)):=opI λi j _ _ _ _ _ hc q=>mod_int' (by omega) (by rw [Int.fmod_eq_emod_of_nonneg i (by omega)];exact q)
theorem Jya:OpR X (binaryOp .Pow) (rI Svh λi j=>.int (i^j.toNat)):=opI λ_ _ _ _ _ _ _ hc q=>pow_int_small hc.1 hc.2.1 hc.2.2 q
theorem unI {g:Int->Int}
  (rule:∀i t s Q E,Q (.int (g i) s.toks) {s with toks:=s.toks+1}->Sf (model X.prog X.w) X.A (f (.int i t)) Q E s):
  UnR X f (rU λi=>.int (g i)):=by
 rintro pins s σ H x v Q I rx ⟨i,rfl,q⟩;obtain ⟨t,rfl⟩:=rx;exact rule i t s _ _ ⟨.int (g i),H,I.tok _,⟨_,rfl⟩,q⟩
theorem Jyw:UnR X (unaryOp .USub) (rU λi=>.int (-i)):=unI λ_ _ _ _ _ q=>neg_int q
end
noncomputable def Ssg:V->V->Bool
 | .non,.non=>true| .non,.int _=>true| .int _,.non=>true| .non,.bl _=>true| .bl _,.non=>true| .non,.str _=>true| .str _,.non=>true
 | .int _,.int _=>true| .bl _,.bl _=>true| .str _,.str _=>true| .byt _,.byt _=>true
 | .int _,.str _=>true| .str _,.int _=>true| .bl _,.str _=>true| .str _,.bl _=>true
 |_,_=>false
inductive rEq (x:V) (y:V) (H:Hp) (Q:VK):Prop where
 |mk (_:Ssg x y=true) (_:Q (.bl (decide (x=y))) H)
inductive rNe (x:V) (y:V) (H:Hp) (Q:VK):Prop where
 |mk (_:Ssg x y=true) (_:Q (.bl (!decide (x=y))) H)
theorem Yaj:decide (V.int i=V.int j)=(i==j):=by grind
theorem Yd0:decide (V.bl i=V.bl j)=(i==j):=by grind
theorem Yak:decide (V.str i=V.str j)=(i==j):=by grind
theorem Yai:decide (V.byt i=V.byt j)=(i.toList==j.toList):=by
 rw [Bool.eq_iff_iff];cases i;cases j;simp
section
variable {X:Cx} {a b c:Expr} {ta tb tc:TE} {pos:Pos}
theorem Jmv {σ:St} {H} {s} {Q} {k k'} (I:Ss X pins σ H s) (q:Q (.bl k) H) (e:k=k'):EP X pins σ Q (.bool k') s:=by
 subst e;exact ⟨.bl k,H,I,rfl,q⟩
theorem Jpe:OpR X (compareOp .Eq) rEq:=by
 rintro pins s σ H x y v u Q I rx ry ⟨hs,q⟩;cases x with
 |non=>
  cases rx;cases y with
  |non=>cases ry;exact PySem.EqNone.eq_none_none (Jmv I q (by simp))
  |bl j=>cases ry;exact PySem.EqNone.eq_none_bool (Jmv I q (by simp))
  |int j=>obtain ⟨t',rfl⟩:=ry;exact PySem.EqNone.eq_none_int (Jmv I q (by simp))
  |str j=>obtain ⟨t',rfl⟩:=ry;exact PySem.EqNone.eq_none_str (Jmv I q (by simp))
  |_=>exact absurd (show false=true from hs) yak
 |bl i=>
  cases rx;cases y with
  |non=>cases ry;exact PySem.EqNone.eq_bool_none (Jmv I q (by simp))
  |bl j=>cases ry;exact eq_bool (Jmv I q Yd0)
  |str j=>obtain ⟨t',rfl⟩:=ry;exact PySem.EqMixed.eq_bool_str (Jmv I q (by simp))
  |_=>exact absurd (show false=true from hs) yak
 |int i=>
  obtain ⟨t,rfl⟩:=rx;cases y with
  |non=>cases ry;exact PySem.EqNone.eq_int_none (Jmv I q (by simp))
  |int j=>obtain ⟨t',rfl⟩:=ry;exact eq_int (Jmv I q Yaj)
  |str j=>obtain ⟨t',rfl⟩:=ry;exact PySem.EqMixed.eq_int_str (Jmv I q (by simp))
  |_=>exact absurd (show false=true from hs) yak
 |str i=>
  obtain ⟨t,rfl⟩:=rx;cases y with
  |non=>cases ry;exact PySem.EqNone.eq_str_none (Jmv I q (by simp))
  |bl j=>cases ry;exact PySem.EqMixed.eq_str_bool (Jmv I q (by simp))
  |int j=>obtain ⟨t',rfl⟩:=ry;exact PySem.EqMixed.eq_str_int (Jmv I q (by simp))
  |str j=>obtain ⟨t',rfl⟩:=ry;exact eq_str (Jmv I q Yak)
  |_=>exact absurd (show false=true from hs) yak
 |byt i=>
  obtain ⟨t,rfl⟩:=rx;cases y with
  |byt j=>obtain ⟨t',rfl⟩:=ry;exact PySem.W.eq_bytes (Jmv I q Yai)
  |_=>exact absurd (show false=true from hs) yak
 |_=>cases y <;> exact absurd (hs) yak
theorem Ss1:OpR X (compareOp .NotEq) rNe:=by
 rintro pins s σ H x y v u Q I rx ry ⟨hs,q⟩;cases x with
 |non=>
  cases rx;cases y with
  |non=>cases ry;exact PySem.EqNone.ne_none_none (Jmv I q (by simp))
  |bl j=>cases ry;exact PySem.EqNone.ne_none_bool (Jmv I q (by simp))
  |int j=>obtain ⟨t',rfl⟩:=ry;exact PySem.EqNone.ne_none_int (Jmv I q (by simp))
  |str j=>obtain ⟨t',rfl⟩:=ry;exact PySem.EqNone.ne_none_str (Jmv I q (by simp))
  |_=>exact absurd (hs) yak
 |bl i=>
  cases rx;cases y with
  |non=>cases ry;exact PySem.EqNone.ne_bool_none (Jmv I q (by simp))
  |bl j=>cases ry;exact ne_bool (Jmv I q (congrArg not Yd0))
  |str j=>obtain ⟨t',rfl⟩:=ry;exact PySem.EqMixed.ne_bool_str (Jmv I q (by simp))
  |_=>exact absurd (show false=true from hs) yak
 |int i=>
  obtain ⟨t,rfl⟩:=rx;cases y with
  |non=>cases ry;exact PySem.EqNone.ne_int_none (Jmv I q (by simp))
  |int j=>obtain ⟨t',rfl⟩:=ry;exact ne_int (Jmv I q (congrArg not Yaj))
  |str j=>obtain ⟨t',rfl⟩:=ry;exact PySem.EqMixed.ne_int_str (Jmv I q (by simp))
  |_=>exact absurd (show false=true from hs) yak
 |str i=>
  obtain ⟨t,rfl⟩:=rx;cases y with
  |non=>cases ry;exact PySem.EqNone.ne_str_none (Jmv I q (by simp))
  |bl j=>cases ry;exact PySem.EqMixed.ne_str_bool (Jmv I q (by simp))
  |int j=>obtain ⟨t',rfl⟩:=ry;exact PySem.EqMixed.ne_str_int (Jmv I q (by simp))
  |str j=>obtain ⟨t',rfl⟩:=ry;exact ne_str (Jmv I q (congrArg not Yak))
  |_=>exact absurd (show false=true from hs) yak
 |byt i=>
  obtain ⟨t,rfl⟩:=rx;cases y with
  |byt j=>obtain ⟨t',rfl⟩:=ry;exact PySem.W.ne_bytes (Jmv I q (congrArg not Yai))
  |_=>exact absurd (show false=true from hs) yak
 |_=>cases y <;> exact absurd (hs) yak
theorem Ss0:OpR X (compareOp .Lt) (rI0 λi j=>.bl (decide (i < j))):=Sjz λ_ _ _ _ _ _ _ q=>lt_int q
theorem Jqm:OpR X (compareOp .LtE) (rI0 λi j=>.bl (decide (i<=j))):=Sjz λ_ _ _ _ _ _ _ q=>le_int q
theorem Jvi:OpR X (compareOp .Gt) (rI0 λi j=>.bl (decide (j < i))):=Sjz λ_ _ _ _ _ _ _ q=>gt_int q
theorem Sky:OpR X (compareOp .GtE) (rI0 λi j=>.bl (decide (j<=i))):=Sjz λ_ _ _ _ _ _ _ q=>ge_int q
theorem Yc0:OpR X (compareOp .In) (λx y H Q=>∃i j,x= .str i/\y= .str j/\Q (.bl (!(Builtin.Str.occurrences j i 0 j.length 1).isEmpty)) H):=by
 rintro pins s σ H x y v u Q I rx ry ⟨i,j,rfl,rfl,q⟩;obtain ⟨t,rfl⟩:=rx;obtain ⟨t',rfl⟩:=ry;exact in_str (Jmv I q rfl)
theorem Jvj:OpR X (compareOp .Is) (λx y H Q=>y= .non/\Q (.bl (decide (x= .non))) H):=by
 rintro pins s σ H x y v u Q I rx ry ⟨rfl,q⟩;cases ry;refine is_none_gen (Jmv I q ?_);cases x <;> first
  | (cases rx; rfl)
  | (obtain ⟨t,rfl⟩:=rx; rfl)
theorem Jy9:OpR X (compareOp .IsNot) (λx y H Q=>y= .non/\Q (.bl (!decide (x= .non))) H):=by
 rintro pins s σ H x y v u Q I rx ry ⟨rfl,q⟩;cases ry;refine isnot_none_gen (Jmv I q ?_);cases x <;> first
  | (cases rx; rfl)
  | (obtain ⟨t,rfl⟩:=rx; rfl)
theorem Jmp (b) (h:op≠ .In:=by decide) (h2:op≠ .NotIn:=by decide):behindInMarks op b=false:=by
 have e1:(op==CmpOp.In)=false:=by cases op <;> first|rfl|exact absurd rfl h
 have e2:(op==CmpOp.NotIn)=false:=by cases op <;> first|rfl|exact absurd rfl h2
 cases b <;> simp [behindInMarks,e1,e2]
theorem Jq0 (ho:OpR X (compareOp op) r) (ha:PE X a ta) (hb:PE X b tb) (hm:behindInMarks op b=false):PE X (.Compare a [op] [b] pos) (tOp r ta tb):=by
 intro pins s σ H Q I h;exact wpAny_Compare1 (Sm9 ha hb I h λv u s2 x y H2 I2 rx ry q=>ho pins s2 σ H2 x y v u Q I2 rx ry q) hm
inductive Yh5 (Q:(Bool->Hp->Prop)) (x:V) (H':Hp):Prop where
 |mk (k:_) (_:x= .bl k) (_:Q k H')
noncomputable def Sl9 (t:TE):TT:=λσ H Q=>t σ H (Yh5 Q)
theorem Jmm (ho:OpR X (compareOp op) r) (ha:PE X a ta) (hb:PE X b tb) (hm:behindInMarks op b=false):PT X (.Compare a [op] [b] pos) (Sl9 (tOp r ta tb)):=by
 intro pins s σ H Q I h;refine wpAny_isTrue_Compare1 (thn (ha pins s σ H _ I h) λv s1 ⟨x,H1,I1,r1,q1⟩=>thn (hb pins s1 σ H1 _ I1 q1) λu s2 ⟨y,H2,I2,r2,q2⟩=>
  thn (ho pins s2 σ H2 x y v u _ I2 r1 r2 q2) λc s3 ⟨z,H3,I3,r3,k,e,q3⟩=>?_) hm
 subst e;cases r3;exact wpAny_truthy_bool ⟨H3,I3,q3⟩
noncomputable def Yeu (r r':R2) (ta tb tc:TE):TE:=λσ H Q=>ta σ H λx H1=>tb σ H1 λy H2=>r x y H2 λz H3=>∃k,z= .bl k/\
 (if k=true then tc σ H3 λw' H4=>r' y w' H4 Q else Q (.bl false) H3)
theorem Jzn (ho:OpR X (compareOp op) r) (ho':OpR X (compareOp op') r') (ha:PE X a ta) (hb:PE X b tb) (hc:PE X c tc)
  (hm:lastMarks [op,op'] [b,c]=false:=by with_unfolding_all rfl):PE X (.Compare a [op,op'] [b,c] pos) (Yeu r r' ta tb tc):=by
 intro pins s σ H Q I h;refine Compare_chain (thn (ha pins s σ H _ I h) λv s1 ⟨x,H1,I1,r1,q1⟩=>chain_link (thn (hb pins s1 σ H1 _ I1 q1) λu s2 ⟨y,H2,I2,r2,q2⟩=>
  thn (ho pins s2 σ H2 x y v u _ I2 r1 r2 q2) λd s3 ⟨z,H3,I3,r3,k,e,q3⟩=>?_)) hm
 subst e;cases r3;refine wpAny_truthy_bool ?_;cases k with
 |false=>exact ite_ff ⟨.bl false,H3,I3,rfl,q3⟩
 |true=>exact ite_tt (chain_last (thn (hc pins s3 σ H3 _ I3 q3) λw' s4 ⟨z',H4,I4,r4,q4⟩=>ho' pins s4 σ H4 y z' u w' Q I4 r2 r4 q4))
theorem Jvu (ho:OpR X (compareOp op) r) (ho':OpR X (compareOp op') r') (ha:PE X a ta) (hb:PE X b tb) (hc:PE X c tc)
  (hm:lastMarks [op,op'] [b,c]=false:=by with_unfolding_all rfl):PT X (.Compare a [op,op'] [b,c] pos) (Sl9 (Yeu r r' ta tb tc)):=by
 intro pins s σ H Q I h;refine isTrue_chain (thn (ha pins s σ H _ I h) λv s1 ⟨x,H1,I1,r1,q1⟩=>test_link (thn (hb pins s1 σ H1 _ I1 q1) λu s2 ⟨y,H2,I2,r2,q2⟩=>
  thn (ho pins s2 σ H2 x y v u _ I2 r1 r2 q2) λd s3 ⟨z,H3,I3,r3,k,e,q3⟩=>?_)) hm
 subst e;cases r3;refine wpAny_truthy_bool ?_;cases k with
 |false=>
  obtain ⟨k',e',q'⟩:=q3;cases e';exact ite_ff ⟨H3,I3,q'⟩
 |true=>
  refine ite_tt (test_last (thn (hc pins s3 σ H3 _ I3 q3) λw' s4 ⟨z',H4,I4,r4,q4⟩=>thn (ho' pins s4 σ H4 y z' u w' _ I4 r2 r4 q4) λd' s5 zq=>?_));obtain ⟨z2,H5,I5,r5,k2,e2,q5⟩:=zq;subst e2;cases r5;exact wpAny_truthy_bool ⟨H5,I5,q5⟩
noncomputable def Sra (K:Sg) (x:V) (H:Hp) (k:Bool):Prop:=
 match x with
 | .non=>k=false
 | .bl b=>k=b
 | .int i=>k=(i !=0)
 | .str y=>y.length<=S9/\k=((y.length:Int) !=0)
 | .byt y=>y.size<=S9/\k=((y.size:Int) !=0)
 | .ref p=>(∃xs,Sz K H p xs/\k=!xs.isEmpty)\/(∃xs,SqT K H p xs/\k=!xs.isEmpty)\/∃kvs,H p=some (.dK kvs)/\k=!kvs.isEmpty
 |_=>False
theorem Yf (r:KV kvs vs):(!vs.isEmpty)=!kvs.isEmpty:=by
 cases r <;> rfl
theorem Jv3 (r:Sy xs its):(!its.toArray.isEmpty)=!xs.isEmpty:=by
 cases r <;> simp
theorem Jrm:(S9) < 2^63:=by rw [sizeLine_eq];decide
theorem Sow:Sx5 X (λx H Q=>∃k,Sra X.K x H k/\Q k H):=by
 rintro pins s σ H x v Q I rx ⟨k,e,q⟩;have hs:=sizeLine_eq;cases x with
 |non=>
  cases rx;have e':=e;subst e';exact truthy_none ⟨H,I,q⟩
 |bl b=>
  cases rx;have e':=e;subst e';exact wpAny_truthy_bool ⟨H,I,q⟩
 |int i=>
  obtain ⟨t,rfl⟩:=rx;have e':=e;subst e';exact PySem.P.truthy_int ⟨H,I,q⟩
 |str y=>
  obtain ⟨t,rfl⟩:=rx;obtain ⟨hy,e'⟩:y.length<=S9/\k=((y.length:Int) !=0):=e;subst e';exact PySem.P.truthy_str (by omega) ⟨H,I.tok _,q⟩
 |byt y=>
  obtain ⟨t,rfl⟩:=rx;obtain ⟨hy,e'⟩:y.size<=S9/\k=((y.size:Int) !=0):=e;subst e';exact PySem.W.truthy_bytes (by omega) ⟨H,I.tok _,q⟩
 |ref p=>
  cases rx;have e':=e;rcases e' with ⟨xs,hx,e'⟩|⟨xs,hx,e'⟩|⟨kvs,hx,e'⟩
  ·subst e';obtain ⟨its,r,pl,hz⟩:=I.list hx;have hlen:=r.length;exact wpAny_truthy_list pl.isList (by simp only [yw];omega) ⟨H,I.tok _,by rw [Jv3 r];exact q⟩
  ·subst e';obtain ⟨its,r,pl,hz⟩:=I.tuple hx;have hlen:=r.length;exact truthy_tuple pl (by simp only [yw];omega) ⟨H,I.tok _,by rw [Jv3 r];exact q⟩
  ·subst e';obtain ⟨hz,hS,vs,r,m⟩:kvs.length<=S9/\(p==sysModules)=false/\∃vs,KV kvs vs/\s.heap.DictOf (Jmj X.prog X.w) p vs:=I.hok p _ hx;have hlen:=Paired.length r;exact wpAny_truthy_dict hS m (by omega) ⟨H,I.tok _,by rw [Yf r];exact q⟩
 |_=>exact (e).elim
theorem Ydw (ha:PE X a ta) (he:∀whole,isTrue a X.env whole=(do let v<-whole;standAt a.pos;holding [v] (truthy v))):
  PT X a (λσ H Q=>ta σ H λx H'=>∃k,Sra X.K x H' k/\Q k H'):=by
 intro pins s σ H Q I h;exact isTrue_plain (thn (ha pins s σ H _ I h) λv s1 ⟨x,H1,I1,r1,q1⟩=>Sow pins s1 σ H1 x v Q I1 r1 q1) (he _)
theorem Ys:OpR X (binaryOp .Add) (λx y H Q=>∃i j,x= .str i/\y= .str j/\i.length+j.length<=S9/\Q (.str (i++j)) H):=by
 rintro pins s σ H x y v u Q I rx ry ⟨i,j,rfl,rfl,hz,q⟩;obtain ⟨t,rfl⟩:=rx;obtain ⟨t',rfl⟩:=ry;exact add_str (λt' tk=>⟨.str (i++j),H,I.tok _,⟨_,rfl⟩,q⟩) hz
theorem Joh (r:Sy [x] us):∃u,us= [u]/\Sw x u:=by
 cases r with
 |cons r1 r2=>cases r2;exact ⟨_,rfl,r1⟩
theorem Jzy (r:Sy [x,y] us):∃u w',us= [u,w']/\Sw x u/\Sw y w':=by
 cases r with
 |cons r1 r2=>
  cases r2 with
  |cons r3 r4=>cases r4;exact ⟨_,_,rfl,r1,r3⟩
theorem Yct:Jnm X (.builtin "abs") (λxs H Q=>∃i,xs= [.int i]/\Q (.int (if i < 0 then -i else i)) H):=by
 rintro pins s σ H xs us Q I r ⟨i,rfl,q⟩;obtain ⟨u,rfl,t,rfl⟩:=Joh r;exact call_abs_int λu tk=>⟨.int (if i < 0 then -i else i),H,I.tok _,⟨_,rfl⟩,q⟩
theorem Jpm (hc:X.calm=true):Jnm X (.builtin "max") (λxs H Q=>∃i j,xs= [.int i,.int j]/\Q (.int (if j > i then j else i)) H):=by
 rintro pins s σ H xs us Q I r ⟨i,j,rfl,q⟩;obtain ⟨u,w',rfl,⟨t,rfl⟩,⟨t',rfl⟩⟩:=Jzy r;refine max_two_ints (I.ok.hd hc) λh' tk k=>⟨_,H,I.kept k,?_,q⟩;by_cases hj:j > i
 ·rw [if_pos hj,if_pos hj];exact ⟨_,rfl⟩
 ·rw [if_neg hj,if_neg hj];exact ⟨_,rfl⟩
theorem Jsw (hc:X.calm=true):Jnm X (.builtin "min") (λxs H Q=>∃i j,xs= [.int i,.int j]/\Q (.int (if j < i then j else i)) H):=by
 rintro pins s σ H xs us Q I r ⟨i,j,rfl,q⟩;obtain ⟨u,w',rfl,⟨t,rfl⟩,⟨t',rfl⟩⟩:=Jzy r;refine min_two_ints (I.ok.hd hc) λh' tk k=>⟨_,H,I.kept k,?_,q⟩;by_cases hj:j < i
 ·rw [if_pos hj,if_pos hj];exact ⟨_,rfl⟩
 ·rw [if_neg hj,if_neg hj];exact ⟨_,rfl⟩
theorem Ybg:Jnm X (.type "int") (λxs H Q=>(∃i,xs= [.int i]/\Q (.int i) H)\/∃k,xs= [.bl k]/\Q (.int (if k then 1 else 0)) H):=by
 intro pins s σ H xs us Q I r h;rcases h with ⟨i,rfl,q⟩|⟨k,rfl,q⟩
 ·obtain ⟨u,rfl,t,rfl⟩:=Joh r;exact call_int_int ⟨.int i,H,I,⟨_,rfl⟩,q⟩
 ·obtain ⟨u,rfl,r1⟩:=Joh r;cases r1;exact call_int_bool ⟨.int (if k then 1 else 0),H,I.tok _,⟨_,rfl⟩,q⟩
end
structure Shb (h:Se) (x dx C:S4) (mA:Str->Option S5):Prop where
 obj:h.get? x=some (Sk C dx)
 ns:h.Ns1 dx mA
 ne:dx≠x
theorem Jx6 {h:Se} (n:h.Ns1 dx mA):∃od,h.get? dx=some od/\∀name,PySem.W.lookIn name od=some (mA name):=by
 obtain ⟨o,es,ep,ho,hd,hk,_,hm⟩:=n;refine ⟨o,ho,λname=>?_⟩;have e:=hm name;unfold nsFind findBy at e;rw [<-Array.find?_toList] at e;unfold PySem.W.lookIn;rw [hd];dsimp only;split
 ·rename_i y q
  rw [q] at e;exact congrArg some e
 ·rename_i q
  rw [q] at e;have a:es.toList.any (·.refKey)=false:=by
   rw [List.any_eq_false];intro y hy;obtain ⟨z,t,hkey⟩:=hk y (Array.mem_toList_iff.mp hy);simp [DictEntry.refKey,hkey]
  have a':¬es.toList.any (·.refKey)=true:=by rw [a];exact yak
  rw [if_neg a'];exact congrArg some e
theorem Shb.look (I:Shb h x dx C mA):∃od,PySem.W.InstAt h x (Sk C dx) C (some od)/\∀name,PySem.W.lookIn name od=some (mA name):=
 let ⟨od,ho,hl⟩:=Jx6 I.ns
 ⟨od,⟨I.obj,rfl,rfl,ho⟩,hl⟩
section
variable {prog:Sa} {w:Sc} {A:Sd} {E:S5->S6->Prop} {s:S6} {K:Sg} {x dx C f:S4} {mA:Str->Option S5} {name:Str} {v:S5}
theorem Yfe {Q} (X:K.In s.heap) (I:Shb s.heap x dx C mA) (hg:PySem.W.plainGet K C name=true) (hh:PySem.W.hasDictIn K C=true)
  (ha:Si K (.ref C) name=some none) (hv:mA name=some v) (hv':PySem.W.handedIn v=true) (h:Q v {s with toks:=s.toks+1}):
  Sf (model prog w) A (getAttr (.ref x) name expr) Q E s:=by
 obtain ⟨od,J,hl⟩:=I.look;exact PySem.W.get_value X J (PySem.W.plainGet_of hg).1 (PySem.W.findObj_own hh ha rfl (by rw [hl,hv])) hv' h
theorem Yda {Q} (X:K.In s.heap) (I:Shb s.heap x dx C mA) (hg:PySem.W.plainGet K C name=true)
  (hf:Si K (.ref C) name=some (some (.ref f))) (ht:PySem.W.isFn K (.ref f)=true) (hv:mA name=none) (h:Q (.ref f,[.ref x]) s):
  Sf (model prog w) A (getMethod (.ref x) name pl) Q E s:=by
 obtain ⟨od,J,hl⟩:=I.look;exact PySem.W.method_fn X J (PySem.W.plainGet_of hg).1 (PySem.W.plainGet_of hg).2 hf (beq_iff_eq.mp ht) (by show (PySem.W.lookIn name od).map (·.isSome)=some false;rw [hl,hv];rfl) h
theorem Ygd (X:K.In s.heap) (I:Shb s.heap x dx C mA)
  (hs:Si K (.ref C) "__setattr__" =some (some (.builtin "object.__setattr__"))) (hp:PySem.W.plainOver K C=true) (ht:PySem.W.takerIn K C name=some none) (hh:PySem.W.hasDictIn K C=true)
  (hw:PySem.Within mA ns) (hsz:ns.length<=S9)
  (h:∀h',Shb h' x dx C (λy=>if y=name then some v else mA y)->yay dx s.heap h'->Q () {s with heap:=h',toks:=s.toks+2}):
  Sf (model prog w) A (setAttr (.ref x) name v) Q E s:=by
 obtain ⟨od,J,hl⟩:=I.look;refine PySem.W.set_plain X J hs (PySem.W.osa_open X J hp ht λb=>?_);obtain ⟨cd,hc,hd'⟩:=PySem.W.any_some hh;refine S7 (S8 (S7 (S7 (wpAny_loadPart I.obj (S7 (PySem.W.Looks.here (PySem.W.looks_clsIn X hc) ?_))))));rw [hd'];refine S8 (S7 (S8 (S7 (wpAny_nsSet1 I.ns λh' hn2 hs2=>?_))));obtain ⟨oD,esD,epD,hoD,hdD,hcD⟩:=hn2.count (PySem.Within.cons name v hw);exact S7 (wpAny_lookBehind hoD (by rw [hdD];exact pastItsLine_dict (yai hcD (by rw [yag];omega))) (S8 (h _ ⟨(hs2.2 _ (yx I.ne)).trans I.obj,hn2,I.ne⟩ hs2)))
theorem Jze (X:K.In s.heap) (hm:PySem.W.makesIn K C=true)
  (hi:Si K (.ref C) "__init__" =some (some (.ref f))) (hf:PySem.W.typeIn K (.ref f)=some (.type "function"))
  (h:codeAny (model prog w) (A.under (.builtin "type.__call__" ⟨.ref C::vs,kw⟩)) (.call (.ref f) ⟨.ref (s.heap.objs.size+1)::vs,kw⟩) (PySem.W.InitBack (s.heap.objs.size+1) R)
   {s with heap:=(s.heap.push PySem.W.emptyDict).push (Sk C s.heap.objs.size)}):
  codeAny (model prog w) A (.call (.ref C) ⟨vs,kw⟩) R s:=PySem.W.make_core (PySem.W.makes_of X hm) (PySem.W.looks_findIn X hi) (λself=>PySem.W.bind_fn X self hf) (.inl rfl) h
end
noncomputable def Jn8 (f:Str) (v:V):List (Str×V)->List (Str×V)
 | []=>[(f,v)]
 | (g,x) :: r=>if g = f then (g,v) :: r else (g,x) :: Jn8 f v r
theorem Jtq (f g) (v):∀fs:List (Str×V),(Jn8 f v fs).lookup g=if g=f then some v else fs.lookup g
 | []=>by
  show ybp g [(f,v)]=_;by_cases h:g=f
  ·have hb:(g==f)=true:=beq_iff_eq.mpr h;simp only [ybp,hb,if_pos h]
  ·have hb:=beq_eq_false_iff_ne.mpr h;simp only [ybp,hb,if_neg h]
 | (k,x) :: r=>by
  rw [show Jn8 f v ((k,x)::r)=(if k=f then (k,v)::r else (k,x)::Jn8 f v r) from rfl];by_cases hk:k=f
  ·rw [if_pos hk];by_cases h:g=k
   ·have hb:=beq_iff_eq.mpr h;simp only [ybp,hb,if_pos (h.trans hk)]
   ·have hb:=beq_eq_false_iff_ne.mpr h;simp only [ybp,hb,if_neg (λe:g=f=>h (e.trans hk.symm))]
  ·rw [if_neg hk];by_cases h:g=k
   ·have hb:=beq_iff_eq.mpr h;simp only [ybp,hb,if_neg (λe:g=f=>hk (h.symm.trans e))]
   ·have hb:=beq_eq_false_iff_ne.mpr h;simp only [ybp,hb];exact (Jtq f g v r)
theorem Jt3 (f) (v):∀fs:List (Str×V),f∈(Jn8 f v fs).map (·.1)/\∀g,g∈fs.map (·.1)->g∈(Jn8 f v fs).map (·.1)
 | []=>⟨by simp [Jn8],λg h=>by simp at h⟩
 | (k,x) :: r=>by
  obtain ⟨i1,i2⟩:=Jt3 f v r;rw [show Jn8 f v ((k,x)::r)=(if k=f then (k,v)::r else (k,x)::Jn8 f v r) from rfl];by_cases hk:k=f
  ·rw [if_pos hk];subst hk;exact ⟨by simp,λg h=>by simpa using h⟩
  ·rw [if_neg hk];refine ⟨?_,λg h=>?_⟩
   ·rw [yap];exact yz _ i1
   ·rw [yap] at h⊢;rcases yq.mp h with e|e
    ·exact yq.mpr (.inl e)
    ·exact yz _ (i2 g e)
theorem Jtp (f) (v):∀fs:List (Str×V),(Jn8 f v fs).length<=fs.length+1
 | []=>by simp [Jn8]
 | (k,x) :: r=>by
  have ih:=Jtp f v r;rw [show Jn8 f v ((k,x)::r)=(if k=f then (k,v)::r else (k,x)::Jn8 f v r) from rfl];by_cases hk:k=f
  ·rw [if_pos hk,yag,yag];omega
  ·rw [if_neg hk,yag,yag];omega
theorem Scm.some_of (r:Scm (some v) o):∃u,o=some u/\Sw v u:=by
 cases o with
 |none=>exact (r).elim
 |some u=>exact ⟨u,rfl,r⟩
theorem Scm.none_of (r:Scm none o):o=none:=by
 cases o with
 |none=>rfl
 |some u=>exact (r).elim
theorem Jx2 (r:Sw v u):PySem.W.handedIn u=true:=by
 cases v with
 |non=>cases (r);rfl
 |bl b=>cases (r);rfl
 |int i=>obtain ⟨t,e⟩:=(show ∃t,u=Value.int i t from r);cases e;rfl
 |str x=>obtain ⟨t,e⟩:=(show ∃t,u=Value.str x t from r);cases e;rfl
 |byt b=>obtain ⟨t,e⟩:=(show ∃t,u=Value.bytes b t from r);cases e;rfl
 |flt b=>obtain ⟨t,e⟩:=(show ∃t,u=Value.float b t from r);cases e;rfl
 |ref a=>cases (r);rfl
 |ty n=>cases (r);rfl
section
variable {P:Sa} {w:Sc} {H H':Hp} {h h':Se} {a C dx:S4} {fs fs':List (Str×V)}
theorem Juc (hok:HOk P w H h) (e:H a=some (.ins C dx fs)):∃mA,Shb h a dx C mA/\(∀f,Scm (fs.lookup f) (mA f))/\PySem.Within mA (fs.map (·.1))/\fs.length<=1000/\H dx=some (.own a):=by
 obtain ⟨d,z,ne,ob,mA,n,r,q⟩:=(hok a _ e);exact ⟨mA,⟨ob,n,ne⟩,r,q,z,d⟩
end
structure Cls (K:Sg) (C:S4):Prop where
 pg:PySem.W.plainGet K C Str.empty=true
 hd:PySem.W.hasDictIn K C=true
 po:PySem.W.plainOver K C=true
 sa:Si K (.ref C) "__setattr__" =some (some (.builtin "object.__setattr__"))
theorem Cls.get {K} (c:Cls K C) (f):PySem.W.plainGet K C f=true:=c.pg
noncomputable def NoAttr (K:Sg) (C:S4) (f:Str):Prop:=Si K (.ref C) f=some none
theorem NoAttr.taker {K} (n:NoAttr K C f):PySem.W.takerIn K C f=some none:=by
 unfold PySem.W.takerIn;rw [n];rfl
structure Jp0 (K:Sg) (C:S4) (m:Str) (f:S4):Prop where
 at_:Si K (.ref C) m=some (some (.ref f))
 fn:PySem.W.isFn K (.ref f)=true
 kp:PySem.W.keepIn K (.ref f)=true
section
variable {X:Cx} {pins:List (S4×Obj)} {σ:St} {H:Hp} {s:S6} {a C dx:S4} {fs:List (Str×V)} {f:Str} {v:V} {A:Sd} {E:S5->S6->Prop}
theorem Yd (I:Ss X pins σ H s) (e:H a=some (.ins C dx fs)) (c:Cls X.K C) (n:NoAttr X.K C f) (l:fs.lookup f=some v)
  (h:∀u s',Ss X pins σ H s'->Sw v u->Q u s'):Sf (model X.prog X.w) A (getAttr (.ref a) f b) Q E s:=by
 obtain ⟨mA,O,r,_,_,_⟩:=Juc I.hok e;obtain ⟨u,hu,ru⟩:=Scm.some_of (by rw [<-l];exact r f);exact Yfe I.kIn O (c.get f) c.hd n hu (Jx2 ru) (h u _ (I.tok _) ru)
theorem Jpw {Q} (I:Ss X pins σ H s) (e:H a=some (.ins C dx fs)) (c:Cls X.K C) (k:Jp0 X.K C m g) (l:fs.lookup m=none)
  (h:Q (.ref g,[.ref a]) s):Sf (model X.prog X.w) A (getMethod (.ref a) m pl) Q E s:=by
 obtain ⟨mA,O,r,_,_,_⟩:=Juc I.hok e;exact Yda I.kIn O (c.get m) k.at_ k.fn (Scm.none_of (by rw [<-l];exact r m)) h
theorem Ya6 (I:Ss X pins σ H s) (e:H a=some (.ins C dx fs)) (c:Cls X.K C) (n:NoAttr X.K C f) (hl:fs.length < 1000) (ry:Sw y u)
  (h:∀s',Ss X pins σ (upd H a (.ins C dx (Jn8 f y fs))) s'->Q () s'):Sf (model X.prog X.w) A (setAttr (.ref a) f u) Q E s:=by
 obtain ⟨mA,O,r,wi,_,ho⟩:=Juc I.hok e;have hz:(fs.map (·.1)).length<=S9:=by rw [ye,sizeLine_eq];omega
 refine Ygd I.kIn O c.sa c.po n.taker c.hd wi hz λh' O' sb=>h _ ?_;have hd:∃o,h'.get? dx=some o:=let ⟨o,_,_,e',_⟩:=O'.ns;⟨o,e'⟩;refine I.write (by rw [e];exact True.intro) (.inr ho) (λb q hb z=>(sb.2 b hb).trans z) hd ⟨by rw [Sx O.ne];exact ho,?_,O.ne,O'.obj,_,O'.ns,λg=>?_,λg hg=>?_⟩
 ·have:=Jtp f y fs;omega
 ·show Scm ((Jn8 f y fs).lookup g) (if g=f then some u else mA g);rw [Jtq];by_cases q:g=f
  ·rw [if_pos q,if_pos q];exact ry
  ·rw [if_neg q,if_neg q];exact r g
 ·by_cases q:g=f
  ·rw [q];exact (Jt3 f y fs).1
  ·refine (Jt3 f y fs).2 g (wi g λz=>hg ?_);show (if g=f then some u else mA g)=none;rw [if_neg q];exact z
theorem Ss.made (I:Ss X pins σ H s):Ss X pins σ (upd (upd H s.heap.objs.size (.own (s.heap.objs.size+1))) (s.heap.objs.size+1) (.ins C s.heap.objs.size []))
  {s with heap:=(s.heap.push PySem.W.emptyDict).push (Sk C s.heap.objs.size)}:=by
 have e1:(s.heap.push PySem.W.emptyDict).get? s.heap.objs.size=some PySem.W.emptyDict:=yt s.heap rfl;have e2:=by
  have:=yt (s.heap.push PySem.W.emptyDict) (o:=Sk C s.heap.objs.size) rfl
  rwa [yau] at this
 have e3:(s.heap.push PySem.W.emptyDict).Ns s.heap.objs.size (λ_=>none):=⟨PySem.W.emptyDict,#[],_,e1,rfl,(λe he=>absurd he (by simp)),λ_=>rfl⟩;refine (I.laid (o:=.own (s.heap.objs.size+1)) (t':=s.toks) (λb u q=>yn _ q) (yg _) ⟨_,e1⟩).laid (λb u q=>yn _ q) (Nat.le_of_eq (yau _ _)) ?_;have ne:s.heap.objs.size≠s.heap.objs.size+1:=yy (ybw _);refine ⟨by rw [Sx ne,Sr],yal _,ne,e2,λ_=>none,(Heap.Ns1.of_empty e3).at λo q=>yn _ q,λ_=>True.intro,λy hy=>absurd rfl hy⟩
theorem Yaf (hb:attributeBase e f env (eval e env)=eval e env)
  (h:Sf (model prog w) A (eval e env) (λo s₁=>Sf (model prog w) A (getAttr o f true) Q E s₁) E s):Sf (model prog w) A (eval (.Attribute e f pos) env) Q E s:=
 Attribute_any_ h (by rw [arm_eval_Attribute,hb])
end
inductive Son (K:Sg) (f:Str) (Q:VK) (x:V) (H1:Hp):Prop where
 |mk (a:_) (C:_) (dx:_) (fs:_) (v:_) (_:x= .ref a) (_:H1 a=some (.ins C dx fs)) (_:Cls K C) (_:NoAttr K C f) (_:fs.lookup f=some v) (_:Q v H1)
noncomputable def Ssv (K:Sg) (ta:TE) (f:Str):TE:=λσ H Q=>ta σ H (Son K f Q)
noncomputable def Syg (K:Sg) (ta tv:TE) (f:Str):TS:=λD σ H=>tv σ H λy H1=>ta σ H1 λx H2=>∃a C dx fs,x= .ref a/\H2 a=some (.ins C dx fs)/\Cls K C/\NoAttr K C f/\fs.length < 1000/\
 D.nx σ (upd H2 a (.ins C dx (Jn8 f y fs)))
section
variable {X:Cx} {o e value:Expr} {f:Str} {pos pos' tpos:Pos} {ta tv:TE}
theorem Jmd (he:PE X e ta) (hb:attributeBase e f X.env (eval e X.env)=eval e X.env):PE X (.Attribute e f pos) (Ssv X.K ta f):=by
 intro pins s σ H Q I h;refine Yaf hb (thn (he pins s σ H _ I h) λu s1 zq=>?_);obtain ⟨x,H1,I1,rx,a,C,dx,fs,v,ex,ea,c,n,l,q⟩:=zq;subst ex;obtain rfl:u=Value.ref a:=rx;exact Yd I1 ea c n l λu' s2 I2 ru=>⟨v,H1,I2,ru,q⟩
theorem Jmw (ha:PE X o ta) (hv:PE X value tv) (hs:swapsWith value (some (.Attribute o f pos')) pos.line X.env=pure false):PS X (.Assign [.Attribute o f pos'] value pos) (Syg X.K ta tv f):=by
 intro pins s σ H D I h;refine plainObj_wpAny_Assign_Attribute (thn (hv pins s σ H _ I h) λu s1 ⟨y,H1,I1,ry,q⟩=>thn (ha pins s1 σ H1 _ I1 q) λov s2 zq=>?_) hs;obtain ⟨x,H2,I2,rx,a,C,dx,fs,ex,ea,c,n,l,q2⟩:=zq;subst ex;obtain rfl:ov=Value.ref a:=rx;exact Ya6 I2 ea c n l ry λs3 I3=>⟨σ,_,I3,q2⟩
end
section
variable {X:Cx} {pins:List (S4×Obj)} {σ:St} {H:Hp} {s:S6} {A:Sd} {E:S5->S6->Prop} {Q:S5->S6->Prop} {c:S5} {b:Bool}
inductive Jsv (K:Sg) (H:Hp):V->S5->Prop where
 |non:Jsv K H .non (.type "NoneType")
 |bl (x:Bool):Jsv K H (.bl x) (.type "bool")
 |int (i:Int):Jsv K H (.int i) (.type "int")
 |str (x:Str):Jsv K H (.str x) (.type "str")
 |flt (x:UInt64):Jsv K H (.flt x) (.type "float")
 |lst {a:S4} {xs:List V} (e:H a=some (.lst xs)):Jsv K H (.ref a) (.type "list")
 |frz {a:S4} {o:Obj} {xs:List V} (e:H a=some (.frz o (.lst xs))):Jsv K H (.ref a) (.type "list")
 |tup {a:S4} {xs:List V} (e:H a=some (.tup xs)):Jsv K H (.ref a) (.type "tuple")
 |dK {a:S4} {kvs:List (Key×V)} (e:H a=some (.dK kvs)):Jsv K H (.ref a) (.type "dict")
 |dT {a:S4} {kvs:List (List Key×V)} (e:H a=some (.dT kvs)):Jsv K H (.ref a) (.type "dict")
 |ins {a C dx:S4} {fs:List (Str×V)} (e:H a=some (.ins C dx fs)) (cl:Cls K C) (ha:Si K (.ref C) "__class__" =some (some (.builtin "object.__class__")))
   (hn:PySem.W.specialIn K (.builtin "object.__class__") "__get__" =some (some (.builtin "getset_descriptor.__get__"))) (htk:PySem.W.takesIn K (.builtin "object.__class__")=some true)
   (hm:Sj K C (.type "object")=some true):Jsv K H (.ref a) (.ref C)
end
structure Sax (k:Nat) (A:Sd):Prop where
 hd:A.handled=none
 dp:A.depth+3*k+5 < recursionLimit
 un:A.units+16*k+200 < cLine
 gd:A.guards=some []
theorem Sax.mono (r:Sax k A) (h:j<=k):Sax j A:=⟨r.hd,by have:=r.dp;omega,by have:=r.un;omega,r.gd⟩
theorem Sax.deeper (r:Sax (k+1) A) (env):Sax k (A.deeper env):=
 ⟨r.hd,by have:=r.dp;show A.depth+1+3*k+5 < _;omega,by have:=r.un;show A.units+3+16*k+200 < _;omega,r.gd⟩
theorem Yk {A:Sd}:(A.under (.builtin "type.__call__" ⟨.ref C::us,kw⟩)).depth=A.depth+1:=by
 first|rfl|simp [Around.under]
theorem Yl {A:Sd}:(A.under (.builtin "type.__call__" ⟨.ref C::us,kw⟩)).units=A.units+1:=rfl
theorem Jzd {A:Sd}:(A.under (.builtin "type.__call__" ⟨.ref C::us,kw⟩)).guards=A.guards:=by
 have e:(Code.builtin "type.__call__" ⟨.ref C::us,kw⟩).guards= []:=by
  have g:(Code.builtin "type.__call__" ⟨.ref C::us,kw⟩).isGuard=false:=by
   show guardIds.contains "type.__call__" =false;decide +kernel
  unfold Code.guards;rw [g];rfl
 show pushGuards (Code.builtin "type.__call__" ⟨.ref C::us,kw⟩).guards A.guards=_;rw [e];rfl
theorem Sax.make (r:Sax (k+1) A) (C) (us) (kw):Sax k (A.under (.builtin "type.__call__" ⟨.ref C::us,kw⟩)):=
 ⟨r.hd,by have:=r.dp;rw [Yk];omega,by have:=r.un;rw [Yl];omega,by rw [Jzd];exact r.gd⟩
theorem Sax.depth (r:Sax k A):A.depth < recursionLimit:=by have:=r.dp;omega
theorem Sax.units (r:Sax k A):A.units+64 < cLine:=by have:=r.un;omega
noncomputable def Jyq:TA:=λ_ H Q=>Q [] H
noncomputable def Jo9 (ta:TE) (tr:TA):TA:=λσ H Q=>ta σ H λx H1=>tr σ H1 λxs H2=>Q (x::xs) H2
section
variable {X:Cx} {e:Expr} {es:List Expr} {te:TE} {t:TA} {pos:Pos}
theorem So:PA X [] Jyq:=λ_ _ _ _ H Q I h=>Calls.spliced_nil ⟨[],H,I,.nil,h⟩
theorem Sm (ha:PE X e te) (hr:PA X es t) (hs:starEach (e::es) X.env=(false,eval e X.env)::starEach es X.env:=by rfl):PA X (e::es) (Jo9 te t):=by
 intro pos pins s σ H Q I h;rw [hs];show Sf _ _ (spliced ((false,eval e X.env)::backTo pos (starEach es X.env))) _ _ s;exact Calls.spliced_cons (thn (ha pins s σ H _ I h) λu s1 ⟨x,H1,I1,r1,q1⟩=>thn (hr pos pins s1 σ H1 _ I1 q1) λus s2 ⟨xs,H2,I2,r2,q2⟩=>⟨x::xs,H2,I2,.cons r1 r2,q2⟩)
inductive Sor (Q:VK) (xs:List V) (H1:Hp):Prop where
 |mk (_:xs.length<=S9) (_:∀p,H1 p=none->Q (.ref p) (upd H1 p (.tup xs)))
noncomputable def Syw (t:TA):TE:=λσ H Q=>t σ H (Sor Q)
inductive Sop (Q:VK) (xs:List V) (H1:Hp):Prop where
 |mk (_:xs.length<=S9) (_:∀p,H1 p=none->Q (.ref p) (upd H1 p (.lst xs)))
noncomputable def Sys (t:TA):TE:=λσ H Q=>t σ H (Sop Q)
theorem Jmz (h:PA X es t):PE X (.Tuple es x1 pos) (Syw t):=by
 intro pins s σ H Q I hq;refine wpAny_Tuple_spliced (thn (h pos pins s σ H _ I hq) λus s1 ⟨xs,H1,I1,r,z,q⟩=>⟨by rw [<-r.length];exact z,⟨.ref s1.heap.objs.size,upd H1 s1.heap.objs.size (.tup xs),I1.laid (λb u e=>yn _ e) (yg _) ?_,rfl,q _ (I1.hok.fresh (yg _))⟩⟩);exact ⟨z,us,r,⟨_,yt _ rfl,rfl,_,rfl⟩⟩
theorem Jmy (h:PA X es t):PE X (.List es pos) (Sys t):=by
 intro pins s σ H Q I hq;refine wpAny_List_spliced (thn (h pos pins s σ H _ I hq) λus s1 ⟨xs,H1,I1,r,z,q⟩=>⟨by rw [<-r.length];exact z,⟨.ref s1.heap.objs.size,upd H1 s1.heap.objs.size (.lst xs),I1.laid (λb u e=>yn _ e) (yg _) ?_,rfl,q _ (I1.hok.fresh (yg _))⟩⟩);exact ⟨z,us,0,r,yt _ rfl⟩
end
noncomputable abbrev Sp:=List V->Hp->VK->XK->Prop
noncomputable abbrev CXT:=List Env->Hp->S6->XK->S5->S6->Prop
structure Sh1 (P:Sa) (w:Sc) (K:Sg) (mg:Str->Option S5) (base:Se) (A:Sd) (outer:List Env) (s:S6) (H:Hp):Prop where
 frames:A.frames=some outer
 mod:Mod K mg base
 bs:∀b o,base.get? b=some o->s.heap.get? b=some o/\H b=none
 bsz:base.objs.size<=s.heap.objs.size
 funs:s.heap.FunFrames base outer
 frf:∀b∈frs outer,H b=none
 hok:HOk P w H s.heap
 bare:AllBare s.gens
noncomputable def CE (outer:List Env) (P:Sa) (w:Sc) (H:Hp) (s:S6) (Q:VK) (u:S5) (s':S6):Prop:=
 ∃v H',s'.os=s.os/\AllBare s'.gens/\Un (frs outer) [] H H' s.heap s'.heap/\HOk P w H' s'.heap/\Sw v u/\Q v H'
noncomputable def CR (CX:CXT) (outer:List Env) (P:Sa) (w:Sc) (H:Hp) (s:S6) (Q:VK) (E:XK) (r:Result) (s':S6):Prop:=
 match r with
 | .ok (.ret u)=>CE outer P w H s Q u s'
 | .ok _=>False
 | .error e=>CX outer H s E e s'
structure Sv (P:Sa) (w:Sc) (K:Sg) (mg:Str->Option S5) (base:Se) (CX:CXT) (k:Nat) (f:S4) (fd:Sb) (ps:List Str) (sp:Sp):Prop where
 len:∀vs H Q E,sp vs H Q E->vs.length=ps.length
 run:∀(A:Sd) (outer:List Env) (s:S6) (H:Hp) (args:Args) (us:List S5) (vs:List V) (Q:VK) (E:XK),Sax k A->Sh1 P w K mg base A outer s H->BindsTo s fd args (ps.zip us)->Sy vs us->sp vs H Q E->
  codeAny (model P w) A (.call (.ref f) args) (CR CX outer P w H s Q E) s
theorem Sv.imp {K} (F:Sv P w K mg base CX k f fd ps sp)
  (h:∀vs H Q E,sp' vs H Q E->sp vs H Q E):Sv P w K mg base CX k f fd ps sp':=
 ⟨λvs H Q E q=>F.len vs H Q E (h _ _ _ _ q),λA outer s H args us vs Q E hr he hb hv hs=>F.run A outer s H args us vs Q E hr he hb hv (h _ _ _ _ hs)⟩
theorem Sh1.make {K} (e:Sh1 P w K mg base A outer s H) (C) (us) (kw):
  Sh1 P w K mg base (A.under (.builtin "type.__call__" ⟨.ref C::us,kw⟩)) outer s H:=⟨by first|exact e.frames|(simpa [Around.under] using e.frames),e.mod,e.bs,e.bsz,e.funs,e.frf,e.hok,e.bare⟩
section
variable {X:Cx} {pins:List (S4×Obj)} {σ:St} {H:Hp} {s s':S6}
theorem Ss.env0 (I:Ss X pins σ H s):Sh1 X.prog X.w X.K X.mg X.base X.A X.stack s H:=
 ⟨I.ok.frames,I.ok.mod,I.bs,yai I.ok.bsz I.sz,I.stack,I.stkFree,I.hok,I.bare⟩
theorem Ss.after (I:Ss X pins σ H s) (h:CE X.stack X.prog X.w H s Q u s'):EP X pins σ Q u s':=by
 obtain ⟨v,H',os,bare,un,hok,r,q⟩:=h;obtain ⟨hh,g,d,t,os'⟩:=s';obtain rfl:os'=s.os:=os;exact ⟨v,H',I.call un hok bare (λb z=>absurd z (by simp)),r,q⟩
end
noncomputable def Sl7 (sp:Sp) (dvs:List V) (E:XK) (t:TA):TE:=λσ H Q=>t σ H λvs H1=>sp (vs++dvs) H1 Q E
inductive Yh1 (C:S4) (m:Str) (sp:Sp) (dvs:List V) (E:XK) (t:TA) (σ:St) (Q:VK) (x:V) (H1:Hp):Prop where
 |mk (a:_) (dx:_) (fs:_) (_:x= .ref a) (_:H1 a=some (.ins C dx fs)) (_:fs.lookup m=none) (_:t σ H1 λvs H2=>sp (x::(vs++dvs)) H2 Q E)
noncomputable def Sl8 (C:S4) (m:Str) (sp:Sp) (dvs:List V) (E:XK) (ta:TE) (t:TA):TE:=λσ H Q=>ta σ H (Yh1 C m sp dvs E t σ Q)
noncomputable def Ssz (C:S4) (sp:Sp) (dvs:List V) (E:XK) (t:TA):TE:=λσ H Q=>t σ H λvs H1=>∀x dx,H1 x=none->H1 dx=none->dx≠x->
 sp (.ref x::(vs++dvs)) (upd (upd H1 dx (.own x)) x (.ins C dx [])) (λv H2=>v= .non/\Q (.ref x) H2) E
noncomputable def Sbc (K:Sg) (fd:Sb) (ps:List Str) (ds:List S5):Prop:=
 ∀(s:S6) (us:List S5),K.In s.heap->(us++ds).length=ps.length->BindsTo s fd ⟨us,[]⟩ (ps.zip (us++ds))
theorem Sbc.all {K} (h:∀us:List S5,us.length=ps.length->bindArgs fd ⟨us,[]⟩=pure (ps.zip us)):Sbc K fd ps []:=λs us _ hl=>by
 rw [yba] at hl⊢;exact .of_eq (h us hl)
noncomputable def Jri (CX:CXT) (X:Cx) (E:XK):Prop:=∀(pins:List (S4×Obj)) (σ:St) (H:Hp) (s:S6) (e:S5) (s':S6),Ss X pins σ H s->CX X.stack H s E e s'->X.xe e s'
section
variable {X:Cx} {CX:CXT} {k:Nat} {f C:S4} {fd:Sb} {ps:List Str} {sp:Sp} {dvs:List V} {ds:List S5} {E:XK} {x m:Str} {p pos apos:Pos} {e o:Expr} {es:List Expr} {ta:TE} {t:TA}
theorem Jvv (F:Sv X.prog X.w X.K X.mg X.base CX k f fd ps sp) (hr:Sax k X.A) (hb:Sbc X.K fd ps ds) (hd:Sy dvs ds) (hx:Jri CX X E)
  (I:Ss X pins σ H s) (r:Sy vs us) (h:sp (vs++dvs) H Q E):Sf (model X.prog X.w) X.A (call (.ref f) us) (EP X pins σ Q) X.xe s:=by
 have r2:=r.append hd;have hl:(us++ds).length=ps.length:=by rw [<-r2.length];exact F.len _ _ _ _ h
 refine wpAny_call (codeAny_mono (F.run X.A X.stack s H ⟨us,[]⟩ (us++ds) (vs++dvs) Q E hr I.env0 (hb s us I.kIn hl) r2 h) λr s' hq=>?_);cases r with
 |error e=>exact hx pins σ H s e s' I hq
 |ok fl=>
  cases fl with
  |ret u=>exact I.after hq
  |next=>exact False.elim hq
  |brk=>exact False.elim hq
  |cont=>exact False.elim hq
theorem Yfy (F:Sv X.prog X.w X.K X.mg X.base CX k f fd ps sp) (hr:Sax k X.A) (hg:Gl X x) (hm:X.mg x=some (.ref f)) (hk:PySem.W.keepIn X.K (.ref f)=true) (hb:Sbc X.K fd ps ds) (hd:Sy dvs ds) (hx:Jri CX X E)
  (ha:PA X (e::es) t) (hdb:(x==("__debug__" :Str))=false:=by decide) (he:starEach (e::es) X.env=(false,eval e X.env)::starEach es X.env:=by rfl) (hpl:(backTo pos (starEach es X.env)).any (·.1)=false:=by rfl):
  PE X (.Call (.Name x p) (e::es) [] pos) (Sl7 sp dvs E t):=by
 intro pins s σ H Q I h;exact wpAny_Call_Name_kw (Jpy I hg hm (PySem.W.callWith_K I.ok.mod.kin hk (thn (ha pos pins s σ H _ I h) λus s1 ⟨vs,H1,I1,r,q⟩=>⟨I1.kIn,Jvv F hr hb hd hx I1 r q⟩) he hpl) hdb)
theorem Yb1 {pl} (he:PE X o ta) (c:Cls X.K C) (hm:Jp0 X.K C m f) (F:Sv X.prog X.w X.K X.mg X.base CX k f fd ps sp) (hr:Sax k X.A) (hb:Sbc X.K fd ps ds) (hd:Sy dvs ds) (hx:Jri CX X E) (ha:PA X (e::es) t)
  (hst:starEach (e::es) X.env=(false,eval e X.env)::starEach es X.env:=by rfl) (hpl:(backTo pos (starEach es X.env)).any (·.1)=false:=by rfl)
  (ht:eval (.Call (.Attribute o m apos) (e::es) [] pos) X.env=(do
   let ov<-eval o X.env
   standAt apos.atName
   let (f,first)<-holding [ov] (getMethod ov m pl)
   callWith pos f first (backTo pos (starEach (e::es) X.env)) (backToKw pos (keywordEach [] X.env))):=by rfl):
  PE X (.Call (.Attribute o m apos) (e::es) [] pos) (Sl8 C m sp dvs E ta t):=by
 intro pins s σ H Q I h;refine PySem.W.methodCall_KW (thn (he pins s σ H _ I h) λu s1 zq=>?_) ht;obtain ⟨x,H1,I1,rx,a,dx,fs,ex,ea,l,q⟩:=zq;subst ex;obtain rfl:u=Value.ref a:=rx;exact Jpw I1 ea c hm l (PySem.W.callWith_K I.ok.mod.kin hm.kp (thn (ha pos pins s1 σ H1 _ I1 q) λus s2 ⟨vs,H2,I2,r,q2⟩=>⟨I2.kIn,Jvv (vs:=.ref a::vs) F hr hb hd hx I2 (.cons rfl r) q2⟩) hst hpl)
theorem Ydp (he:PE X o ta) (c:Cls X.K C) (hm:Jp0 X.K C m f) (F:Sv X.prog X.w X.K X.mg X.base CX k f fd ps sp) (hr:Sax k X.A) (hb:Sbc X.K fd ps ds) (hd:Sy dvs ds) (hx:Jri CX X E)
  (ht:eval (.Call (.Attribute o m apos) [] [] pos) X.env=(do
   let ov<-eval o X.env
   standAt apos.atName
   let (f,first)<-holding [ov] (getMethod ov m pl)
   callWith pos f first (backTo pos (starEach [] X.env)) (backToKw pos (keywordEach [] X.env))):=by rfl):
  PE X (.Call (.Attribute o m apos) [] [] pos) (Sl8 C m sp dvs E ta Jyq):=by
 intro pins s σ H Q I h;refine PySem.W.methodCall_KW (thn (he pins s σ H _ I h) λu s1 zq=>?_) ht;obtain ⟨x,H1,I1,rx,a,dx,fs,ex,ea,l,q⟩:=zq;subst ex;obtain rfl:u=Value.ref a:=rx;exact Jpw I1 ea c hm l (PySem.W.callWith_K0 I1.kIn hm.kp (Jvv (vs:=[.ref a]) F hr hb hd hx I1 (.cons rfl .nil) q))
structure Mk (K:Sg) (C f:S4):Prop where
 makes:PySem.W.makesIn K C=true
 init:Si K (.ref C) "__init__" =some (some (.ref f))
 fn:PySem.W.isFn K (.ref f)=true
 kp:PySem.W.keepIn K (.ref C)=true
theorem Ye9 {σ:St} {H} {s} {Q} {us} {vs} (M:Mk X.K C f) (F:Sv X.prog X.w X.K X.mg X.base CX k f fd ps sp) (hr:Sax (k+1) X.A) (hb:Sbc X.K fd ps ds) (hd:Sy dvs ds)
  (hx:Jri CX X E) (I:Ss X pins σ H s) (r:Sy vs us)
  (h:∀x dx,H x=none->H dx=none->dx≠x->sp (.ref x::(vs++dvs)) (upd (upd H dx (.own x)) x (.ins C dx [])) (λv H2=>v= .non/\Q (.ref x) H2) E):
  Sf (model X.prog X.w) X.A (call (.ref C) us) (EP X pins σ Q) X.xe s:=by
 have hq:=h (s.heap.objs.size+1) s.heap.objs.size (I.hok.fresh (Nat.le_succ _)) (I.hok.fresh (yg _)) (yy (ybw _));have I2:=Ss.made (C:=C) I;have r2:Sy (V.ref (s.heap.objs.size+1)::(vs++dvs)) (Value.ref (s.heap.objs.size+1)::(us++ds)):=.cons rfl (r.append hd);have hl:=by
  have e:=r2.length;rw [F.len _ _ _ _ hq] at e;exact e.symm
 refine wpAny_call (Jze I.kIn M.makes M.init (beq_iff_eq.mp M.fn) (codeAny_mono (F.run _ X.stack _ _ ⟨Value.ref (s.heap.objs.size+1)::us,[]⟩ (Value.ref (s.heap.objs.size+1)::(us++ds)) _ _ E (hr.make C us [])
  (I2.env0.make C us []) (hb _ (Value.ref (s.heap.objs.size+1)::us) I2.kIn hl) r2 hq) λr s' hq'=>?_))
 cases r with
 |error e=>exact hx pins σ _ _ e s' I2 hq'
 |ok fl=>
  cases fl with
  |ret u=>
   obtain ⟨v,H',I3,rv,ev,q3⟩:=I2.after hq';subst ev;exact ⟨rv,⟨V.ref (s.heap.objs.size+1),H',I3,rfl,q3⟩⟩
  |next=>exact False.elim hq'
  |brk=>exact False.elim hq'
  |cont=>exact False.elim hq'
theorem Jpg (M:Mk X.K C f) (F:Sv X.prog X.w X.K X.mg X.base CX k f fd ps sp) (hr:Sax (k+1) X.A) (hg:Gl X x) (hm:X.mg x=some (.ref C)) (hb:Sbc X.K fd ps ds) (hd:Sy dvs ds) (hx:Jri CX X E)
  (ha:PA X (e::es) t) (hdb:(x==("__debug__" :Str))=false:=by decide) (he:starEach (e::es) X.env=(false,eval e X.env)::starEach es X.env:=by rfl) (hpl:(backTo pos (starEach es X.env)).any (·.1)=false:=by rfl):
  PE X (.Call (.Name x p) (e::es) [] pos) (Ssz C sp dvs E t):=by
 intro pins s σ H Q I h;exact wpAny_Call_Name_kw (Jpy I hg hm (PySem.W.callWith_K I.ok.mod.kin M.kp (thn (ha pos pins s σ H _ I h) λus s1 ⟨vs,H1,I1,r,q⟩=>⟨I1.kIn,Ye9 M F hr hb hd hx I1 r q⟩) he hpl) hdb)
end
section
variable {X:Cx} {CX:CXT} {k:Nat} {f C:S4} {fd:Sb} {ps ks:List Str} {sp:Sp} {E:XK} {x m:Str} {p pos apos kpos:Pos} {e o:Expr} {es:List Expr} {kws:List Keyword} {te ta:TE} {t tk:TA} {nm:Option Str}
variable {g:List S5->List S5->List S5} {gV:List V->List V->List V}
end
structure Jm6 (N P:List Str) (sc:Scope):Prop where
 kind:sc.kind= .function
 co:sc.isCoroutine=false
 gen:sc.isGenerator=false
 nd:N.Nodup
 pre:N.take P.length=P
 par:∀x∈P,sc.names.lookup x=some .local\/sc.names.lookup x=some .cell
 nofree:∀y∈sc.names,y.2≠ .free
theorem Jwr {kindOf}:∀{binds} {m},(∀v,(x,v)∉binds)->bindL kindOf binds m x=m x
 | [],_,_=>rfl
 | (n,v) :: r,m,h=>by
  unfold bindL;rw [Jwr λw hw=>h w (yz _ hw)];split
  ·have:x≠n:=by rintro rfl;exact h v yab
   simp [this]
  ·rfl
theorem Jwp {kindOf}:∀{binds} {m},(∀v,(x,v)∉binds)->bindC kindOf binds m x=m x
 | [],_,_=>rfl
 | (n,v) :: r,m,h=>by
  unfold bindC;rw [Jwp λw hw=>h w (yz _ hw)];split
  ·rfl
  ·have:x≠n:=by rintro rfl;exact h v yab
   simp [this]
theorem Jwq {kindOf:Str->Option NameKind} {x:Str} {v:S5}:∀{P:List Str} {vs:List S5} {i:Nat} {m:Str->Option S5},P.Nodup->P[i]?=some x->vs[i]?=some v->kindOf x=some .local->
  bindL kindOf (P.zip vs) m x=some v
 | [],_,_,_,_,h,_,_=>by simp at h
 |_::_,[],_,_,_,_,h,_=>by simp at h
 |p::P,w::vs,0,m,nd,h1,h2,hk=>by
  simp at h1 h2;subst h1;subst h2;show bindL kindOf ((p,w)::P.zip vs) m p=_;unfold bindL;rw [Jwr λv hv=>(ybi.mp nd).1 (List.of_mem_zip hv).1,if_pos hk];simp
 |p::P,w::vs,i+1,m,nd,h1,h2,hk=>by
  show bindL kindOf ((p,w)::P.zip vs) m x=_;unfold bindL;exact Jwq (i:=i) (ybi.mp nd).2 (by simpa using h1) (by simpa using h2) hk
theorem Jwo {kindOf:Str->Option NameKind} {x:Str} {v:S5}:∀{P:List Str} {vs:List S5} {i:Nat} {m:Str->Option S5},P.Nodup->P[i]?=some x->vs[i]?=some v->kindOf x≠some .local->
  bindC kindOf (P.zip vs) m x=some v
 | [],_,_,_,_,h,_,_=>by simp at h
 |_::_,[],_,_,_,_,h,_=>by simp at h
 |p::P,w::vs,0,m,nd,h1,h2,hk=>by
  simp at h1 h2;subst h1;subst h2;show bindC kindOf ((p,w)::P.zip vs) m p=_;unfold bindC;rw [Jwp λv hv=>(ybi.mp nd).1 (List.of_mem_zip hv).1,if_neg hk];simp
 |p::P,w::vs,i+1,m,nd,h1,h2,hk=>by
  show bindC kindOf ((p,w)::P.zip vs) m x=_;unfold bindC;exact Jwo (i:=i) (ybi.mp nd).2 (by simpa using h1) (by simpa using h2) hk
noncomputable def start (N:List Str) (vs:List V):St:=vs.map some++yae (N.length - vs.length) none
noncomputable def Jz7 (CX:CXT) (P:Sa) (w:Sc) (K:Sg) (mg:Str->Option S5) (base:Se) (N:List Str) (qual:Str) (scope:Scope) (f:S4) (cd:S5) (A:Sd) (outer:List Env) (s:S6) (H:Hp) (E:XK):Cx where
 prog:=P
 w:=w
 K:=K
 mg:=mg
 base:=base
 A:=A.deeper (envOfC qual scope s.heap.objs.size f cd)
 N:=N
 s₀:=s
 H₀:=H
 env:=envOfC qual scope s.heap.objs.size f cd
 outer:=outer
 stack:=envOfC qual scope s.heap.objs.size f cd::outer
 ex:=[]
 calm:=true
 fn:=λ_=>true
 pn:=[]
 xe:=λe s'=>Sf (model P w) (A.deeper (envOfC qual scope s.heap.objs.size f cd)) (leaving (envOfC qual scope s.heap.objs.size f cd) e) (λ_ s''=>CX outer H s E e s'') (λe' s''=>CX outer H s E e' s'') s'
theorem Jz3 {sc:Scope} (h:sc.names.lookup x=some .cell):∃c,(cellsFrom n sc.names []).lookup x=some c:=ycw.mp (PySem.W.cellsFrom_some sc.names n [] (.inl h))
theorem Ybt {K}
  (S:Jm6 N ps scope) (hd:A.handled=none) (e0:Sh1 P w K mg base A outer s H) (hl:vs.length=ps.length) (r:Sy vs us)
  (x:InCallC s s.heap.objs.size (bindL (envOfC qual scope s.heap.objs.size f cd).kindOf (ps.zip us) λ_=>none) (cellsFrom (s.heap.objs.size+1) scope.names []) (bindC (envOfC qual scope s.heap.objs.size f cd).kindOf (ps.zip us) λ_=>none) s1):
  Ss (Jz7 CX P w K mg base N qual scope f cd A outer s H E) [] (start N vs) H s1:=by
 have hpl:=by have:=congrArg List.length S.pre;rw [yaf] at this;omega
 obtain ⟨h1,tk,rfl,hk⟩:=x.done;have noA:∀b:S4,b∉(Jz7 CX P w K mg base N qual scope f cd A outer s H E).ex:=λb z=>absurd (show b∈ [] from z) (by simp);refine ⟨⟨e0.mod,S.kind,rfl,rfl,yg _,λy z c h1 h2=>?_,λy hy=>?_,λy c _ h=>?_,λ_=>hd,Around.frames_deeper e0.frames,.inr ⟨rfl,rfl⟩,λb z=>absurd z (noA b),e0.bs,e0.bsz,λb _ _=>noA b,λb z=>absurd z (noA b),e0.funs,e0.frf⟩,
  rfl,e0.bare,Un.kept hk,⟨_,x.toInCall.ns,λi y v h1 h2 h3=>?_⟩,λy c h=>⟨_,x.cell y c h⟩,e0.hok.fresh (yg _),λy c h=>?_,λp hp=>absurd (show p∈ [] from hp) (by simp),e0.hok.kept hk,?_⟩
 ·exact name_of_addr x.apart (PySem.mem_of_lookup h1) (PySem.mem_of_lookup h2)
 ·have hy:=hy;rcases hy with hy|hy
  ·exact Jz3 hy
  ·exact absurd rfl (S.nofree _ (PySem.mem_of_lookup hy))
 ·exact ycf (x.above y c (PySem.mem_of_lookup h))
 ·have hi:i < vs.length:=by
   unfold start at h2;by_cases hi:i < vs.length
   ·exact hi
   ·rw [List.getElem?_append_right (by simpa using hi)] at h2;rw [List.getElem?_replicate] at h2;split at h2 <;> cases h2
  have ha:vs[i]?=some v:=by
   unfold start at h2;rw [List.getElem?_append_left (by simpa using hi),ym] at h2;cases e:vs[i]? with
   |none=>rw [e] at h2;cases h2
   |some a=>rw [e] at h2;cases h2;rfl
  obtain ⟨u,hu,rv⟩:=r.get ha;have hp:ps[i]?=some y:=by
   rw [<-S.pre,List.getElem?_take_of_lt (by omega)];exact h1
  have ndP:ps.Nodup:=by rw [<-S.pre];exact S.nd.sublist (List.take_sublist _ _)
  refine ⟨u,rv,?_⟩;rcases S.par y (yr hp) with k|k
  ·exact .inl ⟨k,Jwq ndP hp hu k⟩
  ·obtain ⟨c,e⟩:=Jz3 k;refine .inr ⟨.inl k,c,e,?_⟩;have q:=x.cell y c e;rw [Jwo ndP hp hu (by show scope.names.lookup y≠_;rw [k];decide)] at q;exact q
 ·exact .inl (e0.hok.fresh (ycf (x.above y c (PySem.mem_of_lookup h))))
 ·unfold start;show _=N.length;rw [yad,ye,ycl];omega
theorem Skt {K} {kV oc}
  (lk:K.lookup f=some ⟨oc,od,.func (PySem.W.fnOf name qual params body scope dV kV doc pm an cdv ct),osl⟩) (hcd:PySem.W.codeIn K cdv qual=true) (S:Jm6 N ps scope)
  (len:∀vs H Q E,sp vs H Q E->vs.length=ps.length)
  (hbody:∀A outer s H vs Q E,Sax k (A.deeper (envOfC qual scope s.heap.objs.size f cdv))->sp vs H Q E->
   ∃t,PSs (Jz7 CX P w K mg base N qual scope f cdv A outer s H E) body t/\t {nx:=λ_ H'=>Q .non H',rt:=Q} (start N vs) H):
  Sv P w K mg base CX (k+1) f (PySem.W.fnOf name qual params body scope dV kV doc pm an cdv ct) ps sp:=by
 refine ⟨len,λA outer s H args us vs Q E hr e0 hb r hsp=>?_⟩;have KX:=e0.mod.kin.keeps λb o e=>(e0.bs b o e).1;have hkind:∀y∈ps.zip us,scope.names.lookup y.1=some .local\/(scope.names.lookup y.1=some .cell/\((cellsFrom (s.heap.objs.size+1) scope.names []).lookup y.1).isSome=true):=λ⟨n,v⟩ hy=>by
  rcases S.par n (List.of_mem_zip hy).1 with q|q
  ·exact .inl q
  ·exact .inr ⟨q,PySem.W.cellsFrom_some _ _ _ (.inl q)⟩
 refine codeAny_call_function hr.depth (KX _ _ lk) rfl S.co S.gen rfl (PySem.W.codeRec_of KX hcd) (hb _ _ _ _ (wpAny_newFunctionEnv_cells S.kind hkind λenv he s1 x=>?_));subst he;refine ⟨(e0.mod.nolimit.keeps λb o e=>(e0.bs b o e).1).keeps x.toInCall.keep,codeAny_func ?_⟩;obtain ⟨t,ht,hq⟩:=hbody A outer s H vs Q E (hr.deeper _) hsp;have I:Ss (Jz7 CX P w K mg base N qual scope f cdv A outer s H E) [] (start N vs) H s1:=Ybt S hr.hd e0 (len _ _ _ _ hsp) r x;refine wpAny_mono (ht [] s1 (start N vs) H _ I hq) (λfl s' hs=>?_) λe s' hs=>hs;have fin:∀{σ':St} {H':Hp} {v:V} {u:S5},Ss (Jz7 CX P w K mg base N qual scope f cdv A outer s H E) [] σ' H' s'->Sw v u->Q v H'->CE outer P w H s Q u s':=
  λ{σ' H' v u} J rv q=>⟨v,H',J.os,J.bare,J.base,J.hok,rv,q⟩
 cases fl with
 |ret u=>
  obtain ⟨v,σ',H',J,rv,q⟩:=hs;exact fin J rv q
 |next=>
  obtain ⟨σ',H',J,q⟩:=hs;exact fin (v:=V.non) J rfl q
 |brk=>
  obtain ⟨_,_,_,q⟩:=hs;exact False.elim q
 |cont=>
  obtain ⟨_,_,_,q⟩:=hs;exact False.elim q
section
variable {X:Cx} {x:Str} {p pos:Pos} {e:Expr} {es:List Expr} {t:TA} {id T:String} {r:List V->Hp->VK->Prop}
noncomputable def tCB (r:List V->Hp->VK->Prop) (t:TA):TE:=λσ H Q=>t σ H λvs H1=>r vs H1 Q
theorem Jm8 (hc:Jnm X (.builtin id) r) (hg:Gl X x) (hm:X.mg x=none) (hv:bootBuiltins x=some (.builtin id)) (ha:PA X (e::es) t) (hn:x≠"__name__" :=by decide) (hdb:(x==("__debug__" :Str))=false:=by decide)
  (he:starEach (e::es) X.env=(false,eval e X.env)::starEach es X.env:=by rfl) (hpl:(backTo pos (starEach es X.env)).any (·.1)=false:=by rfl):PE X (.Call (.Name x p) (e::es) [] pos) (tCB r t):=by
 intro pins s σ H Q I h;exact wpAny_Call_Name_kw (Jpx I hg hm hv (PyProof.Rows.callWith_builtin1 (thn (ha pos pins s σ H _ I h) λus s1 ⟨vs,H1,I1,r1,q1⟩=>hc pins s1 σ H1 vs us Q I1 r1 q1) he hpl) hn hdb)
theorem Jms (hc:Jnm X (.type T) r) (hg:Gl X x) (hm:X.mg x=none) (hv:bootBuiltins x=some (.type T)) (ha:PA X (e::es) t) (hn:x≠"__name__" :=by decide) (hdb:(x==("__debug__" :Str))=false:=by decide)
  (he:starEach (e::es) X.env=(false,eval e X.env)::starEach es X.env:=by rfl) (hpl:(backTo pos (starEach es X.env)).any (·.1)=false:=by rfl):PE X (.Call (.Name x p) (e::es) [] pos) (tCB r t):=by
 intro pins s σ H Q I h;exact wpAny_Call_Name_kw (Jpx I hg hm hv (PyProof.Rows.callWith_type1 (thn (ha pos pins s σ H _ I h) λus s1 ⟨vs,H1,I1,r1,q1⟩=>hc pins s1 σ H1 vs us Q I1 r1 q1) he hpl) hn hdb)
end
end L2
namespace HT
open PySem PyProof.Rows
section
open PySem.SeqAt
open PySem.AutoSeq1 (wpAny_loadPart')
open PySem.MeetsSeq PySem.MeetsSeq2 PySem.MeetsSeq3
end
section
variable {prog:Sa} {w:Sc} {A:Sd} {E:S5->S6->Prop} {s:S6}
theorem cat_tup (ht:IsTup s.heap t vs.toArray) (hb:IsTup s.heap b ws.toArray) (hv:vs≠ [])
  (h1:ws= []->Q (.ref t) s) (h2:ws≠ []->Q (.ref s.heap.objs.size) {s with heap:=s.heap.push {cls:=.type "tuple",data:=.seq (vs++ws).toArray}})
  (hsz:vs.length+ws.length<=S9):Sf (model prog w) A (binaryOp .Add (.ref t) (.ref b)) Q E s:=by
 obtain ⟨⟨cls,dd,data,sl⟩,ho,hc,n,hd⟩:=id ht;obtain ⟨⟨cls2,dd2,data2,sl2⟩,ho2,hc2,n2,hd2⟩:=id hb;subst hc hd hc2 hd2;have e:vs.toArray++ws.toArray=(vs++ws).toArray:=by simp
 by_cases hw:ws= []
 ·exact concat_meets ⟨_,ho,rfl⟩ ⟨_,ho2,rfl⟩ noFill_tuple_add seq_tuple_add PySem.F.slot_tuple_add PySem.F.entry_tuple_add (PySem.F.args_tuple_add_2 _ _)
   (tuple_addW1 t b vs.toArray ws.toArray n n2 dd dd2 sl sl2 (by simpa using hv) (by simp [hw])) ⟨ho,ho2,h1 hw⟩
 ·refine concat_meets ⟨_,ho,rfl⟩ ⟨_,ho2,rfl⟩ noFill_tuple_add seq_tuple_add PySem.F.slot_tuple_add PySem.F.entry_tuple_add (PySem.F.args_tuple_add_2 _ _)
   (tuple_addW2 t b vs.toArray ws.toArray n n2 dd dd2 sl sl2 (by simpa using hv) (by simpa using hw) (by rw [yw];exact hsz)) ⟨ho,ho2,?_⟩
  rw [e];exact h2 hw
noncomputable def sIx (n d:Nat):Option Int->Nat
 |none=>d
 |some v=>if v < 0 then (v+(n:Int)).toNat else min v.toNat n
theorem sIx_none (n d):sIx n d none=d:=rfl
theorem sIx_nat (n d k:Nat):sIx n d (some k)=min k n:=rfl
theorem Yah (v:Int) (n d:Nat):(if v < 0 then max (v+n) 0 else min v n)=((sIx n d (some v):Nat):Int):=by
 show (if v < 0 then max (v+n) 0 else min v n)=(if v < 0 then (v+n).toNat else min v.toNat n);by_cases hv:v < 0
 ·simp only [if_pos hv];omega
 ·simp only [if_neg hv];omega
theorem Y1 (lo hi) (n:Nat):Builtin.Slice.sliceAdjust lo hi 1 (n)=(((sIx n 0 lo:Nat):Int),(sIx n n hi:Int)):=by
 refine Prod.ext ?_ ?_
 ·cases lo with
  |none=>rfl
  |some v=>exact Yah v n 0
 ·cases hi with
  |none=>rfl
  |some v=>exact Yah v n n
theorem Yy (i j:Nat):Builtin.Slice.slicePlaces (i) (j) 1=j - i:=by
 unfold Builtin.Slice.slicePlaces;split <;> omega
theorem Jvx (p:IsPart v o) (h:Q o s):Sf (model prog w) A (Builtin.Slice.slicePartIndex v) Q E s:=by
 cases p with
 |none=>exact slicePart_none h
 |int i t=>exact slicePart_int h
theorem Jtl {lo hi} {n:Nat} {Q} (hs:s.heap.IsSliceOf sl vl vu .none) (pl:IsPart vl lo) (pu:IsPart vu hi)
  (h:Q (((sIx n 0 lo:Nat):Int),1,sIx n n hi - sIx n 0 lo) s):Sf (model prog w) A (Builtin.Slice.sliceApplied (.ref sl) (pure n)) Q E s:=by
 obtain ⟨os,hos,hcs,hds⟩:=id hs;refine S7 (S7 (wpAny_field hos hds rfl (S7 (wpAny_field hos hds rfl (S7 (wpAny_field hos hds rfl (S8 (S7 (slicePart_none (S7 (Jvx pl (S7 (Jvx pu (S7 (S8 ?_)))))))))))))));show Sf _ _ (match Builtin.Slice.sliceAdjust lo hi 1 n with|(lo,hi)=>pure (lo,(1:Int),Builtin.Slice.slicePlaces lo hi 1)) _ _ s;rw [Y1 lo hi n];show Sf _ _ (pure ((sIx n 0 lo:Int),1,Builtin.Slice.slicePlaces (sIx n 0 lo) (sIx n n hi) 1)) _ _ s;rw [Yy];exact S8 h
theorem Ydr (xs:Array S5) (i k:Nat):((yaw k).filterMap λ(m:Nat)=>xs[((i:Int)+m*1).toNat]?).toArray=((xs.toList.drop i).take k).toArray:=by
 have e:(λ(m:Nat)=>xs[((i:Int)+m*1).toNat]?)=λm=>xs[i+m]?:=by
  funext m;have:((i:Int)+m*1).toNat=i+m:=by omega
  rw [this]
 rw [e];have:=pick_run xs i k;rw [List.filterMap_map] at this;have e2:((λx=>xs[x]?)∘λx=>i+x)=λm=>xs[i+m]?:=rfl;rw [e2] at this;rw [this]
theorem getItem_tuple_cut {items} {vl vu} {lo hi} {Q} (ht:IsTup s.heap t items) (hs:s.heap.IsSliceOf sl vl vu .none) (pl:IsPart vl lo) (pu:IsPart vu hi)
  (hw:¬(sIx items.size 0 lo=0/\sIx items.size items.size hi=items.size))
  (h:Q (.ref s.heap.objs.size) {s with heap:=s.heap.push {cls:=.type "tuple",data:=.seq ((items.toList.drop (sIx items.size 0 lo)).take (sIx items.size items.size hi - sIx items.size 0 lo)).toArray}})
  (hsz:items.size<=S9):Sf (model prog w) A (getItem (.ref t) (.ref sl)) Q E s:=by
 have htake:=by
  show ((items.toList.drop (sIx items.size 0 lo)).take (sIx items.size items.size hi - sIx items.size 0 lo)).toArray.size<=S9;rw [yw,yaf,ybq,ybv];omega
 obtain ⟨os,hos,hcs,hds⟩:=id hs;have hTs:s.TypeIs (.ref sl) "slice" :=⟨os,hos,hcs⟩;unfold getItem
 try with_reducible refine wpAny_holding ?_
 refine S7 (wpAny_sequenceKey ht.typeIs (by decide) (S7 (wpAny_callSpecial?_slot ht.typeIs PyProof.Rows.slot_tuple_getitem
  (wpAny_call_entry PyProof.Rows.slot_tuple_getitem ht.typeIs entry_tuple_getitem ?_ (args_tuple_getitem _ _)))))
 show Sf _ _ (Builtin.Tuple.tupleItemsOf (.ref t) >>=_) _ _ s;refine S7 (tupleItemsOf_ ht (S7 (wpAny_typeOf hTs (S7 (Jtl hs pl pu ?_)))));have hno:¬(((sIx items.size 0 lo:Int)==0&&(1:Int)==1&&(sIx items.size items.size hi - sIx items.size 0 lo)==items.size)=true):=by
  intro q;rw [yan,yan] at q;have q1:=eq_of_beq q.1.1;have q2:=eq_of_beq q.2;exact hw ⟨by omega,by omega⟩
 show Sf _ _ (if ((sIx items.size 0 lo:Int)==0&&1==1&&(sIx items.size items.size hi - sIx items.size 0 lo)==items.size)=true then _ else _) _ _ s;rw [if_neg hno,Ydr]
 first
  |exact S7 (wpAny_newObj_type (S8 ⟨_,rfl,S8 h⟩) htake)
  |exact S7 (wpAny_newObj_type (S7 (S8 (S8 ⟨_,rfl,S8 h⟩))) htake)
  |exact S7 (S7 (wpAny_newObj_type (S8 (S8 ⟨_,rfl,S8 h⟩)) htake))
  |exact S7 (S7 (wpAny_newObj_type (S8 ⟨_,rfl,S8 h⟩) htake))
end
end HT
namespace L2
open PySem PySem.Spec PyProof.Rows
noncomputable abbrev TO:=St->Hp->(Option Int->Hp->Prop)->Prop
noncomputable def PO (X:Cx) (e:Option Expr) (t:TO):Prop:=
 ∀(pins:List (S4×Obj)) (s:S6) (σ:St) (H:Hp) (Q:Option Int->Hp->Prop),Ss X pins σ H s->t σ H Q->
  Sf (model X.prog X.w) X.A (evalPart e X.env) (λu s'=>∃o H',Ss X pins σ H' s'/\IsPart u o/\Q o H') X.xe s
noncomputable def Yh2:TO:=λ_ H Q=>Q none H
inductive Yh3 (Q:(Option Int->Hp->Prop)) (x:V) (H1:Hp):Prop where
 |mk (i:_) (_:x= .int i) (_:Q (some i) H1)
noncomputable def St1 (t:TE):TO:=λσ H Q=>t σ H (Yh3 Q)
section
variable {X:Cx} {e:Expr} {te:TE} {lo hi:Option Expr} {tl th:TO} {pos p2:Pos}
theorem Jsh:PO X none Yh2:=by
 intro pins s σ H Q I h;exact S8 ⟨none,H,I,.none,h⟩
theorem Jon (h:PE X e te):PO X (some e) (St1 te):=by
 intro pins s σ H Q I hw;refine thn (h pins s σ H _ I hw) λu s1 zq=>?_;obtain ⟨x,H1,I1,r1,q1⟩:=zq;obtain ⟨i,rfl,q⟩:=q1;obtain ⟨t,rfl⟩:=r1;exact ⟨some i,H1,I1,.int i t,q⟩
noncomputable def SlR (X:Cx) (r:V->Option Int->Option Int->Hp->VK->Prop):Prop:=
 ∀(pins:List (S4×Obj)) (s:S6) (σ:St) (H:Hp) (x:V) (v vl vu:S5) (lo hi:Option Int) (sl:S4) (Q:VK),Ss X pins σ H s->Sw x v->s.heap.IsSliceOf sl vl vu .none->IsPart vl lo->IsPart vu hi->r x lo hi H Q->
  ∃T id,typeLookup (.type T) "__getitem__" =pure (some (.builtin id))/\s.TypeIs v T/\Sf (model X.prog X.w) X.A (getItem v (.ref sl)) (EP X pins σ Q) X.xe s
noncomputable def tSl (r:V->Option Int->Option Int->Hp->VK->Prop) (te:TE) (tl th:TO):TE:=λσ H Q=>te σ H λx H1=>tl σ H1 λl H2=>th σ H2 λu H3=>r x l u H3 Q
theorem Jov (hr:SlR X r) (he:PE X e te) (hl:PO X lo tl) (hu:PO X hi th):PE X (.Subscript e (.Slice lo hi none p2) pos) (tSl r te tl th):=by
 intro pins s σ H Q I h;refine Subscript_ (thn (he pins s σ H _ I h) λv s1 ⟨x,H1,I1,r1,q1⟩=>wpAny_Slice (thn (hl pins s1 σ H1 _ I1 q1) λvl s2 ⟨l,H2,I2,pl,q2⟩=>thn (hu pins s2 σ H2 _ I2 q2) λvu s3 ⟨u,H3,I3,pu,q3⟩=>S8 ?_));have I4:Ss X pins σ H3 {s3 with heap:=s3.heap.push {cls:=.type "slice",data:=.fields #[vl,vu,.none]}}:=I3.kept λb ob q=>yn _ q;obtain ⟨T,id,hT,ht,hg⟩:=hr pins {s3 with heap:=s3.heap.push {cls:=.type "slice",data:=.fields #[vl,vu,.none]}} σ H3 x v vl vu l u s3.heap.objs.size Q I4 r1 (Heap.IsSliceOf.new ..) pl pu q3;exact tail_any ht hT hg (by with_unfolding_all rfl)
noncomputable def Jpp (xs:List V) (lo hi:Option Int):List V:=(xs.drop (HT.sIx xs.length 0 lo)).take (HT.sIx xs.length xs.length hi - HT.sIx xs.length 0 lo)
theorem Jtn (xs) (lo hi):(Jpp xs lo hi).length<=xs.length:=by
 unfold Jpp;rw [yaf,ybq];omega
inductive Syf (K:Sg) (x:V) (lo:Option Int) (hi:Option Int) (H:Hp) (Q:VK):Prop where
 |mk (a:_) (xs:_) (_:x= .ref a) (_:SqT K H a xs) (_:¬(HT.sIx xs.length 0 lo=0/\HT.sIx xs.length xs.length hi=xs.length)) (_:∀p,H p=none->Q (.ref p) (upd H p (.tup (Jpp xs lo hi))))
theorem Snr:SlR X (Syf X.K):=by
 intro pins s σ H x v vl vu lo hi sl Q I rx hs pl pu h;obtain ⟨a,xs,rfl,hx,hw,q⟩:=h;cases rx;obtain ⟨its,r,ht,hz⟩:=I.tuple hx;have hlen:its.toArray.size=xs.length:=by rw [yw];exact r.length.symm
 refine ⟨"tuple",_,PyProof.Rows.slot_tuple_getitem.lookup,ht.typeIs,HT.getItem_tuple_cut ht hs pl pu (by rw [hlen];exact hw) ?_ (by rw [hlen];exact hz)⟩;rw [hlen];refine ⟨.ref s.heap.objs.size,_,I.laid (λb ob q=>yn _ q) (yg _) ?_,rfl,q _ (I.hok.fresh (yg _))⟩;exact ⟨yai (Jtn xs lo hi) hz,_,(r.drop (HT.sIx xs.length 0 lo)).take (HT.sIx xs.length xs.length hi - HT.sIx xs.length 0 lo),IsTup.new _ _⟩
inductive Ss4 (K:Sg) (x:V) (y:V) (H:Hp) (Q:VK):Prop where
 |mk (a:_) (b:_) (xs:_) (ys:_) (_:x= .ref a) (_:y= .ref b) (_:SqT K H a xs) (_:SqT K H b ys) (_:xs≠ []) (_:xs.length+ys.length<=S9) (_:(ys= []->Q (.ref a) H)) (_:(ys≠ []->∀p,H p=none->Q (.ref p) (upd H p (.tup (xs++ys)))))
theorem Sy.nil_iff (r:Sy xs us):us= []↔xs= []:=by
 cases r with
 |nil=>simp
 |cons _ _=>simp
theorem Yfx:OpR X (binaryOp .Add) (Ss4 X.K):=by
 rintro pins s σ H x y v u Q I rx ry ⟨a,b,xs,ys,rfl,rfl,ha,hb,hx,hz,q1,q2⟩;cases rx;cases ry;obtain ⟨its,r1,p1,_⟩:=I.tuple ha;obtain ⟨its2,r2,p2,_⟩:=I.tuple hb;refine HT.cat_tup p1 p2 (λz=>hx (r1.nil_iff.mp z)) (λz=>⟨.ref a,H,I,rfl,q1 (r2.nil_iff.mp z)⟩) (λz=>⟨.ref s.heap.objs.size,_,I.laid (λb ob q=>yn _ q) (yg _) ?_,rfl,q2 (λw=>z (r2.nil_iff.mpr w)) _ (I.hok.fresh (yg _))⟩) (by rw [<-r1.length,<-r2.length];exact hz);exact ⟨by rw [yad];exact hz,_,r1.append r2,IsTup.new _ _⟩
end
noncomputable def ixN (n:Nat) (i:Int):Option Nat:=if 0<=i then (if i < n then some i.toNat else none) else if -(n:Int)<=i then some (i+n).toNat else none
noncomputable def atI {α:Type} (xs:List α) (i:Int):Option α:=(ixN xs.length i).bind λj=>xs[j]?
theorem Yaq (h:ixN n i=some j):seqIndex? i n=some j/\j < n/\ -(n)<=i/\i < n:=by
 unfold ixN at h;by_cases h0:0<=i
 ·rw [if_pos h0] at h;by_cases h1:i < n
  ·rw [if_pos h1] at h;have e:=yac.inj h;exact ⟨by rw [seqIndex_of h0 h1,e],by omega,by omega,h1⟩
  ·rw [if_neg h1] at h;cases h
 ·rw [if_neg h0] at h;by_cases h1: -n<=i
  ·rw [if_pos h1] at h;have e:=yac.inj h;exact ⟨by rw [seqIndex_neg (by omega) h1,e],by omega,h1,by omega⟩
  ·rw [if_neg h1] at h;cases h
theorem Ju9 (h:atI xs i=some v):∃j,seqIndex? i xs.length=some j/\xs[j]?=some v/\j < xs.length/\ -(xs.length:Int)<=i/\i < xs.length:=by
 unfold atI at h;cases e:ixN xs.length i with
 |none=>rw [e] at h;cases h
 |some j=>
  rw [e] at h;obtain ⟨h1,h2,h3,h4⟩:=Yaq e;exact ⟨j,h1,h,h2,h3,h4⟩
theorem Js1 {j:Nat} (h:xs[j]?=some v):atI xs (j)=some v:=by
 have hj:=(yi.mp h).1;have e:ixN xs.length j=some j:=by
  unfold ixN;rw [if_pos (by omega),if_pos (by omega)];simp
 unfold atI;rw [e];exact h
noncomputable def Yf5 (b:Expr):Prop:=∀o i,subscripted b false o i=operate [o,i] (getItem o i)
noncomputable def IxR (X:Cx) (r:R2):Prop:=
 ∀(value slice:Expr) (pins:List (S4×Obj)) (s:S6) (σ:St) (H:Hp) (x y:V) (v u:S5) (Q:VK),Ss X pins σ H s->Sw x v->Sw y u->r x y H Q->
  subscripted slice false v u=operate [v,u] (getItem v u)->Sf (model X.prog X.w) X.A (subscriptTail value slice v u) (EP X pins σ Q) X.xe s
noncomputable def MtR (X:Cx) (id:String) (r:V->List V->Hp->VK->Prop):Prop:=
 ∀(pins:List (S4×Obj)) (s:S6) (σ:St) (H:Hp) (x:V) (xs:List V) (v:S5) (us:List S5) (Q:VK),Ss X pins σ H s->Sw x v->Sy xs us->r x xs H Q->
  Sf (model X.prog X.w) X.A (call (.builtin id) (v::us)) (EP X pins σ Q) X.xe s
section
variable {X:Cx} {a b:Expr} {ta tb:TE} {pos:Pos}
theorem Jmf (hr:IxR X r) (ha:PE X a ta) (hb:PE X b tb) (hs:Yf5 b):PE X (.Subscript a b pos) (tOp r ta tb):=by
 intro pins s σ H Q I h;exact Subscript_ (Sm9 ha hb I h λv u s2 x y H2 I2 rx ry q=>hr a b pins s2 σ H2 x y v u Q I2 rx ry q (hs _ _))
inductive Syc (K:Sg) (x:V) (y:V) (H:Hp) (Q:VK):Prop where
 |mk (p:_) (xs:_) (i:_) (v:_) (_:x= .ref p) (_:y= .int i) (_:Sz K H p xs) (_:atI xs i=some v) (_:Q v H)
inductive Ss9 (K:Sg) (x:V) (y:V) (H:Hp) (Q:VK):Prop where
 |mk (p:_) (xs:_) (i:_) (v:_) (_:x= .ref p) (_:y= .int i) (_:SqT K H p xs) (_:atI xs i=some v) (_:Q v H)
inductive Syd (x:V) (y:V) (H:Hp) (Q:VK):Prop where
 |mk (z:_) (i:_) (c:_) (_:x= .str z) (_:y= .int i) (_:z.length<=S9) (_:atI z.cps.toList i=some c) (_:Q (.str ⟨#[c]⟩) H)
theorem Jn2:IxR X (Syc X.K):=by
 rintro value slice pins s σ H x y v u Q I rx ry ⟨p,xs,i,z,rfl,rfl,hq,he,q⟩ hs;cases rx;obtain ⟨t,rfl⟩:=ry;obtain ⟨its,r,pl,hz⟩:=I.list hq;obtain ⟨j,h1,h2,h3,h4,h5⟩:=Ju9 he;obtain ⟨w,ew,rw'⟩:=r.get h2;have hl:=r.length;have hn:=Jrm;have fin:EP X pins σ Q w s:=⟨z,H,I,rw',q⟩;by_cases h0:0<=i
 ·have hj:=by
   rw [seqIndex_of h0 h5] at h1;exact yac.inj h1
  exact item_listR pl.isList h0 (by omega) (by rw [hj];simpa using ew) fin hs
 ·have hj:(i+its.toArray.size).toNat=j:=by
   rw [seqIndex_neg (by omega) h4] at h1;rw [yw,<-hl];exact yac.inj h1
  exact subscriptTail_builtinR pl.isList.typeIs slot_list_getitem.lookup
   (wpAny_getItem_list_neg pl.isList (by omega) (by rw [yw] <;> omega) (by omega) (by rw [hj];simpa using ew) ⟨rfl,fin⟩) hs
theorem Jmk:IxR X (Ss9 X.K):=by
 rintro value slice pins s σ H x y v u Q I rx ry ⟨p,xs,i,z,rfl,rfl,hq,he,q⟩ hs;cases rx;obtain ⟨t,rfl⟩:=ry;obtain ⟨its,r,pl,hz⟩:=I.tuple hq;obtain ⟨j,h1,h2,h3,h4,h5⟩:=Ju9 he;obtain ⟨w,ew,rw'⟩:=r.get h2;have hn:=Jrm;have fin:EP X pins σ Q w s:=⟨z,H,I,rw',q⟩;exact subscriptTail_builtinR pl.typeIs slot_tuple_getitem.lookup
  (getItem_tuple pl (by omega) (by omega) (by rw [yw,<-r.length];exact h1) (by simpa using ew) ⟨rfl,fin⟩) hs
theorem Yg:IxR X Syd:=by
 rintro value slice pins s σ H x y v u Q I rx ry ⟨z,i,c,rfl,rfl,hz,he,q⟩ hs;obtain ⟨t,rfl⟩:=rx;obtain ⟨t',rfl⟩:=ry;obtain ⟨j,h1,h2,h3,h4,h5⟩:=Ju9 he;have hl:z.cps.toList.length=z.length:=by simp [Str.length]
 rw [hl] at h1 h4 h5;have hn:=Jrm;exact tail_any (typeIs_str s z t) slot_str_getitem.lookup (getItem_str (by
  have e1:decide (i < -2^63)=false:=decide_eq_false (by omega);have e2:decide (i≥2^63)=false:=decide_eq_false (by omega);rw [e1,e2,Bool.or_false]) (by rw [h1];simpa using h2) ⟨.str ⟨#[c]⟩,H,I.tok _,⟨_,rfl⟩,q⟩) hs
theorem Ym (its:List S5) (n j) (u):Obj.mapSeq (·.setIfInBounds j u) {cls:=.type "list",data:=.seq its.toArray n}={cls:=.type "list",data:=.seq (its.set j u).toArray n}:=by
 simp [Obj.mapSeq]
theorem Ss.lst (I:Ss X pins σ H s) (h:H p=some (.lst xs)):
  ∃(its:List S5) (n:Nat),Sy xs its/\s.heap.get? p=some {cls:=.type "list",data:=.seq its.toArray n}/\xs.length<=S9:=by
 obtain ⟨z,its,n,r,e⟩:=I.hok p _ h;exact ⟨its,n,r,e,z⟩
theorem Ss.lstUpd {σ:St} {H} {s} {p} {xs ys} {its its':List S5} {n n'} {f} (I:Ss X pins σ H s) (h:H p=some (.lst xs))
  (ho:s.heap.get? p=some {cls:=.type "list",data:=.seq its.toArray n}) (hf:f {cls:=.type "list",data:=.seq its.toArray n}={cls:=.type "list",data:=.seq its'.toArray n'}) (r:Sy ys its') (hz:ys.length<=S9) (t):
  Ss X pins σ (upd H p (.lst ys)) {s with heap:=s.heap.update p f,toks:=t}:=by
 have e:(s.heap.update p f).get? p=some {cls:=.type "list",data:=.seq its'.toArray n'}:=by
  rw [ycg f ho (by rw [hf] <;> rfl),hf]
 refine I.write (by rw [h];trivial) (.inl rfl) (λb u hb q=>(ybr _ _ (yx hb)).trans q) ⟨_,e⟩ ?_;exact ⟨hz,its',n',r,e⟩
inductive Ssa (o:V) (i:V) (v:V) (H:Hp) (Q:(Hp->Prop)):Prop where
 |mk (p:_) (xs:_) (k:_) (j:_) (_:o= .ref p) (_:i= .int k) (_:H p=some (.lst xs)) (_:ixN xs.length k=some j) (_:Q (upd H p (.lst (xs.set j v))))
theorem Jsp:Sm3 X Ssa:=by
 rintro pins s σ H o i v ov iv u Q I ro ri rv ⟨p,xs,k,j,rfl,rfl,hp,hj,q⟩;cases ro;obtain ⟨t,rfl⟩:=ri;obtain ⟨its,n,r,ho,hz⟩:=I.lst hp;obtain ⟨h1,h2,h3,h4⟩:=Yaq hj;have hl:=r.length;have hn:=Jrm;have I':=
  I.lstUpd hp ho (Ym its n j u) (r.set rv j) (by rw [ybx];exact hz) s.toks
 by_cases h0:0<=k
 ·have hk:=by
   rw [seqIndex_of h0 h4] at h1;exact yac.inj h1
  exact PySem.W.ki_setAt ho h0 (by omega) (by rw [yw,<-hl];exact h4) (by rw [hk];exact ⟨_,I',q⟩)
 ·have hk:(k+its.toArray.size).toNat=j:=by
   rw [seqIndex_neg (by omega) h3] at h1;rw [yw,<-hl];exact yac.inj h1
  exact PySem.W.ki_setBack ho (by omega) (by rw [yw,<-hl];exact h3) (by omega) (by rw [hk];exact ⟨_,I',q⟩)
theorem Jyl (lo hi) (n):(sliceBounds lo hi none n).1=((HT.sIx n 0 lo:Nat):Int)/\(sliceBounds lo hi none n).2.1=((HT.sIx n n hi:Nat):Int)/\(sliceBounds lo hi none n).2.2=1:=by
 refine ⟨?_,?_,rfl⟩
 ·cases lo with
  |none=>simp [sliceBounds,HT.sIx]
  |some i=>
   simp only [sliceBounds,HT.sIx,Option.getD_none,show (1:Int) > 0 by decide,if_true];by_cases h:i < 0
   ·simp only [h,if_true] <;> omega
   ·simp only [h,if_false] <;> omega
 ·cases hi with
  |none=>simp [sliceBounds,HT.sIx]
  |some i=>
   simp only [sliceBounds,HT.sIx,Option.getD_none,show (1:Int) > 0 by decide,if_true];by_cases h:i < 0
   ·simp only [h,if_true] <;> omega
   ·simp only [h,if_false] <;> omega
theorem Jwk (its:List S5) (lo hi):slicePick its.toArray lo hi none=((its.drop (HT.sIx its.length 0 lo)).take (HT.sIx its.length its.length hi - HT.sIx its.length 0 lo)).toArray:=by
 obtain ⟨h1,h2,h3⟩:=Jyl lo hi its.toArray.size;unfold slicePick;rw [h1,h2,h3];simp only [sliceRange_one,pick_run] <;> rfl
inductive Ssb (K:Sg) (x:V) (lo:Option Int) (hi:Option Int) (H:Hp) (Q:VK):Prop where
 |mk (a:_) (xs:_) (_:x= .ref a) (_:Sz K H a xs) (_:∀p,H p=none->Q (.ref p) (upd H p (.lst (Jpp xs lo hi))))
theorem Juk:SlR X (Ssb X.K):=by
 intro pins s σ H x v vl vu lo hi sl Q I rx hs pl pu h;obtain ⟨a,xs,rfl,hx,q⟩:=h;cases rx;obtain ⟨its,r,ht,hz⟩:=I.list hx;have hlen:=r.length;refine ⟨"list",_,slot_list_getitem.lookup,ht.isList.typeIs,wpAny_getItem_list_slice ht.isList hs pl pu .none (by simp) ?_ (by rw [yw] <;> omega)⟩;rw [Jwk,<-hlen];refine ⟨.ref s.heap.objs.size,_,I.laid (λb ob q=>yn _ q) (yg _) ?_,rfl,q _ (I.hok.fresh (yg _))⟩;exact ⟨yai (Jtn xs lo hi) hz,_,0,(r.drop (HT.sIx xs.length 0 lo)).take (HT.sIx xs.length xs.length hi - HT.sIx xs.length 0 lo),yt _ rfl⟩
noncomputable def Js6:V->Bool
 | .non=>true
 | .bl _=>true
 | .int _=>true
 | .str _=>true
 |_=>false
noncomputable def eqV:V->V->Bool
 | .non,.non=>true
 | .bl a,.bl b=>a==b
 | .bl a,.int b=>(if a then 1 else 0)==b
 | .int a,.bl b=>a==(if b then 1 else 0)
 | .int a,.int b=>a==b
 | .str a,.str b=>a==b
 |_,_=>false
theorem Smn (ry:Sw y u) (rx:Sw x v) (fy:Js6 y=true) (fx:Js6 x=true):SeqAt.EqAt A s u v (eqV y x):=by
 cases y with
 |non=>
  cases ry;cases x with
  |non=>cases rx;exact SeqAt.EqAt.same _
  |bl b=>cases rx;exact SeqAt.EqAt.none_bool b
  |int b=>obtain ⟨t,rfl⟩:=rx;exact SeqAt.EqAt.none_int b t
  |str b=>obtain ⟨t,rfl⟩:=rx;exact SeqAt.EqAt.none_str b t
  |_=>exact absurd (fx) yak
 |bl a=>
  cases ry;cases x with
  |non=>cases rx;exact SeqAt.EqAt.bool_none a
  |bl b=>cases rx;exact SeqAt.EqAt.bool_bool a b
  |int b=>obtain ⟨t,rfl⟩:=rx;exact SeqAt.EqAt.bool_int a b t
  |str b=>obtain ⟨t,rfl⟩:=rx;exact SeqAt.EqAt.bool_str a b t
  |_=>exact absurd (fx) yak
 |int a=>
  obtain ⟨t',rfl⟩:=ry;cases x with
  |non=>cases rx;exact SeqAt.EqAt.int_none a t'
  |bl b=>cases rx;exact SeqAt.EqAt.int_bool a t' b
  |int b=>obtain ⟨t,rfl⟩:=rx;exact SeqAt.EqAt.int_int a t' b t
  |str b=>obtain ⟨t,rfl⟩:=rx;exact SeqAt.EqAt.int_str a t' b t
  |_=>exact absurd (fx) yak
 |str a=>
  obtain ⟨t',rfl⟩:=ry;cases x with
  |non=>cases rx;exact SeqAt.EqAt.str_none a t'
  |bl b=>cases rx;exact SeqAt.EqAt.str_bool a t' b
  |int b=>obtain ⟨t,rfl⟩:=rx;exact SeqAt.EqAt.str_int a t' b t
  |str b=>obtain ⟨t,rfl⟩:=rx;exact SeqAt.EqAt.str_str a t' b t
  |_=>exact absurd (fx) yak
 |_=>exact absurd (fy) yak
noncomputable def eqU (x:V) (u:S5):Bool:=match u with
 | .none=>eqV .non x
 | .bool b=>eqV (.bl b) x
 | .int i _=>eqV (.int i) x
 | .str z _=>eqV (.str z) x
 |_=>false
theorem Yd4 (r:Sw y u) (f:Js6 y=true):eqU x u=eqV y x:=by
 cases y with
 |non=>cases r;rfl
 |bl b=>cases r;rfl
 |int i=>obtain ⟨t,rfl⟩:=r;rfl
 |str z=>obtain ⟨t,rfl⟩:=r;rfl
 |_=>exact absurd (f) yak
theorem Jxm {x:V}:∀{xs:List V} {us:List S5},Sy xs us->xs.all Js6=true->us.any (eqU x)=xs.any λy=>eqV y x
 |_,_,.nil,_=>rfl
 |y::xs,u::us,.cons r t,f=>by
  rw [List.all_cons,yan] at f;rw [List.any_cons,List.any_cons,Yd4 r f.1,Jxm t f.2]
theorem Jv6 {A:Sd} {s:S6} {x:V} {v:S5} (rx:Sw x v) (fx:Js6 x=true):∀{xs:List V} {us:List S5},Sy xs us->xs.all Js6=true->∀u∈us,SeqAt.EqAt A s u v (eqU x u)
 |_,_,.nil,_=>λu hu=>by cases hu
 |y::xs,u::us,.cons r t,f=>λu' hu=>by
  rw [List.all_cons,yan] at f;rcases yq.mp hu with rfl|hu
  ·rw [Yd4 r f.1];exact Smn r rx f.1 fx
  ·exact Jv6 rx fx t f.2 u' hu
noncomputable def inV (x:V) (xs:List V):Bool:=xs.any λy=>eqV y x
inductive rIn (K:Sg) (neg:Bool) (x:V) (y:V) (H:Hp) (Q:VK):Prop where
 |mk (p:_) (xs:_) (_:y= .ref p) (_:(Sz K H p xs\/SqT K H p xs)) (_:Js6 x=true) (_:xs.all Js6=true) (_:Q (.bl (if neg then !inV x xs else inV x xs)) H)
theorem Ybz:OpR X (compareOp .In) (rIn X.K false):=by
 rintro pins s σ H x y v u Q I rx ry ⟨p,xs,rfl,hq,fx,fs,q⟩;cases ry;rcases hq with hq|hq
 ·obtain ⟨its,r,pl,hz⟩:=I.list hq;refine SeqAt.in_listAt (eqU x) pl.isList (λw hw=>Jv6 rx fx r fs w (by simpa using hw)) ⟨.bl _,H,I,rfl,?_⟩;rw [show its.toArray.any (eqU x)=its.any (eqU x) by simp,Jxm r fs];exact q
 ·obtain ⟨its,r,pl,hz⟩:=I.tuple hq;refine SeqAt.in_tupleAt (eqU x) pl (λw hw=>Jv6 rx fx r fs w (by simpa using hw)) ⟨.bl _,H,I,rfl,?_⟩;rw [show its.toArray.any (eqU x)=its.any (eqU x) by simp,Jxm r fs];exact q
theorem Jmg:Jnm X (.builtin "len") (λxs H Q=>∃p ys,xs= [.ref p]/\(Sz X.K H p ys\/SqT X.K H p ys)/\Q (.int ys.length) H):=by
 rintro pins s σ H xs us Q I r ⟨p,ys,rfl,hq,q⟩;obtain ⟨u,rfl,rx⟩:=Joh r;cases rx;have hn:=Jrm;rcases hq with hq|hq
 ·obtain ⟨its,r',pl,hz⟩:=I.list hq;have hlen:=r'.length;exact Calls.call_len_list pl.isList (by simp only [yw] <;> omega) ⟨.int ys.length,H,I.tok _,⟨s.toks+1,by rw [yw,hlen]⟩,q⟩
 ·obtain ⟨its,r',pl,hz⟩:=I.tuple hq;have hlen:=r'.length;exact len_tuple pl (by simp only [yw] <;> omega) ⟨.int ys.length,H,I.tok _,⟨s.toks+1,by rw [yw,hlen]⟩,q⟩
theorem Jxo:Jnm X (.builtin "len") (λxs H Q=>∃z,xs= [.str z]/\z.length<=S9/\Q (.int z.length) H):=by
 rintro pins s σ H xs us Q I r ⟨z,rfl,hz,q⟩;obtain ⟨u,rfl,t,rfl⟩:=Joh r;have hn:=Jrm;exact len_str (by omega) ⟨.int z.length,H,I.tok _,⟨_,rfl⟩,q⟩
theorem Jp1:Jnm X (.type "list") (λxs H Q=>∃p ys,xs= [.ref p]/\(Sz X.K H p ys\/SqT X.K H p ys)/\∀l,H l=none->Q (.ref l) (upd H l (.lst ys))):=by
 rintro pins s σ H xs us Q I r ⟨p,ys,rfl,hq,q⟩;obtain ⟨u,rfl,rx⟩:=Joh r;cases rx;have fin:∀its,Sy ys its->ys.length<=S9->∀h' c',(∀b o',s.heap.get? b=some o'->h'.get? b=some o')->
   h'.get? s.heap.objs.size=some {cls:=.type "list",dict:=none,data:=.seq its.toArray c',slots:=#[]}->EP X pins σ Q (.ref s.heap.objs.size) {s with heap:=h'}:=λits r' hz h' c' kp e=>
  ⟨.ref s.heap.objs.size,_,I.laid kp (yg _) (show Sai X.prog X.w _ h' _ (.lst ys) from ⟨hz,its,c',r',e⟩),rfl,q _ (I.hok.fresh (yg _))⟩
 rcases hq with hq|hq
 ·obtain ⟨its,r',pl,hz⟩:=I.list hq;have hlen:=r'.length;obtain ⟨o,ho,hc,n,hd⟩:=pl.isList;exact call_list_seq p (.inl rfl) ho hc hd (λh' c' kp e=>fin its r' hz h' c' kp e) (by simp only [yw] <;> omega)
 ·obtain ⟨its,r',pl,hz⟩:=I.tuple hq;have hlen:=r'.length;obtain ⟨o,ho,hc,n,hd⟩:=pl;exact call_list_seq p (.inr rfl) ho hc hd (λh' c' kp e=>fin its r' hz h' c' kp e) (by simp only [yw] <;> omega)
theorem Jng:Jnm X (.type "tuple") (λxs H Q=>∃p ys,xs= [.ref p]/\((Sz X.K H p ys/\∀l,H l=none->Q (.ref l) (upd H l (.tup ys)))\/(SqT X.K H p ys/\Q (.ref p) H))):=by
 rintro pins s σ H xs us Q I r ⟨p,ys,rfl,h⟩;obtain ⟨u,rfl,rx⟩:=Joh r;cases rx;rcases h with ⟨hq,q⟩|⟨hq,q⟩
 ·obtain ⟨its,r',pl,hz⟩:=I.list hq;have hlen:=r'.length;refine call_tuple_list pl.isList (λh' kp=>?_) (by simp only [yw] <;> omega);have I1:Ss X pins σ H {s with heap:=h'}:=I.kept kp;have I2:Ss X pins σ (upd H h'.objs.size (.tup ys)) {s with heap:=h'.push {cls:=.type "tuple",data:=.seq its.toArray}}:=
   I1.laid (λb o e=>yn _ e) (yg _) (⟨hz,its,r',IsTup.new _ _⟩)
  exact ⟨.ref h'.objs.size,_,I2,rfl,q _ (I1.hok.fresh (yg _))⟩
 ·obtain ⟨its,r',pl,hz⟩:=I.tuple hq;exact call_tuple_same pl ⟨.ref p,H,I,rfl,q⟩
noncomputable def tyV (K:Sg) (T:String) (x:V) (H:Hp):Prop:=match x with
 | .str _=>T="str"
 | .int _=>T="int"
 | .ref p=>(T="list" /\∃xs,Sz K H p xs)\/(T="tuple" /\∃o,K.lookup p=some o/\o.cls= .type "tuple" /\o.dict=none)\/
   (T="dict" /\((∃kvs,H p=some (.dK kvs))\/∃kvs,H p=some (.dT kvs)))\/(T="set" /\∃S n,H p=some (.set S n))
 |_=>False
theorem Soy (I:Ss X pins σ H s) (r:Sw x v) (ty:tyV X.K T x H):
  s.TypeIs v T/\∀a,v= .ref a->∃ob,s.heap.get? a=some ob/\ob.dict=none:=by
 cases x with
 |str z=>
  obtain ⟨t,rfl⟩:=r;cases (ty);exact ⟨typeIs_str s z t,λ_ e=>nomatch e⟩
 |int i=>
  obtain ⟨t,rfl⟩:=r;cases (ty);exact ⟨typeIs_int s i t,λ_ e=>nomatch e⟩
 |ref p=>
  cases r;rcases ty with ⟨rfl,xs,hq⟩|⟨rfl,o,hk,hc,hd⟩|⟨rfl,hk⟩|⟨rfl,S,n,hk⟩
  ·obtain ⟨its,_,pl,_⟩:=I.list hq;refine ⟨pl.isList.typeIs,λa e=>?_⟩;cases e;obtain ⟨o,n,e,c,hd,_⟩:=pl;exact ⟨o,e,hd⟩
  ·refine ⟨⟨o,I.kIn p o hk,hc⟩,λa e=>?_⟩;cases e;exact ⟨o,I.kIn _ o hk,hd⟩
  ·have z:∃o,s.heap.get? p=some o/\o.ExactDict:=by
    rcases hk with ⟨kvs,hk⟩|⟨kvs,hk⟩
    ·obtain ⟨_,_,_,_,o,_,_,e,ex,_⟩:=I.hok p _ hk;exact ⟨o,e,ex⟩
    ·obtain ⟨_,_,_,_,o,_,_,e,ex,_⟩:=I.hok p _ hk;exact ⟨o,e,ex⟩
   obtain ⟨o,e,ex⟩:=z;refine ⟨⟨o,e,ex.1⟩,λa e2=>?_⟩;cases e2;exact ⟨o,e,ex.2.1⟩
  ·obtain ⟨o,_,_,_,e,ex,_⟩:=I.hok p _ hk;refine ⟨⟨o,e,ex.1⟩,λa e2=>?_⟩;cases e2;exact ⟨o,e,ex.2.1⟩
 |_=>exact False.elim ty
inductive Ssr (K:Sg) (T:String) (r:V->List V->Hp->VK->Prop) (t:TA) (σ:St) (Q:VK) (x:V) (H1:Hp):Prop where
 |mk (_:tyV K T x H1) (_:t σ H1 λxs H2=>r x xs H2 Q)
noncomputable def tBM (K:Sg) (T:String) (r:V->List V->Hp->VK->Prop) (to:TE) (t:TA):TE:=λσ H Q=>to σ H (Ssr K T r t σ Q)
variable {o e:Expr} {es:List Expr} {to:TE} {t:TA} {name:Str} {apos cpos:Pos} {T id:String} {r:V->List V->Hp->VK->Prop}
theorem Jvm (pa:PlainAttrs T) (slot:Slot T name id) (hty:typeOf (.builtin id)=pure (.type "method_descriptor")) (hm:MtR X id r) (ho:PE X o to) (ha:PA X (e::es) t)
  (hbase:attributeBase o name X.env (eval o X.env)=eval o X.env:=by rfl)
  (hfew:((backTo cpos (starEach (e::es) X.env)).all (λx=>!x.1)&&(backToKw cpos (keywordEach [] X.env)).all (λx=>x.1.isSome)
   &&decide ((e::es).length+([]:List Keyword).length+(if ([]:List Keyword).isEmpty then 0 else 1) < 30))=true:=by rfl)
  (hline:(apos.endLine==cpos.line)=true:=by rfl) (hs:starEach (e::es) X.env=(false,eval e X.env)::starEach es X.env:=by rfl) (hplain:(backTo cpos (starEach es X.env)).any (·.1)=false:=by rfl):
  PE X (.Call (.Attribute o name apos) (e::es) [] cpos) (tBM X.K T r to t):=by
 intro pins s σ H Q I h;refine wpAny_Call_method_late hbase hfew hline rfl (thn (ho pins s σ H _ I h) λv s1 zq=>?_);obtain ⟨x,H1,I1,r1,ty,q1⟩:=zq;obtain ⟨h1,h2⟩:=Soy I1 r1 ty;refine ⟨T,id,pa,slot,hty,h1,h2,?_⟩;have hA:=ha cpos pins s1 σ H1 _ I1 q1;rw [hs] at hA⊢;exact Calls.callWith_builtin (by show (false||(backTo cpos (starEach es X.env)).any (·.1))=false;rw [hplain] <;> rfl) (Calls.evalArgs_plain (thn hA λus s2 ⟨vs,H2,I2,r2,q2⟩=>hm pins s2 σ H2 x vs v us Q I2 r1 r2 q2))
end
noncomputable def MtM (X:Cx) (id:String) (r:V->List V->Hp->VK->Prop):Prop:=
 ∀(pins:List (S4×Obj)) (s:S6) (σ:St) (H:Hp) (x:V) (xs:List V) (v:S5) (us:List S5) (Q:VK),Ss X pins σ H s->Sw x v->Sy xs us->r x xs H Q->
  Sf (model X.prog X.w) X.A (call (.builtin id) (v::us)) (EP X pins σ Q) X.xe s
theorem Sy.one:∀{x:V} {us:List S5},Sy [x] us->∃u,us= [u]/\Sw x u
 |_,_,.cons r .nil=>⟨_,rfl,r⟩
theorem Sy.rep {xs:List V} {us:List S5} (h:Sy xs us):∀k:Nat,Sy (yae k xs).flatten (yae k us).flatten
 |0=>.nil
 |k+1=>by
  rw [ycm,ycm,List.flatten_cons,List.flatten_cons];exact Sy.append h (Sy.rep h k)
theorem Jx0 (its:List S5):∀k acc,
  List.foldl (λx1 x2=>x1++x2) acc.toArray (yae k its.toArray)=(acc++(yae k its).flatten).toArray
 |0,acc=>by simp
 |k+1,acc=>by
  have e:acc.toArray++its.toArray=(acc++its).toArray:=by simp
  have e2:(acc++its)++(yae k its).flatten=acc++(yae (k+1) its).flatten:=by
   rw [ycm,List.flatten_cons,List.append_assoc]
  rw [<-e2,<-Jx0 its k (acc++its),<-e,ycm,List.foldl_cons]
section
variable {X:Cx} {pins:List (S4×Obj)} {σ:St} {H:Hp} {s:S6} {l b:S4} {xs ys zs:List V}
theorem Ss.lset {its its':List S5} {n} {f} {t'} (I:Ss X pins σ H s) (hH:H l=some (.lst xs))
  (e:s.heap.get? l=some {cls:=.type "list",data:=.seq its.toArray n}) (hf:f its.toArray=its'.toArray) (hv:Sy ys its') (hz:ys.length<=S9):
  Ss X pins σ (upd H l (.lst ys)) {s with heap:=s.heap.update l (Obj.mapSeq f),toks:=t'}:=by
 have q:=PySem.IsL.update e f;rw [hf] at q;refine I.write (by rw [hH];exact trivial) (.inl rfl) (λb' u hb hu=>(ybr s.heap (Obj.mapSeq f) (yx hb)).trans hu) ⟨_,q⟩ ?_;exact ⟨hz,its',_,hv,q⟩
theorem Ss.lnew (I:Ss X pins σ H s) (hv:Sy ys its) (hz:ys.length<=S9):
  Ss X pins σ (upd H s.heap.objs.size (.lst ys)) {s with heap:=s.heap.push {cls:=.type "list",data:=.seq its.toArray},toks:=t'}:=
 I.laid (λ_ _ q=>yn _ q) (yg _) ⟨hz,its,0,hv,yt _ rfl⟩
theorem Ss.fresh (I:Ss X pins σ H s):H s.heap.objs.size=none:=I.hok.fresh (yg _)
theorem Ss.lstM (I:Ss X pins σ H s) (hH:H l=some (.lst xs)):xs.length<=S9/\∃(its:List S5) (n:Nat),Sy xs its/\xs.length=its.length/\s.heap.get? l=some {cls:=.type "list",data:=.seq its.toArray n}:=by
 obtain ⟨z,its,n,r,e⟩:=I.hok l _ hH;exact ⟨z,its,n,r,r.length,e⟩
theorem Jzg (h:n<=S9):Builtin.List.listTooLong n=false:=decide_eq_false (by omega)
end
section
variable {X:Cx}
inductive Yg6 (x:V) (vs:List V) (H:Hp) (Q:VK):Prop where
 |mk (l:_) (xs:_) (y:_) (_:x= .ref l) (_:vs= [y]) (_:H l=some (.lst xs)) (_:xs.length < S9) (_:Q .non (upd H l (.lst (xs++ [y]))))
theorem Jpq:MtM X "list.append" Yg6:=by
 rintro pins s σ H x vs v us Q I rx rv ⟨l,xs,y,rfl,rfl,hH,hz,q⟩;cases rx;obtain ⟨u,rfl,ru⟩:=rv.one;obtain ⟨z,its,n,r,hl,e⟩:=I.lstM hH;refine call_meets F.slot_list_append ⟨_,e,rfl⟩ F.entry_list_append (F.args_list_append_2 _ _) (PySem.list_append l its.toArray n u (by rw [yw];omega)) ⟨e,⟨.non,_,I.lset hH e (by simp) (r.append (.cons ru .nil)) ?_,rfl,q⟩⟩;rw [yad,List.length_singleton];omega
inductive Yg7 (x:V) (vs:List V) (H:Hp) (Q:VK):Prop where
 |mk (l:_) (b:_) (xs:_) (zs:_) (_:x= .ref l) (_:vs= [.ref b]) (_:H l=some (.lst xs)) (_:H b=some (.lst zs)) (_:xs.length+zs.length<=S9) (_:Q .non (upd H l (.lst (xs++zs))))
theorem Jx9:MtM X "list.extend" Yg7:=by
 rintro pins s σ H x vs v us Q I rx rv ⟨l,b,xs,zs,rfl,rfl,hH,hB,hz,q⟩;cases rx;obtain ⟨u,rfl,ru⟩:=rv.one;cases ru;obtain ⟨z,its,n,r,hl,e⟩:=I.lstM hH;obtain ⟨z2,its2,n2,r2,hl2,e2⟩:=I.lstM hB;have hsz:its.toArray.size+its2.toArray.size<=S9:=by rw [yw,yw];omega
 have hlong:¬(!its.toArray.isEmpty&&Builtin.List.listTooLong (its.toArray.size+its2.toArray.size))=true:=by
  rw [Jzg hsz,Bool.and_false];exact yak
 refine call_meets F.slot_list_extend ⟨_,e,rfl⟩ F.entry_list_extend (F.args_list_extend_2 _ _)
  (AutoSeq1.list_extend_list_list_0 l its.toArray n b its2.toArray n2 hlong (by rw [yw];omega) (by omega)) ⟨e,e2,?_⟩
 refine ⟨.non,_,I.lset hH e (by simp) (r.append r2) ?_,rfl,q⟩;rw [yad];omega
inductive Sya (x:V) (y:V) (H:Hp) (Q:VK):Prop where
 |mk (l:_) (b:_) (xs:_) (zs:_) (_:x= .ref l) (_:y= .ref b) (_:H l=some (.lst xs)) (_:H b=some (.lst zs)) (_:xs.length+zs.length<=S9) (_:∀p,H p=none->Q (.ref p) (upd H p (.lst (xs++zs))))
theorem Jte:OpR X (binaryOp .Add) Sya:=by
 rintro pins s σ H x y v u Q I rx ry ⟨l,b,xs,zs,rfl,rfl,hH,hB,hz,q⟩;cases rx;cases ry;obtain ⟨z,its,n,r,hl,e⟩:=I.lstM hH;obtain ⟨z2,its2,n2,r2,hl2,e2⟩:=I.lstM hB;refine PySem.P.add_list e e2 ?_ (by rw [yw,yw];omega);have ea:its.toArray++its2.toArray=(its++its2).toArray:=by simp
 rw [ea];exact ⟨.ref _,_,I.lnew (r.append r2) (by rw [yad];omega),rfl,q _ I.fresh⟩
inductive Sye (x:V) (y:V) (H:Hp) (Q:VK):Prop where
 |mk (l:_) (k:_) (xs:_) (_:x= .ref l) (_:y= .int k) (_:H l=some (.lst xs)) (_: -(2^63)<=k) (_:k < 2^63) (_:xs.length*k.toNat<=S9) (_:∀p,H p=none->Q (.ref p) (upd H p (.lst (yae k.toNat xs).flatten)))
theorem Yfj {α:Type} (xs:List α) (k):(yae k xs).flatten.length=k*xs.length:=by simp
theorem Sn7:OpR X (binaryOp .Mult) Sye:=by
 rintro pins s σ H x y v u Q I rx ry ⟨l,k,xs,rfl,rfl,hH,h1,h2,hz,q⟩;cases rx;obtain ⟨t,rfl⟩:=ry;obtain ⟨z,its,n,r,hl,e⟩:=I.lstM hH;have hlen:its.toArray.size*k.toNat<=S9:=by rw [yw,<-hl];exact hz
 have hcap:¬its.toArray.size*k.toNat > (2^63 - 1)/8:=by
  have:S9<=(2^63 - 1)/8:=by decide
  omega
 have hfit:¬(!Builtin.List.listFitsIndex k)=true:=by
  rw [fitsIndex_both h1 h2];exact yak
 have hlong:¬Builtin.List.listTooLong (its.toArray.size*k.toNat)=true:=by
  rw [Jzg hlen];exact yak
 have hnew:List.foldl (λx1 x2=>x1++x2) #[] (yae (if its.toArray.isEmpty=true then 0 else k.toNat) its.toArray)=(yae k.toNat its).flatten.toArray:=by
  have f0:∀m:Nat,List.foldl (λx1 x2=>x1++x2) #[] (yae m its.toArray)=(yae m its).flatten.toArray:=λm=>by
   have:=Jx0 its m [];exact this
  rw [f0];cases its with
  |nil=>simp
  |cons a r'=>rw [if_neg (by simp)]
 refine wpAny_binaryOp_repeat_ref (by decide) ⟨_,e,rfl⟩ (λs'=>typeIs_int s' k t) noFill_list_mul F.fills_int_mul F.slot_int_rmul repeat_list F.slot_int_index.lookup
  (call_meets F.slot_int_rmul (typeIs_int s k t) F.entry_int_rmul (F.args_int_rmul_2 _ _) (int___rmul___int_list k t l its.toArray n)
   ⟨e,rfl,⟨_,e,rfl⟩,call_meets F.slot_list_mul ⟨_,e,rfl⟩ F.entry_list_mul (F.args_list_mul_2 _ _) (AutoListH.list___mul___list_int_3 l its.toArray n k t hfit hcap hlong) ⟨e,?_⟩⟩)
 rw [hnew];exact ⟨.ref _,_,I.lnew (r.rep k.toNat) (by rw [Yfj,Nat.mul_comm];exact hz),rfl,q _ I.fresh⟩
end
section
variable {prog:Sa} {w:Sc} {A:Sd} {E:S5->S6->Prop} {s:S6}
end
section
variable {X:Cx}
end
section
variable {κ:Type} [DecidableEq κ]
noncomputable def Jqv (kvs:List (κ×V)) (k:κ):Option V:=(kvs.find? λkv=>decide (kv.1=k)).map (·.2)
noncomputable def Jnu (kvs:List (κ×V)) (k:κ) (v:V):List (κ×V):=
 if (kvs.any λkv=>decide (kv.1=k))=true then kvs.map (λkv=>if kv.1=k then (kv.1,v) else kv) else kvs++ [(k,v)]
noncomputable def Jz8 (kvs:List (κ×V)) (k:κ):List (κ×V):=kvs.filter λkv=>decide (kv.1≠k)
theorem Jw3 {p:κ×V} (e:p.1=k):Jqv (p::r) k=some p.2:=by simp [Jqv,e]
theorem Jw2 {p:κ×V} (e:¬p.1=k):Jqv (p::r) k=Jqv r k:=by simp [Jqv,e]
theorem Jss (k:κ):∀kvs:List (κ×V),(kvs.any λkv=>decide (kv.1=k))=(Jqv kvs k).isSome
 | []=>rfl
 |p::r=>by
  rw [List.any_cons];by_cases e:p.1=k
  ·simp only [Jw3 e,decide_eq_true e,Bool.true_or,Option.isSome_some]
  ·rw [Jw2 e,decide_eq_false e,Bool.false_or];exact Jss k r
theorem Jnn (kvs:List (κ×V)) (k) (v):(Jnu kvs k v).length<=kvs.length+1:=by
 unfold Jnu;split
 ·rw [ye];omega
 ·rw [yad,yag,List.length_nil];omega
theorem Ydx {kvs:List (κ×V)} (v) (h:Jqv kvs k=none):Jnu kvs k v=kvs++ [(k,v)]:=by
 unfold Jnu;rw [Jss,h];exact if_neg (by decide)
theorem Scm.isSome_eq (r:Scm o u):o.isSome=u.isSome:=by
 cases o with
 |none=>cases u with
  |none=>rfl
  |some _=>exact (r).elim
 |some _=>cases u with
  |none=>exact (r).elim
  |some _=>rfl
theorem KV.val {kvs:List (κ×V)} (r:KV kvs vs) (k):Scm (Jqv kvs k) (valueAt vs k):=by
 induction r with
 |nil=>exact True.intro
 | @cons p q ps qs h t ih=>
  obtain ⟨h1,h2⟩:=h;by_cases e:p.1=k
  ·have e':=h1.symm.trans e;have b:valueAt (q::qs) k=some q.2:=by simp [valueAt,e']
   rw [Jw3 e,b];exact h2
  ·have e':¬q.1=k:=λz=>e (h1.trans z);have b:valueAt (q::qs) k=valueAt qs k:=by simp [valueAt,e']
   rw [Jw2 e,b];exact ih
theorem KV.any {kvs:List (κ×V)} (r:KV kvs vs) (k):(kvs.any λkv=>decide (kv.1=k))=vs.any λkv=>decide (kv.1=k):=by
 induction r with
 |nil=>rfl
 |cons h t ih=>rw [List.any_cons,List.any_cons,ih,h.1]
theorem KV.repl {kvs:List (κ×V)} (r:KV kvs vs) (k) (ry:Sw y u):
  KV (kvs.map λkv=>if kv.1=k then (kv.1,y) else kv) (vs.map λkv=>if kv.1=k then (kv.1,u) else kv):=by
 induction r with
 |nil=>exact .nil
 | @cons p q ps qs h t ih=>
  rw [yap,yap];refine .cons ?_ ih;obtain ⟨h1,h2⟩:=h;by_cases e:p.1=k
  ·rw [if_pos e,if_pos (h1.symm.trans e)];exact ⟨h1,ry⟩
  ·rw [if_neg e,if_neg (λz=>e (h1.trans z))];exact ⟨h1,h2⟩
theorem KV.put {kvs:List (κ×V)} (r:KV kvs vs) (k) (ry:Sw y u):KV (Jnu kvs k y) (stored vs k u):=by
 unfold Jnu stored;rw [r.any k];by_cases e:(vs.any λkv=>decide (kv.1=k))=true
 ·rw [if_pos e,if_pos e];exact r.repl k ry
 ·rw [if_neg e,if_neg e];exact Paired.snoc r ⟨rfl,ry⟩
theorem KV.drop {kvs:List (κ×V)} (r:KV kvs vs) (k):KV (Jz8 kvs k) (without vs k):=by
 unfold Jz8 without
 induction r with
 |nil=>exact .nil
 | @cons p q ps qs h t ih=>
  obtain ⟨h1,h2⟩:=h;rw [List.filter_cons,List.filter_cons];by_cases e:p.1=k
  ·have a:¬decide (p.1≠k)=true:=by simp [e]
   have b:¬decide (q.1≠k)=true:=by simp [h1.symm.trans e]
   rw [if_neg a,if_neg b];exact ih
  ·have e':¬q.1=k:=λz=>e (h1.trans z);have a:decide (p.1≠k)=true:=by simp [e]
   have b:decide (q.1≠k)=true:=by simp [e']
   rw [if_pos a,if_pos b];exact .cons ⟨h1,h2⟩ ih
theorem KV.length (r:KV kvs vs):kvs.length=vs.length:=Paired.length r
theorem Jz9 (kvs:List (κ×V)) (k):(Jz8 kvs k).length<=kvs.length:=List.length_filter_le _ _
end
theorem Yas (r:Sw (kV k) u):(Jmj P w).is k u=true:=by
 cases k with
 |inl i=>obtain ⟨t,e⟩:=(show ∃t,u=Value.int i t from r);subst e;exact Jqg P w i t
 |inr x=>obtain ⟨t,e⟩:=(show ∃t,u=Value.str x t from r);subst e;exact Jou P w x t
theorem Jx4 {P:Sa} {w:Sc}:∀{ks:List Key} {us:List S5},Sy (ks.map kV) us->ItemsAre (Jmj P w) ks us
 | [],_,r=>by rw [List.map_nil] at r;cases r;exact .nil
 |k::ks,_,r=>by
  rw [yap] at r;cases r with
  |cons h t=>exact .cons (Yas h) (Jx4 t)
noncomputable abbrev KT (H:Hp):List (List Key×V)->List (List Key×S4×S5)->Prop:=Paired λp q=>p.1=q.1/\H q.2.1=some (.tup (p.1.map kV))/\Sw p.2 q.2.2
theorem KT.val (r:KT H kvs xs) (k):Scm (Jqv kvs k) ((atKey xs k).map (·.2)):=by
 induction r with
 |nil=>exact True.intro
 | @cons p q ps qs h t ih=>
  obtain ⟨h1,_,h2⟩:=h;by_cases e:p.1=k
  ·have e':=h1.symm.trans e;have b:atKey (q::qs) k=some q.2:=by simp [atKey,e']
   rw [Jw3 e,b];exact h2
  ·have e':¬q.1=k:=λz=>e (h1.trans z);have b:atKey (q::qs) k=atKey qs k:=by simp [atKey,e']
   rw [Jw2 e,b];exact ih
theorem KT.repl (r:KT H kvs xs) (k) (ry:Sw y u):
  KT H (kvs.map λkv=>if kv.1=k then (kv.1,y) else kv) (xs.map (putAt k u)):=by
 induction r with
 |nil=>exact .nil
 | @cons p q ps qs h t ih=>
  rw [yap];refine .cons ?_ ih;obtain ⟨h1,h2,h3⟩:=h;unfold putAt;by_cases e:p.1=k
  ·rw [if_pos e,if_pos (h1.symm.trans e)];exact ⟨h1,h2,ry⟩
  ·rw [if_neg e,if_neg (λz=>e (h1.trans z))];exact ⟨h1,h2,h3⟩
theorem KT.put (r:KT H kvs xs) (k) (hb:H b=some (.tup (k.map kV))) (ry:Sw y u):
  KT H (Jnu kvs k y) (storedH xs k b u):=by
 have e:(kvs.any λkv=>decide (kv.1=k))=(atKey xs k).isSome:=by
  rw [Jss,(r.val k).isSome_eq,Option.isSome_map]
 unfold Jnu storedH;rw [e];by_cases q:(atKey xs k).isSome=true
 ·rw [if_pos q,if_pos q];exact r.repl k ry
 ·rw [if_neg q,if_neg q];exact Paired.snoc r ⟨rfl,hb,ry⟩
theorem KT.keeps (r:KT H kvs xs) (ht:∀b ys,H b=some (.tup ys)->H' b=some (.tup ys)):KT H' kvs xs:=
 Paired.mapP r λ_ _ z=>⟨z.1,ht _ _ z.2.1,z.2.2⟩
section
variable {P:Sa} {w:Sc} {H:Hp} {h:Se} {a:S4}
theorem Sl3 (ok:HOk P w H h) (e:Rd H a u):Sai P w H h a u:=e.ok ok
theorem Yal (ok:HOk P w H h) (e:Rd H a (.dK kvs)):kvs.length<=S9/\(a==sysModules)=false/\∃vs,KV kvs vs/\h.DictOf (Jmj P w) a vs:=
 Sl3 ok e
theorem Juw (ok:HOk P w H h) (e:H a=some (.dK kvs)):kvs.length<=S9/\(a==sysModules)=false/\∃vs,KV kvs vs/\h.DictOf (Jmj P w) a vs:=Yal ok (.inl e)
theorem Yi (ok:HOk P w H h) (e:H a=some (.tup (ks.map kV))):(tupleKind (Jmj P w)).is h ks a:=by
 obtain ⟨_,its,r,o,h1,h2,n,h3⟩:=(ok a _ e);exact ⟨o,its.toArray,n,h1,h2,h3,by simpa using Jx4 r⟩
theorem Yd2 (ok:HOk P w H h) (e:Rd H a (.dT kvs)):kvs.length<=S9/\(a==sysModules)=false/\
  ∃xs,KT H kvs xs/\h.DictOfH (tupleKind (Jmj P w)) a xs:=by
 obtain ⟨z,y,xs,r,o,es,ep,h1,h2,h3,h4,h5⟩:=(Sl3 ok e);refine ⟨z,y,xs,r,o,es,ep,h1,h2,h3,h4,λx hx=>?_,h5⟩;have all:∀{l:List (List Key×V)} {m:List (List Key×S4×S5)},KT H l m->∀x∈m,(tupleKind (Jmj P w)).is h x.1 x.2.1:=by
  intro l m q
  induction q with
  |nil=>intro x hx;exact nomatch hx
  | @cons p q ps qs hq t ih=>
   intro x hx;rcases yq.mp hx with e|hx
   ·subst e;exact Yi ok (by rw [<-hq.1];exact hq.2.1)
   ·exact ih x hx
 exact all r x hx
theorem Srf (ok:HOk P w H h) (e:H a=some (.dT kvs)):kvs.length<=S9/\(a==sysModules)=false/\
  ∃xs,KT H kvs xs/\h.DictOfH (tupleKind (Jmj P w)) a xs:=Yd2 ok (.inl e)
end
noncomputable def Sq4 (H:Hp) (a:S4) (y:V) (r:Option V):Prop:=
 (∃kvs k,Rd H a (.dK kvs)/\y=kV k/\r=Jqv kvs k)\/∃kvs k b,Rd H a (.dT kvs)/\y= .ref b/\H b=some (.tup (k.map kV))/\r=Jqv kvs k
noncomputable def Sfo (H:Hp) (a:S4) (y v:V) (H':Hp):Prop:=
 (∃kvs k,H a=some (.dK kvs)/\y=kV k/\kvs.length < S9/\H'=upd H a (.dK (Jnu kvs k v)))\/
 ∃kvs k b,H a=some (.dT kvs)/\y= .ref b/\H b=some (.tup (k.map kV))/\kvs.length < S9/\H'=upd H a (.dT (Jnu kvs k v))
theorem Sfo.k {k} {v} (e:H a=some (.dK kvs)) (hl:kvs.length < S9):Sfo H a (kV k) v (upd H a (.dK (Jnu kvs k v))):=.inl ⟨kvs,k,e,rfl,hl,rfl⟩
section
variable {X:Cx} {pins:List (S4×Obj)} {σ:St} {H:Hp} {s:S6} {a:S4} {y v:V} {u r:S5} {o:Option V} {A:Sd} {E:S5->S6->Prop}
theorem Ss.big (I:Ss X pins σ H s):sysModules < s.heap.objs.size:=Nat.lt_trans (by decide) ((I.mod.glob.keeps I.bk).lt)
theorem Yfb (hu:A.units+1 < cLine) (I:Ss X pins σ H s) (g:Sq4 H a y o) (ry:Sw y u) (h:∀s',Ss X pins σ H s'->Q (.bool (!o.isSome)) s'):
  Sf (model X.prog X.w) A (compareOp .NotIn u (.ref a)) Q E s:=by
 rcases g with ⟨kvs,k,e,ey,l⟩|⟨kvs,k,b,e,ey,eb,l⟩
 ·subst ey;obtain ⟨z,hd,vs,rel,dd⟩:=Yal I.hok e;refine wpAny_notIn_of (Yas ry) hd dd.mapOf ?_;rw [<-(rel.val k).isSome_eq,<-l];exact h _ (I.tok _)
 ·subst ey;cases (ry);obtain ⟨z,hd,xs,rel,dd⟩:=Yd2 I.hok e;refine wpAny_notIn_heap (tupleKind_room_in1 hu) (Yi I.hok eb) hd dd ?_;have q:=(rel.val k).isSome_eq;rw [Option.isSome_map] at q;rw [<-q,<-l];exact h _ (I.tok _)
theorem Js5 (I:Ss X pins σ H s) (mu:Mut (H a)) (hs:yay a s.heap h') (he:∃q,h'.get? a=some q) (new:Sai X.prog X.w (upd H a ob) h' a ob):
  Ss X pins σ (upd H a ob) {s with heap:=h',toks:=t'}:=
 I.write mu (.inl rfl) (λb q hb z=>(hs.2 b hb).trans z) he new
theorem Jxq (z:kvs.length<=S9) (hd:(a==sysModules)=false) (rel:KV kvs vs) (dd:h'.DictOf (Jmj P w) a vs):
  Sai P w H' h' a (.dK kvs):=⟨z,hd,vs,rel,dd⟩
theorem Jwy (hu:A.units+1 < cLine) (I:Ss X pins σ H s) (g:Sfo H a y v H') (ry:Sw y u) (rv:Sw v r) (h:∀s',Ss X pins σ H' s'->Q () s'):
  Sf (model X.prog X.w) A (setItem (.ref a) u r) Q E s:=by
 rcases g with ⟨kvs,k,e,ey,l,eH⟩|⟨kvs,k,b,e,ey,eb,l,eH⟩
 ·subst ey eH;obtain ⟨z,hd,vs,rel,dd⟩:=Juw I.hok e;have hz:vs.length<=S9:=by rw [<-rel.length];exact z
  have hl:(Jnu kvs k v).length<=S9:=by have:=Jnn kvs k v;omega
  refine wpAny_setItem_pairs (hsz:=hz) (Yas ry) dd λh' dd' hs=>h _ ?_;have he:∃q,h'.get? a=some q:=let ⟨q,_,_,hq,_⟩:=dd';⟨q,hq⟩;exact Js5 I (by rw [e];exact True.intro) hs he (Jxq hl hd (rel.put k rv) dd')
 ·subst ey eH;cases (ry);obtain ⟨z,hd,xs,rel,dd⟩:=Srf I.hok e;have hz:xs.length<=S9:=by rw [<-Paired.length rel];exact z
  have hl:(Jnu kvs k v).length<=S9:=by have:=Jnn kvs k v;omega
  refine wpAny_setItem_heap (hsz:=hz) (tupleKind_room_in1 hu) (Yi I.hok eb) dd λh' dd' hs=>h _ ?_;obtain ⟨q,es,ep,hq,h2,h3,h4,_,h5⟩:=dd';refine Js5 I (by rw [e];exact True.intro) hs ⟨q,hq⟩ ⟨hl,hd,_,(rel.put k eb rv).keeps λc ys ec=>?_,q,es,ep,hq,h2,h3,h4,h5⟩;rw [Sx (Skx ec e (λz=>nomatch z))];exact ec
end
section
variable {X:Cx} {pins:List (S4×Obj)} {σ:St} {H:Hp} {s:S6} {a:S4} {kvs:List (Key×V)} {k:Key} {u:S5} {A:Sd} {E:S5->S6->Prop}
end
noncomputable def Sl5 (td ty tv:TE):TS:=λD σ H=>tv σ H λv H1=>td σ H1 λx H2=>ty σ H2 λy H3=>∃a H4,x= .ref a/\Sfo H3 a y v H4/\D.nx σ H4
section
variable {X:Cx} {o i e value:Expr} {pos pos' tpos:Pos} {td ty tv:TE}
theorem Yg5 (hu:X.A.units+1 < cLine) (ho:PE X o td) (hi:PE X i ty) (hv:PE X value tv) (hs:swapsWith value (some (.Subscript o i pos')) pos.line X.env=pure false):
  PS X (.Assign [.Subscript o i pos'] value pos) (Sl5 td ty tv):=by
 intro pins s σ H D I h;refine wpAny_Assign_Subscript (thn (hv pins s σ H _ I h) λr s1 ⟨v,H1,I1,rv,q1⟩=>thn (ho pins s1 σ H1 _ I1 q1) λu s2 ⟨x,H2,I2,rx,q2⟩=>thn (hi pins s2 σ H2 _ I2 q2) λiv s3 zq=>?_) hs;obtain ⟨y,H3,I3,ry,a,H4,ex,g,q3⟩:=zq;subst ex;obtain rfl:u=Value.ref a:=rx;exact Jwy hu I3 g ry rv λs4 I4=>⟨σ,H4,I4,q3⟩
end
theorem Juv (h:Se) (hb:sysModules < h.objs.size):Sai P w H (h.push {cls:=.type "dict",data:=.dict #[]}) h.objs.size (.dK []):=
 ⟨yal _,beq_eq_false_iff_ne.mpr (yx (yy hb)),[],.nil,Heap.DictOf.new h⟩
noncomputable def Sol:TE:=λ_ H Q=>∀p,H p=none->Q (.ref p) (upd H p (.dK []))
section
variable {X:Cx} {pos:Pos}
theorem Jvn:PE X (.Dict [] [] pos) Sol:=λpins s σ H Q I h=>
 wpAny_Dict_empty ⟨.ref s.heap.objs.size,_,I.laid (λ_ _ q=>yn _ q) (yg _) (Juv s.heap I.big),rfl,h _ (I.hok.fresh (yg _))⟩
end
noncomputable def Jyr:List (TE×TE)->St->Hp->(List (V×V)->Hp->Prop)->Prop
 | [],_,H,Q=>Q [] H
 | (tk,tv) :: r,σ,H,Q=>tk σ H λx H1=>tv σ H1 λy H2=>Jyr r σ H2 λps H3=>Q ((x,y) :: ps) H3
noncomputable abbrev VV:List (V×V)->List (S5×S5)->Prop:=Paired λp q=>Sw p.1 q.1/\Sw p.2 q.2
noncomputable def PPs (X:Cx) (pos:Pos) (keys:List (Option Expr)) (values:List Expr) (trs:List (TE×TE)):Prop:=
 ∀(pins:List (S4×Obj)) (s:S6) (σ:St) (H:Hp) (Q:List (V×V)->Hp->Prop),Ss X pins σ H s->Jyr trs σ H Q->
  Sf (model X.prog X.w) X.A (evalPairs (pairTrees keys values X.env pos)) (λvs s'=>∃ps H',Ss X pins σ H' s'/\VV ps vs/\Q ps H') X.xe s
theorem Jyd:PPs X pos [] [] []:=λpins s σ H Q I h=>pairTrees_nil_walk ⟨[],H,I,.nil,h⟩
theorem Jvs (hk:PE X k tk) (hv:PE X v tv) (hr:PPs X pos ks vs trs):
  PPs X pos (some k::ks) (v::vs) ((tk,tv)::trs):=λpins s σ H Q I h=>
 pairTrees_cons_walk (thn (hk pins s σ H _ I h) λu s1 ⟨x,H1,I1,rx,q1⟩=>thn (hv pins s1 σ H1 _ I1 q1) λw2 s2 ⟨y,H2,I2,ry,q2⟩=>
  thn (hr pins s2 σ H2 _ I2 q2) λws s3 ⟨ps,H3,I3,rel,q3⟩=>⟨(x,y)::ps,H3,I3,.cons ⟨rx,ry⟩ rel,q3⟩)
noncomputable def Jnw (kvs more:List (Key×V)):List (Key×V):=more.foldl (λacc kv=>Jnu acc kv.1 kv.2) kvs
theorem KV.merge:∀{more} {rs} {kvs} {vs},KV more rs->KV kvs vs->KV (Jnw kvs more) (merged vs rs):=by
 intro more rs kvs vs r
 induction r generalizing kvs vs with
 |nil=>intro q;exact q
 | @cons p q ps qs h t ih=>
  intro r0;have e:KV (Jnu kvs p.1 p.2) (stored vs q.1 q.2):=by
   have:=r0.put p.1 h.2;rw [<-h.1];exact this
  exact ih e
theorem Jrf:∀more kvs,(Jnw kvs more).length<=kvs.length+more.length
 | [],kvs=>by show kvs.length<=kvs.length+0;omega
 |p::r,kvs=>by
  have h1:=Jrf r (Jnu kvs p.1 p.2);have h2:=Jnn kvs p.1 p.2;show (Jnw (Jnu kvs p.1 p.2) r).length<=_;rw [yag];omega
theorem Juu:∀{kvs} {ws},VV (kvs.map λkv=>(kV kv.1,kv.2)) ws->∃rs,Carries (Jmj P w) ws rs/\KV kvs rs
 | [],_,r=>by rw [List.map_nil] at r;cases r;exact ⟨[],True.intro,.nil⟩
 |p::kvs,_,r=>by
  rw [yap] at r;cases r with
  | @cons a b as bs h t=>
   obtain ⟨rs,c,q⟩:=Juu t;obtain ⟨b1,b2⟩:=b;exact ⟨(p.1,b2)::rs,⟨Yas h.1,rfl,c⟩,.cons ⟨rfl,h.2⟩ q⟩
noncomputable def Sss (trs:List (TE×TE)):TE:=λσ H Q=>∀p,H p=none->Jyr trs σ (upd H p (.dK [])) λps H2=>H2 p=some (.dK [])/\∃kvs:List (Key×V),ps=kvs.map (λkv=>(kV kv.1,kv.2))/\kvs.length<=15/\Q (.ref p) (upd H2 p (.dK (Jnw [] kvs)))
theorem Yay (h:PPs X pos keys values trs) (hall:keys.all (·.isSome)=true) (hl:keys.length=values.length) (h0:keys≠ [])
  (h15:keys.length<=15):PE X (.Dict keys values pos) (Sss trs):=by
 intro pins s σ H Q I q;refine wpAny_Dict_walk (knd:=Jmj X.prog X.w) hall hl h0 h15 (thn (h pins _ σ _ _ (I.laid (λ_ _ q=>yn _ q) (yg _) (Juv s.heap I.big)) (q _ (I.hok.fresh (yg s.heap.objs.size)))) λws s2 zq=>?_);obtain ⟨ps,H2,I2,rel,e,kvs,ep,lk,q2⟩:=zq;subst ep;obtain ⟨rs,c,rk⟩:=Juu rel;obtain ⟨z,hd,vs0,r0,dd⟩:=Juw I2.hok e;cases r0;refine ⟨rs,c,dd,λh' dd' hs=>⟨.ref s.heap.objs.size,_,?_,rfl,q2⟩⟩;have hz:(Jnw [] kvs).length<=S9:=by
  have h1:=Jrf kvs [];rw [List.length_nil] at h1;rw [sizeLine_eq];omega
 have he:∃q,h'.get? s.heap.objs.size=some q:=let ⟨q,_,_,hq,_⟩:=dd';⟨q,hq⟩;exact Js5 I2 (by rw [e];exact True.intro) hs he (Jxq hz hd (rk.merge .nil) dd')
structure M1 (X:Cx) (o:Expr) (m:Str) (apos:Pos) (e:Expr) (cpos:Pos):Prop where
 base:attributeBase o m X.env (eval o X.env)=eval o X.env
 few:((backTo cpos (starEach [e] X.env)).all (λx=>!x.1)&&(backToKw cpos (keywordEach [] X.env)).all (λx=>x.1.isSome)
  &&decide (([e]:List Expr).length+([]:List Keyword).length+(if ([]:List Keyword).isEmpty then 0 else 1) < 30))=true
 line:(apos.endLine==cpos.line)=true
 trees:backTo cpos (starEach [e] X.env)= [(false,eval e X.env)]
noncomputable def IsD (H:Hp) (a:S4):Prop:=(∃kvs,Rd H a (.dK kvs))\/∃kvs,Rd H a (.dT kvs)
theorem Smw (I:Ss X pins σ H s) (d:IsD H a):
  s.TypeIs (.ref a) "dict" /\(∀b,Value.ref a= .ref b->∃ob,s.heap.get? b=some ob/\ob.dict=none)/\(a==sysModules)=false:=by
 rcases d with ⟨kvs,e⟩|⟨kvs,e⟩
 ·obtain ⟨_,hd,vs,_,dd⟩:=Yal I.hok e;refine ⟨dd.typeIs,λb q=>?_,hd⟩;cases q;obtain ⟨ob,_,_,h1,h2,_⟩:=dd;exact ⟨ob,h1,h2.2.1⟩
 ·obtain ⟨_,hd,xs,_,dd⟩:=Yd2 I.hok e;refine ⟨dd.typeIs,λb q=>?_,hd⟩;cases q;obtain ⟨ob,_,_,h1,h2,_⟩:=dd;exact ⟨ob,h1,h2.2.1⟩
section
variable {X:Cx} {pins:List (S4×Obj)} {σ:St} {H:Hp} {s:S6} {a:S4} {y d:V} {u r:S5} {o:Option V} {A:Sd} {E:S5->S6->Prop}
end
section
variable {X:Cx} {o e f:Expr} {apos cpos:Pos} {td ty tx:TE}
end
section
variable {X:Cx} {pins:List (S4×Obj)} {σ:St} {H:Hp} {s:S6} {a:S4} {kvs:List (Key×V)} {A:Sd} {E:S5->S6->Prop}
end
section
variable {X:Cx} {pins:List (S4×Obj)} {σ:St} {H:Hp} {s:S6} {a:S4} {y:V} {u:S5} {A:Sd} {E:S5->S6->Prop}
end
end L2
namespace Att
open PySem PySem.W PySem.Calls PyProof.Rows
theorem Jtx:∀ns vs,WellAll P h vs (ns.map WData.int)->IntsAre vs ns:=by
 intro ns
 induction ns with
 |nil=>
  intro vs w;cases w;exact .nil
 |cons n ns ih=>
  intro vs w;cases w with
  |cons a b=>
   cases a;exact .cons _ _ (ih _ b)
theorem Yc8 {l:OpenLaw} (hn:l.most=some n)
  (hpre:l.row.toRowW.claim.pre args=true) (hwl:WellAll P h vals args):
  ∃a vs ns,vals= [Value.ref a]/\args= [WData.list (ns.map WData.int)]/\h.get? a=some {cls:=.type "list",data:=.seq vs.toArray}/\IntsAre vs ns/\ns.length<=n:=by
 obtain ⟨d,r,rfl,h1,h2⟩:=hasAllW_cons ((pre_splitW hpre).1);obtain rfl:=hasAllW_nil h2;obtain ⟨xs,rfl,h3⟩:=hasW_list h1;obtain ⟨ns,rfl⟩:=items_int h3;have hlen:=by
  have h4:=by
   have h4:=(holds_andW ((pre_splitW hpre).2)).1;rw [hn] at h4;exact h4
  have h5:=condW_of h4 (w_not (w_lt w_lit (w_len_list (w_arg rfl))))
  first
   | (rw [decide_eq_true q'] at h5; exact absurd h5 (by decide))
   | (simp at h5; omega)
 cases hwl with
 |cons w1 w2=>
  cases w2;cases w1 with
  |list ho hall=>exact ⟨_,_,ns,rfl,rfl,ho,Jtx ns _ hall,hlen⟩
theorem Yc4 (l:OpenLaw) (args):l.row.toRowW.claim.post args (.bool true) args=true:=
 postW_of
  (by first|rfl|decide|simp [WShape.has])
  (w_eq_bool (w_res rfl) w_lit) rfl
theorem attach_call {l:OpenLaw} {n} {q} {loose} {XP} {YP} {d}
  (hn:l.most=some n) (hdf:d.params.defaults= [])
  (call:∀w s₀ s₁ mg mb fa o pm cd doc a vs ns,
   Ground q loose [] XP w s₀ mg mb s₁.heap->YP w s₁.heap->
   s₁.heap.get? fa=some o->o.data= .func (docDef d.name d.params d.body d.scope pm cd doc)->s₁.heap.CodeRec cd d.name->mg d.name=some (.ref fa)->
   s₁.heap.get? a=some {cls:=.type "list",data:=.seq vs.toArray}->IntsAre vs ns->ns.length<=n->s₁.gens= #[]->
   codeAny (model l.prog w) callerA (.call (.ref fa) ⟨[.ref a],[]⟩) (λr s'=>r= .ok (.ret (.bool true))/\OldK s₁.heap s'.heap/\s'.os=s₁.os/\AllBare s'.gens) s₁):
  WalkO q loose XP YP l.row.toRowW d [] (λf vs=>PySem.call f vs):=by
 intro w s₀ s₁ mg mb G Y fa o pm cd doc dV kV ho hd hcd hD hmg hg args vals as hpre hlay hrd hwl hlo;obtain rfl:dV= .none:=Dflts.none hD hdf;obtain rfl:kV= .none:=Dflts.noKw hD;obtain ⟨a,vs,ns,rfl,rfl,hobj,hints,hlen⟩:=Yc8 hn hpre hwl;refine enter_call (codeAny_mono (call w s₀ s₁ mg mb fa o pm cd doc a vs ns G Y ho (fd_plain hd) hcd hmg hobj hints hlen hg) λr s' hq=>?_);obtain ⟨rfl,h2,h3,h4⟩:=hq;exact ⟨.inl ⟨.bool true,.bool true,[],rfl,λ_=>rfl,.bool true,Yc4 l _,λ_=>⟨List.Pairwise.nil,λ_ hm=>(nomatch hm)⟩⟩,h2,h3,h4⟩
section
variable {prog:Sa} {w:Sc} {A:Sd} {E:S5->S6->Prop} {s:S6} {K:Sg}
end
end Att
namespace L2
open PySem PySem.Spec PyProof.Rows
theorem Jxj:∀{vs:List S5} {ns:List Int},IntsAre vs ns->Sy (ns.map V.int) vs
 |_,_,.nil=>.nil
 |_,_,.cons n t h=>.cons ⟨t,rfl⟩ (Jxj h)
noncomputable abbrev KOf {K:Sg} {h:Se} (_:K.In h):Sg:=K
noncomputable def Jmc (s:Stmt) (j:Nat):Stmt:=match s with
 | .ClassDef _ _ _ body _ _ _ _ _ _ _=>body.getD j (.Pass ⟨0,0,0,0⟩)
 |_=>.Pass ⟨0,0,0,0⟩
noncomputable def Jno (s:Stmt):Arguments:=match s with
 | .FunctionDef _ a _ _ _ _ _ _ _ _=>a
 |_=>{posonlyargs:=[],args:=[],vararg:=none,kwonlyargs:=[],kw_defaults:=[],kwarg:=none,defaults:=[]}
noncomputable def Jnf (s:Stmt):List Stmt:=match s with
 | .FunctionDef _ _ b _ _ _ _ _ _ _=>b
 |_=>[]
noncomputable def Jm5 (s:Stmt):Scope:=match s with
 | .FunctionDef _ _ _ _ _ _ sc _ _ _=>sc
 |_=>{kind:=.function,names:=[],isGenerator:=false,isCoroutine:=false}
noncomputable abbrev CX0:CXT:=λ_ _ _ _ _ _=>False
noncomputable abbrev E0:XK:=λ_ _ _=>False
theorem Jpf:Jri CX0 X E0:=λ_ _ _ _ _ _ _ h=>h.elim
structure Fun (K:Sg) (x qual:Str) (st:Stmt) (f:S4) (fd:Sb):Prop where
 ex:∃(dV oc:S5) (od:Option S4) (kV doc pm:S5) (an:Option S4) (cdv ct:S5) (osl:Array (Option S5)),
  fd=PySem.W.fnOf x qual (Jno st) (Jnf st) (Jm5 st) dV kV doc pm an cdv ct/\K.lookup f=some ⟨oc,od,.func fd,osl⟩/\PySem.W.codeIn K cdv qual=true
 kp:PySem.W.keepIn K (.ref f)=true
section
variable {P:Sa} {w:Sc} {K:Sg} {mg:Str->Option S5} {base:Se}
theorem Fun.ok {st} (F:Fun K x qual st f fd) (S:Jm6 N ps (Jm5 st)) (len:∀vs H Q E,sp vs H Q E->vs.length=ps.length)
  (hbody:∀cdv A outer s H vs Q E,Sax k (A.deeper (envOfC qual (Jm5 st) s.heap.objs.size f cdv))->sp vs H Q E->
   ∃t,PSs (Jz7 CX0 P w K mg base N qual (Jm5 st) f cdv A outer s H E).nox (Jnf st) t/\t {nx:=λ_ H'=>Q .non H',rt:=Q} (start N vs) H):Sv P w K mg base CX0 (k+1) f fd ps sp:=by
 obtain ⟨dV,oc,od,kV,doc,pm,an,cdv,ct,osl,rfl,lk,hcd⟩:=F.ex;refine Skt lk hcd S len λA outer s H vs Q E hr hsp=>?_;obtain ⟨t,h,q⟩:=hbody cdv A outer s H vs Q E hr hsp;exact ⟨t,h.nox,q⟩
theorem Jxr {st} {dV kV ct} (l:K.lookup f=some ⟨oc,od,.func (PySem.W.fnOf x qual (Jno st) (Jnf st) (Jm5 st) dV kV doc pm an cdv ct),osl⟩)
  (c:PySem.W.codeIn K cdv qual=true) (k:PySem.W.keepIn K (.ref f)=true):Fun K x qual st f (PySem.W.fnOf x qual (Jno st) (Jnf st) (Jm5 st) dV kV doc pm an cdv ct):=⟨⟨dV,oc,od,kV,doc,pm,an,cdv,ct,osl,rfl,l,c⟩,k⟩
end
section
variable {X:Cx}
theorem pv (i) {pos} (hN:X.N[i]?=some x:=by rfl) (hv:Vis X.env.scope x:=by first|exact yf rfl|exact yaq (yf rfl)|exact yaq (yaq rfl)) (hd:(x==("__debug__" :Str))=false:=by decide)
  (hcd:(x==("__classdict__" :Str))=false:=by decide):PE X (.Name x pos) (Sk4 i):=Sn9 hN hv hd hcd
end
theorem Jn9 {A:Prop} (h:B):if false=true then A else B:=by grind
theorem Jo2 {A:Prop} (h:A):if true=true then A else B:=by grind
theorem Six {A:Prop} [Decidable c] (h1:c->A) (h2:¬c->B):if c then A else B:=by grind
noncomputable def Sl (H H':Hp):Prop:=∀b o,H b=some o->H' b=some o
theorem Sl.refl (H):Sl H H:=λ_ _ h=>h
theorem Sl.trans (a:Sl H H1) (b:Sl H1 H2):Sl H H2:=λc o h=>b c o (a c o h)
theorem Sl.seq {K} (e:Sl H H') (h:Sz K H a xs):Sz K H' a xs:=by
 rcases h with (h|⟨o,h⟩)|h
 ·exact .inl (.inl (e _ _ h))
 ·exact .inl (.inr ⟨o,e _ _ h⟩)
 ·exact .inr h
section
variable {κ:Type} [DecidableEq κ]
end
end L2
set_option Elab.async false
set_option linter.all false
set_option maxRecDepth 100000
set_option maxHeartbeats 4000000
namespace L2
open PySem PySem.Spec PyProof.Rows
noncomputable def Jox (cells:List (Str×S4)):List (Str×NameKind)->List (Str×S4)->List (Str×S4)
 | [],acc=>acc
 | (n,k) :: r,acc=>if (k == NameKind.free) = true then (match cells.lookup n with | some c=>Jox cells r ((n,c) :: acc) | none=>Jox cells r acc) else Jox cells r acc
theorem Jpo:∀ns acc,(∀x c,acc.lookup x=some c->cells.lookup x=some c)->∀x c,(Jox cells ns acc).lookup x=some c->cells.lookup x=some c
 | [],_,h,x,c,e=>h x c e
 | (n,k) :: r,acc,h,x,c,e=>by
  unfold Jox at e;by_cases hk:(k==NameKind.free)=true
  ·rw [if_pos hk] at e;cases hc:cells.lookup n with
   |none=>rw [hc] at e;exact Jpo r acc h x c e
   |some d=>
    rw [hc] at e;refine Jpo r ((n,d)::acc) (λy b q=>?_) x c e;rw [ybj] at q;by_cases hy:(y==n)=true
    ·rw [hy] at q;have hy':y=n:=beq_iff_eq.mp hy;rw [hy',hc];exact q
    ·have hy':(y==n)=false:=by simpa using hy
     rw [hy'] at q;exact h y b q
  ·rw [if_neg hk] at e;exact Jpo r acc h x c e
theorem Jpv {cells:List (Str×S4)}:∀(ns:List (Str×NameKind)) (acc:List (Str×S4)) (x:Str),(acc.lookup x).isSome=true->((Jox cells ns acc).lookup x).isSome=true
 | [],_,_,h=>h
 | (n,k) :: r,acc,x,h=>by
  unfold Jox;by_cases hk:(k==NameKind.free)=true
  ·rw [if_pos hk];cases hc:cells.lookup n with
   |none=>exact Jpv r acc x h
   |some d=>
    refine Jpv r ((n,d)::acc) x ?_;rw [ybj];cases hy:x==n with
    |true=>rfl
    |false=>exact h
  ·rw [if_neg hk];exact Jpv r acc x h
theorem Jpn:∀ns acc,(x,NameKind.free)∈ns->(∃c,cells.lookup x=some c)->((Jox cells ns acc).lookup x).isSome=true
 | [],_,h,_=>by simp at h
 | (n,k) :: r,acc,h,hc=>by
  unfold Jox;rcases yq.mp h with e|e
  ·cases e;obtain ⟨c,hc⟩:=hc;rw [hc];exact Jpv r _ x (by rw [ybj,beq_self_eq_true];rfl)
  ·by_cases hk:(k==NameKind.free)=true
   ·rw [if_pos hk];cases hd:cells.lookup n with
    |none=>exact Jpn r acc e hc
    |some d=>exact Jpn r _ e hc
   ·rw [if_neg hk];exact Jpn r acc e hc
theorem Jw7 (h:∀y∈sc.names,y.2= .free->∃c,env.cells.lookup y.1=some c):closureFor sc env=pure (Jox env.cells sc.names []):=by
 have key:∀ns acc,(∀y∈ns,y.2= .free->∃c,env.cells.lookup y.1=some c)->
   (forIn ns acc λx r=>if (x.2==NameKind.free)=true then cellOf env x.1 >>=λc=>pure (ForInStep.yield ((x.1,c)::r)) else pure (ForInStep.yield r))=pure (Jox env.cells ns acc):=by
  intro ns
  induction ns with
  |nil=>intro acc _;rfl
  |cons y r ih=>
   intro acc hy;obtain ⟨n,k⟩:=y;rw [yby];unfold Jox;by_cases hk:(k==NameKind.free)=true
   ·have hk':=by simpa using hk
    obtain ⟨c,hc⟩:=hy (n,k) yab hk';have hc':=hc;simp only [hk];have e1:cellOf env n=pure c:=by unfold cellOf;rw [hc']
    rw [e1,hc'];exact ih _ λz hz=>hy z (yz _ hz)
   ·simp only [hk];exact ih _ λz hz=>hy z (yz _ hz)
 have k0:=key sc.names [] h
 first
  |exact k0
  | (refine Eq.trans ?_ (congrArg (λm : Sem (List (Str × S4))=>m >>= λr=>pure r) k0); rfl)
noncomputable def blk (X:Cx) (sc:Scope) (N:List Str) (C:S4) (s:S6) (H:Hp) (fp:List S4) (pn:List (S4×Obj)):Cx:=
 {X with N:=N,s₀:=s,H₀:=H,env:=compEnvC sc (Jox X.env.cells sc.names []) C X.env,outer:=X.stack,ex:=fp,fn:=λ_=>false,pn:=pn,xe:=λ_ _=>False}
noncomputable def Sit (ini:List (Option Nat)) (σ:St):St:=ini.map λo=>match o with|none=>none|some j=>(σ[j]?).join
noncomputable def scB (sc:Scope):Bool:=decide (sc.kind= .function)&&sc.names.all (λy=>decide (y.2≠ .cell))&&sc.names.all (λy=>!decide (y.2= .local)||decide (sc.names.lookup y.1=some .local))
noncomputable def frB (outer:List (Str×NameKind)) (sc:Scope):Bool:=sc.names.all λy=>!decide (y.2= .free)||(decide (outer.lookup y.1=some .cell)||decide (outer.lookup y.1=some .free))
noncomputable def Smt (No N:List Str) (ini:List (Option Nat)) (outer:List (Str×NameKind)) (sc:Scope):Bool:=
 (N.zip ini).all λy=>match y.2 with|none=>true|some j=>decide (No[j]?=some y.1)&&decide (sc.names.lookup y.1=some .free)&&(decide (outer.lookup y.1=some .cell)||decide (outer.lookup y.1=some .free))
noncomputable def PIf (X:Cx) (ifs:List Expr) (t:TT):Prop:=
 ∀(pins:List (S4×Obj)) (s:S6) (σ:St) (H:Hp) (Q:Bool->Hp->Prop),Ss X pins σ H s->t σ H Q->
  Sf (model X.prog X.w) X.A (forIn ifs true λc r=>if r=true then do let ok<-isTrue c X.env (eval c X.env);pure (ForInStep.yield ok) else pure (ForInStep.yield r)) (TP X pins σ Q) X.xe s
noncomputable def Jys:TT:=λ_ H Q=>Q true H
theorem Jmq:PIf X [] Jys:=λ_ _ _ H _ I h=>wpAny_tests_nil ⟨H,I,h⟩
theorem Jyc (h:PT X c t):PIf X [c] t:=λpins s σ H Q I q=>wpAny_tests_one (h pins s σ H Q I q)
noncomputable def Yev (wi:TI) (ini:List (Option Nat)) (g:TG) (tt:TT) (te:TE):TE:=λσ H Q=>wi σ H λJ H1=>∀D,H1 D=none->∃W:Nat->Nat->St->Hp->Prop,(∃m,W 0 m (Sit ini σ) (upd H1 D (.lst [])))/\
 ∀i m σ' H',W i m σ' H'->(J.stop i H'/\Q (.ref D) H')\/(J.go i H'/\∃N:St->Hp->Prop,(∀σ2 H2,N σ2 H2->∃m',m' < m/\W (i+1) m' σ2 H2)/\
  ∀x H2,J.yld i H' x H2->g x σ' H2 λσ3 H3=>tt σ3 H3 λb H4=>if b=true then te σ3 H4 (λv H5=>∃ys,H5 D=some (.lst ys)/\ys.length < S9/\N σ3 (upd H5 D (.lst (ys++ [v])))) else N σ3 H4)
section
variable {prog:Sa} {w:Sc} {A:Sd} {R:Result->S6->Prop} {s:S6}
theorem Jxp {target iter} {ifs} {scope} {pos} {it acc} {env} (I:Nat->S6->Prop)
  (turn:∀n s,I n s->Sf (model prog w) A (pyNext it) (λr s1=>match r with
   |none=>R (.ok .next) s1
   |some v=>Sf (model prog w) A (letOwnedTupleGo target it v) (λ_ s1'=>Sf (model prog w) A (assign target env v) (λ_ s2=>
     Sf (model prog w) A (forIn ifs true λc r=>if r=true then do let ok<-isTrue c env (eval c env);pure (ForInStep.yield ok) else pure (ForInStep.yield r)) (λok s3=>
      if ok=true then Sf (model prog w) A (eval elt env) (λx s4=>
       Sf (model prog w) A (call (.builtin "list.append") [acc,x]) (λ_ s5=>∃m,m < n/\I m s5) (λ_ _=>False) s4) (λ_ _=>False) s3
      else ∃m,m < n/\I m s3) (λ_ _=>False) s2) (λ_ _=>False) s1') (λ_ _=>False) s1) (λ_ _=>False) s)
  (n) (h:I n s):codeAny (model prog w) A (.compLoop (.ListComp elt [⟨target,iter,ifs,0⟩] scope pos) 0 it acc env) R s:=by
 refine codeAny_loop rfl I (λn s hI=>wpAny_noted (wpAny_noRaise ?_)) n h;rw [compTurn_list];refine S7 (wpAny_standAt (S7 (wpAny_mono (turn n s hI) (λr s1 h1=>?_) λ_ _ h'=>h')));cases r with
 |none=>exact S8 h1
 |some v=>
  refine S7 (wpAny_mono h1 (λ_ s1' h1'=>S7 (wpAny_mono h1' (λ_ s2 h2=>S7 (wpAny_mono h2 (λok s3 h3=>?_) λ_ _ h'=>h')) λ_ _ h'=>h')) λ_ _ h'=>h');cases ok with
  |false=>exact S8 ⟨rfl,h3⟩
  |true=>
   exact S7 (S7 (wpAny_mono h3 (λx s4 h4=>S7 (wpAny_mono h4 (λ_ s5 h5=>S8 (S8 ⟨rfl,h5⟩)) λ_ _ h'=>h')) λ_ _ h'=>h'))
end
section
variable {X:Cx} {pins:List (S4×Obj)} {σ:St} {H:Hp} {s:S6}
theorem Sma (I:Ss X pins σ H s) (hk:sc.kind= .function) (hcell:∀y∈sc.names,y.2≠ .cell)
  (hfr:∀y∈sc.names,y.2= .free->X.env.kindOf y.1=some .cell\/X.env.kindOf y.1=some .free) (hC:C=s.heap.objs.size) (hf:∀b∈fp,Jsu X pins H b/\b < s.heap.objs.size):(blk X sc N C s H fp pn).Ok:=by
 have hin:∀x c,(Jox X.env.cells sc.names []).lookup x=some c->X.env.cells.lookup x=some c:=Jpo sc.names [] (λx c e=>by simp at e);refine ⟨I.ok.mod,hk,I.ok.glob,I.ok.blt,Nat.le_of_eq hC.symm,λx y c h1 h2=>I.ok.inj x y c (hin _ _ h1) (hin _ _ h2),λx hx=>?_,λx c h _=>(by cases h),I.ok.hd,I.ok.frames,.inl rfl,λb hb=>?_,I.bs,yai I.ok.bsz I.sz,λb o e hb=>?_,λb hb z=>?_,I.stack,I.stkFree⟩
 ·have hx':=hx;have hm:(x,NameKind.free)∈sc.names:=by
   have:∀k,(relabel sc X.env).names.lookup x=some k->(k= .cell\/k= .free)->(x,NameKind.free)∈sc.names:=λk e hkk=>by
    obtain ⟨⟨n',k'⟩,m1,m2⟩:=yo.mp (PySem.mem_of_lookup e);dsimp only at m2;by_cases hc:(k'==NameKind.free&&X.env.scope.kind== .function&&X.env.kindOf n'==some .cell)=true
    ·rw [if_pos hc] at m2;have e1:n'=x:=congrArg Prod.fst m2;have e2:=by simp at hc;exact hc.1.1
     rw [<-e1,<-e2];exact m1
    ·rw [if_neg hc] at m2;have e1:n'=x:=congrArg Prod.fst m2;have e2:k'=k:=congrArg Prod.snd m2;rcases hkk with z|z
     ·exact absurd (e2.trans z) (hcell _ m1)
     ·rw [<-e1,<-z,<-e2];exact m1
   rcases hx' with e|e
   ·exact this _ e (.inl rfl)
   ·exact this _ e (.inr rfl)
  exact ycw.mp (Jpn sc.names [] hm (I.ok.has x (hfr _ hm rfl)))
 ·obtain ⟨⟨f0,f1,f2,f3,f4,f5⟩,lt⟩:=hf b hb;exact ⟨λz=>yy lt (z.trans hC),λx c e=>f4 x c (hin _ _ e)⟩
 ·obtain ⟨⟨f0,f1,f2,f3,f4,f5⟩,lt⟩:=hf b hb;rcases f3 with z|z
  ·exact I.ok.noex b o e z
  ·exact absurd (yar (yj (I.ok.bs b o e).1) z) (ybd _)
 ·obtain ⟨⟨f0,f1,f2,f3,f4,f5⟩,lt⟩:=hf b hb;rcases yq.mp (I.stkSub b z) with e|e
  ·exact f1 e
  ·exact f2 e
theorem Yf6 (I:Ss X pins σ H s) (hk:sc.kind= .function) (hcell:∀y∈sc.names,y.2≠ .cell)
  (hfr:∀y∈sc.names,y.2= .free->X.env.kindOf y.1=some .cell\/X.env.kindOf y.1=some .free) (hf:∀b∈fp,Jsu X pins H b/\b < s.heap.objs.size) (hlen:N.length=ini.length)
  (hini:∀(i:Nat) x j,N[i]?=some x->ini[i]?=some (some j)->X.N[j]?=some x/\sc.names.lookup x=some .free/\(X.env.kindOf x=some .cell\/X.env.kindOf x=some .free))
  (hn:h1.Ns s.heap.objs.size (λ_=>none)) (kp:∀b o,s.heap.get? b=some o->h1.get? b=some o):
  Ss (blk X sc N s.heap.objs.size s H fp (X.pn++pins)) [] (Sit ini σ) H {s with heap:=h1,toks:=t'}:=by
 have hin:∀x c,(Jox X.env.cells sc.names []).lookup x=some c->X.env.cells.lookup x=some c:=Jpo sc.names [] (λx c e=>by simp at e);refine ⟨Sma I hk hcell hfr rfl hf,rfl,I.bare,Un.kept kp,⟨_,hn,λi x v e1 e2 e3=>?_⟩,λx c e=>?_,I.hok.fresh (yg _),λx c e=>(I.freeC x c (hin _ _ e)).imp id λz=>⟨rfl,z.2⟩,λp hp=>?_,I.hok.kept kp,?_⟩
 ·have e1':=e1;have e2':=e2;unfold Sit at e2';rw [ym] at e2';cases hi:ini[i]? with
  |none=>rw [hi] at e2';cases e2'
  |some o=>
   rw [hi] at e2';cases o with
   |none=>cases e2'
   |some j=>
    have e4:(σ[j]?).join=some v:=yac.inj e2';have e5:σ[j]?=some (some v):=by
     cases q:σ[j]? with
     |none=>rw [q] at e4;cases e4
     |some z=>rw [q] at e4;exact congrArg some e4
    obtain ⟨a1,a2,a3⟩:=hini i x j e1' hi;obtain ⟨m,hm,hl⟩:=I.loc;have hvis:Vis X.env.scope x:=by
     rcases a3 with z|z
     ·exact .inr (.inl z)
     ·exact .inr (.inr z)
    obtain ⟨u,r,l⟩:=hl j x v a1 e5 hvis;refine ⟨u,r,.inr ⟨?_,?_⟩⟩
    ·have hm2:=PySem.mem_of_lookup a2;rcases e3 with z|z|z
     ·exfalso;have key:∀{ns:List (Str×NameKind)},ns.lookup x=some .free->(ns.map λ(n,k)=>if (k==NameKind.free&&X.env.scope.kind== .function&&X.env.kindOf n==some .cell) then (n,NameKind.cell) else (n,k)).lookup x≠some .local:=by
       intro ns
       induction ns with
       |nil=>intro q;simp at q
       |cons y r ih=>
        obtain ⟨n,k⟩:=y;intro q;rw [ybj] at q;rw [yap];dsimp only;cases hx:x==n with
        |true=>
         rw [hx] at q;have q':=yac.inj q;subst q';split
         ·rw [ybj,hx];intro z;cases z
         ·rw [ybj,hx];intro z;cases z
        |false=>
         rw [hx] at q;split
         ·rw [ybj,hx];exact ih q
         ·rw [ybj,hx];exact ih q
      exact key a2 z
     ·exact .inl z
     ·exact .inr z
    ·rcases l with ⟨k1,_⟩|⟨_,c,hc,hcl⟩
     ·exfalso;rcases a3 with z|z
      ·rw [z] at k1;cases k1
      ·rw [z] at k1;cases k1
     ·have hh:=Jpn sc.names [] (PySem.mem_of_lookup a2) ⟨c,hc⟩;obtain ⟨c',hc'⟩:=ycw.mp hh;have:=by
       have q:=hin _ _ hc';rw [hc] at q;exact (yac.inj q).symm
      subst this;obtain ⟨oc,hoc,hod⟩:=hcl;exact ⟨c',hc',oc,kp _ _ hoc,hod⟩
 ·obtain ⟨v,oc,hoc,hod⟩:=I.cell x c (hin _ _ e);exact ⟨v,oc,kp _ _ hoc,hod⟩
 ·have hp':p∈X.pn++pins:=by simpa [blk] using hp
  obtain ⟨e,n,ne,nf,d⟩:=I.pin p hp';refine ⟨kp _ _ e,n,yy (yj e),λz=>?_,d⟩;rcases yq.mp (I.stkSub p.1 z) with q|q
  ·exact ne q
  ·exact nf q
 ·unfold Sit;rw [ye];exact hlen.symm
end
section
variable {X:Cx} {elt iter tg:Expr} {ifs:List Expr} {sc:Scope} {pos:Pos} {N:List Str} {ini:List (Option Nat)} {wi:TI} {g:TG} {tt:TT} {te:TE}
theorem Jwu {pins:List (S4×Obj)} {σ:St} {H:Hp} {s:S6} {Q:VK} {use:Option (S5->Sem Unit)} {Q':S5->S6->Prop} {p:Pos} (hc:X.calm=true) (hi:PI X tg iter wi)
  (hsc:scB sc=true) (hfr:frB X.env.scope.names sc=true) (hlen:N.length=ini.length) (hini:Smt X.N N ini X.env.scope.names sc=true)
  (hg:∀C s H fp pn,PG (blk X sc N C s H fp pn) tg g) (ht:∀C s H fp pn,PIf (blk X sc N C s H fp pn) ifs tt) (he:∀C s H fp pn,PE (blk X sc N C s H fp pn) elt te)
  (hs:∀x,foldedSetIterable iter X.env x=pure x) (I:Ss X pins σ H s) (h:Yev wi ini g tt te σ H Q)
  (hfin:∀(D:S4) (H':Hp) (s':S6) (C:S4) (m:Str->Option S5),Ss X pins σ H' s'->Jsu X pins H' C->s'.heap.Ns C m->Q (.ref D) H'->compPost (model X.prog X.w) X.A X.xe use Q' (.ref D) C (.ok .next) s'):
  Sf (model X.prog X.w) X.A (comprehension (.ListComp elt [⟨tg,iter,ifs,0⟩] sc pos) sc X.env p (newList []) false (eval iter X.env) use) Q' X.xe s:=by
 have hsc':=hsc;unfold scB at hsc';rw [yan,yan] at hsc';obtain ⟨⟨hk0,hcell0⟩,hnames0⟩:=hsc';have hk:sc.kind= .function:=of_decide_eq_true hk0;have hcell:∀y∈sc.names,y.2≠ .cell:=λy hy=>of_decide_eq_true (ybf.mp hcell0 y hy);have hnames:∀y∈sc.names,y.2= .local->sc.names.lookup y.1=some .local:=λy hy hl=>by
  have q:=ybf.mp hnames0 y hy;rw [decide_eq_true hl] at q;exact of_decide_eq_true (by simpa using q)
 have hfrP:∀y∈sc.names,y.2= .free->X.env.kindOf y.1=some .cell\/X.env.kindOf y.1=some .free:=λy hy hl=>by
  have q:=ybf.mp hfr y hy;rw [decide_eq_true hl] at q;have q2:decide (X.env.scope.names.lookup y.1=some .cell)=true\/decide (X.env.scope.names.lookup y.1=some .free)=true:=by simpa using q
  rcases q2 with z|z
  ·exact .inl (of_decide_eq_true z)
  ·exact .inr (of_decide_eq_true z)
 have hiniP:∀(i:Nat) (x:Str) (j:Nat),N[i]?=some x->ini[i]?=some (some j)->X.N[j]?=some x/\sc.names.lookup x=some .free/\(X.env.kindOf x=some .cell\/X.env.kindOf x=some .free):=λi x j e1 e2=>by
  have hm:(x,some j)∈N.zip ini:=by
   refine yr (i:=i) ?_;rw [List.getElem?_zip_eq_some];exact ⟨e1,e2⟩
  have q:=ybf.mp hini _ hm;dsimp only at q;rw [yan,yan,Bool.or_eq_true] at q;obtain ⟨⟨q1,q2⟩,q3⟩:=q;refine ⟨of_decide_eq_true q1,of_decide_eq_true q2,?_⟩;rcases q3 with z|z
  ·exact .inl (of_decide_eq_true z)
  ·exact .inr (of_decide_eq_true z)
 refine wpAny_comprehension_free (use:=use) rfl hs (Jw7 λy hy hl=>I.ok.has y.1 (hfrP y hy hl)) hk hnames ?_;refine thn (hi pins s σ H _ I h) λv s1 h1=>thn h1 λitv s2 h2=>?_;obtain ⟨it,fp,tn,J,H2,e,I2,T,st2,f2,step⟩:=h2;subst e;refine wpAny_newObj_type (wpAny_newFunctionEnv hcell (by intro y hy;simp at hy) (λh1 hns1 hsb1=>?_) hk);dsimp only at hns1 hsb1⊢;have hD:H2 s2.heap.objs.size=none:=I2.hok.fresh (yg _);have kp3:∀b o,s2.heap.get? b=some o->(s2.heap.push {cls:=.type "list",dict:=none,data:=.seq ([]:List S5).toArray}).get? b=some o:=λb o e=>yn _ e;have I3:Ss X pins σ (upd H2 s2.heap.objs.size (.lst [])) {s2 with heap:=s2.heap.push {cls:=.type "list",dict:=none,data:=.seq ([]:List S5).toArray}}:=
  I2.laid (t':=s2.toks) kp3 (yg _) ⟨yal _,[],0,.nil,yt _ rfl⟩
 obtain ⟨W,⟨m0,w0⟩,turn⟩:=step s2.heap.objs.size hD;generalize hs3:({s2 with heap:=s2.heap.push {cls:=.type "list",dict:=none,data:=.seq ([]:List S5).toArray}}:S6)=s3 at I3;have e3h:s3.heap=s2.heap.push {cls:=.type "list",dict:=none,data:=.seq ([]:List S5).toArray}:=by rw [<-hs3]
 rw [<-e3h] at hns1 hsb1 kp3⊢;have sz3:s2.heap.objs.size < s3.heap.objs.size:=by rw [e3h,yau];exact ybw _
 have hf3:∀b∈fp,Jsu X pins (upd H2 s2.heap.objs.size (.lst [])) b/\b < s3.heap.objs.size:=λb hb=>by
  obtain ⟨o,eo,_⟩:=T.obj 0 _ st2 b hb;have lt:=yj eo;obtain ⟨f0,fr⟩:=f2 b hb;exact ⟨⟨by rw [Sx (yy lt)];exact f0,fr⟩,Nat.lt_trans lt sz3⟩
 have kp4:∀b o,s3.heap.get? b=some o->h1.get? b=some o:=λb o e=>(hsb1.2 b (yy (yj e))).trans (yn _ e);have I4:Ss (blk X sc N s3.heap.objs.size s3 (upd H2 s2.heap.objs.size (.lst [])) fp (X.pn++pins)) [] (Sit ini σ) (upd H2 s2.heap.objs.size (.lst [])) {s3 with heap:=h1,toks:=s3.toks+([]:List (Str×S5)).length}:=
  Yf6 I3 hk hcell hfrP hf3 hlen hiniP hns1 kp4
 have st4:tn 0 h1:=T.keep 0 _ _ st2 λb hb o e=>kp4 b o (kp3 b o e);have e4s:({s2 with heap:=h1,toks:=s2.toks+([]:List (Str×S5)).length}:S6)={s3 with heap:=h1,toks:=s3.toks+([]:List (Str×S5)).length}:=by rw [<-hs3]
 have stat:∀{H':Hp},(∀b∈fp,H' b=none)->∀b∈fp,Jsu (blk X sc N s3.heap.objs.size s3 (upd H2 s2.heap.objs.size (.lst [])) fp (X.pn++pins)) [] H' b:=λ{H'} hn b hb=>by
  obtain ⟨⟨f0,f1,f2',f3,f4,f5⟩,lt⟩:=hf3 b hb;refine ⟨hn b hb,yy lt,λz=>?_,.inl hb,λx c e=>f4 x c (Jpo sc.names [] (λx c e=>by simp at e) x c e),λp hp=>f5 p (by simpa [blk] using hp)⟩;rcases yq.mp (I3.stkSub b z) with q|q
  ·exact f1 q
  ·grind
 have loop:∀s4:S6,s4={s3 with heap:=h1,toks:=s3.toks+([]:List (Str×S5)).length}->codeAny (model X.prog X.w) X.A (.compLoop (.ListComp elt [⟨tg,iter,ifs,0⟩] sc pos) 0 (.ref it) (.ref s2.heap.objs.size) (compEnvC sc (Jox X.env.cells sc.names []) s3.heap.objs.size X.env))
   (compPost (model X.prog X.w) X.A X.xe use Q' (.ref s2.heap.objs.size) s3.heap.objs.size) s4:=by
  rintro s4 rfl;refine Jxp (λn s'=>∃i σ' H',Ss (blk X sc N s3.heap.objs.size s3 (upd H2 s2.heap.objs.size (.lst [])) fp (X.pn++pins)) [] σ' H' s'/\tn i s'.heap/\(∀b∈fp,H' b=none)/\W i n σ' H') ?_ m0
   ⟨0,_,_,I4,st4,λb hb=>(hf3 b hb).1.1,w0⟩
  rintro n s5 ⟨i,σ5,H5,I5,st5,fr5,w5⟩;rcases turn i n σ5 H5 w5 with ⟨stop,q⟩|⟨go,N',hN',step'⟩
  ·refine thn (T.done (blk X sc N s3.heap.objs.size s3 (upd H2 s2.heap.objs.size (.lst [])) fp (X.pn++pins)) rfl rfl rfl hc i [] s5 σ5 H5 _ I5 (stat fr5) st5 stop) λr s6 ⟨hr,I6⟩=>?_;subst hr;have un:Un (frs X.stack) fp H2 H5 s2.heap s6.heap:=(Un.laid (fs:=frs X.stack) (ex:=fp) kp3 (yg _) hD).trans I6.base;have os6:s6.os=s2.os:=I6.os.trans (show s3.os=s2.os by rw [<-hs3]);have IX:Ss X pins σ H5 s6:=I2.call' (ch:=fp) os6 un I6.hok I6.bare λb hb=>by
    obtain ⟨⟨f0,f1,f2',f3,f4,f5⟩,lt⟩:=hf3 b hb;exact ⟨f3,f1,f4,f5⟩
   obtain ⟨m,hm,_⟩:=I6.loc;exact hfin _ H5 s6 s3.heap.objs.size m IX (I2.fpOk (ycf sz3) I6.free) hm q
  ·refine thn (T.item (blk X sc N s3.heap.objs.size s3 (upd H2 s2.heap.objs.size (.lst [])) fp (X.pn++pins)) rfl rfl rfl hc i [] s5 σ5 H5 _ I5 (stat fr5) st5 go) λr s6 ⟨u,hr,h6⟩=>?_;subst hr;refine thn h6 λ_ s7 zq=>?_;obtain ⟨x,H7,I7,r7,y7,st7,fr7⟩:=zq;have I7':=I7.pinned (stat fr7) (T.obj _ _ st7);refine thn (hg _ _ _ _ _ _ s7 σ5 H7 x u _ I7' r7 (step' x H7 y7)) λ_ s8 zq=>?_;obtain ⟨σ8,H8,I8,q8⟩:=zq;refine thn (ht _ _ _ _ _ _ s8 σ8 H8 _ I8 q8) λok s9 zq=>?_;obtain ⟨H9,I9,q9⟩:=zq;have again:∀{σ':St} {H':Hp} {s':S6},Ss (blk X sc N s3.heap.objs.size s3 (upd H2 s2.heap.objs.size (.lst [])) fp (X.pn++pins)) ([]++Jvr fp s7.heap) σ' H' s'->N' σ' H'->
     ∃m,m < n/\∃i σ' H',Ss (blk X sc N s3.heap.objs.size s3 (upd H2 s2.heap.objs.size (.lst [])) fp (X.pn++pins)) [] σ' H' s'/\tn i s'.heap/\(∀b∈fp,H' b=none)/\W i m σ' H':=λ{σ' H' s'} J n'=>by
    obtain ⟨m',hm,w'⟩:=hN' σ' H' n';refine ⟨m',hm,i+1,σ',H',J.unpinned,T.keep _ _ _ st7 λb hb o e=>(J.pin (b,o) (ybe _ (ybe _ (Jpz hb e)))).1,λb hb=>?_,w'⟩;obtain ⟨o,e,d⟩:=T.obj _ _ st7 b hb;exact (J.pin (b,o) (ybe _ (ybe _ (Jpz hb e)))).2.1
   cases ok with
   |false=>
    exact again I9 q9
   |true=>
    refine thn (he _ _ _ _ _ _ s9 σ8 H9 _ I9 q9) λv10 s10 zq=>?_;obtain ⟨x10,H10,I10,r10,ys,hys,hyl,q10⟩:=zq;refine thn (Jpq _ s10 σ8 H10 (.ref s2.heap.objs.size) [x10] _ [v10] (λ_ H'=>N' σ8 H') I10 rfl (.cons r10 .nil) ⟨_,ys,x10,rfl,rfl,hys,hyl,q10⟩) λ_ s11 zq=>?_;obtain ⟨_,H11,I11,_,q11⟩:=zq;exact again I11 q11
 have fin:=codeAny_compStart_list (R:=compPost (model X.prog X.w) X.A X.xe use Q' (.ref s2.heap.objs.size) s3.heap.objs.size) (loop _ rfl) (T.self X.A 0 {s3 with heap:=h1,toks:=s3.toks+([]:List (Str×S5)).length} _ _ st4 (loop _ rfl));rw [<-e4s] at fin;exact fin
theorem Jmt (hc:X.calm=true) (hi:PI X tg iter wi) (hg:∀C s H fp pn,PG (blk X sc N C s H fp pn) tg g) (ht:∀C s H fp pn,PIf (blk X sc N C s H fp pn) ifs tt) (he:∀C s H fp pn,PE (blk X sc N C s H fp pn) elt te)
  (hsc:scB sc=true:=by rfl) (hfr:frB X.env.scope.names sc=true:=by rfl) (hlen:N.length=ini.length:=by rfl) (hini:Smt X.N N ini X.env.scope.names sc=true:=by rfl)
  (hs:∀x,foldedSetIterable iter X.env x=pure x:=by intro _;rfl):PE X (.ListComp elt [⟨tg,iter,ifs,0⟩] sc pos) (Yev wi ini g tt te):=by
 intro pins s σ H Q I h;refine Jwu hc hi hsc hfr hlen hini hg ht he hs I h λD H' s' C m I' f hn q=>?_;obtain ⟨f0,f1,f2,f3,f4,f5⟩:=f;exact ⟨m,hn,λh' sb=>⟨.ref D,H',I'.turned (λb o hb e=>(sb.2 b hb).trans e) f0 f1 f3 f4 f5,rfl,q⟩⟩
noncomputable def St3 (i:Nat) (te:TE):TS:=λD σ H=>te σ H λv H1=>D.nx (σ.set i (some v)) H1
theorem Jsi {py spos} (hN:X.N.Nodup) (hiy:X.N[i]?=some y) (hx:Loc X.env.scope y) (hc:X.calm=true) (hi:PI X tg iter wi) (hg:∀C s H fp pn,PG (blk X sc N C s H fp pn) tg g) (ht:∀C s H fp pn,PIf (blk X sc N C s H fp pn) ifs tt) (he:∀C s H fp pn,PE (blk X sc N C s H fp pn) elt te)
  (hf:X.fn y=true\/X.env.scope.names.lookup y=some .local:=by first|exact .inl rfl|exact .inr rfl|assumption)
  (hsw:swapsWith (.ListComp elt [⟨tg,iter,ifs,0⟩] sc pos) (some (.Name y py)) spos.line X.env=pure true:=by rfl)
  (hsc:scB sc=true:=by rfl) (hfr:frB X.env.scope.names sc=true:=by rfl) (hlen:N.length=ini.length:=by rfl) (hini:Smt X.N N ini X.env.scope.names sc=true:=by rfl)
  (hs:∀x,foldedSetIterable iter X.env x=pure x:=by intro _;rfl):PS X (.Assign [.Name y py] (.ListComp elt [⟨tg,iter,ifs,0⟩] sc pos) spos) (St3 i (Yev wi ini g tt te)):=by
 intro pins s σ H D I h;rw [exec_Assign_Name_used _ _ _ _ hsw];refine S7 (wpAny_standAt (S7 ?_));refine S7 (wpAny_mono (Jwu hc hi hsc hfr hlen hini hg ht he hs I h λD' H' s' C m I' f hn q=>?_) (λ_ s' hq=>S8 (S8 hq)) λ_ _ e=>e);obtain ⟨f0,f1,f2,f3,f4,f5⟩:=f;refine wpAny_assign_Name (Jxh I' hN hiy hx (v:=.ref D') rfl (λs'' I'' sb=>?_) hf);obtain ⟨a,sb,ha⟩:=sb;have hCa:C≠a:=by
  rcases ha with z|z
  ·grind
  ·grind
 refine ⟨m,hn.sameBut sb hCa,λh' sb'=>⟨_,H',I''.turned (λb o hb e=>(sb'.2 b hb).trans e) f0 f1 f3 f4 f5,q⟩⟩
end
section
variable {g:TG} {tt:TT} {te:TE} {H:Hp} {D:S4} {σ:St} {R:Hp->Prop}
theorem Jrk {lo} {n} (Pv:Nat->St->Hp->Prop) (h0:Pv 0 σ H)
  (hs:∀i σ H,i < n->Pv i σ H->g (.int (lo+i)) σ H λσ3 H3=>tt σ3 H3 λb H4=>if b=true then te σ3 H4 λv H5=>∃ys,H5 D=some (.lst ys)/\ys.length < S9/\Pv (i+1) σ3 (upd H5 D (.lst (ys++ [v]))) else Pv (i+1) σ3 H4)
  (hd:∀σ H,Pv n σ H->R H):
  ∃W:Nat->Nat->St->Hp->Prop,(∃m,W 0 m σ H)/\∀i m σ' H',W i m σ' H'->(Itr lo n).stop i H'/\R H'\/(Itr lo n).go i H'/\∃N:St->Hp->Prop,(∀σ2 H2,N σ2 H2->∃m',m' < m/\W (i+1) m' σ2 H2)/\
   ∀x H2,(Itr lo n).yld i H' x H2->g x σ' H2 λσ3 H3=>tt σ3 H3 λb H4=>if b=true then te σ3 H4 λv H5=>∃ys,H5 D=some (.lst ys)/\ys.length < S9/\N σ3 (upd H5 D (.lst (ys++ [v]))) else N σ3 H4:=by
 refine ⟨λi m σ H=>m=n - i/\i<=n/\Pv i σ H,⟨n,by simp,yal _,h0⟩,?_⟩;rintro i m σ H ⟨rfl,hi,p⟩;by_cases hlt:i < n
 ·refine .inr ⟨hlt,Pv _,λσ' H' p'=>⟨n - _,by omega,rfl,hlt,p'⟩,λx H' y=>?_⟩;obtain ⟨e,y⟩:=y;subst e y;exact hs i σ _ hlt p
 ·have e:i=n:=by omega
  subst e;exact .inl ⟨yg _,hd σ H p⟩
theorem Jni {K} {a} {xs} (Pv:Nat->St->Hp->Prop) (h0:Pv 0 σ H) (hl:∀i σ H,i<=xs.length->Pv i σ H->Sz K H a xs)
  (hs:∀i x σ H,xs[i]?=some x->Pv i σ H->g x σ H λσ3 H3=>tt σ3 H3 λb H4=>if b=true then te σ3 H4 λv H5=>∃ys,H5 D=some (.lst ys)/\ys.length < S9/\Pv (i+1) σ3 (upd H5 D (.lst (ys++ [v]))) else Pv (i+1) σ3 H4)
  (hd:∀σ H,Pv xs.length σ H->R H):
  ∃W:Nat->Nat->St->Hp->Prop,(∃m,W 0 m σ H)/\∀i m σ' H',W i m σ' H'->(Itl K a).stop i H'/\R H'\/(Itl K a).go i H'/\∃N:St->Hp->Prop,(∀σ2 H2,N σ2 H2->∃m',m' < m/\W (i+1) m' σ2 H2)/\
   ∀x H2,(Itl K a).yld i H' x H2->g x σ' H2 λσ3 H3=>tt σ3 H3 λb H4=>if b=true then te σ3 H4 λv H5=>∃ys,H5 D=some (.lst ys)/\ys.length < S9/\N σ3 (upd H5 D (.lst (ys++ [v]))) else N σ3 H4:=by
 refine ⟨λi m σ H=>m=xs.length - i/\i<=xs.length/\Pv i σ H,⟨xs.length,by simp,yal _,h0⟩,?_⟩;rintro i m σ H ⟨rfl,hi,p⟩;have q:=hl i σ H hi p;by_cases hlt:i < xs.length
 ·refine .inr ⟨⟨xs,xs[i],q,by simp [hlt]⟩,Pv _,λσ' H' p'=>⟨xs.length - _,by omega,rfl,hlt,p'⟩,λx H' y=>?_⟩;obtain ⟨e,y⟩:=y;subst e;exact hs i x σ _ (y xs q) p
 ·have e:i=xs.length:=by omega
  subst e;exact .inl ⟨⟨xs,q,yg _⟩,hd σ H p⟩
end
theorem Jna {H} {A B:St->Hp->Prop} (h:A (σ.set i (some v)) H):Jot i v σ H λσ3 H3=>Jys σ3 H3 λb H4=>if b=true then A σ3 H4 else B σ3 H4:=h
noncomputable def sgn (c:Nat):V:=.str ⟨#[c]⟩
noncomputable def Its (z:Str):It:=⟨λi _=>i < z.cps.size,λi H x H'=>H'=H/\∃c,z.cps[i]?=some c/\x=sgn c,λi _=>z.cps.size=i⟩
noncomputable def Sy2 (tl:TE):TI:=λσ H R=>tl σ H λx H1=>∃z,x= .str z/\R (Its z) H1
theorem Jzv {P:Sa} {w:Sc} {K:Sg} {tg:Expr} {z:Str} {it:S4} {n:String} {fl:Nat->Array S5} {St:Nat->Se->Prop}
  (Wk:∀A':Sd,A'.handled=none->Walks P w A' it [it] [it] z.cps.size (SignAt z) St) (hst:∀i h,St i h->∃o,h.get? it=some o/\o.cls= .type n/\∃a,o.data= .fields a)
  (hn: ["enumerate","zip","dict_itemiterator","dict_reverseitemiterator","odict_iterator","itertools.zip_longest","itertools.pairwise"].contains n=false)
  (hself:∀(A:Sd) (i:Nat) (s:S6) (Q:S5->S6->Prop) (E:S5->S6->Prop),St i s.heap->Q (.ref it) s->Sf (model P w) A (pyIter (.ref it)) Q E s):Turn P w K tg (Its z) [it] it St where
 mem:=by simp
 obj:=λi h st b hb=>by
  have e:b=it:=by simpa using hb
  subst e;obtain ⟨o,e,_,a,d⟩:=hst i h st;exact ⟨o,e,λv z=>by rw [d] at z;cases z⟩
 keep:=λi h h' st k=>by
  have W0:=Wk callerA rfl;exact W0.frame i h h' st λb hb o e=>k b hb o e
 item:=by
  intro X hP hw hK hc i pins s σ H E I hf st hg;subst hP hw hK;obtain ⟨f0,f1,f2,f3,f4,f5⟩:=hf it (by simp);have W:=Wk X.A (I.ok.hd hc);refine W.item i s _ _ hg st λv h' tk hv st' kk=>?_;obtain ⟨c,u,hcp,rfl⟩:=hv;have I1:Ss X pins σ H {s with heap:=h',toks:=tk}:=I.turned (λb o hb e=>kk b o (by simpa using hb) e) f0 f1 f3 f4 f5;obtain ⟨o,e,cl,a,d⟩:=hst _ _ st';exact ⟨_,rfl,Yan (s:={s with heap:=h',toks:=tk}) e cl d hn ⟨sgn c,H,I1,⟨u,rfl⟩,⟨rfl,c,hcp,rfl⟩,st',λb hb=>(hf b hb).1⟩⟩
 done:=by
  intro X hP hw hK hc i pins s σ H E I hf st hg;subst hP hw hK;obtain ⟨f0,f1,f2,f3,f4,f5⟩:=hf it (by simp);have W:=Wk X.A (I.ok.hd hc);have hg':z.cps.size=i:=hg;subst hg';exact W.done s _ _ st λh' tk kk=>⟨rfl,I.turned (λb o hb e=>kk b o (by simpa using hb) e) f0 f1 f3 f4 f5⟩
 self:=hself
theorem Snc {X:Cx} {tg l:Expr} {tl:TE} (hl:PE X l tl):PI X tg l (Sy2 tl):=by
 intro pins s σ H R I h;refine thn (hl pins s σ H _ I h) λv s1 zq=>?_;obtain ⟨x,H1,I1,r1,z,e,q⟩:=zq;subst e;obtain ⟨t,rfl⟩:=r1;have fin:∀(o:Obj) (St:Nat->Se->Prop) (n:String),Turn X.prog X.w X.K tg (Its z) [s1.heap.objs.size] s1.heap.objs.size St->St 0 (s1.heap.push o)->PIE X pins σ tg R (.ref s1.heap.objs.size) {s1 with heap:=s1.heap.push o}:=λo St n T st0=>by
  refine ⟨s1.heap.objs.size,[s1.heap.objs.size],St,Its z,H1,rfl,I1.kept (t':=s1.toks) λb o e=>yn _ e,T,st0,λb hb=>?_,q⟩;have e:b=s1.heap.objs.size:=by simpa using hb
  subst e;exact I1.fpOk (yg _) (I1.hok.fresh (yg _))
 cases ha:z.cps.all (· < 128)
 ·refine wpAny_pyIter_wide ha (fin _ (λi h=>h.IsStrIter s1.heap.objs.size "str_iterator" z t i) "str_iterator" (Jzv (n:="str_iterator") (fl:=λ_=>#[]) (λA' hA=>Walks.strWide hA _ z t) (λi h st=>?_) (by decide) (λA i s Q E st q=>wpAny_pyIter_striter_wide st q)) ⟨_,yt _ rfl,rfl,rfl⟩);obtain ⟨o,e,c,d⟩:=st;exact ⟨o,e,c,_,d⟩
 ·refine wpAny_pyIter_ascii ha (fin _ (λi h=>h.IsStrIter s1.heap.objs.size "str_ascii_iterator" z t i) "str_ascii_iterator" (Jzv (n:="str_ascii_iterator") (fl:=λ_=>#[]) (λA' hA=>Walks.strAscii hA _ z t) (λi h st=>?_) (by decide) (λA i s Q E st q=>wpAny_pyIter_striter_ascii st q)) ⟨_,yt _ rfl,rfl,rfl⟩);obtain ⟨o,e,c,d⟩:=st;exact ⟨o,e,c,_,d⟩
theorem Ycv {g:TG} {tt:TT} {te:TE} {H} {D} {σ} {R:Hp->Prop} (Pv:Nat->St->Hp->Prop) (h0:Pv 0 σ H)
  (hs:∀i c σ H,z.cps[i]?=some c->Pv i σ H->g (sgn c) σ H λσ3 H3=>tt σ3 H3 λb H4=>if b=true then te σ3 H4 λv H5=>∃ys,H5 D=some (.lst ys)/\ys.length < S9/\Pv (i+1) σ3 (upd H5 D (.lst (ys++ [v]))) else Pv (i+1) σ3 H4)
  (hd:∀σ H,Pv z.cps.size σ H->R H):
  ∃W:Nat->Nat->St->Hp->Prop,(∃m,W 0 m σ H)/\∀i m σ' H',W i m σ' H'->(Its z).stop i H'/\R H'\/(Its z).go i H'/\∃N:St->Hp->Prop,(∀σ2 H2,N σ2 H2->∃m',m' < m/\W (i+1) m' σ2 H2)/\
   ∀x H2,(Its z).yld i H' x H2->g x σ' H2 λσ3 H3=>tt σ3 H3 λb H4=>if b=true then te σ3 H4 λv H5=>∃ys,H5 D=some (.lst ys)/\ys.length < S9/\N σ3 (upd H5 D (.lst (ys++ [v]))) else N σ3 H4:=by
 refine ⟨λi m σ H=>m=z.cps.size - i/\i<=z.cps.size/\Pv i σ H,⟨z.cps.size,by simp,yal _,h0⟩,?_⟩;rintro i m σ H ⟨rfl,hi,p⟩;by_cases hlt:i < z.cps.size
 ·refine .inr ⟨hlt,Pv _,λσ' H' p'=>⟨z.cps.size - _,by omega,rfl,hlt,p'⟩,λx H' y=>?_⟩;obtain ⟨e,c,hcp,y⟩:=y;subst e y;exact hs i c σ _ hcp p
 ·have e:i=z.cps.size:=by omega
  subst e;exact .inl ⟨rfl,hd σ H p⟩
section
variable {X:Cx}
theorem Jom:OpR X (binaryOp .FloorDiv) (rI (λ_ j=>0 < j/\j.natAbs.log2 < 9000) λi j=>.int (i/j)):=opI λi j _ _ _ _ _ hc q=>floordiv_int (by omega) (by rw [Int.fdiv_eq_ediv_of_nonneg i (by omega)];exact q) (.inl (PyProof.noPylong_of_log2 hc.2))
noncomputable def Smh:V->Option S5
 | .ty n=>some (.type n)
 | .ref a=>some (.ref a)
 |_=>none
theorem Yb8:∀{ys:List Str} {us:List S5},Sy (ys.map V.str) us->StrsAre us ys
 | [],_,.nil=>.nil
 |_::_,_,.cons ⟨_,rfl⟩ t=>.cons _ _ (Yb8 t)
inductive Sl2 (K:Sg) (x:V) (xs:List V) (H:Hp) (Q:VK):Prop where
 |mk (z:Str) (a:S4) (ys:List Str) (_:x= .str z) (_:xs= [.ref a]) (_:Sz K H a (ys.map V.str)) (_:(ys.map (·.length)).sum+ys.length*z.length<=16777216) (_:Q (.str (Txt.join z ys)) H)
theorem Yfp:MtR X "str.join" (Sl2 X.K):=by
 rintro pins s σ H x xs v us Q I rx rs ⟨z,a,ys,rfl,rfl,hq,hz,q⟩;obtain ⟨t,rfl⟩:=rx;obtain ⟨u,rfl,ru⟩:=Joh rs;cases ru;obtain ⟨its,r,pl,_⟩:=I.list hq;exact join_list pl.isList (by simpa using Yb8 r) hz λt' k=>⟨.str _,H,I.tok _,⟨_,rfl⟩,q⟩
inductive Sy9 (K:Sg) (xs:List V) (H:Hp) (Q:VK):Prop where
 |mk (a:S4) (bs:List Bool) (_:xs= [.ref a]) (_:Sz K H a (bs.map V.bl)) (_:Q (.bl (bs.all id)) H)
theorem Jqd (hc:X.calm=true):Jnm X (.builtin "all") (Sy9 X.K):=by
 rintro pins s σ H xs us Q I r ⟨a,bs,rfl,hq,q⟩;obtain ⟨u,rfl,ru⟩:=Joh r;cases ru;obtain ⟨its,rv,pl,hz⟩:=I.list hq;have hlen:=rv.length;refine call_all_walk (wpAny_pyIter_list pl.isList ⟨s.heap.objs.size,[s.heap.objs.size,a],[s.heap.objs.size],its.toArray.size,_,_,λi=>bs.getD i true,rfl,Walks.list (A:=X.A.in1) (I.ok.hd hc) s.heap.objs.size a ?_ its.toArray,⟨⟨_,yt _ rfl,rfl,rfl⟩,pl.isList.at λo e=>yn _ e⟩,?_,λh' tk k=>?_⟩)
 ·obtain ⟨o,_,e,_⟩:=pl;exact yy (yj e)
 ·intro i v s' Q' E' hv hq';have hv':=by simpa using hv
  have hi:=(yi.mp hv').1;have hb:i < bs.length:=by rw [ye] at hlen;omega
  obtain ⟨u',hu',ru'⟩:=rv.get (by rw [ym,yh hb];rfl);rw [hv'] at hu';cases hu';cases ru';refine wpAny_truthy_bool ?_;have:bs.getD i true=bs[i]:=by rw [ybz,yh hb];rfl
  rw [<-this];exact hq'
 ·have e:((yaw its.toArray.size).all λi=>bs.getD i true)=bs.all id:=by
   have hl2:its.toArray.size=bs.length:=by rw [ye] at hlen;rw [yw];exact hlen.symm
   rw [hl2,Bool.eq_iff_iff,ybf,ybf];constructor
   ·intro hh b hb;obtain ⟨i,hi,rfl⟩:=List.getElem_of_mem hb;have:=hh i (ybu.mpr hi);rw [ybz,yh hi] at this;exact this
   ·intro hh i hi;have hi':=ybu.mp hi;rw [ybz,yh hi'];exact hh _ (ybb hi')
  rw [e];exact ⟨.bl _,H,I.kept λb o e=>k b o (λz=>by
   have z':=by simpa using z
   exact absurd (yj e) (by rw [z'];exact ybd _)) (yn _ e),rfl,q⟩
end
mutual
inductive Sc7 (K:Sg) (H:Hp):V->PyData->Prop
 |non:Sc7 K H .non .none
 |bl (b:Bool):Sc7 K H (.bl b) (.bool b)
 |int (i:Int):Sc7 K H (.int i) (.int i)
 |str (z:Str):Sc7 K H (.str z) (.str z)
 |lst {a:S4} {xs:List V} {ds:List PyData}:Sz K H a xs->Sb7 K H xs ds->Sc7 K H (.ref a) (.list ds)
 |tup {a:S4} {xs:List V} {ds:List PyData}:SqT K H a xs->Sb7 K H xs ds->Sc7 K H (.ref a) (.tuple ds)
inductive Sb7 (K:Sg) (H:Hp):List V->List PyData->Prop
 |nil:Sb7 K H [] []
 |cons {x:V} {d:PyData} {xs:List V} {ds:List PyData}:Sc7 K H x d->Sb7 K H xs ds->Sb7 K H (x::xs) (d::ds)
end
section
variable {X:Cx} {pins:List (S4×Obj)} {σ:St} {H:Hp} {s:S6}
mutual
theorem Sc7.reads (I:Ss X pins σ H s):∀{x} {d},Sc7 X.K H x d->∀{v},Sw x v->∃as,Reads s.heap v d as
 |_,_,.non,_,r=>by cases r;exact ⟨_,.none⟩
 |_,_,.bl b,_,r=>by cases r;exact ⟨_,.bool b⟩
 |_,_,.int i,_,r=>by obtain ⟨t,rfl⟩:=r;exact ⟨_,.int i t⟩
 |_,_,.str z,_,r=>by obtain ⟨t,rfl⟩:=r;exact ⟨_,.str z t⟩
 |_,_,.lst hq hd,_,r=>by
  cases r;obtain ⟨its,rv,⟨o,n,e,c,dd,dt⟩,_⟩:=I.list hq;obtain ⟨as,ra⟩:=Sb7.reads I hd rv;exact ⟨_,.list e c dt (by simpa using ra)⟩
 |_,_,.tup hq hd,_,r=>by
  cases r;obtain ⟨its,rv,⟨o,e,c,n,dt⟩,_⟩:=I.tuple hq;obtain ⟨as,ra⟩:=Sb7.reads I hd rv;exact ⟨_,.tuple e c dt (by simpa using ra)⟩
theorem Sb7.reads (I:Ss X pins σ H s):∀{xs:List V} {ds:List PyData},Sb7 X.K H xs ds->∀{us:List S5},Sy xs us->∃as,ReadsAll s.heap us ds as
 |_,_,.nil,_,r=>by cases r;exact ⟨_,.nil⟩
 |_,_,.cons h t,_,r=>by
  cases r with
  |cons r1 r2=>
   obtain ⟨as,ra⟩:=Sc7.reads I h r1;obtain ⟨bs,rb⟩:=Sb7.reads I t r2;exact ⟨_,.cons ra rb⟩
end
inductive Ss5 (K:Sg) (neg:Bool) (x:V) (y:V) (H:Hp) (Q:VK):Prop where
 |mk (d:_) (e:_) (_:Sc7 K H x d) (_:Sc7 K H y e) (_:SeqAt.shaped d=true) (_:SeqAt.shaped e=true) (_:Q (.bl (if neg then !PyData.eqv d e else PyData.eqv d e)) H)
theorem Sn6 (hu:X.A.units+64 < cLine):OpR X (compareOp .Eq) (Ss5 X.K false):=by
 rintro pins s σ H x y v u Q I rx ry ⟨d,e,hd,he,sd,se,q⟩;obtain ⟨as,ra⟩:=hd.reads I rx;obtain ⟨bs,rb⟩:=he.reads I ry;exact eq_dataH ra rb sd se hu (Jmv I q rfl)
theorem Jy8 (hu:X.A.units+64 < cLine):OpR X (compareOp .NotEq) (Ss5 X.K true):=by
 rintro pins s σ H x y v u Q I rx ry ⟨d,e,hd,he,sd,se,q⟩;obtain ⟨as,ra⟩:=hd.reads I rx;obtain ⟨bs,rb⟩:=he.reads I ry;exact ne_dataH ra rb sd se hu (Jmv I q rfl)
end
theorem Jmx:bootBuiltins "isinstance" =some (.builtin "isinstance"):=by decide +kernel
theorem Jnc:bootBuiltins "len" =some (.builtin "len"):=by decide +kernel
theorem Jup:bootBuiltins "max" =some (.builtin "max"):=by decide +kernel
theorem Y4:bootBuiltins "min" =some (.builtin "min"):=by decide +kernel
theorem Juo:bootBuiltins "all" =some (.builtin "all"):=by decide +kernel
theorem Ycr:bootBuiltins "int" =some (.type "int"):=by decide +kernel
theorem Sme:bootBuiltins "str" =some (.type "str"):=by decide +kernel
theorem Yf7:bootBuiltins "bool" =some (.type "bool"):=by decide +kernel
theorem Joq:bootBuiltins "list" =some (.type "list"):=by decide +kernel
theorem Jo5:bootBuiltins "tuple" =some (.type "tuple"):=by decide +kernel
structure FT (K:Sg) (mg:Str->Option S5) (x:Str) (st:Stmt) (ps:List Str) (f:S4) (fd:Sb):Prop where
 mgx:mg x=some (.ref f)
 fn:Fun K x x st f fd
 bd:Sbc K fd ps []
section
variable {X:Cx} {x:Str} {st:Stmt} {ps:List Str} {f:S4} {fd:Sb} {sp:Sp} {k j:Nat} {p pos:Pos} {e:Expr} {es:List Expr} {t:TA}
theorem Jm4 (F:FT X.K X.mg x st ps f fd) (G:Sv X.prog X.w X.K X.mg X.base CX0 k f fd ps sp) (hr:Sax j X.A) (hk:k<=j) (ha:PA X (e::es) t) (hg:Gl X x:=by rfl) (hdb:(x==("__debug__" :Str))=false:=by decide)
  (he:starEach (e::es) X.env=(false,eval e X.env)::starEach es X.env:=by rfl) (hpl:(backTo pos (starEach es X.env)).any (·.1)=false:=by rfl):PE X (.Call (.Name x p) (e::es) [] pos) (Sl7 sp [] E0 t):=
 Yfy G (hr.mono hk) hg F.mgx F.fn.kp F.bd .nil Jpf ha hdb he hpl
end
theorem Sl.upd (h:H D=none):Sl H (upd H D o):=λb u e=>by rw [Sx (Jm2 e h)];exact e
noncomputable def Sc4 (H:Hp) (p:S4):Prop:=∃a b c:Int,H p=some (.lst [.int a,.int b,.int c])
noncomputable def But (p:S4) (H H':Hp):Prop:=(∀b o,b≠p->H b=some o->H' b=some o)/\Sc4 H' p
theorem But.trans (a:But p H H1) (b:But p H1 H2):But p H H2:=⟨λc o n e=>b.1 c o n (a.1 c o n e),b.2⟩
theorem But.refl (s:Sc4 H p):But p H H:=⟨λ_ _ _ e=>e,s⟩
theorem But.same (a:But p H H1) (b:Sl H1 H2):But p H H2:=⟨λc o n e=>b c o (a.1 c o n e),let ⟨x,y,z,e⟩:=a.2;⟨x,y,z,b p _ e⟩⟩
theorem Sc4.same (a:Sc4 H p) (b:Sl H H1):Sc4 H1 p:=by obtain ⟨x,y,z,e⟩:=a;exact ⟨x,y,z,b p _ e⟩
theorem But.of (a:Sc4 H p) (b:Sl H H1):But p H H1:=(But.refl a).same b
theorem But.free (s:Sc4 H p) (b:But p H H') (h:H' D=none):H D=none:=by
 by_cases e:D=p
 ·obtain ⟨x,y,z,q⟩:=b.2;rw [e,q] at h;cases h
 ·cases q:H D with
  |none=>rfl
  |some o=>
   rw [b.1 D o e q] at h;cases h
theorem But.updD (b:But p H H') (hD:H D=none) (ne:D≠p):But p H (upd H' D o):=by
 refine ⟨λc u n e=>?_,?_⟩
 ·rw [Sx (Jm2 e hD)];exact b.1 c u n e
 ·obtain ⟨x,y,z,q⟩:=b.2;exact ⟨x,y,z,by rw [Sx (yx ne)];exact q⟩
theorem Sc4.ne (s:Sc4 H p) (hD:H D=none):D≠p:=by
 obtain ⟨x,y,z,q⟩:=s;exact (Jm2 q hD).symm
theorem Juh (s:Sc4 H p) (h:H a=some o) (hn:∀x y z:Int,o≠ .lst [.int x,.int y,.int z]):a≠p:=by
 intro e;obtain ⟨x,y,z,q⟩:=s;rw [e,q] at h;exact hn x y z (yac.inj h).symm
inductive Soe (vs:List V) (H:Hp) (Q:VK) (z3:XK):Prop where
 |mk (p:S4) (m:Int) (_:vs= [.ref p,.int m]) (_:Sc4 H p) (_:0 < m) (_:m.natAbs.log2 < 9000) (_:∀(r:Int) (H':Hp),0<=r->r < m->But p H H'->Q (.int r) H')
inductive Yen (vs:List V) (H:Hp) (Q:VK) (z3:XK):Prop where
 |mk (c:Int) (_:vs= [.int c]) (_:∀(p:S4) (H':Hp),H p=none->Sl H H'->Sc4 H' p->Q (.ref p) H')
inductive Snt (K:Sg) (vs:List V) (H:Hp) (Q:VK) (z3:XK):Prop where
 |mk (a:S4) (ns:List Int) (k:Nat) (_:vs= [.ref a,.int k]) (_:Sz K H a (ns.map V.int)) (_:∀n:Int,Q (.int n) H)
theorem Jrj {i:Int} {j:Nat} (hi:i=j) (h:xs[j]?=some v):atI xs i=some v:=by rw [hi];exact Js1 h
theorem Jud {ns:List Int} {k:Nat} (h):atI (ns.map V.int) (k)=some (.int ns[k]):=Js1 (by rw [ym,yh h];rfl)
theorem Jqy (hr:Sax k A):A.units+64 < cLine:=hr.units
end L2
namespace L2
open PySem PySem.Spec PyProof.Rows Builtin Builtin.ObjectAttr
noncomputable abbrev VEm:List S5:=[.type "ValueError",.type "Exception",.type "BaseException",.type "object"]
noncomputable def xcB (K:Sg) (C fI:S4):Bool:=
 Si K (.ref C) "__getattribute__" ==some (some (.builtin "BaseException.__getattribute__"))&&Si K (.ref C) "__getattr__" ==some none&&Si K (.ref C) "__setattr__" ==some (some (.builtin "object.__setattr__"))&&
 Si K (.ref C) "__init__" ==some (some (.ref fI))&&PySem.W.typeIn K (.ref fI)==some (.type "function")&&PySem.W.keepIn K (.ref C)&&PySem.W.hasDictIn K C&&Sj K C (.type "BaseException")==some true&&Sj K C (.type "object")==some true&&
 Si K (.ref C) "__class__" ==some (some (.builtin "object.__class__"))&&PySem.W.specialIn K (.builtin "object.__class__") "__get__" ==some (some (.builtin "getset_descriptor.__get__"))&&PySem.W.takesIn K (.builtin "object.__class__")==some true
structure Saj (K:Sg) (C W fI:S4):Prop where
 obj:∃(nm q:Str) (N:S4) (bs:List S5) (sn:List Str) (sub:List S5) (ab:Bool) (col:Option Bool) (dd:Option S4) (k0 k1 k2 k3 k5:Option S5),
  K.lookup C=some (excClassObj nm q C N bs (.ref W::VEm) true sn sub ab col dd k0 k1 k2 k3 k5 "ValueError.__new__")
 tl:PySem.W.tailIn K VEm (.ref W::VEm)=true
 all:xcB K C fI=true
theorem Jne {K} (h:xcB K C fI=true):
  (Si K (.ref C) "__getattribute__" =some (some (.builtin "BaseException.__getattribute__"))/\Si K (.ref C) "__getattr__" =some none/\Si K (.ref C) "__setattr__" =some (some (.builtin "object.__setattr__")))/\
  (Si K (.ref C) "__init__" =some (some (.ref fI))/\PySem.W.typeIn K (.ref fI)=some (.type "function")/\PySem.W.keepIn K (.ref C)=true/\PySem.W.hasDictIn K C=true)/\Sj K C (.type "BaseException")=some true/\Sj K C (.type "object")=some true/\
  Si K (.ref C) "__class__" =some (some (.builtin "object.__class__"))/\PySem.W.specialIn K (.builtin "object.__class__") "__get__" =some (some (.builtin "getset_descriptor.__get__"))/\PySem.W.takesIn K (.builtin "object.__class__")=some true:=by
 unfold xcB at h;simp only [yan,beq_iff_eq] at h;obtain ⟨⟨⟨⟨⟨⟨⟨⟨⟨⟨⟨a,b⟩,c⟩,d⟩,e⟩,f⟩,g⟩,i⟩,j⟩,k⟩,l⟩,m⟩:=h;exact ⟨⟨a,b,c⟩,⟨d,e,f,g⟩,i,j,k,l,m⟩
section
variable {K:Sg} {C W fI:S4} (c:Saj K C W fI)
include c
theorem Saj.ga:Si K (.ref C) "__getattribute__" =some (some (.builtin "BaseException.__getattribute__")):=(Jne c.all).1.1
theorem Saj.gh:Si K (.ref C) "__getattr__" =some none:=(Jne c.all).1.2.1
theorem Saj.sa:Si K (.ref C) "__setattr__" =some (some (.builtin "object.__setattr__")):=(Jne c.all).1.2.2
theorem Saj.ini:Si K (.ref C) "__init__" =some (some (.ref fI)):=(Jne c.all).2.1.1
theorem Saj.fn:PySem.W.typeIn K (.ref fI)=some (.type "function"):=(Jne c.all).2.1.2.1
theorem Saj.kp:PySem.W.keepIn K (.ref C)=true:=(Jne c.all).2.1.2.2.1
theorem Saj.hd:PySem.W.hasDictIn K C=true:=(Jne c.all).2.1.2.2.2
theorem Saj.mb:Sj K C (.type "BaseException")=some true:=(Jne c.all).2.2.1
theorem Saj.mo:Sj K C (.type "object")=some true:=(Jne c.all).2.2.2.1
theorem Saj.cl:Si K (.ref C) "__class__" =some (some (.builtin "object.__class__")):=(Jne c.all).2.2.2.2.1
theorem Saj.cg:PySem.W.specialIn K (.builtin "object.__class__") "__get__" =some (some (.builtin "getset_descriptor.__get__")):=(Jne c.all).2.2.2.2.2.1
theorem Saj.ct:PySem.W.takesIn K (.builtin "object.__class__")=some true:=(Jne c.all).2.2.2.2.2.2
end
theorem Yci (self) (C W):refuseLoop self "__setattr__" (.ref C:: .ref W::VEm)=pure ():=by
 rw [refuseLoop_ref,refuseLoop_ref];exact PySem.F.store_ValueError.passes self
theorem Saj.mro {K} (c:Saj K C W fI):∃cd,PySem.W.clsIn K C=some cd/\cd.mro= .ref C:: .ref W::VEm/\cd.hasDict=true:=by
 obtain ⟨nm,q,N,bs,sn,sub,ab,col,dd,k0,k1,k2,k3,k5,l⟩:=c.obj;unfold PySem.W.clsIn;rw [l];exact ⟨_,rfl,rfl,rfl⟩
section
variable {prog:Sa} {w:Sc} {A:Sd} {E:S5->S6->Prop} {s:S6} {K:Sg} {x C W fI:S4} {ox:Obj} {od:Option Obj} {name:Str}
theorem Yh8:builtinKind "BaseException.__getattribute__" =some .slot:=by decide +kernel
theorem Yf0:splitId "BaseException.__getattribute__" =some ("BaseException","__getattribute__"):=by decide +kernel
theorem Ybc {tk} {R} (c:Saj K C W fI) (X:K.In s.heap) (I:PySem.W.InstAt s.heap x ox C od) (hf:PySem.W.findObj K C od name=some r)
  (h:Sf (model prog w) A.in1 (match r with| .value v=>ret v| .bind g b=>bindTo g b (.ref x) (.ref C)| .missing=>unsupported "none")
   (λfin s'=>match fin with| .done f=>R (.ok f) s'| .again c'=>c'.quiet=true/\codeAny (model prog w) A c' R s') (λe s'=>R (.error e) s') s) (hr:r≠ .missing):
  codeAny (model prog w) A (.call (.builtin "BaseException.__getattribute__") ⟨[.ref x,.str name tk],[]⟩) R s:=by
 have T0:=I.type (M:=model prog w);have T4:PySem.W.Looks (model prog w) s.heap (isInstance (.ref x) (.type "BaseException")) true:=T0.andThen (PySem.W.looks_mroIn X c.mb);have ck:=λ{Q' E' A'} q=>
  @PySem.W.check_slot (model prog w) A' E' s "BaseException.__getattribute__" "BaseException" "__getattribute__" (.ref x) [.str name tk] [] Q' Yh8 Yf0 T4 (F.args_bexc_ga (.ref x) (.str name tk)) q
 refine codeAny_call_builtin F.excAttr_ValueError.ga.plain F.entry_bexc_ga (ck (S7 (S8 (S7 (S8 (S7 (T0.here (S7 ((PySem.W.looks_find X I hf).here ?_)))))))));cases r with
 |missing=>exact absurd rfl hr
 |value v=>exact h
 |bind gg b=>exact h
theorem Sp4 {Q} (c:Saj K C W fI) (X:K.In s.heap) (I:PySem.W.InstAt s.heap x ox C od) (hf:PySem.W.findObj K C od name=some (.value v)) (hh:PySem.W.handedIn v=true)
  (q:Q v {s with toks:=s.toks+1}):Sf (model prog w) A (getAttr (.ref x) name expr) Q E s:=by
 obtain ⟨hp,g,d,t,os⟩:=s;refine S7 (wpAny_mkText (wpAny_holding (S7 ((I.type).at (S7 ((PySem.W.looks_findIn X c.ga).at (S7 ((PySem.W.looks_findIn X c.gh).at ?_))))))));have e0:callGetattribute (.ref x) (.str name t) (.builtin "BaseException.__getattribute__") expr=boundAndCalled (.builtin "BaseException.__getattribute__") (.ref x) (.str name t):=by cases expr <;> rfl
 rw [e0];unfold boundAndCalled;rw [F.excAttr_ValueError.ga.bind];refine S7 (wpAny_attempt (wpAny_holding (S7 (S8 (wpAny_call (Ybc c X I hf (S8 ?_) (λz=>nomatch z)))))));show Sf _ _ (handedOut v) _ _ _;rw [PySem.W.handedOut_of hh];exact S8 q
end
section
variable {prog:Sa} {w:Sc} {A:Sd} {E:S5->S6->Prop} {s:S6} {K:Sg} {x C W fI:S4} {ox:Obj} {od:Option Obj} {name:Str} {v:S5}
theorem Sp5 (c:Saj K C W fI) (X:K.In s.heap) (I:PySem.W.InstAt s.heap x ox C od) (hn:Si K (.ref C) name=some none)
  (h:Sf (model prog w) A.in1 (storeInOwnDict (.ref x) (.ref C) (.str name tk) name v false)
   (λfin s'=>match fin with| .done f=>R (.ok f) s'| .again c'=>c'.quiet=true/\codeAny (model prog w) A c' R s') (λe s'=>R (.error e) s') s):
  codeAny (model prog w) A (.call (.builtin "object.__setattr__") ⟨[.ref x,.str name tk,v],[]⟩) R s:=by
 have SF:=PySem.F.store_object;obtain ⟨cd,hc,hm,_⟩:=c.mro;have T0:=I.type (M:=model prog w);have sub:PySem.W.Looks (model prog w) s.heap (isInstance (.ref x) (.type "object")) true:=T0.andThen (PySem.W.looks_mroIn X c.mo);have hmr:PySem.W.Looks (model prog w) s.heap (mroOf (.ref C)) cd.mro:=(PySem.W.looks_clsIn X hc).andThen .now;refine codeAny_call_builtin SF.slot.plain SF.entry (@PySem.W.check_slot (model prog w) _ _ s "object.__setattr__" "object" "__setattr__" (.ref x) [.str name tk,v] [] _ SF.kind SF.split sub (SF.args (.ref x) (.str name tk) v) ?_);rw [PySem.W.osa_eq,refuse_eq];refine S7 (S7 (T0.here (S7 (hmr.here ?_))));rw [hm,Yci];exact S8 (S7 (T0.here (S7 ((PySem.W.looks_findIn X hn).here (S7 (S8 h))))))
theorem Yad (c:Saj K C W fI) (X:K.In s.heap) (hx:s.heap.get? x=some ox) (hcl:ox.cls= .ref C) (hdi:ox.dict=none) (hd:ox.data= .fields vs) (hn:Si K (.ref C) name=some none)
  (h:∀h',(∀b u,b≠x->s.heap.get? b=some u->h'.get? b=some u)->h'.get? x=some {ox with dict:=some s.heap.objs.size}->h'.Ns1 s.heap.objs.size (λy=>if y=name then some v else none)->Q () {s with heap:=h',toks:=s.toks+2}):
  Sf (model prog w) A (setAttr (.ref x) name v) Q E s:=by
 have I:PySem.W.InstAt s.heap x ox C none:=⟨hx,hcl,by unfold PySem.W.notCls;rw [hd],by rw [hdi];trivial⟩;obtain ⟨cd,hc,_,hdct⟩:=c.mro;refine PySem.W.set_plain X I c.sa (Sp5 c X I hn ?_);obtain ⟨oc,odi,oda,osl⟩:=ox;subst hcl hdi hd;refine S7 (S8 (S7 (S7 (wpAny_loadPart hx (S7 (PySem.W.Looks.here (PySem.W.looks_clsIn X hc) ?_))))));rw [hdct];have e1:(s.heap.push {cls:=.type "dict",data:=.dict #[]}).get? x=some ⟨.ref C,none,.fields vs,osl⟩:=yn _ hx;have nx:=ybo (yj hx);have n0:(s.heap.push {cls:=.type "dict",data:=.dict #[]}).Ns s.heap.objs.size (λ_=>none):=⟨_,#[],_,yt s.heap rfl,rfl,(λe he=>absurd he (by simp)),λ_=>rfl⟩;refine S7 (wpAny_alloc (S7 (wpAny_update e1 ?_)));have n1:((s.heap.push {cls:=.type "dict",data:=.dict #[]}).update x λo=>{o with dict:=some s.heap.objs.size}).Ns1 s.heap.objs.size (λ_=>none):=
  (Heap.Ns1.of_empty n0).at λo q=>by rw [ybr _ _ (yx nx)];exact q
 refine S8 (S7 (S8 (S7 (wpAny_nsSet1 n1 λh' n2 sb=>?_))));obtain ⟨oD,esD,epD,hoD,hdD,hcD⟩:=n2.count (PySem.Within.cons name v PySem.Within.nil);refine S7 (wpAny_lookBehind hoD (by rw [hdD];exact pastItsLine_dict (yai hcD (Nat.le_add_left 1 S9))) (S8 (h h' (λb u hb q=>?_) ((sb.2 _ (yx nx)).trans (ycg (λo=>{o with dict:=some s.heap.objs.size}) e1 rfl)) n2)));rw [sb.2 b (yy (yj q)),ybr _ _ (yx hb)];exact yn _ q
end
noncomputable abbrev Sk7 (us:List S5):Obj:={cls:=.type "tuple",data:=.seq us.toArray}
noncomputable abbrev Sk6 (C:S4) (t:S4):Obj:={cls:=.ref C,data:=.fields #[.ref t,.none,.none,.none,.bool false,.none]}
section
variable {prog:Sa} {w:Sc} {A:Sd} {E:S5->S6->Prop} {K:Sg} {C W fI:S4} {us:List S5} {hp:Se} {g:Array GenState} {d:Drawn} {t:Nat} {os:OsState}
theorem Yf1 (c:Saj K C W fI) (X:K.In hp) (hz:us.length<=S9)
  (h:Sf (model prog w) A (call (.ref fI) (.ref (hp.objs.size+1)::us)) (λr s'=>r= .none/\Q (.done (.ret (.ref (hp.objs.size+1)))) s') E ⟨(hp.push (Sk7 us)).push (Sk6 C hp.objs.size),g,d,t,os⟩):
  Sf (model prog w) A (Builtin.«type.__call__» ⟨.ref C::us,[]⟩) Q E ⟨hp,g,d,t,os⟩:=by
 obtain ⟨nm,q,N,bs,sn,sub,ab,col,dd,k0,k1,k2,k3,k5,l⟩:=c.obj;have FV:=F.excBase_ValueError;have kC:=X _ _ l;have TL:=PySem.W.tail_of_in X c.tl;have up:∀b o,hp.get? b=some o->((hp.push (Sk7 us)).push (Sk6 C hp.objs.size)).get? b=some o:=λb o e=>yn _ (yn _ e);have X2:=X.keeps up;have kC2:=X2 _ _ l;have hcC:(Value.ref C:: .ref W::VEm).contains (.ref C)=true:=by simp
 repeat (first|with_reducible refine wpAny_loadPart_at kC ?_|with_reducible refine wpAny_madeBy_exc kC ?_|wp_step)
 refine codeAny_call_builtin_code (Code.quiet_builtin _ FV.quiet) (wpAny_check_new_subT FV TL kC (codeAny_exc_new_subT FV TL kC ?_ hz))
 repeat (first|with_reducible refine wpAny_loadPart_at gE ?_|(with_reducible refine wpAny_isSubtype_exc kC2 ?_;rw [hcC])|wp_step)
 refine (PySem.W.looks_findIn X2 c.ini).at (wpAny_holding (S7 ((PySem.W.bind_fn X2 _ c.fn).at (S7 (wpAny_mono h (λr s' hr=>?_) λ_ _ z=>z)))));obtain ⟨rfl,hQ⟩:=hr
 wp_walk
 exact hQ
theorem Yh9 {s:S6} {Q} (c:Saj K C W fI) (X:K.In s.heap) (hz:us.length<=S9)
  (h:Sf (model prog w) (A.under (.builtin "type.__call__" ⟨.ref C::us,[]⟩)) (call (.ref fI) (.ref (s.heap.objs.size+1)::us)) (λr s'=>r= .none/\Q (.ref (s.heap.objs.size+1)) s') E {s with heap:=(s.heap.push (Sk7 us)).push (Sk6 C s.heap.objs.size)}):
  Sf (model prog w) A (call (.ref C) us) Q E s:=by
 obtain ⟨hp,g,d,t,os⟩:=s;obtain ⟨nm,q,N,bs,sn,sub,ab,col,dd,k0,k1,k2,k3,k5,l⟩:=c.obj;have kC:=X _ _ l;have v1:=tc_lookup;have v2:=tc_bind (.ref C);have hT:(⟨hp,g,d,t,os⟩:S6).TypeIs (.ref C) "type" :=⟨_,kC,rfl⟩;refine wpAny_call (codeAny_of_tree ?_)
 repeat (any_goals (first|assumption|with_reducible refine wpAny_loadPart_at kC ?_|wp_step))
 exact ⟨rfl,codeAny_call_builtin_at (Code.quiet_builtin _ (by decide +kernel)) entry_typeCall (wpAny_check_type_call_sub kC (Yf1 c X hz h))⟩
end
end L2
namespace L2
open PySem PySem.Spec PyProof.Rows
noncomputable def XO (e C:S4) (dx:Option S4) (fr:Bool):HO:=.ext λh=>∃o vs,h.get? e=some o/\o.cls= .ref C/\o.dict=dx/\o.data= .fields vs/\(∃t,vs[0]?=some (.ref t))/\∃y,vs[1]?=some y/\(fr=true->y= .none)
noncomputable def XD (dx:S4) (fs:List (Str×V)):HO:=.ext λh=>∃mA,h.Ns1 dx mA/\(∀f,Scm (fs.lookup f) (mA f))/\PySem.Within mA (fs.map (·.1))/\fs.length<=1000
section
variable {P:Sa} {w:Sc} {H:Hp} {h:Se} {e C dx:S4} {od:Option S4} {fr:Bool} {fs:List (Str×V)}
theorem Yf2 (he:h.get? e=some o) (h1:o.cls= .ref C) (h2:o.dict=od) (h3:o.data= .fields vs) (h4:∃t,vs[0]?=some (.ref t)) (h5:∃y,vs[1]?=some y/\(fr=true->y= .none)):Sai P w H h e (XO e C od fr):=
 ⟨⟨o,vs,he,h1,h2,h3,h4,h5⟩,⟨o,he⟩,λ_ _ ⟨o,vs,a,r⟩ k=>⟨o,vs,k o a,r⟩⟩
theorem Jw5 (hok:HOk P w H h) (q:H e=some (XO e C od fr)):∃o vs,h.get? e=some o/\o.cls= .ref C/\o.dict=od/\o.data= .fields vs/\(∃t,vs[0]?=some (.ref t))/\∃y,vs[1]?=some y/\(fr=true->y= .none):=(hok e _ q).1
theorem St6 (n:h.Ns1 dx mA) (r:∀f,Scm (fs.lookup f) (mA f)) (w':PySem.Within mA (fs.map (·.1))) (z:fs.length<=1000):Sai P w H h dx (XD dx fs):=
 ⟨⟨mA,n,r,w',z⟩,(let ⟨o,_,_,q,_⟩:=n;⟨o,q⟩),λ_ _ ⟨m,a,r⟩ k=>⟨m,a.at k,r⟩⟩
theorem Sp6 (hok:HOk P w H h) (q:H dx=some (XD dx fs)):∃mA,h.Ns1 dx mA/\(∀f,Scm (fs.lookup f) (mA f))/\PySem.Within mA (fs.map (·.1))/\fs.length<=1000:=(hok dx _ q).1
theorem Ybd (hok:HOk P w H h) (q:H e=some (XO e C (some dx) fr)) (qd:H dx=some (XD dx fs)):∃(ox oD:Obj) (mA:Str->Option S5),PySem.W.InstAt h e ox C (some oD)/\(∀n,PySem.W.lookIn n oD=some (mA n))/\∀f,Scm (fs.lookup f) (mA f):=by
 obtain ⟨o,vs,he,hc,hd,hf,_⟩:=Jw5 hok q;obtain ⟨mA,n1,r,_⟩:=Sp6 hok qd;obtain ⟨oD,hD,hl⟩:=Jx6 n1;exact ⟨o,oD,mA,⟨he,hc,by unfold PySem.W.notCls;rw [hf],by rw [hd];exact hD⟩,hl,r⟩
end
section
variable {X:Cx} {pins:List (S4×Obj)} {σ:St} {H:Hp} {s:S6} {e C W fI dx:S4} {fs:List (Str×V)} {fr:Bool} {f:Str} {v:V} {A:Sd} {E:S5->S6->Prop}
theorem Jzz (I:Ss X pins σ H s) (q:H e=some (XO e C (some dx) fr)) (qd:H dx=some (XD dx fs)) (c:Saj X.K C W fI) (n:NoAttr X.K C f) (l:fs.lookup f=some v)
  (h:∀u s',Ss X pins σ H s'->Sw v u->Q u s'):Sf (model X.prog X.w) A (getAttr (.ref e) f b) Q E s:=by
 obtain ⟨ox,oD,mA,J,hl,r⟩:=Ybd I.hok q qd;obtain ⟨u,hu,ru⟩:=Scm.some_of (by rw [<-l];exact r f);exact Sp4 c I.kIn J (PySem.W.findObj_own c.hd n rfl (by rw [hl,hu])) (Jx2 ru) (h u _ (I.tok _) ru)
theorem Yf3 (I:Ss X pins σ H s) (q:H e=some (XO e C none fr)) (c:Saj X.K C W fI) (n:NoAttr X.K C f) (ry:Sw y u)
  (h:∀dx s',H dx=none->dx≠e->Ss X pins σ (upd (upd H dx (XD dx [(f,y)])) e (XO e C (some dx) fr)) s'->Q () s'):Sf (model X.prog X.w) A (setAttr (.ref e) f u) Q E s:=by
 obtain ⟨o,vs,he,hc,hd,hf,h0,h1⟩:=Jw5 I.hok q;have hn:=I.hok.fresh (yg _);refine Yad c I.kIn he hc hd hf n λh' kp ke n1=>h s.heap.objs.size _ hn (ybo (yj he)) ?_;have qd:∀m:Hp,Sai X.prog X.w m h' s.heap.objs.size (XD s.heap.objs.size [(f,y)]):=λm=>St6 n1 (λg=>by
  by_cases z:g=f
  ·have zb:=beq_iff_eq.mpr z;simp only [ybp,zb,if_pos z];exact ry
  ·have zb:=beq_eq_false_iff_ne.mpr z;simp only [ybp,zb,if_neg z];exact True.intro) (λg hg=>by
  by_cases z:g=f
  ·rw [z];simp
  ·exact absurd (if_neg z) hg) (by simp)
 have un1:Un X.fs [] H (upd (upd H s.heap.objs.size (XD s.heap.objs.size [(f,y)])) e (XO e C (some s.heap.objs.size) fr)) s.heap h':=by
  have nb:∀b ob,s.heap.get? b=some ob->b≠s.heap.objs.size:=λb ob z=>yy (yj z);have sm:∀b u',H b=some u'->u'≠XO e C none fr->upd (upd H s.heap.objs.size (XD s.heap.objs.size [(f,y)])) e (XO e C (some s.heap.objs.size) fr) b=some u':=λb u' z d=>by
   rw [Sx (λw':b=e=>d (by rw [w',q] at z;exact (yac.inj z).symm)),Sx (Jm2 z hn)];exact z
  refine ⟨λb ob z n _ _=>kp b ob (λw'=>by rw [w',q] at n;cases n) z,λb ob z n _ _=>⟨ob.slots,kp b ob (λw'=>by rw [w',q] at n;cases n) z⟩,λb ob z n _=>?_,λb ob z _=>?_,λb xs z=>sm b _ z (λw'=>by cases w'),λb ob u' z=>sm b _ z (λw'=>by cases w'),λb ps z=>⟨#[],by rw [sm b _ z (λw'=>by cases w')];simp⟩⟩
  ·rw [Sx (λw'=>by rw [w',q] at n;cases n),Sx (nb b ob z)];exact n
  ·by_cases w':b=e
   ·exact ⟨_,by rw [w'];exact ke⟩
   ·exact ⟨ob,kp b ob w' z⟩
 refine I.un un1 λb ob z=>?_;by_cases w1:b=e
 ·subst w1;rw [Sr] at z;cases z;exact Yf2 ke hc rfl hf h0 h1
 ·rw [Sx w1] at z;by_cases w2:b=s.heap.objs.size
  ·subst w2;rw [Sr] at z;cases z;exact qd _
  ·rw [Sx w2] at z;have keep:∀c' u',H c'=some u'->u'≠XO e C none fr->upd (upd H s.heap.objs.size (XD s.heap.objs.size [(f,y)])) e (XO e C (some s.heap.objs.size) fr) c'=some u':=λc' u' zz d=>by
    rw [Sx (λw':c'=e=>d (by rw [w',q] at zz;exact (yac.inj zz).symm)),Sx (Jm2 zz hn)];exact zz
   refine (I.hok b ob z).stay (λc' v' hc' zz=>kp c' v' ?_ zz) (λc' zz=>keep c' _ zz (λw'=>by cases w')) (λc' xs zz=>keep c' _ zz (λw'=>by cases w')) λc' xs zz=>keep c' _ zz (λw'=>by cases w');rcases hc' with rfl|hc'
   ·exact w1
   ·rintro rfl;rw [q] at hc';cases hc'
theorem Ss.xmade (I:Ss X pins σ H s):Ss X pins σ (upd H (s.heap.objs.size+1) (XO (s.heap.objs.size+1) C none true)) {s with heap:=(s.heap.push (Sk7 us)).push (Sk6 C s.heap.objs.size)}:=by
 refine (I.kept (t':=s.toks) λb u q=>yn _ q).laid (λb u q=>yn _ q) (Nat.le_of_eq (yau _ _)) ?_;exact Yf2 (Heap.get?_push_at (by simp only [yau]) rfl) rfl rfl rfl ⟨_,rfl⟩ ⟨_,rfl,λ_=>rfl⟩
end
inductive Yh0 (K:Sg) (f:Str) (Q:VK) (x:V) (H1:Hp):Prop where
 |mk (e:_) (C:_) (W:_) (fI:_) (dx:_) (fs:_) (v:_) (fr:_) (_:x= .ref e) (_:H1 e=some (XO e C (some dx) fr)) (_:H1 dx=some (XD dx fs)) (_:Saj K C W fI) (_:NoAttr K C f) (_:fs.lookup f=some v) (_:Q v H1)
noncomputable def Ssw (K:Sg) (ta:TE) (f:Str):TE:=λσ H Q=>ta σ H (Yh0 K f Q)
noncomputable def Ssf (K:Sg) (ta tv:TE) (f:Str):TS:=λD σ H=>tv σ H λy H1=>ta σ H1 λx H2=>∃e C W fI fr,x= .ref e/\H2 e=some (XO e C none fr)/\Saj K C W fI/\NoAttr K C f/\∀dx,H2 dx=none->dx≠e->
 D.nx σ (upd (upd H2 dx (XD dx [(f,y)])) e (XO e C (some dx) fr))
noncomputable def Ssu (C:S4) (sp:Sp) (t:TA):TE:=λσ H Q=>t σ H λvs H1=>vs.length<=1000/\∀e,H1 e=none->sp (.ref e::vs) (upd H1 e (XO e C none true)) (λv H2=>v= .non/\Q (.ref e) H2) E0
section
variable {X:Cx} {o e value:Expr} {f:Str} {pos pos' tpos p:Pos} {ta tv:TE} {C W fI:S4} {fd:Sb} {ps:List Str} {sp:Sp} {k j:Nat} {x:Str} {es:List Expr} {t:TA}
theorem Yaz (he:PE X e ta) (hb:attributeBase e f X.env (eval e X.env)=eval e X.env):PE X (.Attribute e f pos) (Ssw X.K ta f):=by
 intro pins s σ H Q I h;refine Yaf hb (thn (he pins s σ H _ I h) λu s1 zq=>?_);obtain ⟨x,H1,I1,rx,a,C,W,fI,dx,fs,v,fr,ex,q,qd,c,n,l,k⟩:=zq;subst ex;obtain rfl:u=Value.ref a:=rx;exact Jzz I1 q qd c n l λu' s2 I2 ru=>⟨v,H1,I2,ru,k⟩
theorem Jp3 (ha:PE X o ta) (hv:PE X value tv) (hs:swapsWith value (some (.Attribute o f pos')) pos.line X.env=pure false):PS X (.Assign [.Attribute o f pos'] value pos) (Ssf X.K ta tv f):=by
 intro pins s σ H D I h;refine plainObj_wpAny_Assign_Attribute (thn (hv pins s σ H _ I h) λu s1 ⟨y,H1,I1,ry,q⟩=>thn (ha pins s1 σ H1 _ I1 q) λov s2 zq=>?_) hs;obtain ⟨x,H2,I2,rx,a,C,W,fI,fr,ex,ea,c,n,q2⟩:=zq;subst ex;obtain rfl:ov=Value.ref a:=rx;exact Yf3 I2 ea c n ry λdx s3 h1 h2 I3=>⟨σ,_,I3,q2 dx h1 h2⟩
theorem Ygb {σ:St} {H} {s} {Q} {us} {vs} (c:Saj X.K C W fI) (G:Sv X.prog X.w X.K X.mg X.base CX0 k fI fd ps sp) (hr:Sax (k+1) X.A) (hb:Sbc X.K fd ps []) (I:Ss X pins σ H s) (r:Sy vs us) (hz:vs.length<=1000)
  (h:∀e,H e=none->sp (.ref e::vs) (upd H e (XO e C none true)) (λv H2=>v= .non/\Q (.ref e) H2) E0):Sf (model X.prog X.w) X.A (call (.ref C) us) (EP X pins σ Q) X.xe s:=by
 have hq:=h (s.heap.objs.size+1) (I.hok.fresh (Nat.le_succ _));have I2:=Ss.xmade (C:=C) (us:=us) I;have r2:Sy (V.ref (s.heap.objs.size+1)::vs) (Value.ref (s.heap.objs.size+1)::us):=.cons rfl r;have hl:(Value.ref (s.heap.objs.size+1)::us++ []).length=ps.length:=by
  rw [yba,<-r2.length,G.len _ _ _ _ hq]
 refine Yh9 c I.kIn (by rw [<-r.length];exact yai hz (by decide)) (wpAny_call (codeAny_mono (G.run _ X.stack _ _ ⟨Value.ref (s.heap.objs.size+1)::us,[]⟩ (Value.ref (s.heap.objs.size+1)::us) _ _ E0 (hr.make C us [])
  (I2.env0.make C us []) (by have:=hb _ (Value.ref (s.heap.objs.size+1)::us) I2.kIn hl;rw [yba] at this;exact this) r2 hq) λr s' hq'=>?_))
 cases r with
 |error e=>exact False.elim hq'
 |ok fl=>
  cases fl with
  |ret u=>
   obtain ⟨v,H',I3,rv,ev,q3⟩:=I2.after hq';subst ev;exact ⟨rv,⟨V.ref (s.heap.objs.size+1),H',I3,rfl,q3⟩⟩
  |next=>exact False.elim hq'
  |brk=>exact False.elim hq'
  |cont=>exact False.elim hq'
theorem Jnz (c:Saj X.K C W fI) (G:Sv X.prog X.w X.K X.mg X.base CX0 k fI fd ps sp) (hr:Sax j X.A) (hk:k+1<=j) (hb:Sbc X.K fd ps []) (hm:X.mg x=some (.ref C)) (ha:PA X (e::es) t) (hg:Gl X x:=by rfl)
  (hdb:(x==("__debug__" :Str))=false:=by decide) (he:starEach (e::es) X.env=(false,eval e X.env)::starEach es X.env:=by rfl) (hpl:(backTo pos (starEach es X.env)).any (·.1)=false:=by rfl):
  PE X (.Call (.Name x p) (e::es) [] pos) (Ssu C sp t):=by
 intro pins s σ H Q I h;exact wpAny_Call_Name_kw (Jpy I hg hm (PySem.W.callWith_K I.ok.mod.kin c.kp (thn (ha pos pins s σ H _ I h) λus s1 ⟨vs,H1,I1,r,z,q⟩=>⟨I1.kIn,Ygb c G (hr.mono hk) hb I1 r z q⟩) he hpl) hdb)
end
section
variable {K:Sg} {C W fI:S4} {x:S4}
theorem Syz (c:Saj K C W fI):PySem.W.KitX K (.ref x) (.ref C) (λh=>∃ox od,PySem.W.InstAt h x ox C (some od)) where
 ty:=λ_ _ _ ⟨_,_,I⟩=>I.type
 it:=λ_ _ X _=>by
  obtain ⟨nm,q,N,bs,sn,sub,ab,col,dd,k0,k1,k2,k3,k5,l⟩:=c.obj;intro A' Q' E' s' k q;exact S7 (wpAny_loadPart (k _ _ (X _ _ l)) (S8 q))
 ne:=λh tp dd its n sl X htp=>by
  obtain ⟨nm,q,N,bs,sn,sub,ab,col,dd,k0,k1,k2,k3,k5,l⟩:=c.obj;refine Bool.eq_false_iff.mpr λz=>?_;have e:=Value.ref.inj (beq_iff_eq.mp z);subst e;have z:=congrArg (Option.map (·.cls)) ((X _ _ l).symm.trans htp);simp at z
 ca:=λ{prog w A E Q s} X ⟨ox,od,I⟩ kq=>by
  have hf:PySem.W.findObj K C (some od) "__class__" =some (.bind (.builtin "getset_descriptor.__get__") (.builtin "object.__class__")):=PySem.W.findObj_data (by obtain ⟨cd,hc,_⟩:=c.mro;rw [hc];rfl) c.cl c.cg c.ct;obtain ⟨hp,g,d,t,os⟩:=s;refine S7 (wpAny_mkText (S7 (wpAny_attempt (wpAny_holding (S7 ((I.type).at (S7 ((PySem.W.looks_findIn X c.ga).at (S7 ((PySem.W.looks_findIn X c.gh).at ?_))))))))));show Sf _ _ ((holding _ (boundAndCalled (.builtin "BaseException.__getattribute__") (.ref x) (.str "__class__" t))).attempt >>=_) _ _ _;unfold boundAndCalled;rw [F.excAttr_ValueError.ga.bind];exact S7 (wpAny_attempt (wpAny_holding (S7 (S8 (wpAny_call (Ybc c X I hf (S7 (wpAny_holding (wpAny_call (PySem.W.class_get X I c.mo (S8 (S8 (S8 kq))))))) (λz=>nomatch z)))))))
end
section
variable {M:Model} {A:Sd} {E:S5->S6->Prop} {s:S6} {env:Env} {outer:List Env} {base:Se} {L e T:S4} {oe oT:Obj} {vs ts:Array S5} {Q:Unit->S6->Prop}
theorem Jxd {hadNext} (hfr:A.frames=some (env::outer)) (hl:s.heap.FunFrames base (env::outer)) (hf:env.frame=some L) (he:s.heap.get? e=some oe) (hd:oe.data= .fields vs) (hz:1 < vs.size)
  (hQ:∀h' T,(∀b o,s.heap.get? b=some o->b∉frs (env::outer)->b≠e->h'.get? b=some o)->(∀b o,s.heap.get? b=some o->b≠e->∃sl,h'.get? b=some {o with slots:=sl})->s.heap.objs.size<=T->
   h'.get? e=some (oe.mapFields (·.setIfInBounds 1 (.ref T)))->(∃oT ts,h'.get? T=some oT/\oT.data= .fields ts/\ts[3]?=some (rawInt L))->Q () {s with heap:=h'}):
  Sf M A (do let a<-frameOf env;let pl<-entryPlaceOf L hadNext;let b<-EntryCells.newEntry head a .none (rawInt L) .none pl;setField (.ref e) 1 b) Q E s:=by
 have hen:e∉frs (env::outer):=λz=>by
  obtain ⟨_,o,ho,nf⟩:=hl.mem z;rw [he] at ho;cases ho;exact nf vs hd
 refine S7 (wpAny_frameOf_fun hfr hl hf λh1 sl1=>S7 (wpAny_entryPlaceOf λpl hpl=>?_));unfold EntryCells.newEntry newFields;have he1:=(sl1.2.1 e hen).trans he;refine S7 (wpAny_newObj_type (wpAny_setField (yn _ he1) hd hz (hQ _ h1.objs.size (λb o hb hn ne=>?_) (λb o hb ne=>?_) (Nat.le_of_eq sl1.1.symm) (ycg _ (yn _ he1) (Obj.isFreed_of_fields (Obj.data_mapFields hd _))) ?_)) (hpl.sizeOk5 _ _ _ _ _))
 ·rw [ybr _ _ (yx ne)];exact yn _ ((sl1.2.1 b hn).trans hb)
 ·obtain ⟨sl,q⟩:=sl1.2.2 b o hb;exact ⟨sl,by rw [ybr _ _ (yx ne)];exact yn _ q⟩
 ·refine ⟨_,_,(ybr _ _ (yx (ybo (yj he1)))).trans (yt h1 rfl),rfl,?_⟩
  first|(simp;done)|(rcases hpl with rfl|⟨_,_,_,_,_,_,_,rfl⟩ <;> simp)
theorem Yq (hfr:A.frames=some (env::outer)) (hl:s.heap.FunFrames base (env::outer)) (hf:env.frame=some L) (he:s.heap.get? e=some oe) (hd:oe.data= .fields vs) (h1:vs[1]?=some .none)
  (hQ:∀h' T,(∀b o,s.heap.get? b=some o->b∉frs (env::outer)->b≠e->h'.get? b=some o)->(∀b o,s.heap.get? b=some o->b≠e->∃sl,h'.get? b=some {o with slots:=sl})->s.heap.objs.size<=T->
   h'.get? e=some (oe.mapFields (·.setIfInBounds 1 (.ref T)))->(∃oT ts,h'.get? T=some oT/\oT.data= .fields ts/\ts[3]?=some (rawInt L))->Q () {s with heap:=h'}):
  Sf M A (noteFrame (.ref e) env) Q E s:=by
 unfold noteFrame;simp only [hf];exact S7 (wpAny_field he hd h1 (Jxd hfr hl hf he hd (ych.mp h1).1 hQ))
theorem Ybx (hfr:A.frames=some (env::outer)) (hl:s.heap.FunFrames base (env::outer)) (hf:env.frame=some L) (he:s.heap.get? e=some oe) (hd:oe.data= .fields vs) (h1:vs[1]?=some (.ref T))
  (hT:s.heap.get? T=some oT) (hdT:oT.data= .fields ts) (h3:ts[3]?=some .none) (ne:T≠e)
  (hQ:∀h' T',(∀b o,s.heap.get? b=some o->b∉frs (env::outer)->b≠e->b≠T->h'.get? b=some o)->(∀b o,s.heap.get? b=some o->b≠e->b≠T->∃sl,h'.get? b=some {o with slots:=sl})->s.heap.objs.size<=T'->
   h'.get? e=some (oe.mapFields (·.setIfInBounds 1 (.ref T')))->(∃oT ts,h'.get? T'=some oT/\oT.data= .fields ts/\ts[3]?=some (rawInt L))->Q () {s with heap:=h'}):
  Sf M A (noteFrame (.ref e) env) Q E s:=by
 unfold noteFrame;simp only [hf];refine S7 (wpAny_field he hd h1 (S7 (wpAny_field hT hdT h3 ?_)));have ot:∀b,b≠T->(s.heap.update T (Obj.mapFields (·.setIfInBounds 3 Value.none))).get? b=s.heap.get? b:=λb hb=>ybr _ _ (yx hb);have nr:∀b o,s.heap.get? b=some o->(∀ws,o.data≠ .fields ws)->b≠T:=λb o hb nf z=>by
  rw [z,hT] at hb;cases hb;exact nf ts hdT
 refine S7 (wpAny_setField hT hdT (ych.mp h3).1 ?_);refine Jxd hfr (hl.of_keeps λb o hb nf=>⟨o,(ot b (nr b o hb nf)).trans hb,rfl⟩) hf ((ot e (yx ne)).trans he) hd (ych.mp h1).1 λh' T' k1 k2 k3 k4 k5=>?_;refine hQ h' T' (λb o hb hn h1 h2=>k1 b o ((ot b h2).trans hb) hn h1) (λb o hb h1 h2=>k2 b o ((ot b h2).trans hb) h1) ?_ k4 k5;have z:(s.heap.update T (Obj.mapFields (·.setIfInBounds 3 Value.none))).objs.size=s.heap.objs.size:=Heap.size_after_update ..;rw [<-z];exact k3
end
noncomputable def Flt (X:Cx) (pins:List (S4×Obj)) (H:Hp) (h:Se) (e:S4) (fl:S5):Prop:=
 ∃oe vs T oT ts,h.get? e=some oe/\oe.data= .fields vs/\vs[1]?=some (.ref T)/\H T=none/\h.get? T=some oT/\oT.data= .fields ts/\ts[3]?=some fl/\X.s₀.heap.objs.size<=T/\∀p∈X.pn++pins,p.1≠T
noncomputable def Yae (X:Cx):Prop:=X.stack=X.env::X.outer/\X.env.frame=some X.env.locals
section
variable {X:Cx} {pins:List (S4×Obj)} {σ:St} {H:Hp} {s:S6} {e C:S4} {od:Option S4} {fr fr':Bool} {A:Sd} {M:Model} {E:S5->S6->Prop} {Q:Unit->S6->Prop} {fl:S5} {h':Se}
theorem Ss.freeOf (I:Ss X pins σ H s) (hb:s.heap.get? b=some o) (hd:o.data= .fields ts):b≠X.env.locals/\∀x c,X.env.cells.lookup x=some c->c≠b:=by
 refine ⟨λz=>?_,λx c e z=>?_⟩
 ·obtain ⟨m,⟨o',es,ep,ho',hd',_⟩,_⟩:=I.loc;rw [z,ho'] at hb;cases hb;rw [hd'] at hd;cases hd
 ·obtain ⟨v,o',ho',hd'⟩:=I.cell x c e;rw [z,hb] at ho';cases ho';rw [hd] at hd';cases hd'
theorem Ss.fly {ch:List S4} (I:Ss X pins σ H s) (q:H e=some (XO e C od fr)) (hch:∀b∈ch,X.s₀.heap.objs.size<=b/\H b=none/\(∃o ts,s.heap.get? b=some o/\o.data= .fields ts)/\∀p∈X.pn++pins,p.1≠b)
  (k:∀b o,s.heap.get? b=some o->b∉frs X.stack->b≠e->b∉ch->h'.get? b=some o) (ks:∀b o,s.heap.get? b=some o->b≠e->b∉ch->∃sl,h'.get? b=some {o with slots:=sl})
  (new:Sai X.prog X.w (upd H e (XO e C od fr')) h' e (XO e C od fr')):Ss X pins σ (upd H e (XO e C od fr')) {s with heap:=h'}:=by
 have ne:∀b u,H b=some u->u≠XO e C od fr->b≠e:=λb u z d w'=>d (by rw [w',q] at z;exact (yac.inj z).symm);have nn:∀b,H b=none->b≠e:=λb z w'=>by rw [w',q] at z;cases z
 have u:Un (frs X.stack) ch H (upd H e (XO e C od fr')) s.heap h':=by
  refine ⟨λb o hb n hs hc=>k b o hb hs (nn b n) hc,λb o hb n _ hc=>ks b o hb (nn b n) hc,λb o _ n _=>by rw [Sx (nn b n)];exact n,λb o hb hc=>?_,λb xs z=>?_,λb o u z=>?_,λb ps z=>⟨#[],?_⟩⟩
  ·by_cases w':b=e
   ·rw [w'];exact new.2.1
   ·obtain ⟨sl,z⟩:=ks b o hb w' hc;exact ⟨_,z⟩
  ·rw [Sx (ne b _ z (λw'=>by cases w'))];exact z
  ·rw [Sx (ne b _ z (λw'=>by cases w'))];exact z
  ·rw [Sx (ne b _ z (λw'=>by cases w')),z];simp
 refine I.call u (λb o z=>?_) I.bare λb hb=>?_
 ·by_cases w':b=e
  ·subst w';rw [Sr] at z;cases z;exact new
  ·rw [Sx w'] at z;refine (I.hok b o z).stay (λc v hc zz=>k c v zz ?_ ?_ ?_) (λc zz=>by rw [Sx (ne c _ zz (λw'=>by cases w'))];exact zz) (λc xs zz=>by rw [Sx (ne c _ zz (λw'=>by cases w'))];exact zz) λc xs zz=>by rw [Sx (ne c _ zz (λw'=>by cases w'))];exact zz
   ·intro hs;have:=I.stkFree c hs;rcases hc with rfl|hc
    ·rw [this] at z;cases z
    ·rw [this] at hc;cases hc
   ·rcases hc with rfl|hc
    ·exact w'
    ·exact ne c _ hc (λw'=>by cases w')
   ·intro hb;have:=(hch c hb).2.1;rcases hc with rfl|hc
    ·rw [this] at z;cases z
    ·rw [this] at hc;cases hc
 ·obtain ⟨h1,_,⟨o,ts,ho,hd⟩,h4⟩:=hch b hb;exact ⟨.inr h1,(I.freeOf ho hd).1,(I.freeOf ho hd).2,h4⟩
theorem Yav (I:Ss X pins σ H s) (hs:Yae X) (hA:A.frames=some X.stack) (q:H e=some (XO e C od fr)) (hfl:fr=true\/Flt X pins H s.heap e .none)
  (h:∀s',Ss X pins σ (upd H e (XO e C od false)) s'->Flt X pins (upd H e (XO e C od false)) s'.heap e (rawInt X.env.locals)->Q () s'):Sf M A (noteFrame (.ref e) X.env) Q E s:=by
 obtain ⟨o,vs,he,hc,hd,hf,⟨t0,h0⟩,y,h1,hy⟩:=Jw5 I.hok q;have hA':A.frames=some (X.env::X.outer):=by rw [hA,hs.1]
 have FF:s.heap.FunFrames X.base (X.env::X.outer):=by rw [<-hs.1];exact I.stack
 have sub:∀b,b∉frs X.stack->b∉frs (X.env::X.outer):=λb z w'=>z (by rw [hs.1];exact w');have new:∀{h':Se} {T:S4},h'.get? e=some (o.mapFields (·.setIfInBounds 1 (.ref T)))->Sai X.prog X.w (upd H e (XO e C od false)) h' e (XO e C od false):=λ{h' T} z=>by
  refine Yf2 z ((Obj.cls_mapFields _ _).trans hc) ?_ (Obj.data_mapFields hf _) ⟨t0,by rw [Array.getElem?_setIfInBounds_ne (by decide)];exact h0⟩ ⟨.ref T,by simp [((ych.mp h1).1)],λz=>nomatch z⟩;obtain ⟨_,_,dt,_⟩:=o;cases dt <;> first|exact hd|cases hf
 have fin:∀{h':Se} {T:S4},Ss X pins σ (upd H e (XO e C od false)) {s with heap:=h'}->s.heap.objs.size<=T->h'.get? e=some (o.mapFields (·.setIfInBounds 1 (.ref T)))->(∃oT ts,h'.get? T=some oT/\oT.data= .fields ts/\ts[3]?=some (rawInt X.env.locals))->Q () {s with heap:=h'}:=λ{h' T} J k3 k4 ⟨oT,ts,k5,k6,k7⟩=>by
  refine h _ J ⟨_,_,T,oT,ts,k4,Obj.data_mapFields hf _,by simp [((ych.mp h1).1)],?_,k5,k6,k7,yai I.sz k3,λp hp z=>?_⟩
  ·rw [Sx (λz=>absurd (yj he) (by rw [<-z];exact ybk.mpr k3))];exact I.hok.fresh k3
  ·obtain ⟨z1,_⟩:=I.pin p hp;exact absurd (yj z1) (by rw [z];exact ybk.mpr k3)
 by_cases hfr:y= .none
 ·subst hfr;refine Yq hA' FF hs.2 he hf h1 λh' T k1 k2 k3 k4 k5=>fin (I.fly (ch:=[]) q (λb z=>absurd z (by simp)) (λb o hb hn ne _=>k1 b o hb (sub b hn) ne) (λb o hb ne _=>k2 b o hb ne) (new k4)) k3 k4 k5
 ·rcases hfl with z|⟨oe,ws,T,oT,ts,z1,z2,z3,z4,z5,z6,z7,z8,z9⟩
  ·exact absurd (hy z) hfr
  ·rw [he] at z1;cases z1;rw [hf] at z2;cases z2;have ne:T≠e:=λw'=>by rw [w',q] at z4;cases z4
   refine Ybx hA' FF hs.2 he hf z3 z5 z6 z7 ne λh' T' k1 k2 k3 k4 k5=>fin (I.fly (ch:=[T]) q (λb hb=>?_) (λb o hb hn ne hc=>k1 b o hb (sub b hn) ne (by simpa using hc)) (λb o hb ne hc=>k2 b o hb ne (by simpa using hc)) (new k4)) k3 k4 k5;obtain rfl:b=T:=by simpa using hb
   exact ⟨z8,z4,⟨oT,ts,z5,z6⟩,z9⟩
theorem Jt1 (I:Ss X pins σ H s) (q:H e=some (XO e C od fr)) (hfl:Flt X pins H s.heap e fl) (h:∀s',Ss X pins σ H s'->Flt X pins H s'.heap e .none->Q () s'):Sf M A (setFlight (.ref e) none) Q E s:=by
 obtain ⟨oe,vs,T,oT,ts,z1,z2,z3,z4,z5,z6,z7,z8,z9⟩:=hfl;have hz:=(ych.mp z7).1;have ne:T≠e:=λw'=>by rw [w',q] at z4;cases z4
 have ot:∀b,b≠T->(s.heap.update T (Obj.mapFields (·.setIfInBounds 3 Value.none))).get? b=s.heap.get? b:=λb hb=>ybr _ _ (yx hb);exact wpAny_setFlight_none z1 z2 z3 z5 z6 hz (h _ (I.turned (λb o hb z=>(ot b hb).trans z) z4 (I.freeOf z5 z6).1 (.inr z8) (I.freeOf z5 z6).2 z9) ⟨oe,vs,T,_,_,(ot e (yx ne)).trans z1,z2,z3,z4,ycg _ z5 (Obj.isFreed_of_fields (Obj.data_mapFields z6 _)),Obj.data_mapFields z6 _,by simp [hz],z8,z9⟩)
end
noncomputable def CXX (P:Sa) (w:Sc):CXT:=λouter H s E ev s'=>∃e C dx H',ev= .ref e/\s'.os=s.os/\AllBare s'.gens/\Un (frs outer) [] H H' s.heap s'.heap/\HOk P w H' s'.heap/\H' e=some (XO e C (some dx) false)/\
 (∃oe vs T oT ts,s'.heap.get? e=some oe/\oe.data= .fields vs/\vs[1]?=some (.ref T)/\H' T=none/\s'.heap.get? T=some oT/\oT.data= .fields ts/\ts[3]?=some .none/\s.heap.objs.size<=T)/\E (.ref C) (some e) H'
noncomputable def Jtm (X:Cx) (R:St->XK):Prop:=∀pins σ H s e C dx fr,Ss X pins σ H s->H e=some (XO e C (some dx) fr)->(fr=true\/Flt X pins H s.heap e .none)->R σ (.ref C) (some e) (upd H e (XO e C (some dx) false))->X.xe (.ref e) s
theorem Jn6 {K}:
  Jtm (Jz7 (CXX P w) P w K mg base N qual scope f cd A outer s H E) (λ_=>E):=by
 intro pins σ H1 s1 e C dx fr I q hfl hE;refine S7 (Yav I ⟨rfl,rfl⟩ I.ok.frames q hfl λs2 I2 f2=>Jt1 I2 Sr f2 λs3 I3 f3=>?_);obtain ⟨oe,vs,T,oT,ts,z1,z2,z3,z4,z5,z6,z7,z8,_⟩:=f3;exact ⟨e,C,dx,_,rfl,I3.os,I3.bare,I3.base,I3.hok,Sr,⟨oe,vs,T,oT,ts,z1,z2,z3,z4,z5,z6,z7,z8⟩,hE⟩
theorem Sp0 {o} (h:H a=some o):upd H a o=H:=by
 funext b;unfold upd;split
 ·rename_i z;rw [z,h]
 ·rfl
section
variable {X:Cx} {pins:List (S4×Obj)} {σ:St} {H:Hp} {s s':S6} {R:St->XK} {ev:S5}
theorem Ybe (hw:Jtm X R) (I:Ss X pins σ H s) (h:CXX X.prog X.w X.stack H s (R σ) ev s'):X.xe ev s':=by
 obtain ⟨e,C,dx,H',rfl,ho,hg,un,hok,q,⟨oe,vs,T,oT,ts,z1,z2,z3,z4,z5,z6,z7,z8⟩,hR⟩:=h;refine hw pins σ H' s' e C dx false (I.call' ho un hok hg λb z=>absurd z (by simp)) q (.inr ⟨oe,vs,T,oT,ts,z1,z2,z3,z4,z5,z6,z7,yai I.sz z8,λp hp z=>?_⟩) (by rw [Sp0 q];exact hR);obtain ⟨y1,_⟩:=I.pin p hp;exact absurd (yj y1) (by rw [z];exact ybk.mpr z8)
end
theorem Sv.calm {K} (G:Sv P w K mg base (CXX P w) k f fd ps sp):Sv P w K mg base CX0 k f fd ps (λvs H Q _=>sp vs H Q E0):=
 ⟨λvs H Q _ h=>G.len vs H Q E0 h,λA outer s H args us vs Q E hr he hb hv hs=>codeAny_mono (G.run A outer s H args us vs Q E0 hr he hb hv hs) λr s' hq=>by
  cases r with
  |error e=>obtain ⟨_,_,_,_,_,_,_,_,_,_,_,z⟩:=hq;exact z.elim
  |ok fl=>cases fl <;> exact hq⟩
theorem Fun.okX {K} {st} (F:Fun K x qual st f fd) (S:Jm6 N ps (Jm5 st)) (len:∀vs H Q E,sp vs H Q E->vs.length=ps.length)
  (hbody:∀cdv A outer s H vs Q E,Sax k (A.deeper (envOfC qual (Jm5 st) s.heap.objs.size f cdv))->sp vs H Q E->
   ∃t,PSs (Jz7 (CXX P w) P w K mg base N qual (Jm5 st) f cdv A outer s H E) (Jnf st) t/\t {nx:=λ_ H'=>Q .non H',rt:=Q} (start N vs) H):Sv P w K mg base (CXX P w) (k+1) f fd ps sp:=by
 obtain ⟨dV,oc,od,kV,doc,pm,an,cdv,ct,osl,rfl,lk,hcd⟩:=F.ex;exact Skt lk hcd S len λA outer s H vs Q E hr hsp=>hbody cdv A outer s H vs Q E hr hsp
noncomputable def Sok (sp:Sp) (R:St->XK) (t:TA):TE:=λσ H Q=>t σ H λvs H1=>sp vs H1 Q (R σ)
noncomputable def Soq (C:S4) (sp:Sp) (R:St->XK) (t:TA):TE:=λσ H Q=>t σ H λvs H1=>∀x dx,H1 x=none->H1 dx=none->dx≠x->
 sp (.ref x::vs) (upd (upd H1 dx (.own x)) x (.ins C dx [])) (λv H2=>v= .non/\Q (.ref x) H2) (R σ)
section
variable {X:Cx} {k j:Nat} {f C:S4} {fd:Sb} {ps:List Str} {sp:Sp} {R:St->XK} {x m:Str} {p pos apos:Pos} {e o:Expr} {es:List Expr} {ta:TE} {t:TA}
theorem Ygc (G:Sv X.prog X.w X.K X.mg X.base (CXX X.prog X.w) k f fd ps sp) (hw:Jtm X R) (hr:Sax k X.A) (hb:Sbc X.K fd ps [])
  (I:Ss X pins σ H s) (r:Sy vs us) (h:sp vs H Q (R σ)):Sf (model X.prog X.w) X.A (call (.ref f) us) (EP X pins σ Q) X.xe s:=by
 have hl:(us++ []).length=ps.length:=by rw [yba,<-r.length,G.len _ _ _ _ h]
 have hb':=hb s us I.kIn hl;rw [yba] at hb';refine wpAny_call (codeAny_mono (G.run X.A X.stack s H ⟨us,[]⟩ us vs Q (R σ) hr I.env0 hb' r h) λr s' hq=>?_);cases r with
 |error e=>exact Ybe hw I hq
 |ok fl=>
  cases fl with
  |ret u=>exact I.after hq
  |next=>exact False.elim hq
  |brk=>exact False.elim hq
  |cont=>exact False.elim hq
theorem Jo7 {st} (F:FT X.K X.mg x st ps f fd) (G:Sv X.prog X.w X.K X.mg X.base (CXX X.prog X.w) k f fd ps sp) (hw:Jtm X R) (hr:Sax j X.A) (hk:k<=j) (ha:PA X (e::es) t) (hg:Gl X x:=by rfl)
  (hdb:(x==("__debug__" :Str))=false:=by decide) (he:starEach (e::es) X.env=(false,eval e X.env)::starEach es X.env:=by rfl) (hpl:(backTo pos (starEach es X.env)).any (·.1)=false:=by rfl):
  PE X (.Call (.Name x p) (e::es) [] pos) (Sok sp R t):=by
 intro pins s σ H Q I h;exact wpAny_Call_Name_kw (Jpy I hg F.mgx (PySem.W.callWith_K I.ok.mod.kin F.fn.kp (thn (ha pos pins s σ H _ I h) λus s1 ⟨vs,H1,I1,r,q⟩=>⟨I1.kIn,Ygc G hw (hr.mono hk) F.bd I1 r q⟩) he hpl) hdb)
theorem Jvq (Mk':Mk X.K C f) (G:Sv X.prog X.w X.K X.mg X.base (CXX X.prog X.w) k f fd ps sp) (hw:Jtm X R) (hr:Sax j X.A) (hk:k+1<=j) (hb:Sbc X.K fd ps []) (hm:X.mg x=some (.ref C)) (ha:PA X (e::es) t) (hg:Gl X x:=by rfl)
  (hdb:(x==("__debug__" :Str))=false:=by decide) (he:starEach (e::es) X.env=(false,eval e X.env)::starEach es X.env:=by rfl) (hpl:(backTo pos (starEach es X.env)).any (·.1)=false:=by rfl):
  PE X (.Call (.Name x p) (e::es) [] pos) (Soq C sp R t):=by
 intro pins s σ H Q I h;refine wpAny_Call_Name_kw (Jpy I hg hm (PySem.W.callWith_K I.ok.mod.kin Mk'.kp (thn (ha pos pins s σ H _ I h) λus s1 ⟨vs,H1,I1,r,q⟩=>⟨I1.kIn,?_⟩) he hpl) hdb);have hq:=q (s1.heap.objs.size+1) s1.heap.objs.size (I1.hok.fresh (Nat.le_succ _)) (I1.hok.fresh (yg _)) (yy (ybw _));have I2:=Ss.made (C:=C) I1;have r2:Sy (V.ref (s1.heap.objs.size+1)::vs) (Value.ref (s1.heap.objs.size+1)::us):=.cons rfl r;have hl:(Value.ref (s1.heap.objs.size+1)::us++ []).length=ps.length:=by
  rw [yba,<-r2.length,G.len _ _ _ _ hq]
 refine wpAny_call (Jze I1.kIn Mk'.makes Mk'.init (beq_iff_eq.mp Mk'.fn) (codeAny_mono (G.run _ X.stack _ _ ⟨Value.ref (s1.heap.objs.size+1)::us,[]⟩ (Value.ref (s1.heap.objs.size+1)::us) _ _ (R σ) ((hr.mono hk).make C us [])
  (I2.env0.make C us []) (by have:=hb _ (Value.ref (s1.heap.objs.size+1)::us) I2.kIn hl;rw [yba] at this;exact this) r2 hq) λr s' hq'=>?_))
 cases r with
 |error e=>exact Ybe hw I2 hq'
 |ok fl=>
  cases fl with
  |ret u=>
   obtain ⟨v,H',I3,rv,ev,q3⟩:=I2.after hq';subst ev;exact ⟨rv,⟨V.ref (s1.heap.objs.size+1),H',I3,rfl,q3⟩⟩
  |next=>exact False.elim hq'
  |brk=>exact False.elim hq'
  |cont=>exact False.elim hq'
end
noncomputable def Yeb (K:Sg) (R:St->XK) (te:TE):TS:=λ_ σ H=>te σ H λv H1=>∃e C W fI dx,v= .ref e/\H1 e=some (XO e C (some dx) true)/\Saj K C W fI/\R σ (.ref C) (some e) (upd H1 e (XO e C (some dx) false))
section
variable {X:Cx} {R:St->XK} {x:Expr} {pos:Pos} {te:TE}
theorem Jn7 (hw:Jtm X R) (hc:X.calm=true) (hx:PE X x te):PS X (.Raise (some x) none pos) (Yeb X.K R te):=by
 intro pins s σ H D I h;refine S7 (wpAny_standAt (S7 (S7 (thn (hx pins s σ H _ I h) λu s1 ⟨y,H1,I1,ry,e,C,W,fI,dx,ey,q,c,k⟩=>S7 (wpAny_standAt (S8 ?_))))));subst ey;obtain rfl:u=Value.ref e:=ry;obtain ⟨o,vs,he,hcl,hd,hf,h0,y,h1,hy⟩:=Jw5 I1.hok q;obtain ⟨nm,qn,N,bs,sn,sub,ab,col,dd,k0,k1,k2,k3,k5,l⟩:=c.obj;have kC:=I1.kIn _ _ l;have hcB:(Value.ref C:: .ref W::VEm).contains (.type "BaseException")=true:=by simp
 obtain ⟨oc,odi,oda,osl⟩:=o;subst hcl hd hf
 repeat (first|with_reducible refine wpAny_loadPart_at he ?_|with_reducible refine wpAny_loadPart_at kC ?_|(with_reducible refine wpAny_isSubtype_exc kC ?_;rw [hcB])|with_reducible refine wpAny_field he rfl h1 ?_|wp_step)
 exact wpAny_raiseNew_none (I.ok.hd hc) (hw pins σ H1 s1 e C dx true I1 q (.inl rfl) k)
end
structure Sii (K:Sg) (C:S4):Prop where
 obj:∃(dd:Option S4) (cd:ClassData) (sl:Array (Option S5)),K.lookup C=some ⟨.type "type",dd,.cls cd,sl⟩
 mb:Sj K C (.type "BaseException")=some true
section
variable {prog:Sa} {w:Sc} {A:Sd} {E:S5->S6->Prop} {s:S6} {K:Sg} {e C C0:S4} {oe:Obj} {b:Bool}
theorem Yn (X:K.In s.heap) (c0:Sii K C0) (he:s.heap.get? e=some oe) (hc:oe.cls= .ref C) (hm:Sj K C (.ref C0)=some b) (q:Q b s):Sf (model prog w) A (excMatches (.ref e) (.ref C0)) Q E s:=by
 obtain ⟨dd,cd,sl,l⟩:=c0.obj;have k0:=X _ _ l;have f0:=tc_notTuple;obtain ⟨oc,odi,oda,osl⟩:=oe;subst hc
 repeat (first|with_reducible refine wpAny_loadPart_at he ?_|with_reducible refine wpAny_loadPart_at k0 ?_|with_reducible refine (PySem.W.looks_mroIn X c0.mb).at ?_|with_reducible refine (PySem.W.looks_mroIn X hm).at ?_|wp_step)
 cases b <;> (repeat wp_step) <;> exact q
end
noncomputable def Cx.caught (X:Cx) (e:S4):Cx:={X with A:=X.A.mark (some (.ref e)),calm:=false,xe:=λ_ _=>False}
noncomputable def Cx.tried (X:Cx) (pins:List (S4×Obj)) (R:St->XK):Cx:=
 {X with pn:=X.pn++pins,xe:=λev s'=>∃σ H e C dx fr,ev= .ref e/\Ss X pins σ H s'/\H e=some (XO e C (some dx) fr)/\(fr=true\/Flt X pins H s'.heap e .none)/\R σ (.ref C) (some e) (upd H e (XO e C (some dx) false))}
section
variable {X:Cx} {pins pins':List (S4×Obj)} {σ:St} {H:Hp} {s:S6} {R:St->XK} {e:S4}
theorem Ss.caught (I:Ss X pins σ H s) (e):Ss (X.caught e) pins σ H s:=
 ⟨⟨I.ok.mod,I.ok.kind,I.ok.glob,I.ok.blt,I.ok.above,I.ok.inj,I.ok.has,I.ok.cab,(λz=>nomatch z),I.ok.frames,I.ok.stk,I.ok.exf,I.ok.bs,I.ok.bsz,I.ok.noex,I.ok.exfs,I.ok.funs,I.ok.frf⟩,I.os,I.bare,I.base,I.loc,I.cell,I.free,I.freeC,I.pin,I.hok,I.len⟩
theorem Ss.uncaught (ok:X.Ok) (I:Ss (X.caught e) pins σ H s):Ss X pins σ H s:=⟨ok,I.os,I.bare,I.base,I.loc,I.cell,I.free,I.freeC,I.pin,I.hok,I.len⟩
theorem Ss.tried (I:Ss X pins σ H s) (R):Ss (X.tried pins R) [] σ H s:=
 ⟨⟨I.ok.mod,I.ok.kind,I.ok.glob,I.ok.blt,I.ok.above,I.ok.inj,I.ok.has,I.ok.cab,I.ok.hd,I.ok.frames,I.ok.stk,I.ok.exf,I.ok.bs,I.ok.bsz,I.ok.noex,I.ok.exfs,I.ok.funs,I.ok.frf⟩,I.os,I.bare,I.base,I.loc,I.cell,I.free,I.freeC,(λp hp=>I.pin p (by rw [yba] at hp;exact hp)),I.hok,I.len⟩
theorem Ss.untried (I:Ss (X.tried pins R) pins' σ H s):Ss X pins σ H s:=
 ⟨⟨I.ok.mod,I.ok.kind,I.ok.glob,I.ok.blt,I.ok.above,I.ok.inj,I.ok.has,I.ok.cab,I.ok.hd,I.ok.frames,I.ok.stk,I.ok.exf,I.ok.bs,I.ok.bsz,I.ok.noex,I.ok.exfs,I.ok.funs,I.ok.frf⟩,I.os,I.bare,I.base,I.loc,I.cell,I.free,I.freeC,(λp hp=>I.pin p (ycr _ hp)),I.hok,I.len⟩
theorem Sp7:Jtm (X.tried pins R) R:=λpins' σ H s e C dx fr I q hfl hR=>⟨σ,H,e,C,dx,fr,rfl,I.untried,q,hfl.imp id λ⟨oe,vs,T,oT,ts,z1,z2,z3,z4,z5,z6,z7,z8,z9⟩=>⟨oe,vs,T,oT,ts,z1,z2,z3,z4,z5,z6,z7,z8,λp hp=>z9 p (ycr _ hp)⟩,hR⟩
theorem SP.map (hI:∀σ H,Ss X pl σ H s'->Ss Y pm σ H s') (h:SP X pl D f s'):SP Y pm D f s':=by
 cases f with
 |next=>obtain ⟨σ',H',I,q⟩:=h;exact ⟨σ',H',hI _ _ I,q⟩
 |brk=>obtain ⟨σ',H',I,q⟩:=h;exact ⟨σ',H',hI _ _ I,q⟩
 |cont=>obtain ⟨σ',H',I,q⟩:=h;exact ⟨σ',H',hI _ _ I,q⟩
 |ret u=>obtain ⟨v,σ',H',I,r,q⟩:=h;exact ⟨v,σ',H',hI _ _ I,r,q⟩
theorem Ych {i} {n} {pos} {Q} (I:Ss X pins σ H s) (hN:X.N.Nodup) (hi:X.N[i]?=some n) (hk:X.env.scope.names.lookup n=some .local)
  (h:∀s',Ss X pins (σ.set i none) H s'->Q () s'):Sf M A (do bindName X.env n .none;unbindBehindTheSuite X.env n pos) Q E s:=by
 obtain ⟨m,hn,hl⟩:=id I.loc;have hcls:(X.env.scope.kind== .class||(X.env.scope.kind== .module&&X.env.locals !=X.env.globals))=false:=by rw [I.ok.kind];rfl
 have cne:=I.cne;refine wpAny_nameGoes_keeps hk hn hcls λh' v hn' sb=>h _ ?_;have lo:∀b o,X.s₀.heap.get? b=some o->b≠X.env.locals:=λb o z=>yy (yar (yj z) I.ok.above);refine ⟨I.ok,I.os,I.bare,⟨λb o z n hb hx=>(sb.2 b (lo b o z)).trans (I.base.keep b o z n hb hx),λb o z n hb hx=>?_,I.base.free,λb o z hx=>?_,I.base.tups,I.base.frzs,I.base.tbls⟩,⟨_,hn',λj y v' e1 e2 e3=>?_⟩,λy c z=>?_,I.free,I.freeC,λp hp=>?_,λb ob z=>?_,by simpa using I.len⟩
 ·obtain ⟨sl,z1⟩:=I.base.slot b o z n hb hx;exact ⟨sl,(sb.2 b (lo b o z)).trans z1⟩
 ·obtain ⟨o',z1⟩:=I.base.there b o z hx;exact ⟨o',(sb.2 b (lo b o z)).trans z1⟩
 ·have hj:j≠i:=λz=>by
   subst z;have:j < σ.length:=by rw [I.len];exact (yi.mp hi).1
   rw [List.getElem?_set_self this] at e2;cases e2
  rw [List.getElem?_set_ne (yx hj)] at e2;obtain ⟨u',r',q⟩:=hl j y v' e1 e2 e3;refine ⟨u',r',?_⟩;rcases q with ⟨k,z⟩|⟨k,c,z,zz⟩
  ·refine .inl ⟨k,?_⟩;have:y≠n:=λz=>hj (Jv8 hN e1 (z▸hi));show (if y=n then v else m y)=some u';rw [if_neg this];exact z
  ·exact .inr ⟨k,c,z,zz.sameBut sb (cne y c z)⟩
 ·obtain ⟨w',zz⟩:=I.cell y c z;exact ⟨w',zz.sameBut sb (cne y c z)⟩
 ·obtain ⟨z,n,ne,nf,d⟩:=I.pin p hp;exact ⟨(sb.2 p.1 ne).trans z,n,ne,nf,d⟩
 ·refine (I.hok b ob z).stay (λc w' hc q=>(sb.2 c ?_).trans q) (λ_ q=>q) (λ_ _ q=>q) λ_ _ q=>q;rintro rfl;rcases hc with rfl|hc
  ·rw [I.free] at z;cases z
  ·rw [I.free] at hc;cases hc
end
noncomputable abbrev TH:=Sc8->St->S5->Option S4->Hp->Prop
noncomputable def PH (X:Cx) (hs:List ExceptHandler) (th:TH):Prop:=
 ∀(pins:List (S4×Obj)) (s:S6) (σ:St) (H:Hp) (D:Sc8) (e C dx:S4),Ss X pins σ H s->H e=some (XO e C (some dx) false)->Flt X pins H s.heap e .none->th D σ (.ref C) (some e) H->
  Sf (model X.prog X.w) X.A (handleBy (.ref e) X.env hs) (SP X pins D) X.xe s
noncomputable def Sxy:TH:=λ_ _ _ _ _=>False
theorem Sna:PH X [] Sxy:=λ_ _ _ _ _ _ _ _ _ _ _ h=>h.elim
noncomputable def Sc8.less (D:Sc8) (i:Nat):Sc8:=⟨λσ H=>D.nx (σ.set i none) H,D.rt,λσ H=>D.bk (σ.set i none) H,λσ H=>D.ct (σ.set i none) H⟩
noncomputable def hAs (K:Sg) (C0:S4) (i:Nat) (ts:S4->TS) (th:TH):TH:=λD σ c eo H=>∃e C b,c= .ref C/\eo=some e/\Sj K C (.ref C0)=some b/\if b=true then ts e (D.less i) (σ.set i (some (.ref e))) H else th D σ c eo H
section
variable {X:Cx} {x n:Str} {np pos:Pos} {C0:S4} {i:Nat} {b₀:Stmt} {suite:List Stmt} {rest:List ExceptHandler} {ts:S4->TS} {th:TH}
theorem Skz (c0:Sii X.K C0) (hm:X.mg x=some (.ref C0)) (hN:X.N.Nodup) (hi:X.N[i]?=some n) (hl:X.env.scope.names.lookup n=some .local) (hsu:∀e,PSs (X.caught e) (b₀::suite) (ts e)) (hr:PH X rest th) (hg:Gl X x:=by rfl)
  (hdb:(x==("__debug__" :Str))=false:=by decide):PH X (.ExceptHandler (some (.Name x np)) (some n) (b₀::suite) pos::rest) (hAs X.K C0 i ts th):=by
 rintro pins s σ H D e C dx I q hfl ⟨e',C',b,hC,he,hmr,h⟩;cases hC;cases he;obtain ⟨o,vs,go,gc,_⟩:=Jw5 I.hok q;refine wpAny_handleBy_cons (codeAny_handlers_test (Jpy (I.caught e) hg hm (Yn I.kIn c0 go gc hmr ?_) hdb)) (λz=>by cases z);cases b with
 |false=>exact hr pins s σ H D e C dx I q hfl h
 |true=>
  refine codeAny_handlers_suite_as (Jt1 I q hfl λs1 I1 f1=>Jsr (v:=.ref e) I1 hN hi (.inl hl) rfl (λs2 I2=>wpAny_mono (hsu e pins s2 _ H (D.less i) (I2.caught e) h) (λf s3 hf=>?_) λ_ _ z=>False.elim z) (.inr hl));have go:∀{f:Flow} {σ':St} {H':Hp},Ss (X.caught e) pins σ' H' s3->(∀s',Ss X pins (σ'.set i none) H' s'->SP X pins D f s')->Sf (model X.prog X.w) X.A (do bindName X.env n .none;unbindBehindTheSuite X.env n pos) (λ_ s'=>SP X pins D f s') X.xe s3:=
   λ{f σ' H'} I3 k=>Ych (Ss.uncaught I.ok I3) hN hi hl k
  cases f with
  |next=>obtain ⟨σ',H',I3,k⟩:=hf;exact go I3 λs' I'=>⟨_,H',I',k⟩
  |brk=>obtain ⟨σ',H',I3,k⟩:=hf;exact go I3 λs' I'=>⟨_,H',I',k⟩
  |cont=>obtain ⟨σ',H',I3,k⟩:=hf;exact go I3 λs' I'=>⟨_,H',I',k⟩
  |ret u=>obtain ⟨v,σ',H',I3,r,k⟩:=hf;exact go I3 λs' I'=>⟨v,_,H',I',r,k⟩
end
noncomputable def Syv (tb:List (S4×Obj)->(St->XK)->TS) (th:TH):TS:=λD σ H=>∀pins,tb pins (λσ' c e H'=>th D σ' c e H') D σ H
theorem Snf (hst:Yae X) (hb:∀pins R,Jtm (X.tried pins R) R->PSs (X.tried pins R) body (tb pins R)) (hh:PH X (h₀::hs) th):
  PS X (.Try body (h₀::hs) [] [] pos) (Syv tb th):=by
 intro pins s σ H D I h;refine wpAny_Try_except (wpAny_mono (hb pins (λσ' c e H'=>th D σ' c e H') Sp7 [] s σ H D (I.tried _) (h pins)) (λf s1 hf=>?_) λev s1 hx=>?_)
 ·have hf':=hf.map λ_ _ J=>J.untried;cases f with
  |next=>exact wpAny_execs_nil hf'
  |brk=>exact hf'
  |cont=>exact hf'
  |ret u=>exact hf'
 ·obtain ⟨σ',H',e,C,dx,fr,rfl,I',q,hfl,hR⟩:=hx;exact Yav I' hst I'.ok.frames q hfl λs2 I2 f2=>Jt1 I2 Sr f2 λs3 I3 f3=>hh pins s3 σ' _ D e C dx I3 Sr f3 hR
structure FM (K:Sg) (x qual:Str) (st:Stmt) (ps:List Str) (f:S4) (fd:Sb):Prop where
 fn:Fun K x qual st f fd
 bd:Sbc K fd ps []
structure Sgm (K:Sg) (C:S4):Prop where
 ya:Si K (.ref C) "__class__" =some (some (.builtin "object.__class__"))
 yb:PySem.W.specialIn K (.builtin "object.__class__") "__get__" =some (some (.builtin "getset_descriptor.__get__"))
 yc:PySem.W.takesIn K (.builtin "object.__class__")=some true
 yd:Sj K C (.type "object")=some true
theorem Sgm.ty {K} {C a dx} {H} {fs} (y:Sgm K C) (c:Cls K C) (e:H a=some (.ins C dx fs)):Jsv K H (.ref a) (.ref C):=.ins e c y.ya y.yb y.yc y.yd
inductive Jp7 (K:Sg) (f:Str) (vs:List V) (H:Hp) (Q:VK) (z3:XK):Prop where
 |mk (e:_) (C:_) (W:_) (fI:_) (y:_) (_:vs= [.ref e,y]) (_:H e=some (XO e C none true)) (_:Saj K C W fI) (_:NoAttr K C f) (_:∀dx,H dx=none->dx≠e->Q .non (upd (upd H dx (XD dx [(f,y)])) e (XO e C (some dx) true)))
theorem Ybs {K} {C W fI} {f} {y} {H} {Q:VK} (c:Saj K C W fI) (n:NoAttr K C f) (k:∀e dx,H e=none->H dx=none->dx≠e->Q (.ref e) (upd (upd H dx (XD dx [(f,y)])) e (XO e C (some dx) true))):
  [y].length<=1000/\∀e,H e=none->Jp7 K f (.ref e:: [y]) (upd H e (XO e C none true)) (λv H2=>v= .non/\Q (.ref e) H2) E0:=by
 refine ⟨by simp,λe he=>⟨e,C,W,fI,y,rfl,Sr,c,n,λdx h1 h2=>⟨rfl,?_⟩⟩⟩;have e2:upd (upd (upd H e (XO e C none true)) dx (XD dx [(f,y)])) e (XO e C (some dx) true)=upd (upd H dx (XD dx [(f,y)])) e (XO e C (some dx) true):=by
  funext b;unfold upd;split
  ·rfl
  ·split <;> rfl
 rw [e2];exact (k e dx he (by rw [Sx h2] at h1;exact h1) h2)
section
variable {X:Cx} {pins:List (S4×Obj)} {σ:St} {H:Hp} {s:S6}
theorem Ss.turnTup {ch:List S4} (I:Ss X pins σ H s) (hch:∀b∈ch,Jsu X pins H b) (k:∀b o,b∉ch->s.heap.get? b=some o->h'.get? b=some o) (hT:s.heap.objs.size<=T)
  (new:Sai X.prog X.w (upd H T (.tup xs)) h' T (.tup xs)):Ss X pins σ (upd H T (.tup xs)) {s with heap:=h',toks:=t'}:=by
 have nb:∀b o,s.heap.get? b=some o->b≠T:=λb o z w'=>absurd (yj z) (by rw [w'];exact ybk.mpr hT);have nt:∀b u,H b=some u->b≠T:=λb u z=>Jm2 z (I.hok.fresh hT);have nc:∀b u,H b=some u->b∉ch:=λb u z w'=>by rw [(hch b w').1] at z;cases z
 have u:Un (frs X.stack) ch H (upd H T (.tup xs)) s.heap h':=by
  refine ⟨λb o hb n hs hc=>k b o hc hb,λb o hb n _ hc=>⟨o.slots,k b o hc hb⟩,λb o hb n _=>by rw [Sx (nb b o hb)];exact n,λb o hb hc=>⟨o,k b o hc hb⟩,λb ys z=>by rw [Sx (nt b _ z)];exact z,λb o v z=>by rw [Sx (nt b _ z)];exact z,λb ps z=>⟨#[],by rw [Sx (nt b _ z),z];simp⟩⟩
 refine I.call u (λb o z=>?_) I.bare λb hb=>?_
 ·by_cases w':b=T
  ·subst w';rw [Sr] at z;cases z;exact new
  ·rw [Sx w'] at z;refine (I.hok b o z).stay (λc v hc zz=>k c v ?_ zz) (λc zz=>by rw [Sx (nt c _ zz)];exact zz) (λc ys zz=>by rw [Sx (nt c _ zz)];exact zz) λc ys zz=>by rw [Sx (nt c _ zz)];exact zz
   rcases hc with rfl|hc
   ·exact nc c o z
   ·exact nc c _ hc
 ·obtain ⟨_,h1,_,h3,h4,h5⟩:=hch b hb;exact ⟨h3,h1,h4,h5⟩
theorem Ss.turnMany {ch:List S4} (I:Ss X pins σ H s) (hch:∀b∈ch,Jsu X pins H b) (k:∀b o,b∉ch->s.heap.get? b=some o->h'.get? b=some o):Ss X pins σ H {s with heap:=h',toks:=t'}:=by
 have nc:∀b u,H b=some u->b∉ch:=λb u z w'=>by rw [(hch b w').1] at z;cases z
 have u:Un (frs X.stack) ch H H s.heap h':=
  ⟨λb o hb n hs hc=>k b o hc hb,λb o hb n _ hc=>⟨o.slots,k b o hc hb⟩,λb o hb n _=>n,λb o hb hc=>⟨o,k b o hc hb⟩,λb ys z=>z,λb o v z=>z,λb ps z=>⟨#[],by rw [z];simp⟩⟩
 refine I.call u (λb o z=>(I.hok b o z).stay (λc v hc zz=>k c v ?_ zz) (λ_ zz=>zz) (λ_ _ zz=>zz) λ_ _ zz=>zz) I.bare λb hb=>?_
 ·rcases hc with rfl|hc
  ·exact nc c o z
  ·exact nc c _ hc
 ·obtain ⟨_,h1,_,h3,h4,h5⟩:=hch b hb;exact ⟨h3,h1,h4,h5⟩
end
theorem Y5:bootBuiltins "zip" =some (.type "zip"):=by decide +kernel
section
variable {X:Cx} {pins:List (S4×Obj)} {σ:St} {H:Hp} {s:S6}
inductive TyX (K:Sg) (H:Hp):V->S5->Prop where
 |of {x:V} {t:S5}:Jsv K H x t->TyX K H x t
 |exc {e C W fI dx:S4} {fs:List (Str×V)} {fr:Bool}:H e=some (XO e C (some dx) fr)->H dx=some (XD dx fs)->Saj K C W fI->TyX K H (.ref e) (.ref C)
theorem TyX.kit (I:Ss X pins σ H s) (rx:Sw x u) (ty:TyX X.K H x t):u≠ .builtin "__main__.__loader__#opaque" /\∃Hh,PySem.W.KitX X.K u t Hh/\Hh s.heap:=by
 cases ty with
 |exc q qd c=>
  obtain rfl:u=Value.ref _:=rx;obtain ⟨ox,oD,mA,J,_,_⟩:=Ybd I.hok q qd;exact ⟨(λz=>nomatch z),_,Syz c,ox,oD,J⟩
 |of ty=>
  cases ty with
  |non=>cases (rx);exact ⟨(λz=>nomatch z),_,PySem.W.kitx_none,trivial⟩
  |bl y=>cases (rx);exact ⟨(λz=>nomatch z),_,PySem.W.kitx_bool,trivial⟩
  |int i=>obtain ⟨t,q⟩:=(show ∃t,u=Value.int i t from rx);cases q;exact ⟨(λz=>nomatch z),_,PySem.W.kitx_int,trivial⟩
  |str y=>obtain ⟨t,q⟩:=(show ∃t,u=Value.str y t from rx);cases q;exact ⟨(λz=>nomatch z),_,PySem.W.kitx_str,trivial⟩
  |flt y=>obtain ⟨t,q⟩:=(show ∃t,u=Value.float y t from rx);cases q;exact ⟨(λz=>nomatch z),_,PySem.W.kitx_float,trivial⟩
  | @lst a xs ea=>
   cases (rx);obtain ⟨_,_,n,_,h1⟩:=(I.hok a _ ea);exact ⟨(λz=>nomatch z),_,PySem.W.kitx_list,_,h1,rfl⟩
  | @frz a ob xs ea=>
   cases (rx);obtain ⟨_,_,_,n,_,h1⟩:=(I.hok a _ ea);exact ⟨(λz=>nomatch z),_,PySem.W.kitx_list,_,h1,rfl⟩
  | @tup a xs ea=>
   cases (rx);obtain ⟨_,_,_,o,h1,h2,_⟩:=(I.hok a _ ea);exact ⟨(λz=>nomatch z),_,PySem.W.kitx_tuple,o,h1,h2⟩
  | @dK a kvs ea=>
   cases (rx);obtain ⟨_,_,vs,_,o,es,ep,h1,h2,_⟩:=(I.hok a _ ea);exact ⟨(λz=>nomatch z),_,PySem.W.kitx_dict,o,h1,h2.1⟩
  | @dT a kvs ea=>
   cases (rx);obtain ⟨_,_,xs,_,o,es,ep,h1,h2,_⟩:=(I.hok a _ ea);exact ⟨(λz=>nomatch z),_,PySem.W.kitx_dict,o,h1,h2.1⟩
  | @ins a C dx fs ea cl ha hn htk hm=>
   cases (rx);obtain ⟨mA,O,_⟩:=Juc I.hok ea;obtain ⟨od,J,_⟩:=O.look;exact ⟨(λz=>nomatch z),_,PySem.W.kitx_own (cl.get _) cl.hd ha hn htk hm,J⟩
inductive Ss7 (K:Sg) (xs:List V) (H:Hp) (Q:VK):Prop where
 |mk (x:_) (c:_) (u:_) (t:_) (b:_) (_:xs= [x,c]) (_:Smh c=some u) (_:TyX K H x t) (_:Sh K t u=some b) (_:Q (.bl b) H)
theorem Jos:Jnm X (.builtin "isinstance") (Ss7 X.K):=by
 rintro pins s σ H vs us Q I r ⟨x,c,u,t,b,rfl,hc,ty,ek,k⟩;obtain ⟨v,w',rfl,r1,r2⟩:=Jzy r;have e2:w'=u:=by
  cases c with
  |ty n=>cases hc;cases r2;rfl
  |ref a=>cases hc;cases r2;rfl
  |_=>cases hc
 subst e2;obtain ⟨hx,Hh,Z,p⟩:=ty.kit I r1;exact PySem.W.kia_one Z I.kIn p ek hx λtk=>⟨.bl b,H,I.tok _,rfl,k⟩
theorem Jz4:∀{cs} {us ws},cs.mapM Smh=some us->Sy cs ws->ws=us
 | [],us,_,e,.nil=>by cases e;rfl
 |c::cs,us,_,e,.cons r t=>by
  rw [List.mapM_cons] at e;simp only [Option.bind_eq_bind,Option.bind_eq_some_iff,Option.pure_def,yac.injEq] at e;obtain ⟨u,hu,us',hus,rfl⟩:=e;rw [Jz4 hus t];cases c with
  |ty n=>cases hu;cases r;rfl
  |ref a=>cases hu;cases r;rfl
  |_=>cases hu
inductive Syb (K:Sg) (xs:List V) (H:Hp) (Q:VK):Prop where
 |mk (x:_) (p:_) (cs:_) (us:_) (t:_) (b:_) (_:xs= [x,.ref p]) (_:H p=some (.tup cs)) (_:cs.mapM Smh=some us) (_:TyX K H x t) (_:PySem.W.kitAny K t us=some b) (_:Q (.bl b) H)
theorem Jur:Jnm X (.builtin "isinstance") (Syb X.K):=by
 rintro pins s σ H vs us Q I r ⟨x,p,cs,us',t,b,rfl,hp,hc,ty,ek,k⟩;obtain ⟨v,w',rfl,r1,r2⟩:=Jzy r;obtain rfl:w'=Value.ref p:=r2;obtain ⟨hx,Hh,Z,q⟩:=ty.kit I r1;obtain ⟨_,its,rv,o,h1,h2,n,h3⟩:=(I.hok p _ hp);have e:=Jz4 hc rv;subst e;obtain ⟨oc,odi,oda,osl⟩:=o;subst h2 h3;exact PySem.W.kia_tup Z I.kIn q h1 ek hx λtk=>⟨.bl b,H,I.tok _,rfl,k⟩
noncomputable def Sy1 (K:Sg) (tl:TE):TI:=λσ H R=>tl σ H λx H1=>∃a,x= .ref a/\(((∃xs,Sz K H1 a xs)/\R (Itl K a) H1)\/((∃xs,SqT K H1 a xs)/\R (Itt K a) H1))
theorem Snb (hl:PE X l tl):PI X tg l (Sy1 X.K tl):=by
 intro pins s σ H R I h;refine thn (hl pins s σ H _ I h) λv s1 zq=>?_;obtain ⟨x,H1,I1,r1,a,e,q1⟩:=zq;subst e;cases r1;have fin:∀{J:It} {tn:Nat->Se->Prop} {o:Obj},Turn X.prog X.w X.K tg J [s1.heap.objs.size] s1.heap.objs.size tn->tn 0 (s1.heap.push o)->R J H1->PIE X pins σ tg R (.ref s1.heap.objs.size) {s1 with heap:=s1.heap.push o}:=λ{J tn o} T st q=>by
  refine ⟨s1.heap.objs.size,[s1.heap.objs.size],tn,J,H1,rfl,I1.kept λb o e=>yn _ e,T,st,λb hb=>?_,q⟩;have e:=by simpa using hb
  subst e;exact I1.fpOk (yg _) (I1.hok.fresh (yg _))
 rcases q1 with ⟨⟨xs,hq⟩,q⟩|⟨⟨xs,hq⟩,q⟩
 ·obtain ⟨its,rv,p,hz⟩:=I1.list hq;exact wpAny_pyIter_list p.isList (fin (Jxi a _) ⟨_,yt _ rfl,rfl,rfl⟩ q)
 ·obtain ⟨its,rv,p,hz⟩:=I1.tuple hq;exact wpAny_pyIter_tuple (p) (fin (Jw1 a _) ⟨_,yt _ rfl,rfl,rfl⟩ q)
end
noncomputable def Jyp (P:Sa) (w:Sc) (K:Sg) (mg:Str->Option S5) (base:Se) (j:Nat) (m:Str) (ta:TE) (t:TA):TE:=λσ H Q=>ta σ H λx H1=>∃a C dx fs f fd ps sp k,x= .ref a/\H1 a=some (.ins C dx fs)/\fs.lookup m=none/\Cls K C/\Jp0 K C m f/\Sv P w K mg base CX0 k f fd ps sp/\k<=j/\Sbc K fd ps []/\
 t σ H1 λvs H2=>sp (x::vs) H2 Q E0
section
variable {X:Cx} {j:Nat} {m:Str} {apos pos:Pos} {e o:Expr} {es:List Expr} {ta:TE} {t:TA} {R:St->XK}
theorem Jsg {pl} (he:PE X o ta) (hr:Sax j X.A) (ha:PA X (e::es) t)
  (hst:starEach (e::es) X.env=(false,eval e X.env)::starEach es X.env:=by rfl) (hpl:(backTo pos (starEach es X.env)).any (·.1)=false:=by rfl)
  (ht:eval (.Call (.Attribute o m apos) (e::es) [] pos) X.env=(do
   let ov<-eval o X.env
   standAt apos.atName
   let (f,first)<-holding [ov] (getMethod ov m pl)
   callWith pos f first (backTo pos (starEach (e::es) X.env)) (backToKw pos (keywordEach [] X.env))):=by rfl):
  PE X (.Call (.Attribute o m apos) (e::es) [] pos) (Jyp X.prog X.w X.K X.mg X.base j m ta t):=by
 intro pins s σ H Q I h;refine PySem.W.methodCall_KW (thn (he pins s σ H _ I h) λu s1 zq=>?_) ht;obtain ⟨x,H1,I1,rx,a,C,dx,fs,f,fd,ps,sp,k,ex,ea,l,c,hm,G,hk,hb,q⟩:=zq;subst ex;obtain rfl:u=Value.ref a:=rx;exact Jpw I1 ea c hm l (PySem.W.callWith_K I.ok.mod.kin hm.kp (thn (ha pos pins s1 σ H1 _ I1 q) λus s2 ⟨vs,H2,I2,r,q2⟩=>⟨I2.kIn,Jvv (vs:=.ref a::vs) G (hr.mono hk) hb .nil Jpf I2 (.cons rfl r) (by rw [yba];exact q2)⟩) hst hpl)
theorem Jr2 (he:PE X o ta) (hr:Sax j X.A)
  (ht:eval (.Call (.Attribute o m apos) [] [] pos) X.env=(do
   let ov<-eval o X.env
   standAt apos.atName
   let (f,first)<-holding [ov] (getMethod ov m pl)
   callWith pos f first (backTo pos (starEach [] X.env)) (backToKw pos (keywordEach [] X.env))):=by rfl):
  PE X (.Call (.Attribute o m apos) [] [] pos) (Jyp X.prog X.w X.K X.mg X.base j m ta Jyq):=by
 intro pins s σ H Q I h;refine PySem.W.methodCall_KW (thn (he pins s σ H _ I h) λu s1 zq=>?_) ht;obtain ⟨x,H1,I1,rx,a,C,dx,fs,f,fd,ps,sp,k,ex,ea,l,c,hm,G,hk,hb,q⟩:=zq;subst ex;obtain rfl:u=Value.ref a:=rx;exact Jpw I1 ea c hm l (PySem.W.callWith_K0 I1.kIn hm.kp (Jvv (vs:=[.ref a]) G (hr.mono hk) hb .nil Jpf I1 (.cons rfl .nil) q))
end
theorem Jmo (h:n<=2000):n < S9:=Nat.lt_of_le_of_lt h (by decide)
theorem Jn4 (n) (h:n<=2000):n<=S9:=ycf (Jmo h)
noncomputable def tpB (t:S5):Bool:=[Value.type "bool",.type "str",.type "NoneType",.type "list",.type "tuple",.type "dict"].contains t
noncomputable def Tm (K:Sg) (H:Hp) (x:V):Prop:=(∃i:Int,x= .int i)\/∃t,TyX K H x t/\tpB t=true
noncomputable def Jmn:V->Int->Int->Bool
 | .int i,lo,hi=>decide (lo<=i)&&decide (i<=hi)
 |_,_,_=>false
theorem Sou {K} (h:tpB t=true):Sh K t (.type "int")=some (t== .type "bool")/\Sh K t (.type "bool")=some (t== .type "bool"):=by
 unfold tpB at h;simp only [List.contains_cons,List.contains_nil,Bool.or_false,Bool.or_eq_true,beq_iff_eq] at h;rcases h with rfl|rfl|rfl|rfl|rfl|rfl <;> exact ⟨rfl,rfl⟩
theorem Yfr {K} (ty:TyX K H x t) (h:tpB t=true):∀lo hi,Jmn x lo hi=false:=by
 intro lo hi;cases ty with
 |exc=>rfl
 |of ty=>
  cases ty <;> first|rfl|(exfalso;revert h;decide)
inductive Ygw (K:Sg) (vs:List V) (H:Hp) (Q:VK) (z3:XK):Prop where
 |mk (x:V) (lo hi:Int) (_:vs= [x,.int lo,.int hi]) (_:Tm K H x) (_:Q (.bl (Jmn x lo hi)) H)
theorem TyX.same {K} (s:∀b o,x= .ref b->H b=some o->H' b=some o) (sx:∀b fs,H b=some (XD b fs)->H' b=some (XD b fs)) (ty:TyX K H x t):TyX K H' x t:=by
 cases ty with
 |exc q qd c=>exact .exc (s _ _ rfl q) (sx _ _ qd) c
 |of ty=>
  refine .of ?_;cases ty with
  |non=>exact .non
  |bl b=>exact .bl b
  |int i=>exact .int i
  |str z=>exact .str z
  |flt z=>exact .flt z
  |lst e=>exact .lst (s _ _ rfl e)
  |frz e=>exact .frz (s _ _ rfl e)
  |tup e=>exact .tup (s _ _ rfl e)
  |dK e=>exact .dK (s _ _ rfl e)
  |dT e=>exact .dT (s _ _ rfl e)
  |ins e a b c d f=>exact .ins (s _ _ rfl e) a b c d f
theorem Tm.same {K} (s:Sl H H') (h:Tm K H x):Tm K H' x:=by
 rcases h with h|⟨t,ty,e⟩
 ·exact .inl h
 ·exact .inr ⟨t,ty.same (λb o _ q=>s b o q) (λb fs q=>s b _ q),e⟩
theorem Yfd {K} {q} {xs} {g:TG} {tb:TS} {D:Sc8} {σ} {H} (Pv:Nat->St->Hp->Prop) (h0:Pv 0 σ H) (hl:(∀i σ H,i<=xs.length->Pv i σ H->Sz K H q xs)\/(∀i σ H,i<=xs.length->Pv i σ H->SqT K H q xs))
  (hs:∀i x σ H,xs[i]?=some x->Pv i σ H->g x σ H λσ2 H2=>tb {D with nx:=Pv (i+1),ct:=Pv (i+1),bk:=D.nx} σ2 H2) (hd:∀σ H,Pv xs.length σ H->D.nx σ H):
  ((∃xs,Sz K H q xs)/\∃W:Nat->Nat->St->Hp->Prop,(∃m,W 0 m σ H)/\∀i m σ H,W i m σ H->
   ((Itl K q).stop i H/\D.nx σ H)\/((Itl K q).go i H/\∃N:St->Hp->Prop,(∀σ' H',N σ' H'->∃m',m' < m/\W (i+1) m' σ' H')/\∀x H',(Itl K q).yld i H x H'->g x σ H' λσ2 H2=>tb {D with nx:=N,ct:=N,bk:=D.nx} σ2 H2))\/
  ((∃xs,SqT K H q xs)/\∃W:Nat->Nat->St->Hp->Prop,(∃m,W 0 m σ H)/\∀i m σ H,W i m σ H->
   ((Itt K q).stop i H/\D.nx σ H)\/((Itt K q).go i H/\∃N:St->Hp->Prop,(∀σ' H',N σ' H'->∃m',m' < m/\W (i+1) m' σ' H')/\∀x H',(Itt K q).yld i H x H'->g x σ H' λσ2 H2=>tb {D with nx:=N,ct:=N,bk:=D.nx} σ2 H2)):=by
 rcases hl with hl|hl
 ·exact .inl ⟨⟨xs,hl 0 σ H (yal _) h0⟩,Joj Pv h0 hl hs hd⟩
 ·exact .inr ⟨⟨xs,hl 0 σ H (yal _) h0⟩,Jub Pv h0 hl hs hd⟩
theorem Jo0 {K} {R} {C W fI} {f} {i} {y} {σ} {H} {D} (c:Saj K C W fI) (n:NoAttr K C f) (hi:σ[i]?=some (some y))
  (k:∀e dx,H e=none->H dx=none->dx≠e->R σ (.ref C) (some e) (upd (upd (upd H dx (XD dx [(f,y)])) e (XO e C (some dx) true)) e (XO e C (some dx) false))):Yeb K R (Ssu C (Jp7 K f) (Jo9 (Sk4 i) Jyq)) D σ H:=⟨y,hi,Ybs (Q:=λv H1=>∃e C W fI dx,v= .ref e/\H1 e=some (XO e C (some dx) true)/\Saj K C W fI/\R σ (.ref C) (some e) (upd H1 e (XO e C (some dx) false))) c n λe dx h1 h2 h3=>⟨e,C,W,fI,dx,rfl,Sr,c,k e dx h1 h2 h3⟩⟩
theorem Jr6 {A:Prop} [Decidable c] (hc:c) (h:A):if decide c=true then A else B:=by grind
theorem Jq5 {A:Prop} [Decidable c] (hc:¬c) (h:B):if decide c=true then A else B:=by grind
noncomputable def Jnj:Expr->Bool
 | .Starred _ _=>true
 |_=>false
theorem Ycd (e) (es) (env) (h:Jnj e=false):starEach (e::es) env=(false,eval e env)::starEach es env:=by
 cases e <;> first|rfl|cases h
theorem Jq7 (ha:PE X e te) (hr:PA X es t) (hs:Jnj e=false:=by rfl):PA X (e::es) (Jo9 te t):=Sm ha hr (Ycd e es X.env hs)
theorem pa4 (h0:PE X e0 t0) (h1:PE X e1 t1) (h2:PE X e2 t2) (h3:PE X e3 t3) (s0:Jnj e0=false:=by rfl) (s1:Jnj e1=false:=by rfl) (s2:Jnj e2=false:=by rfl) (s3:Jnj e3=false:=by rfl):PA X [e0,e1,e2,e3] (Jo9 t0 (Jo9 t1 (Jo9 t2 (Jo9 t3 (Jyq))))):=Jq7 h0 (Jq7 h1 (Jq7 h2 (Jq7 h3 (So) s3) s2) s1) s0
theorem pa6 (h0:PE X e0 t0) (h1:PE X e1 t1) (h2:PE X e2 t2) (h3:PE X e3 t3) (h4:PE X e4 t4) (h5:PE X e5 t5) (s0:Jnj e0=false:=by rfl) (s1:Jnj e1=false:=by rfl) (s2:Jnj e2=false:=by rfl) (s3:Jnj e3=false:=by rfl) (s4:Jnj e4=false:=by rfl) (s5:Jnj e5=false:=by rfl):PA X [e0,e1,e2,e3,e4,e5] (Jo9 t0 (Jo9 t1 (Jo9 t2 (Jo9 t3 (Jo9 t4 (Jo9 t5 (Jyq))))))):=Jq7 h0 (Jq7 h1 (Jq7 h2 (Jq7 h3 (Jq7 h4 (Jq7 h5 (So) s5) s4) s3) s2) s1) s0
theorem pa8 (h0:PE X e0 t0) (h1:PE X e1 t1) (h2:PE X e2 t2) (h3:PE X e3 t3) (h4:PE X e4 t4) (h5:PE X e5 t5) (h6:PE X e6 t6) (h7:PE X e7 t7) (s0:Jnj e0=false:=by rfl) (s1:Jnj e1=false:=by rfl) (s2:Jnj e2=false:=by rfl) (s3:Jnj e3=false:=by rfl) (s4:Jnj e4=false:=by rfl) (s5:Jnj e5=false:=by rfl) (s6:Jnj e6=false:=by rfl) (s7:Jnj e7=false:=by rfl):PA X [e0,e1,e2,e3,e4,e5,e6,e7] (Jo9 t0 (Jo9 t1 (Jo9 t2 (Jo9 t3 (Jo9 t4 (Jo9 t5 (Jo9 t6 (Jo9 t7 (Jyq))))))))):=Jq7 h0 (Jq7 h1 (Jq7 h2 (Jq7 h3 (Jq7 h4 (Jq7 h5 (Jq7 h6 (Jq7 h7 (So) s7) s6) s5) s4) s3) s2) s1) s0
end L2
namespace L2
open PySem PySem.Spec PyProof.Rows PySem.W
section
variable {X:Cx}
theorem Yar {K} (h:X.K=K):IxR X (Ss9 K):=by subst h;exact Jmk
theorem Jwt {K} (h:X.K=K):Jnm X (.builtin "isinstance") (Ss7 K):=by subst h;exact Jos
end
section
variable {prog:Sa} {w:Sc} {A:Sd} {E:S5->S6->Prop} {s:S6}
end
section
variable {X:Cx} {pos:Pos}
end
section
variable {P:Sa} {w:Sc} {K:Sg} {mg:Str->Option S5} {base:Se}
end
section
variable {X:Cx} {x:Str} {st:Stmt} {ps:List Str} {f:S4} {fd:Sb} {sp:Sp} {k j:Nat} {p pos:Pos} {e:Expr} {es:List Expr} {t:TA} {er:S4}
end
noncomputable def stU (acc:List Str) (z:Str):List Str:=if acc.contains z=true then acc else acc++ [z]
noncomputable def uq (zs:List Str):List Str:=zs.foldl stU []
noncomputable def inU (zs:List Str):Key->Bool
 | .inl _=>false
 | .inr z=>(uq zs).contains z
theorem Yb9 (zs) (z):uq (zs++ [z])=stU (uq zs) z:=by unfold uq;rw [yca];rfl
theorem Sp1 (zs):(uq zs).length<=zs.length:=by
 have h:∀(l acc:List Str),(l.foldl stU acc).length<=acc.length+l.length:=by
  intro l
  induction l with
  |nil=>intro acc;simp
  |cons z r ih=>
   intro acc;rw [List.foldl_cons];have h1:=ih (stU acc z);have h2:(stU acc z).length<=acc.length+1:=by unfold stU;split <;> simp
   rw [yag];omega
 simpa [uq] using h zs []
theorem Jzx (h:zs.Nodup):uq zs=zs:=by
 have g:∀(l acc:List Str),(acc++l).Nodup->l.foldl stU acc=acc++l:=by
  intro l
  induction l with
  |nil=>intro acc _;simp
  |cons z r ih=>
   intro acc hn;rw [List.foldl_cons];have hz:acc.contains z=false:=by
    cases e:acc.contains z with
    |false=>rfl
    |true=>
     exact absurd rfl ((List.nodup_append.mp hn).2.2 z (List.contains_iff_mem.mp e) z yab)
   have e:stU acc z=acc++ [z]:=by unfold stU;rw [hz];rfl
   rw [e,ih (acc++ [z]) (by simpa using hn)];simp
 simpa [uq] using g zs [] (by simpa using h)
theorem Ydf (zs) (z) (k):inU (zs++ [z]) k=(inU zs k||decide (k= .inr z)):=by
 cases k with
 |inl i=>simp [inU]
 |inr y=>
  show (uq (zs++ [z])).contains y=((uq zs).contains y||decide ((.inr y:Key)= .inr z));rw [Yb9];unfold stU;split
  ·rename_i hc
   by_cases h:y=z
   ·subst h;rw [hc];simp
   ·simp [h]
  ·rw [Bool.eq_iff_iff];simp [List.contains_iff_mem]
theorem Yh6 (zs) (z):(uq (zs++ [z])).length=if inU zs (.inr z)=true then (uq zs).length else (uq zs).length+1:=by
 rw [Yb9];show (stU (uq zs) z).length=if (uq zs).contains z=true then _ else _
 unfold stU;split <;> simp
section
variable {prog:Sa} {w:Sc} {A:Sd} {R:Result->S6->Prop} {I:S4} {fp wr:List S4} {n:Nat} {P:Nat->S5->Prop} {St:Nat->Se->Prop}
theorem Jso {h h':Se} (hS:h.SetOf (Jmj prog w) a S m) (k:∀o,h.get? a=some o->h'.get? a=some o) (e:∀x,S x=T x) (en:m=m'):h'.SetOf (Jmj prog w) a T m':=by
 obtain rfl:S=T:=funext e;subst en;obtain ⟨o,es,ep,t,ho,rest⟩:=hS;exact ⟨o,es,ep,t,k o ho,rest⟩
theorem Ya8 (W:Walks prog w A.in1 I fp wr n P St) (S) (hSf:S∉fp) (zs) (hn:zs.length=n) (hP:∀i v,P i v->∃z t,zs[i]?=some z/\v= .str z t) (hb:n+1 < scanBound):
  ∀k i s,n - i=k->i<=n->St i s.heap->s.heap.SetOf (Jmj prog w) S (inU (zs.take i)) (uq (zs.take i)).length->
   (∀h' tk,(∀b o,b≠S->b∉wr->s.heap.get? b=some o->h'.get? b=some o)->h'.SetOf (Jmj prog w) S (inU zs) (uq zs).length->R (.ok (.ret .none)) {s with heap:=h',toks:=tk})->
   codeAny (model prog w) A (.builtin "set.update.loop" ⟨[.ref S,.ref I],[]⟩) R s:=by
 have hSw:=λh=>hSf (W.sub _ h);intro k
 induction k with
 |zero=>
  intro i s hk hi hst hS hR;obtain rfl:i=n:=by omega
  refine codeAny_builtin PyProof.Rows.F.entry_set_update_loop ?_;refine S7 (W.done s _ _ hst λh' tk km=>?_);refine S8 (hR h' tk (λb o _ nb e=>km b o nb e) (Jso hS (λo e=>km S o hSw e) (λx=>?_) ?_))
  ·rw [yah (by omega)]
  ·rw [yah (by omega)]
 |succ k ih=>
  intro i s hk hi hst hS hR;have hlt:i < n:=by omega
  refine codeAny_builtin PyProof.Rows.F.entry_set_update_loop ?_;refine S7 (W.item i s _ _ hlt hst λv h1 tk hv hst1 km=>?_);obtain ⟨z,t,hz,rfl⟩:=hP i v hv;have et:zs.take (i+1)=zs.take i++ [z]:=by rw [yaa,hz];rfl
  have room:(uq (zs.take i)).length+1 < scanBound:=by
   have h1:=Sp1 (zs.take i);rw [yaf] at h1;omega
  refine S7 (wpAny_holding ?_);refine wpAny_holding (S7 ((Jmj prog w).pyHash (Jou _ _ _ _) ?_));refine wpAny_setAddHashed_of (Jou _ _ _ _) rfl (Jso hS (λo e=>km S o hSw e) (λ_=>rfl) rfl) room λh2 sb hS2=>S8 ⟨plainId_quiet PyProof.Rows.F.plain_set_update_loop _,ih (i+1) _ (by omega) hlt (W.frame _ _ _ hst1 λb hbf o e=>?_) (Jso hS2 (λo e=>e) (λx=>?_) ?_) λh3 tk3 k3 hS3=>?_⟩
  ·show h2.get? b=some o;rw [sb.2 b (λq=>hSf (by rw [<-q];exact hbf))];exact e
  ·rw [et,Ydf]
  ·rw [et,Yh6]
  ·exact hR h3 tk3 (λb o nS nw e=>k3 b o nS nw (by show h2.get? b=some o;rw [sb.2 b nS];exact km b o nw e)) hS3
end
section
variable {prog:Sa} {w:Sc} {A:Sd} {E:S5->S6->Prop} {s:S6}
set_option maxRecDepth 100000 in
set_option maxHeartbeats 3200000 in
theorem Yc9 {l:S4} {items:Array S5} {zs:List Str} {Q:S5->S6->Prop} (hh:A.handled=none) (hl:s.heap.IsList l items) (hz:zs.length=items.size) (hi:∀(i:Nat) (v:S5),items[i]?=some v->∃z t,zs[i]?=some z/\v= .str z t) (hb:items.size+1 < scanBound)
  (h:∀(h':Se) (tk:Nat),h'.SetOf (Jmj prog w) s.heap.objs.size (inU zs) (uq zs).length->(∀b o,s.heap.get? b=some o->h'.get? b=some o)->Q (.ref s.heap.objs.size) {s with heap:=h',toks:=tk}):Sf (model prog w) A (call (.type "set") [.ref l]) Q E s:=by
 obtain ⟨cc,tl,hmro⟩:=F.called_set.mro;have hmade:=F.called_set.made;have hsub:=F.called_set.sub;refine wpAny_call (codeAny_of_tree ?_);show Sf _ _ (callAny (.type "set") _) _ _ _;refine S8 ⟨Code.quiet_builtin _ (by decide +kernel),codeAny_builtin F.entry_type_call ?_⟩;rw [Around.under_plain (weight_type_call_type "set" [.ref l] []) rfl];have g1:=F.called_set.notType;have g2:=F.called_set.canCreate;have g3:=F.typeCall_set_1 (.ref l)
 repeat (any_goals (first|assumption|wp_step))
 refine codeAny_mono (code_set_new_1 (.ref l) (E:=E) (Q₁:=λobj s1=>∃led:Bool,obj= .ref s.heap.objs.size/\s1={s with heap:=s.heap.push {cls:=.type "set",dict:=none,data:=.set #[] 0 (.fresh 0 0 led)}}) λled=>⟨led,rfl,rfl⟩) λr s1 hr=>?_;cases r with
 |error e=>exact hr
 |ok fl=>
  cases fl with
  |ret obj=>
   obtain ⟨led,rfl,rfl⟩:=hr;have hS:(s.heap.push {cls:=.type "set",dict:=none,data:=.set #[] 0 (.fresh 0 0 led)}).get? s.heap.objs.size=some {cls:=.type "set",dict:=none,data:=.set #[] 0 (.fresh 0 0 led)}:=yt _ rfl;have hT:Shared.TypeIs {s with heap:=s.heap.push {cls:=.type "set",dict:=none,data:=.set #[] 0 (.fresh 0 0 led)}} (.ref s.heap.objs.size) "set" :=⟨_,hS,rfl⟩;have g4:=F.called_set.init.lookup;have g5:=F.called_set.init.bind (.ref s.heap.objs.size)
   repeat (any_goals (first|assumption|wp_step))
   refine codeAny_mono (codeAny_call_builtin (R:=wants (λr s2=>r= .none/\∃h' tk,s2={s with heap:=h',toks:=tk}/\h'.SetOf (Jmj prog w) s.heap.objs.size (inU zs) (uq zs).length/\(∀b o,s.heap.get? b=some o->h'.get? b=some o)) E) F.called_set.init.plain F.entry_set_init (check_set_init_1 hT ?_)) λr2 s2 hr2=>?_
   ·obtain ⟨⟨oc,od,oda,osl⟩,hol,hcl,nl,hdl⟩:=hl;simp only at hcl hdl;subst hcl hdl;have hol':(s.heap.push {cls:=.type "set",dict:=none,data:=.set #[] 0 (.fresh 0 0 led)}).get? l=some {cls:=.type "list",dict:=od,data:=.seq items nl,slots:=osl}:=yn _ hol;have g6:=F.sub_list_set;have g7:=F.sub_list_frozenset;have g8:(Value.type "list" ==Value.type "dict")=false:=by decide
    have hl1:(s.heap.push {cls:=.type "set",dict:=none,data:=.set #[] 0 (.fresh 0 0 led)}).IsList l items:=⟨_,hol',rfl,nl,rfl⟩;unfold Builtin.«set.__init__» noKeywords Builtin.Frozenset.updateFrom;generalize hPI:pyIter=PI
    wp_walk
    subst hPI;refine wpAny_pyIter_list hl1 (S7 (wpAny_runValue ?_));have lS:l < s.heap.objs.size:=yj hol;have h3:A.in1.in1.in1.handled=none:=by simp [hh]
    have nI:l≠(s.heap.push {cls:=.type "set",dict:=none,data:=.set #[] 0 (.fresh 0 0 led)}).objs.size:=by rw [yau];exact yy (ycn lS)
    have nS:s.heap.objs.size∉ [(s.heap.push {cls:=.type "set",dict:=none,data:=.set #[] 0 (.fresh 0 0 led)}).objs.size,l]:=by
     rw [yau];simp only [yq,yaz,or_false,not_or];exact ⟨yy (ybw _),ybo lS⟩
    refine Ya8 (Walks.list h3 _ l nI items) s.heap.objs.size nS zs hz hi hb (items.size - 0) 0 _ (by omega) (yal _) ⟨⟨_,yt _ rfl,rfl,rfl⟩,hl1.push _⟩ ?S0 ?R0
    case S0=>
     have q:((s.heap.push {cls:=.type "set",dict:=none,data:=.set #[] 0 (.fresh 0 0 led)}).push {cls:=.type "list_iterator",data:=.fields #[.ref l,.int 0 0]}).get? s.heap.objs.size=some {cls:=.type "set",dict:=none,data:=.set #[] 0 (.fresh 0 0 led)}:=yn _ hS;refine ⟨_,#[],0,_,q,⟨rfl,rfl,rfl⟩,rfl,λe he=>by simp at he,λx=>?_,by decide,by rfl,rfl⟩;cases x <;> simp [inU,uq]
    case R0=>
    intro h' tk km hS';show Sf _ _ _ _ _ _;refine S8 ?_;show Sf _ _ (ret Value.none) _ _ _;refine S8 ⟨rfl,h',tk,rfl,hS',λb o e=>?_⟩;have lb:b < s.heap.objs.size:=yj e;refine km b o (yy lb) ?_ (yn _ (yn _ e));rw [yau];simp only [yq,yaz,or_false];exact yy (ycn lb)
   ·cases r2 with
    |error e=>exact hr2
    |ok fl2=>
     cases fl2 with
     |ret r=>
      obtain ⟨rfl,h',tk,rfl,hS',hk'⟩:=hr2
      repeat (any_goals (first|assumption|wp_step))
      exact h _ _ hS' hk'
     |_=>exact hr2.elim
  |_=>exact hr.elim
end
noncomputable def TxS (P:Sa) (w:Sc) (a:S4) (zs:List Str):HO:=.ext λh=>h.SetOf (Jmj P w) a (inU zs) (uq zs).length
theorem Sox (hS:h.SetOf (Jmj P w) a (inU zs) (uq zs).length):Sai P w H h a (TxS P w a zs):=
 ⟨hS,(let ⟨o,_,_,_,ho,_⟩:=hS;⟨o,ho⟩),λ_ _ p k=>Jso p k (λ_=>rfl) rfl⟩
section
variable {X:Cx}
theorem Jut (hc:X.calm=true):Jnm X (.type "set") (λxs H Q=>∃(l:S4) (zs:List Str),xs= [.ref l]/\Sz X.K H l (zs.map V.str)/\zs.length<=2000/\∀a,H a=none->Q (.ref a) (upd H a (TxS X.prog X.w a zs))):=by
 rintro pins s σ H xs us Q I r ⟨l,zs,rfl,hq,hz,q⟩;obtain ⟨u,rfl,ru⟩:=Joh r;obtain rfl:u=Value.ref l:=ru;obtain ⟨its,rv,pl,_⟩:=I.list hq;have hlen:=rv.length;rw [ye] at hlen;refine Yc9 (I.ok.hd hc) pl.isList (by simpa using hlen) (λi v hv=>?_) (by simp only [yw];unfold scanBound;omega) λh' tk hS kk=>⟨.ref s.heap.objs.size,_,I.laid kk (yg _) (Sox hS),rfl,q _ (I.hok.fresh (yg _))⟩
 ·have hv':=by simpa using hv
  have hlt:i < zs.length:=by have:=(yi.mp hv').1;omega
  obtain ⟨u,hu,ru⟩:=rv.get (by rw [ym,yh hlt];rfl);rw [hv'] at hu;cases hu;obtain ⟨t,rfl⟩:=ru;exact ⟨zs[i],t,yh hlt,rfl⟩
theorem Jus:Jnm X (.builtin "len") (λxs H Q=>∃(a:S4) (zs:List Str),xs= [.ref a]/\H a=some (TxS X.prog X.w a zs)/\Q (.int (uq zs).length) H):=by
 rintro pins s σ H xs us Q I r ⟨a,zs,rfl,ha,q⟩;obtain ⟨u,rfl,ru⟩:=Joh r;obtain rfl:u=Value.ref a:=ru;obtain ⟨o,es,ep,t,ho,hex,hd,_,_,hb,hf,hn⟩:=(I.hok a _ ha).1;refine call_len_set ho hex hd hf (by unfold scanBound at hb;omega) ?_;rw [hn];exact ⟨.int _,H,I.tok _,⟨_,rfl⟩,q⟩
end
theorem Jqc:bootBuiltins "sum" =some (.builtin "sum"):=by decide +kernel
theorem Smd:bootBuiltins "set" =some (.type "set"):=by decide +kernel
theorem Js4:bootBuiltins "enumerate" =some (.type "enumerate"):=by decide +kernel
noncomputable def Sml (ns:List Int):Prop:=ns.length<=2000/\∀n∈ns,-100000000000000<=n/\n<=100000000000000
theorem Jui (ns:List Int):∀i,i<=ns.length->preSum (λj=>ns.getD j 0) i=(ns.take i).sum
 |0,_=>by simp [preSum]
 |i+1,h=>by
  have ih:=Jui ns i (by omega);have hlt:i < ns.length:=by omega
  have e:ns.take (i+1)=ns.take i++ [ns[i]]:=by rw [yaa,yh hlt];rfl
  have e2:ns.getD i 0=ns[i]:=by simp [yh hlt]
  rw [e,List.sum_append];simp only [List.sum_cons,List.sum_nil];show preSum (λj=>ns.getD j 0) i+ns.getD i 0=_;omega
theorem Yer:∀(l:List Int),(∀n∈l,-100000000000000<=n/\n<=100000000000000)-> -100000000000000*(l.length:Int)<=l.sum/\l.sum<=100000000000000*(l.length:Int)
 | [],_=>by simp
 |n::r,h=>by
  have h1:=h n yab;have h2:=Yer r λm hm=>h m (yz _ hm);rw [List.sum_cons,yag];constructor <;> omega
section
variable {X:Cx}
inductive Ssc (K:Sg) (xs:List V) (H:Hp) (Q:VK):Prop where
 |mk (a:S4) (ns:List Int) (_:xs= [.ref a]) (_:(Sz K H a (ns.map V.int)\/SqT K H a (ns.map V.int))) (_:Sml ns) (_:Q (.int ns.sum) H)
theorem Jqe (hc:X.calm=true):Jnm X (.builtin "sum") (Ssc X.K):=by
 rintro pins s σ H xs us Q I r ⟨a,ns,rfl,hq,hs,q⟩;obtain ⟨u,rfl,ru⟩:=Joh r;obtain rfl:u=Value.ref a:=ru;have fit:∀j,j < ns.length->InLong ((λj=>ns.getD j 0) j)/\InLong (preSum (λj=>ns.getD j 0) (j+1)):=λj hj=>by
  have e2:ns.getD j 0=ns[j]:=by simp [yh hj]
  have b1:=hs.2 _ (ybb hj);have b2:=Yer (ns.take (j+1)) λm hm=>hs.2 m (ycs hm);have b3:(ns.take (j+1)).length<=2000:=by have:=hs.1;rw [yaf];omega
  rw [Jui ns (j+1) (by omega)];refine ⟨?_,?_⟩
  ·show InLong (ns.getD j 0);constructor <;> omega
  ·unfold InLong;constructor <;> omega
 have fin:∀{its:List S5} (rv:Sy (ns.map V.int) its) (i:Nat) v,its.toArray[i]?=some v->∃t,v= .int ((λj=>ns.getD j 0) i) t:=λ{its} rv i v hv=>by
  have hv':=by simpa using hv
  have hl:=rv.length;rw [ye] at hl;have hi:i < ns.length:=by have:=(yi.mp hv').1;omega
  obtain ⟨u',hu',ru'⟩:=rv.get (by rw [ym,yh hi];rfl);rw [hv'] at hu';cases hu';obtain ⟨t,rfl⟩:=ru';exact ⟨t,by simp [yh hi]⟩
 rcases hq with hq|hq
 ·obtain ⟨its,rv,pl,_⟩:=I.list hq;have hl:=rv.length;rw [ye] at hl;have ne:a≠s.heap.objs.size:=by obtain ⟨o,_,e,_⟩:=pl;exact yy (yj e)
  refine call_sum_walk (wpAny_pyIter_list pl.isList ⟨s.heap.objs.size,_,_,its.toArray.size,_,_,λj=>ns.getD j 0,rfl,Walks.list (A:=X.A.in1) (I.ok.hd hc) s.heap.objs.size a ne its.toArray,⟨⟨_,yt _ rfl,rfl,rfl⟩,pl.isList.push _⟩,λb hb=>?_,fin rv,λj hj=>fit j (by simp only [yw] at hj;omega),λh' tk t' k=>?_⟩)
  ·rw [yau];simp only [yq,yaz,or_false] at hb;rcases hb with rfl|rfl
   ·exact ybw _
   ·obtain ⟨o,_,e,_⟩:=pl;exact ycn (yj e)
  ·have e:preSum (λj=>ns.getD j 0) its.toArray.size=ns.sum:=by
    rw [Jui ns _ (by simp only [yw];omega),yah (by simp only [yw];omega)]
   rw [e];exact ⟨.int _,H,I.kept λb o e=>k b o (λz=>by
    have z':=by simpa using z
    exact absurd (yj e) (by rw [z'];exact ybd _)) (yn _ e),⟨_,rfl⟩,q⟩
 ·obtain ⟨its,rv,pt,_⟩:=I.tuple hq;have hl:=rv.length;rw [ye] at hl;have ne:a≠s.heap.objs.size:=by obtain ⟨o,e,_⟩:=pt;exact yy (yj e)
  refine call_sum_walk (wpAny_pyIter_tuple (pt) ⟨s.heap.objs.size,_,_,its.toArray.size,_,_,λj=>ns.getD j 0,rfl,Walks.tuple (A:=X.A.in1) (I.ok.hd hc) s.heap.objs.size a ne its.toArray,⟨⟨_,yt _ rfl,rfl,rfl⟩,Heap.IsTuple.push pt _⟩,λb hb=>?_,fin rv,λj hj=>fit j (by simp only [yw] at hj;omega),λh' tk t' k=>?_⟩)
  ·rw [yau];simp only [yq,yaz,or_false] at hb;rcases hb with rfl|rfl
   ·exact ybw _
   ·obtain ⟨o,e,_⟩:=pt;exact ycn (yj e)
  ·have e:preSum (λj=>ns.getD j 0) its.toArray.size=ns.sum:=by
    rw [Jui ns _ (by simp only [yw];omega),yah (by simp only [yw];omega)]
   rw [e];exact ⟨.int _,H,I.kept λb o e=>k b o (λz=>by
    have z':=by simpa using z
    exact absurd (yj e) (by rw [z'];exact ybd _)) (yn _ e),⟨_,rfl⟩,q⟩
end
noncomputable def ItE (K:Sg) (a:S4):It:=⟨λi H=>∃xs x,Sz K H a xs/\xs[i]?=some x,
 λi H x H'=>∃T u,H T=none/\x= .ref T/\(∀xs,Sz K H a xs->xs[i]?=some u)/\H'=upd H T (.tup [.int i,u]),
 λi H=>∃xs,Sz K H a xs/\i=xs.length⟩
noncomputable def Shi (e it l:S4) (i:Nat) (h:Se):Prop:=(∃old,IsEnum h e it i old)/\h.IsListIter it l i
theorem Shi.obj (st:Shi e it l i h):∀b∈ [e,it],∃o,h.get? b=some o/\∀v,o.data≠ .cell v:=λb hb=>by
 obtain ⟨⟨old,h1⟩,⟨o4,h4,_,d4⟩⟩:=st;simp only [yq,yaz,or_false] at hb;rcases hb with rfl|rfl
 ·exact ⟨_,h1,λv z=>by cases z⟩
 ·exact ⟨o4,h4,λv z=>by rw [d4] at z;cases z⟩
theorem Yex {K} (e it l) (n1:e≠it) (n2:l≠e) (n3:l≠it):
  Turn P w K (.Tuple elts kt pt) (ItE K l) [e,it] e (Shi e it l) where
 mem:=by simp
 obj:=λi h st=>st.obj
 keep:=λi h h' st k=>by
  obtain ⟨⟨old,h1⟩,h2⟩:=st;exact ⟨⟨old,k e (by simp) _ h1⟩,h2.at λo q=>k it (by simp) o q⟩
 item:=by
  intro X hP hw hK hc i pins s σ H E I hf st hg;subst hP hw hK;obtain ⟨xs,x,q1,hx⟩:=hg;obtain ⟨its,rv,p1,_⟩:=I.list q1;obtain ⟨u,hu,ru⟩:=rv.get hx;have W:=WalksT.enumerate (prog:=X.prog) (w:=X.w) (I.ok.hd hc) e it l n1 n2 n3 its.toArray;obtain ⟨s1,s2⟩:=st;have li:=(yi.mp hu).1;refine W.item i s _ _ (by simp only [yw];omega) ⟨s1,s2,p1.isList⟩ λT vals h' tk hP fT tT mid kk=>⟨_,rfl,W.go elts kt pt i T _ _ _ mid λh'' st'' kk2=>?_⟩;obtain ⟨t,a,ha,rfl⟩:=hP;have ea:=by simpa [hu] using ha.symm
  subst ea;obtain ⟨t1,t2,_⟩:=st'';have kT:h''.IsTuple T #[.int i t,a]:=by
   obtain ⟨o,q,r⟩:=tT;exact ⟨o,kk2 T o (W.apart i T h' mid) q,r⟩
  refine ⟨.ref T,upd H T (.tup [.int i,x]),I.turnTup hf (λc o hc q=>kk2 c o hc (kk c o hc q)) fT ⟨(show 2<=S9 by decide),[.int i t,a],.cons ⟨t,rfl⟩ (.cons ru .nil),kT⟩,rfl,⟨T,x,I.hok.fresh fT,rfl,λxs' hq=>by rw [I.list_inj hq q1];exact hx,rfl⟩,⟨t1,t2⟩,λc hc=>?_⟩;rw [Sx (λw'=>?_)]
  ·exact ((hf c hc).1)
  ·subst w';obtain ⟨o,q,_⟩:=Shi.obj (⟨s1,s2⟩) c hc;exact absurd (yj q) (ybk.mpr fT)
 done:=by
  intro X hP hw hK hc i pins s σ H E I hf st hg;subst hP hw hK;obtain ⟨xs,q1,hi⟩:=hg;obtain ⟨its,rv,p1,_⟩:=I.list q1;obtain ⟨s1,s2⟩:=st;have e1:=rv.length;have ei:i=its.toArray.size:=by simp only [yw];omega
  subst ei;exact (WalksT.enumerate (I.ok.hd hc) e it l n1 n2 n3 its.toArray).done s _ _ ⟨s1,s2,p1.isList⟩ λh' tk kk=>⟨rfl,I.turnMany hf λc o hc q=>kk c o hc q⟩
 self:=λ_ _ _ _ _ st h=>let ⟨_,q⟩:=st.1;wpAny_pyIter_enum q h
noncomputable def Sy0 (K:Sg) (ta:TA):TI:=λσ H R=>ta σ H λvs H1=>∃a,vs= [.ref a]/\(∃xs,Sz K H1 a xs)/\R (ItE K a) H1
theorem Jyb (hg:Gl X "enumerate") (hm:X.mg "enumerate" =none) (ha:PA X [a] ta) (hs:starEach [a] X.env= [(false,eval a X.env)]:=by rfl):
  PI X (.Tuple elts kt pt) (.Call (.Name "enumerate" p) [a] [] pos) (Sy0 X.K ta):=by
 intro pins s σ H R I h;refine Call_ (Jpx I hg hm Js4 (PyProof.Rows.callWith_type1 (thn (ha pos pins s σ H _ I h) λus s1 zq=>?_) (by rw [hs];rfl) rfl));obtain ⟨vs,H1,I1,r1,q1⟩:=zq;obtain ⟨l,rfl,⟨xs,q1⟩,q⟩:=q1;obtain ⟨u,rfl,r2⟩:=Joh r1;obtain rfl:u=Value.ref l:=r2;obtain ⟨its,rv,p1,_⟩:=I1.list q1;have a1:l < s1.heap.objs.size:=by obtain ⟨o,n,e,_⟩:=p1;exact yj e
 refine call_enumerate_list p1.isList λh' z1 z2 z3 kk=>?_;have I2:Ss X pins σ H1 {s1 with heap:=h'}:=I1.kept kk;refine wpAny_pyIter_enum z1 ⟨_,_,_,_,H1,rfl,I2,Yex (s1.heap.objs.size+1) s1.heap.objs.size l (Nat.succ_ne_self _) (yy (ycn a1)) (yy a1),⟨⟨_,z1⟩,z2⟩,λc hc=>?_,q⟩;have hc':s1.heap.objs.size<=c:=by
  simp only [yq,yaz,or_false] at hc;rcases hc with rfl|rfl
  ·exact Nat.le_succ _
  ·exact yg _
 exact I1.fpOk hc' (I1.hok.fresh hc')
section
variable {prog:Sa} {w:Sc} {A:Sd} {E:S5->S6->Prop} {s:S6}
theorem Jyu {x} {Q} (hit:s.heap.IsTupleIter it t i) (ht:s.heap.IsTuple t items) (hx:items[i]?=some x)
  (hQ:∀h',h'.IsTupleIter it t (i+1)->yay it s.heap h'->Q x {s with heap:=h'}):Sf (model prog w) A (Builtin.SmallTypes.nextOf (.ref it)) Q E s:=by
 obtain ⟨o,ho,hc,hd⟩:=id hit;obtain ⟨ol,hol,_,nl,hdl⟩:=ht;have hT:s.TypeIs (.ref it) "tuple_iterator" :=⟨o,ho,hc⟩;refine S7 (wpAny_callSpecial?_slot hT slot_tupleiter_next (wpAny_call_entry slot_tupleiter_next hT entry_tupleiter_next ?_ (args_tupleiter_next _)));refine S7 (m:=field (.ref it) 0) (wpAny_field ho hd rfl (S7 (wpAny_field ho hd rfl (S7 (wpAny_seqItems hol hdl ?_)))));simp only [yav,hx];refine S7 (wpAny_setField ho hd (by simp) (S8 ⟨x,rfl,S8 (hQ _ ⟨_,ycg _ ho (Obj.isFreed_of_fields (Obj.data_mapFields hd _)),(Obj.cls_mapFields ..).trans hc,?_⟩ (yay.update ..))⟩));rw [Obj.data_mapFields hd];simp [rawInt]
theorem Jzu {Q} (hh:A.handled=none) (hit:s.heap.IsTupleIter it t i) (ht:s.heap.IsTuple t items) (hx:items[i]?=none)
  (hE:∀h' e,Heap.ExtBut it s.heap h'->(∃o,h'.get? e=some o/\o.cls= .type "StopIteration")->E (.ref e) {s with heap:=h'}):Sf (model prog w) A (Builtin.SmallTypes.nextOf (.ref it)) Q E s:=by
 obtain ⟨o,ho,hc,hd⟩:=id hit;obtain ⟨ol,hol,_,nl,hdl⟩:=ht;have hT:s.TypeIs (.ref it) "tuple_iterator" :=⟨o,ho,hc⟩;refine S7 (wpAny_callSpecial?_slot hT slot_tupleiter_next (wpAny_call_entry slot_tupleiter_next hT entry_tupleiter_next ?_ (args_tupleiter_next _)));refine S7 (m:=field (.ref it) 0) (wpAny_field ho hd rfl (S7 (wpAny_field ho hd rfl (S7 (wpAny_seqItems hol hdl ?_)))));simp only [yav,hx];refine S7 (wpAny_rule (S7 (wpAny_setField ho hd (by simp) (S7 (S7 (wpAny_newObj_type (S7 (wpAny_of_eq (by first|rfl|(simp only [firstArgMember];rfl)) (wpAny_newObj_type (S7 (wpAny_handled ?_)) (by size_fits)))) (by size_fits)))))))
 first|rw [hh]|rw [hh]
 exact S7 (S8 (wpAny_throw (hE _ _ (((yay.update ..).extBut.push _).push _) ⟨_,yt _ rfl,rfl⟩)))
end
theorem Jt0 (hh:A.handled=none) (it l) (hne:l≠it) (items):
  Draws prog w A it [it,l] items.size (λi v=>items[i]?=some v) (λi h=>h.IsTupleIter it l i/\h.IsTuple l items) where
 live:=λ_ _ st=>let ⟨o,ho,_⟩:=st.1;⟨o,ho⟩
 frame:=λ_ _ _ st hk=>⟨st.1.at λo e=>hk it (by simp) o e,st.2.at λo e=>hk l (by simp) o e⟩
 item:=λi s Q E hi st hQ=>Jyu st.1 st.2 (x:=items[i]) (by simp [hi]) λh' hit' hs'=>hQ _ h' s.toks (by simp [hi]) ⟨hit',st.2.extBut hs'.extBut hne⟩ hs'
 done:=λs Q E st hE=>Jzu hh st.1 st.2 (by simp) hE
set_option maxRecDepth 100000 in
set_option maxHeartbeats 2000000 in
theorem Yd3 (l) (items) (n) (dct) (sl):
  Meets (Builtin.«enumerate.__new__» ⟨[.type "enumerate",.ref l],[]⟩) (λ_ R s=>s.heap.get? l=some {cls:=.type "tuple",dict:=dct,data:=.seq items n,slots:=sl}/\
   R (.ok (.ret (.ref (s.heap.push {cls:=.type "tuple_iterator",data:=.fields #[.ref l,.int 0 0]}).objs.size)))
    {s with heap:=(s.heap.push {cls:=.type "tuple_iterator",data:=.fields #[.ref l,.int 0 0]}).push {cls:=.type "enumerate",data:=.fields #[.none,.bool false,.ref s.heap.objs.size,rawInt 0,.none,.none]}}):=
 .of_wp λprog w A R s h=>by
  obtain ⟨hp,g,d,tk,os⟩:=s;obtain ⟨hl,h⟩:=h;have e1:=sub_enumerate;have e2:Heap.IsTuple (Shared.heap ⟨hp,g,d,tk,os⟩) l items:=⟨_,hl,rfl,n,rfl⟩
  wp_walk using AutoSeq1.wpAny_loadPart' hl
  refine wpAny_stack_any λst=>S8 ?_;split
  ·rename_i c _ _ _ _ _
   cases (c==Value.type "enumerate")
   ·wp_walk using AutoSeq1.wpAny_loadPart' hl,wpAny_pyIter_tuple e2
    exact ⟨_,rfl,h⟩
   ·wp_walk using AutoSeq1.wpAny_loadPart' hl,wpAny_pyIter_tuple e2
    exact ⟨_,rfl,h⟩
  ·wp_walk using AutoSeq1.wpAny_loadPart' hl,wpAny_pyIter_tuple e2
   exact ⟨_,rfl,h⟩
section
variable {prog:Sa} {w:Sc} {A:Sd} {E:S5->S6->Prop} {s:S6}
theorem Ybf (hL:s.heap.IsTuple l items)
  (h:∀h',IsEnum h' (s.heap.objs.size+1) s.heap.objs.size 0 .none->h'.IsTupleIter s.heap.objs.size l 0->(∀b o,s.heap.get? b=some o->h'.get? b=some o)->Q (.ref (s.heap.objs.size+1)) {s with heap:=h'}):
  Sf (model prog w) A (call (.type "enumerate") [.ref l]) Q E s:=by
 obtain ⟨⟨c,dct,dt,sl⟩,hl,hc,n,hd⟩:=hL;subst hc hd;refine callType_new F.called_enumerate (by decide) (F.typeCall_enumerate_1 _) (F.newCall_enumerate_1 _) (λobj=>F.args_object_init_2 obj _) F.entry_enumerate_new (Yd3 l items n dct sl) ⟨hl,?_⟩;have hz:(s.heap.push {cls:=.type "tuple_iterator",data:=.fields #[.ref l,.int 0 0]}).objs.size=s.heap.objs.size+1:=yau ..;rw [hz];have he:=by
  have q:=yt (s.heap.push {cls:=.type "tuple_iterator",data:=.fields #[.ref l,.int 0 0]}) (o:={cls:=.type "enumerate",data:=.fields #[.none,.bool false,.ref s.heap.objs.size,rawInt 0,.none,.none]}) rfl;rw [hz] at q;exact q
 exact ⟨⟨_,he,rfl⟩,h _ he ⟨_,yn _ (yt _ rfl),rfl,rfl⟩ λb o x=>yn _ (yn _ x)⟩
end
noncomputable def ItU (K:Sg) (a:S4):It:=⟨λi H=>∃xs x,SqT K H a xs/\xs[i]?=some x,
 λi H x H'=>∃T u,H T=none/\x= .ref T/\(∀xs,SqT K H a xs->xs[i]?=some u)/\H'=upd H T (.tup [.int i,u]),
 λi H=>∃xs,SqT K H a xs/\i=xs.length⟩
noncomputable def Shj (e it l:S4) (i:Nat) (h:Se):Prop:=(∃old,IsEnum h e it i old)/\h.IsTupleIter it l i
theorem Shj.obj (st:Shj e it l i h):∀b∈ [e,it],∃o,h.get? b=some o/\∀v,o.data≠ .cell v:=λb hb=>by
 obtain ⟨⟨old,h1⟩,⟨o4,h4,_,d4⟩⟩:=st;simp only [yq,yaz,or_false] at hb;rcases hb with rfl|rfl
 ·exact ⟨_,h1,λv z=>by cases z⟩
 ·exact ⟨o4,h4,λv z=>by rw [d4] at z;cases z⟩
theorem Ycf {K} (e it l) (n1:e≠it) (n2:l≠e) (n3:l≠it):
  Turn P w K (.Tuple elts kt pt) (ItU K l) [e,it] e (Shj e it l) where
 mem:=by simp
 obj:=λi h st=>st.obj
 keep:=λi h h' st k=>by
  obtain ⟨⟨old,h1⟩,h2⟩:=st;exact ⟨⟨old,k e (by simp) _ h1⟩,h2.at λo q=>k it (by simp) o q⟩
 item:=by
  intro X hP hw hK hc i pins s σ H E I hf st hg;subst hP hw hK;obtain ⟨xs,x,q1,hx⟩:=hg;obtain ⟨its,rv,p1,_⟩:=I.tuple q1;obtain ⟨u,hu,ru⟩:=rv.get hx;have hh:X.A.in1.handled=none:=I.ok.hd hc;have W:=WalksT.enumerateD (prog:=X.prog) (w:=X.w) (Jt0 hh it l n3 its.toArray) e n1 (by simp [n1,yx n2]) (by simp);obtain ⟨s1,s2⟩:=st;have li:=(yi.mp hu).1;refine W.item i s _ _ (by simp only [yw];omega) ⟨s1,s2,p1⟩ λT vals h' tk hP fT tT mid kk=>⟨_,rfl,W.go elts kt pt i T _ _ _ mid λh'' st'' kk2=>?_⟩;obtain ⟨t,a,ha,rfl⟩:=hP;have ea:=by simpa [hu] using ha.symm
  subst ea;obtain ⟨t1,t2,_⟩:=st'';have kT:h''.IsTuple T #[.int i t,a]:=by
   obtain ⟨o,q,r⟩:=tT;exact ⟨o,kk2 T o (W.apart i T h' mid) q,r⟩
  refine ⟨.ref T,upd H T (.tup [.int i,x]),I.turnTup hf (λc o hc q=>kk2 c o hc (kk c o hc q)) fT ⟨(show 2<=S9 by decide),[.int i t,a],.cons ⟨t,rfl⟩ (.cons ru .nil),kT⟩,rfl,⟨T,x,I.hok.fresh fT,rfl,λxs' hq=>by rw [I.tuple_inj hq q1];exact hx,rfl⟩,⟨t1,t2⟩,λc hc=>?_⟩;rw [Sx (λw'=>?_)]
  ·exact ((hf c hc).1)
  ·subst w';obtain ⟨o,q,_⟩:=Shj.obj (⟨s1,s2⟩) c hc;exact absurd (yj q) (ybk.mpr fT)
 done:=by
  intro X hP hw hK hc i pins s σ H E I hf st hg;subst hP hw hK;obtain ⟨xs,q1,hi⟩:=hg;obtain ⟨its,rv,p1,_⟩:=I.tuple q1;have hh:X.A.in1.handled=none:=I.ok.hd hc;obtain ⟨s1,s2⟩:=st;have e1:=rv.length;have ei:i=its.toArray.size:=by simp only [yw];omega
  subst ei;exact (WalksT.enumerateD (Jt0 hh it l n3 its.toArray) e n1 (by simp [n1,yx n2]) (by simp)).done s _ _ ⟨s1,s2,p1⟩ λh' tk kk=>⟨rfl,I.turnMany hf λc o hc q=>kk c o hc q⟩
 self:=λ_ _ _ _ _ st h=>let ⟨_,q⟩:=st.1;wpAny_pyIter_enum q h
noncomputable def Srn (K:Sg) (ta:TA):TI:=λσ H R=>ta σ H λvs H1=>∃a,vs= [.ref a]/\(∃xs,SqT K H1 a xs)/\R (ItU K a) H1
theorem Jzo (hg:Gl X "enumerate") (hm:X.mg "enumerate" =none) (ha:PA X [a] ta) (hs:starEach [a] X.env= [(false,eval a X.env)]:=by rfl):
  PI X (.Tuple elts kt pt) (.Call (.Name "enumerate" p) [a] [] pos) (Srn X.K ta):=by
 intro pins s σ H R I h;refine Call_ (Jpx I hg hm Js4 (PyProof.Rows.callWith_type1 (thn (ha pos pins s σ H _ I h) λus s1 zq=>?_) (by rw [hs];rfl) rfl));obtain ⟨vs,H1,I1,r1,q1⟩:=zq;obtain ⟨l,rfl,⟨xs,q1⟩,q⟩:=q1;obtain ⟨u,rfl,r2⟩:=Joh r1;obtain rfl:u=Value.ref l:=r2;obtain ⟨its,rv,p1,_⟩:=I1.tuple q1;have a1:l < s1.heap.objs.size:=by obtain ⟨o,e,_⟩:=p1;exact yj e
 refine Ybf (p1) λh' z1 z2 kk=>?_;have I2:Ss X pins σ H1 {s1 with heap:=h'}:=I1.kept kk;refine wpAny_pyIter_enum z1 ⟨_,_,_,_,H1,rfl,I2,Ycf (s1.heap.objs.size+1) s1.heap.objs.size l (Nat.succ_ne_self _) (yy (ycn a1)) (yy a1),⟨⟨_,z1⟩,z2⟩,λc hc=>?_,q⟩;have hc':s1.heap.objs.size<=c:=by
  simp only [yq,yaz,or_false] at hc;rcases hc with rfl|rfl
  ·exact Nat.le_succ _
  ·exact yg _
 exact I1.fpOk hc' (I1.hok.fresh hc')
noncomputable abbrev DrA (prog:Sa) (w:Sc) (i l:S4) (n:Nat) (P:Nat->S5->Prop) (St:Nat->Se->Prop):Prop:=∀A:Sd,A.handled=none->Draws prog w A i [i,l] n P St
noncomputable def SqB (K:Sg) (H:Hp) (l:S4):Bool->List V->Prop
 |false,xs=>Sz K H l xs
 |true,xs=>SqT K H l xs
noncomputable def IsB (h:Se) (l:S4):Bool->Array S5->Prop
 |false,items=>h.IsList l items
 |true,items=>h.IsTuple l items
noncomputable def IS (it l:S4):Bool->Nat->Se->Prop
 |false,i,h=>h.IsListIter it l i
 |true,i,h=>h.IsTupleIter it l i
noncomputable def itO (l:S4):Bool->Obj
 |false=>{cls:=.type "list_iterator",data:=.fields #[.ref l,.int 0 0]}
 |true=>{cls:=.type "tuple_iterator",data:=.fields #[.ref l,.int 0 0]}
theorem IS.at (x:IS it l b i h) (k:∀o,h.get? it=some o->h'.get? it=some o):IS it l b i h':=by
 cases b
 ·exact Heap.IsListIter.at x k
 ·exact Heap.IsTupleIter.at x k
theorem IS.obj (x:IS it l b i h):∃o,h.get? it=some o/\∀v,o.data≠ .cell v:=by
 cases b
 ·obtain ⟨o,e,_,d⟩:=x;exact ⟨o,e,λv z=>by rw [d] at z;cases z⟩
 ·obtain ⟨o,e,_,d⟩:=x;exact ⟨o,e,λv z=>by rw [d] at z;cases z⟩
theorem drA (b) (ne:l≠it) (items):DrA prog w it l items.size (λi v=>items[i]?=some v) (λi h=>IS it l b i h/\IsB h l b items):=λA hh=>by
 cases b
 ·exact Draws.list hh it l ne items
 ·exact Jt0 hh it l ne items
section
variable {prog:Sa} {w:Sc} {A:Sd} {E:S5->S6->Prop} {s:S6}
theorem IsB.push (x:IsB h l b items) (o):IsB (h.push o) l b items:=by
 cases b
 ·exact Heap.IsList.push x o
 ·exact Heap.IsTuple.push x o
theorem IsB.lt (x:IsB h l b items):l < h.objs.size:=by
 cases b
 ·obtain ⟨o,e,_⟩:=x;exact yj e
 ·obtain ⟨o,e,_⟩:=x;exact yj e
theorem Js8 {Q} (x:IsB s.heap l b items) (hQ:Q (.ref s.heap.objs.size) {s with heap:=s.heap.push (itO l b)}):Sf (model prog w) A (pyIter (.ref l)) Q E s:=by
 cases b
 ·exact wpAny_pyIter_list x hQ
 ·exact wpAny_pyIter_tuple x hQ
end
section
variable {X:Cx} {pins:List (S4×Obj)} {σ:St} {H:Hp} {s:S6}
theorem Ss.seqB (I:Ss X pins σ H s) (h:SqB X.K H l b xs):∃its,Sy xs its/\IsB s.heap l b its.toArray:=by
 cases b
 ·obtain ⟨its,rv,p,_⟩:=I.list h;exact ⟨its,rv,p.isList⟩
 ·obtain ⟨its,rv,p,_⟩:=I.tuple h;exact ⟨its,rv,p⟩
theorem Ss.seqB_inj (I:Ss X pins σ H s) (h:SqB X.K H l b xs) (h':SqB X.K H l b ys):xs=ys:=by
 cases b
 ·exact I.list_inj h h'
 ·exact I.tuple_inj h h'
end
structure ZE where
 i:S4
 l:S4
 b:Bool
 its:Array S5
noncomputable abbrev Jq4 (h:Se) (T:S4) (vs:List S5):Prop:=h.get? T=some {cls:=.type "tuple",data:=.seq vs.toArray}
structure ZA (z TI TO:S4) (zs:List ZE):Prop where
 nd:(z::TI::TO::zs.map (·.i)).Nodup
 m:∀q∈zs,q.l∉z::TI::TO::zs.map (·.i)
theorem Ybp {α β:Type} {M:Model} {A:Sd} {E:S5->S6->Prop} {f:α->β->Sem (ForInStep β)} {b:β} {l:List α} {Q:β->S6->Prop}:
  ∀{s:S6} (J:Nat->S6->Prop),(∀j a s,l[j]?=some a->J j s->Sf M A (f a b) (λr s'=>r= .yield b/\J (j+1) s') E s)->J 0 s->(∀s',J l.length s'->Q b s')->Sf M A (forIn l b f) Q E s:=by
 induction l with
 |nil=>
  intro s J st h0 hq;rw [yco];exact S8 (hq s h0)
 |cons a l ih=>
  intro s J st h0 hq;rw [yby];refine S7 (wpAny_mono (st 0 a s rfl h0) (λr s' ⟨e,j⟩=>?_) λ_ _ z=>z);subst e;exact ih (λj=>J (j+1)) (λj a s e=>st (j+1) a s (by simpa using e)) j hq
section
variable {prog:Sa} {w:Sc} {A:Sd} {E:S5->S6->Prop} {s:S6} {z TI TO:S4} {zs:List ZE} {k:Nat}
theorem St5 {k} {Q} {vs:List S5} (sz:vs.length<=S9) (hT:Jq4 s.heap T vs) (h:∀h',Jq4 h' T (vs.set k x)->yay T s.heap h'->Q () {s with heap:=h'}):Sf (model prog w) A (updateSeq T (·.setIfInBounds k x)) Q E s:=by
 refine wpAny_updateSeq hT rfl (h _ ?_ (yay.update ..)) (by simpa using sz) (by simp;omega);show _=some _;rw [ycg _ hT rfl];simp [Obj.mapSeq]
theorem ZA.ne (Z:ZA z TI TO zs):z≠TI/\z≠TO/\TI≠TO/\(∀q∈zs,q.i≠z/\q.i≠TI/\q.i≠TO/\q.l≠z/\q.l≠TI/\q.l≠TO)/\(∀q∈zs,∀r∈zs,q.l≠r.i)/\∀(i j:Nat) (q r:ZE),zs[i]?=some q->zs[j]?=some r->i≠j->q.i≠r.i:=by
 obtain ⟨nd,m⟩:=Z;simp only [ybi,yq,not_or] at nd;obtain ⟨⟨h1,h2,h3⟩,⟨h4,h5⟩,h6,h7⟩:=nd;have mem:∀q∈zs,q.i∈zs.map (·.i):=λq hq=>ybg hq;refine ⟨h1,h2,h4,λq hq=>?_,λq hq r hr e=>?_,λi j q r hi hj ne e=>ne ?_⟩
 ·have q1:=mem q hq;have q2:=m q hq;simp only [yq,not_or] at q2;exact ⟨λe=>h3 (e▸q1),λe=>h5 (e▸q1),λe=>h6 (e▸q1),q2.1,q2.2.1,q2.2.2.1⟩
 ·have q2:=m q hq;simp only [yq,not_or] at q2;exact q2.2.2.2 (e▸mem r hr)
 ·have e1:(zs.map (·.i))[i]?=some q.i:=by rw [ym,hi];rfl
  have e2:(zs.map (·.i))[j]?=some q.i:=by rw [ym,hj,e];rfl
  obtain ⟨li,ei⟩:=yi.mp e1;obtain ⟨lj,ej⟩:=yi.mp e2;have pw:=List.pairwise_iff_getElem.mp h7;rcases Nat.lt_trichotomy i j with c|c|c
  ·exact absurd (ei.trans ej.symm) (pw i j li lj c)
  ·exact c
  ·exact absurd (ej.trans ei.symm) (pw j i lj li c)
theorem IsB.at {h h':Se} {l:S4} {b:Bool} {items:Array S5} (x:IsB h l b items) (k:∀o,h.get? l=some o->h'.get? l=some o):IsB h' l b items:=by
 cases b
 ·obtain ⟨o,e,r⟩:=x;exact ⟨o,k o e,r⟩
 ·obtain ⟨o,e,r⟩:=x;exact ⟨o,k o e,r⟩
theorem IS.but {it l:S4} {b:Bool} {i:Nat} {h h':Se} {c:S4} (e:it≠c) (sb:yay c h h') (x:IS it l b i h):IS it l b i h':=x.at λo q=>sb.extBut _ _ e q
theorem Yha {Q:S5->S6->Prop} {q0:ZE} {ws:List S5} (Z:ZA z TI TO (q0::zs)) (hz:IsZip s.heap z TI TO .none) (hTI:Jq4 s.heap TI ((q0::zs).map λq=>.ref q.i)) (hTO:Jq4 s.heap TO ws) (hw:ws.length=(q0::zs).length) (hs:(q0::zs).length<=S9)
  (hh:A.handled=none) (hq:∀q∈q0::zs,IsB s.heap q.l q.b q.its/\k < q.its.size/\IS q.i q.l q.b k s.heap)
  (hQ:∀(xs:List S5) h' tk,xs.length=(q0::zs).length->(∀(j:Nat) (q:ZE) (x:S5),(q0::zs)[j]?=some q->xs[j]?=some x->q.its[k]?=some x)->IsZip h' z TI TO (rawInt s.heap.objs.size)->Jq4 h' TO xs->(∀q∈q0::zs,IS q.i q.l q.b (k+1) h')->Jq4 h' s.heap.objs.size xs->
   (∀d o,d≠z->d≠TO->d∉(q0::zs).map (·.i)->s.heap.get? d=some o->h'.get? d=some o)->Q (.ref s.heap.objs.size) {s with heap:=h',toks:=tk}):
  Sf (model prog w) A (Builtin.«zip.__next__» ⟨[.ref z],[]⟩) (λfin s'=>∃v,fin= .done (.ret v)/\Q v s') E s:=by
 obtain ⟨zTI,zTO,TITO,ap,al,ai⟩:=Z.ne;show Sf _ _ (field (.ref z) 2 >>=_) _ _ _;refine S7 (wpAny_field hz rfl (x:=.bool false) rfl ?_);refine S7 (m:=field (.ref z) 3) (wpAny_field hz rfl (x:=.ref TI) rfl ?_);refine S7 (wpAny_seqItems hTI rfl ?_);refine S7 (m:=Builtin.SmallTypes.ownedTupleIsFree (.ref z)) ?_;refine S7 (wpAny_field hz rfl (x:=.none) rfl (S8 ?_));refine S7 (wpAny_rule (S7 (wpAny_field hz rfl (x:=.ref TO) rfl (S7 (wpAny_setField_rec hz (by simp) λh1 hz1 s1=>?_)))));refine S7 ?_;refine Ybp (λj s'=>∃(h':Se) (tk:_) (vs:List S5),s'={s with heap:=h',toks:=tk}/\h'.objs.size=s.heap.objs.size/\IsZip h' z TI TO .ellipsis/\Jq4 h' TO vs/\vs.length=(q0::zs).length/\(∀i,i < j->∀(q:ZE) (x:S5),(q0::zs)[i]?=some q->vs[i]?=some x->q.its[k]?=some x)/\(∀(i:Nat) (q:ZE),(q0::zs)[i]?=some q->IS q.i q.l q.b (if i < j then k+1 else k) h')/\∀d o,d≠z->d≠TO->d∉(q0::zs).map (·.i)->s.heap.get? d=some o->h'.get? d=some o) (λj a s' hj hJ=>?_) ?_ ?_
 ·obtain ⟨q,hq',rfl⟩:∃q,(q0::zs)[j]?=some q/\a=(.ref q.i,j):=by
   rw [List.getElem?_zipIdx] at hj;obtain ⟨v,hv,rfl⟩:=ybc.mp hj;rw [ym] at hv;obtain ⟨q,h1,rfl⟩:=ybc.mp hv;exact ⟨q,h1,by simp⟩
  have mq:=yr hq';obtain ⟨a1,a2,a3,a4,a5,a6⟩:=ap q mq;obtain ⟨b1,b2,b3⟩:=hq q mq;obtain ⟨h',tk,vs,rfl,sz,hz',ho,lw,don,st,fr⟩:=hJ;have stq:=st j q hq';rw [if_neg (ybd j)] at stq;have iB:IsB h' q.l q.b q.its:=b1.at λo e=>fr _ _ a4 a6 (λhm=>by
   obtain ⟨r,hr,e⟩:=yo.mp hm;exact al q mq r hr e.symm) e
  refine S7 (wpAny_onRaise ?_);refine S7 (m:=Builtin.SmallTypes.nextOf (.ref q.i)) ((drA (prog:=prog) (w:=w) q.b (al q mq q mq) q.its A hh).item k _ _ _ b2 ⟨stq,iB⟩ λx h2 k2 px u1 s2=>S8 ?_);have o2:Jq4 h2 TO vs:=s2.extBut _ _ (yx a3) ho;refine S7 (wpAny_seqItems o2 rfl (S7 (St5 (by omega) o2 λh3 o3 s3=>S7 (wpAny_letGo (S8 ?_)))));refine ⟨rfl,h3,k2,vs.set j x,rfl,by rw [s3.1,s2.1,sz],s3.extBut _ _ zTO (s2.extBut _ _ (yx a1) hz'),o3,by rw [ybx];exact lw,λi hi r y hr hy=>?_,λi r hr=>?_,λd o c1 c2 c3 e=>s3.extBut _ _ c2 (s2.extBut _ _ (λz=>c3 (z▸ybg mq)) (fr d o c1 c2 c3 e))⟩
  ·rw [yct] at hy;split at hy
   ·rename_i ij
    subst ij;rw [hq'] at hr;cases hr;split at hy
    ·cases hy;exact px
    ·cases hy
   ·exact don i (by omega) r y hr hy
  ·by_cases ij:i=j
   ·subst ij;rw [hq'] at hr;cases hr;rw [if_pos (ybw i)];exact IS.but a3 s3 u1.1
   ·have e:(if i < j+1 then k+1 else k)=(if i < j then k+1 else k):=by split <;> split <;> omega
    rw [e];exact IS.but (ap r (yr hr)).2.2.1 s3 (IS.but (ai i j r q hr hq' ij) s2 (st i r hr))
 ·refine ⟨h1,_,ws,rfl,s1.1,hz1,s1.extBut _ _ (yx zTO) hTO,hw,λi hi=>absurd hi (Nat.not_lt_zero i),λi q hi=>?_,λd o c1 _ _ e=>s1.extBut _ _ c1 e⟩;rw [if_neg (Nat.not_lt_zero i)];exact IS.but (ap q (yr hi)).1 s1 (hq q (yr hi)).2.2
 ·rintro s' ⟨h9,tk,vs,rfl,sz,zz,o9,lw,don,st,fr⟩;have ln:((List.map (λq:ZE=>Value.ref q.i) (q0::zs)).toArray.toList.zipIdx).length=(q0::zs).length:=by simp
  rw [ln] at don st;refine S7 (wpAny_seqItems o9 rfl (S7 (wpAny_newTuple ?_)));have zlt:z < h9.objs.size:=yj zz;refine S7 (m:=Builtin.SmallTypes.ownedTupleHandOut (.ref z) (.ref h9.objs.size)) ?_;have zp:IsZip (h9.push {cls:=.type "tuple",data:=.seq vs.toArray}) z TI TO .ellipsis:=yn _ zz;refine S7 (wpAny_setField_rec zp (by simp) λh10 hz10 s10=>?_);refine wpAny_setField_rec hz10 (by simp) λh11 hz11 s11=>?_;have up:∀d o,d≠z->h9.get? d=some o->h11.get? d=some o:=λd o c1 e=>s11.extBut _ _ c1 (s10.extBut _ _ c1 (yn _ e));have nw:Jq4 h11 h9.objs.size vs:=s11.extBut _ _ (ybo zlt) (s10.extBut _ _ (ybo zlt) (yt _ rfl));rw [sz] at hz11 nw;refine S8 ⟨_,rfl,?_⟩;dsimp only;rw [sz];exact hQ vs h11 _ lw (λj q x hj hx=>don j (yi.mp hj).1 q x hj hx) hz11 (up _ _ (yx zTO) o9) (λq mq=>by
   obtain ⟨j,hj⟩:=ybl mq;have:=st j q hj;rw [if_pos (yi.mp hj).1] at this;exact this.at λo e=>up _ _ (ap q mq).1 e) nw λd o c1 c2 c3 e=>up d o c1 (fr d o c1 c2 c3 e)
theorem Sp8 {Q:_} {q0:ZE} (Z:ZA z TI TO (q0::zs)) (hz:IsZip s.heap z TI TO .none) (hTI:Jq4 s.heap TI ((q0::zs).map λq=>.ref q.i)) (hh:A.handled=none) (hb:IsB s.heap q0.l q0.b q0.its) (t1:IS q0.i q0.l q0.b q0.its.size s.heap)
  (hE:∀h' e,(∀d o,d≠z->d≠q0.i->s.heap.get? d=some o->h'.get? d=some o)->(∃o,h'.get? e=some o/\o.cls= .type "StopIteration")->E (.ref e) {s with heap:=h'}):
  Sf (model prog w) A (Builtin.«zip.__next__» ⟨[.ref z],[]⟩) Q E s:=by
 obtain ⟨zTI,zTO,TITO,ap,al,ai⟩:=Z.ne;obtain ⟨a1,a2,a3,a4,a5,a6⟩:=ap q0 yab;show Sf _ _ (field (.ref z) 2 >>=_) _ _ _;refine S7 (wpAny_field hz rfl rfl (S7 (wpAny_field hz rfl rfl (S7 (wpAny_seqItems hTI rfl ?_)))));refine S7 (S7 (wpAny_field hz rfl rfl (S8 (S7 (wpAny_rule (S7 (wpAny_field hz rfl rfl (S7 (wpAny_setField_rec hz (by simp) λh1 hz1 s1=>S7 ?_)))))))));have D:=drA (prog:=prog) (w:=w) q0.b (al q0 yab q0 yab) q0.its A hh;refine S7 (S7 (wpAny_onRaise (S7 (D.done _ _ _ ⟨IS.but a1 s1 t1,hb.at λo e=>s1.extBut _ _ a4 e⟩ λh2 e s2 he=>?_))));obtain ⟨oe,hoe,hce⟩:=he;have hz2:=s2 _ _ (yx a1) hz1;have ez:e≠z:=λq=>by subst q;rw [hz2] at hoe;cases hoe;simp at hce
 exact wpAny_setField_rec hz2 (by simp) λh3 _ s3=>hE h3 e (λd o c1 c2 q=>s3.extBut _ _ c1 (s2 _ _ c2 (s1.extBut _ _ c1 q))) ⟨oe,s3.extBut _ _ ez hoe,hce⟩
noncomputable def ZNS (z TI TO:S4) (zs:List ZE) (i:Nat) (h:Se):Prop:=IsZip h z TI TO .none/\Jq4 h TI (zs.map λq=>.ref q.i)/\(∃ws:List S5,ws.length=zs.length/\Jq4 h TO ws)/\∀q∈zs,IS q.i q.l q.b i h/\IsB h q.l q.b q.its
noncomputable def ZNM (z TI TO:S4) (zs:List ZE) (i:Nat) (T:S4) (h:Se):Prop:=IsZip h z TI TO (rawInt T)/\Jq4 h TI (zs.map λq=>.ref q.i)/\(∃ws:List S5,ws.length=zs.length/\Jq4 h TO ws)/\(∀q∈zs,IS q.i q.l q.b (i+1) h/\IsB h q.l q.b q.its)/\T∉z::TO::zs.map (·.i)
theorem Yez {q0:ZE} (hh:A.handled=none) (Z:ZA z TI TO (q0::zs)) (hs:(q0::zs).length<=S9) (hn:∀q∈q0::zs,q0.its.size<=q.its.size):
  WalksT prog w A z (z::TI::TO::((q0::zs).map (·.i)++(q0::zs).map (·.l))) (z::TO::(q0::zs).map (·.i)) q0.its.size
   (λi vals=>vals.size=(q0::zs).length/\∀(j:Nat) (q:ZE) (x:S5),(q0::zs)[j]?=some q->vals[j]?=some x->q.its[i]?=some x) (ZNS z TI TO (q0::zs)) (ZNM z TI TO (q0::zs)) where
 sub:=λc hc=>by
  simp only [yq,yax] at hc⊢;grind
 frame:=λi h h' hst hk=>by
  obtain ⟨hz,hTI,⟨ws,lw,hTO⟩,hq⟩:=hst;refine ⟨hk z (by simp) _ hz,hk TI (by simp) _ hTI,⟨ws,lw,hk TO (by simp) _ hTO⟩,λq mq=>⟨(hq q mq).1.at λo e=>hk _ ?_ o e,(hq q mq).2.at λo e=>hk _ ?_ o e⟩⟩
  ·exact yz _ (yz _ (yz _ (ycr _ (ybg mq))))
  ·exact yz _ (yz _ (yz _ (ybe _ (ybg mq))))
 item:=λi s Q E hi hst hQ=>by
  obtain ⟨hz,hTI,⟨ws,lw,hTO⟩,hq⟩:=hst;obtain ⟨zTI,zTO,TITO,ap,al,ai⟩:=Z.ne;have hT:s.TypeIs (.ref z) "zip" :=⟨_,hz,rfl⟩;refine S7 (wpAny_attempt (wpAny_callSpecial?_slot hT F.slot_zip_next (wpAny_call_entry F.slot_zip_next hT F.entry_zip_next
   (Yha (k:=i) Z hz hTI hTO lw hs hh (λq mq=>⟨(hq q mq).2,yar hi (hn q mq),(hq q mq).1⟩) λxs h' tk lx px a1 a2 a3 a4 hk=>S8 ?_) (F.args_zip_next_1 _))))
  have notm:∀q∈q0::zs,q.l∉(q0::zs).map (·.i):=λq mq hm=>by
   obtain ⟨r,hr,e⟩:=yo.mp hm;exact al q mq r hr e.symm
  have lt:∀{d o},s.heap.get? d=some o->s.heap.objs.size≠d:=λe=>ybo (yj e);refine hQ s.heap.objs.size xs.toArray h' tk ⟨by simpa using lx,λj q x hj hx=>px j q x hj (by simpa using hx)⟩ (yg _) ⟨_,a4,rfl,_,rfl⟩ ⟨a1,hk _ _ (yx zTI) TITO (λhm=>?_) hTI,⟨xs,lx,a2⟩,λq mq=>⟨a3 q mq,(hq q mq).2.at λo e=>hk _ _ (ap q mq).2.2.2.1 (ap q mq).2.2.2.2.2 (notm q mq) e⟩,λhm=>?_⟩ λd o hd e=>hk d o (λq=>hd (by simp [q])) (λq=>hd (by simp [q])) (λq=>hd (yz _ (yz _ q))) e
  ·obtain ⟨r,hr,e⟩:=yo.mp hm;exact (ap r hr).2.1 e
  ·rcases yq.mp hm with e|hm
   ·exact lt hz e
   ·rcases yq.mp hm with e|hm
    ·exact lt hTO e
    ·obtain ⟨r,hr,e⟩:=yo.mp hm;obtain ⟨o,e',_⟩:=(hq r hr).1.obj;exact lt e' e.symm
 go:=λelts k pos i T s Q E hm hQ=>by
  obtain ⟨hz,hTI,⟨ws,lw,hTO⟩,hq,_⟩:=hm;obtain ⟨zTI,zTO,TITO,ap,al,ai⟩:=Z.ne;exact wpAny_letOwnedTupleGo_zip hz λh' hz' sb=>hQ h' ⟨hz',sb.extBut _ _ (yx zTI) hTI,⟨ws,lw,sb.extBut _ _ (yx zTO) hTO⟩,λq mq=>⟨IS.but (ap q mq).1 sb (hq q mq).1,(hq q mq).2.at λo e=>sb.extBut _ _ (ap q mq).2.2.2.1 e⟩⟩ λd o hd e=>sb.extBut _ _ (λq=>hd (by simp [q])) e
 apart:=λi T h hm hT=>hm.2.2.2.2 hT
 done:=λs Q E hst hQ=>by
  obtain ⟨hz,hTI,_,hq⟩:=hst;have hT:s.TypeIs (.ref z) "zip" :=⟨_,hz,rfl⟩;have h0:=hq q0 yab;refine S7 (wpAny_attempt (wpAny_callSpecial?_slot hT F.slot_zip_next (wpAny_call_entry F.slot_zip_next hT F.entry_zip_next
   (Sp8 Z hz hTI hh h0.2 h0.1 λh' e hk he=>?_) (F.args_zip_next_1 _))))
  obtain ⟨o,ho,hc⟩:=he;exact S7 (wpAny_isInstance ⟨o,ho,hc⟩ isSubtype_stop (S8 (hQ h' s.toks λd o' hd e'=>hk d o' (λq=>hd (by simp [q])) (λq=>hd (by simp [q])) e')))
 self:=λi s Q E hst hQ=>wpAny_pyIter_zip hst.1 hQ
end
noncomputable def Jq3 (h:Se):List Obj->Se
 | []=>h
 |o::r=>Jq3 (h.push o) r
noncomputable def itA (h:Se):List Obj->List S4
 | []=>[]
 |o::r=>h.objs.size::itA (h.push o) r
theorem Jxf {os:List Obj}:∀{h:Se},h.get? c=some o->(Jq3 h os).get? c=some o:=by
 induction os with
 |nil=>exact λe=>e
 |cons q r ih=>exact λe=>ih (yn _ e)
theorem Ya2 {os:List Obj}:∀{h:Se},(Jq3 h os).objs.size=h.objs.size+os.length:=by
 induction os with
 |nil=>intro h;rfl
 |cons q r ih=>
  intro h;show (Jq3 (h.push q) r).objs.size=h.objs.size+(r.length+1);rw [ih,yau];omega
theorem Jxt {os:List Obj}:∀{h:Se},itA h os=List.range' h.objs.size os.length:=by
 induction os with
 |nil=>intro h;rfl
 |cons q r ih=>
  intro h;show h.objs.size::itA (h.push q) r=_;rw [ih,yau];rfl
theorem Yfh {os:List Obj}:∀{h:Se} {j:Nat} {o:Obj},os[j]?=some o->o.isFreed=false->(Jq3 h os).get? (h.objs.size+j)=some o:=by
 induction os with
 |nil=>intro h j o e;simp at e
 |cons q r ih=>
  intro h j o e f;cases j with
  |zero=>
   cases e;exact Jxf (h:=h.push q) (yt _ f)
  |succ j=>
   have:=ih (h:=h.push q) (j:=j) (by simpa using e) f;rw [yau] at this;rw [show h.objs.size+(j+1)=h.objs.size+1+j by omega];exact this
noncomputable abbrev zOs (ls:List (S4×Bool)):List Obj:=ls.map λl=>itO l.1 l.2
noncomputable abbrev gD (h:Se) (ls:List (S4×Bool)):Se:=(Jq3 h (zOs ls)).push {cls:=.type "tuple",data:=.seq ((itA h (zOs ls)).map Value.ref).toArray}
noncomputable abbrev gE (h:Se) (ls:List (S4×Bool)):Se:=(gD h ls).push {cls:=.type "tuple",data:=.seq (ls.map λ_=>Value.none).toArray}
noncomputable abbrev gF (h:Se) (ls:List (S4×Bool)):Se:=(gE h ls).push {cls:=.type "zip",data:=.fields #[.none,.bool false,.bool false,.ref (Jq3 h (zOs ls)).objs.size,.ref (gD h ls).objs.size]}
section
variable {prog:Sa} {w:Sc} {A:Sd} {E:S5->S6->Prop} {s:S6} {ls:List (S4×Bool)}
theorem Jr4 (h:Se):IsZip (gF h ls) (gE h ls).objs.size (Jq3 h (zOs ls)).objs.size (gD h ls).objs.size .none/\Jq4 (gF h ls) (Jq3 h (zOs ls)).objs.size ((itA h (zOs ls)).map Value.ref)/\Jq4 (gF h ls) (gD h ls).objs.size (ls.map λ_=>Value.none)/\
  (∀(j:Nat) (i:S4) (l:S4×Bool),(itA h (zOs ls))[j]?=some i->ls[j]?=some l->IS i l.1 l.2 0 (gF h ls))/\(∀c o,h.get? c=some o->(gF h ls).get? c=some o)/\(∀c∈(gE h ls).objs.size::(Jq3 h (zOs ls)).objs.size::(gD h ls).objs.size::itA h (zOs ls),h.objs.size<=c)/\
  ((gE h ls).objs.size::(Jq3 h (zOs ls)).objs.size::(gD h ls).objs.size::itA h (zOs ls)).Nodup:=by
 have z0:=Ya2 (h:=h) (os:=zOs ls);have z1:(gD h ls).objs.size=(Jq3 h (zOs ls)).objs.size+1:=yau ..;have z2:(gE h ls).objs.size=(gD h ls).objs.size+1:=yau ..;have p:∀{h:Se} {c:S4} {o q:Obj},h.get? c=some o->(h.push q).get? c=some o:=λe=>yn _ e;have fr:∀l b,(itO l b).isFreed=false:=λl b=>by cases b <;> rfl
 refine ⟨yt _ rfl,p (p (yt _ rfl)),p (yt _ rfl),λj i l hi hl=>?_,λc o e=>p (p (p (Jxf e))),λc hc=>?_,?_⟩
 ·rw [Jxt] at hi;have hj:j < (zOs ls).length:=by simpa using (yi.mp hi).1
  rw [List.getElem?_range' hj] at hi;have e:=Yfh (h:=h) (os:=zOs ls) (j:=j) (o:=itO l.1 l.2) (by rw [ym,hl];rfl) (fr _ _);have e':(gF h ls).get? i=some (itO l.1 l.2):=p (p (p (by rw [<-yac.inj hi];simpa using e)));obtain ⟨l,b⟩:=l;cases b
  ·exact ⟨_,e',rfl,rfl⟩
  ·exact ⟨_,e',rfl,rfl⟩
 ·rw [Jxt] at hc;simp only [yq,List.mem_range'_1] at hc;omega
 ·rw [Jxt];simp only [ybi,yq,List.mem_range'_1,not_or];exact ⟨⟨by omega,by omega,by omega⟩,⟨by omega,by omega⟩,by omega,List.nodup_range'⟩
end
noncomputable def SqN (K:Sg) (H:Hp) (ls:List (S4×Bool)) (xss:List (List V)):Prop:=xss.length=ls.length/\∀(j:Nat) (l:S4×Bool) (xs:List V),ls[j]?=some l->xss[j]?=some xs->SqB K H l.1 l.2 xs
noncomputable def Js0 (K:Sg) (ls:List (S4×Bool)):It:=
 ⟨λi H=>∃(x0:List V) (xss:List (List V)),SqN K H ls (x0::xss)/\(∀xs∈xss,x0.length<=xs.length)/\i < x0.length,
  λi H x H'=>∃(T:S4) (ps:List V),H T=none/\x= .ref T/\(∀xss,SqN K H ls xss->ps.length=xss.length/\∀(j:Nat) (p:V) (xs:List V),ps[j]?=some p->xss[j]?=some xs->xs[i]?=some p)/\H'=upd H T (.tup ps),
  λi H=>∃(x0:List V) (xss:List (List V)),SqN K H ls (x0::xss)/\(∀xs∈xss,x0.length<=xs.length)/\i=x0.length⟩
noncomputable def ZNT (z TI TO:S4) (is:List S4) (ls:List (S4×Bool)) (k:Nat) (h:Se):Prop:=IsZip h z TI TO .none/\Jq4 h TI (is.map Value.ref)/\(∃ws:List S5,ws.length=is.length/\Jq4 h TO ws)/\∀(j:Nat) (i:S4) (l:S4×Bool),is[j]?=some i->ls[j]?=some l->IS i l.1 l.2 k h
theorem Slb:∀{ps:List V} {vs:List S5},ps.length=vs.length->(∀(j:Nat) (p:V) (v:S5),ps[j]?=some p->vs[j]?=some v->Sw p v)->Sy ps vs
 | [],[],_,_=>.nil
 |p::ps,v::vs,e,f=>.cons (f 0 p v rfl rfl) (Slb (by simpa using e) λj p v h1 h2=>f (j+1) p v (by simpa using h1) (by simpa using h2))
 | [],_::_,e,_=>by simp at e
 |_::_,[],e,_=>by simp at e
theorem Ss.zes {X:Cx} (I:Ss X pins σ H s):∀{ls:List (S4×Bool)} {xss:List (List V)} {is:List S4},is.length=ls.length->SqN X.K H ls xss->
  ∃zs:List ZE,zs.map (·.i)=is/\zs.map (λq=>(q.l,q.b))=ls/\∀(j:Nat) (q:ZE) (xs:List V),zs[j]?=some q->xss[j]?=some xs->Sy xs q.its.toList/\IsB s.heap q.l q.b q.its:=by
 intro ls
 induction ls with
 |nil=>
  intro xss is li _;obtain rfl:is= []:=List.length_eq_zero_iff.mp li;exact ⟨[],rfl,rfl,λj q xs e=>by simp at e⟩
 |cons l ls ih=>
  intro xss is li sq;cases is with
  |nil=>simp at li
  |cons i is=>
   cases xss with
   |nil=>simp [SqN] at sq
   |cons x xss=>
    obtain ⟨its,r,p⟩:=I.seqB (sq.2 0 l x rfl rfl);obtain ⟨zs,e1,e2,e3⟩:=ih (xss:=xss) (is:=is) (by simpa using li) ⟨by simpa using sq.1,λj l xs h1 h2=>sq.2 (j+1) l xs (by simpa using h1) (by simpa using h2)⟩;refine ⟨⟨i,l.1,l.2,its.toArray⟩::zs,by rw [yap,e1],by rw [yap,e2],λj q xs h1 h2=>?_⟩;cases j with
    |zero=>cases h1;cases h2;exact ⟨r,p⟩
    |succ j=>exact e3 j q xs (by simpa using h1) (by simpa using h2)
theorem ZNT.obj {z TI TO:S4} {is:List S4} {ls:List (S4×Bool)} (li:is.length=ls.length) (st:ZNT z TI TO is ls k h):∀b∈z::TI::TO::is,∃o,h.get? b=some o/\∀v,o.data≠ .cell v:=λb hb=>by
 obtain ⟨h1,h2,⟨ws,_,h3⟩,h4⟩:=st;simp only [yq] at hb;rcases hb with rfl|rfl|rfl|hb
 ·exact ⟨_,h1,λv z=>by cases z⟩
 ·exact ⟨_,h2,λv z=>by cases z⟩
 ·exact ⟨_,h3,λv z=>by cases z⟩
 ·obtain ⟨j,hj⟩:=ybl hb;have hj':j < ls.length:=by rw [<-li];exact (yi.mp hj).1
  exact (h4 j b ls[j] hj (yh hj')).obj
theorem Yf4 {q0:ZE} {zs:List ZE} {x0:List V} {xss:List (List V)} {s:S6} (len:(x0::xss).length=(q0::zs).length) (hn:∀xs∈xss,x0.length<=xs.length) (e3:∀(j:Nat) (q:ZE) (xs:List V),(q0::zs)[j]?=some q->(x0::xss)[j]?=some xs->Sy xs q.its.toList/\IsB s.heap q.l q.b q.its):
  q0.its.size=x0.length/\(∀q∈q0::zs,∃(j:Nat) (xs:List V),(q0::zs)[j]?=some q/\(x0::xss)[j]?=some xs)/\∀q∈q0::zs,q0.its.size<=q.its.size:=by
 have size:∀(j:Nat) (q:ZE) (xs:List V),(q0::zs)[j]?=some q->(x0::xss)[j]?=some xs->q.its.size=xs.length:=λj q xs h1 h2=>by
  have:=(e3 j q xs h1 h2).1.length;simpa using this.symm
 have at':∀q∈q0::zs,∃(j:Nat) (xs:List V),(q0::zs)[j]?=some q/\(x0::xss)[j]?=some xs:=λq hq=>by
  obtain ⟨j,hj⟩:=ybl hq;have:j < (x0::xss).length:=by rw [len];exact (yi.mp hj).1
  exact ⟨j,_,hj,yh this⟩
 have s0:=size 0 q0 x0 rfl rfl;refine ⟨s0,at',λq hq=>?_⟩;obtain ⟨j,xs,h1,h2⟩:=at' q hq;rw [s0,size j q xs h1 h2];cases j with
 |zero=>cases h2;exact yg _
 |succ j=>exact hn xs (yr (show xss[j]?=some xs by simpa using h2))
theorem Ycg {P:Sa} {w:Sc} {K:Sg} {elts:List Expr} {kt:Nat} {pt:Pos} {ls:List (S4×Bool)} {z TI TO:S4} {is:List S4} (li:is.length=ls.length) (sm:ls.length<=S9) (nd:(z::TI::TO::is).Nodup) (ml:∀l∈ls,l.1∉z::TI::TO::is):
  Turn P w K (.Tuple elts kt pt) (Js0 K ls) (z::TI::TO::is) z (ZNT z TI TO is ls) where
 mem:=by simp
 obj:=λi h st=>st.obj li
 keep:=λi h h' st k=>by
  obtain ⟨h1,h2,⟨ws,lw,h3⟩,h4⟩:=st;exact ⟨k z (by simp) _ h1,k TI (by simp) _ h2,⟨ws,lw,k TO (by simp) _ h3⟩,λj i l hi hl=>(h4 j i l hi hl).at λo e=>k i (by simp [yr hi]) o e⟩
 item:=by
  intro X hP hw hK hc i pins s σ H E I hf st hg;subst hP hw hK;obtain ⟨x0,xss,sq,hn,hi⟩:=hg;obtain ⟨zs,e1,e2,e3⟩:=I.zes li sq;subst e1 e2;cases zs with
  |nil=>simp [SqN] at sq
  |cons q0 zs=>
  have len:=sq.1;rw [ye] at len sm;obtain ⟨s0,at',hn'⟩:=Yf4 len hn e3;have W:=Yez (prog:=X.prog) (w:=X.w) (I.ok.hd hc) ⟨nd,λq hq=>ml (q.l,q.b) (ybg hq)⟩ sm hn';have st0:=st;obtain ⟨s1,s2,⟨ws,lw,s3⟩,s4⟩:=st;refine W.item i s _ _ (by omega) ⟨s1,by rw [yas] at s2;exact s2,⟨ws,by simpa using lw,s3⟩,λq hq=>?_⟩ λT vals h' tk hP fT tT mid kk=>⟨_,rfl,W.go elts kt pt i T _ _ _ mid λh'' st'' kk2=>?_⟩
  ·obtain ⟨j,xs,h1,h2⟩:=at' q hq;exact ⟨s4 j q.i (q.l,q.b) (by rw [ym,h1];rfl) (by rw [ym,h1];rfl),(e3 j q xs h1 h2).2⟩
  obtain ⟨vz,va⟩:=hP;have get:∀(j:Nat) (xs:List V),(x0::xss)[j]?=some xs->i < xs.length:=λj xs h2=>by
   cases j with
   |zero=>cases h2;exact hi
   |succ j=>exact yar hi (hn xs (yr (show xss[j]?=some xs by simpa using h2)))
  have pg:∀(j:Nat) (p:V) (xs:List V),((x0::xss).map λxs=>xs.getD i .non)[j]?=some p->(x0::xss)[j]?=some xs->xs[i]?=some p:=λj p xs hp hx=>by
   rw [ym,hx] at hp;have hp':xs.getD i .non=p:=yac.inj hp;rw [<-hp',yh (get j xs hx)];simp [ybz,yh (get j xs hx)]
  have rel:Sy ((x0::xss).map λxs=>xs.getD i .non) vals.toList:=Slb (by rw [ye,len];simpa using vz.symm) λj p v hp hv=>by
   have hj:j < (x0::xss).length:=by have:=(yi.mp hp).1;simpa using this
   have hx:(x0::xss)[j]?=some (x0::xss)[j]:=yh hj;have hz:(q0::zs)[j]?=some ((q0::zs)[j]'(by omega)):=yh (by omega);have q1:=va j _ v hz (by simpa using hv);obtain ⟨u,hu,r⟩:=(e3 j _ _ hz hx).1.get (pg j p _ hp hx);rw [Array.getElem?_toList] at hu;rw [q1] at hu;cases hu;exact r
  have kT:h''.IsTuple T vals:=by
   obtain ⟨o,q,r⟩:=tT;exact ⟨o,kk2 T o (W.apart i T h' mid) q,r⟩
  have cht:∀c,c∈z::TO::(q0::zs).map (·.i)->c∈z::TI::TO::(q0::zs).map (·.i):=λc hc=>by
   simp only [yq] at hc⊢;grind
  obtain ⟨t1,t2,t3,t4⟩:=st'';refine ⟨.ref T,upd H T (.tup ((x0::xss).map λxs=>xs.getD i .non)),I.turnTup (λc hc=>hf c (cht c hc)) (λc o hc e=>kk2 c o hc (kk c o hc e)) fT ⟨by rw [ye,len];exact sm,vals.toList,rel,by rw [Array.toArray_toList];exact kT⟩,rfl,
   ⟨T,_,I.hok.fresh fT,rfl,λxss' sq'=>?_,rfl⟩,⟨t1,by rw [yas];exact t2,by simpa using t3,λj a l ha hl=>?_⟩,λc hc=>?_⟩
  ·have ex:xss'=x0::xss:=List.ext_getElem? λj=>by
    by_cases hj:j < (x0::xss).length
    ·have hj':j < xss'.length:=by rw [sq'.1,<-sq.1];exact hj
     have hl:j < ((q0::zs).map λq=>(q.l,q.b)).length:=by rw [<-sq.1];exact hj
     rw [yh hj,yh hj'];exact congrArg some (I.seqB_inj (sq'.2 j _ _ (yh hl) (yh hj')) (sq.2 j _ _ (yh hl) (yh hj)))
    ·rw [ycx (by rw [sq'.1,<-sq.1];omega),ycx (by omega)]
   rw [ex];exact ⟨ye ..,pg⟩
  ·rw [ym] at ha hl;obtain ⟨q,hq,rfl⟩:=ybc.mp ha;rw [hq] at hl;cases hl;exact (t4 q (yr hq)).1
  rw [Sx (λw'=>?_)]
  ·exact ((hf c hc).1)
  ·subst w';obtain ⟨o,e,_⟩:=ZNT.obj li st0 c hc;exact absurd (yj e) (ybk.mpr fT)
 done:=by
  intro X hP hw hK hc i pins s σ H E I hf st hg;subst hP hw hK;obtain ⟨x0,xss,sq,hn,hi⟩:=hg;obtain ⟨zs,e1,e2,e3⟩:=I.zes li sq;subst e1 e2;cases zs with
  |nil=>simp [SqN] at sq
  |cons q0 zs=>
  have len:=sq.1;rw [ye] at len sm;obtain ⟨s0,at',hn'⟩:=Yf4 len hn e3;have W:=Yez (prog:=X.prog) (w:=X.w) (I.ok.hd hc) ⟨nd,λq hq=>ml (q.l,q.b) (ybg hq)⟩ sm hn';obtain ⟨s1,s2,⟨ws,lw,s3⟩,s4⟩:=st;obtain rfl:i=q0.its.size:=by omega
  refine W.done s _ _ ⟨s1,by rw [yas] at s2;exact s2,⟨ws,by simpa using lw,s3⟩,λq hq=>?_⟩ λh' tk kk=>⟨rfl,I.turnMany (λc hc=>hf c (by simp only [yq] at hc⊢;grind)) λc o hc e=>kk c o hc e⟩;obtain ⟨j,xs,h1,h2⟩:=at' q hq;exact ⟨s4 j q.i (q.l,q.b) (by rw [ym,h1];rfl) (by rw [ym,h1];rfl),(e3 j q xs h1 h2).2⟩
 self:=λ_ _ _ _ _ st h=>wpAny_pyIter_zip st.1 h
theorem Jyx {X:Cx} {ls:List (S4×Bool)} {R:It->Hp->Prop} {elts:List Expr} {kt:Nat} {pt:Pos} (I:Ss X pins σ H s) (hl:∀l∈ls,l.1 < s.heap.objs.size) (sm:ls.length<=S9) (q:R (Js0 X.K ls) H):
  Sf (model X.prog X.w) X.A (pyIter (.ref (gE s.heap ls).objs.size)) (PIE X pins σ (.Tuple elts kt pt) R) X.xe {s with heap:=gF s.heap ls}:=by
 obtain ⟨z1,z2,z3,z4,kk,big,nd⟩:=Jr4 (ls:=ls) s.heap;have li:(itA s.heap (zOs ls)).length=ls.length:=by rw [Jxt];simp
 refine wpAny_pyIter_zip z1 ⟨_,_,_,_,H,rfl,I.kept kk,Ycg li sm nd λl hm hn=>absurd (big _ hn) (Nat.not_le.mpr (hl l hm)),⟨z1,z2,⟨_,by rw [ye,li],z3⟩,z4⟩,λd hd=>?_,q⟩;exact I.fpOk (big d hd) (I.hok.fresh (big d hd))
noncomputable def Jwm (xss:List (List V)) (i:Nat) (ps:List V):Prop:=ps.length=xss.length/\∀(j:Nat) (p:V) (xs:List V),ps[j]?=some p->xss[j]?=some xs->xs[i]?=some p
section
variable {K:Sg} {g:TG} {σ:St} {H:Hp} {ls:List (S4×Bool)} {x0:List V} {xss:List (List V)}
theorem Jxk {B:(Nat->St->Hp->Prop)->Nat->V->St->Hp->Prop} {F:St->Hp->Prop} (Pv:Nat->St->Hp->Prop) (h0:Pv 0 σ H) (hl:∀i σ H,i<=x0.length->Pv i σ H->SqN K H ls (x0::xss)) (hn:∀xs∈xss,x0.length<=xs.length)
  (hs:∀i ps σ H T,Jwm (x0::xss) i ps->Pv i σ H->H T=none->B Pv i (.ref T) σ (upd H T (.tup ps))) (hd:∀σ H,Pv x0.length σ H->F σ H):
  ∃W:Nat->Nat->St->Hp->Prop,(∃m,W 0 m σ H)/\∀i m σ H,W i m σ H->((Js0 K ls).stop i H/\F σ H)\/((Js0 K ls).go i H/\(∀σ' H',Pv (i+1) σ' H'->∃m',m' < m/\W (i+1) m' σ' H')/\∀x H',(Js0 K ls).yld i H x H'->B Pv i x σ H'):=by
 refine ⟨λi m σ H=>m=x0.length - i/\i<=x0.length/\Pv i σ H,⟨x0.length,by simp,yal _,h0⟩,?_⟩;rintro i m σ H ⟨rfl,hi,p⟩;have sq:=hl i σ H hi p;by_cases hlt:i < x0.length
 ·refine .inr ⟨⟨x0,xss,sq,hn,hlt⟩,λσ' H' p'=>⟨x0.length - (i+1),by omega,rfl,hlt,p'⟩,λx H' y=>?_⟩;obtain ⟨T,ps,hT,rfl,hp,rfl⟩:=y;exact hs i ps σ _ T (hp _ sq) p hT
 ·obtain rfl:i=x0.length:=by omega
  exact .inl ⟨⟨x0,xss,sq,hn,rfl⟩,hd σ H p⟩
theorem Yd8 {tb:TS} {D:Sc8} (Pv:Nat->St->Hp->Prop) (h0:Pv 0 σ H) (hl:∀i σ H,i<=x0.length->Pv i σ H->SqN K H ls (x0::xss)) (hn:∀xs∈xss,x0.length<=xs.length)
  (hs:∀i ps σ H T,Jwm (x0::xss) i ps->Pv i σ H->H T=none->g (.ref T) σ (upd H T (.tup ps)) λσ2 H2=>tb {D with nx:=Pv (i+1),ct:=Pv (i+1),bk:=D.nx} σ2 H2) (hd:∀σ H,Pv x0.length σ H->D.nx σ H):
  ∃W:Nat->Nat->St->Hp->Prop,(∃m,W 0 m σ H)/\∀i m σ H,W i m σ H->
   ((Js0 K ls).stop i H/\D.nx σ H)\/((Js0 K ls).go i H/\∃N:St->Hp->Prop,(∀σ' H',N σ' H'->∃m',m' < m/\W (i+1) m' σ' H')/\∀x H',(Js0 K ls).yld i H x H'->g x σ H' λσ2 H2=>tb {D with nx:=N,ct:=N,bk:=D.nx} σ2 H2):=by
 obtain ⟨W,w0,w1⟩:=Jxk (F:=D.nx) (B:=λPv i x σ H=>g x σ H λσ2 H2=>tb {D with nx:=Pv (i+1),ct:=Pv (i+1),bk:=D.nx} σ2 H2) Pv h0 hl hn hs hd;exact ⟨W,w0,λi m σ H h=>(w1 i m σ H h).imp id λ⟨a,b,c⟩=>⟨a,_,b,c⟩⟩
theorem Jwx {tt:TT} {te:TE} {R:Hp->Prop} (Pv:Nat->St->Hp->Prop) (h0:Pv 0 σ H) (hl:∀i σ H,i<=x0.length->Pv i σ H->SqN K H ls (x0::xss)) (hn:∀xs∈xss,x0.length<=xs.length)
  (hs:∀i ps σ H T,Jwm (x0::xss) i ps->Pv i σ H->H T=none->g (.ref T) σ (upd H T (.tup ps)) λσ3 H3=>tt σ3 H3 λb H4=>if b=true then te σ3 H4 (λv H5=>∃vs,H5 D=some (.lst vs)/\vs.length < S9/\Pv (i+1) σ3 (upd H5 D (.lst (vs++ [v])))) else Pv (i+1) σ3 H4)
  (hd:∀σ H,Pv x0.length σ H->R H):
  ∃W:Nat->Nat->St->Hp->Prop,(∃m,W 0 m σ H)/\∀i m σ' H',W i m σ' H'->((Js0 K ls).stop i H'/\R H')\/((Js0 K ls).go i H'/\∃N:St->Hp->Prop,(∀σ2 H2,N σ2 H2->∃m',m' < m/\W (i+1) m' σ2 H2)/\
   ∀x H2,(Js0 K ls).yld i H' x H2->g x σ' H2 λσ3 H3=>tt σ3 H3 λb H4=>if b=true then te σ3 H4 (λv H5=>∃vs,H5 D=some (.lst vs)/\vs.length < S9/\N σ3 (upd H5 D (.lst (vs++ [v])))) else N σ3 H4):=by
 obtain ⟨W,w0,w1⟩:=Jxk (F:=λ_=>R) (B:=λPv i x σ' H2=>g x σ' H2 λσ3 H3=>tt σ3 H3 λb H4=>if b=true then te σ3 H4 (λv H5=>∃vs,H5 D=some (.lst vs)/\vs.length < S9/\Pv (i+1) σ3 (upd H5 D (.lst (vs++ [v])))) else Pv (i+1) σ3 H4) Pv h0 hl hn hs hd;exact ⟨W,w0,λi m σ H h=>(w1 i m σ H h).imp id λ⟨a,b,c⟩=>⟨a,_,b,c⟩⟩
end
theorem Ye3 {us:List S5}:∀{as:List S4},Sy (as.map V.ref) us->us=as.map Value.ref:=by
 induction us with
 |nil=>intro as h;cases as with|nil=>rfl|cons=>cases h
 |cons u us ih=>
  intro as h;cases as with
  |nil=>cases h
  |cons a as=>
   cases h with
   |cons h1 h2=>
    obtain rfl:u=Value.ref a:=h1;rw [ih h2];rfl
theorem Jyz (a b c d):argsOk "object.__init__" ⟨[a,b,c,d],[]⟩:=by
 unfold argsOk;rw [signature?_of (n:=['_','_','t','i','n','i','_','_']) (by kernel_rfl) F.owner_object];kernel_rfl
set_option maxRecDepth 100000 in
set_option maxHeartbeats 4000000 in
theorem Ycl (l1 l2 l3:S4) (b1 b2 b3:Bool) (xs ys us):
  Meets (Builtin.«zip.__new__» ⟨[.type "zip",.ref l1,.ref l2,.ref l3],[]⟩) (λ_ R s=>IsB s.heap l1 b1 xs/\IsB s.heap l2 b2 ys/\IsB s.heap l3 b3 us/\
   R (.ok (.ret (.ref (gE s.heap [(l1,b1),(l2,b2),(l3,b3)]).objs.size))) {s with heap:=gF s.heap [(l1,b1),(l2,b2),(l3,b3)]}):=
 .of_wp λprog w A R s h=>by
  obtain ⟨hp,g,d,tk,os⟩:=s;obtain ⟨hl1,hl2,hl3,h⟩:=h;have e0:=sub_zip;have e1:=hl1;have e2:IsB (Shared.heap ⟨(hp.push (itO l1 b1)),g,d,tk,os⟩) l2 b2 ys:=IsB.push (hl2) _;have e3:IsB (Shared.heap ⟨((hp.push (itO l1 b1)).push (itO l2 b2)),g,d,tk,os⟩) l3 b3 us:=IsB.push (IsB.push (hl3) _) _
  wp_walk using Js8 e1,Js8 e2,Js8 e3
  exact ⟨_,rfl,h⟩
theorem Ybj {prog:Sa} {w:Sc} {A:Sd} {E:S5->S6->Prop} {s:S6} {l1 l2 l3:S4} {b1 b2 b3:Bool} {xs ys us} {Q} (h1:IsB s.heap l1 b1 xs) (h2:IsB s.heap l2 b2 ys) (h3:IsB s.heap l3 b3 us) (h:Q (.ref (gE s.heap [(l1,b1),(l2,b2),(l3,b3)]).objs.size) {s with heap:=gF s.heap [(l1,b1),(l2,b2),(l3,b3)]}):
  Sf (model prog w) A (call (.type "zip") [.ref l1,.ref l2,.ref l3]) Q E s:=
 callType_new F.called_zip (by decide) (by kernel_rfl) (by kernel_rfl) (λobj=>Jyz obj _ _ _) F.entry_zip_new (Ycl l1 l2 l3 b1 b2 b3 xs ys us) ⟨h1,h2,h3,⟨_,(Jr4 s.heap).1,rfl⟩,h⟩
noncomputable abbrev Sjg (K:Sg) (l1 l2 l3:S4) (b1 b2 b3:Bool):It:=Js0 K [(l1,b1),(l2,b2),(l3,b3)]
theorem Syj {l1 l2 l3:S4} {b1 b2 b3:Bool} {xs ys us:List V} {K:Sg} {H:Hp} (h:SqB K H l1 b1 xs/\SqB K H l2 b2 ys/\SqB K H l3 b3 us):SqN K H [(l1,b1),(l2,b2),(l3,b3)] [xs,ys,us]:=by
 obtain ⟨q1,q2,q3⟩:=h;refine ⟨rfl,λj l x e1 e2=>?_⟩
 match j with
 |0=>cases e1;cases e2;exact q1
 |1=>cases e1;cases e2;exact q2
 |2=>cases e1;cases e2;exact q3
 |j+3=>simp at e1
theorem Smy {xs ys us:List V} {i:Nat} {ps:List V} {G:List V->Prop} (h:Jwm [xs,ys,us] i ps) (k:∀x y u,xs[i]?=some x->ys[i]?=some y->us[i]?=some u->G [x,y,u]):G ps:=by
 obtain ⟨l,f⟩:=h
 match ps,l with
 | [x,y,u],_=>exact k x y u (f 0 x xs rfl rfl) (f 1 y ys rfl rfl) (f 2 u us rfl rfl)
noncomputable def Srr (K:Sg) (b1 b2 b3:Bool) (ta:TA):TI:=λσ H R=>ta σ H λvs H1=>∃a b c,vs= [.ref a,.ref b,.ref c]/\(∃xs,SqB K H1 a b1 xs)/\(∃xs,SqB K H1 b b2 xs)/\(∃xs,SqB K H1 c b3 xs)/\R (Sjg K a b c b1 b2 b3) H1
theorem Yg2 (b1 b2 b3) (hg:Gl X "zip") (hm:X.mg "zip" =none) (ha:PA X [a,b,c] ta) (hs:starEach [a,b,c] X.env= [(false,eval a X.env),(false,eval b X.env),(false,eval c X.env)]:=by rfl) (hs2:starEach [b,c] X.env= [(false,eval b X.env),(false,eval c X.env)]:=by rfl):
  PI X (.Tuple elts kt pt) (.Call (.Name "zip" p) [a,b,c] [] pos) (Srr X.K b1 b2 b3 ta):=by
 intro pins s σ H R I h;refine Call_ (Jpx I hg hm Y5 (PyProof.Rows.callWith_type1 (thn (ha pos pins s σ H _ I h) λus s1 zq=>?_) (by rw [hs,hs2]) (by rw [hs2];rfl)));obtain ⟨vs,H1,I1,r1,q1⟩:=zq;obtain ⟨l1,l2,l3,rfl,⟨x1,q1⟩,⟨x2,q2⟩,⟨x3,q3⟩,q⟩:=q1;obtain rfl:=Ye3 (as:=[l1,l2,l3]) r1;obtain ⟨_,_,p1⟩:=I1.seqB q1;obtain ⟨_,_,p2⟩:=I1.seqB q2;obtain ⟨_,_,p3⟩:=I1.seqB q3;refine Ybj p1 p2 p3 (Jyx I1 (λl hl=>?_) (show 3<=S9 by decide) q);simp only [yq,yaz,or_false] at hl;rcases hl with rfl|rfl|rfl
 ·exact p1.lt
 ·exact p2.lt
 ·exact p3.lt
section
variable {K:Sg} {g:TG} {σ:St} {H:Hp} {l1 l2 l3:S4} {b1 b2 b3:Bool} {xs ys us:List V}
theorem Ybm {tt:TT} {te:TE} {R:Hp->Prop} (Pv:Nat->St->Hp->Prop) (h0:Pv 0 σ H) (hl:∀i σ H,i<=xs.length->Pv i σ H->SqB K H l1 b1 xs/\SqB K H l2 b2 ys/\SqB K H l3 b3 us) (e1:xs.length=ys.length) (e2:xs.length=us.length)
  (hs:∀i x y u σ H T,xs[i]?=some x->ys[i]?=some y->us[i]?=some u->Pv i σ H->H T=none->g (.ref T) σ (upd H T (.tup [x,y,u])) λσ3 H3=>tt σ3 H3 λb H4=>if b=true then te σ3 H4 (λv H5=>∃vs,H5 D=some (.lst vs)/\vs.length < S9/\Pv (i+1) σ3 (upd H5 D (.lst (vs++ [v])))) else Pv (i+1) σ3 H4)
  (hd:∀σ H,Pv xs.length σ H->R H):
  ∃W:Nat->Nat->St->Hp->Prop,(∃m,W 0 m σ H)/\∀i m σ' H',W i m σ' H'->((Sjg K l1 l2 l3 b1 b2 b3).stop i H'/\R H')\/((Sjg K l1 l2 l3 b1 b2 b3).go i H'/\∃N:St->Hp->Prop,(∀σ2 H2,N σ2 H2->∃m',m' < m/\W (i+1) m' σ2 H2)/\
   ∀x H2,(Sjg K l1 l2 l3 b1 b2 b3).yld i H' x H2->g x σ' H2 λσ3 H3=>tt σ3 H3 λb H4=>if b=true then te σ3 H4 (λv H5=>∃vs,H5 D=some (.lst vs)/\vs.length < S9/\N σ3 (upd H5 D (.lst (vs++ [v])))) else N σ3 H4):=
 Jwx (xss:=[ys,us]) Pv h0 (λi σ H hi p=>Syj (hl i σ H hi p)) (by simp only [yq,yaz,or_false];rintro _ (rfl|rfl) <;> omega) (λi ps σ H T hp p hT=>Smy (G:=λps=>g (.ref T) σ (upd H T (.tup ps)) λσ3 H3=>tt σ3 H3 λb H4=>if b=true then te σ3 H4 (λv H5=>∃vs,H5 D=some (.lst vs)/\vs.length < S9/\Pv (i+1) σ3 (upd H5 D (.lst (vs++ [v])))) else Pv (i+1) σ3 H4) hp λx y u h1 h2 h3=>hs i x y u σ H T h1 h2 h3 p hT) hd
end
end L2
namespace L2
end L2
namespace L2
open PySem PySem.Spec PyProof.Rows PySem.W
section
variable {K:Sg} {g:TG} {σ:St} {H:Hp}
theorem Yam {tb:TS} {D:Sc8} (Pv:Nat->St->Hp->Prop) (h0:Pv 0 σ H) (hl:∀i σ H,i<=xs.length->Pv i σ H->Sz K H a xs)
  (hs:∀i x σ H T,xs[i]?=some x->Pv i σ H->H T=none->g (.ref T) σ (upd H T (.tup [.int i,x])) λσ2 H2=>tb {D with nx:=Pv (i+1),ct:=Pv (i+1),bk:=D.nx} σ2 H2) (hd:∀σ H,Pv xs.length σ H->D.nx σ H):
  ∃W:Nat->Nat->St->Hp->Prop,(∃m,W 0 m σ H)/\∀i m σ H,W i m σ H->
   ((ItE K a).stop i H/\D.nx σ H)\/((ItE K a).go i H/\∃N:St->Hp->Prop,(∀σ' H',N σ' H'->∃m',m' < m/\W (i+1) m' σ' H')/\∀x H',(ItE K a).yld i H x H'->g x σ H' λσ2 H2=>tb {D with nx:=N,ct:=N,bk:=D.nx} σ2 H2):=by
 refine ⟨λi m σ H=>m=xs.length - i/\i<=xs.length/\Pv i σ H,⟨xs.length,by simp,yal _,h0⟩,?_⟩;rintro i m σ H ⟨rfl,hi,p⟩;have q:=hl i σ H hi p;by_cases hlt:i < xs.length
 ·refine .inr ⟨⟨xs,xs[i],q,by simp [hlt]⟩,Pv (i+1),λσ' H' p'=>⟨xs.length - (i+1),by omega,rfl,hlt,p'⟩,λx H' y=>?_⟩;obtain ⟨T,u,hT,rfl,hu,rfl⟩:=y;exact hs i u σ _ T (hu xs q) p hT
 ·have e:i=xs.length:=by omega
  subst e;exact .inl ⟨⟨xs,q,rfl⟩,hd σ H p⟩
theorem Yd6 {tb:TS} {D:Sc8} (Pv:Nat->St->Hp->Prop) (h0:Pv 0 σ H) (hl:∀i σ H,i<=xs.length->Pv i σ H->SqT K H a xs)
  (hs:∀i x σ H T,xs[i]?=some x->Pv i σ H->H T=none->g (.ref T) σ (upd H T (.tup [.int i,x])) λσ2 H2=>tb {D with nx:=Pv (i+1),ct:=Pv (i+1),bk:=D.nx} σ2 H2) (hd:∀σ H,Pv xs.length σ H->D.nx σ H):
  ∃W:Nat->Nat->St->Hp->Prop,(∃m,W 0 m σ H)/\∀i m σ H,W i m σ H->
   ((ItU K a).stop i H/\D.nx σ H)\/((ItU K a).go i H/\∃N:St->Hp->Prop,(∀σ' H',N σ' H'->∃m',m' < m/\W (i+1) m' σ' H')/\∀x H',(ItU K a).yld i H x H'->g x σ H' λσ2 H2=>tb {D with nx:=N,ct:=N,bk:=D.nx} σ2 H2):=by
 refine ⟨λi m σ H=>m=xs.length - i/\i<=xs.length/\Pv i σ H,⟨xs.length,by simp,yal _,h0⟩,?_⟩;rintro i m σ H ⟨rfl,hi,p⟩;have q:=hl i σ H hi p;by_cases hlt:i < xs.length
 ·refine .inr ⟨⟨xs,xs[i],q,by simp [hlt]⟩,Pv (i+1),λσ' H' p'=>⟨xs.length - (i+1),by omega,rfl,hlt,p'⟩,λx H' y=>?_⟩;obtain ⟨T,u,hT,rfl,hu,rfl⟩:=y;exact hs i u σ _ T (hu xs q) p hT
 ·have e:i=xs.length:=by omega
  subst e;exact .inl ⟨⟨xs,q,rfl⟩,hd σ H p⟩
theorem Ybl {xs} {tt:TT} {te:TE} {R:Hp->Prop} (Pv:Nat->St->Hp->Prop) (h0:Pv 0 σ H) (hl:∀i σ H,i<=xs.length->Pv i σ H->SqT K H a xs)
  (hs:∀i x σ H T,xs[i]?=some x->Pv i σ H->H T=none->g (.ref T) σ (upd H T (.tup [.int i,x])) λσ3 H3=>tt σ3 H3 λb H4=>if b=true then te σ3 H4 (λv H5=>∃vs,H5 D=some (.lst vs)/\vs.length < S9/\Pv (i+1) σ3 (upd H5 D (.lst (vs++ [v])))) else Pv (i+1) σ3 H4)
  (hd:∀σ H,Pv xs.length σ H->R H):
  ∃W:Nat->Nat->St->Hp->Prop,(∃m,W 0 m σ H)/\∀i m σ' H',W i m σ' H'->((ItU K a).stop i H'/\R H')\/((ItU K a).go i H'/\∃N:St->Hp->Prop,(∀σ2 H2,N σ2 H2->∃m',m' < m/\W (i+1) m' σ2 H2)/\
   ∀x H2,(ItU K a).yld i H' x H2->g x σ' H2 λσ3 H3=>tt σ3 H3 λb H4=>if b=true then te σ3 H4 (λv H5=>∃vs,H5 D=some (.lst vs)/\vs.length < S9/\N σ3 (upd H5 D (.lst (vs++ [v])))) else N σ3 H4):=by
 refine ⟨λi m σ H=>m=xs.length - i/\i<=xs.length/\Pv i σ H,⟨xs.length,by simp,yal _,h0⟩,?_⟩;rintro i m σ H ⟨rfl,hi,p⟩;have q:=hl i σ H hi p;by_cases hlt:i < xs.length
 ·refine .inr ⟨⟨xs,xs[i],q,by simp [hlt]⟩,Pv (i+1),λσ' H' p'=>⟨xs.length - (i+1),by omega,rfl,hlt,p'⟩,λx H' y=>?_⟩;obtain ⟨T,u,hT,rfl,hu,rfl⟩:=y;exact hs i u σ _ T (hu xs q) p hT
 ·have e:i=xs.length:=by omega
  subst e;exact .inl ⟨⟨xs,q,rfl⟩,hd σ H p⟩
end
section
variable {X:Cx}
theorem Yt {K} (h:X.K=K):OpR X (compareOp .In) (rIn K false):=by subst h;exact Ybz
theorem Jw6 {K} (h:X.K=K):Jnm X (.builtin "len") (λxs H Q=>∃p ys,xs= [.ref p]/\(Sz K H p ys\/SqT K H p ys)/\Q (.int ys.length) H):=by subst h;exact Jmg
theorem Jqw {K} (h:X.K=K) (hc:X.calm=true):Jnm X (.builtin "sum") (Ssc K):=by subst h;exact Jqe hc
theorem Joa {K} (h:X.K=K) (he:PE X e ta) (hb:attributeBase e f X.env (eval e X.env)=eval e X.env):PE X (.Attribute e f pos) (Ssv K ta f):=by subst h;exact Jmd he hb
theorem Yv {K} (h1:X.prog=P) (h2:X.w=w) (h3:X.K=K) (h4:X.mg=mg) (h5:X.base=base) (he:PE X o ta) (hr:Sax j X.A)
  (ht:eval (.Call (.Attribute o m apos) [] [] pos) X.env=(do
   let ov<-eval o X.env
   standAt apos.atName
   let (f,first)<-holding [ov] (getMethod ov m pl)
   callWith pos f first (backTo pos (starEach [] X.env)) (backToKw pos (keywordEach [] X.env))):=by rfl):PE X (.Call (.Attribute o m apos) [] [] pos) (Jyp P w K mg base j m ta Jyq):=by
 subst h1 h2 h3 h4 h5;exact Jr2 he hr ht
end
section
variable {X:Cx} {pos:Pos}
theorem Jr3 {K} {k} (h1:X.K=K) (hc:X.calm=true) (h:PGs X es t)
  (hn:(assignEach es X.env).length=n:=by rfl) (hst:(assignEach es X.env).findIdx? (·.1)=none:=by rfl):PG X (.Tuple es k pos) (Sjw K n t):=by
 subst h1;exact Jrr hc h hn hst
end
section
variable {g:TG} {tt:TT} {te:TE} {H:Hp} {D:S4} {σ:St} {R:Hp->Prop}
theorem Jz6 {K} {a} {xs} (Pv:Nat->St->Hp->Prop) (h0:Pv 0 σ H) (hl:∀i σ H,i<=xs.length->Pv i σ H->SqT K H a xs)
  (hs:∀i x σ H,xs[i]?=some x->Pv i σ H->g x σ H λσ3 H3=>tt σ3 H3 λb H4=>if b=true then te σ3 H4 (λv H5=>∃ys,H5 D=some (.lst ys)/\ys.length < S9/\Pv (i+1) σ3 (upd H5 D (.lst (ys++ [v])))) else Pv (i+1) σ3 H4)
  (hd:∀σ H,Pv xs.length σ H->R H):
  ∃W:Nat->Nat->St->Hp->Prop,(∃m,W 0 m σ H)/\∀i m σ' H',W i m σ' H'->((Itt K a).stop i H'/\R H')\/((Itt K a).go i H'/\∃N:St->Hp->Prop,(∀σ2 H2,N σ2 H2->∃m',m' < m/\W (i+1) m' σ2 H2)/\
   ∀x H2,(Itt K a).yld i H' x H2->g x σ' H2 λσ3 H3=>tt σ3 H3 λb H4=>if b=true then te σ3 H4 (λv H5=>∃ys,H5 D=some (.lst ys)/\ys.length < S9/\N σ3 (upd H5 D (.lst (ys++ [v])))) else N σ3 H4):=by
 refine ⟨λi m σ H=>m=xs.length - i/\i<=xs.length/\Pv i σ H,⟨xs.length,by simp,yal _,h0⟩,?_⟩;rintro i m σ H ⟨rfl,hi,p⟩;have q:=hl i σ H hi p;by_cases hlt:i < xs.length
 ·refine .inr ⟨⟨xs,xs[i],q,by simp [hlt]⟩,Pv (i+1),λσ' H' p'=>⟨xs.length - (i+1),by omega,rfl,hlt,p'⟩,λx H' y=>?_⟩;obtain ⟨e,y⟩:=y;subst e;exact hs i x σ _ (y xs q) p
 ·have e:i=xs.length:=by omega
  subst e;exact .inl ⟨⟨xs,q,yg _⟩,hd σ H p⟩
end
theorem Y9 {K} {a D} {xs} {te:TE} {R:Hp->Prop} {H} {o} {rest} (ys) (hD:H D=none) (el:ys.length=xs.length) (sz:xs.length<=2000) (hq:H a=some (.lst xs))
  (he:∀(i:Nat) x y H' Q,xs[i]?=some x->ys[i]?=some y->Sl H H'->(∀H5,Sl H' H5->Q y H5)->te (some x::rest) H' Q) (hd:∀H',Sl H H'->H' D=some (.lst ys)->R H'):
  ∃W:Nat->Nat->St->Hp->Prop,(∃m,W 0 m (o::rest) (upd H D (.lst [])))/\∀i m σ' H',W i m σ' H'->((Itl K a).stop i H'/\R H')\/((Itl K a).go i H'/\∃N:St->Hp->Prop,(∀σ2 H2,N σ2 H2->∃m',m' < m/\W (i+1) m' σ2 H2)/\
   ∀x H2,(Itl K a).yld i H' x H2->Jot 0 x σ' H2 λσ3 H3=>Jys σ3 H3 λb H4=>if b=true then te σ3 H4 (λv H5=>∃ys,H5 D=some (.lst ys)/\ys.length < S9/\N σ3 (upd H5 D (.lst (ys++ [v])))) else N σ3 H4):=by
 refine Jni (λi σ H'=>(∃o,σ=o::rest)/\H' D=some (.lst (ys.take i))/\Sl H H') ⟨⟨_,rfl⟩,Sr,Sl.upd hD⟩ (λi σ H' _ ⟨_,_,sm⟩=>Sz.of (sm _ _ hq)) ?_ ?_
 ·rintro i x σ H' hx ⟨⟨o,rfl⟩,hDs,sm⟩;have hi:i < ys.length:=by rw [el];exact (yi.mp hx).1
  refine Jna (he i x ys[i] H' _ hx (yh hi) sm λH5 s5=>⟨_,s5 _ _ hDs,?_,⟨_,rfl⟩,?_,λc u z=>?_⟩)
  ·rw [yaf];exact Jmo (by omega)
  ·rw [Sr,yaa,yh hi];rfl
  ·rw [Sx (Jm2 z hD)];exact s5 _ _ (sm _ _ z)
 ·rintro σ H' ⟨_,hDs,sm⟩;rw [yah (by omega)] at hDs;exact hd H' sm hDs
theorem Jww {K} {a D} {xs} {te:TE} {R:Hp->Prop} {H} {o} {rest} (ys) (hD:H D=none) (el:ys.length=xs.length) (sz:xs.length<=2000) (hq:H a=some (.tup xs))
  (he:∀(i:Nat) x y H' Q,xs[i]?=some x->ys[i]?=some y->Sl H H'->(∀H5,Sl H' H5->Q y H5)->te (some x::rest) H' Q) (hd:∀H',Sl H H'->H' D=some (.lst ys)->R H'):
  ∃W:Nat->Nat->St->Hp->Prop,(∃m,W 0 m (o::rest) (upd H D (.lst [])))/\∀i m σ' H',W i m σ' H'->((Itt K a).stop i H'/\R H')\/((Itt K a).go i H'/\∃N:St->Hp->Prop,(∀σ2 H2,N σ2 H2->∃m',m' < m/\W (i+1) m' σ2 H2)/\
   ∀x H2,(Itt K a).yld i H' x H2->Jot 0 x σ' H2 λσ3 H3=>Jys σ3 H3 λb H4=>if b=true then te σ3 H4 (λv H5=>∃ys,H5 D=some (.lst ys)/\ys.length < S9/\N σ3 (upd H5 D (.lst (ys++ [v])))) else N σ3 H4):=by
 refine Jz6 (λi σ H'=>(∃o,σ=o::rest)/\H' D=some (.lst (ys.take i))/\Sl H H') ⟨⟨_,rfl⟩,Sr,Sl.upd hD⟩ (λi σ H' _ ⟨_,_,sm⟩=>SqT.of (sm _ _ hq)) ?_ ?_
 ·rintro i x σ H' hx ⟨⟨o,rfl⟩,hDs,sm⟩;have hi:i < ys.length:=by rw [el];exact (yi.mp hx).1
  refine Jna (he i x ys[i] H' _ hx (yh hi) sm λH5 s5=>⟨_,s5 _ _ hDs,?_,⟨_,rfl⟩,?_,λc u z=>?_⟩)
  ·rw [yaf];exact Jmo (by omega)
  ·rw [Sr,yaa,yh hi];rfl
  ·rw [Sx (Jm2 z hD)];exact s5 _ _ (sm _ _ z)
 ·rintro σ H' ⟨_,hDs,sm⟩;rw [yah (by omega)] at hDs;exact hd H' sm hDs
section
variable {X:Cx}
theorem Ydl {K} (h:X.K=K):MtR X "str.join" (Sl2 K):=by subst h;exact Yfp
theorem Jsq {K} (h:X.K=K):SlR X (Ssb K):=by subst h;exact Juk
theorem Sn8 {K} {apos cpos} {id} (h:X.K=K) (pa:PlainAttrs T) (slot:Slot T name id) (hty:typeOf (.builtin id)=pure (.type "method_descriptor")) (hm:MtR X id r) (ho:PE X o to) (ha:PA X (e::es) t)
  (hbase:attributeBase o name X.env (eval o X.env)=eval o X.env:=by rfl)
  (hfew:((backTo cpos (starEach (e::es) X.env)).all (λx=>!x.1)&&(backToKw cpos (keywordEach [] X.env)).all (λx=>x.1.isSome)
   &&decide ((e::es).length+([]:List Keyword).length+(if ([]:List Keyword).isEmpty then 0 else 1) < 30))=true:=by rfl)
  (hline:(apos.endLine==cpos.line)=true:=by rfl) (hs:starEach (e::es) X.env=(false,eval e X.env)::starEach es X.env:=by rfl) (hplain:(backTo cpos (starEach es X.env)).any (·.1)=false:=by rfl):
  PE X (.Call (.Attribute o name apos) (e::es) [] cpos) (tBM K T r to t):=by
 subst h;exact Jvm pa slot hty hm ho ha hbase hfew hline hs hplain
end
theorem But.new (b:But p H H') (hD:H D=none) (hp:Sc4 H p):But p H (upd H' D o):=by
 have ne:p≠D:=λe=>by obtain ⟨_,_,_,q⟩:=hp;rw [e,hD] at q;cases q
 refine ⟨λc u n e=>?_,?_⟩
 ·rw [Sx (λz=>by subst z;rw [hD] at e;cases e)];exact b.1 c u n e
 ·obtain ⟨x,y,z,q⟩:=b.2;exact ⟨x,y,z,by rw [Sx ne];exact q⟩
inductive Ss3 (x:V) (y:V) (H:Hp) (Q:VK):Prop where
 |mk (a:_) (b:_) (xs:_) (ys:_) (_:x= .ref a) (_:y= .ref b) (_:H a=some (.tup xs)) (_:H b=some (.tup ys)) (_:xs.length+ys.length<=S9) (_:∀p H',Sl H H'->H' p=some (.tup (xs++ys))->Q (.ref p) H')
section
variable {X:Cx}
theorem Yax:OpR X (binaryOp .Add) Ss3:=by
 rintro pins s σ H x y v u Q I rx ry ⟨a,b,xs,ys,rfl,rfl,ha,hb,hz,q⟩;by_cases hx:xs= []
 ·subst hx;obtain rfl:v=Value.ref a:=rx;obtain rfl:u=Value.ref b:=ry;obtain ⟨its,r1,ht,_⟩:=I.tuple (SqT.of ha);obtain ⟨its2,r2,hb',_⟩:=I.tuple (SqT.of hb);obtain rfl:its= []:=r1.nil_iff.mpr rfl;obtain ⟨⟨cls,dd,data,sl⟩,ho,hc,n,hd⟩:=id ht;obtain ⟨⟨cls2,dd2,data2,sl2⟩,ho2,hc2,n2,hd2⟩:=id hb';subst hc hd hc2 hd2;exact concat_meets ⟨_,ho,rfl⟩ ⟨_,ho2,rfl⟩ noFill_tuple_add seq_tuple_add PySem.F.slot_tuple_add PySem.F.entry_tuple_add (PySem.F.args_tuple_add_2 _ _)
   (tuple_addW0 a b _ _ n n2 dd dd2 sl sl2 (by simp)) ⟨ho,ho2,⟨.ref b,H,I,rfl,q b H (Sl.refl H) hb⟩⟩
 ·refine Yfx pins s σ H _ _ v u Q I rx ry ⟨a,b,xs,ys,rfl,rfl,SqT.of ha,SqT.of hb,hx,hz,λe=>?_,λ_ p hp=>q p _ (Sl.upd hp) Sr⟩;subst e;exact q a H (Sl.refl H) (by rw [yba];exact ha)
end
theorem Jz0 (a b c d e):argsOk "object.__init__" ⟨[a,b,c,d,e],[]⟩:=by
 unfold argsOk;rw [signature?_of (n:=['_','_','t','i','n','i','_','_']) (by kernel_rfl) F.owner_object];kernel_rfl
set_option maxRecDepth 100000 in
set_option maxHeartbeats 4000000 in
theorem Ycm (l1 l2 l3 l4:S4) (b1 b2 b3 b4:Bool) (xs ys us vs):
  Meets (Builtin.«zip.__new__» ⟨[.type "zip",.ref l1,.ref l2,.ref l3,.ref l4],[]⟩) (λ_ R s=>IsB s.heap l1 b1 xs/\IsB s.heap l2 b2 ys/\IsB s.heap l3 b3 us/\IsB s.heap l4 b4 vs/\
   R (.ok (.ret (.ref (gE s.heap [(l1,b1),(l2,b2),(l3,b3),(l4,b4)]).objs.size))) {s with heap:=gF s.heap [(l1,b1),(l2,b2),(l3,b3),(l4,b4)]}):=
 .of_wp λprog w A R s h=>by
  obtain ⟨hp,g,d,tk,os⟩:=s;obtain ⟨hl1,hl2,hl3,hl4,h⟩:=h;have e0:=sub_zip;have e1:=hl1;have e2:IsB (Shared.heap ⟨(hp.push (itO l1 b1)),g,d,tk,os⟩) l2 b2 ys:=IsB.push (hl2) _;have e3:IsB (Shared.heap ⟨((hp.push (itO l1 b1)).push (itO l2 b2)),g,d,tk,os⟩) l3 b3 us:=IsB.push (IsB.push (hl3) _) _;have e4:IsB (Shared.heap ⟨(((hp.push (itO l1 b1)).push (itO l2 b2)).push (itO l3 b3)),g,d,tk,os⟩) l4 b4 vs:=IsB.push (IsB.push (IsB.push (hl4) _) _) _
  wp_walk using Js8 e1,Js8 e2,Js8 e3,Js8 e4
  exact ⟨_,rfl,h⟩
theorem Ybk {prog:Sa} {w:Sc} {A:Sd} {E:S5->S6->Prop} {s:S6} {l1 l2 l3 l4:S4} {b1 b2 b3 b4:Bool} {xs ys us vs} {Q} (h1:IsB s.heap l1 b1 xs) (h2:IsB s.heap l2 b2 ys) (h3:IsB s.heap l3 b3 us) (h4:IsB s.heap l4 b4 vs) (h:Q (.ref (gE s.heap [(l1,b1),(l2,b2),(l3,b3),(l4,b4)]).objs.size) {s with heap:=gF s.heap [(l1,b1),(l2,b2),(l3,b3),(l4,b4)]}):
  Sf (model prog w) A (call (.type "zip") [.ref l1,.ref l2,.ref l3,.ref l4]) Q E s:=
 callType_new F.called_zip (by decide) (by kernel_rfl) (by kernel_rfl) (λobj=>Jz0 obj _ _ _ _) F.entry_zip_new (Ycm l1 l2 l3 l4 b1 b2 b3 b4 xs ys us vs) ⟨h1,h2,h3,h4,⟨_,(Jr4 s.heap).1,rfl⟩,h⟩
noncomputable abbrev Sjh (K:Sg) (l1 l2 l3 l4:S4) (b1 b2 b3 b4:Bool):It:=Js0 K [(l1,b1),(l2,b2),(l3,b3),(l4,b4)]
theorem Syk {l1 l2 l3 l4:S4} {b1 b2 b3 b4:Bool} {xs ys us vs:List V} {K:Sg} {H:Hp} (h:SqB K H l1 b1 xs/\SqB K H l2 b2 ys/\SqB K H l3 b3 us/\SqB K H l4 b4 vs):SqN K H [(l1,b1),(l2,b2),(l3,b3),(l4,b4)] [xs,ys,us,vs]:=by
 obtain ⟨q1,q2,q3,q4⟩:=h;refine ⟨rfl,λj l x e1 e2=>?_⟩
 match j with
 |0=>cases e1;cases e2;exact q1
 |1=>cases e1;cases e2;exact q2
 |2=>cases e1;cases e2;exact q3
 |3=>cases e1;cases e2;exact q4
 |j+4=>simp at e1
theorem Smz {xs ys us vs:List V} {i:Nat} {ps:List V} {G:List V->Prop} (h:Jwm [xs,ys,us,vs] i ps) (k:∀x y u v,xs[i]?=some x->ys[i]?=some y->us[i]?=some u->vs[i]?=some v->G [x,y,u,v]):G ps:=by
 obtain ⟨l,f⟩:=h
 match ps,l with
 | [x,y,u,v],_=>exact k x y u v (f 0 x xs rfl rfl) (f 1 y ys rfl rfl) (f 2 u us rfl rfl) (f 3 v vs rfl rfl)
noncomputable def Srs (K:Sg) (b1 b2 b3 b4:Bool) (ta:TA):TI:=λσ H R=>ta σ H λvs H1=>∃a b c d,vs= [.ref a,.ref b,.ref c,.ref d]/\(∃xs,SqB K H1 a b1 xs)/\(∃xs,SqB K H1 b b2 xs)/\(∃xs,SqB K H1 c b3 xs)/\(∃xs,SqB K H1 d b4 xs)/\R (Sjh K a b c d b1 b2 b3 b4) H1
theorem Yg3 (b1 b2 b3 b4) (hg:Gl X "zip") (hm:X.mg "zip" =none) (ha:PA X [a,b,c,d] ta) (hs:starEach [a,b,c,d] X.env= [(false,eval a X.env),(false,eval b X.env),(false,eval c X.env),(false,eval d X.env)]:=by rfl) (hs2:starEach [b,c,d] X.env= [(false,eval b X.env),(false,eval c X.env),(false,eval d X.env)]:=by rfl):
  PI X (.Tuple elts kt pt) (.Call (.Name "zip" p) [a,b,c,d] [] pos) (Srs X.K b1 b2 b3 b4 ta):=by
 intro pins s σ H R I h;refine Call_ (Jpx I hg hm Y5 (PyProof.Rows.callWith_type1 (thn (ha pos pins s σ H _ I h) λus s1 zq=>?_) (by rw [hs,hs2]) (by rw [hs2];rfl)));obtain ⟨vs,H1,I1,r1,q1⟩:=zq;obtain ⟨l1,l2,l3,l4,rfl,⟨x1,q1⟩,⟨x2,q2⟩,⟨x3,q3⟩,⟨x4,q4⟩,q⟩:=q1;obtain rfl:=Ye3 (as:=[l1,l2,l3,l4]) r1;obtain ⟨_,_,p1⟩:=I1.seqB q1;obtain ⟨_,_,p2⟩:=I1.seqB q2;obtain ⟨_,_,p3⟩:=I1.seqB q3;obtain ⟨_,_,p4⟩:=I1.seqB q4;refine Ybk p1 p2 p3 p4 (Jyx I1 (λl hl=>?_) (show 4<=S9 by decide) q);simp only [yq,yaz,or_false] at hl;rcases hl with rfl|rfl|rfl|rfl
 ·exact p1.lt
 ·exact p2.lt
 ·exact p3.lt
 ·exact p4.lt
section
variable {K:Sg} {g:TG} {σ:St} {H:Hp} {l1 l2 l3 l4:S4} {b1 b2 b3 b4:Bool} {xs ys us vs:List V}
theorem Ybn {tt:TT} {te:TE} {R:Hp->Prop} (Pv:Nat->St->Hp->Prop) (h0:Pv 0 σ H) (hl:∀i σ H,i<=xs.length->Pv i σ H->SqB K H l1 b1 xs/\SqB K H l2 b2 ys/\SqB K H l3 b3 us/\SqB K H l4 b4 vs) (e1:xs.length=ys.length) (e2:xs.length=us.length) (e3:xs.length=vs.length)
  (hs:∀i x y u v σ H T,xs[i]?=some x->ys[i]?=some y->us[i]?=some u->vs[i]?=some v->Pv i σ H->H T=none->g (.ref T) σ (upd H T (.tup [x,y,u,v])) λσ3 H3=>tt σ3 H3 λb H4=>if b=true then te σ3 H4 (λv H5=>∃vs,H5 D=some (.lst vs)/\vs.length < S9/\Pv (i+1) σ3 (upd H5 D (.lst (vs++ [v])))) else Pv (i+1) σ3 H4)
  (hd:∀σ H,Pv xs.length σ H->R H):
  ∃W:Nat->Nat->St->Hp->Prop,(∃m,W 0 m σ H)/\∀i m σ' H',W i m σ' H'->((Sjh K l1 l2 l3 l4 b1 b2 b3 b4).stop i H'/\R H')\/((Sjh K l1 l2 l3 l4 b1 b2 b3 b4).go i H'/\∃N:St->Hp->Prop,(∀σ2 H2,N σ2 H2->∃m',m' < m/\W (i+1) m' σ2 H2)/\
   ∀x H2,(Sjh K l1 l2 l3 l4 b1 b2 b3 b4).yld i H' x H2->g x σ' H2 λσ3 H3=>tt σ3 H3 λb H4=>if b=true then te σ3 H4 (λv H5=>∃vs,H5 D=some (.lst vs)/\vs.length < S9/\N σ3 (upd H5 D (.lst (vs++ [v])))) else N σ3 H4):=
 Jwx (xss:=[ys,us,vs]) Pv h0 (λi σ H hi p=>Syk (hl i σ H hi p)) (by simp only [yq,yaz,or_false];rintro _ (rfl|rfl|rfl) <;> omega) (λi ps σ H T hp p hT=>Smz (G:=λps=>g (.ref T) σ (upd H T (.tup ps)) λσ3 H3=>tt σ3 H3 λb H4=>if b=true then te σ3 H4 (λv H5=>∃vs,H5 D=some (.lst vs)/\vs.length < S9/\Pv (i+1) σ3 (upd H5 D (.lst (vs++ [v])))) else Pv (i+1) σ3 H4) hp λx y u v h1 h2 h3 h4=>hs i x y u v σ H T h1 h2 h3 h4 p hT) hd
theorem St4 {T} {x y u v} {σ} {H} {A B:L2.St->Hp->Prop} (hT:SqT K H T [x,y,u,v]) (h:A ((((σ.set i (some x)).set j (some y)).set k (some u)).set l (some v)) H):
  Sjw K 4 (Jto (Jot i) (Jto (Jot j) (Jto (Jot k) (Jto (Jot l) Smr)))) (.ref T) σ H λσ3 H3=>Jys σ3 H3 λb H4=>if b=true then A σ3 H4 else B σ3 H4:=⟨T,_,rfl,hT,rfl,_,_,rfl,_,_,rfl,_,_,rfl,_,_,rfl,rfl,h⟩
end
end L2
namespace L2
end L2
namespace L2
open PySem PySem.Spec PyProof.Rows PySem.W
theorem Yc2 {K} {m} {apos pos} {pl} (h1:X.prog=P) (h2:X.w=w) (h3:X.K=K) (h4:X.mg=mg) (h5:X.base=base) (he:PE X o ta) (hr:Sax j X.A) (ha:PA X (e::es) t)
  (hst:starEach (e::es) X.env=(false,eval e X.env)::starEach es X.env:=by rfl) (hpl:(backTo pos (starEach es X.env)).any (·.1)=false:=by rfl)
  (ht:eval (.Call (.Attribute o m apos) (e::es) [] pos) X.env=(do
   let ov<-eval o X.env
   standAt apos.atName
   let (f,first)<-holding [ov] (getMethod ov m pl)
   callWith pos f first (backTo pos (starEach (e::es) X.env)) (backToKw pos (keywordEach [] X.env))):=by rfl):
  PE X (.Call (.Attribute o m apos) (e::es) [] pos) (Jyp P w K mg base j m ta t):=by
 subst h1 h2 h3 h4 h5;exact Jsg he hr ha hst hpl ht
inductive Ss6 (K:Sg) (x:V) (y:V) (H:Hp) (Q:VK):Prop where
 |mk (p:_) (xs:_) (i:_) (v:_) (_:x= .ref p) (_:y= .int i) (_:Sz K H p xs) (_:0<=i) (_:atI xs i=some v) (_:Q v H)
theorem Yd9:Sr1 X (Ss6 X.K):=by
 rintro pins s σ H x y v u Q I rx ry ⟨p,xs,i,z,rfl,rfl,hq,h0,he,q⟩;cases rx;obtain ⟨t,rfl⟩:=ry;obtain ⟨its,r,pl,hz⟩:=I.list hq;obtain ⟨j,h1,h2,h3,h4,h5⟩:=Ju9 he;obtain ⟨w,ew,rw'⟩:=r.get h2;have hn:=Jrm;have hj:=by
  rw [seqIndex_of h0 h5] at h1;exact yac.inj h1
 exact wpAny_getItem_list pl.isList h0 (by omega) (by rw [hj];simpa using ew) ⟨z,H,I,rw',q⟩
section
variable {X:Cx}
end
theorem ft_mk {K} (X:K.In h) (G:h.Ns mainGlobals mg) {st} {dV kV ct} (a:PySem.W.nsIn K mainGlobals q=some (some (.ref f)))
  (l:K.lookup f=some ⟨oc,od,.func (PySem.W.fnOf q q (Jno st) (Jnf st) (Jm5 st) dV kV dc pm an cd ct),sl⟩) (c:PySem.W.codeIn K cd q=true) (k:PySem.W.keepIn K (.ref f)=true)
  (hb:∀kV doc pm an cdv ct us,us.length=ps.length->bindArgs (PySem.W.fnOf q q (Jno st) (Jnf st) (Jm5 st) dV kV doc pm an cdv ct) ⟨us,[]⟩=pure (ps.zip us)):FT K mg q st ps f (PySem.W.fnOf q q (Jno st) (Jnf st) (Jm5 st) dV kV dc pm an cd ct):=
 ⟨PySem.W.mg_of X G a,Jxr l c k,.all (hb kV dc pm an cd ct)⟩
theorem fm_mk {K} {st} {dV kV ct}
  (l:K.lookup f=some ⟨oc,od,.func (PySem.W.fnOf n q (Jno st) (Jnf st) (Jm5 st) dV kV dc pm an cd ct),sl⟩) (c:PySem.W.codeIn K cd q=true) (k:PySem.W.keepIn K (.ref f)=true)
  (hb:∀kV doc pm an cdv ct us,us.length=ps.length->bindArgs (PySem.W.fnOf n q (Jno st) (Jnf st) (Jm5 st) dV kV doc pm an cdv ct) ⟨us,[]⟩=pure (ps.zip us)):FM K n q st ps f (PySem.W.fnOf n q (Jno st) (Jnf st) (Jm5 st) dV kV dc pm an cd ct):=
 ⟨Jxr l c k,.all (hb kV dc pm an cd ct)⟩
theorem xc_mk {K} {sub}
  (l:K.lookup C=some (excClassObj nm q C N bs (.ref W::VEm) true sn sub ab col dd u v w x y "ValueError.__new__")) (t:PySem.W.tailIn K VEm (.ref W::VEm)=true) (a:xcB K C fI=true):Saj K C W fI:=⟨⟨_,_,_,_,_,_,_,_,_,_,_,_,_,_,l⟩,t,a⟩
theorem ec_mk {K} (l:K.lookup C=some ⟨.type "type",dd,.cls cl,s⟩) (m:Sj K C (.type "BaseException")=some true):Sii K C:=⟨⟨_,_,_,l⟩,m⟩
section
variable {K:Sg} {g:TG} {σ:St} {H:Hp}
theorem Ycu {xs} {tt:TT} {te:TE} {R:Hp->Prop} (Pv:Nat->St->Hp->Prop) (h0:Pv 0 σ H) (hl:∀i σ H,i<=xs.length->Pv i σ H->Sz K H a xs)
  (hs:∀i x σ H T,xs[i]?=some x->Pv i σ H->H T=none->g (.ref T) σ (upd H T (.tup [.int i,x])) λσ3 H3=>tt σ3 H3 λb H4=>if b=true then te σ3 H4 (λv H5=>∃vs,H5 D=some (.lst vs)/\vs.length < S9/\Pv (i+1) σ3 (upd H5 D (.lst (vs++ [v])))) else Pv (i+1) σ3 H4)
  (hd:∀σ H,Pv xs.length σ H->R H):
  ∃W:Nat->Nat->St->Hp->Prop,(∃m,W 0 m σ H)/\∀i m σ' H',W i m σ' H'->((ItE K a).stop i H'/\R H')\/((ItE K a).go i H'/\∃N:St->Hp->Prop,(∀σ2 H2,N σ2 H2->∃m',m' < m/\W (i+1) m' σ2 H2)/\
   ∀x H2,(ItE K a).yld i H' x H2->g x σ' H2 λσ3 H3=>tt σ3 H3 λb H4=>if b=true then te σ3 H4 (λv H5=>∃vs,H5 D=some (.lst vs)/\vs.length < S9/\N σ3 (upd H5 D (.lst (vs++ [v])))) else N σ3 H4):=by
 refine ⟨λi m σ H=>m=xs.length - i/\i<=xs.length/\Pv i σ H,⟨xs.length,by simp,yal _,h0⟩,?_⟩;rintro i m σ H ⟨rfl,hi,p⟩;have q:=hl i σ H hi p;by_cases hlt:i < xs.length
 ·refine .inr ⟨⟨xs,xs[i],q,by simp [hlt]⟩,Pv (i+1),λσ' H' p'=>⟨xs.length - (i+1),by omega,rfl,hlt,p'⟩,λx H' y=>?_⟩;obtain ⟨T,u,hT,rfl,hu,rfl⟩:=y;exact hs i u σ _ T (hu xs q) p hT
 ·have e:i=xs.length:=by omega
  subst e;exact .inl ⟨⟨xs,q,rfl⟩,hd σ H p⟩
end
theorem Jyy (a b c):argsOk "object.__init__" ⟨[a,b,c],[]⟩:=by
 unfold argsOk;rw [signature?_of (n:=['_','_','t','i','n','i','_','_']) (by kernel_rfl) F.owner_object];kernel_rfl
set_option maxRecDepth 100000 in
set_option maxHeartbeats 4000000 in
theorem Yck (l1 l2:S4) (b1 b2:Bool) (xs ys):
  Meets (Builtin.«zip.__new__» ⟨[.type "zip",.ref l1,.ref l2],[]⟩) (λ_ R s=>IsB s.heap l1 b1 xs/\IsB s.heap l2 b2 ys/\
   R (.ok (.ret (.ref (gE s.heap [(l1,b1),(l2,b2)]).objs.size))) {s with heap:=gF s.heap [(l1,b1),(l2,b2)]}):=
 .of_wp λprog w A R s h=>by
  obtain ⟨hp,g,d,tk,os⟩:=s;obtain ⟨hl1,hl2,h⟩:=h;have e0:=sub_zip;have e1:=hl1;have e2:IsB (Shared.heap ⟨(hp.push (itO l1 b1)),g,d,tk,os⟩) l2 b2 ys:=IsB.push (hl2) _
  wp_walk using Js8 e1,Js8 e2
  exact ⟨_,rfl,h⟩
theorem Ybi {prog:Sa} {w:Sc} {A:Sd} {E:S5->S6->Prop} {s:S6} {l1 l2:S4} {b1 b2:Bool} {xs ys} {Q} (h1:IsB s.heap l1 b1 xs) (h2:IsB s.heap l2 b2 ys) (h:Q (.ref (gE s.heap [(l1,b1),(l2,b2)]).objs.size) {s with heap:=gF s.heap [(l1,b1),(l2,b2)]}):
  Sf (model prog w) A (call (.type "zip") [.ref l1,.ref l2]) Q E s:=
 callType_new F.called_zip (by decide) (by kernel_rfl) (by kernel_rfl) (λobj=>Jyy obj _ _) F.entry_zip_new (Yck l1 l2 b1 b2 xs ys) ⟨h1,h2,⟨_,(Jr4 s.heap).1,rfl⟩,h⟩
noncomputable abbrev Sjf (K:Sg) (l1 l2:S4) (b1 b2:Bool):It:=Js0 K [(l1,b1),(l2,b2)]
theorem Syi {l1 l2:S4} {b1 b2:Bool} {xs ys:List V} {K:Sg} {H:Hp} (h:SqB K H l1 b1 xs/\SqB K H l2 b2 ys):SqN K H [(l1,b1),(l2,b2)] [xs,ys]:=by
 obtain ⟨q1,q2⟩:=h;refine ⟨rfl,λj l x e1 e2=>?_⟩
 match j with
 |0=>cases e1;cases e2;exact q1
 |1=>cases e1;cases e2;exact q2
 |j+2=>simp at e1
theorem Smx {xs ys:List V} {i:Nat} {ps:List V} {G:List V->Prop} (h:Jwm [xs,ys] i ps) (k:∀x y,xs[i]?=some x->ys[i]?=some y->G [x,y]):G ps:=by
 obtain ⟨l,f⟩:=h
 match ps,l with
 | [x,y],_=>exact k x y (f 0 x xs rfl rfl) (f 1 y ys rfl rfl)
noncomputable def Srq (K:Sg) (b1 b2:Bool) (ta:TA):TI:=λσ H R=>ta σ H λvs H1=>∃a b,vs= [.ref a,.ref b]/\(∃xs,SqB K H1 a b1 xs)/\(∃xs,SqB K H1 b b2 xs)/\R (Sjf K a b b1 b2) H1
theorem Yg1 (b1 b2) (hg:Gl X "zip") (hm:X.mg "zip" =none) (ha:PA X [a,b] ta) (hs:starEach [a,b] X.env= [(false,eval a X.env),(false,eval b X.env)]:=by rfl) (hs2:starEach [b] X.env= [(false,eval b X.env)]:=by rfl):
  PI X (.Tuple elts kt pt) (.Call (.Name "zip" p) [a,b] [] pos) (Srq X.K b1 b2 ta):=by
 intro pins s σ H R I h;refine Call_ (Jpx I hg hm Y5 (PyProof.Rows.callWith_type1 (thn (ha pos pins s σ H _ I h) λus s1 zq=>?_) (by rw [hs,hs2]) (by rw [hs2];rfl)));obtain ⟨vs,H1,I1,r1,q1⟩:=zq;obtain ⟨l1,l2,rfl,⟨x1,q1⟩,⟨x2,q2⟩,q⟩:=q1;obtain rfl:=Ye3 (as:=[l1,l2]) r1;obtain ⟨_,_,p1⟩:=I1.seqB q1;obtain ⟨_,_,p2⟩:=I1.seqB q2;refine Ybi p1 p2 (Jyx I1 (λl hl=>?_) (show 2<=S9 by decide) q);simp only [yq,yaz,or_false] at hl;rcases hl with rfl|rfl
 ·exact p1.lt
 ·exact p2.lt
section
variable {K:Sg} {g:TG} {σ:St} {H:Hp} {l1 l2:S4} {b1 b2:Bool} {xs ys:List V}
theorem Yd7 {tb:TS} {D:Sc8} (Pv:Nat->St->Hp->Prop) (h0:Pv 0 σ H) (hl:∀i σ H,i<=xs.length->Pv i σ H->SqB K H l1 b1 xs/\SqB K H l2 b2 ys) (e1:xs.length=ys.length)
  (hs:∀i x y σ H T,xs[i]?=some x->ys[i]?=some y->Pv i σ H->H T=none->g (.ref T) σ (upd H T (.tup [x,y])) λσ2 H2=>tb {D with nx:=Pv (i+1),ct:=Pv (i+1),bk:=D.nx} σ2 H2) (hd:∀σ H,Pv xs.length σ H->D.nx σ H):
  ∃W:Nat->Nat->St->Hp->Prop,(∃m,W 0 m σ H)/\∀i m σ H,W i m σ H->
   ((Sjf K l1 l2 b1 b2).stop i H/\D.nx σ H)\/((Sjf K l1 l2 b1 b2).go i H/\∃N:St->Hp->Prop,(∀σ' H',N σ' H'->∃m',m' < m/\W (i+1) m' σ' H')/\∀x H',(Sjf K l1 l2 b1 b2).yld i H x H'->g x σ H' λσ2 H2=>tb {D with nx:=N,ct:=N,bk:=D.nx} σ2 H2):=
 Yd8 (xss:=[ys]) Pv h0 (λi σ H hi p=>Syi (hl i σ H hi p)) (by simp only [yq,yaz,or_false];rintro _ (rfl) <;> omega) (λi ps σ H T hp p hT=>Smx (G:=λps=>g (.ref T) σ (upd H T (.tup ps)) λσ2 H2=>tb {D with nx:=Pv (i+1),ct:=Pv (i+1),bk:=D.nx} σ2 H2) hp λx y h1 h2=>hs i x y σ H T h1 h2 p hT) hd
end
section
variable {X:Cx}
end
end L2
namespace L2
open PySem PySem.Spec PyProof.Rows
section
variable {H:Hp} {lb:Array (Nat×Nat×Str)}
end
noncomputable def Srd (vs:Array S5) (c P:S4):Bool:=
 (match (vs[11]?:Option S5) with|some (.ref p)=>p==P|_=>false)&&(match vs.getD 11 .none with| .ref p=>p==P|_=>false)&&(match vs.getD 18 .none with| .str _ _=>true|_=>false)&&(match vs.getD 7 .none with| .int _ _=>true|_=>false)&&
 (match vs.getD 9 .none with| .bool _=>true|_=>false)&&(match vs.getD 10 .none with| .int _ _=>true|_=>false)&&!(c==P)
structure Nst (K:Sg) (f c P:S4):Prop where
 fn:∃(oc:S5) (od:Option S4) (fd:Sb) (sl:Array (Option S5)),K.lookup f=some ⟨oc,od,.func fd,sl⟩/\fd.code= .ref c
 hd:∃(od:Option S4) (vs:Array S5) (sl:Array (Option S5)),K.lookup c=some ⟨.type "code",od,.fields vs,sl⟩/\Srd vs c P=true
noncomputable def Bmn (mg:Str->Option S5) (base:Se):Prop:=∃bm ob,mg "__builtins__" =some (.ref bm)/\bm≠builtinsNs/\base.get? bm=some ob/\ob.cls= .type "module" /\ob.dict=some builtinsNs/\ob.data= .plain
section
variable {X:Cx} {pins:List (S4×Obj)} {σ:St} {H:Hp} {s:S6} {M:Model} {A:Sd} {E:S5->S6->Prop} {name qual:Str} {st:Stmt} {pos:Pos} {firstLine:Nat} {c P:S4} {lb:Array (Nat×Nat×Str)} {clos:List (Str×S4)} {Q:S5->S6->Prop}
end
section
variable {X:Cx} {pins:List (S4×Obj)} {σ:St} {H:Hp} {s:S6} {cn:Str->Bool}
end
section
variable {X:Cx} {st:Stmt} {rest:List Stmt} {t u:TS}
end
section
variable {X:Cx} {rest:List Stmt} {t:TS} {st:Stmt} {name qual:Str} {i:Nat} {c P:S4} {lb:Array (Nat×Nat×Str)} {caps:List (Str×Nat)}
end
section
variable {M:Model} {A:Sd} {E:S5->S6->Prop} {s₀ s:S6} {m cm:Str->Option S5} {env:Env} {cs:List (Str×S4)}
end
section
variable {X:Cx} {CX:CXT} {k j i:Nat} {sp:S4->Sp} {x:Str} {p pos:Pos} {e:Expr} {es:List Expr} {t:TA} {R:St->XK}
end
theorem Sy7 {K} (l:K.lookup f=some ⟨oc,od,.func fd,sl⟩) (e:fd.code= .ref c)
  (lc:K.lookup c=some ⟨.type "code",od', .fields vs,sl'⟩) (_:vs[11]?=some (.ref P)) (hb:Srd vs c P=true):Nst K f c P:=⟨⟨oc,od,fd,sl,l,e⟩,⟨od',vs,sl',lc,hb⟩⟩
theorem Jx7 {β:Type}:∀{l:List (S4×β)},(l.map (·.1)).Nodup->∀p∈l,l.lookup p.1=some p.2
 |q::r,h,p,hp=>by
  have h':(q.1::r.map (·.1)).Nodup:=h;obtain ⟨h1,h2⟩:=ybi.mp h';rw [ybj];rcases yq.mp hp with rfl|hp
  ·rw [beq_self_eq_true]
  ·have ne:(p.1==q.1)=false:=beq_eq_false_iff_ne.mpr λz=>h1 (by rw [<-z];exact ybg hp);rw [ne];exact Jx7 h2 p hp
theorem Jv7 {β:Type}:∀{l:List (S4×β)} {a:S4} {v:β},l.lookup a=some v->(a,v)∈l
 | (b,x) :: r,a,v,e=>by
  rw [ybj] at e;cases hb:a==b with
  |true=>rw [hb] at e;cases e;rw [eq_of_beq hb];exact .head _
  |false=>rw [hb] at e;exact .tail _ (Jv7 e)
theorem Ybv {K:Sg} {tabs:List (S4×Array (Nat×Nat×Str))}
  (KX:K.In s₁.heap) (hns:s₁.heap.Ns mainGlobals mg) (hb:s₁.heap.Ns builtinsNs mb) (hbb:∀x:Str,x≠"__name__" ->mb x=bootBuiltins x) (hlim:s₁.heap.NoLimit) (hg:s₁.gens= #[])
  (ha:s₁.heap.get? a=some {cls:=.type "list",data:=.seq vs.toArray}) (hi:IntsAre vs ns) (hl:ns.length<=S9) (hr:Sax k callerA)
  (hT:∀p∈tabs,isCodeTable s₁.heap p.1/\s₁.heap.get? p.1=some (PySem.W.tabObj #[])) (hnd:(tabs.map (·.1)).Nodup) (hK:PySem.W.noTabs K=true) (hbm:Bmn mg s₁.heap)
  (F:∀base:Se,K.In base->base.Ns mainGlobals mg->Bmn mg base->Sv P w K mg base CX k fa fd [x] sp) (hbind:∀s u,BindsTo s fd ⟨[u],[]⟩ [(x,u)])
  (hsp:∀H:Hp,(∀p∈tabs,H p.1=some (.tbl p.2))->Sz K H a (ns.map V.int)->sp [.ref a] H (λv _=>v= .bl true) λ_ _ _=>False)
  (hCX:∀H e s',CX [] H s₁ (λ_ _ _=>False) e s'->False):
  codeAny (model P w) callerA (.call (.ref fa) ⟨[.ref a],[]⟩) (λr s'=>r= .ok (.ret (.bool true))/\OldK s₁.heap s'.heap/\s'.os=s₁.os/\AllBare s'.gens) s₁:=by
 have rv:=Jxj hi;let so:Obj:={cls:=.type "list",data:=.seq vs.toArray};let H:Hp:=λb=>if b=a/\K.lookup a=none then some (.frz so (.lst (ns.map V.int))) else (tabs.lookup b).map HO.tbl
 have three:∀b,H b=none\/(b=a/\K.lookup a=none/\H b=some (.frz so (.lst (ns.map V.int))))\/∃lb,(b,lb)∈tabs/\H b=some (.tbl lb):=λb=>by
  by_cases h:b=a/\K.lookup a=none
  ·exact .inr (.inl ⟨h.1,h.2,if_pos h⟩)
  ·have e:H b=(tabs.lookup b).map HO.tbl:=if_neg h;cases q:tabs.lookup b with
   |none=>exact .inl (by rw [e,q];rfl)
   |some lb=>exact .inr (.inr ⟨lb,Jv7 q,by rw [e,q];rfl⟩)
 have hnon:∀b o,s₁.heap.get? b=some o->(∀xs n,o.data≠ .seq xs n)->(∀xs,o.data≠ .fields xs)->H b=none:=λb o e n1 n2=>by
  rcases three b with z|⟨rfl,_,_⟩|⟨lb,m,_⟩
  ·exact z
  ·rw [ha] at e;cases e;exact absurd rfl (n1 _ _)
  ·rw [(hT _ m).2] at e;cases e;exact absurd rfl (n2 _)
 have htb:∀p∈tabs,H p.1=some (.tbl p.2):=λp hp=>by
  have n:¬(p.1=a/\K.lookup a=none):=λz=>by
   have e:=(hT p hp).2;rw [z.1,ha] at e;cases e
  show (if p.1=a/\K.lookup a=none then _ else _)=_;rw [if_neg n,Jx7 hnd p hp];rfl
 have hok:HOk P w H s₁.heap:=λb u z=>by
  rcases three b with e|⟨rfl,_,e⟩|⟨lb,m,e⟩
  ·rw [e] at z;cases z
  ·rw [e] at z;cases z;exact ⟨ha,by rw [ye];exact hl,vs,_,rv,ha⟩
  ·rw [e] at z;cases z;exact ⟨#[],(hT _ m).2,True.intro⟩
 have hS:Sz K H a (ns.map V.int):=by
  cases hk:K.lookup a with
  |some o=>
   have e:=KX a o hk;rw [ha] at e;cases e;exact .inr ⟨_,vs.toArray,_,hk,rfl,rfl,rfl,by rw [yw,hi.length];exact hl,by simpa using rv⟩
  |none=>exact .inl (.inr ⟨so,if_pos ⟨rfl,hk⟩⟩)
 have nsK:∀{b:S4} {m:Str->Option S5},s₁.heap.Ns b m->(Jxs s₁.heap H).Ns b m:=λ{b m} ⟨o,es,ep,e,d,r⟩=>⟨o,es,ep,Jv0 e (hnon b o e (λxs n z=>by rw [d] at z;cases z) λxs z=>by rw [d] at z;cases z),d,r⟩;have hKb:K.In (Jxs s₁.heap H):=λb o e=>Jv0 (KX b o e) (by
  rcases three b with z|⟨rfl,z,_⟩|⟨lb,m,_⟩
  ·exact z
  ·rw [z] at e;cases e
  ·exfalso;have q:=KX b o e;rw [(hT _ m).2] at q;cases q;have h2:=ybf.mp hK (b,_) (PySem.W.mem_of_lookupK e);exact absurd (h2) yak)
 have hBb:Bmn mg (Jxs s₁.heap H):=by
  obtain ⟨bm,ob,b1,b2,b3,b4,b5,b6⟩:=hbm;exact ⟨bm,ob,b1,b2,Jv0 b3 (hnon bm ob b3 (λxs n z=>by rw [b6] at z;cases z) λxs z=>by rw [b6] at z;cases z),b4,b5,b6⟩
 have hM:Mod K mg (Jxs s₁.heap H):=⟨hKb,nsK hns,⟨mb,nsK hb,hbb⟩,let ⟨mc,h1,h2⟩:=hlim;⟨mc,nsK h1,h2⟩⟩;have e0:Sh1 P w K mg (Jxs s₁.heap H) callerA [] s₁ H:=⟨rfl,hM,λb o e=>Yft e,Nat.le_of_eq (Ybr _ _),trivial,λb hb=>absurd (show b∈ [] from hb) (by simp),hok,.of_eq hg⟩;refine codeAny_mono ((F _ hKb (nsK hns) hBb).run callerA [] s₁ H ⟨[.ref a],[]⟩ [.ref a] [.ref a] _ _ hr e0 (hbind s₁ (.ref a)) (.cons rfl .nil) (hsp H htb hS)) λr s' h=>?_;cases r with
 |error e=>exact (hCX H e s' h).elim
 |ok fl=>
  cases fl with
  |next=>exact False.elim h
  |brk=>exact False.elim h
  |cont=>exact False.elim h
  |ret u=>
   obtain ⟨v,H',os,bare,un,hok',r',q⟩:=h;subst q;obtain rfl:u=Value.bool true:=r';have all:∀b o,s₁.heap.get? b=some o->s'.heap.get? b=some o\/(isCodeTable s₁.heap b/\o=PySem.W.tabObj #[]/\∃ts,s'.heap.get? b=some (PySem.W.tabObj ts)):=λb o e=>by
    rcases three b with z|⟨rfl,_,z⟩|⟨lb,m,z⟩
    ·exact .inl (un.keep b o e z (by intro y;exact absurd (show b∈ [] from y) (by simp)) (by simp))
    ·obtain ⟨e2,_⟩:=hok' _ _ (un.frzs _ _ _ z);rw [ha] at e;cases e;exact .inl e2
    ·obtain ⟨more,z2⟩:=un.tbls b lb z;obtain ⟨ts,e2,_⟩:=hok' b _ z2;have e3:=(hT _ m).2;rw [e] at e3;cases e3;exact .inr ⟨(hT _ m).1,rfl,ts,e2⟩
   refine ⟨rfl,⟨λb o e=>?_,λb o e=>?_⟩,os,bare⟩
   ·rcases all b o e with z|⟨t,rfl,ts,z⟩
    ·exact .inl z
    ·exact .inr (.inl ⟨t,rfl,#[],ts,rfl,by rw [Array.empty_append];exact z⟩)
   ·rcases all b o e with z|⟨t,rfl,ts,z⟩
    ·exact ⟨o,z⟩
    ·exact ⟨_,z⟩
noncomputable def Ycp (q:Sa) (K:Sg) (h:Se):Prop:=∀(y:Str) (d:DefRec) (c P:S4),(recsOf q).find? (λe=>e.name==y)=some d->PySem.W.tabIn K y=some (c,P)->PySem.W.CodeHd h c P/\h.get? P=some (PySem.W.tabObj #[])
theorem walk_ofT {l:PySem.W.OpenLaw} {n k} {q} {loose} {XP} {YP} {d} {K:Params->Sg} {CX} {x}
  (hn:l.most=some n) (hn2:n<=S9) (hdf:d.params.defaults= []) (hr:Sax k callerA) (hY:∀w h,YP w h->(K w.params).In h) (hK:∀w:Sc,PySem.W.noTabs (K w.params)=true)
  (F:∀w mg fa h,(K w.params).In h->h.Ns mainGlobals mg->Ycp q (K w.params) h->mg d.name=some (.ref fa)->
   ∃(fd:Sb) (sp:Sp) (tabs:List (S4×Array (Nat×Nat×Str))),(∀s u,BindsTo s fd ⟨[u],[]⟩ [(x,u)])/\(∀p∈tabs,isCodeTable h p.1/\h.get? p.1=some (PySem.W.tabObj #[]))/\(tabs.map (·.1)).Nodup/\
    (∀base:Se,(K w.params).In base->base.Ns mainGlobals mg->Bmn mg base->Sv l.prog w (K w.params) mg base CX k fa fd [x] sp)/\
    ∀H a (ns:List Int),ns.length<=n->(∀p∈tabs,H p.1=some (.tbl p.2))->Sz (K w.params) H a (ns.map V.int)->sp [.ref a] H (λv _=>v= .bl true) λ_ _ _=>False)
  (hCX:∀H s e s',CX [] H s (λ_ _ _=>False) e s'->False):
  PySem.W.WalkO q loose XP YP l.row.toRowW d [] (λf vs=>PySem.call f vs):=by
 refine Att.attach_call hn hdf λw s₀ s₁ mg mb fa o pm cd doc a vs ns G Y ho hd hcd hmg hobj hints hlen hg=>?_;have KX:=hY w _ Y;obtain ⟨fd,sp,tabs,hb,hT,hnd,hF,hsp⟩:=F w mg fa _ KX G.T.g (λy d c P e1 e2=>PySem.W.tab_of G.T KX e1 e2) hmg;exact Ybv KX G.T.g G.T.b G.T.builtins G.T.nolimit hg hobj hints (yai hlen hn2) hr hT hnd (hK w) G.T.bmain hF hb (λH h1 h2=>hsp H a ns hlen h1 h2) λH e s'=>hCX H s₁ e s'
theorem Syx {K} (T:Ycp q K h) (e1:(recsOf q).find? (λe=>e.name==y)=some d) (e2:PySem.W.tabIn K y=some (c,P)):isCodeTable h P/\h.get? P=some (PySem.W.tabObj #[]):=
 let ⟨a,b⟩:=T y d c P e1 e2
 ⟨(a.tab b).isCodeTable,b⟩
end L2
namespace L2
open PySem PySem.Spec PyProof.Rows PySem.W
theorem KV.get (r:KV kvs vs):∀{i:Nat} {k:Key} {x},kvs[i]?=some (k,x)->∃u,vs[i]?=some (k,u)/\Sw x u:=by
 induction r with
 |nil=>intro i k x h;simp at h
 | @cons a b l1 l2 h t ih=>
  intro i k x e;cases i with
  |zero=>
   obtain rfl:a=(k,x):=by simpa using e
   obtain ⟨k',u⟩:=b;obtain ⟨e1,e2⟩:=h;cases e1;exact ⟨u,rfl,e2⟩
  |succ j=>exact ih (by simpa using e)
theorem Ye4 (h:(Jmj P w).is k u=true):Sw (kV k) u:=by
 rw [Yo] at h;cases k with
 |inl i=>
  cases u <;> simp [Jq1,Value.isInt] at h;subst h;exact ⟨_,rfl⟩
 |inr x=>
  obtain ⟨t,e⟩:=Value.isStrOf_shape h;exact ⟨t,e⟩
section
variable {X:Cx} {pins:List (S4×Obj)} {σ:St} {H:Hp} {s:S6}
theorem Ss.frz (I:Ss X pins σ H s) (e:H a=some (.dK kvs)) (ho:s.heap.get? a=some o):Ss X pins σ (upd H a (.frz o (.dK kvs))) s:=by
 have mu:Mut (H a):=by rw [e];trivial
 exact I.un (Un.write mu (.inl rfl) (λb u _ q=>q) ⟨o,ho⟩) (HOk.write I.hok mu (.inl rfl) (λb u _ q=>q) ⟨o,ho⟩ ⟨ho,I.hok a _ e⟩)
theorem Yd5 (I:Ss X pins σ H s) (ea:H a=some (.frz o (.dK kvs))):
  kvs.length<=S9/\(a==sysModules)=false/\∃vs es ep,KV kvs vs/\o.data= .dict es ep/\s.heap.DictAt (Jmj X.prog X.w) a vs ep:=by
 obtain ⟨e1,z,hd,vs,rel,o',es,ep,e2,x,d,r⟩:=(I.hok a _ ea);rw [e1] at e2;cases e2;exact ⟨z,hd,vs,es,ep,rel,d,o,es,e1,x,d,r⟩
end
noncomputable def Iti (a:S4) (o:Obj) (kvs:List (Key×V)):It:=
 ⟨λi H=>H a=some (.frz o (.dK kvs))/\i < kvs.length,λi H x H'=>∃T k u,H T=none/\x= .ref T/\kvs[i]?=some (k,u)/\H'=upd H T (.tup [kV k,u]),λi H=>H a=some (.frz o (.dK kvs))/\kvs.length<=i⟩
noncomputable def ISt (it a:S4) (o:Obj) (n i:Nat) (h:Se):Prop:=∃es ep,o.data= .dict es ep/\∃ok ov,IsItemIter h it a i n ep ok ov
theorem Ya9 {K} (a it) (o) (kvs):Turn P w K (.Tuple elts kt pt) (Iti a o kvs) [it] it (ISt it a o kvs.length) where
 mem:=by simp
 obj:=λi h st b hb=>by
  have e:=by simpa using hb
  subst e;obtain ⟨es,ep,_,ok,ov,e⟩:=st;exact ⟨_,e,λv z=>by cases z⟩
 keep:=λi h h' st k=>by
  obtain ⟨es,ep,q,ok,ov,e⟩:=st;exact ⟨es,ep,q,ok,ov,k it (by simp) _ e⟩
 item:=by
  intro X hP hw hK hc i pins s σ H E I hf st hg;subst hP hw hK;obtain ⟨ea,hi⟩:=hg;obtain ⟨es,ep,ed,ok,ov,st⟩:=st;obtain ⟨_,_,vs,es',ep',rel,ed',da⟩:=Yd5 I ea;rw [ed] at ed';cases ed';have hl:=rel.length;have hx:kvs[i]?=some (kvs[i].1,kvs[i].2):=by simp [hi]
  obtain ⟨u,hu,ru⟩:=rel.get hx;rw [hl] at st;refine wpAny_pyNext_items_item st da hu λkey h' hk st' tT sz kk=>⟨_,rfl,wpAny_letOwnedTupleGo_items st' λh'' st'' sb=>?_⟩;have ne:s.heap.objs.size≠it:=λw'=>absurd (yj st) (by rw [<-w'];exact ybd _);refine ⟨.ref s.heap.objs.size,upd H s.heap.objs.size (.tup [kV kvs[i].1,kvs[i].2]),I.turnTup hf (λc o hc q=>(sb.2 c (by simpa using hc)).trans (kk c o (by simpa using hc) q)) (yg _)
   ⟨(show 2<=S9 by decide),[key,u],.cons (Ye4 hk) (.cons ru .nil),⟨_,((sb.2 _ ne).trans tT),rfl,_,rfl⟩⟩,rfl,⟨_,_,_,I.hok.fresh (yg _),rfl,hx,rfl⟩,⟨es,ep,ed,_,_,by rw [hl];exact st''⟩,λc hc=>?_⟩
  have e:=by simpa using hc
  subst e;rw [Sx (yx ne)];exact (hf c hc).1
 done:=by
  intro X hP hw hK hc i pins s σ H E I hf st hg;subst hP hw hK;obtain ⟨ea,hi⟩:=hg;obtain ⟨es,ep,ed,ok,ov,st⟩:=st;obtain ⟨_,_,vs,es',ep',rel,ed',da⟩:=Yd5 I ea;rw [ed] at ed';cases ed';have hl:=rel.length;obtain ⟨f0,f1,f2,f3,f4,f5⟩:=hf it (by simp);rw [hl] at st;exact wpAny_pyNext_items_end (I.ok.hd hc) st da (by simp;omega) λh' eb=>⟨rfl,I.turned (λb o hb e=>eb b o hb e) f0 f1 f3 f4 f5⟩
 self:=λ_ _ _ _ _ st h=>let ⟨_,_,_,_,_,q⟩:=st;kcp_self q h
noncomputable def Sms (td:TE):TI:=λσ H R=>td σ H λx H1=>∃a o kvs,x= .ref a/\H1 a=some (.frz o (.dK kvs))/\R (Iti a o kvs) H1
theorem Ydq {elts} {kt} {apos cpos} (ho:PE X o td) (hbase:attributeBase o "items" X.env (eval o X.env)=eval o X.env:=by rfl) (hline:(apos.endLine==cpos.line)=true:=by rfl):
  PI X (.Tuple elts kt pt) (.Call (.Attribute o "items" apos) [] [] cpos) (Sms td):=by
 intro pins s σ H R I h;refine wpAny_Call_method0_late hbase hline (thn (ho pins s σ H _ I h) λv s1 zq=>?_);obtain ⟨x,H1,I1,r1,q1⟩:=zq;obtain ⟨a,ob,kvs,rfl,ea,q⟩:=q1;obtain rfl:v=Value.ref a:=r1;obtain ⟨t1,t2,_⟩:=Smw I1 (.inl ⟨kvs,.inr ⟨ob,ea⟩⟩);refine ⟨"dict","dict.items",PySem.F.plainAttrs_dict,PySem.F.slot_dict_items,PySem.F.type_dict_items,t1,t2,Calls.callWith_builtin rfl (PySem.evalArgs_none ?_)⟩;obtain ⟨z,hd,vs,es,ep,rel,ed,da⟩:=Yd5 I1 ea;refine call_meetsIn PySem.F.slot_dict_items da.dictOf.typeIs PySem.F.entry_dict_items (PySem.F.args_dict_items_1 _) (meets_dict_items (Jmj X.prog X.w) a hd) ⟨⟨vs,da.dictOf⟩,wpAny_pyIter_items ⟨_,yt _ rfl,rfl,rfl⟩ (da.keep λb o e=>yn _ e) ?_⟩;refine ⟨_,[_],_,_,H1,rfl,I1.kept λb o e=>yn _ (yn _ e),Ya9 a _ ob kvs,⟨es,ep,ed,.none,.none,by rw [rel.length];exact yt _ rfl⟩,λb hb=>?_,q⟩;have le:s1.heap.objs.size<=b:=by
  rw [yam.mp hb];simp [Heap.push]
 exact I1.fpOk le (I1.hok.fresh le)
section
variable {g:TG} {tt:TT} {te:TE} {H:Hp} {D:S4} {σ:St} {R:Hp->Prop}
end
theorem Jxw:typeLookup (.type "list") "keys" =pure none:=by rw [typeLookup_type];kernel_rfl
section
variable {prog:Sa} {w:Sc} {A:Sd} {E:S5->S6->Prop} {s:S6} {a:S4} {its:Array S5} {n:Nat}
theorem Jv4 (hx:s.heap.get? a=some {cls:=.type "list",data:=.seq its n}) (hA:A.handled=none)
  (h:∀h' tk,(∀b o,s.heap.get? b=some o->h'.get? b=some o)->Q none {s with heap:=h',toks:=tk}):
  Sf (model prog w) A (getAttr? (.ref a) "keys") Q E s:=by
 obtain ⟨hp,g,d,tk,os⟩:=s;have hT:∀tk',(⟨hp,g,d,tk',os⟩:S6).TypeIs (.ref a) "list" :=λ_=>⟨_,hx,rfl⟩;have f1:=sub_AttributeError;have f3:=PySem.F.slot_list_getattribute.lookup;have f4:=PySem.F.slot_list_getattribute.bind (.ref a);have f5:=am_list_getattr_none
 repeat (any_goals (first|assumption|exact hT _|((with_reducible show Sf _ _ (call (Value.builtin "list.__getattribute__") _ _) _ _ _);refine call_meets PySem.F.slot_list_getattribute (hT _) am_entry_list_getattribute (PySem.F.args_list_getattribute_2 _ _) (meets_getattribute_miss_list a its n #[] "keys" _ Jxw (by decide) (by size_fits)) ⟨hx,hA,λh' tk' e hx'=>?_⟩)|wp_step))
 obtain ⟨t',u',he⟩:=hx'.there;show Sf _ _ (getattributeRaised _ _ _ _ _ _ _) _ _ _
 repeat (any_goals (first|assumption|wp_step))
 exact h _ _ hx'.keeps
end
theorem Jwz:entryFor table "dict.update.loop" =some Builtin.«dict.update.loop»:=entryFor_of_tree (by kernel_rfl)
section
variable {prog:Sa} {w:Sc} {K:Type} [DecidableEq K] {knd:KeyKind prog w K} {A:Sd}
theorem Yce {α:Type} {l:List α} {x} (h:l[i]?=some x):l.take (i+1)=l.take i++ [x]:=by
 rw [yaa,h];rfl
end
theorem Yc (r:Paired F l₁ l₂):∀{i:Nat} {y},l₂[i]?=some y->∃x,l₁[i]?=some x/\F x y:=by
 induction r with
 |nil=>intro i y h;simp at h
 |cons h t ih=>
  intro i y e;cases i with
  |zero=>simp at e;subst e;exact ⟨_,rfl,h⟩
  |succ j=>exact ih (by simpa using e)
theorem Yh7 (e:xs.length=n) (h:ItemsOf P acc n) (hP:∀i v,i < n->P i v->∃x,xs[i]?=some x/\Sw x v):Sy xs acc.toList:=by
 obtain ⟨h1,h2⟩:=h;have go:∀xs l,xs.length=l.length->(∀(i:Nat) v,l[i]?=some v->∃x,xs[i]?=some x/\Sw x v)->Sy xs l:=by
  intro xs
  induction xs with
  |nil=>
   intro l e _;cases l with
   |nil=>exact .nil
   |cons _ _=>simp at e
  |cons x xs ih=>
   intro l e hl;cases l with
   |nil=>simp at e
   |cons v l=>
    obtain ⟨y,e1,r1⟩:=hl 0 v rfl;simp at e1;subst e1;exact .cons r1 (ih l (by simpa using e) λi v' e'=>by simpa using hl (i+1) v' (by simpa using e'))
 refine go xs acc.toList (by simp only [ybv];exact e.trans h1.symm) λi v e'=>?_;have e2:acc[i]?=some v:=by rw [<-Array.getElem?_toList];exact e'
 exact hP i v (by have:=(ych.mp e2).1;omega) (h2 i v e2)
theorem Jpj (hc:X.calm=true):Jnm X (.type "list") (λxs H Q=>∃p i j,xs= [V.ref p]/\H p=some (.rng i j)/\ -1000<=i/\i<=1000/\ -1000<=j/\j<=1000/\
  ∀l,H l=none->Q (.ref l) (upd H l (.lst ((yaw (j - i).toNat).map λk:Nat=>V.int (i+k))))):=by
 rintro pins s σ H xs us Q I r ⟨p,i,j,rfl,hp,h1,h2,h3,h4,q⟩;obtain ⟨u,rfl,r2⟩:=Joh r;obtain rfl:u=Value.ref p:=r2;obtain ⟨t,u,v,e⟩:=(I.hok p _ hp);refine call_list_range (n:=(j - i).toNat) (I.ok.hd hc) e (small_one (by omega) (by omega) (by omega) (by omega)) (by rw [rangeSize_one];split <;> omega) (by omega) λh' tk acc c kp hl hI=>?_;have rv:Sy ((yaw (j - i).toNat).map λk:Nat=>V.int (i+k)) acc.toList:=by
  refine Yh7 (by simp) hI λk w' lt hw=>?_;obtain ⟨t,rfl⟩:=hw;exact ⟨.int (i+k),by simp [lt],t,by simp⟩
 refine ⟨.ref s.heap.objs.size,_,I.laid (o:=.lst _) kp (yg _) ⟨?_,acc.toList,c,rv,by simpa using hl⟩,rfl,q _ (I.hok.fresh (yg _))⟩;rw [sizeLine_eq,ye,ybm];omega
section
variable {prog:Sa} {w:Sc} {K:Type} [DecidableEq K] {knd:KeyKind prog w K} {A:Sd} {E:S5->S6->Prop} {s:S6} {b:Bool}
end
section
variable {prog:Sa} {w:Sc} {A:Sd} {R:Result->S6->Prop} {I:S4} {fp wr:List S4} {n:Nat} {P:Nat->S5->Prop} {St:Nat->Se->Prop}
end
section
variable {prog:Sa} {w:Sc} {A:Sd} {E:S5->S6->Prop} {s:S6}
end
section
variable {M:Model} {A:Sd} {E:S5->S6->Prop} {s:S6}
end
section
variable {prog:Sa} {w:Sc} {A:Sd} {E:S5->S6->Prop} {s:S6} {it a T:S4} {i ep slot next p m:Nat} {x:S5} {h0:Int} {tk:Tok} {o oT:Obj} {es:Array (Int×S5)} {t:SetTable} {ps:Array S5} {Q:Option S5->S6->Prop}
end
section
variable {prog:Sa} {w:Sc} {A:Sd} {E:S5->S6->Prop} {s:S6} {it a:S4} {i ep slot:Nat} {o:Obj} {es:Array (Int×S5)} {t:SetTable}
end
section
variable {prog:Sa} {w:Sc} {A:Sd} {E:S5->S6->Prop} {s:S6} {it a:S4}
end
section
variable {prog:Sa} {w:Sc} {A:Sd} {it a T:S4} {ep m:Nat} {o oT:Obj} {es:Array (Int×S5)} {t:SetTable} {ps:Array S5}
end
section
variable {prog:Sa} {w:Sc} {A:Sd} {E:S5->S6->Prop} {s:S6} {a:S4} {ep:Nat} {o:Obj} {es:Array (Int×S5)} {t:SetTable}
end
end L2
namespace L2
open PySem PySem.Spec PyProof.Rows PySem.W PySem.Calls
section
variable {prog:Sa} {w:Sc} {A:Sd} {E:S5->S6->Prop} {s:S6} {a:S4} {ep:Nat} {o:Obj} {es:Array (Int×S5)} {t:SetTable}
end
end L2
namespace L2
open PySem PySem.Spec PyProof.Rows PySem.W
section
variable {X:Cx}
end
theorem Jxn:bootBuiltins "dict" =some (.type "dict"):=by decide +kernel
theorem Juq:bootBuiltins "range" =some (.type "range"):=by decide +kernel
section
variable {X:Cx}
theorem Jwe (hu:X.A.units+64 < cLine):OpR X (compareOp .NotIn) (λy x H Q=>∃a o,x= .ref a/\Sq4 H a y o/\Q (.bl (!o.isSome)) H):=by
 rintro pins s σ H y x v u Q I ry rx ⟨a,o,rfl,g,q⟩;obtain rfl:u=Value.ref a:=rx;exact Yfb (by omega) I g ry λs3 I3=>⟨.bl (!o.isSome),H,I3,rfl,q⟩
end
section
variable {X:Cx} {CX:CXT} {k j i:Nat} {sp:S4->Sp} {x:Str} {p pos:Pos} {e:Expr} {es:List Expr} {t:TA} {R:St->XK}
end
section
variable {X:Cx} {o i value:Expr} {pos pos':Pos} {td ty tv:TE}
theorem Yc5 (hu:X.A.units+64 < cLine) (ho:PE X o td) (hi:PE X i ty) (hv:PE X value tv) (hs:swapsWith value (some (.Subscript o i pos')) pos.line X.env=pure false):
  PS X (.Assign [.Subscript o i pos'] value pos) (Sl5 td ty tv):=Yg5 (by omega) ho hi hv hs
end
section
variable {P:Sa} {w:Sc} {H H':Hp} {h:Se} {a:S4} {o:Obj} {kvs:List (Key×V)}
end
section
variable {X:Cx} {pins:List (S4×Obj)} {σ:St} {H:Hp} {s:S6} {a:S4} {o:Obj} {kvs:List (Key×V)}
inductive Soo (Q:VK) (v:V) (H1:Hp):Prop where
 |mk (a:_) (kvs:_) (_:v= .ref a) (_:H1 a=some (.dK kvs)) (_:∀o,Q v (upd H1 a (.frz o (.dK kvs))))
noncomputable def Syq (te:TE):TE:=λσ H Q=>te σ H (Soo Q)
theorem Jvo (he:PE X e te):PE X e (Syq te):=by
 intro pins s σ H Q I h;refine thn (he pins s σ H _ I h) λu s1 zq=>?_;obtain ⟨x,H1,I1,r1,a,kvs,ex,e1,q⟩:=zq;obtain ⟨_,_,vs,_,ob,es,ep,e2,_⟩:=(I1.hok a _ e1);exact ⟨x,_,I1.frz e1 e2,r1,q ob⟩
end
section
variable {prog:Sa} {w:Sc} {A:Sd} {E:S5->S6->Prop} {s:S6}
end
section
variable {X:Cx}
theorem Jsx:Jnm X (.type "range") (λxs H Q=>∃j,xs= [V.int j]/\∀p,H p=none->Q (.ref p) (upd H p (.rng 0 j))):=by
 rintro pins s σ H xs us Q I r ⟨j,rfl,q⟩;obtain ⟨u,rfl,r1⟩:=Joh r;obtain ⟨t1,rfl⟩:=r1;exact call_range_1 ⟨.ref s.heap.objs.size,_,I.laid (o:=.rng 0 j) (λb o e=>yn _ e) (yg _) ⟨_,_,_,yt _ rfl⟩,rfl,q _ (I.hok.fresh (yg _))⟩
end
section
variable {X:Cx} {x:Str} {np pos:Pos} {C0:S4} {b₀:Stmt} {suite:List Stmt} {rest:List ExceptHandler} {ts:S4->TS} {th:TH}
end
end L2
namespace L2
open PySem PySem.Spec PyProof.Rows
section
variable {X:Cx} {pins:List (S4×Obj)} {σ:St} {H:Hp} {s:S6} {M:Model} {A:Sd} {E:S5->S6->Prop} {qual:Str} {e:Expr} {pos:Pos} {firstLine:Nat} {c P:S4} {lb:Array (Nat×Nat×Str)} {clos:List (Str×S4)} {Q:S5->S6->Prop}
end
section
variable {X:Cx} {t:TS} {e:Expr} {l:List Stmt} {qual:Str} {c P:S4} {lb:Array (Nat×Nat×Str)}
end
section
variable {X:Cx} {CX:CXT} {k j:Nat} {sp:S4->Sp} {x:Str} {p pos:Pos} {e:Expr} {es:List Expr} {t:TA}
end
theorem lvS (u:List S5) (e:u.length=n+1):∃a r,u=a::r/\r.length=n:=by
 cases u with
 |nil=>cases e
 |cons a r=>exact ⟨a,r,rfl,Nat.succ.inj e⟩
theorem lv1 (u:List S5) (e:u.length=1):∃a,u= [a]:=by
 obtain ⟨a,r,rfl,z⟩:=lvS u e;cases r with
 |nil=>exact ⟨a,rfl⟩
 |cons b r=>cases z
theorem lv2 (u:List S5) (e:u.length=2):∃a b,u= [a,b]:=by
 obtain ⟨a,r,rfl,z⟩:=lvS u e;obtain ⟨b,rfl⟩:=lv1 r z;exact ⟨a,b,rfl⟩
theorem lv3 (u:List S5) (e:u.length=3):∃a b c,u= [a,b,c]:=by
 obtain ⟨a,r,rfl,z⟩:=lvS u e;obtain ⟨b,c,rfl⟩:=lv2 r z;exact ⟨a,b,c,rfl⟩
theorem lv4 (u:List S5) (e:u.length=4):∃a b c d,u= [a,b,c,d]:=by
 obtain ⟨a,r,rfl,z⟩:=lvS u e;obtain ⟨b,c,d,rfl⟩:=lv3 r z;exact ⟨a,b,c,d,rfl⟩
theorem lv5 (u:List S5) (e:u.length=5):∃a b c d f,u= [a,b,c,d,f]:=by
 obtain ⟨a,r,rfl,z⟩:=lvS u e;obtain ⟨b,c,d,f,rfl⟩:=lv4 r z;exact ⟨a,b,c,d,f,rfl⟩
theorem lv6 (u:List S5) (e:u.length=6):∃a b c d f g,u= [a,b,c,d,f,g]:=by
 obtain ⟨a,r,rfl,z⟩:=lvS u e;obtain ⟨b,c,d,f,g,rfl⟩:=lv5 r z;exact ⟨a,b,c,d,f,g,rfl⟩
theorem lv7 (u:List S5) (e:u.length=7):∃a b c d f g i,u= [a,b,c,d,f,g,i]:=by
 obtain ⟨a,r,rfl,z⟩:=lvS u e;obtain ⟨b,c,d,f,g,i,rfl⟩:=lv6 r z;exact ⟨a,b,c,d,f,g,i,rfl⟩
section
open PySem.Builtin PySem.Builtin.Str
variable {prog:Sa} {w:Sc} {A:Sd} {E:S5->S6->Prop} {s:S6} {x y:Str} {t u:Tok} {Q:S5->S6->Prop}
end
section
variable {X:Cx} {k j:Nat} {f C:S4} {fd:Sb} {ps:List Str} {sp:Sp} {R:St->XK} {m:Str} {pos apos:Pos} {o:Expr} {ta:TE}
end
section
variable {X:Cx} {a b:Expr} {rest:List Expr} {pos:Pos} {ta tb:TE}
end
section
variable {X:Cx}
end
noncomputable def Sot:Option Int->S5->Bool
 |none,.none=>true
 |some i,v=>Value.isInt i v
 |_,_=>false
noncomputable def tnH:Option Int->Int
 |none=>reduceHash 0xFCA86420
 |some i=>hashInt i
theorem Jof {k:Option Int} {v:S5} (h:Sot k v=true):(k=none/\v= .none)\/∃i t,k=some i/\v= .int i t:=by
 cases k with
 |none=>cases v <;> first|exact .inl ⟨rfl,rfl⟩|cases h
 |some i=>
  obtain ⟨t,e⟩:=Value.isInt_shape (k:=i) (v:=v) h;exact .inr ⟨i,t,rfl,e⟩
noncomputable def Jqu (prog:Sa) (w:Sc):PySem.KeyKind prog w (Option Int) where
 is:=Sot
 hash:=tnH
 inj:=λv a b ha hb=>by
  rcases Jof ha with ⟨rfl,rfl⟩|⟨i,t,rfl,rfl⟩ <;> rcases Jof hb with ⟨rfl,e⟩|⟨j,u,rfl,e⟩ <;> first|rfl|(injection e with e1 _;rw [e1])|exact nomatch e
 byValue:=λk v h=>by rcases Jof h with ⟨rfl,rfl⟩|⟨i,t,rfl,rfl⟩ <;> rfl
 pyHash:=λhv h=>by
  rcases Jof hv with ⟨rfl,rfl⟩|⟨i,t,rfl,rfl⟩
  ·exact PySem.W.pyHash_slot (T:="NoneType") rfl F.slot_NoneType_hash F.entry_NoneType_hash (F.args_NoneType_hash_1 _) (PySem.beq_builtin_none _) (.inl rfl) (S7 (S8 (S7 (wpAny_mkInt (S8 ⟨_,_,rfl,h⟩)))))
  ·exact wpAny_pyHash_int h
 eqBool:=λhu hv h=>by
  rcases Jof hu with ⟨rfl,rfl⟩|⟨i,t,rfl,rfl⟩ <;> rcases Jof hv with ⟨rfl,rfl⟩|⟨j,u,rfl,rfl⟩
  ·exact SeqAt.EqAt.same .none _ _ _ _ h
  ·exact SeqAt.EqAt.none_int j u _ _ _ _ h
  ·exact SeqAt.EqAt.int_none i t _ _ _ _ h
  ·have e:decide ((some i:Option Int)=some j)=(i==j):=by
    by_cases q:i=j
    ·subst q;simp
    ·rw [decide_eq_false (λz=>q (yac.inj z))];exact (beq_eq_false_iff_ne.mpr q).symm
   rw [e] at h;exact wpAny_eqBool_int h
 «strs»:=λk x t v h=>by rcases Jof h with ⟨rfl,e⟩|⟨i,u,rfl,e⟩ <;> exact nomatch e
section
variable {prog:Sa} {w:Sc} {A:Sd} {E:S5->S6->Prop} {s:S6}
noncomputable abbrev Jod:=List Int×Option Int
noncomputable def Sdi (prog:Sa) (w:Sc) (h:Se) (k:Jod) (a:S4):Prop:=∃o items n b v,h.get? a=some o/\o.cls= .type "tuple" /\o.data= .seq items n/\items.toList= [.ref b,v]/\IsTupleKey (intKind prog w) h k.1 b/\Sot k.2 v=true
noncomputable def chH (prog:Sa) (w:Sc) (k:Jod):Int:=reduceHash (Builtin.Tuple.tupleHashOf [tupleKeyHash (intKind prog w) k.1,tnH k.2])
theorem Sdi.typeIs {k:Jod} {a:S4} (x:Sdi prog w s.heap k a):s.TypeIs (.ref a) "tuple" :=by obtain ⟨o,_,_,_,_,ho,hc,_⟩:=x;exact ⟨o,ho,hc⟩
theorem Sdi.inj {h:Se} {a:S4} {x y:Jod} (hx:Sdi prog w h x a) (hy:Sdi prog w h y a):x=y:=by
 obtain ⟨o,its,n,b,v,ho,_,hd,hi,h1,h2⟩:=hx;obtain ⟨o',its',n',b',v',ho',_,hd',hi',h1',h2'⟩:=hy;obtain rfl:o=o':=yac.inj (ho.symm.trans ho');rw [hd] at hd';injection hd' with e1 _;subst e1;rw [hi] at hi';injection hi' with e2 e3;injection e2 with e2;injection e3 with e3 _;subst e2 e3;exact Prod.ext (h1.inj h1') ((Jqu prog w).inj _ _ _ h2 h2')
theorem Sdi.keeps {h h':Se} {k:Jod} {a d:S4} {o:Obj} {es ep} (x:Sdi prog w h k a) (ho:h.get? d=some o) (hd:o.data= .dict es ep) (hs:yay d h h'):Sdi prog w h' k a:=by
 obtain ⟨o',its,n,b,v,ho',hc,hd',hi,h1,h2⟩:=x;have hne:a≠d:=by
  rintro rfl;obtain rfl:o'=o:=yac.inj (ho'.symm.trans ho);rw [hd] at hd';exact nomatch hd'
 exact ⟨o',its,n,b,v,(hs.2 a hne).trans ho',hc,hd',hi,h1.keeps ho hd hs,h2⟩
theorem Yff {k:Jod} {a:S4} {Q:Int->S6->Prop} (hu:A.units+1 < cLine) (hk:Sdi prog w s.heap k a) (h:Q (chH prog w k) {s with toks:=s.toks+(k.1.length+3)}):Sf (model prog w) A (pyHash (.ref a)) Q E s:=by
 have hT:=hk.typeIs;obtain ⟨o,items,n,b,v,ho,_,hd,hi,h1,h2⟩:=hk;refine PySem.W.pyHash_slot (T:="tuple") hT F.slot_tuple_hash F.entry_tuple_hash (F.args_tuple_hash_1 _) (PySem.beq_builtin_none _) (.inr (by omega)) ?_;show Sf _ _ (Builtin.Tuple.tupleItemsOf (.ref a) >>=_) _ _ s;refine S7 (wpAny_tupleItemsOf ho hd ?_);refine S7 ?_;rw [<-Array.forIn_toList,hi,yby];refine S7 (S7 (wpAny_pyHash_tuple (by simp only [Around.in1_units];omega) h1 ?_));refine S8 ?_;dsimp only;rw [yby];refine S7 (S7 ((Jqu prog w).pyHash h2 ?_));refine S8 ?_;dsimp only;rw [yco];refine S8 ?_;exact S7 (wpAny_mkInt (S8 ⟨_,_,rfl,h⟩))
theorem Ya3 {K:Type} [DecidableEq K] {knd:KeyKind prog w K} {ks:List K} {a:S4} {Q:Bool->S6->Prop} (hk:IsTupleKey knd s.heap ks a) (h:Q true s):Sf (model prog w) A (eqIsQuiet 7 (.ref a)) Q E s:=by
 have hT:=hk.typeIs;obtain ⟨o,items,n,ho,_,hd,hi⟩:=hk;unfold eqIsQuiet;refine S7 (wpAny_specialOf hT F.slot_tuple_eq.lookup ?_);show Sf _ _ (isInstance (.ref a) (.type "tuple") >>=_) _ _ s;refine S7 (wpAny_isInstance hT isSubtype_tuple_tuple ?_);simp only [ybs,ybt,if_false];refine S7 (wpAny_seqItems ho hd ?_);refine S7 ?_;show Sf _ _ (forIn items _ _) _ _ s;rw [<-Array.forIn_toList];refine wpAny_forIn_list _ (λrest r s'=>r.1=none/\s'=s/\∀v∈rest,carriedByValue v=true) _ ?_ ?_ _ _ ⟨rfl,rfl,hi.byValue⟩
 ·rintro v rest r s' ⟨hr,rfl,hall⟩;rw [eqIsQuiet_byValue _ (hall v yab)];refine S7 (S8 ?_);simp only [ybs,ybt,if_false];exact S8 ⟨rfl,rfl,λu hu'=>hall u (yz _ hu')⟩
 ·rintro ⟨r1,r2⟩ s' ⟨hr,rfl,_⟩;simp only at hr;subst hr;exact S8 h
theorem Ydz {k:Jod} {a:S4} {Q:Bool->S6->Prop} (hk:Sdi prog w s.heap k a) (h:Q true s):Sf (model prog w) A (eqIsQuiet 8 (.ref a)) Q E s:=by
 have hT:=hk.typeIs;obtain ⟨o,items,n,b,v,ho,_,hd,hi,h1,h2⟩:=hk;unfold eqIsQuiet;refine S7 (wpAny_specialOf hT F.slot_tuple_eq.lookup ?_);show Sf _ _ (isInstance (.ref a) (.type "tuple") >>=_) _ _ s;refine S7 (wpAny_isInstance hT isSubtype_tuple_tuple ?_);simp only [ybs,ybt,if_false];refine S7 (wpAny_seqItems ho hd ?_);refine S7 ?_;show Sf _ _ (forIn items _ _) _ _ s;rw [<-Array.forIn_toList,hi,yby];refine S7 (S7 (Ya3 h1 ?_));simp only [ybs,ybt,if_false];refine S8 ?_;dsimp only;rw [yby,eqIsQuiet_byValue _ ((Jqu prog w).byValue _ _ h2)];refine S7 (S7 (S8 ?_));simp only [ybs,ybt,if_false];refine S8 ?_;dsimp only;rw [yco];exact S8 (S8 h)
theorem Ya {x y:Jod} {a b:S4} {P:PySem.Fin->S6->Prop} (hu:A.units < cLine) (hx:Sdi prog w s.heap x a) (hy:Sdi prog w s.heap y b) (h:P (.done (.ret (.bool (decide (x=y))))) s):
  Sf (model prog w) A (Builtin.«tuple.__eq__» ⟨[.ref a,.ref b],[]⟩) P E s:=by
 have hTb:=hy.typeIs;obtain ⟨oa,xs,na,xa,xv,hoa,_,hda,hia,hx1,hx2⟩:=hx;obtain ⟨ob,ys,nb,ya,yv,hob,_,hdb,hib,hy1,hy2⟩:=hy;show Sf _ _ (isInstance (.ref b) (.type "tuple") >>=_) _ _ s;refine S7 (wpAny_isInstance hTb isSubtype_tuple_tuple ?_);simp only [ybs,ybt,if_false];refine S7 (wpAny_tupleItemsOf hoa hda ?_);refine S7 (wpAny_tupleItemsOf hob hdb ?_);refine S7 ?_;rw [hia,hib];show Sf _ _ (forIn [(Value.ref xa,Value.ref ya),(xv,yv)] _ _) _ _ s;rw [yby];refine S7 (S7 (wpAny_eqBool_tuple hu hx1 hy1 ?_));have no:¬x=y->P (.done (.ret (.bool false))) s:=λn=>by rw [decide_eq_false n] at h;exact h
 by_cases e1:x.1=y.1
 ·rw [decide_eq_true e1];simp only [ybs,ybt,if_false];refine S8 ?_;dsimp only;rw [yby];refine S7 (S7 ((Jqu prog w).eqBool hx2 hy2 ?_));by_cases e2:x.2=y.2
  ·rw [decide_eq_true e2];simp only [ybs,ybt,if_false];refine S8 ?_;dsimp only;rw [yco];refine S8 (S8 ?_);rw [decide_eq_true (Prod.ext e1 e2)] at h;have es:xs.size=ys.size:=by rw [<-ybv,<-ybv,hia,hib];rfl
   rw [es];have e3:Builtin.Tuple.tupleCompareSizes CmpOp.Eq ys.size ys.size= .bool true:=by
    show Value.bool (ys.size==ys.size)=_;rw [beq_self_eq_true]
   rw [e3];exact h
  ·rw [decide_eq_false e2];simp only [Bool.not_false,if_true];exact S7 (S8 (S8 (S8 (S8 (no λq=>e2 (by rw [q]))))))
 ·rw [decide_eq_false e1];simp only [Bool.not_false,if_true];exact S7 (S8 (S8 (S8 (S8 (no λq=>e1 (by rw [q]))))))
theorem Srg {x y:Jod} {a b:S4} {Q:Bool->S6->Prop} (hu:A.units+1 < cLine) (hx:Sdi prog w s.heap x a) (hy:Sdi prog w s.heap y b) (h:Q (decide (x=y)) s):Sf (model prog w) A (eqBool (.ref a) (.ref b)) Q E s:=by
 unfold eqBool
 try with_reducible refine wpAny_holding ?_
 show Sf _ _ (if (Value.ref a==Value.ref b)=true then _ else _) Q E s;by_cases hab:(Value.ref a==Value.ref b)=true
 ·rw [if_pos hab];have e:a=b:=by have:=eq_of_beq hab;injection this
  subst e;obtain rfl:=hx.inj hy;exact S7 (wpAny_rule (S8 (by simpa using h)))
 ·rw [if_neg hab];exact S7 (wpAny_richCompare_same_room (op:=.Eq) hx.typeIs hy.typeIs F.slot_tuple_eq
   (wpAny_call_entry F.slot_tuple_eq hx.typeIs F.entry_tuple_eq (Ya (by simp only [Around.in1_units];omega) hx hy ⟨_,rfl,(λe=>nomatch e),wpAny_truthy_bool h⟩) (F.args_tuple_eq_2 _ _)) (by omega))
noncomputable def Jsy (prog:Sa) (w:Sc):HeapKind prog w Jod where
 is:=Sdi prog w
 hash:=chH prog w
 draws:=λk=>k.1.length+3
 room:=λA=>A.units+1 < cLine
 inj:=λhx hy=>hx.inj hy
 keeps:=λx ho hd hs=>x.keeps ho hd hs
 pyHash:=λhu hk h=>Yff hu hk h
 eqBool:=λhu hx hy h=>Srg hu hx hy h
 quiet:=λhk h=>Ydz hk h
end
end L2
namespace L2
open PySem PySem.Spec PyProof.Rows PySem.W
section
variable {prog:Sa} {w:Sc} {K:Type} [DecidableEq K] {knd:HeapKind prog w K} {A:Sd}
theorem Y2 {vs:List (K×S4×S5)} {i:Nat} {k:K} {p:S4×S5} (nd:(vs.map (·.1)).Nodup) (h:vs[i]?=some (k,p)):atKey (vs.take i) k=none:=by
 refine atKey_none_of_get λj q hj=>?_;have jl:j < i:=by
  have:=(yi.mp hj).1;rw [yaf] at this;omega
 rw [List.getElem?_take_of_lt jl] at hj;have:=idxH_unique nd hj h;omega
theorem Sxu {s₀:S6} {its:Array S5} {L n it:S4} {vs:List (K×S4×S5)} {R:Result->S6->Prop} (hh:A.handled=none) (hu:∀args,knd.room (A.under (.builtin "dict.update.loop" args))) (nd:(vs.map (·.1)).Nodup) (hz:vs.length<=S9) (hi:its.size=vs.length) (hL:s₀.heap.IsList L its)
  (hp:∀(i:Nat) (k:K) (ka:S4) (v:S5),vs[i]?=some (k,ka,v)->∃T o m,its[i]?=some (Value.ref T)/\s₀.heap.get? T=some o/\o.cls= .type "tuple" /\o.data= .seq #[.ref ka,v] m/\∀h,(∀b o,s₀.heap.get? b=some o->h.get? b=some o)->knd.is h k ka)
  (hn:s₀.heap.objs.size<=n) (hit:s₀.heap.objs.size<=it) (ne:n≠it)
  (hR:∀h' tk,(∀b o,s₀.heap.get? b=some o->h'.get? b=some o)->h'.DictOfH knd n vs->R (.ok (.ret .none)) {s₀ with heap:=h',toks:=tk}):
  ∀(j i:Nat) (h:Se) (tk:Nat),i+j=vs.length->(∀b o,s₀.heap.get? b=some o->h.get? b=some o)->h.DictOfH knd n (vs.take i)->h.IsListIter it L i->
   codeAny (model prog w) A (.builtin "dict.update.loop" ⟨[.ref n,.ref it,rawInt i,.none],[]⟩) R {s₀ with heap:=h,toks:=tk}:=by
 intro j
 induction j with
 |zero=>
  intro i h tk e keep hd st;have ei:i=vs.length:=by omega
  subst ei;rw [ybn] at hd;refine codeAny_builtin Jwz ?_;unfold Builtin.«dict.update.loop»;refine S7 (wpAny_pyNext_list_end (s:={s₀ with heap:=h,toks:=tk}) hh st (items:=its) ?_ (by simp;omega) λh' eb=>?_)
  ·obtain ⟨o,q,r⟩:=hL;exact ⟨o,keep _ _ q,r⟩
  ·show Sf _ _ (Builtin.Dict.addKeywords n [] >>=λ_=>ret .none) _ _ _;refine S7 (S8 (S8 ?_));have kk:∀b o,s₀.heap.get? b=some o->h'.get? b=some o:=λb o q=>eb b o (λz=>absurd (yj q) (by rw [z];exact ybk.mpr hit)) (keep b o q);obtain ⟨o,es,ep,d1,d2,d3,d4,d5,d6⟩:=hd;exact hR h' tk kk ⟨o,es,ep,eb n o ne d1,d2,d3,d4,λx hx=>by
    obtain ⟨i,hi⟩:=ybl hx;obtain ⟨T,o',m,_,_,_,_,hk⟩:=hp i x.1 x.2.1 x.2.2 hi;exact hk h' kk,d6⟩
 |succ j ih=>
  intro i h tk e keep hd st;refine codeAny_builtin Jwz ?_;unfold Builtin.«dict.update.loop»;have hi':i < vs.length:=by omega
  have hx:vs[i]?=some (vs[i].1,vs[i].2.1,vs[i].2.2):=by simp [hi']
  obtain ⟨T,o,m,hT,ho,hc,hdt,hk⟩:=hp i _ _ _ hx;have kT:∀b o,s₀.heap.get? b=some o->b≠it:=λb o q z=>absurd (yj q) (by rw [z];exact ybk.mpr hit);refine S7 (wpAny_pyNext_list_item (s:={s₀ with heap:=h,toks:=tk}) st (items:=its) ?_ hT λh' st' sb=>?_)
  ·obtain ⟨o,q,r⟩:=hL;exact ⟨o,keep _ _ q,r⟩
  have keep1:∀b o,s₀.heap.get? b=some o->h'.get? b=some o:=λb o q=>(sb.2 b (kT b o q)).trans (keep b o q);have tyT:Shared.TypeIs {s₀ with heap:=h',toks:=tk} (.ref T) "tuple" :=⟨o,keep1 _ _ ho,hc⟩;refine S7 (wpAny_holding (S7 (wpAny_tryCatch ?_)));unfold Builtin.Dict.pairItems;refine S7 (wpAny_typeOf tyT ?_);rw [if_pos (by decide)];refine S7 (wpAny_seqItems (keep1 _ _ ho) hdt (S8 ?_));show Sf _ _ (holding [.ref vs[i].2.1,vs[i].2.2] (dictSet n (.ref vs[i].2.1) vs[i].2.2)) _ _ _;have hd1:h'.DictOfH knd n (vs.take i):=by
   obtain ⟨o,es,ep,d1,d2,d3,d4,d5,d6⟩:=hd;exact ⟨o,es,ep,(sb.2 n ne).trans d1,d2,d3,d4,λx hx=>by
    obtain ⟨j,hj⟩:=ybl (ycs hx);obtain ⟨T,o',m,_,_,_,_,hk⟩:=hp j x.1 x.2.1 x.2.2 hj;exact hk h' keep1,d6⟩
  refine wpAny_holding (wpAny_dictSet_heap (s:={s₀ with heap:=h',toks:=tk}) (hu _) (hk h' keep1) hd1 (hsz:=by rw [yaf];omega) λh2 hd2 sb2=>?_);refine S8 ⟨Code.quiet_builtin _ (by decide +kernel),?_⟩;rw [storedH_new (Y2 nd hx),<-Yce hx] at hd2;refine ih (i+1) h2 (tk+knd.draws vs[i].1) (by omega) (λb o q=>(sb2.2 b (λz=>absurd (yj q) (by rw [z];exact ybk.mpr hn))).trans (keep1 b o q)) hd2 ?_;obtain ⟨o',q,r⟩:=st';exact ⟨o',(sb2.2 it (yx ne)).trans q,r⟩
end
noncomputable def tnV:Option Int->V
 |none=>.non
 |some i=>.int i
noncomputable def ChK (H:Hp) (a:S4) (k:Jod):Prop:=∃b,H a=some (.tup [.ref b,tnV k.2])/\H b=some (.tup (k.1.map V.int))
noncomputable def DC (P:Sa) (w:Sc) (p:S4) (kvs:List (Jod×S4×Int)):HO:=.ext λh=>kvs.length<=S9/\(p==sysModules)=false/\∃xs:List (Jod×S4×S5),
 Paired (λ(q:Jod×S4×Int) (x:Jod×S4×S5)=>q.1=x.1/\q.2.1=x.2.1/\Sw (.int q.2.2) x.2.2) kvs xs/\∃o es ep,h.get? p=some o/\o.ExactDict/\o.data= .dict es ep/\es.toList=xs.map (entryOfKey (Jsy P w))/\(xs.map (·.1)).Nodup
section
variable {X:Cx} {pins:List (S4×Obj)} {σ:St} {H:Hp} {s:S6}
theorem Jzb {ns:List Int} {its:List S5} (r:Sy (ns.map V.int) its):ItemsAre (intKind X.prog X.w) ns its:=by
 induction ns generalizing its with
 |nil=>cases r;exact .nil
 |cons n ns ih=>
  cases r with
  | @cons _ v _ _ k1 k2=>
   obtain ⟨t,rfl⟩:=k1;exact .cons (by show Value.isInt n (.int n t)=true;simp [Value.isInt]) (ih k2)
theorem ChK.is {a:S4} {k:Jod} (ok:HOk X.prog X.w H s.heap) (c:ChK H a k):∀h:Se,(∀b o,s.heap.get? b=some o->h.get? b=some o)->Sdi X.prog X.w h k a:=by
 intro h kp;obtain ⟨b,e1,e2⟩:=c;obtain ⟨_,its,r,o,f1,f2,m,f3⟩:=(show Sai X.prog X.w H s.heap a (.tup _) from ok a _ e1);obtain ⟨_,jts,q,u,g1,g2,n,g3⟩:=(show Sai X.prog X.w H s.heap b (.tup _) from ok b _ e2);cases r with
 | @cons _ x _ _ k1 r=>
  obtain rfl:x=Value.ref b:=k1;cases r with
  | @cons _ v _ _ k2 r=>
   cases r;refine ⟨o,_,m,b,v,kp _ _ f1,f2,f3,rfl,⟨u,_,n,kp _ _ g1,g2,g3,Jzb q⟩,?_⟩;cases hk:k.2 with
   |none=>
    rw [hk] at k2;obtain rfl:v=Value.none:=k2;rfl
   |some i=>
    rw [hk] at k2;obtain ⟨t,rfl⟩:=k2;show Value.isInt i (.int i t)=true;simp [Value.isInt]
theorem Sre {P:Sa} {w:Sc} {H':Hp} {h:Se} {p:S4} {kvs:List (Jod×S4×Int)} {xs:List (Jod×S4×S5)} (z:kvs.length<=S9) (hd:(p==sysModules)=false) (r:Paired (λ(q:Jod×S4×Int) (x:Jod×S4×S5)=>q.1=x.1/\q.2.1=x.2.1/\Sw (.int q.2.2) x.2.2) kvs xs) (d:h.DictOfH (Jsy P w) p xs):Sai P w H' h p (DC P w p kvs):=by
 obtain ⟨o,es,ep,d1,d2,d3,d4,d5,d6⟩:=d;refine ⟨⟨z,hd,xs,r,o,es,ep,d1,d2,d3,d4,d6⟩,⟨o,d1⟩,?_⟩;rintro h1 h2 ⟨z,hd,xs,r,o,es,ep,d1,d2,d3,d4,d6⟩ k;exact ⟨z,hd,xs,r,o,es,ep,k _ d1,d2,d3,d4,d6⟩
noncomputable def Yco (H:Hp):List V->List (Jod×S4×Int)->Prop:=Paired λx p=>∃T,x= .ref T/\H T=some (.tup [.ref p.2.1,.int p.2.2])/\ChK H p.2.1 p.1
theorem Y6 (hc:X.calm=true) (hu:X.A.units+64 < cLine):Jnm X (.type "dict") (λxs H Q=>∃L ts kvs,xs= [V.ref L]/\H L=some (.lst ts)/\Yco H ts kvs/\kvs.length<=100000/\(kvs.map (·.1)).Nodup/\
  ∀p,H p=none->Q (.ref p) (upd H p (DC X.prog X.w p kvs))):=by
 intro pins s σ H xs us Q I r h;obtain ⟨L,ts,kvs,rfl,eL,pr,z,nd,q⟩:=h;obtain ⟨u,rfl,r2⟩:=Joh r;obtain rfl:u=Value.ref L:=r2;obtain ⟨zL,its,m,rv,hL⟩:=(show Sai X.prog X.w H s.heap L (.lst ts) from I.hok L _ eL);have szL:(100000:Nat)<=S9:=by rw [sizeLine_eq];decide
 have ex:∃vs:List (Jod×S4×S5),Paired (λ(q:Jod×S4×Int) (x:Jod×S4×S5)=>q.1=x.1/\q.2.1=x.2.1/\Sw (.int q.2.2) x.2.2) kvs vs/\∀(i:Nat) (k:Jod) (ka:S4) (v:S5),vs[i]?=some (k,ka,v)->∃T o m,its.toArray[i]?=some (Value.ref T)/\s.heap.get? T=some o/\o.cls= .type "tuple" /\o.data= .seq #[.ref ka,v] m/\∀h,(∀b o,s.heap.get? b=some o->h.get? b=some o)->(Jsy X.prog X.w).is h k ka:=by
  have one:∀(x:V) (p:Jod×S4×Int),(∃T,x= .ref T/\H T=some (.tup [.ref p.2.1,.int p.2.2])/\ChK H p.2.1 p.1)->∀w',Sw x w'->∃v:S5,Sw (.int p.2.2) v/\∃T o m,w'=Value.ref T/\s.heap.get? T=some o/\o.cls= .type "tuple" /\o.data= .seq #[.ref p.2.1,v] m/\∀h,(∀b o,s.heap.get? b=some o->h.get? b=some o)->(Jsy X.prog X.w).is h p.1 p.2.1:=by
   rintro x p ⟨T,rfl,eT,ck⟩ w' rw';obtain rfl:w'=Value.ref T:=rw';obtain ⟨_,jts,rj,o,e1,e2,m,e3⟩:=(show Sai X.prog X.w H s.heap T (.tup _) from I.hok T _ eT);cases rj with
   | @cons _ key _ _ k1 rj=>
    obtain rfl:key=Value.ref p.2.1:=k1;cases rj with
    | @cons _ v _ _ k2 rj=>
     cases rj;exact ⟨v,k2,T,o,m,rfl,e1,e2,e3,ck.is I.hok⟩
  clear hL eL r z nd q zL
  induction pr generalizing its with
  |nil=>cases rv;exact ⟨[],.nil,λi k ka v e=>by simp at e⟩
  | @cons x p l1 l2 hx t ih=>
   cases rv with
   | @cons _ w' _ its' k1 k2=>
    obtain ⟨vs,a1,a2⟩:=ih _ k2;obtain ⟨v,b1,T,o,m,b2,b3⟩:=one x p hx w' k1;refine ⟨(p.1,p.2.1,v)::vs,.cons ⟨rfl,rfl,b1⟩ a1,λi k ka v' e=>?_⟩;cases i with
    |zero=>
     simp at e;obtain ⟨rfl,rfl,rfl⟩:=e;exact ⟨T,o,m,by simp [b2],b3⟩
    |succ j=>
     obtain ⟨T,o,m,c1,c2⟩:=a2 j k ka v' (by simpa using e);exact ⟨T,o,m,by simpa using c1,c2⟩
 obtain ⟨vs,rel,hp⟩:=ex;have el:its.toArray.size=vs.length:=by
  have e1:=rv.length;have e2:=Paired.length pr;have e3:=Paired.length rel;simp;omega
 have ndv:(vs.map (·.1)).Nodup:=by
  have e:∀{a:List (Jod×S4×Int)} {b:List (Jod×S4×S5)},Paired (λ(q:Jod×S4×Int) (x:Jod×S4×S5)=>q.1=x.1/\q.2.1=x.2.1/\Sw (.int q.2.2) x.2.2) a b->a.map (·.1)=b.map (·.1):=by
   intro a b h
   induction h with
   |nil=>rfl
   |cons h t ih=>rw [yap,yap,ih,h.1]
  rw [<-e rel];exact nd
 refine callType_codes (Q₁:=λobj s₁=>obj= .ref s.heap.objs.size/\s₁={s with heap:=s.heap.push {cls:=.type "dict",data:=.dict #[]}}) PySem.F.kt_called_dict (PySem.F.kt_typeCall_dict_1 _) PySem.F.entry_dict_init (kt_code_dict_new _ ⟨rfl,rfl⟩) ?_;rintro obj s₁ ⟨rfl,rfl⟩;have hnew:(s.heap.push {cls:=.type "dict",data:=.dict #[]}).DictOfH (Jsy X.prog X.w) s.heap.objs.size []:=Heap.DictOfH.new s.heap;have hL1:(s.heap.push {cls:=.type "dict",data:=.dict #[]}).get? L=some {cls:=.type "list",data:=.seq its.toArray m}:=yn _ hL;refine ⟨hnew.typeIs,PySem.F.args_dict_init_2 _ _,?_⟩;unfold Builtin.«dict.__init__»;refine S7 ?_;unfold Builtin.Dict.selfAndRest;refine S7 (wpAny_notOrdered_dict hnew.typeIs ?_);show Sf _ _ (pure (s.heap.objs.size,[Value.ref L])) _ _ _;refine S8 ?_;show Sf _ _ (Builtin.Dict.updateFrom "dict.__init__" s.heap.objs.size (.ref L) [] .none) _ _ _;unfold Builtin.Dict.updateFrom;refine S7 (wpAny_typeOf (T:="list") ⟨_,hL1,rfl⟩ ?_);rw [if_pos (by decide)];refine S7 (Jv4 hL1 (I.ok.hd hc) λh1 tk1 kp1=>?_);show Sf _ _ (rule _ >>=_) _ _ _;refine S7 (wpAny_rule ?_);have hL2:h1.IsList L its.toArray:=⟨_,kp1 _ _ hL1,rfl,_,rfl⟩;refine S7 (wpAny_pyIter_list hL2 ?_);refine S8 ⟨Code.quiet_builtin _ (by decide +kernel),?_⟩;have sz1:s.heap.objs.size < h1.objs.size:=yj (kp1 s.heap.objs.size _ (yt _ rfl));refine Sxu (A:=X.A.in1) (s₀:=s) (its:=its.toArray) (L:=L) (n:=s.heap.objs.size) (it:=h1.objs.size) (vs:=vs) (knd:=Jsy X.prog X.w) (I.ok.hd hc) (λc=>?_) ndv (by have:=Paired.length rel;omega) el ⟨_,hL,rfl,_,rfl⟩ hp (yg _) (ycf sz1) (yy sz1) (λh' tk kp dd=>?_) vs.length 0 (h1.push {cls:=.type "list_iterator",data:=.fields #[.ref L,.int 0 0]}) tk1 (Nat.zero_add _)
  (λb o e=>yn _ (kp1 b o (yn _ e))) ?_ ?_
 ·show ((X.A.in1).under (.builtin "dict.update.loop" c)).units+1 < cLine;have e:((X.A.in1).under (.builtin "dict.update.loop" c)).units=X.A.in1.units+1:=by first|rfl|simp [Around.under,Code.cUnits,Code.frames,Code.isFrame]
  rw [e];simp only [Around.in1_units];omega
 ·exact ⟨rfl,.ref s.heap.objs.size,_,I.laid (a:=s.heap.objs.size) (o:=DC X.prog X.w s.heap.objs.size kvs) (t':=tk) kp (yg _) (Sre (by omega) (beq_eq_false_iff_ne.mpr (yx (yy I.big))) rel dd),rfl,q _ (I.hok.fresh (yg _))⟩
 ·obtain ⟨o,es,ep,e,d2,d3,d4,d5,d6⟩:=hnew;exact ⟨o,es,ep,yn _ (kp1 _ _ e),d2,d3,d4,λx hx=>absurd hx (by simp),d6⟩
 ·exact ⟨_,yt _ rfl,rfl,rfl⟩
end
end L2
namespace L2
open PySem PySem.Spec PyProof.Rows
end L2
namespace L2
open PySem PySem.Spec PyProof.Rows PySem.W
section
variable {X:Cx}
inductive ipM (x:V) (y:V) (H:Hp) (Q:VK):Prop where
 |mk (i:Int) (j:Int) (_:x= .int i) (_:y= .int j) (_:Sjc i j) (_:Q (.int (i*j)) H)
theorem Ydg:PIp X .Mult ipM:=by
 rintro pins s σ H x y v u Q I r1 r2 ⟨i,j,e1,e2,hc,q⟩;subst e1;subst e2;obtain ⟨t,rfl⟩:=r1;obtain ⟨t',rfl⟩:=r2;exact imul_int ⟨.int _,H,I.tok _,⟨_,rfl⟩,q⟩ hc.ok
end
section
theorem ftd_mk {K} (X:K.In h) (G:h.Ns mainGlobals mg) {st} {D:S4} {kV ct} {it:Array S5} {m:Nat} {o:Obj} (a:PySem.W.nsIn K mainGlobals q=some (some (.ref f)))
  (l:K.lookup f=some ⟨oc,od,.func (PySem.W.fnOf q q (Jno st) (Jnf st) (Jm5 st) (.ref D) kV dc pm an cd ct),sl⟩) (c:PySem.W.codeIn K cd q=true) (k:PySem.W.keepIn K (.ref f)=true) (hd:K.lookup D=some o) (ho:o.data= .seq it m)
  (hb:∀us,us.length=ps.length->∃g,bindArgs (PySem.W.fnOf q q (Jno st) (Jnf st) (Jm5 st) (.ref D) kV dc pm an cd ct) ⟨us,[]⟩=seqItems? (.ref D) >>=g/\g (some it)=pure (ps.zip us)):FT K mg q st ps f (PySem.W.fnOf q q (Jno st) (Jnf st) (Jm5 st) (.ref D) kV dc pm an cd ct):=by
 refine ⟨PySem.W.mg_of X G a,Jxr l c k,λs us X' hl=>?_⟩;rw [yba] at hl⊢;obtain ⟨g,h1,h2⟩:=hb us hl;exact BindsTo.of_defaults rfl (X' _ _ hd) ho h1 h2
theorem fmd_mk {K} {st} {D:S4} {kV ct} {it:Array S5} {m:Nat} {o:Obj}
  (l:K.lookup f=some ⟨oc,od,.func (PySem.W.fnOf n q (Jno st) (Jnf st) (Jm5 st) (.ref D) kV dc pm an cd ct),sl⟩) (c:PySem.W.codeIn K cd q=true) (k:PySem.W.keepIn K (.ref f)=true) (hd:K.lookup D=some o) (ho:o.data= .seq it m)
  (hb:∀us,us.length=ps.length->∃g,bindArgs (PySem.W.fnOf n q (Jno st) (Jnf st) (Jm5 st) (.ref D) kV dc pm an cd ct) ⟨us,[]⟩=seqItems? (.ref D) >>=g/\g (some it)=pure (ps.zip us)):FM K n q st ps f (PySem.W.fnOf n q (Jno st) (Jnf st) (Jm5 st) (.ref D) kV dc pm an cd ct):=by
 refine ⟨Jxr l c k,λs us X' hl=>?_⟩;rw [yba] at hl⊢;obtain ⟨g,h1,h2⟩:=hb us hl;exact BindsTo.of_defaults rfl (X' _ _ hd) ho h1 h2
end
section
variable {a:S4}
theorem Ybq {o} {kvs:List (Key×V)} {g:TG} {tb:TS} {D:Sc8} {σ} {H} (Pv:Nat->St->Hp->Prop) (h0:Pv 0 σ H) (hl:∀i σ H,i<=kvs.length->Pv i σ H->H a=some (.frz o (.dK kvs)))
  (hs:∀i k x σ H T,kvs[i]?=some (k,x)->Pv i σ H->H T=none->g (.ref T) σ (upd H T (.tup [kV k,x])) λσ2 H2=>tb {D with nx:=Pv (i+1),ct:=Pv (i+1),bk:=D.nx} σ2 H2) (hd:∀σ H,Pv kvs.length σ H->D.nx σ H):
  ∃W:Nat->Nat->St->Hp->Prop,(∃m,W 0 m σ H)/\∀i m σ H,W i m σ H->
   ((Iti a o kvs).stop i H/\D.nx σ H)\/((Iti a o kvs).go i H/\∃N:St->Hp->Prop,(∀σ' H',N σ' H'->∃m',m' < m/\W (i+1) m' σ' H')/\∀x H',(Iti a o kvs).yld i H x H'->g x σ H' λσ2 H2=>tb {D with nx:=N,ct:=N,bk:=D.nx} σ2 H2):=by
 refine ⟨λi m σ H=>m=kvs.length - i/\i<=kvs.length/\Pv i σ H,⟨kvs.length,by simp,yal _,h0⟩,?_⟩;rintro i m σ H ⟨rfl,hi,p⟩;have q:=hl i σ H hi p;by_cases hlt:i < kvs.length
 ·refine .inr ⟨⟨q,hlt⟩,Pv (i+1),λσ' H' p'=>⟨kvs.length - (i+1),by omega,rfl,hlt,p'⟩,λx H' y=>?_⟩;obtain ⟨T,k,u,hT,rfl,y,rfl⟩:=y;exact hs i k u σ _ T y p hT
 ·have e:i=kvs.length:=by omega
  subst e;exact .inl ⟨⟨q,yg _⟩,hd σ H p⟩
end
theorem Jua:bootBuiltins "repr" =some (.builtin "repr"):=by decide +kernel
structure Rp (d:PyData) (b t:Nat):Prop where
 sh:d.showable=true
 lv:d.leavesShort 1921=true
 bk:d.bulk<=b
 dp:d.depth<=t
theorem Rp.mono {d:PyData} {b t b' t':Nat} (h:Rp d b t) (hb:b<=b') (ht:t<=t'):Rp d b' t':=⟨h.sh,h.lv,yai h.bk hb,yai h.dp ht⟩
theorem Rp.int {i:Int} (h:i.natAbs.log2 < 1920):Rp (.int i) 0 0:=
 ⟨by simp only [PyData.showable];exact decide_eq_true h,by simp only [PyData.leavesShort,PyData.shown];exact decide_eq_true (int_text_len_1921 h),by simp [PyData.bulk],by simp [PyData.depth]⟩
theorem Rp.non:Rp .none 0 0:=⟨by simp [PyData.showable],by simp [PyData.leavesShort],by simp [PyData.bulk],by simp [PyData.depth]⟩
theorem Rp.bl (b:Bool):Rp (.bool b) 0 0:=⟨by simp [PyData.showable],by simp [PyData.leavesShort],by simp [PyData.bulk],by simp [PyData.depth]⟩
theorem Rp.str {z:Str} (h:z.cps.toList.all (λc=>decide (c < 16^8))=true):Rp (.str z) z.cps.size 0:=⟨by simp [PyData.showable],by simp only [PyData.leavesShort];exact h,by simp [PyData.bulk],by simp [PyData.depth]⟩
theorem Ye7 {b t:Nat}:∀{ds:List PyData},(∀d∈ds,Rp d b t)->PyData.showableAll ds=true/\PyData.leavesShortAll 1921 ds=true/\PyData.bulkAll ds<=(b+1)*ds.length/\PyData.depthAll ds<=t:=by
 intro ds
 induction ds with
 |nil=>exact λ_=>⟨by simp [PyData.showableAll],by simp [PyData.leavesShortAll],by simp [PyData.bulkAll],by simp [PyData.depthAll]⟩
 |cons d ds ih=>
  intro h;obtain ⟨i1,i2,i3,i4⟩:=ih λx hx=>h x (yz _ hx);have q:=h d yab;refine ⟨by simp [PyData.showableAll,q.sh,i1],by simp [PyData.leavesShortAll,q.lv,i2],?_,?_⟩
  ·simp only [PyData.bulkAll,yag];have:=q.bk;rw [Nat.mul_succ];omega
  ·simp only [PyData.depthAll];have:=q.dp;omega
theorem Rp.tup {b t:Nat} {ds:List PyData} (h:∀d∈ds,Rp d b t):Rp (.tuple ds) ((b+1)*ds.length) (t+1):=by
 obtain ⟨i1,i2,i3,i4⟩:=Ye7 h;exact ⟨by simp only [PyData.showable];exact i1,by simp only [PyData.leavesShort];exact i2,by simp only [PyData.bulk];exact i3,by simp only [PyData.depth];omega⟩
theorem Rp.lst {b t:Nat} {ds:List PyData} (h:∀d∈ds,Rp d b t):Rp (.list ds) ((b+1)*ds.length) (t+1):=by
 obtain ⟨i1,i2,i3,i4⟩:=Ye7 h;exact ⟨by simp only [PyData.showable];exact i1,by simp only [PyData.leavesShort];exact i2,by simp only [PyData.bulk];exact i3,by simp only [PyData.depth];omega⟩
theorem Rp.fit {d:PyData} {b t:Nat} (h:Rp d b t) (hb:b<=8000):d.shown.length<=S9:=by
 have q:=PyData.shown_le_bulk 1921 (by decide) d h.lv;have:=h.bk;rw [sizeLine_eq];omega
mutual
theorem Sc7.nod {K:Sg} {H:Hp}:∀{x} {d},Sc7 K H x d->d.hasDict=false
 |_,_,.non=>by simp [PyData.hasDict]
 |_,_,.bl b=>by simp [PyData.hasDict]
 |_,_,.int i=>by simp [PyData.hasDict]
 |_,_,.str z=>by simp [PyData.hasDict]
 |_,_,.lst hq hd=>by simp only [PyData.hasDict];exact Sb7.nod hd
 |_,_,.tup hq hd=>by simp only [PyData.hasDict];exact Sb7.nod hd
theorem Sb7.nod {K:Sg} {H:Hp}:∀{xs:List V} {ds:List PyData},Sb7 K H xs ds->PyData.hasDictAll ds=false
 |_,_,.nil=>by simp [PyData.hasDictAll]
 |_,_,.cons h t=>by simp only [PyData.hasDictAll,Sc7.nod h,Sb7.nod t,Bool.or_self]
end
section
variable {X:Cx}
end
noncomputable def OnD (D:S4) (H H':Hp):Prop:=∀q o,(q≠D\/∀xs,o≠ .lst xs)->H q=some o->H' q=some o
noncomputable def MnD {α:Type} (D:S4) (Rel:Hp->V->α->Prop):Prop:=∀H H' v a,OnD D H H'->Rel H v a->Rel H' v a
noncomputable def Sag {α:Type} (Rel:Hp->V->α->Prop) (H:Hp) (vs:List V) (as:List α):Prop:=vs.length=as.length/\∀(i:Nat) (v:V) (a:α),vs[i]?=some v->as[i]?=some a->Rel H v a
theorem OnD.same {D:S4} {H H':Hp} (s:Sl H H'):OnD D H H':=λq o _ e=>s q o e
theorem OnD.grow {D:S4} {H:Hp} {ys zs:List V} (h:H D=some (.lst ys)):OnD D H (upd H D (.lst zs)):=λq o c e=>by
 have n:q≠D:=by
  rcases c with c|c
  ·exact c
  ·exact λz=>by
    rw [z,h] at e;exact c _ (yac.inj e).symm
 rw [Sx n];exact e
theorem Sag.on {α:Type} {D:S4} {Rel:Hp->V->α->Prop} {H H':Hp} {vs:List V} {as:List α} (mn:MnD D Rel) (f:OnD D H H') (h:Sag Rel H vs as):Sag Rel H' vs as:=⟨h.1,λi v a e1 e2=>mn _ _ _ _ f (h.2 i v a e1 e2)⟩
theorem Sag.snoc {α:Type} {Rel:Hp->V->α->Prop} {H:Hp} {vs:List V} {as:List α} {v:V} {a:α} (h:Sag Rel H vs as) (k:Rel H v a):Sag Rel H (vs++ [v]) (as++ [a]):=by
 refine ⟨by rw [yad,yad,h.1];rfl,λi x b e1 e2=>?_⟩;have l:=h.1;rw [ycp] at e1 e2;by_cases c:i < vs.length
 ·rw [if_pos c] at e1;rw [if_pos (by omega)] at e2;exact h.2 i x b e1 e2
 ·rw [if_neg c] at e1;rw [if_neg (by omega),<-l] at e2;cases ei:i - vs.length with
  |zero=>
   rw [ei] at e1 e2;cases e1;cases e2;exact k
  |succ j=>
   rw [ei] at e1;simp at e1
theorem Sag.nil {α:Type} {Rel:Hp->V->α->Prop} {H:Hp}:Sag Rel H [] []:=⟨rfl,λi v a e=>by simp at e⟩
theorem Sag.at {α:Type} {Rel:Hp->V->α->Prop} {H:Hp} {vs:List V} {as:List α} {i:Nat} {v:V} (h:Sag Rel H vs as) (e:vs[i]?=some v):∃a,as[i]?=some a/\Rel H v a:=by
 have hi:i < vs.length:=(yi.mp e).1;have l:=h.1;exact ⟨as[i],yh _,h.2 i v _ e (yh (by omega))⟩
theorem Sag.imp {α:Type} {Rel Rel':Hp->V->α->Prop} {H H':Hp} {vs:List V} {as:List α} (f:∀v a,Rel H v a->Rel' H' v a) (h:Sag Rel H vs as):Sag Rel' H' vs as:=⟨h.1,λi v a e1 e2=>f v a (h.2 i v a e1 e2)⟩
theorem Sag.append {α:Type} {Rel:Hp->V->α->Prop} {H:Hp} {vs us:List V} {as bs:List α} (h:Sag Rel H vs as) (k:Sag Rel H us bs):Sag Rel H (vs++us) (as++bs):=by
 refine ⟨by rw [yad,yad,h.1,k.1],λi v r e1 e2=>?_⟩;have l:=h.1;rw [ycp] at e1 e2;by_cases c:i < vs.length
 ·rw [if_pos c] at e1;rw [if_pos (by omega)] at e2;exact h.2 i v r e1 e2
 ·rw [if_neg c] at e1;rw [if_neg (by omega),<-l] at e2;exact k.2 _ v r e1 e2
theorem Sag.one {α:Type} {Rel:Hp->V->α->Prop} {H:Hp} {v:V} {a:α} (k:Rel H v a):Sag Rel H [v] [a]:=Sag.snoc .nil k
theorem Joi {α:Type} {Pr:α->Prop}:∀y∈([]:List α),Pr y:=λ_ h=>nomatch h
theorem all_cons {α:Type} {Pr:α->Prop} {a:α} {l:List α} (h:Pr a) (k:∀y∈l,Pr y):∀y∈a::l,Pr y:=λy hy=>by
 rcases yq.mp hy with e|m
 ·rw [e];exact h
 ·exact k y m
section
variable {α:Type} {K:Sg} {a D:S4} {xs:List V} {te:TE} {R:Hp->Prop} {H:Hp} {o:Option V} {rest:St}
theorem Sku {Rel:Hp->V->α->Prop} {as:List α} {i:Nat} {y:α} {vs:List V} {v:V} {H' H5:Hp} (mn:MnD D Rel) (hD:H D=none) (ey:as[i]?=some y) (hDs:H' D=some (.lst vs)) (rg:Sag Rel H' vs (as.take i)) (sm:Sl H H') (s5:Sl H' H5) (r:Rel H5 v y):
  upd H5 D (.lst (vs++ [v])) D=some (.lst (vs++ [v]))/\Sag Rel (upd H5 D (.lst (vs++ [v]))) (vs++ [v]) (as.take (i+1))/\Sl H (upd H5 D (.lst (vs++ [v]))):=by
 refine ⟨Sr,?_,λc u z=>?_⟩
 ·rw [yaa,ey];have f:=OnD.grow (zs:=vs++ [v]) (s5 _ _ hDs);exact Sag.on mn f (Sag.snoc (rg.on mn (OnD.same s5)) r)
 ·rw [Sx (Jm2 z hD)];exact s5 _ _ (sm _ _ z)
theorem Jop (Rel:Hp->V->α->Prop) (as:List α) (mn:MnD D Rel) (hD:H D=none) (el:as.length=xs.length) (sz:xs.length<=2000) (hq:H a=some (.lst xs))
  (he:∀(i:Nat) x y H' Q,xs[i]?=some x->as[i]?=some y->Sl H H'->(∃vs,H' D=some (.lst vs))->(∀v H5,Sl H' H5->Rel H5 v y->Q v H5)->te (some x::rest) H' Q)
  (hd:∀vs H',Sl H H'->H' D=some (.lst vs)->Sag Rel H' vs as->R H'):
  ∃W:Nat->Nat->St->Hp->Prop,(∃m,W 0 m (o::rest) (upd H D (.lst [])))/\∀i m σ' H',W i m σ' H'->((Itl K a).stop i H'/\R H')\/((Itl K a).go i H'/\∃N:St->Hp->Prop,(∀σ2 H2,N σ2 H2->∃m',m' < m/\W (i+1) m' σ2 H2)/\
   ∀x H2,(Itl K a).yld i H' x H2->Jot 0 x σ' H2 λσ3 H3=>Jys σ3 H3 λb H4=>if b=true then te σ3 H4 (λv H5=>∃ys,H5 D=some (.lst ys)/\ys.length < S9/\N σ3 (upd H5 D (.lst (ys++ [v])))) else N σ3 H4):=by
 refine Jni (λi σ H'=>(∃o,σ=o::rest)/\∃vs,H' D=some (.lst vs)/\Sag Rel H' vs (as.take i)/\Sl H H') ⟨⟨_,rfl⟩,[],Sr,.nil,Sl.upd hD⟩ (λi σ H' _ ⟨_,_,_,_,sm⟩=>Sz.of (sm _ _ hq)) ?_ ?_
 ·rintro i x σ H' hx ⟨⟨o,rfl⟩,vs,hDs,rg,sm⟩;have hi:i < as.length:=by rw [el];exact (yi.mp hx).1
  have l:=rg.1;rw [yaf] at l;exact Jna (he i x as[i] H' _ hx (yh hi) sm ⟨_,hDs⟩ λv H5 s5 r=>⟨_,s5 _ _ hDs,Jmo (by omega),⟨_,rfl⟩,_,Sku mn hD (yh hi) hDs rg sm s5 r⟩)
 ·rintro σ H' ⟨_,vs,hDs,rg,sm⟩;rw [yah (by omega)] at rg;exact hd vs H' sm hDs rg
theorem Jqx {lo:Int} {n:Nat} (Rel:Hp->V->α->Prop) (as:List α) (mn:MnD D Rel) (hD:H D=none) (el:as.length=n) (sz:n<=2000)
  (he:∀(i:Nat) y H' Q,as[i]?=some y->Sl H H'->(∃vs,H' D=some (.lst vs))->(∀v H5,Sl H' H5->Rel H5 v y->Q v H5)->te (some (.int (lo+i))::rest) H' Q)
  (hd:∀vs H',Sl H H'->H' D=some (.lst vs)->Sag Rel H' vs as->R H'):
  ∃W:Nat->Nat->St->Hp->Prop,(∃m,W 0 m (o::rest) (upd H D (.lst [])))/\∀i m σ' H',W i m σ' H'->((Itr lo n).stop i H'/\R H')\/((Itr lo n).go i H'/\∃N:St->Hp->Prop,(∀σ2 H2,N σ2 H2->∃m',m' < m/\W (i+1) m' σ2 H2)/\
   ∀x H2,(Itr lo n).yld i H' x H2->Jot 0 x σ' H2 λσ3 H3=>Jys σ3 H3 λb H4=>if b=true then te σ3 H4 (λv H5=>∃ys,H5 D=some (.lst ys)/\ys.length < S9/\N σ3 (upd H5 D (.lst (ys++ [v])))) else N σ3 H4):=by
 refine Jrk (λi σ H'=>(∃o,σ=o::rest)/\∃vs,H' D=some (.lst vs)/\Sag Rel H' vs (as.take i)/\Sl H H') ⟨⟨_,rfl⟩,[],Sr,.nil,Sl.upd hD⟩ ?_ ?_
 ·rintro i σ H' hx ⟨⟨o,rfl⟩,vs,hDs,rg,sm⟩;have hi:i < as.length:=by omega
  have l:=rg.1;rw [yaf] at l;exact Jna (he i as[i] H' _ (yh hi) sm ⟨_,hDs⟩ λv H5 s5 r=>⟨_,s5 _ _ hDs,Jmo (by omega),⟨_,rfl⟩,_,Sku mn hD (yh hi) hDs rg sm s5 r⟩)
 ·rintro σ H' ⟨_,vs,hDs,rg,sm⟩;rw [yah (by omega)] at rg;exact hd vs H' sm hDs rg
theorem Jwv {tt:TT} (Rel:Hp->V->α->Prop) (as:List α) (pr:α->Bool) (mn:MnD D Rel) (hD:H D=none) (rg:Sag Rel H xs as) (sz:xs.length<=2000) (hq:H a=some (.lst xs))
  (ht:∀(i:Nat) x y H' (Q:Bool->Hp->Prop),as[i]?=some y->Rel H' x y->Q (pr y) H'->tt (some x::rest) H' Q)
  (hd:∀vs H',Sl H H'->H' D=some (.lst vs)->Sag Rel H' vs (as.filter pr)->R H'):
  ∃W:Nat->Nat->St->Hp->Prop,(∃m,W 0 m (o::rest) (upd H D (.lst [])))/\∀i m σ' H',W i m σ' H'->((Itl K a).stop i H'/\R H')\/((Itl K a).go i H'/\∃N:St->Hp->Prop,(∀σ2 H2,N σ2 H2->∃m',m' < m/\W (i+1) m' σ2 H2)/\
   ∀x H2,(Itl K a).yld i H' x H2->Jot 0 x σ' H2 λσ3 H3=>tt σ3 H3 λb H4=>if b=true then Sk4 0 σ3 H4 (λv H5=>∃ys,H5 D=some (.lst ys)/\ys.length < S9/\N σ3 (upd H5 D (.lst (ys++ [v])))) else N σ3 H4):=by
 refine Jni (λi σ H'=>(∃o,σ=o::rest)/\∃vs,H' D=some (.lst vs)/\vs.length<=i/\Sag Rel H' vs ((as.take i).filter pr)/\Sl H H') ⟨⟨_,rfl⟩,[],Sr,yg 0,.nil,Sl.upd hD⟩ (λi σ H' _ ⟨_,_,_,_,_,sm⟩=>Sz.of (sm _ _ hq)) ?_ ?_
 ·rintro i x σ H' hx ⟨⟨o,rfl⟩,vs,hDs,vl,r,sm⟩;have hi:=(yi.mp hx).1;obtain ⟨y,ey,ry⟩:=rg.at hx;have ry':=mn _ _ _ _ (OnD.same sm) ry;rw [yaa,ey,List.filter_append];refine ht i x y H' _ ey ry' ?_;cases c:pr y with
  |true=>
   have f:=OnD.grow (zs:=vs++ [x]) hDs;refine Jo2 ⟨x,rfl,vs,hDs,Jmo (by omega),⟨_,rfl⟩,vs++ [x],Sr,by rw [yad];exact Nat.succ_le_succ vl,?_,λb u e=>?_⟩
   ·rw [show List.filter pr (some y).toList= [y] from by simp [c]];exact Sag.on mn f (r.snoc ry')
   ·rw [Sx (Jm2 e hD)];exact sm _ _ e
  |false=>
   refine Jn9 ⟨⟨_,rfl⟩,vs,hDs,by omega,?_,sm⟩;rw [show List.filter pr (some y).toList= [] from by simp [c],yba];exact r
 ·rintro σ H' ⟨_,vs,hDs,vl,r,sm⟩;have l:=rg.1;rw [yah (by omega)] at r;exact hd vs H' sm hDs r
theorem Jsz {lo:Int} {n:Nat} (ys:List V) (hD:H D=none) (el:ys.length=n) (sz:n<=2000)
  (he:∀(i:Nat) y H' Q,ys[i]?=some y->Sl H H'->(∀H5,Sl H' H5->Q y H5)->te (some (.int (lo+i))::rest) H' Q)
  (hd:∀H',Sl H H'->H' D=some (.lst ys)->R H'):
  ∃W:Nat->Nat->St->Hp->Prop,(∃m,W 0 m (o::rest) (upd H D (.lst [])))/\∀i m σ' H',W i m σ' H'->((Itr lo n).stop i H'/\R H')\/((Itr lo n).go i H'/\∃N:St->Hp->Prop,(∀σ2 H2,N σ2 H2->∃m',m' < m/\W (i+1) m' σ2 H2)/\
   ∀x H2,(Itr lo n).yld i H' x H2->Jot 0 x σ' H2 λσ3 H3=>Jys σ3 H3 λb H4=>if b=true then te σ3 H4 (λv H5=>∃ys,H5 D=some (.lst ys)/\ys.length < S9/\N σ3 (upd H5 D (.lst (ys++ [v])))) else N σ3 H4):=by
 refine Jqx (λ_ v y=>v=y) ys (λ_ _ _ _ _ h=>h) hD el sz (λi y H' Q e s _ k=>he i y H' Q e s λH5 s5=>k y H5 s5 rfl) λvs H' s h r=>hd H' s ?_;have e:vs=ys:=List.ext_getElem? λi=>by
  by_cases c:i < vs.length
  ·have c':i < ys.length:=by rw [<-r.1];exact c
   rw [yh c,yh c',r.2 i _ _ (yh c) (yh c')]
  ·rw [ycx (by omega),ycx (by have:=r.1;omega)]
 rw [<-e];exact h
end
section
variable {X:Cx} {tg a:Expr} {p pos:Pos} {ta:TA}
end
section
variable {X:Cx} {a b:Expr} {rest:List Expr} {pos:Pos} {ta tb:TE}
end
section
variable {X:Cx} {o i value:Expr} {pos pos':Pos} {td ty tv:TE}
end
theorem Sxr {K} {fd:Sb} {ps:List Str} {ds:List S5} {D:S4} {it:Array S5} {m:Nat} {o:Obj} {n:Nat} (hn:n+ds.length=ps.length) (hdf:fd.defaults= .ref D) (hd:K.lookup D=some o) (ho:o.data= .seq it m)
  (hb:∀us,us.length=n->∃g,bindArgs fd ⟨us,[]⟩=seqItems? fd.defaults >>=g/\g (some it)=pure (ps.zip (us++ds))):Sbc K fd ps ds:=by
 intro s us X' hl;rw [yad] at hl;obtain ⟨g,h1,h2⟩:=hb us (by omega);exact BindsTo.of_defaults hdf (X' _ _ hd) ho h1 h2
noncomputable def ShA (K:Sg) (H:Hp) (x:V) (d:PyData):Prop:=Sc7 K H x d\/∃a,x= .ref a/\H a=some (.dK [])/\d= .dict []
inductive Sng (K:Sg) (xs:List V) (H:Hp) (Q:VK):Prop where
 |mk (x:V) (d:PyData) (b:Nat) (_:xs= [x]) (_:ShA K H x d) (_:Rp d b 60) (_:b<=8000) (_:Q (.str d.shown) H)
theorem Y8 {X:Cx} (hg:X.A.guards=some []) (hu:X.A.units+64 < cLine):Jnm X (.builtin "repr") (Sng X.K):=by
 rintro pins s σ H xs us Q I r ⟨x,d,b,rfl,hd,rp,hb,q⟩;obtain ⟨u,rfl,ru⟩:=Joh r;have dp:=rp.dp;have big:∀{a:S4} {as:List S4},Reads s.heap (.ref a) d as->(d.hasDict=true->sysModules∉as)->Sf (model X.prog X.w) X.A (call (.builtin "repr") [.ref a]) (EP X pins σ Q) X.xe s:=λra sm=>
  repr_of_reads' ra rp.sh sm hg (by omega) (λ_ _ e=>e) (λh' u tk k=>⟨.str _,H,I.kept k,⟨_,rfl⟩,q⟩) (rp.fit hb)
 rcases hd with h|⟨a,rfl,ha,rfl⟩
 ·have hn:=h.nod;have sh:=rp.sh;have ft:=rp.fit hb;obtain ⟨as,ra⟩:=h.reads I ru;cases h with
  |non=>
   cases ru;exact P.repr_of_none ⟨.str _,H,I.tok _,⟨_,rfl⟩,by simpa only [PyData.shown] using q⟩
  |bl c=>
   cases ru;exact P.repr_of_bool ⟨.str _,H,I.tok _,⟨_,rfl⟩,by simpa only [PyData.shown] using q⟩
  |int i=>
   obtain ⟨t,rfl⟩:=ru;exact P.repr_of_int (by simpa [PyData.showable] using sh) ⟨.str _,H,I.tok _,⟨_,rfl⟩,by simpa only [PyData.shown] using q⟩
  |str z=>
   obtain ⟨t,rfl⟩:=ru;exact P.repr_of_str ⟨.str _,H,I.tok _,⟨_,rfl⟩,by simpa only [PyData.shown] using q⟩ (by simpa only [PyData.shown] using ft)
  |lst hq hd=>
   cases ru;exact big ra (PyData.noDict_hsm hn)
  |tup hq hd=>
   cases ru;exact big ra (PyData.noDict_hsm hn)
 ·cases ru;obtain ⟨_,hd,vs,rvs,dd⟩:=Juw I.hok ha;obtain rfl:vs= []:=by cases rvs;rfl
  obtain ⟨od,es,ep,g1,g2,g3,g4,g5,_⟩:=dd;have he:es.toList= []:=by
   cases h:es.toList with
   |nil=>rfl
   |cons x l=>rw [h] at g5;cases g5
  have rd:Reads s.heap (.ref a) (.dict []) ([a]++ []):=Reads.dict (kvs:=[]) (as:=[]) (bs:=[]) g1 g2.1 g3 (by rw [he];exact .nil) (by rw [he];exact .nil);refine big rd λ_ hm=>?_;have hm':sysModules∈ [a]:=hm;rw [yam.mp hm'] at hd;simp at hd
noncomputable def Scl (h:Se) (d:S4) (es:Array DictEntry) (ep:Nat):Prop:=∃o,h.get? d=some o/\o.ExactDict/\o.data= .dict es ep
section
variable {prog:Sa} {w:Sc} {A:Sd} {E:S5->S6->Prop} {s:S6} {it d:S4} {i ep:Nat} {es:Array DictEntry} {ok ov:S5}
theorem Scl.typeIs (r:Scl s.heap d es ep):s.TypeIs (.ref d) "dict" :=by
 obtain ⟨o,h1,h2,_⟩:=r;exact ⟨o,h1,h2.1⟩
theorem Yc7 (hd:(d==sysModules)=false):MeetsIn prog w (Builtin.«dict.items» ⟨[.ref d],[]⟩) (λ_ R s=>s.TypeIs (.ref d) "dict" /\R (.ok (.ret (.ref s.heap.objs.size))) {s with heap:=s.heap.push {cls:=.type "dict_items",data:=.fields #[.ref d]}}):=
 .of_wp λA R s z=>by
  unfold Builtin.«dict.items» Builtin.Dict.noArgs;refine S7 (S7 (wpAny_notOrdered_dict z.1 (S8 ?_)));unfold Builtin.Dict.showsAll;rw [if_neg (by rw [hd];decide)];exact S7 (S8 (S7 (wpAny_newObj_type (S8 ⟨_,rfl,z.2⟩))))
theorem Ye2 {v:S4} {Q:S5->S6->Prop} (hv:s.heap.IsItemsView v d) (r:Scl s.heap d es ep)
  (q:Q (.ref s.heap.objs.size) {s with heap:=s.heap.push {cls:=.type "dict_itemiterator",data:=.fields #[.none,.bool false,.ref d,.int 0 0,.int es.size 0,.int ep 0,.none,.none]}}):Sf (model prog w) A (pyIter (.ref v)) Q E s:=by
 have ty:=hv.typeIs;obtain ⟨ow,h1,h2,h3⟩:=hv;obtain ⟨o,h4,h5,h6⟩:=r;refine wpAny_pyIter_slot ty F.slot_dict_items_iter (wpAny_call_entry F.slot_dict_items_iter ty F.entry_dict_items_iter ?_ (F.args_dict_items_iter_1 _));unfold Builtin.«dict_items.__iter__» Builtin.Dict_items.dictOf Builtin.Dict_items.newIterator;refine S7 (S8 (S7 (S7 (wpAny_field h1 h3 (x:=.ref d) rfl (S8 (S7 (S7 (wpAny_dictEntries h4 h6 (S7 (wpAny_dictEpoch h4 h6 ?_))))))))));have e:Builtin.Dict_items.ownsTuple "dict_itemiterator" =true:=by decide
 simp only [e,if_true];refine wpAny_newObj_type (S8 ⟨_,rfl,"dict_itemiterator",_,⟨_,yt _ rfl,rfl⟩,F.slot_dict_itemiterator_next.lookup,?_⟩) (by simp only [sizeOk,Builtin.Dict_items.ownedTupleFields,yw,yad,yag,List.length_nil,sizeLine_eq];omega);simpa [rawInt,Builtin.Dict_items.ownedTupleFields] using q
theorem Yg8 {Q:Option S5->S6->Prop} (hh:A.handled=none) (st:IsItemIter s.heap it d i es.size ep ok ov) (r:Scl s.heap d es ep) (hi:es.size<=i) (q:∀h',Heap.ExtBut it s.heap h'->Q none {s with heap:=h'}):Sf (model prog w) A (pyNext (.ref it)) Q E s:=by
 have ty:s.TypeIs (.ref it) "dict_itemiterator" :=⟨_,st,rfl⟩;obtain ⟨o,h4,h5,h6⟩:=r;unfold pyNext;refine S7 (wpAny_attempt (wpAny_callSpecial?_slot (name:=Str.ofString "__next__") ty F.slot_dict_itemiterator_next (wpAny_call_entry F.slot_dict_itemiterator_next ty F.entry_dict_itemiterator_next (S7 (S8 (S7 (S7 ?_)))) (F.args_dict_itemiterator_next_1 _))))
 first|refine S7 (wpAny_typeNameOfWhole_itemiter ty (S8 (S7 (wpAny_fieldsOf st rfl ?_))))|refine S7 (wpAny_typeNameOf_itemiter ty (S8 (S7 (wpAny_fieldsOf st rfl ?_))))
 have e:Builtin.Dict_items.ownsTuple "dict_itemiterator" =true:=by decide
 simp only [e,if_true];show Sf _ _ (if (Value.ref d==Value.none)=true then _ else _) _ _ s;rw [if_neg (λz=>Bool.noConfusion z)];refine S7 (S8 (S7 (wpAny_dictEntries h4 h6 ?_)));rw [if_neg (by simp)];refine S7 (S8 (S7 (wpAny_dictEpoch h4 h6 ?_)));rw [if_neg (by simp)];refine S8 ?_;simp only [show ¬((i:Int) < 0) by omega,if_false,yav,Array.getElem?_eq_none hi]
 first|refine S7 (S7 (wpAny_typeNameOfWhole_itemiter ty (S8 ?_)))|refine S7 (S7 (wpAny_typeNameOf_itemiter ty (S8 ?_)))
 show Sf _ _ (setField (.ref it) 2 .none >>=λ_=>newExc (.type "StopIteration") [] >>=_) _ _ s;refine S7 (wpAny_setField st rfl (by simp) (S7 ?_));simp only [newExc,newTuple];refine S7 (wpAny_newObj_type (S7 (m:=firstArgMember _ _) (wpAny_of_eq (a:=Value.none) (by simp only [firstArgMember];rfl) (wpAny_newObj_type ?_ (by size_fits)))) (by size_fits));simp only [raiseNew];refine S7 (wpAny_handled ?_);rw [show A.in1.handled=none from hh];refine S7 (S8 (wpAny_throw ?_));exact S7 (wpAny_isInstance (T:="StopIteration") (b:=true) ⟨_,yt _ rfl,rfl⟩ isSubtype_stop (S8 (q _ (((yay.update ..).extBut.push _).push _))))
theorem Ye1 {e:DictEntry} {Q:Option S5->S6->Prop} (st:IsItemIter s.heap it d i es.size ep ok ov) (r:Scl s.heap d es ep) (hx:es[i]?=some e)
  (q:∀h',IsItemIterOut h' it d (i+1) es.size ep e.key e.val s.heap.objs.size->h'.get? s.heap.objs.size=some {cls:=.type "tuple",data:=.seq #[e.key,e.val]}->
   (∀b o,b≠it->s.heap.get? b=some o->h'.get? b=some o)->Q (some (.ref s.heap.objs.size)) {s with heap:=h'}):Sf (model prog w) A (pyNext (.ref it)) Q E s:=by
 have ty:s.TypeIs (.ref it) "dict_itemiterator" :=⟨_,st,rfl⟩;have il:=yj st;obtain ⟨o,h4,h5,h6⟩:=r;unfold pyNext;refine S7 (wpAny_attempt (wpAny_callSpecial?_slot (name:=Str.ofString "__next__") ty F.slot_dict_itemiterator_next (wpAny_call_entry F.slot_dict_itemiterator_next ty F.entry_dict_itemiterator_next (S7 (S8 (S7 (S7 ?_)))) (F.args_dict_itemiterator_next_1 _))))
 first|refine S7 (wpAny_typeNameOfWhole_itemiter ty (S8 (S7 (wpAny_fieldsOf st rfl ?_))))|refine S7 (wpAny_typeNameOf_itemiter ty (S8 (S7 (wpAny_fieldsOf st rfl ?_))))
 have eo:Builtin.Dict_items.ownsTuple "dict_itemiterator" =true:=by decide
 simp only [eo,if_true];show Sf _ _ (if (Value.ref d==Value.none)=true then _ else _) _ _ s;rw [if_neg (λz=>Bool.noConfusion z)];refine S7 (S8 (S7 (wpAny_dictEntries h4 h6 ?_)));rw [if_neg (by simp)];refine S7 (S8 (S7 (wpAny_dictEpoch h4 h6 ?_)));rw [if_neg (by simp)];refine S8 ?_;simp only [show ¬((i:Int) < 0) by omega,if_false,yav,hx]
 first|refine S7 (S7 (wpAny_typeNameOfWhole_itemiter ty (S8 (S7 (wpAny_isOneOf_itemiter ty ?_)))))|refine S7 (S7 (wpAny_typeNameOf_itemiter ty (S8 (S7 (wpAny_isOneOf_itemiter ty ?_)))))
 show Sf _ _ (setField (.ref it) 3 (rawInt ((i:Int)+1)) >>=_) _ _ s;refine S7 (wpAny_setField_rec st (by simp) λg1 i1 k1=>?_);have k1':yay it s.heap g1:=k1;have e1:((i+1:Nat):Int)=(i:Int)+1:=by omega
 have j1:IsItemIter g1 it d (i+1) es.size ep ok ov:=by unfold IsItemIter;rw [e1];simpa [rawInt] using i1
 have t1:Shared.TypeIs {s with heap:=g1} (.ref it) "dict_itemiterator" :=⟨_,j1,rfl⟩;refine S7 (wpAny_holding (S7 (wpAny_isOneOf_itemiter t1 (S7 (wpAny_isOneOf_itemiter t1 ?_)))));show Sf _ _ (Builtin.Dict_items.pairFromOwner (.ref it) 6 e.key e.val) _ _ _;unfold Builtin.Dict_items.pairFromOwner Builtin.Dict_items.ownedTupleIsFree;refine S7 (wpAny_newTuple ?_);have j2:IsItemIter (g1.push {cls:=.type "tuple",data:=.seq #[e.key,e.val]}) it d (i+1) es.size ep ok ov:=yn _ j1;have z1:g1.objs.size=s.heap.objs.size:=k1'.1;have n2:(g1.push {cls:=.type "tuple",data:=.seq #[e.key,e.val]}).get? s.heap.objs.size=some {cls:=.type "tuple",data:=.seq #[e.key,e.val]}:=by rw [<-z1];exact yt _ rfl
 have k2:∀b o,b≠it->s.heap.get? b=some o->(g1.push {cls:=.type "tuple",data:=.seq #[e.key,e.val]}).get? b=some o:=λb o hb z=>yn _ (k1'.extBut b o hb z);show Sf _ _ (_ >>=_) _ _ {s with heap:=g1.push {cls:=.type "tuple",data:=.seq #[e.key,e.val]}};rw [z1];generalize g1.push {cls:=.type "tuple",data:=.seq #[e.key,e.val]}=g2 at j2 n2 k2⊢;have ne:s.heap.objs.size≠it:=ybo il;refine S7 (S7 (wpAny_field j2 rfl (x:=.none) rfl (S8 ?_)));simp only [if_true];refine S7 (wpAny_field j2 rfl (x:=ok) rfl (S7 (wpAny_field j2 rfl (x:=ov) rfl (S7 (wpAny_setField_rec j2 (by simp) λg3 i3 k3=>?_)))));have j3:IsItemIter g3 it d (i+1) es.size ep e.key ov:=i3;refine S7 (wpAny_setField_rec j3 (by simp) λg4 i4 k4=>?_);have j4:IsItemIter g4 it d (i+1) es.size ep e.key e.val:=i4;refine S7 (wpAny_setField_rec j4 (by simp) λg5 i5 k5=>?_);have j5:IsItemIterOut g5 it d (i+1) es.size ep e.key e.val s.heap.objs.size:=i5;refine S7 (wpAny_setField_rec j5 (by simp) λg6 i6 k6=>?_);have up:∀b o,b≠it->g2.get? b=some o->g6.get? b=some o:=λb o hb z=>k6.extBut b o hb (k5.extBut b o hb (k4.extBut b o hb (k3.extBut b o hb z)));exact S7 (wpAny_letGo (S8 (S8 ⟨_,rfl,S8 (q g6 i6 (up _ _ ne n2) λb o hb z=>up b o hb (k2 b o hb z))⟩)))
end
noncomputable def RwD (o:Obj) (kvs:List (V×V)):Prop:=o.ExactDict/\∃es ep,o.data= .dict es ep/\Paired (λ(p:V×V) (e:DictEntry)=>Sw p.1 e.key/\Sw p.2 e.val) kvs es.toList
noncomputable def FzD (H:Hp) (a:S4) (o:Obj) (kvs:List (V×V)):Prop:=∃u,H a=some (.frz o u)/\((RwD o kvs/\(a==sysModules)=false)\/∃l:List (Key×V),u= .dK l/\kvs=l.map λp=>(kV p.1,p.2))
theorem Sne {α β:Type} {F:α->β->Prop} {l:List α} {m:List β} (r:Paired F l m):∀{i:Nat} {x:α},l[i]?=some x->∃y,m[i]?=some y/\F x y:=by
 induction r with
 |nil=>intro i x e;simp at e
 |cons h _ ih=>
  intro i x e;cases i with
  |zero=>cases e;exact ⟨_,rfl,h⟩
  |succ i=>exact ih e
theorem Jr1 {P:Sa} {w:Sc} {l:List (Key×V)} {vs:List (Key×S5)} (rel:KV l vs):∀{el:List DictEntry},Pairs (Jmj P w) el vs->Paired (λ(p:V×V) (e:DictEntry)=>Sw p.1 e.key/\Sw p.2 e.val) (l.map λp=>(kV p.1,p.2)) el:=by
 induction rel with
 |nil=>intro el pr;cases pr;exact .nil
 | @cons p q l1 l2 h t ih=>
  intro el pr;cases pr with
  |cons i1 i2 i3=>
   refine .cons ⟨?_,?_⟩ (ih i3)
   ·show Sw (kV p.1) _;rw [h.1];exact Ye4 i1
   ·rw [i2];exact h.2
section
variable {X:Cx} {pins:List (S4×Obj)} {σ:St} {H:Hp} {s:S6} {a:S4} {o:Obj} {kvs:List (V×V)}
theorem Juz (I:Ss X pins σ H s) (h:FzD H a o kvs):(a==sysModules)=false/\∃es ep,o.data= .dict es ep/\Scl s.heap a es ep/\Paired (λ(p:V×V) (e:DictEntry)=>Sw p.1 e.key/\Sw p.2 e.val) kvs es.toList:=by
 obtain ⟨u,hu,⟨⟨x,es,ep,d,r⟩,n⟩|⟨l,rfl,rfl⟩⟩:=h
 ·obtain ⟨e1,_⟩:=I.hok a _ hu;exact ⟨n,es,ep,d,⟨o,e1,x,d⟩,r⟩
 ·obtain ⟨e1,z,hd,vs,rel,o',es,ep,e2,x,d,kk,pr,nd⟩:=I.hok a _ hu;rw [e1] at e2;cases e2;exact ⟨hd,es,ep,d,⟨o,e1,x,d⟩,Jr1 rel pr⟩
theorem Smq (I:Ss X pins σ H s) (h:FzD H a o kvs):s.TypeIs (.ref a) "dict" /\∀b,Value.ref a= .ref b->∃ob,s.heap.get? b=some ob/\ob.dict=none:=by
 obtain ⟨_,es,ep,_,r,_⟩:=Juz I h;refine ⟨r.typeIs,λb q=>?_⟩;cases q;obtain ⟨ob,h1,h2,_⟩:=r;exact ⟨ob,h1,h2.2.1⟩
end
noncomputable def ItR (a:S4) (o:Obj) (kvs:List (V×V)):It:=
 ⟨λi H=>FzD H a o kvs/\i < kvs.length,λi H x H'=>∃T k u,H T=none/\x= .ref T/\kvs[i]?=some (k,u)/\H'=upd H T (.tup [k,u]),λi H=>FzD H a o kvs/\kvs.length<=i⟩
theorem Yey {K} {P w elts kt pt} (a it) (o) (kvs):Turn P w K (.Tuple elts kt pt) (ItR a o kvs) [it] it (ISt it a o kvs.length) where
 mem:=by simp
 obj:=λi h st b hb=>by
  have e:=by simpa using hb
  subst e;obtain ⟨es,ep,_,ok,ov,e⟩:=st;exact ⟨_,e,λv z=>by cases z⟩
 keep:=λi h h' st k=>by
  obtain ⟨es,ep,q,ok,ov,e⟩:=st;exact ⟨es,ep,q,ok,ov,k it (by simp) _ e⟩
 item:=by
  intro X hP hw hK hc i pins s σ H E I hf st hg;subst hP hw hK;obtain ⟨ea,hi⟩:=hg;obtain ⟨es,ep,ed,ok,ov,st⟩:=st;obtain ⟨_,es',ep',ed',ra,rel⟩:=Juz I ea;rw [ed] at ed';cases ed';have hl:kvs.length=es.size:=by rw [rel.length];simp
  have hx:kvs[i]?=some (kvs[i].1,kvs[i].2):=by simp [hi]
  obtain ⟨e,he,rk,rv⟩:=Sne rel hx;rw [hl] at st;refine Ye1 st ra (by rw [<-Array.getElem?_toList];exact he) λh' st' tT kk=>⟨_,rfl,wpAny_letOwnedTupleGo_items st' λh'' st'' sb=>?_⟩;have ne:s.heap.objs.size≠it:=λw'=>absurd (yj st) (by rw [<-w'];exact ybd _);refine ⟨.ref s.heap.objs.size,upd H s.heap.objs.size (.tup [kvs[i].1,kvs[i].2]),I.turnTup hf (λc o hc q=>(sb.2 c (by simpa using hc)).trans (kk c o (by simpa using hc) q)) (yg _)
   ⟨(show 2<=S9 by decide),[e.key,e.val],.cons rk (.cons rv .nil),⟨_,((sb.2 _ ne).trans tT),rfl,_,rfl⟩⟩,rfl,⟨_,_,_,I.hok.fresh (yg _),rfl,hx,rfl⟩,⟨es,ep,ed,_,_,by rw [hl];exact st''⟩,λc hc=>?_⟩
  have e:=by simpa using hc
  subst e;rw [Sx (yx ne)];exact (hf c hc).1
 done:=by
  intro X hP hw hK hc i pins s σ H E I hf st hg;subst hP hw hK;obtain ⟨ea,hi⟩:=hg;obtain ⟨es,ep,ed,ok,ov,st⟩:=st;obtain ⟨_,es',ep',ed',ra,rel⟩:=Juz I ea;rw [ed] at ed';cases ed';have hl:kvs.length=es.size:=by rw [rel.length];simp
  obtain ⟨f0,f1,f2,f3,f4,f5⟩:=hf it (by simp);rw [hl] at st;exact Yg8 (I.ok.hd hc) st ra (by omega) λh' eb=>⟨rfl,I.turned (λb o hb e=>eb b o hb e) f0 f1 f3 f4 f5⟩
 self:=λ_ _ _ _ _ st h=>let ⟨_,_,_,_,_,q⟩:=st;kcp_self q h
noncomputable def Yfg (td:TE):TI:=λσ H R=>td σ H λx H1=>∃a o kvs,x= .ref a/\FzD H1 a o kvs/\R (ItR a o kvs) H1
theorem Yc3 {X:Cx} {td:TE} {o:Expr} {pt elts} {kt} {apos cpos} (ho:PE X o td) (hbase:attributeBase o "items" X.env (eval o X.env)=eval o X.env:=by rfl) (hline:(apos.endLine==cpos.line)=true:=by rfl):
  PI X (.Tuple elts kt pt) (.Call (.Attribute o "items" apos) [] [] cpos) (Yfg td):=by
 intro pins s σ H R I h;refine wpAny_Call_method0_late hbase hline (thn (ho pins s σ H _ I h) λv s1 zq=>?_);obtain ⟨x,H1,I1,r1,q1⟩:=zq;obtain ⟨a,ob,kvs,rfl,ea,q⟩:=q1;obtain rfl:v=Value.ref a:=r1;obtain ⟨t1,t2⟩:=Smq I1 ea;refine ⟨"dict","dict.items",PySem.F.plainAttrs_dict,PySem.F.slot_dict_items,PySem.F.type_dict_items,t1,t2,Calls.callWith_builtin rfl (PySem.evalArgs_none ?_)⟩;obtain ⟨hd,es,ep,ed,ra,rel⟩:=Juz I1 ea;have hl:kvs.length=es.size:=by rw [rel.length];simp
 have ra':∀{ob:Obj},Scl (s1.heap.push ob) a es ep:=λ{ob}=>by
  obtain ⟨o,e1,e2,e3⟩:=ra;exact ⟨o,yn _ e1,e2,e3⟩
 refine call_meetsIn PySem.F.slot_dict_items t1 PySem.F.entry_dict_items (PySem.F.args_dict_items_1 _) (Yc7 hd) ⟨t1,Ye2 ⟨_,yt _ rfl,rfl,rfl⟩ ra' ?_⟩;refine ⟨_,[_],_,_,H1,rfl,I1.kept λb o e=>yn _ (yn _ e),Yey a _ ob kvs,⟨es,ep,ed,.none,.none,by rw [hl];exact yt _ rfl⟩,λb hb=>?_,q⟩;have le:s1.heap.objs.size<=b:=by
  rw [yam.mp hb];simp [Heap.push]
 exact I1.fpOk le (I1.hok.fresh le)
section
variable {g:TG} {tt:TT} {te:TE} {H:Hp} {D a:S4} {o:Obj} {σ:St} {R:Hp->Prop} {kvs:List (V×V)}
theorem Jz5 (Pv:Nat->St->Hp->Prop) (h0:Pv 0 σ H) (hl:∀i σ H,i<=kvs.length->Pv i σ H->FzD H a o kvs)
  (hs:∀i k x σ H T,kvs[i]?=some (k,x)->Pv i σ H->H T=none->g (.ref T) σ (upd H T (.tup [k,x])) λσ3 H3=>tt σ3 H3 λb H4=>if b=true then te σ3 H4 (λv H5=>∃ys,H5 D=some (.lst ys)/\ys.length < S9/\Pv (i+1) σ3 (upd H5 D (.lst (ys++ [v])))) else Pv (i+1) σ3 H4)
  (hd:∀σ H,Pv kvs.length σ H->R H):
  ∃W:Nat->Nat->St->Hp->Prop,(∃m,W 0 m σ H)/\∀i m σ' H',W i m σ' H'->((ItR a o kvs).stop i H'/\R H')\/((ItR a o kvs).go i H'/\∃N:St->Hp->Prop,(∀σ2 H2,N σ2 H2->∃m',m' < m/\W (i+1) m' σ2 H2)/\
   ∀x H2,(ItR a o kvs).yld i H' x H2->g x σ' H2 λσ3 H3=>tt σ3 H3 λb H4=>if b=true then te σ3 H4 (λv H5=>∃ys,H5 D=some (.lst ys)/\ys.length < S9/\N σ3 (upd H5 D (.lst (ys++ [v])))) else N σ3 H4):=by
 refine ⟨λi m σ H=>m=kvs.length - i/\i<=kvs.length/\Pv i σ H,⟨kvs.length,by simp,yal _,h0⟩,?_⟩;rintro i m σ H ⟨rfl,hi,p⟩;have q:=hl i σ H hi p;by_cases hlt:i < kvs.length
 ·refine .inr ⟨⟨q,hlt⟩,Pv (i+1),λσ' H' p'=>⟨kvs.length - (i+1),by omega,rfl,hlt,p'⟩,λx H' y=>?_⟩;obtain ⟨T,k,u,hT,rfl,y,rfl⟩:=y;exact hs i k u σ _ T y p hT
 ·have e:i=kvs.length:=by omega
  subst e;exact .inl ⟨⟨q,yg _⟩,hd σ H p⟩
end
section
variable {prog:Sa} {w:Sc} {A:Sd} {E:S5->S6->Prop} {s:S6} {d:S4} {ep:Nat} {es:Array DictEntry} {key v:S5} {hk:Int} {n:Nat}
theorem Ybo {Q:Option Nat->S6->Prop} (r:Scl s.heap d es ep) (hn:∀e∈es,e.hash≠hk) (ns:∀x t,key≠ .str x t) (nk:∀e∈es,e.key≠key) (q:Q none s):Sf (model prog w) A (dictFind d key hk) Q E s:=by
 obtain ⟨o,h1,h2,h3⟩:=r;have pl:placesWithHash es.size (λi=>es[i]?.map (·.hash)) hk= []:=by
  unfold placesWithHash;rw [List.filter_eq_nil_iff];intro i hi;have hi':=ybu.mp hi;show ¬(es[i]?.map (·.hash)==some hk)=true;rw [Array.getElem?_eq_getElem hi'];simpa using hn es[i] (Array.getElem_mem hi')
 unfold dictFind
 try with_reducible refine wpAny_holding ?_
 refine S7 (wpAny_dictEntries h1 h3 ?_);rw [pl];have hb:carriedByValue key=true\/∃a,key= .ref a:=by cases key <;> first|exact .inl rfl|exact .inr ⟨_,rfl⟩
 rcases hb with hb|⟨a,rfl⟩
 ·have plain:Sf (model prog w) A (dictWalkPlain d key hk es []) Q E s:=by
   unfold dictWalkPlain;rw [yco];exact S7 (S8 (S8 q))
  cases key <;> first|exact absurd rfl (ns _ _)|(cases hb;done)|(dsimp only;rw [List.filterMap_nil,if_pos (by simp [carriedByValue])];exact plain)
 ·dsimp only;rw [List.filterMap_nil,if_neg (by simp [carriedByValue]),if_neg ?_,if_neg (by simp)]
  ·refine S7 ?_;unfold tableMayTell;rw [if_pos (show ([]:List S5).isEmpty=true from rfl)];refine S8 ?_;rw [if_neg (by simp),yco];exact S7 (S8 (S8 q))
  ·rw [<-Array.any_toList,List.any_eq_true];rintro ⟨e,hin,hc⟩;rw [yan,beq_iff_eq] at hc;exact nk e (Array.mem_toList_iff.mp hin) hc.1
theorem Yg9 {Q:Unit->S6->Prop} (r:Scl s.heap d es ep) (hz:es.size<=S9) (hn:∀e∈es,e.hash≠hk) (ns:∀x t,key≠ .str x t) (nk:∀e∈es,e.key≠key)
  (hp:∀{F:S5->S6->Prop} {R:Int->S6->Prop},R hk {s with toks:=s.toks+n}->Sf (model prog w) A.in1 (pyHash key) R F s)
  (q:∀h',Scl h' d (es.push ⟨hk,key,v⟩) (ep+1)->yay d s.heap h'->Q () {s with heap:=h',toks:=s.toks+n}):Sf (model prog w) A (setItem (.ref d) key v) Q E s:=by
 have ty:=r.typeIs;unfold setItem
 try with_reducible refine wpAny_holding ?_
 refine S7 (wpAny_sequenceKey ty (by decide) (S7 (wpAny_callSpecial?_slot (name:=Str.ofString "__setitem__") ty slot_dict_setitem (wpAny_call_entry slot_dict_setitem ty entry_dict_setitem ?_ (args_dict_setitem _ _ _)))));show Sf _ _ (Builtin.Dict.notOrdered "__setitem__" ⟨[.ref d,key,v],[]⟩ >>=_) _ _ s;refine S7 (wpAny_notOrdered_dict ty ?_);show Sf _ _ (dictSet d key v >>=_) _ _ s;unfold dictSet dictSetHashed;refine S7 ?_
 try with_reducible refine wpAny_holding ?_
 refine S7 (hp ?_)
 try with_reducible refine wpAny_holding ?_
 have r':Scl {s with toks:=s.toks+n}.heap d es ep:=r;refine S7 (Ybo r' hn ns nk ?_);obtain ⟨o,h1,h2,h3⟩:=r;refine S7 (wpAny_rule (wpAny_updateDictKeys (hz:=hz) (s:={s with toks:=s.toks+n}) h1 h3 (S8 ⟨.none,rfl,S8 (q _ ⟨_,ycg _ h1 (Obj.isFreed_of_dict (Obj.data_mapDictKeys h3 _)),h2.mapDictKeys _,Obj.data_mapDictKeys h3 _⟩ (yay.update ..))⟩)))
end
theorem Y7 {X:Cx}:Jnm X (.type "dict") (λxs H Q=>∃a kvs,xs= [V.ref a]/\Rd H a (.dK kvs)/\kvs.length<=1000/\∀p,H p=none->Q (.ref p) (upd H p (.dK kvs))):=by
 rintro pins s σ H xs us Q I r ⟨a,kvs,rfl,ra,z,q⟩;obtain ⟨u,rfl,r2⟩:=Joh r;obtain rfl:u=Value.ref a:=r2;obtain ⟨_,hd,vs,rel,dd⟩:=Yal I.hok ra;have szL:(1000:Nat)<=S9:=by rw [sizeLine_eq];decide
 have hl:=rel.length;refine callType_codes (Q₁:=λobj s₁=>obj= .ref s.heap.objs.size/\s₁={s with heap:=s.heap.push {cls:=.type "dict",data:=.dict #[]}}) PySem.F.kt_called_dict (PySem.F.kt_typeCall_dict_1 _) PySem.F.entry_dict_init (kt_code_dict_new _ ⟨rfl,rfl⟩) ?_;rintro obj s₁ ⟨rfl,rfl⟩;have hnew:(s.heap.push {cls:=.type "dict",data:=.dict #[]}).DictOf (Jmj X.prog X.w) s.heap.objs.size []:=Heap.DictOf.new s.heap;have dd1:(s.heap.push {cls:=.type "dict",data:=.dict #[]}).DictOf (Jmj X.prog X.w) a vs:=dd.push _;refine ⟨hnew.typeIs,PySem.F.args_dict_init_2 _ _,?_⟩;refine S7 ?_;refine S7 (wpAny_notOrdered_dict hnew.typeIs ?_);refine S8 ?_;refine S7 (wpAny_typeOf dd1.typeIs ?_);have ne:s.heap.objs.size≠a:=yx (yy (by obtain ⟨o,_,_,e,_⟩:=dd;exact yj e));dsimp only;rw [if_neg (by decide)];unfold Builtin.Dict.merge Builtin.Dict.readDirectly;refine S7 (S7 (S7 (wpAny_isInstance dd1.typeIs isSubtype_dict_dict ?_)));simp only [ybs,ybt,if_false];refine S7 (wpAny_specialOf dd1.typeIs F.slot_dict_iter.lookup (S8 ?_));simp only [beq_self_eq_true,if_true];refine S7 (S8 ?_);refine wpAny_mergeDict (hsz:=by simp only [List.length_nil];omega) ne hd hnew dd1 λh' d1 d2 sb=>?_;have nd:(vs.map (·.1)).Nodup:=by obtain ⟨_,_,_,_,_,_,_,_,e⟩:=dd;exact e
 rw [merged_nil_of_nodup vs nd] at d1;show Sf _ _ (Builtin.Dict.addKeywords s.heap.objs.size [] >>=_) _ _ _;refine S7 (S8 (S8 ⟨rfl,?_⟩));have kp:∀b o,s.heap.get? b=some o->h'.get? b=some o:=λb o e=>(sb.2 b (λz=>absurd (yj e) (by rw [z];exact ybd _))).trans (yn _ e);exact ⟨.ref s.heap.objs.size,_,I.laid kp (yg _) (Jxq (by omega) (beq_eq_false_iff_ne.mpr (yx (yy I.big))) rel d1),rfl,q _ (I.hok.fresh (yg _))⟩
noncomputable def Siv (k:Key) (v:S5):Bool:=match v with
 | .bool b=>b&&decide (k= .inl 1)
 |v=>Jq1 k v
theorem Jok {k:Key} {v:S5} (h:Siv k v=true):(k= .inl 1/\v= .bool true)\/(∃i t,k= .inl i/\v= .int i t)\/∃x t,k= .inr x/\v= .str x t:=by
 cases v with
 |bool b=>
  have h':(b&&decide (k= .inl 1))=true:=h;rw [yan] at h';exact .inl ⟨of_decide_eq_true h'.2,by rw [h'.1]⟩
 |_=>exact .inr (Jn1 h)
theorem Ydc {k:Key} {v:S5} (h:Jq1 k v=true):Siv k v=true:=by
 rcases Jn1 h with ⟨i,t,rfl,rfl⟩|⟨x,t,rfl,rfl⟩ <;> exact h
section
variable {prog:Sa} {w:Sc} {A:Sd} {E:S5->S6->Prop} {s:S6}
theorem Jt2 {Q:Int->S6->Prop} (h:Q (hashInt 1) {s with toks:=s.toks+1}):Sf (model prog w) A (pyHash (.bool true)) Q E s:=by
 refine PySem.W.pyHash_slot (T:="bool") rfl F.slot_bool_hash entry_int_hash (F.args_int_hash_1 _) (PySem.beq_builtin_none _) (.inl rfl) ?_;exact (show Sf _ _ (do ret (<-mkInt 1)) _ _ s from S7 (wpAny_mkInt (S8 ⟨_,_,rfl,h⟩)))
end
noncomputable def Jrl (prog:Sa) (w:Sc):PySem.KeyKind prog w Key where
 is:=Siv
 hash:=Sru w
 inj:=λv a b ha hb=>by
  rcases Jok ha with ⟨rfl,rfl⟩|⟨i,t,rfl,rfl⟩|⟨x,t,rfl,rfl⟩ <;> rcases Jok hb with ⟨rfl,e⟩|⟨j,u,rfl,e⟩|⟨y,u,rfl,e⟩ <;> first|rfl|(injection e with e1 _;rw [e1])|exact nomatch e
 byValue:=λk v h=>by rcases Jok h with ⟨rfl,rfl⟩|⟨i,t,rfl,rfl⟩|⟨x,t,rfl,rfl⟩ <;> rfl
 pyHash:=λhv h=>by
  rcases Jok hv with ⟨rfl,rfl⟩|⟨i,t,rfl,rfl⟩|⟨x,t,rfl,rfl⟩
  ·exact Jt2 h
  ·exact wpAny_pyHash_int h
  ·exact wpAny_pyHash_str h
 eqBool:=λhu hv h=>by
  rcases Jok hu with ⟨rfl,rfl⟩|⟨i,t,rfl,rfl⟩|⟨x,t,rfl,rfl⟩ <;> rcases Jok hv with ⟨rfl,rfl⟩|⟨j,u,rfl,rfl⟩|⟨y,u,rfl,rfl⟩
  ·exact SeqAt.EqAt.same (.bool true) _ _ _ _ h
  ·rw [Jxu] at h;exact SeqAt.EqAt.bool_int true j u _ _ _ _ h
  ·rw [Yh] at h;exact SeqAt.EqAt.bool_str true y u _ _ _ _ h
  ·rw [Jxu] at h;exact SeqAt.EqAt.int_bool i t true _ _ _ _ h
  ·rw [Jxu] at h;exact wpAny_eqBool_int h
  ·rw [Yh] at h;exact SeqAt.EqAt.int_str i t y u _ _ _ _ h
  ·rw [Yj] at h;exact SeqAt.EqAt.str_bool x t true _ _ _ _ h
  ·rw [Yj] at h;exact SeqAt.EqAt.str_int x t j u _ _ _ _ h
  ·rw [Ydh] at h;exact wpAny_eqBool_str h
 «strs»:=λk x t v h=>by
  rcases Jok h with ⟨rfl,e⟩|⟨i,u,rfl,e⟩|⟨y,u,rfl,e⟩
  ·exact nomatch e
  ·exact nomatch e
  ·injection e with e1 _;subst e1;cases v with
   |bool b=>cases b <;> rfl
   |_=>rfl
noncomputable def SmI (kvs:List (Key×V)) (P:Int->Prop):Prop:=∀p∈kvs,∃i:Int,p.1= .inl i/\0<=i/\i<=20/\P i
inductive Siq (H:Hp) (kvs:List (Key×V)):V->Prop where
 |tru (_:SmI kvs λi=>i≠1):Siq H kvs (.bl true)
 |non (_:SmI kvs λ_=>True):Siq H kvs .non
 |tup {t:S4} (_:H t=some (.tup [.int 0])) (_:SmI kvs λ_=>True):Siq H kvs (.ref t)
theorem Ygf {h:Int} {P:Int->Prop} (d:∀m < 21,P ((m:Nat):Int)->hashInt ((m:Nat):Int)≠h) {i:Int} (h0:0<=i) (h1:i<=20) (p:P i):hashInt i≠h:=by
 obtain ⟨m,rfl⟩:∃m:Nat,i=m:=⟨i.toNat,by omega⟩;exact d m (by omega) p
theorem Srk:∀m < 21,((m:Nat):Int)≠1->hashInt ((m:Nat):Int)≠hashInt 1:=by decide +kernel
theorem Srj:∀m < 21,True->hashInt ((m:Nat):Int)≠reduceHash 0xFCA86420:=by decide +kernel
theorem Srl:∀m < 21,True->hashInt ((m:Nat):Int)≠reduceHash (Builtin.Tuple.tupleHashOf [hashInt 0]):=by decide +kernel
section
variable {X:Cx} {pins:List (S4×Obj)} {σ:St} {H:Hp} {s:S6} {a:S4} {y v:V} {u r:S5} {A:Sd} {E:S5->S6->Prop} {kvs:List (Key×V)} {Q:Unit->S6->Prop}
theorem Smk (hu:A.units+64 < cLine) (I:Ss X pins σ H s) (e:H a=some (.dK kvs)) (nk:Siq H kvs y) (ry:Sw y u) (rv:Sw v r)
  (h:∀o' s',RwD o' ((kvs.map λp=>(kV p.1,p.2))++ [(y,v)])->(a==sysModules)=false->Ss X pins σ (upd H a (.frz o' (.ext λ_=>True))) s'->Q () s'):Sf (model X.prog X.w) A (setItem (.ref a) u r) Q E s:=by
 obtain ⟨z,hd,vs,rel,o,es,ep,ho,x,hdat,kk,pr,nd⟩:=Juw I.hok e;have hl:=rel.length;have hes:es.size=vs.length:=by have e1:=pr.length;simpa using e1
 have ra:Scl s.heap a es ep:=⟨o,ho,x,hdat⟩;have ent:∀{P:Int->Prop},SmI kvs P->∀e∈es,∃i t,e.key= .int i t/\e.hash=hashInt i/\0<=i/\i<=20/\P i:=by
  intro P sm e he;obtain ⟨k,h1,h2⟩:=kk e he;obtain ⟨j,hj⟩:=ybl (Array.mem_toList_iff.mpr he);obtain ⟨x,hx,rk,_⟩:=Yc (Jr1 rel pr) hj;rw [ym] at hx;cases ep:kvs[j]? with
  |none=>rw [ep] at hx;cases hx
  |some p=>
   rw [ep] at hx;cases hx;obtain ⟨i,ei,i0,i1,pi⟩:=sm p (yr ep);have rk':Sw (kV p.1) e.key:=rk;rw [ei] at rk';obtain ⟨t,et⟩:=rk';have h1':Jq1 k e.key=true:=h1;rw [et] at h1';rcases Jn1 h1' with ⟨i',t',rfl,e'⟩|⟨_,_,_,e'⟩
   ·injection e' with e1 _;exact ⟨i,t,et,by rw [h2,<-e1];rfl,i0,i1,pi⟩
   ·exact nomatch e'
 have go:∀{hk:Int} {n:Nat} {P:Int->Prop},SmI kvs P->(∀m < 21,P ((m:Nat):Int)->hashInt ((m:Nat):Int)≠hk)->(∀x t,u≠ .str x t)->(∀i t,u≠ .int i t)->(∀{F:S5->S6->Prop} {R:Int->S6->Prop},R hk {s with toks:=s.toks+n}->Sf (model X.prog X.w) A.in1 (pyHash u) R F s)->Sf (model X.prog X.w) A (setItem (.ref a) u r) Q E s:=by
  intro hk n P sm hh ns ni hp;refine Yg9 (n:=n) ra (by omega) (λe he=>?_) ns (λe he z=>?_) hp λh' r' sb=>?_
  ·obtain ⟨i,t,_,h2,i0,i1,pi⟩:=ent sm e he;rw [h2];exact Ygf hh i0 i1 pi
  ·obtain ⟨i,t,h1,_⟩:=ent sm e he;exact ni i t (z.symm.trans h1)
  ·obtain ⟨o',ho',x',hd'⟩:=r';refine h o' _ ⟨x',_,_,hd',?_⟩ hd (I.write (by rw [e];exact True.intro) (.inl rfl) (λb q hb z=>(sb.2 b hb).trans z) ⟨o',ho'⟩ ⟨ho',True.intro,⟨o',ho'⟩,λ_ _ _ _=>True.intro⟩);rw [Array.toList_push];exact Paired.snoc (Jr1 rel pr) ⟨ry,rv⟩
 cases nk with
 |tru sm=>
  cases ry;exact go sm Srk (λ_ _ z=>nomatch z) (λ_ _ z=>nomatch z) (n:=1) λq=>Jt2 q
 |non sm=>
  cases ry;exact go sm Srj (λ_ _ z=>nomatch z) (λ_ _ z=>nomatch z) (n:=1) λq=>(Jqu X.prog X.w).pyHash (k:=none) rfl q
 | @tup t ht sm=>
  cases ry;have it:IsTupleKey (intKind X.prog X.w) s.heap [0] t:=by
   obtain ⟨_,its,rj,o',e1,e2,m,e3⟩:=I.hok t _ ht;exact ⟨o',_,m,e1,e2,e3,by simpa using Jzb (X:=X) (ns:=[0]) rj⟩
  exact go sm Srl (λ_ _ z=>nomatch z) (λ_ _ z=>nomatch z) (n:=2) λq=>wpAny_pyHash_tuple (by simp only [Around.in1_units];omega) it q
end
noncomputable def IbD (P:Sa) (w:Sc) (a:S4) (kvs:List (Key×V)):HO:=.ext λh=>kvs.length<=S9/\(a==sysModules)=false/\∃vs,KV kvs vs/\h.DictOf (Jrl P w) a vs
theorem Ydn {P:Sa} {w:Sc} {el:List DictEntry} {vs:List (Key×S5)} (pr:Pairs (Jmj P w) el vs):Pairs (Jrl P w) el vs:=by
 induction pr with
 |nil=>exact .nil
 |cons i1 i2 _ ih=>exact .cons (Ydc i1) i2 ih
theorem Yfc {P:Sa} {w:Sc} {h:Se} {a:S4} {vs:List (Key×S5)} (d:h.DictOf (Jmj P w) a vs):h.DictOf (Jrl P w) a vs:=by
 obtain ⟨o,es,ep,h1,h2,h3,h4,h5,h6⟩:=d;exact ⟨o,es,ep,h1,h2,h3,λe he=>by obtain ⟨k,q1,q2⟩:=h4 e he;exact ⟨k,Ydc q1,q2⟩,Ydn h5,h6⟩
theorem Yc1 {P:Sa} {w:Sc} {el:List DictEntry} {vs:List (Key×S5)} (pr:Pairs (Jrl P w) el vs) (hn:∀p∈vs,p.1≠ .inl 1):Pairs (Jmj P w) el vs:=by
 induction pr with
 |nil=>exact .nil
 | @cons e kv es kvs i1 i2 _ ih=>
  refine .cons ?_ i2 (ih λp hp=>hn p (yz _ hp));rcases Jok (show Siv kv.1 e.key=true from i1) with ⟨z,_⟩|⟨i,t,e1,e2⟩|⟨x,t,e1,e2⟩
  ·exact absurd z (hn kv yab)
  ·rw [e1,e2];exact Jqg P w i t
  ·rw [e1,e2];exact Jou P w x t
theorem Yd1 {P:Sa} {w:Sc} {h:Se} {a:S4} {vs:List (Key×S5)} (d:h.DictOf (Jrl P w) a vs) (hn:∀p∈vs,p.1≠ .inl 1):h.DictOf (Jmj P w) a vs:=by
 obtain ⟨o,es,ep,h1,h2,h3,h4,h5,h6⟩:=d;have pr:=Yc1 h5 hn;refine ⟨o,es,ep,h1,h2,h3,λe he=>?_,pr,h6⟩;obtain ⟨k,q1,q2⟩:=h4 e he;refine ⟨k,?_,q2⟩;rcases Jok (show Siv k e.key=true from q1) with ⟨_,z⟩|⟨i,t,e1,e2⟩|⟨x,t,e1,e2⟩
 ·exfalso;have hm:=Array.mem_toList_iff.mpr he;clear h4 h5 h6 h3 hn q1 q2 he;generalize es.toList=el at pr hm
  induction pr with
  |nil=>cases hm
  |cons i1 _ _ ih=>
   rcases yq.mp hm with rfl|m
   ·rw [z] at i1;have i1':Jq1 _ (.bool true)=true:=i1;rcases Jn1 i1' with ⟨_,_,_,q⟩|⟨_,_,_,q⟩ <;> exact nomatch q
   ·exact ih m
 ·rw [e1,e2];exact Jqg P w i t
 ·rw [e1,e2];exact Jou P w x t
section
variable {X:Cx} {pins:List (S4×Obj)} {σ:St} {H:Hp} {s:S6} {a:S4} {v:V} {r:S5} {A:Sd} {E:S5->S6->Prop} {kvs:List (Key×V)} {Q:Unit->S6->Prop}
theorem Smj (I:Ss X pins σ H s) (e:H a=some (.dK kvs)) (l:kvs.length < S9) (rv:Sw v r)
  (h:∀s',Ss X pins σ (upd H a (IbD X.prog X.w a (Jnu kvs (.inl 1) v))) s'->Q () s'):Sf (model X.prog X.w) A (setItem (.ref a) (.bool true) r) Q E s:=by
 obtain ⟨z,hd,vs,rel,dd⟩:=Juw I.hok e;have hz:vs.length<=S9:=by rw [<-rel.length];exact z
 have hl:(Jnu kvs (.inl 1) v).length<=S9:=by have:=Jnn kvs (.inl 1:Key) v;omega
 refine wpAny_setItem_pairs (knd:=Jrl X.prog X.w) (k:=.inl 1) (hsz:=hz) rfl (Yfc dd) λh' d' sb=>h _ ?_;have he:∃q,h'.get? a=some q:=let ⟨q,_,_,hq,_⟩:=d';⟨q,hq⟩;refine I.write (by rw [e];exact True.intro) (.inl rfl) (λb q hb z=>(sb.2 b hb).trans z) he ⟨⟨hl,hd,_,rel.put (.inl 1) rv,d'⟩,he,λh1 h2 p k=>?_⟩;obtain ⟨p1,p2,vs',p3,o,es,ep,q1,q2⟩:=p;exact ⟨p1,p2,vs',p3,o,es,ep,k o q1,q2⟩
end
section
variable {X:Cx} {o e:Expr} {apos cpos:Pos} {td ty:TE}
inductive Yh4 (P:Sa) (w:Sc) (td ty:TE) (σ:St) (Q:VK) (x:V) (H1:Hp):Prop where
 |mk (a:_) (kvs:_) (_:x= .ref a) (_:H1 a=some (IbD P w a kvs)) (_:ty σ H1 λy H2=>y= .int 1/\H2 a=some (IbD P w a kvs)/\(Jqv kvs (.inl 1)).isSome=true/\∀v,Q v (upd H2 a (.dK (Jz8 kvs (.inl 1)))))
noncomputable def St2 (P:Sa) (w:Sc) (td ty:TE):TE:=λσ H Q=>td σ H (Yh4 P w td ty σ Q)
theorem Yg0 (ho:PE X o td) (he:PE X e ty) (m:M1 X o "pop" apos e cpos):PE X (.Call (.Attribute o "pop" apos) [e] [] cpos) (St2 X.prog X.w td ty):=by
 intro pins s σ H Q I h;refine wpAny_Call_method m.base m.few m.line PySem.F.plainAttrs_dict PySem.F.slot_dict_pop PySem.F.type_dict_pop (thn (ho pins s σ H _ I h) λu s1 zq=>?_);obtain ⟨x,H1,I1,rx,a,kvs,ex,d,q1⟩:=zq;subst ex;obtain rfl:u=Value.ref a:=rx;obtain ⟨⟨_,_,vs0,_,dd0⟩,_⟩:=I1.hok a _ d;refine ⟨dd0.typeIs,λb q=>?_,?_⟩
 ·cases q;obtain ⟨ob,_,_,h1,h2,_⟩:=dd0;exact ⟨ob,h1,h2.2.1⟩
 rw [m.trees];refine Calls.callWith_builtin rfl (Calls.evalArgs_plain (Calls.spliced_cons (thn (he pins s1 σ H1 _ I1 q1) λiv s2 ⟨y,H2,I2,ry,ey,ea,l,q2⟩=>Calls.spliced_nil ?_)));subst ey;obtain ⟨t,rfl⟩:=ry;obtain ⟨⟨z,hd,vs,rel,dd⟩,_⟩:=I2.hok a _ ea;obtain ⟨v,hv⟩:=ycw.mp l;obtain ⟨w',hw,rw'⟩:=Scm.some_of (by rw [<-hv];exact rel.val (.inl 1));refine call_meetsIn PySem.F.slot_dict_pop dd.typeIs PySem.F.entry_dict_pop (PySem.F.args_dict_pop_2 _ _) (meets_dict_pop_there (Jrl X.prog X.w) a (k:=.inl 1) (Ydc (Jx5 1 t)) [] (.inl rfl) rfl)
  ⟨vs,w',dd,by rw [<-rel.length];exact z,hw,λh' dd' hs=>⟨v,_,?_,rw',q2 v⟩⟩
 have he:∃q,h'.get? a=some q:=let ⟨q,_,_,hq,_⟩:=dd';⟨q,hq⟩;refine Js5 I2 (by rw [ea];exact True.intro) hs he (Jxq (yai (Jz9 kvs _) z) hd (rel.drop (.inl 1)) (Yd1 dd' λp hp=>?_));have:=(yck.mp hp).2;exact of_decide_eq_true this
end
section
variable {X:Cx} {o i value:Expr} {pos pos':Pos} {td ty tv:TE}
noncomputable def Snm (P:Sa) (w:Sc) (td ty tv:TE):TS:=λD σ H=>tv σ H λv H1=>td σ H1 λx H2=>ty σ H2 λy H3=>∃a,x= .ref a/\((∃H4,Sfo H3 a y v H4/\D.nx σ H4)\/(∃kvs,H3 a=some (.dK kvs)/\Siq H3 kvs y/\∀o',RwD o' ((kvs.map λp=>(kV p.1,p.2))++ [(y,v)])->(a==sysModules)=false->D.nx σ (upd H3 a (.frz o' (.ext λ_=>True))))\/∃kvs,H3 a=some (.dK kvs)/\y= .bl true/\kvs.length < S9/\D.nx σ (upd H3 a (IbD P w a (Jnu kvs (.inl 1) v))))
theorem Jvt (hu:X.A.units+64 < cLine) (ho:PE X o td) (hi:PE X i ty) (hv:PE X value tv) (hs:swapsWith value (some (.Subscript o i pos')) pos.line X.env=pure false):
  PS X (.Assign [.Subscript o i pos'] value pos) (Snm X.prog X.w td ty tv):=by
 intro pins s σ H D I h;refine wpAny_Assign_Subscript (thn (hv pins s σ H _ I h) λr s1 ⟨v,H1,I1,rv,q1⟩=>thn (ho pins s1 σ H1 _ I1 q1) λu s2 ⟨x,H2,I2,rx,q2⟩=>thn (hi pins s2 σ H2 _ I2 q2) λiv s3 q3=>?_) hs;obtain ⟨y,H3,I3,ry,a,ex,q⟩:=q3;subst ex;obtain rfl:u=Value.ref a:=rx;rcases q with ⟨H4,g,q⟩|⟨kvs,e,nk,q⟩|⟨kvs,e,ey,l,q⟩
 ·exact Jwy (by omega) I3 g ry rv λs4 I4=>⟨σ,_,I4,q⟩
 ·exact Smk hu I3 e nk ry rv λo' s4 rw hd I4=>⟨σ,_,I4,q o' rw hd⟩
 ·subst ey;cases ry;exact Smj I3 e l rv λs4 I4=>⟨σ,_,I4,q⟩
end
inductive Scn (H:Hp):V->PyData->Prop where
 |non:Scn H .non .none
 |bl (b:Bool):Scn H (.bl b) (.bool b)
 |int (i:Int):Scn H (.int i) (.int i)
 |str (z:Str):Scn H (.str z) (.str z)
 |tup {t:S4} (_:H t=some (.tup [.int 0])):Scn H (.ref t) (.tuple [.int 0])
 |lst {p:S4} (_:H p=some (.lst [.int 0])) (_:p≠sysModules):Scn H (.ref p) (.list [.int 0])
theorem Scn.same {H H':Hp} {x:V} {d:PyData} (s:∀b o,H b=some o->H' b=some o) (h:Scn H x d):Scn H' x d:=by
 cases h with
 |non=>exact .non
 |bl b=>exact .bl b
 |int i=>exact .int i
 |str z=>exact .str z
 |tup e=>exact .tup (s _ _ e)
 |lst e n=>exact .lst (s _ _ e) n
section
variable {X:Cx} {pins:List (S4×Obj)} {σ:St} {H:Hp} {s:S6}
theorem Scn.reads (I:Ss X pins σ H s) {x:V} {d:PyData} (h:Scn H x d) {v:S5} (r:Sw x v):∃as,Reads s.heap v d as/\sysModules∉as:=by
 cases h with
 |non=>cases r;exact ⟨_,.none,by simp⟩
 |bl b=>cases r;exact ⟨_,.bool b,by simp⟩
 |int i=>obtain ⟨t,rfl⟩:=r;exact ⟨_,.int i t,by simp⟩
 |str z=>obtain ⟨t,rfl⟩:=r;exact ⟨_,.str z t,by simp⟩
 | @tup t e=>
  cases r;obtain ⟨_,its,rj,o,e1,e2,m,e3⟩:=I.hok t _ e;cases rj with
  |cons k1 rj=>
   cases rj;obtain ⟨tk,rfl⟩:=k1;exact ⟨[]++ [],.tuple e1 e2 e3 (.cons (.int 0 tk) .nil),by simp⟩
 | @lst p e n=>
  cases r;obtain ⟨_,its,m,rj,e1⟩:=I.hok p _ e;cases rj with
  |cons k1 rj=>
   cases rj;obtain ⟨tk,rfl⟩:=k1;exact ⟨p::([]++ []),.list e1 rfl rfl (.cons (.int 0 tk) .nil),by simpa using yx n⟩
theorem Yge (I:Ss X pins σ H s) {kvs:List (V×V)} {el:List DictEntry} (rel:Paired (λ(p:V×V) (e:DictEntry)=>Sw p.1 e.key/\Sw p.2 e.val) kvs el):∀{ds:List (PyData×PyData)},Paired (λ(p:V×V) (d:PyData×PyData)=>Scn H p.1 d.1/\Scn H p.2 d.2) kvs ds->
  (∃as,ReadsAll s.heap (el.map (·.key)) (ds.map (·.1)) as/\sysModules∉as)/\∃bs,ReadsAll s.heap (el.map (·.val)) (ds.map (·.2)) bs/\sysModules∉bs:=by
 induction rel with
 |nil=>intro ds h;cases h;exact ⟨⟨_,.nil,by simp⟩,_,.nil,by simp⟩
 |cons r _ ih=>
  intro ds h;cases h with
  |cons q t=>
   obtain ⟨⟨as,a1,a2⟩,bs,b1,b2⟩:=ih t;obtain ⟨cs,c1,c2⟩:=q.1.reads I r.1;obtain ⟨es,e1,e2⟩:=q.2.reads I r.2;exact ⟨⟨_,.cons c1 a1,by simp [a2,c2]⟩,_,.cons e1 b1,by simp [b2,e2]⟩
noncomputable def Sje (H:Hp) (a:S4) (kvs:List (V×V)):Prop:=(∃o,FzD H a o kvs)\/∃l:List (Key×V),H a=some (.dK l)/\kvs=l.map λp=>(kV p.1,p.2)
theorem Sje.raw (I:Ss X pins σ H s) {a:S4} {kvs:List (V×V)} (h:Sje H a kvs):(a==sysModules)=false/\∃es ep,Scl s.heap a es ep/\Paired (λ(p:V×V) (e:DictEntry)=>Sw p.1 e.key/\Sw p.2 e.val) kvs es.toList:=by
 rcases h with ⟨o,h⟩|⟨l,e,rfl⟩
 ·obtain ⟨n,es,ep,_,r,p⟩:=Juz I h;exact ⟨n,es,ep,r,p⟩
 ·obtain ⟨z,hd,vs,rel,o,es,ep,h1,h2,h3,h4,h5,h6⟩:=Juw I.hok e;exact ⟨hd,es,ep,⟨o,h1,h2,h3⟩,Jr1 rel h5⟩
end
theorem Sse {b t:Nat}:∀{ds:List (PyData×PyData)},(∀d∈ds,Rp d.1 b t/\Rp d.2 b t)->PyData.showableKv ds=true/\PyData.leavesShortKv 1921 ds=true/\PyData.bulkKv ds<=(2*b+2)*ds.length/\PyData.depthKv ds<=t:=by
 intro ds
 induction ds with
 |nil=>exact λ_=>⟨by simp [PyData.showableKv],by simp [PyData.leavesShortKv],by simp [PyData.bulkKv],by simp [PyData.depthKv]⟩
 |cons d ds ih=>
  intro h;obtain ⟨i1,i2,i3,i4⟩:=ih λx hx=>h x (yz _ hx);obtain ⟨q1,q2⟩:=h d yab;obtain ⟨k,v⟩:=d;have h1:k.bulk<=b:=q1.bk;have h2:v.bulk<=b:=q2.bk;have h3:k.depth<=t:=q1.dp;have h4:v.depth<=t:=q2.dp;refine ⟨by simp [PyData.showableKv,q1.sh,q2.sh,i1],by simp [PyData.leavesShortKv,q1.lv,q2.lv,i2],?_,?_⟩
  ·simp only [PyData.bulkKv,yag];rw [Nat.mul_succ];omega
  ·simp only [PyData.depthKv];omega
theorem Rp.dic {b t:Nat} {ds:List (PyData×PyData)} (h:∀d∈ds,Rp d.1 b t/\Rp d.2 b t):Rp (.dict ds) ((2*b+2)*ds.length) (t+2):=by
 obtain ⟨i1,i2,i3,i4⟩:=Sse h;exact ⟨by simp only [PyData.showable];exact i1,by simp only [PyData.leavesShort];exact i2,by simp only [PyData.bulk];exact i3,by simp only [PyData.depth];omega⟩
noncomputable def ShD (K:Sg) (H:Hp) (x:V) (d:PyData):Prop:=ShA K H x d\/∃a kvs ds,x= .ref a/\Sje H a kvs/\Paired (λ(p:V×V) (d:PyData×PyData)=>Scn H p.1 d.1/\Scn H p.2 d.2) kvs ds/\d= .dict ds
inductive Snh (K:Sg) (xs:List V) (H:Hp) (Q:VK):Prop where
 |mk (x:V) (d:PyData) (b:Nat) (_:xs= [x]) (_:ShD K H x d) (_:Rp d b 60) (_:b<=8000) (_:Q (.str d.shown) H)
theorem Jpu {X:Cx} (hg:X.A.guards=some []) (hu:X.A.units+64 < cLine):Jnm X (.builtin "repr") (Snh X.K):=by
 rintro pins s σ H xs us Q I r ⟨x,d,b,rfl,hd,rp,hb,q⟩;rcases hd with hd|⟨a,kvs,ds,rfl,dv,sv,rfl⟩
 ·exact Y8 hg hu pins s σ H _ us Q I r ⟨x,d,b,rfl,hd,rp,hb,q⟩
 ·obtain ⟨u,rfl,ru⟩:=Joh r;cases ru;obtain ⟨n,es,ep,⟨o,h1,h2,h3⟩,rel⟩:=dv.raw I;obtain ⟨⟨as,a1,a2⟩,bs,b1,b2⟩:=Yge I rel sv;have dp:=rp.dp;exact repr_of_reads' (Reads.dict h1 h2.1 h3 a1 b1) rp.sh (λ_ hm=>by
   have n':sysModules≠a:=λz=>by rw [z] at n;simp at n
   simp [n',a2,b2] at hm) hg (by omega) (λ_ _ e=>e) (λh' u tk k=>⟨.str _,H,I.kept k,⟨_,rfl⟩,q⟩) (rp.fit hb)
section
variable {X:Cx}
inductive Ss8 (K:Sg) (xs:List V) (H:Hp) (Q:VK):Prop where
 |mk (x:_) (_:xs= [x,.ty "dict"]) (_:((∃a kvs,x= .ref a/\Sje H a kvs/\Q (.bl true) H)\/∃t,TyX K H x t/\Sh K t (.type "dict")=some false/\Q (.bl false) H))
theorem Ybh:Jnm X (.builtin "isinstance") (Ss8 X.K):=by
 rintro pins s σ H vs us Q I r ⟨x,rfl,⟨a,kvs,rfl,d,k⟩|⟨t,ty,e,k⟩⟩
 ·obtain ⟨v,w',rfl,r1,r2⟩:=Jzy r;obtain rfl:v=Value.ref a:=r1;cases r2;obtain ⟨_,es,ep,⟨o,h1,h2,_⟩,_⟩:=d.raw I;exact PySem.W.kia_one PySem.W.kitx_dict I.kIn ⟨o,h1,h2.1⟩ rfl (λz=>nomatch z) λtk=>⟨.bl true,H,I.tok _,rfl,k⟩
 ·exact Jos pins s σ H _ us Q I r ⟨x,_,_,t,false,rfl,rfl,ty,e,k⟩
inductive Ssy (t:TA) (σ:St) (H:Hp) (Q:VK):Prop where
 |mk (_:t σ H λxs H1=>xs.length<=S9/\∀p,H1 p=none->p≠sysModules->Q (.ref p) (upd H1 p (.lst xs)))
theorem Yb0 {es:List Expr} {t:TA} {pos:Pos} (h:PA X es t):PE X (.List es pos) (Ssy t):=by
 intro pins s σ H Q I hq;obtain ⟨hq⟩:=hq;refine wpAny_List_spliced (thn (h pos pins s σ H _ I hq) λus s1 ⟨xs,H1,I1,r,z,q⟩=>⟨by rw [<-r.length];exact z,⟨.ref s1.heap.objs.size,upd H1 s1.heap.objs.size (.lst xs),I1.laid (λb u e=>yn _ e) (yg _) ?_,rfl,q _ (I1.hok.fresh (yg _)) (yx (yy I1.big))⟩⟩);exact ⟨z,us,0,r,yt _ rfl⟩
end
noncomputable def Yew (prog:Sa) (w:Sc):PySem.KeyKind prog w Unit where
 is:=λ_ v=>match v with| .bool b=>b|_=>false
 hash:=λ_=>hashInt 1
 inj:=λ_ _ _ _ _=>rfl
 byValue:=λk v h=>by cases v with|bool b=>rfl|_=>cases h
 pyHash:=λ{_ _ _ _ v _} hv h=>by
  cases v with
  |bool b=>cases hv;exact Jt2 h
  |_=>cases hv
 eqBool:=λ{_ _ _ _ _ u v _} hu hv h=>by
  cases u with
  |bool b=>
   cases hu;cases v with
   |bool c=>cases hv;exact SeqAt.EqAt.same (.bool true) _ _ _ _ h
   |_=>cases hv
  |_=>cases hu
 «strs»:=λk x t v h=>by cases h
section
variable {X:Cx} {pos:Pos} {k v:Expr} {tk tv:TE}
noncomputable def Som (tk tv:TE):TE:=λσ H Q=>∀p,H p=none->Jyr [(tk,tv)] σ (upd H p (.dK [])) λps H2=>∃y,ps= [(.bl true,y)]/\H2 p=some (.dK [])/\∀o',RwD o' [(.bl true,y)]->(p==sysModules)=false->Q (.ref p) (upd H2 p (.frz o' (.ext λ_=>True)))
theorem Ydo (hk:PE X k tk) (hv:PE X v tv):PE X (.Dict [some k] [v] pos) (Som tk tv):=by
 intro pins s σ H Q I q;refine wpAny_Dict_walk (knd:=Yew X.prog X.w) rfl rfl (by simp) (by simp) (thn ((Jvs hk hv Jyd) pins _ σ _ _ (I.laid (λ_ _ q=>yn _ q) (yg _) (Juv s.heap I.big)) (q _ (I.hok.fresh (yg s.heap.objs.size)))) λws s2 zq=>?_);obtain ⟨ps,H2,I2,rel,y,eps,e,q2⟩:=zq;subst eps;cases rel with
 | @cons _ b _ _ h t=>
  cases t;obtain ⟨b1,b2⟩:=b;obtain ⟨h1,h2⟩:=h;cases h1;obtain ⟨z,hd,vs0,r0,o,es,ep,g1,g2,g3,g4,g5,g6⟩:=Juw I2.hok e;cases r0;have he:es.toList= []:=by
   cases h:es.toList with
   |nil=>rfl
   |cons x l=>rw [h] at g5;cases g5
  have hes:es= #[]:=by rw [<-Array.toList_inj];exact he
  refine ⟨[((),b2)],⟨rfl,rfl,True.intro⟩,⟨o,es,ep,g1,g2,g3,λe he'=>by rw [hes] at he';simp at he',by rw [he];exact .nil,ycb⟩,λh' dd' sb=>?_⟩;obtain ⟨o',es',ep',k1,k2,k3,_,k5,_⟩:=dd';have k5':Pairs (Yew X.prog X.w) es'.toList [((),b2)]:=k5;refine ⟨.ref s.heap.objs.size,_,Js5 (ob:=.frz o' (.ext λ_=>True)) I2 (by rw [e];exact True.intro) sb ⟨o',k1⟩ ⟨k1,True.intro,⟨o',k1⟩,λ_ _ _ _=>True.intro⟩,rfl,q2 o' ⟨k2,es',ep',k3,?_⟩ hd⟩;generalize es'.toList=el at k5';cases k5' with
  | @cons e1 _ _ _ i1 i2 i3=>
   cases i3;refine .cons ⟨?_,?_⟩ .nil
   ·obtain ⟨hh,kk,vv⟩:=e1;cases kk with
    |bool b=>cases i1;rfl
    |_=>cases i1
   ·rw [i2];exact h2
end
theorem Jzk (s:String):PyData.strOk (Str.ofString s)=true:=by
 rw [Str.ofString_eq_toList];unfold PyData.strOk;rw [<-Array.all_toList,ybf];intro n hn;obtain ⟨c,_,rfl⟩:=yo.mp hn;refine decide_eq_true ?_;have h:=c.valid;rcases h with h|⟨_,h⟩
 ·exact Nat.lt_trans h (by decide)
 ·exact h
theorem Jta {a b:Str} (ha:PyData.strOk a=true) (hb:PyData.strOk b=true):PyData.strOk (a++b)=true:=by
 unfold PyData.strOk at*;show (a.cps++b.cps).all _=true;rw [Array.all_append,ha,hb];rfl
theorem Yfv {sep:Str} (hs:PyData.strOk sep=true):∀{ts:List Str},(∀t∈ts,PyData.strOk t=true)->PyData.strOk (Str.join sep ts)=true:=by
 intro ts
 induction ts with
 |nil=>exact λ_=>by show PyData.strOk Str.empty=true;decide +kernel
 |cons x r ih=>
  intro h;cases r with
  |nil=>exact h x yab
  |cons y r=>exact Jta (Jta (h x yab) hs) (ih λt ht=>h t (yz _ ht))
theorem Yaw {ds:List (PyData×PyData)} (h:∀d∈ds,PyData.strOk d.1.shown=true/\PyData.strOk d.2.shown=true):PyData.strOk (PyData.dict ds).shown=true:=by
 simp only [PyData.shown,dictText];refine Jta (Jta (Jzk _) (Yfv (Jzk _) ?_)) (Jzk _)
 induction ds with
 |nil=>simp [PyData.shownKv]
 |cons d ds ih=>
  obtain ⟨k,v⟩:=d;have q:=h (k,v) yab;simp only [PyData.shownKv];exact all_cons (Jta (Jta q.1 (Jzk _)) q.2) (ih λd hd=>h d (yz _ hd))
end L2

namespace K24
local macro_rules|`(tactic|omega)=>`(tactic|first|lia|omega)
open PySem L2 PyProof.Rows PySem.NumText
noncomputable def top (i:Nat):Stmt:=PySem.Challenge.pw_weirwatch_k24_stuck_gates_refused.main.body.getD i (.Pass ⟨0,0,0,0⟩)
set_option genInjectivity false in
structure Ad where
 Jgk:S4
 Jgl:Sb
 Jgm:S4
 Jgn:Sb
 Jgo:S4
 Jgp:Sb
 Jgq:S4
 Jgr:Sb
 Jgs:S4
 Jgt:Sb
 Jgu:S4
 Jgv:Sb
 Jgw:S4
 Jgx:Sb
 Jgy:S4
 Jgz:Sb
 Jh0:S4
 Jh1:Sb
 Jh2:S4
 Jh3:Sb
 Jh4:S4
 Jh5:Sb
 Jh6:S4
 Jh7:Sb
 Jh8:S4
 Jh9:Sb
 Jha:S4
 Jhb:Sb
 Jhc:S4
 Jhd:Sb
 Jhe:S4
 Jhf:Sb
 Jhg:S4
 Jhh:Sb
 Jhi:S4
 Jhj:Sb
 Jhk:S4
 Jhl:Sb
 Jhm:S4
 Jhn:Sb
 Jho:S4
 Jhp:Sb
 Jhq:S4
 Jhr:Sb
 Jhs:S4
 Jht:Sb
 Jhu:S4
 Jhv:Sb
 Jhw:S4
 Jhx:Sb
 Jhy:S4
 Jhz:Sb
 Ji0:S4
 Ji1:Sb
 Ji2:S4
 Ji3:Sb
 Ji4:S4
 Ji5:Sb
 Ji6:S4
 Ji7:Sb
 Ji8:S4
 Ji9:Sb
 Jia:S4
 Jib:Sb
 Jic:S4
 Jid:Sb
 Jie:S4
 Jif:Sb
 Jig:S4
 Jih:Sb
 Jii:S4
 Jij:Sb
 Jik:S4
 Jil:Sb
 Jim:S4
 Jin:Sb
 Jio:S4
 Jip:Sb
 Jiq:S4
 Jir:Sb
 Jis:S4
 Jit:Sb
 Jiu:S4
 Jiv:Sb
 Jiw:S4
 Jix:Sb
 Jiy:S4
 Jiz:Sb
 Jj0:S4
 Jj1:Sb
 Jj2:S4
 Jj3:Sb
 Jj4:S4
 Jj5:Sb
 Jj6:S4
 Jj7:Sb
 Jj8:S4
 Jj9:Sb
 Jja:S4
 Jjb:Sb
 Jjc:S4
 Jjd:Sb
 Jje:S4
 Jjf:Sb
 Jjg:S4
 Jjh:Sb
 Jji:S4
 Jjj:Sb
 Jjk:S4
 Jjl:Sb
 Jjm:S4
 Jjn:Sb
 Jjo:S4
 Jjp:Sb
 Jjq:S4
 Jjr:Sb
 Jjs:S4
 Jjt:Sb
 Jju:S4
 Jjv:Sb
 Jjw:S4
 Jjx:Sb
 Jjy:S4
 Jjz:Sb
 Jk0:S4
 Jk1:Sb
 Jk2:S4
 Jk3:Sb
 Jk4:S4
 Jk5:Sb
 Jk6:S4
 Jk7:Sb
 Jk8:S4
 Jk9:Sb
 Jka:S4
 Jkb:Sb
 Jkc:S4
 Jkd:Sb
 Jke:S4
 Jkf:Sb
 Jkg:S4
 Jkh:Sb
 Jki:S4
 Jkj:Sb
 Jkk:S4
 Jkl:Sb
 Jkm:S4
 Jkn:Sb
 Jko:S4
 Jkp:Sb
 Jkq:S4
 Jkr:Sb
 Jks:S4
 Jkt:Sb
 Jku:S4
 Jkv:Sb
 Jkw:S4
 Jkx:Sb
 a_law:S4
 d_law:Sb
 Jky:Tok
 Jkz:Tok
 Jl0:Tok
 Jl1:Tok
 Jl2:Tok
 Jl3:Tok
 Jl4:Tok
 Jl5:Tok
 Jl6:Tok
 Jl7:Tok
 Jl8:Tok
 Jl9:Tok
 Jla:S4
 Jlb:S4
 Jlc:S4
 Jld:S4
 Jle:S4
 Jlf:S4
 Jlg:S4
 Jlh:S4
 Jli:S4
 Jlj:S4
 Jlk:S4
 Jll:S4
 Jlm:S4
 Jln:S4
 Jlo:S4
 Jlp:S4
 Jlq:S4
 Jlr:S4
 Jls:S4
 Jlt:S4
 Jlu:S4
 Jlv:S4
structure Tx (K:Sg) (mg:Str->Option S5) (a:Ad):Prop where
 J0:FT K mg "is_whole" (top 16) ["thing","low","high"] a.Jh2 a.Jh3
 J1:FT K mg "is_made_of" (top 17) ["text","signs"] a.Jh4 a.Jh5
 J2:FT K mg "is_name" (top 18) ["thing"] a.Jh6 a.Jh7
 J3:FT K mg "forced_rain" (top 23) ["river","wet"] a.Jh8 a.Jh9
 J4:FT K mg "place_drawn_from" (top 24) ["river","town"] a.Jha a.Jhb
 J5:FT K mg "draw" (top 25) ["river","standing","choice"] a.Jhc a.Jhd
 J6:FT K mg "levels_left" (top 26) ["river","standing","choice","drawn"] a.Jhe a.Jhf
 J7:FT K mg "outs_at" (top 27) ["river","settings","levels"] a.Jhg a.Jhh
 J8:FT K mg "levels_behind" (top 28) ["left","outs","rain"] a.Jhi a.Jhj
 J9:FT K mg "broken_at" (top 29) ["river","levels"] a.Jhk a.Jhl
 Ja:FT K mg "is_setting_of" (top 33) ["river","place","setting"] a.Jhq a.Jhr
 Jb:FT K mg "is_stuck" (top 34) ["river","thing"] a.Jhs a.Jht
 Jc:FT K mg "settings_let" (top 35) ["river","stuck"] a.Jhu a.Jhv
 Jd:FT K mg "product" (top 36) ["numbers"] a.Jhw a.Jhx
 Je:FT K mg "levels_many" (top 37) ["basin"] a.Jhy a.Jhz
 Jf:FT K mg "standings_many" (top 38) ["river"] a.Ji0 a.Ji1
 Jg:FT K mg "choices_many" (top 39) ["river","stuck"] a.Ji2 a.Ji3
 Jh:FT K mg "rain_rows_many" (top 40) ["river"] a.Ji4 a.Ji5
 Ji:FT K mg "weigh" (top 41) ["river","stuck"] a.Ji6 a.Ji7
 Jj:FT K mg "refuse_heavy" (top 42) ["heft"] a.Ji8 a.Ji9
 Jk:FT K mg "longer_rows" (top 43) ["rows","numbers"] a.Jia a.Jib
 Jl:FT K mg "choices_let" (top 44) ["river","stuck"] a.Jic a.Jid
 Jm:FT K mg "rains_at" (top 45) ["river","wet"] a.Jie a.Jif
 Jn:FT K mg "number_by" (top 46) ["river","standing"] a.Jig a.Jih
 Jo:FT K mg "standing_by" (top 47) ["river","number"] a.Jii a.Jij
 Jp:FT K mg "lead" (top 48) ["river","standing","choice","rain"] a.Jik a.Jil
 Jq:FT K mg "are_marks" (top 54) ["thing","lowest"] a.Jis a.Jit
 Jr:FT K mg "kept_marks" (top 55) ["marks","lowest"] a.Jiu a.Jiv
 Js:FT K mg "refuse_no_level" (top 69) ["thing","low","high"] a.Jjm a.Jjn
 Jt:FT K mg "are_unlike" (top 72) ["names"] a.Jjs a.Jjt
 Ju:FT K mg "are_basins" (top 73) ["thing"] a.Jju a.Jjv
 Jv:FT K mg "are_towns" (top 74) ["thing","basins"] a.Jjw a.Jjx
 Jw:FT K mg "lost_in" (top 78) ["standings"] a.Jk2 a.Jk3
 Jx:FT K mg "_law_cell" (top 82) ["_law_script","_law_k"] a.Jk6 a.Jk7
 Jy:FT K mg "_law_stream" (top 83) ["_law_cell_here"] a.Jk8 a.Jk9
 Jz:FT K mg "_law_take" (top 84) ["_law_stream_here","_law_many"] a.Jka a.Jkb
 Ja0:FT K mg "_law_names" (top 85) ["_law_stream_here","_law_many"] a.Jkc a.Jkd
 Ja1:FT K mg "_law_gate" (top 86) ["_law_stream_here","_law_most"] a.Jke a.Jkf
 Ja2:FT K mg "_law_basin" (top 87) ["_law_stream_here","_law_name","_law_many"] a.Jkg a.Jkh
 Ja3:FT K mg "_law_great" (top 88) ["_law_stream_here"] a.Jki a.Jkj
 Ja4:FT K mg "_law_river" (top 89) ["_law_cell_here"] a.Jkk a.Jkl
 Ja5:FT K mg "_law_made_gate" (top 90) ["_law_told"] a.Jkm a.Jkn
 Ja6:FT K mg "_law_made" (top 91) ["_law_told"] a.Jko a.Jkp
 Ja7:FT K mg "_law_weight" (top 92) ["_law_told","_law_stuck_here"] a.Jkq a.Jkr
 Ja8:FT K mg "_law_stuck" (top 93) ["_law_cell_here","_law_told"] a.Jks a.Jkt
 Ja9:FT K mg "_law_spoilt" (top 94) ["_law_told","_law_stuck_here","_law_m"] a.Jku a.Jkv
 Jaa:FT K mg "_law_refused" (top 95) ["_law_river_here","_law_stuck_here","_law_way"] a.Jkw a.Jkx
 f_law:FT K mg "law" (top 96) ["_law_script"] a.a_law a.d_law
 Jab:mg "LETTERS" =some (.str "abcdefghijklmnopqrstuvwxyz" a.Jky)
 Jac:mg "MOST_LETTERS" =some (.int 8 a.Jkz)
 Jad:mg "MOST_WEIGHT" =some (.int 4000 a.Jl0)
 Jae:mg "MOST_SETTINGS" =some (.int 4 a.Jl1)
 Jaf:mg "HIGHEST_MARK" =some (.int 12 a.Jl2)
 Jag:mg "HIGHEST_LEVEL" =some (.int 1000 a.Jl3)
 Jah:mg "HIGHEST" =some (.int 12 a.Jl4)
 Jai:mg "MOST_RAIN" =some (.int 6 a.Jl5)
 Jaj:mg "MOST_WANT" =some (.int 6 a.Jl6)
 Jak:mg "MOST_CLOUD" =some (.int 12 a.Jl7)
 Jal:mg "MOST_BASINS" =some (.int 16 a.Jl8)
 Jam:mg "MOST_TOWNS" =some (.int 3 a.Jl9)
 Jan:mg "abs" =none
 Jao:mg "all" =none
 Jap:mg "bool" =none
 Jaq:mg "dict" =none
 Jar:mg "enumerate" =none
 Jas:mg "int" =none
 Jat:mg "isinstance" =none
 Jau:mg "len" =none
 Jav:mg "list" =none
 Jaw:mg "max" =none
 Jax:mg "min" =none
 Jay:mg "range" =none
 Jaz:mg "repr" =none
 Jb0:mg "set" =none
 Jb1:mg "str" =none
 Jb2:mg "sum" =none
 Jb3:mg "tuple" =none
 Jb4:mg "zip" =none
 q78:mg "WeirError" =some (.ref a.Jla)
 Jb5:mg "NoName" =some (.ref a.Jlb)
 Jb6:mg "NoGate" =some (.ref a.Jlc)
 Jb7:mg "NoBasin" =some (.ref a.Jld)
 Jb8:mg "NoTown" =some (.ref a.Jle)
 Jb9:mg "NoCloud" =some (.ref a.Jlf)
 Jba:mg "NoRiver" =some (.ref a.Jlg)
 Jbb:mg "TooMany" =some (.ref a.Jlh)
 q86:mg "NoStanding" =some (.ref a.Jli)
 Jbc:mg "NoStuck" =some (.ref a.Jlj)
 Jbd:mg "NoNumber" =some (.ref a.Jlk)
 Jbe:mg "Turn" =some (.ref a.Jll)
 Jbf:mg "Standings" =some (.ref a.Jlm)
 Jbg:mg "Gate" =some (.ref a.Jln)
 Jbh:mg "StepGate" =some (.ref a.Jlo)
 Jbi:mg "FlapGate" =some (.ref a.Jlp)
 Jbj:mg "PartGate" =some (.ref a.Jlq)
 Jbk:mg "StuckGate" =some (.ref a.Jlr)
 Jbl:mg "Basin" =some (.ref a.Jls)
 Jbm:mg "Town" =some (.ref a.Jlt)
 Jbn:mg "River" =some (.ref a.Jlu)
 Jbo:mg "Holding" =some (.ref a.Jlv)
 Jbp:Si K (.ref a.Jlb) "__init__" =some (some (.ref a.Jgk))
 Jbq:Si K (.ref a.Jlc) "__init__" =some (some (.ref a.Jgm))
 Jbr:Si K (.ref a.Jld) "__init__" =some (some (.ref a.Jgo))
 Jbs:Si K (.ref a.Jle) "__init__" =some (some (.ref a.Jgq))
 Jbt:Si K (.ref a.Jlf) "__init__" =some (some (.ref a.Jgs))
 Jbu:Si K (.ref a.Jlg) "__init__" =some (some (.ref a.Jgu))
 Jbv:Si K (.ref a.Jlh) "__init__" =some (some (.ref a.Jgw))
 Jbw:Si K (.ref a.Jlj) "__init__" =some (some (.ref a.Jgy))
 Jbx:Si K (.ref a.Jlk) "__init__" =some (some (.ref a.Jh0))
 Jby:Si K (.ref a.Jll) "__init__" =some (some (.ref a.Jhm))
 Jbz:Si K (.ref a.Jll) "standing" =some (some (.ref a.Jho))
 Jc0:Si K (.ref a.Jlm) "__init__" =some (some (.ref a.Jim))
 Jc1:Si K (.ref a.Jlm) "ends_by_place" =some (some (.ref a.Jio))
 Jc2:Si K (.ref a.Jlm) "ends_by_rain" =some (some (.ref a.Jiq))
 Jc3:Si K (.ref a.Jln) "lets" =some (some (.ref a.Jiw))
 Jc4:Si K (.ref a.Jlo) "__init__" =some (some (.ref a.Jiy))
 Jc5:Si K (.ref a.Jlo) "settings" =some (some (.ref a.Jj0))
 Jc6:Si K (.ref a.Jlo) "passes" =some (some (.ref a.Jj2))
 Jc7:Si K (.ref a.Jlp) "__init__" =some (some (.ref a.Jj4))
 Jc8:Si K (.ref a.Jlp) "settings" =some (some (.ref a.Jj6))
 Jc9:Si K (.ref a.Jlp) "passes" =some (some (.ref a.Jj8))
 Jca:Si K (.ref a.Jlq) "__init__" =some (some (.ref a.Jja))
 Jcb:Si K (.ref a.Jlq) "settings" =some (some (.ref a.Jjc))
 Jcc:Si K (.ref a.Jlq) "passes" =some (some (.ref a.Jje))
 Jcd:Si K (.ref a.Jlr) "__init__" =some (some (.ref a.Jjg))
 Jce:Si K (.ref a.Jlr) "settings" =some (some (.ref a.Jji))
 Jcf:Si K (.ref a.Jlr) "passes" =some (some (.ref a.Jjk))
 Jcg:Si K (.ref a.Jls) "__init__" =some (some (.ref a.Jjo))
 Jch:Si K (.ref a.Jlt) "__init__" =some (some (.ref a.Jjq))
 Jci:Si K (.ref a.Jlu) "__init__" =some (some (.ref a.Jjy))
 Jcj:Si K (.ref a.Jlu) "place_of" =some (some (.ref a.Jk0))
 Jck:Si K (.ref a.Jlv) "__init__" =some (some (.ref a.Jk4))
 Jcl:FM K "__init__" "NoName.__init__" (Jmc (top 3) 0) ["self","thing"] a.Jgk a.Jgl
 Jcm:FM K "__init__" "NoGate.__init__" (Jmc (top 4) 0) ["self","thing"] a.Jgm a.Jgn
 Jcn:FM K "__init__" "NoBasin.__init__" (Jmc (top 5) 0) ["self","thing"] a.Jgo a.Jgp
 Jco:FM K "__init__" "NoTown.__init__" (Jmc (top 6) 0) ["self","thing"] a.Jgq a.Jgr
 Jcp:FM K "__init__" "NoCloud.__init__" (Jmc (top 7) 0) ["self","thing"] a.Jgs a.Jgt
 Jcq:FM K "__init__" "NoRiver.__init__" (Jmc (top 8) 0) ["self","thing"] a.Jgu a.Jgv
 Jcr:FM K "__init__" "TooMany.__init__" (Jmc (top 9) 0) ["self","count"] a.Jgw a.Jgx
 Jcs:FM K "__init__" "NoStuck.__init__" (Jmc (top 11) 0) ["self","thing"] a.Jgy a.Jgz
 Jct:FM K "__init__" "NoNumber.__init__" (Jmc (top 12) 0) ["self","thing"] a.Jh0 a.Jh1
 Jcu:FM K "__init__" "Turn.__init__" (Jmc (top 30) 0) ["self","river","standing","choice","rain"] a.Jhm a.Jhn
 Jcv:FM K "standing" "Turn.standing" (Jmc (top 30) 1) ["self"] a.Jho a.Jhp
 Jcw:FM K "__init__" "Standings.__init__" (Jmc (top 49) 0) ["self","river","stuck"] a.Jim a.Jin
 Jcx:FM K "ends_by_place" "Standings.ends_by_place" (Jmc (top 49) 1) ["self","standing"] a.Jio a.Jip
 Jcy:FM K "ends_by_rain" "Standings.ends_by_rain" (Jmc (top 49) 2) ["self","standing","choice"] a.Jiq a.Jir
 Jcz:FM K "lets" "Gate.lets" (Jmc (top 57) 0) ["self","setting","level"] a.Jiw a.Jix
 Jd0:FM K "__init__" "StepGate.__init__" (Jmc (top 58) 0) ["self","marks"] a.Jiy a.Jiz
 Jd1:FM K "settings" "StepGate.settings" (Jmc (top 58) 1) ["self"] a.Jj0 a.Jj1
 Jd2:FM K "passes" "StepGate.passes" (Jmc (top 58) 2) ["self","setting","level"] a.Jj2 a.Jj3
 Jd3:FM K "__init__" "FlapGate.__init__" (Jmc (top 59) 0) ["self","marks"] a.Jj4 a.Jj5
 Jd4:FM K "settings" "FlapGate.settings" (Jmc (top 59) 1) ["self"] a.Jj6 a.Jj7
 Jd5:FM K "passes" "FlapGate.passes" (Jmc (top 59) 2) ["self","setting","level"] a.Jj8 a.Jj9
 Jd6:FM K "__init__" "PartGate.__init__" (Jmc (top 60) 0) ["self","marks"] a.Jja a.Jjb
 Jd7:FM K "settings" "PartGate.settings" (Jmc (top 60) 1) ["self"] a.Jjc a.Jjd
 Jd8:FM K "passes" "PartGate.passes" (Jmc (top 60) 2) ["self","setting","level"] a.Jje a.Jjf
 Jd9:FM K "__init__" "StuckGate.__init__" (Jmc (top 61) 0) ["self","gate","setting"] a.Jjg a.Jjh
 Jda:FM K "settings" "StuckGate.settings" (Jmc (top 61) 1) ["self"] a.Jji a.Jjj
 Jdb:FM K "passes" "StuckGate.passes" (Jmc (top 61) 2) ["self","setting","level"] a.Jjk a.Jjl
 Jdc:FM K "__init__" "Basin.__init__" (Jmc (top 70) 0) ["self","name","low","high","start","rain","gate"] a.Jjo a.Jjp
 Jdd:FM K "__init__" "Town.__init__" (Jmc (top 71) 0) ["self","name","basin","want"] a.Jjq a.Jjr
 Jde:FM K "__init__" "River.__init__" (Jmc (top 75) 0) ["self","cloud","gain","basins","towns"] a.Jjy a.Jjz
 Jdf:FM K "place_of" "River.place_of" (Jmc (top 75) 1) ["self","name"] a.Jk0 a.Jk1
 Jdg:FM K "__init__" "Holding.__init__" (Jmc (top 80) 0) ["self","river","stuck"] a.Jk4 a.Jk5
 Jdh:Saj K a.Jlb a.Jla a.Jgk
 Jdi:Saj K a.Jlc a.Jla a.Jgm
 Jdj:Saj K a.Jld a.Jla a.Jgo
 Jdk:Saj K a.Jle a.Jla a.Jgq
 Jdl:Saj K a.Jlf a.Jla a.Jgs
 Jdm:Saj K a.Jlg a.Jla a.Jgu
 Jdn:Saj K a.Jlh a.Jla a.Jgw
 Jdo:Sii K a.Jlh
 Jdp:Saj K a.Jlj a.Jla a.Jgy
 Jdq:Sii K a.Jlj
 Jdr:Saj K a.Jlk a.Jla a.Jh0
 Jds:Cls K a.Jll
 Jdt:Mk K a.Jll a.Jhm
 Jdu:Jp0 K a.Jll "standing" a.Jho
 Jdv:Cls K a.Jlm
 Jdw:Mk K a.Jlm a.Jim
 Jdx:Jp0 K a.Jlm "ends_by_place" a.Jio
 Jdy:Jp0 K a.Jlm "ends_by_rain" a.Jiq
 Jdz:Cls K a.Jlo
 Je0:Sgm K a.Jlo
 Je1:Mk K a.Jlo a.Jiy
 Je2:Jp0 K a.Jlo "lets" a.Jiw
 Je3:Jp0 K a.Jlo "settings" a.Jj0
 Je4:Jp0 K a.Jlo "passes" a.Jj2
 Je5:Cls K a.Jlp
 Je6:Sgm K a.Jlp
 Je7:Mk K a.Jlp a.Jj4
 Je8:Jp0 K a.Jlp "lets" a.Jiw
 Je9:Jp0 K a.Jlp "settings" a.Jj6
 Jea:Jp0 K a.Jlp "passes" a.Jj8
 Jeb:Cls K a.Jlq
 Jec:Sgm K a.Jlq
 Jed:Mk K a.Jlq a.Jja
 Jee:Jp0 K a.Jlq "lets" a.Jiw
 Jef:Jp0 K a.Jlq "settings" a.Jjc
 Jeg:Jp0 K a.Jlq "passes" a.Jje
 Jeh:Cls K a.Jlr
 Jei:Sgm K a.Jlr
 Jej:Mk K a.Jlr a.Jjg
 Jek:Jp0 K a.Jlr "lets" a.Jiw
 Jel:Jp0 K a.Jlr "settings" a.Jji
 Jem:Jp0 K a.Jlr "passes" a.Jjk
 Jen:Cls K a.Jls
 Jeo:Sgm K a.Jls
 Jep:Mk K a.Jls a.Jjo
 Jeq:Cls K a.Jlt
 Jer:Sgm K a.Jlt
 Jes:Mk K a.Jlt a.Jjq
 Jet:Cls K a.Jlu
 Jeu:Mk K a.Jlu a.Jjy
 Jev:Jp0 K a.Jlu "place_of" a.Jk0
 Jew:Mk K a.Jlv a.Jk4
 Jex:NoAttr K a.Jlb "thing"
 Jey:NoAttr K a.Jlc "thing"
 Jez:NoAttr K a.Jld "thing"
 Jf0:NoAttr K a.Jle "thing"
 Jf1:NoAttr K a.Jlh "count"
 Jf2:NoAttr K a.Jlj "thing"
 Jf3:NoAttr K a.Jll "choice"
 Jf4:NoAttr K a.Jll "rain"
 Jf5:NoAttr K a.Jll "drawn"
 Jf6:NoAttr K a.Jll "paid"
 Jf7:NoAttr K a.Jll "outs"
 Jf8:NoAttr K a.Jll "levels"
 Jf9:NoAttr K a.Jll "wet"
 Jfa:NoAttr K a.Jll "broken"
 Jfb:NoAttr K a.Jlm "heft"
 Jfc:NoAttr K a.Jlm "river"
 Jfd:NoAttr K a.Jlm "row"
 Jfe:NoAttr K a.Jlm "listed"
 Jff:NoAttr K a.Jlm "places"
 Jfg:NoAttr K a.Jlm "falls"
 Jfh:NoAttr K a.Jlm "ends"
 Jfi:NoAttr K a.Jlo "marks"
 Jfj:NoAttr K a.Jlp "marks"
 Jfk:NoAttr K a.Jlq "marks"
 Jfl:NoAttr K a.Jlr "gate"
 Jfm:NoAttr K a.Jlr "setting"
 Jfn:NoAttr K a.Jls "name"
 Jfo:NoAttr K a.Jls "low"
 Jfp:NoAttr K a.Jls "high"
 Jfq:NoAttr K a.Jls "start"
 Jfr:NoAttr K a.Jls "rain"
 Jfs:NoAttr K a.Jls "gate"
 Jft:NoAttr K a.Jlt "name"
 Jfu:NoAttr K a.Jlt "basin"
 Jfv:NoAttr K a.Jlt "want"
 Jfw:NoAttr K a.Jlu "cloud"
 Jfx:NoAttr K a.Jlu "gain"
 Jfy:NoAttr K a.Jlu "basins"
 Jfz:NoAttr K a.Jlu "towns"
 Jg0:Sh K (.ref a.Jlo) (.ref a.Jln)=some true
 Jg1:Sh K (.ref a.Jlp) (.ref a.Jln)=some true
 Jg2:Sh K (.ref a.Jlq) (.ref a.Jln)=some true
 Jg3:Sh K (.ref a.Jlr) (.ref a.Jln)=some true
 Jg4:Sh K (.ref a.Jls) (.ref a.Jls)=some true
 Jg5:Sh K (.ref a.Jlt) (.ref a.Jlt)=some true
 Jg6:Sh K (.ref a.Jlo) (.type "bool")=some false
 Jg7:Sh K (.ref a.Jlp) (.type "bool")=some false
 Jg8:Sh K (.ref a.Jlq) (.type "bool")=some false
 Jg9:Sh K (.ref a.Jlr) (.type "bool")=some false
 Jga:W.kitAny K (.ref a.Jlo) [.ref a.Jlo,.ref a.Jlp,.ref a.Jlq,.ref a.Jlr]=some true
 Jgb:W.kitAny K (.ref a.Jlp) [.ref a.Jlo,.ref a.Jlp,.ref a.Jlq,.ref a.Jlr]=some true
 Jgc:W.kitAny K (.ref a.Jlq) [.ref a.Jlo,.ref a.Jlp,.ref a.Jlq,.ref a.Jlr]=some true
 Jgd:W.kitAny K (.ref a.Jlr) [.ref a.Jlo,.ref a.Jlp,.ref a.Jlq,.ref a.Jlr]=some true
 Jge:Sh K (.ref a.Jlo) (.ref a.Jlr)=some false
 Jgf:Sh K (.ref a.Jlp) (.ref a.Jlr)=some false
 Jgg:Sh K (.ref a.Jlq) (.ref a.Jlr)=some false
 Jgh:Sj K a.Jlj (.ref a.Jlj)=some true
 Jgi:Sj K a.Jlh (.ref a.Jlj)=some false
 Jgj:Sj K a.Jlh (.ref a.Jlh)=some true
noncomputable def Jnh:Int->List V->Bool
 |_,[]=>true
 |lo,.int i::r=>(decide (lo<=i)&&decide (i<=12))&&Jnh (i+1) r
 |_,_::_=>false
noncomputable def Jpt (lo:Int) (xs:List V):Bool:=decide (1<=xs.length/\xs.length<=4)&&Jnh lo xs
theorem Jtr (lo:Int) (x:V) (r:List V):Jnh lo (x::r)=(Jmn x lo 12&&match x with| .int i=>Jnh (i+1) r|_=>false):=by
 cases x <;> simp [Jnh,Jmn]
inductive Sq (H:Hp):V->List V->Prop where
 |lst {p:S4} {xs:List V}:H p=some (.lst xs)->Sq H (.ref p) xs
 |tup {p:S4} {xs:List V}:H p=some (.tup xs)->Sq H (.ref p) xs
theorem Sq.same {H H':Hp} {x:V} {xs:List V} (s:Sl H H') (h:Sq H x xs):Sq H' x xs:=by
 cases h with
 |lst e=>exact .lst (s _ _ e)
 |tup e=>exact .tup (s _ _ e)
theorem Sq.ty {K:Sg} {H:Hp} {x:V} {xs:List V} (h:Sq H x xs):∃t,TyX K H x t/\tpB t=true/\W.kitAny K t [.type "list",.type "tuple"]=some true:=by
 cases h with
 |lst e=>exact ⟨_,.of (.lst e),rfl,rfl⟩
 |tup e=>exact ⟨_,.of (.tup e),rfl,rfl⟩
inductive Shp (K:Sg) (H:Hp) (lo:Int):V->Bool->Prop where
 |seq {x:V} {xs:List V}:Sq H x xs->(∀y∈xs,Tm K H y)->Shp K H lo x (Jpt lo xs)
 |non {x:V} {t:S5}:TyX K H x t->W.kitAny K t [.type "list",.type "tuple"]=some false->Shp K H lo x false
inductive Ssi (K:Sg) (vs:List V) (H:Hp) (Q:VK) (z3:XK):Prop where
 |mk (x:V) (lo:Int) (b:Bool) (_:vs= [x,.int lo]) (_:Shp K H lo x b) (_:∀H',Sl H H'->Q (.bl b) H')
inductive Rf (a:Ad) (H H':Hp) (x:V) (c:S5) (eo:Option S4):Prop where
 |mk (e:_) (dx:_) (_:c= .ref a.Jlc) (_:eo=some e) (_:Sl H H') (_:H' e=some (XO e a.Jlc (some dx) false)) (_:H' dx=some (XD dx [("thing",x)]))
theorem Rf.of {a:Ad} {H H1 H':Hp} {x:V} {c:S5} {eo:Option S4} (s:Sl H H1) (h:Rf a H1 H' x c eo):Rf a H H' x c eo:=by
 obtain ⟨e,dx,h1,h2,h3,h4,h5⟩:=h;exact ⟨e,dx,h1,h2,s.trans h3,h4,h5⟩
theorem Rf.new {a:Ad} {H:Hp} {x:V} {e dx:S4} (h1:H e=none) (h2:H dx=none) (ne:dx≠e):Rf a H (upd (upd (upd H dx (XD dx [("thing",x)])) e (XO e a.Jlc (some dx) true)) e (XO e a.Jlc (some dx) false)) x (.ref a.Jlc) (some e):=by
 refine ⟨e,dx,rfl,rfl,?_,Sr,?_⟩
 ·rw [Jnr];intro b o q;rw [Sx (Jm2 q h1),Sx (Jm2 q h2)];exact q
 ·rw [Sx ne,Sx ne,Sr]
inductive Sny (K:Sg) (a:Ad) (vs:List V) (H:Hp) (Q:VK) (E:XK):Prop where
 |mk (x:V) (lo:Int) (_:vs= [x,.int lo]) (_:((∃xs,Sq H x xs/\(∀y∈xs,Tm K H y)/\Jpt lo xs=true/\∀t H',Sl H H'->H' t=some (.tup xs)->Q (.ref t) H')\/(Shp K H lo x false/\∀c eo H',Rf a H H' x c eo->E c eo H')))
noncomputable def IsC (a:Ad) (C:S4):Prop:=C=a.Jlo\/C=a.Jlp\/C=a.Jlq
inductive Sc1 (C:S4) (H:Hp) (g:S4) (xs:List V):Prop where
 |mk (dx:_) (t:_) (_:H g=some (.ins C dx [("marks",.ref t)])) (_:H t=some (.tup xs))
theorem Sc1.same {C:S4} {H H':Hp} {g:S4} {xs:List V} (s:Sl H H') (h:Sc1 C H g xs):Sc1 C H' g xs:=by obtain ⟨dx,t,h1,h2⟩:=h;exact ⟨dx,t,s _ _ h1,s _ _ h2⟩
inductive Jyn (K:Sg) (a:Ad) (lo:Int) (vs:List V) (H:Hp) (Q:VK) (E:XK):Prop where
 |mk (p C dx:S4) (x:V) (_:vs= [.ref p,x]) (_:H p=some (.ins C dx [])) (_:Cls K C) (_:NoAttr K C "marks") (_:((∃xs,Sq H x xs/\(∀y∈xs,Tm K H y)/\Jpt lo xs=true/\∀t H',Sl H H'->H' t=some (.tup xs)->Q .non (upd H' p (.ins C dx [("marks",.ref t)])))\/(Shp K H lo x false/\∀c eo H',Rf a H H' x c eo->E c eo H')))
inductive Yem (C:S4) (vs:List V) (H:Hp) (Q:VK) (z3:XK):Prop where
 |mk (p:S4) (xs:List V) (_:vs= [.ref p]) (_:Sc1 C H p xs) (_:Q (.int xs.length) H)
inductive Ssl (vs:List V) (H:Hp) (Q:VK) (z3:XK):Prop where
 |mk (x:_) (_:vs= [x]) (_:Q (.int 1) H)
inductive GS (K:Sg) (a:Ad) (H:Hp):V->Nat->Prop where
 |plain {g C:S4} {xs:List V}:IsC a C->Sc1 C H g xs->xs.length<=4->GS K a H (.ref g) xs.length
 |stuck {g dx:S4} {x y:V}:H g=some (.ins a.Jlr dx [("gate",x),("setting",y)])->GS K a H (.ref g) 1
theorem GS.same {K:Sg} {a:Ad} {H H':Hp} {x:V} {n:Nat} (s:Sl H H') (h:GS K a H x n):GS K a H' x n:=by
 cases h with
 |plain i g l=>exact .plain i (g.same s) l
 |stuck e=>exact .stuck (s _ _ e)
inductive Ygk (K:Sg) (a:Ad) (vs:List V) (H:Hp) (Q:VK) (E:XK):Prop where
 |mk (p dx:S4) (x y:V) (_:vs= [.ref p,x,y]) (_:H p=some (.ins a.Jlr dx [])) (_:((∃t,TyX K H x t/\Sh K t (.ref a.Jln)=some false/\∀c eo H',Rf a H H' x c eo->E c eo H')\/(∃n,GS K a H x n/\Tm K H y/\Jmn y 0 (n - 1)=false/\∀c eo H',Rf a H H' y c eo->E c eo H')\/(∃n,GS K a H x n/\Tm K H y/\Jmn y 0 (n - 1)=true/\Q .non (upd H p (.ins a.Jlr dx [("gate",x),("setting",y)])))))
noncomputable def Knd (z:Str):Prop:=z=("step" :Str)\/z=("flap" :Str)\/z=("part" :Str)
noncomputable def Jp9 (z:Str):Int:=if z=("part" :Str) then 1 else 0
noncomputable def cOf (a:Ad) (z:Str):S4:=if z=("step" :Str) then a.Jlo else if z=("flap" :Str) then a.Jlp else a.Jlq
theorem Ycs {a:Ad} {z:Str}:IsC a (cOf a z):=by
 unfold cOf;split
 ·exact .inl rfl
 ·split
  ·exact .inr (.inl rfl)
  ·exact .inr (.inr rfl)
theorem Jxc:¬(("part" :Str)="step"):=by decide +kernel
theorem Jxb:¬(("part" :Str)="flap"):=by decide +kernel
theorem Jxa:¬(("flap" :Str)="step"):=by decide +kernel
theorem Srx:¬(("flap" :Str)="part"):=by decide +kernel
theorem Sry:¬(("step" :Str)="part"):=by decide +kernel
theorem Soj {x y:Str} (h:¬x=y):¬V.str x=V.str y:=λe=>h (V.str.inj e)
noncomputable def LET:Str:="abcdefghijklmnopqrstuvwxyz"
noncomputable def Jwn (g z:Str):Bool:=z.cps.toList.all λc=>decide (c∈g.cps.toList)
noncomputable def Jpr (z:Str):Bool:=decide (1<=z.length/\z.length<=8)&&Jwn LET z
structure Wd (n:Nat) (z:Str):Prop where
 len:z.length<=n
 low:∀c∈z.cps.toList,c < 128
theorem Yat (z:Str):z.cps.toList.length=z.length:=ybv
theorem Ycq {g:Str} {r:Int} (h0:0<=r) (h1:r < g.length):∃c,c∈g.cps.toList/\atI g.cps.toList r=some c:=by
 obtain ⟨n,rfl⟩:=ycc h0;have hn:n < g.cps.toList.length:=by rw [Yat];omega
 exact ⟨g.cps.toList[n],ybb hn,Js1 (yh hn)⟩
theorem Sp3 {z:Str} {n:Nat} (h:(decide (z.length<=n)&&z.cps.toList.all (λc=>decide (c < 128)))=true):Wd n z:=by
 rw [yan] at h;exact ⟨of_decide_eq_true h.1,λc hc=>of_decide_eq_true (ybf.mp h.2 c hc)⟩
theorem Sp2:Wd 26 LET:=Sp3 (by decide +kernel)
noncomputable def Joy:V->Bool
 | .str z=>Jpr z
 |_=>false
noncomputable def Nmd (K:Sg) (H:Hp) (x:V):Prop:=Tm K H x/\∀z,x= .str z->Wd 50 z
inductive So7 (vs:List V) (H:Hp) (Q:VK) (z3:XK):Prop where
 |mk (z g:Str) (_:vs= [.str z,.str g]) (_:z.length<=2000) (_:∀H',Sl H H'->Q (.bl (Jwn g z)) H')
inductive So8 (K:Sg) (vs:List V) (H:Hp) (Q:VK) (z3:XK):Prop where
 |mk (x:V) (_:vs= [x]) (_:Nmd K H x) (_:∀H',Sl H H'->Q (.bl (Joy x)) H')
inductive RfC (C:S4) (H H':Hp) (x:V) (c:S5) (eo:Option S4):Prop where
 |mk (e:_) (dx:_) (_:c= .ref C) (_:eo=some e) (_:Sl H H') (_:H' e=some (XO e C (some dx) false)/\H' dx=some (XD dx [("thing",x)]))
theorem RfC.of {C:S4} {H H1 H':Hp} {x:V} {c:S5} {eo:Option S4} (s:Sl H H1) (h:RfC C H1 H' x c eo):RfC C H H' x c eo:=by
 obtain ⟨e,dx,h1,h2,h3,h4,h5⟩:=h;exact ⟨e,dx,h1,h2,s.trans h3,h4,h5⟩
theorem RfC.new {C:S4} {H:Hp} {x:V} {e dx:S4} (h1:H e=none) (h2:H dx=none) (ne:dx≠e):RfC C H (upd (upd (upd H dx (XD dx [("thing",x)])) e (XO e C (some dx) true)) e (XO e C (some dx) false)) x (.ref C) (some e):=by
 refine ⟨e,dx,rfl,rfl,?_,Sr,?_⟩
 ·rw [Jnr];intro b o q;rw [Sx (Jm2 q h1),Sx (Jm2 q h2)];exact q
 ·rw [Sx ne,Sx ne,Sr]
inductive Ycc (K:Sg) (a:Ad) (vs:List V) (H:Hp) (Q:VK) (E:XK):Prop where
 |mk (x:V) (lo hi:Int) (_:vs= [x,.int lo,.int hi]) (_:Tm K H x) (_:((Jmn x lo hi=true/\Q .non H)\/(Jmn x lo hi=false/\∀c eo H',RfC a.Jld H H' x c eo->E c eo H')))
inductive Due (n lo hi st rn g:V) (gb:Bool):Option (Nat×V)->Prop
 |name:Joy n=false->Due n lo hi st rn g gb (some (0,n))
 |low:Joy n=true->Jmn lo 0 12=false->Due n lo hi st rn g gb (some (1,lo))
 |high (l:Int):Joy n=true->lo= .int l->Jmn lo 0 12=true->Jmn hi l 12=false->Due n lo hi st rn g gb (some (1,hi))
 |start (l h:Int):Joy n=true->lo= .int l->hi= .int h->Jmn lo 0 12=true->Jmn hi l 12=true->Jmn st l h=false->Due n lo hi st rn g gb (some (1,st))
 |rain (l h:Int):Joy n=true->lo= .int l->hi= .int h->Jmn lo 0 12=true->Jmn hi l 12=true->Jmn st l h=true->Jmn rn 0 6=false->Due n lo hi st rn g gb (some (1,rn))
 |gate (l h:Int):Joy n=true->lo= .int l->hi= .int h->Jmn lo 0 12=true->Jmn hi l 12=true->Jmn st l h=true->Jmn rn 0 6=true->gb=false->Due n lo hi st rn g gb (some (2,g))
 |good (l h:Int):Joy n=true->lo= .int l->hi= .int h->Jmn lo 0 12=true->Jmn hi l 12=true->Jmn st l h=true->Jmn rn 0 6=true->gb=true->Due n lo hi st rn g gb none
inductive Sih (n b wt:V):Option (Nat×V)->Prop
 |name:Joy n=false->Sih n b wt (some (0,n))
 |basin:Joy n=true->Joy b=false->Sih n b wt (some (0,b))
 |want:Joy n=true->Joy b=true->Jmn wt 1 6=false->Sih n b wt (some (3,wt))
 |good:Joy n=true->Joy b=true->Jmn wt 1 6=true->Sih n b wt none
noncomputable def Sxt (a:Ad):Nat->S4
 |0=>a.Jlb
 |1=>a.Jld
 |2=>a.Jlc
 |_=>a.Jle
inductive GtI (K:Sg) (a:Ad) (H:Hp) (g:V) (gb:Bool):Prop where
 |mk (t:_) (_:TyX K H g t) (_:Sh K t (.ref a.Jln)=some gb/\W.kitAny K t [.ref a.Jlo,.ref a.Jlp,.ref a.Jlq,.ref a.Jlr]=some gb/\∃b,Sh K t (.type "bool")=some b/\(gb=true->b=false)/\t≠ .type "float")
noncomputable def Sm8 (n lo hi st rn g:V):List (Str×V):=[("name",n),("low",lo),("high",hi),("start",st),("rain",rn),("gate",g)]
noncomputable def twnF (n b wt:V):List (Str×V):=[("name",n),("basin",b),("want",wt)]
noncomputable def Sk9 (a:Ad) (d:Option (Nat×V)) (H:Hp) (E:XK) (G:Prop):Prop:=match d with
 |none=>G
 |some (k,x)=>∀c eo H',RfC (Sxt a k) H H' x c eo->E c eo H'
inductive Ygg (K:Sg) (a:Ad) (vs:List V) (H:Hp) (Q:VK) (E:XK):Prop where
 |mk (p dx:S4) (n lo hi st rn g:V) (gb:Bool) (d:Option (Nat×V)) (_:vs= [.ref p,n,lo,hi,st,rn,g]) (_:H p=some (.ins a.Jls dx [])) (_:Nmd K H n) (_:Tm K H lo) (_:Tm K H hi) (_:Tm K H st) (_:Tm K H rn) (_:GtI K a H g gb) (_:Due n lo hi st rn g gb d) (_:Sk9 a d H E (∀H',Sl H H'->Q .non (upd H' p (.ins a.Jls dx (Sm8 n lo hi st rn g)))))
inductive Sof (K:Sg) (a:Ad) (vs:List V) (H:Hp) (Q:VK) (E:XK):Prop where
 |mk (p dx:S4) (n b wt:V) (d:Option (Nat×V)) (_:vs= [.ref p,n,b,wt]) (_:H p=some (.ins a.Jlt dx [])) (_:Nmd K H n) (_:Nmd K H b) (_:Tm K H wt) (_:Sih n b wt d) (_:Sk9 a d H E (∀H',Sl H H'->Q .non (upd H' p (.ins a.Jlt dx (twnF n b wt)))))
theorem Nmd.same {K:Sg} {H H':Hp} {x:V} (s:Sl H H') (h:Nmd K H x):Nmd K H' x:=⟨h.1.same s,h.2⟩
theorem Jyv {K:Sg} {H H':Hp} {x:V} {t:S5} (s:Sl H H') (h:TyX K H x t):TyX K H' x t:=h.same (λb o _ q=>s b o q) (λb fs q=>s b _ q)
theorem GtI.same {K:Sg} {a:Ad} {H H':Hp} {g:V} {gb:Bool} (s:Sl H H') (h:GtI K a H g gb):GtI K a H' g gb:=by obtain ⟨t,ty,r⟩:=h;exact ⟨t,Jyv s ty,r⟩
theorem Soz {K:Sg} {H:Hp} {x:V} {t:S5} (h:TyX K H x t) (e:t= .type "str"):∃z,x= .str z:=by
 cases h with
 |exc=>cases e
 |of ty=>
  cases ty with
  |str z=>exact ⟨z,rfl⟩
  |ins=>cases e
  |non=>exact absurd (Value.type.inj e) (by decide)
  |bl=>exact absurd (Value.type.inj e) (by decide)
  |int=>exact absurd (Value.type.inj e) (by decide)
  |flt=>exact absurd (Value.type.inj e) (by decide)
  |lst=>exact absurd (Value.type.inj e) (by decide)
  |frz=>exact absurd (Value.type.inj e) (by decide)
  |tup=>exact absurd (Value.type.inj e) (by decide)
  |dK=>exact absurd (Value.type.inj e) (by decide)
  |dT=>exact absurd (Value.type.inj e) (by decide)
structure Bsn where
 z:Str
 lo:Int
 hi:Int
 st:Int
 rn:Int
 g:V
 n:Nat
inductive Scb (K:Sg) (a:Ad) (H:Hp) (o:S4) (B:Bsn):Prop where
 |mk (dx:_) (_:H o=some (.ins a.Jls dx (Sm8 (.str B.z) (.int B.lo) (.int B.hi) (.int B.st) (.int B.rn) B.g))) (_:GS K a H B.g B.n)
theorem Scb.same {K:Sg} {a:Ad} {H H':Hp} {o:S4} {B:Bsn} (s:Sl H H') (h:Scb K a H o B):Scb K a H' o B:=by obtain ⟨dx,h1,h2⟩:=h;exact ⟨dx,s _ _ h1,h2.same s⟩
structure Twn where
 z:Str
 b:Str
 wt:Int
inductive Scp (a:Ad) (H:Hp) (o:S4) (B:Twn):Prop where
 |mk (dx:_) (_:H o=some (.ins a.Jlt dx (twnF (.str B.z) (.str B.b) (.int B.wt))))
theorem Scp.same {a:Ad} {H H':Hp} {o:S4} {B:Twn} (s:Sl H H') (h:Scp a H o B):Scp a H' o B:=by obtain ⟨dx,h1⟩:=h;exact ⟨dx,s _ _ h1⟩
noncomputable def Sbx (K:Sg) (a:Ad) (H:Hp):List S4->List Bsn->Prop
 | [],[]=>True
 |o::os,B::Bs=>Scb K a H o B/\Sbx K a H os Bs
 |_,_=>False
noncomputable def Sc5 (a:Ad) (H:Hp):List S4->List Twn->Prop
 | [],[]=>True
 |o::os,B::Bs=>Scp a H o B/\Sc5 a H os Bs
 |_,_=>False
theorem Sbx.same {K:Sg} {a:Ad} {H H':Hp} (s:Sl H H'):∀{os:List S4} {Bs:List Bsn},Sbx K a H os Bs->Sbx K a H' os Bs:=by
 intro os
 induction os with
 |nil=>
  intro Bs h;cases Bs with
  |nil=>exact True.intro
  |cons B Bs=>exact False.elim h
 |cons o os ih=>
  intro Bs h;cases Bs with
  |nil=>exact False.elim h
  |cons B Bs=>exact ⟨(yat h).same s,ih (yao h)⟩
theorem Sc5.same {a:Ad} {H H':Hp} (s:Sl H H'):∀{os:List S4} {Bs:List Twn},Sc5 a H os Bs->Sc5 a H' os Bs:=by
 intro os
 induction os with
 |nil=>
  intro Bs h;cases Bs with
  |nil=>exact True.intro
  |cons B Bs=>exact False.elim h
 |cons o os ih=>
  intro Bs h;cases Bs with
  |nil=>exact False.elim h
  |cons B Bs=>exact ⟨(yat h).same s,ih (yao h)⟩
theorem Sbx.len {K:Sg} {a:Ad} {H:Hp} {os:List S4}:∀{Bs:List Bsn},Sbx K a H os Bs->os.length=Bs.length:=by
 induction os with
 |nil=>
  intro Bs h;cases Bs with
  |nil=>rfl
  |cons B Bs=>exact h.elim
 |cons o os ih=>
  intro Bs h;cases Bs with
  |nil=>exact h.elim
  |cons B Bs=>rw [yag,yag,ih h.2]
theorem Sc5.len {a:Ad} {H:Hp} {os:List S4}:∀{Bs:List Twn},Sc5 a H os Bs->os.length=Bs.length:=by
 induction os with
 |nil=>
  intro Bs h;cases Bs with
  |nil=>rfl
  |cons B Bs=>exact h.elim
 |cons o os ih=>
  intro Bs h;cases Bs with
  |nil=>exact h.elim
  |cons B Bs=>rw [yag,yag,ih h.2]
theorem Sbx.get {K:Sg} {a:Ad} {H:Hp}:∀{os:List S4} {Bs:List Bsn} {i:Nat} {v:V},Sbx K a H os Bs->(os.map V.ref)[i]?=some v->∃o B,v= .ref o/\Bs[i]?=some B/\Scb K a H o B:=by
 intro os
 induction os with
 |nil=>intro Bs i v h e;simp at e
 |cons o os ih=>
  intro Bs i v h e;cases Bs with
  |nil=>exact False.elim h
  |cons B Bs=>
   cases i with
   |zero=>exact ⟨o,B,by simpa using e.symm,rfl,yat h⟩
   |succ i=>exact ih (Bs:=Bs) (i:=i) (yao h) (by simpa using e)
theorem Sc5.get {a:Ad} {H:Hp}:∀{os:List S4} {Bs:List Twn} {i:Nat} {v:V},Sc5 a H os Bs->(os.map V.ref)[i]?=some v->∃o B,v= .ref o/\Bs[i]?=some B/\Scp a H o B:=by
 intro os
 induction os with
 |nil=>intro Bs i v h e;simp at e
 |cons o os ih=>
  intro Bs i v h e;cases Bs with
  |nil=>exact False.elim h
  |cons B Bs=>
   cases i with
   |zero=>exact ⟨o,B,by simpa using e.symm,rfl,yat h⟩
   |succ i=>exact ih (Bs:=Bs) (i:=i) (yao h) (by simpa using e)
inductive Yep (K:Sg) (vs:List V) (H:Hp) (Q:VK) (z3:XK):Prop where
 |mk (l:S4) (zs:List Str) (_:vs= [.ref l]) (_:Sz K H l (zs.map V.str)) (_:zs.length<=2000) (_:∀H',Sl H H'->Q (.bl (decide ((uq zs).length=zs.length))) H')
inductive Yee (K:Sg) (a:Ad) (vs:List V) (H:Hp) (Q:VK) (z3:XK):Prop where
 |mk (l:S4) (os:List S4) (Bs:List Bsn) (_:vs= [.ref l]) (_:H l=some (.lst (os.map V.ref))) (_:Sbx K a H os Bs) (_:(1<=Bs.length/\Bs.length<=16)) (_:(Bs.map (·.z)).Nodup) (_:∀H',Sl H H'->Q (.bl true) H')
inductive Ygt (K:Sg) (a:Ad) (vs:List V) (H:Hp) (Q:VK) (z3:XK):Prop where
 |mk (l m:S4) (os ts:List S4) (Bs:List Bsn) (Ts:List Twn) (_:vs= [.ref m,.ref l]) (_:H l=some (.lst (os.map V.ref))) (_:Sbx K a H os Bs) (_:Bs.length<=16) (_:H m=some (.lst (ts.map V.ref))) (_:Sc5 a H ts Ts) (_:Ts.length<=3) (_:(Ts.map (·.z)).Nodup) (_:(∀t∈Ts,t.b∈Bs.map (·.z))) (_:∀H',Sl H H'->Q (.bl true) H')
section
variable {P:Sa} {w:Sc} {K:Sg} {mg:Str->Option S5} {base:Se} {a:Ad}
theorem Jru:Jm6 ["self","thing"] ["self","thing"] (Jm5 (Jmc (top 4) 0)):=%[|0]
theorem Jol (T:Tx K mg a):Sv P w K mg base CX0 1 a.Jgm a.Jgn ["self","thing"] (Jp7 K "thing"):=by
 refine %[T.Jcm.fn.ok,Jru|2]
 ·obtain ⟨e,C,W,fI,y,rfl,_⟩:=h;rfl
 ·obtain ⟨e,C,W,fI,y,rfl,q,c,n,k⟩:=h;refine ⟨_,(Jm1 (Jp3 (pv 0) (pv 1) rfl)),?_⟩;exact ⟨_,rfl,_,rfl,e,C,W,fI,true,rfl,q,c,n,k⟩
theorem Jzs:Jm6 ["thing","low","high"] ["thing","low","high"] (Jm5 (top 16)):=%[|0]
theorem Jnx (T:Tx K mg a):Sv P w K mg base CX0 1 a.Jh2 a.Jh3 ["thing","low","high"] (Ygw K):=by
 refine %[T.J0.fn.ok,Jzs|2]
 ·obtain ⟨x,lo,hi,rfl,_⟩:=h;rfl
 ·obtain ⟨x,lo,hi,rfl,tm,k⟩:=h;refine ⟨_,(Jlz (Jmr (PW.pt (Jxg (Jn5 (Jm8 Jos (by rfl) T.Jat Jmx (Sm (pv 0) (Sm (Jor (v:=.ty "bool") (by rfl) T.Jap Yf7 rfl) So)))) (Jtg (Jn3 (Jn5 (Jm8 Jos (by rfl) T.Jat Jmx (Sm (pv 0) (Sm (Jor (v:=.ty "int") (by rfl) T.Jas Ycr rfl) So)))))))) (Jm1 (Jma Jny)) Jme)
   (Jm1 (Jma (Jzn Jqm Jqm (pv 1) (pv 0) (pv 2))))),?_⟩
  rcases tm with ⟨i,rfl⟩|⟨t,ty,ht⟩
  ·refine ⟨_,rfl,_,_,_,_,_,rfl,rfl,.of (.int i),(by rfl:Sh K (.type "int") (.type "bool")=some false),_,rfl,Jn9 ⟨_,rfl,_,_,_,_,_,rfl,rfl,.of (.int i),(by rfl:Sh K (.type "int") (.type "int")=some true),_,rfl,Jn9 ?_⟩⟩;refine ⟨_,rfl,_,rfl,_,_,rfl,rfl,_,rfl,?_⟩;have k':Q (.bl (decide (lo<=i)&&decide (i<=hi))) H:=k;by_cases h1:lo<=i
   ·rw [decide_eq_true h1] at k'⊢;exact Jo2 ⟨_,rfl,_,_,rfl,rfl,by simpa using k'⟩
   ·rw [decide_eq_false h1] at k'⊢;exact Jn9 (by simpa using k')
  ·rw [Yfr ty ht] at k;have e:=Sou (K:=K) ht;cases eb:(t== .type "bool") with
   |true=>
    rw [eb] at e;exact ⟨_,rfl,_,_,_,_,_,rfl,rfl,ty,e.2,_,rfl,Jo2 (Jo2 k)⟩
   |false=>
    rw [eb] at e;exact ⟨_,rfl,_,_,_,_,_,rfl,rfl,ty,e.2,_,rfl,Jn9 ⟨_,rfl,_,_,_,_,_,rfl,rfl,ty,e.1,_,rfl,Jo2 k⟩⟩
theorem Sbv:Jm6 ["thing","lowest","least","mark"] ["thing","lowest"] (Jm5 (top 54)):=%[|0]
theorem Jy0 (T:Tx K mg a):Sv P w K mg base CX0 2 a.Jis a.Jit ["thing","lowest"] (Ssi K):=by
 have Sa4:=%[Jnx|1];refine %[T.Jq.fn.ok,Sbv|2]
 ·obtain ⟨x,lo,b,rfl,_⟩:=h;rfl
 ·obtain ⟨x,lo,b,rfl,sh,k⟩:=h;refine ⟨_,(Jlz (Jmr (Jn3 (Jn5 (Jm8 Jur (by rfl) T.Jat Jmx (Sm (pv 0) (Sm (Jmz (Sm (Jor (v:=.ty "list") (by rfl) T.Jav Joq rfl) (Sm (Jor (v:=.ty "tuple") (by rfl) T.Jb3 Jo5 rfl) So))) So))))) (Jm1 (Jma Jny)) Jme)
   (Jlz (Jmr (Jn3 (Jvu Jqm Jqm Su (Jm8 Jmg (by rfl) T.Jau Jnc (Sm (pv 0) So)) (Jnb (by rfl) T.Jae (v:=.int 4) ⟨_,rfl⟩))) (Jm1 (Jma Jny)) Jme)
   (Jlz (Jmb (i:=2) Sbv.nd rfl (yf rfl) (pv 1))
   (Jlz (Jnq PassesOwn.never rfl (Snb (pv 0)) (Jm7 (i:=3) Sbv.nd rfl (yf rfl)) (Jlz (Jmr (Jn3 (Jn5 (Jm4 T.J0 Sa4 hr (by decide) (Sm (pv 3) (Sm (pv 2) (Sm (Jnb (by rfl) T.Jaf (v:=.int 12) ⟨_,rfl⟩) So)))))) (Jm1 (Jma Jny)) Jme)
    (Jm1 (Jmb (i:=2) Sbv.nd rfl (yf rfl) (Jm9 Jml (pv 3) Su)))))
   (Jm1 (Jma Jny)))))),?_⟩
  cases sh with
  | @non t ty e=>
   refine ⟨_,rfl,(show 2<=S9 by decide),λp hp=>⟨_,p,_,_,t,_,rfl,Sr,rfl,ty.same (λb o _ q=>Sl.upd hp b o q) (λb fs q=>Sl.upd hp b _ q),e,_,rfl,Jo2 (k _ (Sl.upd hp))⟩⟩
  | @seq xs sq tms=>
   obtain ⟨t,ty,_,e⟩:=sq.ty (K:=K);refine ⟨_,rfl,(show 2<=S9 by decide),λp hp=>⟨_,p,_,_,t,_,rfl,Sr,rfl,ty.same (λb o _ q=>Sl.upd hp b o q) (λb fs q=>Sl.upd hp b _ q),e,_,rfl,Jn9 ?_⟩⟩;have s1:=Sl.upd (o:=.tup [.ty "list",.ty "tuple"]) hp;have sq1:=sq.same s1;obtain ⟨q,rfl⟩:∃q,x= .ref q:=by cases sq <;> exact ⟨_,rfl⟩
   have len:Sz K (upd H p (.tup [.ty "list",.ty "tuple"])) q xs\/SqT K (upd H p (.tup [.ty "list",.ty "tuple"])) q xs:=by
    cases sq1 with
    |lst e=>exact .inl (Sz.of e)
    |tup e=>exact .inr (SqT.of e)
   refine ⟨_,rfl,q,xs,rfl,len,_,_,rfl,rfl,_,rfl,?_⟩;have no:Jpt lo xs=false->∀H',Sl H H'->Q (.bl false) H':=λz H' s'=>by
    have:=k H' s';rw [z] at this;exact this
   by_cases h1:(1:Int)<=(xs.length:Int)
   ·rw [decide_eq_true h1];refine Jo2 ⟨_,_,rfl,rfl,_,rfl,?_⟩;by_cases h2:(xs.length:Int)<=4
    ·rw [decide_eq_true h2];refine Jn9 ⟨_,rfl,?_⟩;have lz:decide (1<=xs.length/\xs.length<=4)=true:=decide_eq_true (by omega);have ar:Jpt lo xs=Jnh lo xs:=by unfold Jpt;rw [lz,Bool.true_and]
     refine ⟨_,rfl,q,rfl,Yfd (xs:=xs) (λi σ H'=>∃(l:Int) (o:Option V),σ= [some (.ref q),some (.int lo),some (.int l),o]/\H'=upd H p (.tup [.ty "list",.ty "tuple"])/\Jnh lo xs=Jnh l (xs.drop i)) ⟨lo,_,rfl,rfl,rfl⟩ ?_ ?_ ?_⟩
     ·rcases len with z|z
      ·exact .inl λi σ H' _ ⟨_,_,_,e,_⟩=>by rw [e];exact z
      ·exact .inr λi σ H' _ ⟨_,_,_,e,_⟩=>by rw [e];exact z
     ·rintro i y σ H' hy ⟨l,o,rfl,rfl,em⟩;have hd:xs.drop i=y::xs.drop (i+1):=by
       obtain ⟨hi,rfl⟩:=yi.mp hy;exact List.drop_eq_getElem_cons hi
      refine ⟨_,rfl,_,rfl,y,l,12,rfl,(tms y (yr hy)).same s1,_,rfl,?_⟩;cases z:Jmn y l 12 with
      |false=>
       refine Jo2 (no ?_ _ s1);rw [ar,em,hd,Jtr,z,Bool.false_and]
      |true=>
       rw [hd,Jtr,z,Bool.true_and] at em;cases y with
       |int i'=>exact Jn9 ⟨_,rfl,_,_,rfl,rfl,i'+1,_,rfl,rfl,em⟩
       |_=>cases z
     ·rintro σ H' ⟨l,o,rfl,rfl,em⟩;have e:Jpt lo xs=true:=by rw [ar,em,List.drop_of_length_le (yg _)];rfl
      have:=k _ s1;rw [e] at this;exact this
    ·rw [decide_eq_false h2];refine Jo2 (no ?_ _ s1);unfold Jpt;rw [decide_eq_false (by omega:¬(1<=xs.length/\xs.length<=4)),Bool.false_and]
   ·rw [decide_eq_false h1];refine Jn9 ⟨_,rfl,Jo2 (no ?_ _ s1)⟩;unfold Jpt;rw [decide_eq_false (by omega:¬(1<=xs.length/\xs.length<=4)),Bool.false_and]
theorem Jwi:Jm6 ["marks","lowest"] ["marks","lowest"] (Jm5 (top 55)):=%[|0]
theorem Jpk (T:Tx K mg a):Sv P w K mg base (CXX P w) 3 a.Jiu a.Jiv ["marks","lowest"] (Sny K a):=by
 have Sg8:=%[Jy0|1];have Sa5:=%[Jol|1];refine %[T.Jr.fn.okX,Jwi|2]
 ·obtain ⟨x,lo,rfl,_⟩:=h;rfl
 ·obtain ⟨x,lo,rfl,h⟩:=h;refine ⟨_,(Jlz (Jmr (Jn3 (Jn5 (Jm4 T.Jq Sg8 hr (by decide) (Sm (pv 0) (Sm (pv 1) So))))) (Jm1 (Jn7 Jn6 rfl (Jnz T.Jdi Sa5 hr (by decide) T.Jcm.bd T.Jb6 (Sm (pv 0) So)))) Jme)
   (Jm1 (Jma (Jms Jng (by rfl) T.Jb3 Jo5 (Sm (pv 0) So))))),?_⟩
  rcases h with ⟨xs,sq,tms,e,k⟩|⟨sh,k⟩
  ·have sh:=Shp.seq (lo:=lo) sq tms;rw [e] at sh;refine ⟨_,rfl,_,rfl,x,lo,true,rfl,sh,λH1 s1=>⟨_,rfl,Jn9 ?_⟩⟩;cases sq with
   |lst e=>exact ⟨_,rfl,_,xs,rfl,.inl ⟨Sz.of (s1 _ _ e),λl hl=>k l _ (s1.trans (Sl.upd hl)) Sr⟩⟩
   |tup e=>exact ⟨_,rfl,_,xs,rfl,.inr ⟨SqT.of (s1 _ _ e),k _ _ s1 (s1 _ _ e)⟩⟩
  ·exact ⟨_,rfl,_,rfl,x,lo,false,rfl,sh,λH1 s1=>⟨_,rfl,Jo2 (Jo0 T.Jdi T.Jey rfl λe dx h1 h2 h3=>k _ _ _ ((Rf.new h1 h2 h3).of s1))⟩⟩
theorem Jqs:Jm6 ["self","marks"] ["self","marks"] (Jm5 (Jmc (top 58) 0)):=%[|0]
theorem Jt8 (T:Tx K mg a):Sv P w K mg base (CXX P w) 4 a.Jiy a.Jiz ["self","marks"] (Jyn K a 0):=by
 have Sbg:=%[Jpk|1];refine %[T.Jd0.fn.okX,Jqs|2]
 ·obtain ⟨p,C,dx,x,rfl,_⟩:=h;rfl
 ·obtain ⟨p,C,dx,x,rfl,hp,c,n,h⟩:=h;refine ⟨_,(Jm1 (Jmw (pv 0) (Jo7 T.Jr Sbg Jn6 hr (by decide) (Sm (pv 1) (Sm Su So))) rfl)),?_⟩;rcases h with ⟨xs,sq,tms,e,k⟩|⟨sh,k⟩
  ·exact ⟨_,rfl,x,0,rfl,.inl ⟨xs,sq,tms,e,λt H' s' ht=>⟨_,rfl,p,C,dx,[],rfl,s' _ _ hp,c,n,by simp,k t H' s' ht⟩⟩⟩
  ·exact ⟨_,rfl,x,0,rfl,.inr ⟨sh,k⟩⟩
theorem Jqt:Jm6 ["self"] ["self"] (Jm5 (Jmc (top 58) 1)):=%[|0]
theorem Jqk (T:Tx K mg a):Sv P w K mg base CX0 1 a.Jj0 a.Jj1 ["self"] (Yem a.Jlo):=by
 refine %[T.Jd1.fn.ok,Jqt|2]
 ·obtain ⟨p,xs,rfl,_⟩:=h;rfl
 ·obtain ⟨p,xs,rfl,⟨dx,t,h1,h2⟩,k⟩:=h;refine ⟨_,(Jm1 (Jma (Jm8 Jmg (by rfl) T.Jau Jnc (Sm (Jmd (pv 0) (by rfl)) So)))),?_⟩;exact ⟨_,rfl,p,_,dx,_,_,rfl,h1,T.Jdz,T.Jfi,rfl,t,xs,rfl,.inr (SqT.of h2),k⟩
theorem Jqn:Jm6 ["self","marks"] ["self","marks"] (Jm5 (Jmc (top 59) 0)):=%[|0]
theorem Jt5 (T:Tx K mg a):Sv P w K mg base (CXX P w) 4 a.Jj4 a.Jj5 ["self","marks"] (Jyn K a 0):=by
 have Sbg:=%[Jpk|1];refine %[T.Jd3.fn.okX,Jqn|2]
 ·obtain ⟨p,C,dx,x,rfl,_⟩:=h;rfl
 ·obtain ⟨p,C,dx,x,rfl,hp,c,n,h⟩:=h;refine ⟨_,(Jm1 (Jmw (pv 0) (Jo7 T.Jr Sbg Jn6 hr (by decide) (Sm (pv 1) (Sm Su So))) rfl)),?_⟩;rcases h with ⟨xs,sq,tms,e,k⟩|⟨sh,k⟩
  ·exact ⟨_,rfl,x,0,rfl,.inl ⟨xs,sq,tms,e,λt H' s' ht=>⟨_,rfl,p,C,dx,[],rfl,s' _ _ hp,c,n,by simp,k t H' s' ht⟩⟩⟩
  ·exact ⟨_,rfl,x,0,rfl,.inr ⟨sh,k⟩⟩
theorem Jqo:Jm6 ["self"] ["self"] (Jm5 (Jmc (top 59) 1)):=%[|0]
theorem Jqh (T:Tx K mg a):Sv P w K mg base CX0 1 a.Jj6 a.Jj7 ["self"] (Yem a.Jlp):=by
 refine %[T.Jd4.fn.ok,Jqo|2]
 ·obtain ⟨p,xs,rfl,_⟩:=h;rfl
 ·obtain ⟨p,xs,rfl,⟨dx,t,h1,h2⟩,k⟩:=h;refine ⟨_,(Jm1 (Jma (Jm8 Jmg (by rfl) T.Jau Jnc (Sm (Jmd (pv 0) (by rfl)) So)))),?_⟩;exact ⟨_,rfl,p,_,dx,_,_,rfl,h1,T.Je5,T.Jfj,rfl,t,xs,rfl,.inr (SqT.of h2),k⟩
theorem Jqq:Jm6 ["self","marks"] ["self","marks"] (Jm5 (Jmc (top 60) 0)):=%[|0]
theorem Jt7 (T:Tx K mg a):Sv P w K mg base (CXX P w) 4 a.Jja a.Jjb ["self","marks"] (Jyn K a 1):=by
 have Sbg:=%[Jpk|1];refine %[T.Jd6.fn.okX,Jqq|2]
 ·obtain ⟨p,C,dx,x,rfl,_⟩:=h;rfl
 ·obtain ⟨p,C,dx,x,rfl,hp,c,n,h⟩:=h;refine ⟨_,(Jm1 (Jmw (pv 0) (Jo7 T.Jr Sbg Jn6 hr (by decide) (Sm (pv 1) (Sm Su So))) rfl)),?_⟩;rcases h with ⟨xs,sq,tms,e,k⟩|⟨sh,k⟩
  ·exact ⟨_,rfl,x,1,rfl,.inl ⟨xs,sq,tms,e,λt H' s' ht=>⟨_,rfl,p,C,dx,[],rfl,s' _ _ hp,c,n,by simp,k t H' s' ht⟩⟩⟩
  ·exact ⟨_,rfl,x,1,rfl,.inr ⟨sh,k⟩⟩
theorem Jqr:Jm6 ["self"] ["self"] (Jm5 (Jmc (top 60) 1)):=%[|0]
theorem Jqj (T:Tx K mg a):Sv P w K mg base CX0 1 a.Jjc a.Jjd ["self"] (Yem a.Jlq):=by
 refine %[T.Jd7.fn.ok,Jqr|2]
 ·obtain ⟨p,xs,rfl,_⟩:=h;rfl
 ·obtain ⟨p,xs,rfl,⟨dx,t,h1,h2⟩,k⟩:=h;refine ⟨_,(Jm1 (Jma (Jm8 Jmg (by rfl) T.Jau Jnc (Sm (Jmd (pv 0) (by rfl)) So)))),?_⟩;exact ⟨_,rfl,p,_,dx,_,_,rfl,h1,T.Jeb,T.Jfk,rfl,t,xs,rfl,.inr (SqT.of h2),k⟩
theorem Jqa:Jm6 ["self"] ["self"] (Jm5 (Jmc (top 61) 1)):=%[|0]
theorem Jq6 (T:Tx K mg a):Sv P w K mg base CX0 1 a.Jji a.Jjj ["self"] Ssl:=by
 refine %[T.Jda.fn.ok,Jqa|2]
 ·obtain ⟨x,rfl,_⟩:=h;rfl
 ·obtain ⟨x,rfl,k⟩:=h;refine ⟨_,(Jm1 (Jma Su)),?_⟩;exact k
theorem Jo8 {j:Nat} {σ:L2.St} {H:Hp} {x:V} {n:Nat} {Q:VK} (T:Tx K mg a) (g:GS K a H x n) (k:Q (.int n) H) (hj:1<=j):
  ∃g' C dx fs f fd ps sp k',x= .ref g'/\H g'=some (.ins C dx fs)/\fs.lookup ("settings" :Str)=none/\Cls K C/\Jp0 K C "settings" f/\Sv P w K mg base CX0 k' f fd ps sp/\k'<=j/\Sbc K fd ps []/\Jyq σ H λvs H2=>sp (x::vs) H2 Q E0:=by
 cases g with
 | @plain g C xs i ga l=>
  obtain ⟨dx,t,h1,h2⟩:=ga;rcases i with rfl|rfl|rfl
  ·exact ⟨g,_,dx,_,_,_,_,_,_,rfl,h1,rfl,T.Jdz,T.Je3,Jqk T,hj,T.Jd1.bd,g,xs,rfl,⟨dx,t,h1,h2⟩,k⟩
  ·exact ⟨g,_,dx,_,_,_,_,_,_,rfl,h1,rfl,T.Je5,T.Je9,Jqh T,hj,T.Jd4.bd,g,xs,rfl,⟨dx,t,h1,h2⟩,k⟩
  ·exact ⟨g,_,dx,_,_,_,_,_,_,rfl,h1,rfl,T.Jeb,T.Jef,Jqj T,hj,T.Jd7.bd,g,xs,rfl,⟨dx,t,h1,h2⟩,k⟩
 | @stuck g dx x y h1=>exact ⟨g,_,dx,_,_,_,_,_,_,rfl,h1,rfl,T.Jeh,T.Jel,Jq6 T,hj,T.Jda.bd,_,rfl,k⟩
theorem GS.ty {H:Hp} {x:V} {n:Nat} (T:Tx K mg a) (g:GS K a H x n):∃t,TyX K H x t/\Sh K t (.ref a.Jln)=some true:=by
 cases g with
 |plain i ga l=>
  obtain ⟨dx,t,h1,h2⟩:=ga;rcases i with rfl|rfl|rfl
  ·exact ⟨_,.of (T.Je0.ty T.Jdz h1),T.Jg0⟩
  ·exact ⟨_,.of (T.Je6.ty T.Je5 h1),T.Jg1⟩
  ·exact ⟨_,.of (T.Jec.ty T.Jeb h1),T.Jg2⟩
 |stuck h1=>exact ⟨_,.of (T.Jei.ty T.Jeh h1),T.Jg3⟩
theorem Sy8 (x y:V):Jn8 ("setting" :Str) y [(("gate" :Str),x)]= [(("gate" :Str),x),(("setting" :Str),y)]:=by
 have h:¬(("gate" :Str)="setting"):=by decide +kernel
 simp [Jn8,h]
theorem Jq9:Jm6 ["self","gate","setting"] ["self","gate","setting"] (Jm5 (Jmc (top 61) 0)):=%[|0]
theorem Jsd (T:Tx K mg a):Sv P w K mg base (CXX P w) 4 a.Jjg a.Jjh ["self","gate","setting"] (Ygk K a):=by
 have Sa4:=%[Jnx|1];have Sa5:=%[Jol|1];refine %[T.Jd9.fn.okX,Jq9|2]
 ·obtain ⟨p,dx,x,y,rfl,_⟩:=h;rfl
 ·obtain ⟨p,dx,x,y,rfl,hp,h⟩:=h;refine ⟨_,(Jlz (Jmr (Jn3 (Jn5 (Jm8 Jos (by rfl) T.Jat Jmx (Sm (pv 1) (Sm (Jnb (by rfl) T.Jbg (v:=.ref _) rfl) So))))) (Jm1 (Jn7 Jn6 rfl (Jnz T.Jdi Sa5 hr (by decide) T.Jcm.bd T.Jb6 (Sm (pv 1) So)))) Jme)
   (Jlz (Jmr (Jn3 (Jn5 (Jm4 T.J0 Sa4 hr (by decide) (Sm (pv 2) (Sm Su (Sm (Jm9 Jnk (Jr2 (pv 1) hr) Su) So)))))) (Jm1 (Jn7 Jn6 rfl (Jnz T.Jdi Sa5 hr (by decide) T.Jcm.bd T.Jb6 (Sm (pv 2) So)))) Jme)
   (Jlz (Jmw (pv 0) (pv 1) rfl)
   (Jm1 (Jmw (pv 0) (pv 2) rfl))))),?_⟩
  rcases h with ⟨t,ty,e,k⟩|⟨n,g,tm,e,k⟩|⟨n,g,tm,e,k⟩
  ·exact ⟨_,rfl,x,_,_,t,_,rfl,rfl,ty,e,_,rfl,Jo2 (Jo0 T.Jdi T.Jey rfl λe dx h1 h2 h3=>k _ _ _ (Rf.new h1 h2 h3))⟩
  ·obtain ⟨t,ty,et⟩:=g.ty T;refine ⟨_,rfl,x,_,_,t,_,rfl,rfl,ty,et,_,rfl,Jn9 ⟨_,rfl,_,rfl,Jo8 T g ⟨_,_,rfl,rfl,y,0,(n:Int) - 1,rfl,tm,_,rfl,?_⟩ (by decide)⟩⟩;rw [e];exact Jo2 (Jo0 T.Jdi T.Jey rfl λe dx h1 h2 h3=>k _ _ _ (Rf.new h1 h2 h3))
  ·obtain ⟨t,ty,et⟩:=g.ty T;refine ⟨_,rfl,x,_,_,t,_,rfl,rfl,ty,et,_,rfl,Jn9 ⟨_,rfl,_,rfl,Jo8 T g ⟨_,_,rfl,rfl,y,0,(n:Int) - 1,rfl,tm,_,rfl,?_⟩ (by decide)⟩⟩;rw [e];refine Jn9 ⟨_,rfl,_,rfl,p,_,dx,[],rfl,hp,T.Jeh,T.Jfl,by simp,_,rfl,_,rfl,p,_,dx,_,rfl,Sr,T.Jeh,T.Jfm,by simp [Jn8],?_⟩;show Q .non _;rw [Jnr];exact Sy8 x y▸k
theorem Jzt:Jm6 ["_law_script","_law_k"] ["_law_script","_law_k"] (Jm5 (top 82)):=%[|0]
theorem Jzi (T:Tx K mg a):Sv P w K mg base CX0 1 a.Jk6 a.Jk7 ["_law_script","_law_k"] (Snt K):=by
 refine %[T.Jx.fn.ok,Jzt|2]
 ·obtain ⟨x,ns,i,rfl,_⟩:=h;rfl
 ·obtain ⟨x,ns,i,rfl,hS,k⟩:=h;refine ⟨_,(Jlz (Jmr (Jmm Ss0 (pv 1) (Jm8 Jmg (by rfl) T.Jau Jnc (Sm (pv 0) So)) (Jmp _)) (Jm1 (Jma (Jmf Jn2 (pv 0) (pv 1) (λ_ _=>rfl)))) Jme)
   (Jm1 (Jma (Jm9 Jml (Jm9 Joe Su (pv 1)) Su)))),?_⟩
  refine ⟨_,rfl,_,rfl,x,_,rfl,.inl hS,_,_,rfl,rfl,_,rfl,Six (λq=>?_) (λq=>?_)⟩
  ·have hi:i < ns.length:=by
    have q':=of_decide_eq_true q;rw [ye] at q';omega
   exact ⟨_,rfl,_,rfl,x,_,_,_,rfl,rfl,hS,Jud hi,k _⟩
  ·exact ⟨_,rfl,_,_,rfl,rfl,.inl ⟨by decide,by decide⟩,_,_,rfl,rfl,k _⟩
theorem Jwj:Jm6 ["_law_cell_here"] ["_law_cell_here"] (Jm5 (top 83)):=%[|0]
theorem Jrh (T:Tx K mg a):Sv P w K mg base CX0 1 a.Jk8 a.Jk9 ["_law_cell_here"] Yen:=by
 refine %[T.Jy.fn.ok,Jwj|2]
 ·obtain ⟨c,rfl,_⟩:=h;rfl
 ·obtain ⟨c,rfl,k⟩:=h;refine ⟨_,(Jm1 (Jma (Jmy (Sm (Jm8 (Jpm rfl) (by rfl) T.Jaw Jup (Sm Su (Sm (Jm9 Jnk (pv 0) (Jm9 Jya Su Su)) So))) (Sm (Jm9 Jo3 (pv 0) Su) (Sm Su So)))))),?_⟩;refine ⟨_,rfl,_,_,rfl,rfl,⟨by decide,by decide,by decide⟩,_,_,rfl,rfl,_,_,rfl,_,rfl,_,_,rfl,rfl,(by show (0:Int) < 2147483647;decide),Jn4 _ (by show 3<=2000;decide),λp hp=>?_⟩;exact k p _ hp (Sl.upd hp) ⟨_,_,_,Sr⟩
theorem Scf:Jm6 ["_law_stream_here","_law_many","_law_digit","_law_number"] ["_law_stream_here","_law_many"] (Jm5 (top 84)):=%[|0]
theorem Jog (T:Tx K mg a):Sv P w K mg base CX0 1 a.Jka a.Jkb ["_law_stream_here","_law_many"] Soe:=by
 refine %[T.Jz.fn.ok,Scf|2]
 ·obtain ⟨p,m,rfl,_⟩:=h;rfl
 ·obtain ⟨p,m,rfl,⟨a0,b0,c0,hp⟩,hm,hl,k⟩:=h;refine ⟨_,(Jlz (Ya0 (Jm9 Jml (Jmf Jn2 (pv 0) Su (λ_ _=>rfl)) Su) (Yx (pv 0) Su Jsp))
   (Jlz (Jmr (Jmm Jvi (Jmf Jn2 (pv 0) Su (λ_ _=>rfl)) Su (Jmp _)) (Jlz (Jmb (i:=2) Scf.nd rfl (yf rfl) (Jm9 Jo3 (Jmf Jn2 (pv 0) Su (λ_ _=>rfl)) (pv 1)))
    (Jlz (Ya0 (Jm9 Jom (Jmf Jn2 (pv 0) Su (λ_ _=>rfl)) (pv 1)) (Yx (pv 0) Su Jsp))
    (Jm1 (Jma (pv 2))))) Jme)
   (Jlz (Jmb (i:=3) Scf.nd rfl (yf rfl) (Jm9 Jo3 (Jm9 Joe (Jm9 Jml (Jmf Jn2 (pv 0) Su (λ_ _=>rfl)) (Jm9 Joe Su (Jmf Jn2 (pv 0) Su (λ_ _=>rfl)))) Su) Su))
   (Jlz (Jmb (i:=3) Scf.nd rfl (yf rfl) (Jm9 Jo3 (Jm9 Joe (pv 3) (pv 3)) Su))
   (Jm1 (Jma (Jm9 Jo3 (Jm9 Jom (Jm9 Jo3 (Jm9 Jml (Jm9 Joe (pv 3) (Jm9 Jml (pv 3) Su)) (Jm9 Joe Su (Jmf Jn2 (pv 0) Su (λ_ _=>rfl)))) Su) Su) (pv 1)))))))),?_⟩
  refine ⟨_,rfl,p,_,_,_,rfl,rfl,Sz.of hp,rfl,_,_,rfl,rfl,_,rfl,p,_,_,_,rfl,rfl,hp,rfl,?_⟩;refine ⟨_,rfl,p,_,_,_,rfl,rfl,Sz.of Sr,rfl,_,_,rfl,rfl,_,rfl,Six (λ_=>?_) (λ_=>?_)⟩
  ·refine ⟨_,rfl,p,_,_,_,rfl,rfl,Sz.of Sr,rfl,_,rfl,_,_,rfl,rfl,hm,?_⟩;refine ⟨_,rfl,p,_,_,_,rfl,rfl,Sz.of Sr,rfl,_,rfl,_,_,rfl,rfl,⟨hm,hl⟩,_,rfl,p,_,_,_,rfl,rfl,Sr,rfl,?_⟩;refine ⟨_,rfl,k _ _ (ycd _ (by omega)) (yce _ hm) ⟨λb o ne e=>?_,_,_,_,Sr⟩⟩;rw [Sx ne,Sx ne];exact e
  ·refine ⟨_,rfl,p,_,_,_,rfl,rfl,Sz.of Sr,rfl,_,rfl,p,_,_,_,rfl,rfl,Sz.of Sr,rfl,_,_,rfl,rfl,.inl ⟨by decide,by decide⟩,_,_,rfl,rfl,_,_,rfl,rfl,.inr ⟨by decide,by decide⟩,_,_,rfl,rfl,(by show (0:Int) < 2147483629;decide),?_⟩;have n1:∀x:Int,-(2^64) < x%2147483629/\x%2147483629 < 2^64:=λx=>by
    have h1:=ycd x (show (2147483629:Int)≠0 by decide);have h2:=yce x (show (0:Int) < 2147483629 by decide);constructor <;> omega
   have n2:∀x:Int,-(2^64) < x%2147483587/\x%2147483587 < 2^64:=λx=>by
    have h1:=ycd x (show (2147483587:Int)≠0 by decide);have h2:=yce x (show (0:Int) < 2147483587 by decide);constructor <;> omega
   refine ⟨_,rfl,_,rfl,_,_,rfl,rfl,.inl (n1 _),_,_,rfl,rfl,(by show (0:Int) < 2147483587;decide),?_⟩;refine ⟨_,rfl,_,rfl,_,_,rfl,rfl,_,_,rfl,rfl,.inl (n2 _),_,rfl,p,_,_,_,rfl,rfl,Sz.of Sr,rfl,_,_,rfl,rfl,.inl ⟨by decide,by decide⟩,_,_,rfl,rfl,_,_,rfl,rfl,(by show (0:Int) < 2147483647;decide),_,_,rfl,rfl,⟨by decide,by decide⟩,_,rfl,_,_,rfl,rfl,hm,?_⟩;refine k _ _ (ycd _ (by omega)) (yce _ hm) ⟨λb o ne e=>?_,_,_,_,Sr⟩;rw [Sx ne];exact e
theorem Jrv:Jm6 ["self","thing"] ["self","thing"] (Jm5 (Jmc (top 3) 0)):=%[|0]
theorem Jqi (T:Tx K mg a):Sv P w K mg base CX0 1 a.Jgk a.Jgl ["self","thing"] (Jp7 K "thing"):=by
 refine %[T.Jcl.fn.ok,Jrv|2]
 ·obtain ⟨e,C,W,fI,y,rfl,_⟩:=h;rfl
 ·obtain ⟨e,C,W,fI,y,rfl,q,c,n,k⟩:=h;refine ⟨_,(Jm1 (Jp3 (pv 0) (pv 1) rfl)),?_⟩;exact ⟨_,rfl,_,rfl,e,C,W,fI,true,rfl,q,c,n,k⟩
theorem Jr9:Jm6 ["self","thing"] ["self","thing"] (Jm5 (Jmc (top 5) 0)):=%[|0]
theorem Ju0 (T:Tx K mg a):Sv P w K mg base CX0 1 a.Jgo a.Jgp ["self","thing"] (Jp7 K "thing"):=by
 refine %[T.Jcn.fn.ok,Jr9|2]
 ·obtain ⟨e,C,W,fI,y,rfl,_⟩:=h;rfl
 ·obtain ⟨e,C,W,fI,y,rfl,q,c,n,k⟩:=h;refine ⟨_,(Jm1 (Jp3 (pv 0) (pv 1) rfl)),?_⟩;exact ⟨_,rfl,_,rfl,e,C,W,fI,true,rfl,q,c,n,k⟩
theorem Jrw:Jm6 ["self","thing"] ["self","thing"] (Jm5 (Jmc (top 6) 0)):=%[|0]
theorem Jva (T:Tx K mg a):Sv P w K mg base CX0 1 a.Jgq a.Jgr ["self","thing"] (Jp7 K "thing"):=by
 refine %[T.Jco.fn.ok,Jrw|2]
 ·obtain ⟨e,C,W,fI,y,rfl,_⟩:=h;rfl
 ·obtain ⟨e,C,W,fI,y,rfl,q,c,n,k⟩:=h;refine ⟨_,(Jm1 (Jp3 (pv 0) (pv 1) rfl)),?_⟩;exact ⟨_,rfl,_,rfl,e,C,W,fI,true,rfl,q,c,n,k⟩
theorem Jwh:Jm6 ["text","signs"] ["text","signs"] (Jm5 (top 17)):=%[|0]
theorem Jwb (T:Tx K mg a):Sv P w K mg base CX0 1 a.Jh4 a.Jh5 ["text","signs"] So7:=by
 refine %[T.J1.fn.ok,Jwh|2]
 ·obtain ⟨z,g,rfl,_⟩:=h;rfl
 ·obtain ⟨z,g,rfl,hz,k⟩:=h;refine ⟨_,(Jm1 (Jma (Jm8 (Jqd rfl) (by rfl) T.Jao Juo (Sm (Jmt (N:=(["sign","signs"]:List Str)) (ini:=[none,some 1]) rfl (Snc (pv 0)) (λ_ _ _ _ _=>(Jm7 (i:=0) (by decide +kernel:(["sign","signs"]:List Str).Nodup) rfl (yf rfl))) (λ_ _ _ _ _=>Jmq) (λ_ _ _ _ _=>(Jq0 Yc0 (pv 0) (pv 1) (by with_unfolding_all rfl)))) So)))),?_⟩;refine ⟨_,rfl,z,rfl,λD hD=>?_⟩;refine Ycv (z:=z) (D:=D) (λi σ H'=>∃o,σ= [o,some (.str g)]/\H'=upd H D (.lst ((z.cps.toList.take i).map λc=>V.bl (decide (c∈g.cps.toList))))) ?_ ?_ ?_
  ·exact ⟨none,rfl,rfl⟩
  ·rintro i c σ H' hc ⟨o,rfl,rfl⟩;refine Jna ⟨_,rfl,_,rfl,⟨#[c]⟩,g,rfl,rfl,_,Sr,?_,_,rfl,?_⟩
   ·rw [ye,yaf,Yat];exact Jmo (by omega)
   ·rw [Jnr,StrLaws.found_one];have e:z.cps.toList[i]?=some c:=by simpa using hc
    rw [yaa,e];simp
  ·rintro σ H' ⟨o,rfl,rfl⟩;have e:z.cps.toList.take z.cps.size=z.cps.toList:=yah (by simp);refine ⟨D,z.cps.toList.map λc=>decide (c∈g.cps.toList),rfl,Sz.of (by rw [Sr,e,yas];rfl),?_⟩;have e2:(z.cps.toList.map λc=>decide (c∈g.cps.toList)).all id=Jwn g z:=by
    unfold Jwn;rw [List.all_map];rfl
   rw [e2];exact k _ (Sl.upd hD)
theorem Yfs {H:Hp} {x:V} (h:Tm K H x) (n:∀z,x≠ .str z):∃t,TyX K H x t/\Sh K t (.type "str")=some false:=by
 rcases h with ⟨i,rfl⟩|⟨t,ty,ht⟩
 ·exact ⟨_,.of (.int i),rfl⟩
 ·refine ⟨t,ty,?_⟩;unfold tpB at ht;simp only [List.contains_cons,List.contains_nil,Bool.or_false,Bool.or_eq_true,beq_iff_eq] at ht;rcases ht with rfl|rfl|rfl|rfl|rfl|rfl
  ·rfl
  ·obtain ⟨z,e⟩:=Soz ty rfl;exact absurd e (n z)
  ·rfl
  ·rfl
  ·rfl
  ·rfl
theorem Ya4:Jm6 ["thing"] ["thing"] (Jm5 (top 18)):=%[|0]
theorem Jvd (T:Tx K mg a):Sv P w K mg base CX0 2 a.Jh6 a.Jh7 ["thing"] (So8 K):=by
 have Sfu:=%[Jwb|1];refine %[T.J2.fn.ok,Ya4|2]
 ·obtain ⟨x,rfl,_⟩:=h;rfl
 ·obtain ⟨x,rfl,nm,k⟩:=h;refine ⟨_,(Jlz (Jmr (Jn3 (Jn5 (Jm8 Jos (by rfl) T.Jat Jmx (Sm (pv 0) (Sm (Jor (v:=.ty "str") (by rfl) T.Jb1 Sme rfl) So))))) (Jm1 (Jma Jny)) Jme)
   (Jm1 (Jma (Yu (Jzn Jqm Jqm Su (Jm8 Jxo (by rfl) T.Jau Jnc (Sm (pv 0) So)) (Jnb (by rfl) T.Jac (v:=.int 8) ⟨_,rfl⟩)) (Yw (Jm4 T.J1 Sfu hr (by decide) (Sm (pv 0) (Sm (Jnb (by rfl) T.Jab (v:=.str "abcdefghijklmnopqrstuvwxyz") ⟨_,rfl⟩) So)))))))),?_⟩
  by_cases hx:∃z,x= .str z
  ·obtain ⟨z,rfl⟩:=hx;have k:∀H',Sl H H'->Q (.bl (Jpr z)) H':=k;have hz:z.length<=2000:=by have:=(nm.2 z rfl).len;omega
   refine ⟨_,rfl,_,_,_,_,_,rfl,rfl,.of (.str z),(by rfl:Sh K (.type "str") (.type "str")=some true),_,rfl,Jn9 ?_⟩;refine ⟨_,rfl,z,rfl,Jn4 _ hz,_,_,rfl,rfl,_,rfl,?_⟩;have no:¬(1<=z.length/\z.length<=8)->Q (.bl false) H:=λq=>by
    have k':=k H (Sl.refl H);unfold Jpr at k';rw [decide_eq_false q,Bool.false_and] at k';exact k'
   by_cases h1:(1:Int)<=(z.length:Int)
   ·rw [decide_eq_true h1];refine Jo2 ⟨_,_,rfl,rfl,_,rfl,?_⟩;by_cases h2:(z.length:Int)<=8
    ·rw [decide_eq_true h2];refine Jo2 ⟨_,rfl,z,_,rfl,hz,λH' s'=>?_⟩;have e:Jpr z=Jwn LET z:=by
      unfold Jpr;rw [decide_eq_true (by omega:1<=z.length/\z.length<=8),Bool.true_and]
     have k':=k H' s';rw [e] at k';exact k'
    ·rw [decide_eq_false h2];exact Jn9 (no (by omega))
   ·rw [decide_eq_false h1];exact Jn9 ⟨_,rfl,Jn9 (no (by omega))⟩
  ·obtain ⟨t,ty,e1⟩:=Yfs nm.1 λz e=>hx ⟨z,e⟩;have k':=k H (Sl.refl H);have e:Joy x=false:=by
    cases x with
    |str z=>exact absurd ⟨z,rfl⟩ hx
    |_=>rfl
   rw [e] at k';exact ⟨_,rfl,_,_,_,_,_,rfl,rfl,ty,e1,_,rfl,Jo2 k'⟩
theorem Jrz:Jm6 ["thing","low","high"] ["thing","low","high"] (Jm5 (top 69)):=%[|0]
theorem Jrq (T:Tx K mg a):Sv P w K mg base (CXX P w) 3 a.Jjm a.Jjn ["thing","low","high"] (Ycc K a):=by
 have Sa4:=%[Jnx|1];have Sdn:=%[Ju0|1];refine %[T.Js.fn.okX,Jrz|2]
 ·obtain ⟨x,lo,hi,rfl,_⟩:=h;rfl
 ·obtain ⟨x,lo,hi,rfl,tm,h⟩:=h;refine ⟨_,(Jm1 (Jmr (Jn3 (Jn5 (Jm4 T.J0 Sa4 hr (by decide) (Sm (pv 0) (Sm (pv 1) (Sm (pv 2) So)))))) (Jm1 (Jn7 Jn6 rfl (Jnz T.Jdj Sdn hr (by decide) T.Jcn.bd T.Jb7 (Sm (pv 0) So)))) Jme)),?_⟩;refine ⟨_,rfl,_,rfl,_,rfl,x,lo,hi,rfl,tm,_,rfl,?_⟩;rcases h with ⟨e,k⟩|⟨e,k⟩
  ·rw [e];exact Jn9 k
  ·rw [e];exact Jo2 (Jo0 T.Jdj T.Jez rfl λe dx h1 h2 h3=>k _ _ _ (RfC.new h1 h2 h3))
theorem Jmu {f:Str} {v:V}:∀{fs:List (Str×V)},(fs.map (·.1)).contains f=false->Jn8 f v fs=fs++ [(f,v)]
 | [],_=>rfl
 | (g,x) :: r,h=>by
  rw [yap,List.contains_cons,Bool.or_eq_false_iff] at h;have ne:¬g=f:=λe=>by
   have:=h.1;rw [e] at this;simp at this
  show (if g=f then (g,v)::r else (g,x)::Jn8 f v r)=_;rw [if_neg ne,Jmu h.2];rfl
theorem Jsl:Jm6 ["self","name","low","high","start","rain","gate"] ["self","name","low","high","start","rain","gate"] (Jm5 (Jmc (top 70) 0)):=%[|0]
theorem Jw8 (T:Tx K mg a):Sv P w K mg base (CXX P w) 4 a.Jjo a.Jjp ["self","name","low","high","start","rain","gate"] (Ygg K a):=by
 have Sdb:=%[Jvd|1];have Sau:=%[Jrq|1];have Sat:=%[Jqi|1];have Sa5:=%[Jol|1];refine %[T.Jdc.fn.okX,Jsl|2]
 ·obtain ⟨p,dx,n,lo,hi,st,rn,g,gb,d,rfl,_⟩:=h;rfl
 ·obtain ⟨p,dx,n,lo,hi,st,rn,g,gb,d,rfl,hp,nm,tlo,thi,tst,trn,gt,du,k⟩:=h;refine ⟨?t,?B,?C⟩
  case B=>
   refine' Jlz (Jmr (Jn3 (Jn5 (Jm4 T.J2 Sdb hr (by decide) (Sm (pv 1) So)))) (Jm1 (Jn7 Jn6 rfl (Jnz T.Jdh Sat hr (by decide) T.Jcl.bd T.Jb5 (Sm (pv 1) So)))) Jme) ?_
   rotate_left
   refine' Jlz (Jnp (Jo7 T.Js Sau Jn6 hr (by decide) (Sm (pv 2) (Sm Su (Sm (Jnb (by rfl) T.Jah (v:=.int 12) ⟨_,rfl⟩) So))))) ?_
   rotate_left
   refine' Jlz (Jnp (Jo7 T.Js Sau Jn6 hr (by decide) (Sm (pv 3) (Sm (pv 2) (Sm (Jnb (by rfl) T.Jah (v:=.int 12) ⟨_,rfl⟩) So))))) ?_
   rotate_left
   refine' Jlz (Jnp (Jo7 T.Js Sau Jn6 hr (by decide) (Sm (pv 4) (Sm (pv 2) (Sm (pv 3) So))))) ?_
   rotate_left
   refine' Jlz (Jnp (Jo7 T.Js Sau Jn6 hr (by decide) (Sm (pv 5) (Sm Su (Sm (Jnb (by rfl) T.Jai (v:=.int 6) ⟨_,rfl⟩) So))))) ?_
   rotate_left
   refine' Jlz (Jmr (Jn3 (Jn5 (Jm8 Jos (by rfl) T.Jat Jmx (Sm (pv 6) (Sm (Jnb (by rfl) T.Jbg (v:=.ref _) rfl) So))))) (Jm1 (Jn7 Jn6 rfl (Jnz T.Jdi Sa5 hr (by decide) T.Jcm.bd T.Jb6 (Sm (pv 6) So)))) Jme) ?_
   rotate_left
   refine' Jlz (Jmw (pv 0) (pv 1) rfl) ?_
   rotate_left
   refine' Jlz (Jmw (pv 0) (pv 2) rfl) ?_
   rotate_left
   refine' Jlz (Jmw (pv 0) (pv 3) rfl) ?_
   rotate_left
   refine' Jlz (Jmw (pv 0) (pv 4) rfl) ?_
   rotate_left
   refine' Jlz (Jmw (pv 0) (pv 5) rfl) ?_
   rotate_left
   exact (Jm1 (Jmw (pv 0) (pv 6) rfl))
  refine ⟨_,rfl,n,rfl,nm,λH1 s1=>⟨_,rfl,?_⟩⟩;cases du with
  |name e=>
   rw [e];exact Jo2 (Jo0 T.Jdh T.Jex rfl λe dx h1 h2 h3=>k _ _ _ ((RfC.new h1 h2 h3).of s1))
  |low e1 e2=>
   rw [e1];exact Jn9 ⟨_,rfl,lo,0,12,rfl,tlo.same s1,.inr ⟨e2,λc eo H' rf=>k c eo H' (rf.of s1)⟩⟩
  |high l e1 e2 e3 e4=>
   subst e2;rw [e1];refine Jn9 ⟨_,rfl,_,0,12,rfl,tlo.same s1,.inl ⟨e3,?_⟩⟩;exact ⟨_,rfl,_,rfl,hi,l,12,rfl,thi.same s1,.inr ⟨e4,λc eo H' rf=>k c eo H' (rf.of s1)⟩⟩
  |start l h e1 e2 e3 e4 e5 e6=>
   subst e2 e3;rw [e1];refine Jn9 ⟨_,rfl,_,0,12,rfl,tlo.same s1,.inl ⟨e4,?_⟩⟩;refine ⟨_,rfl,_,rfl,_,l,12,rfl,thi.same s1,.inl ⟨e5,?_⟩⟩;exact ⟨_,rfl,_,rfl,_,rfl,st,l,h,rfl,tst.same s1,.inr ⟨e6,λc eo H' rf=>k c eo H' (rf.of s1)⟩⟩
  |rain l h e1 e2 e3 e4 e5 e6 e7=>
   subst e2 e3;rw [e1];refine Jn9 ⟨_,rfl,_,0,12,rfl,tlo.same s1,.inl ⟨e4,?_⟩⟩;refine ⟨_,rfl,_,rfl,_,l,12,rfl,thi.same s1,.inl ⟨e5,?_⟩⟩;refine ⟨_,rfl,_,rfl,_,rfl,st,l,h,rfl,tst.same s1,.inl ⟨e6,?_⟩⟩;exact ⟨_,rfl,rn,0,6,rfl,trn.same s1,.inr ⟨e7,λc eo H' rf=>k c eo H' (rf.of s1)⟩⟩
  |gate l h e1 e2 e3 e4 e5 e6 e7 e8=>
   subst e2 e3 e8;obtain ⟨t,ty,g1,g2,g3⟩:=gt;rw [e1];refine Jn9 ⟨_,rfl,_,0,12,rfl,tlo.same s1,.inl ⟨e4,?_⟩⟩;refine ⟨_,rfl,_,rfl,_,l,12,rfl,thi.same s1,.inl ⟨e5,?_⟩⟩;refine ⟨_,rfl,_,rfl,_,rfl,st,l,h,rfl,tst.same s1,.inl ⟨e6,?_⟩⟩;refine ⟨_,rfl,rn,0,6,rfl,trn.same s1,.inl ⟨e7,?_⟩⟩;exact ⟨_,rfl,g,_,_,t,_,rfl,rfl,Jyv s1 ty,g1,_,rfl,Jo2 (Jo0 T.Jdi T.Jey rfl λe dx h1 h2 h3=>k _ _ _ ((RfC.new h1 h2 h3).of s1))⟩
  |good l h e1 e2 e3 e4 e5 e6 e7 e8=>
   subst e2 e3 e8;obtain ⟨t,ty,g1,g2,g3⟩:=gt;rw [e1];refine Jn9 ⟨_,rfl,_,0,12,rfl,tlo.same s1,.inl ⟨e4,?_⟩⟩;refine ⟨_,rfl,_,rfl,_,l,12,rfl,thi.same s1,.inl ⟨e5,?_⟩⟩;refine ⟨_,rfl,_,rfl,_,rfl,st,l,h,rfl,tst.same s1,.inl ⟨e6,?_⟩⟩;refine ⟨_,rfl,rn,0,6,rfl,trn.same s1,.inl ⟨e7,?_⟩⟩;refine ⟨_,rfl,g,_,_,t,_,rfl,rfl,Jyv s1 ty,g1,_,rfl,Jn9 ?_⟩;refine ⟨_,rfl,_,rfl,p,_,dx,[],rfl,s1 _ _ hp,T.Jen,T.Jfn,by simp,?_⟩;rw [show Jn8 "name" n []=([("name",n)]:List (Str×V)) from rfl];refine ⟨_,rfl,_,rfl,p,_,dx,_,rfl,Sr,T.Jen,T.Jfo,by simp,?_⟩;rw [show Jn8 "low" (.int l) [("name",n)]=([("name",n),("low",(.int l))]:List (Str×V)) from Jmu (fs:=[("name",n)]) (show (["name"]:List Str).contains "low" =false by decide +kernel)];refine ⟨_,rfl,_,rfl,p,_,dx,_,rfl,Sr,T.Jen,T.Jfp,by simp,?_⟩;rw [show Jn8 "high" (.int h) [("name",n),("low",.int l)]=([("name",n),("low",.int l),("high",(.int h))]:List (Str×V)) from Jmu (fs:=[("name",n),("low",.int l)]) (show (["name","low"]:List Str).contains "high" =false by decide +kernel)];refine ⟨_,rfl,_,rfl,p,_,dx,_,rfl,Sr,T.Jen,T.Jfq,by simp,?_⟩;rw [show Jn8 "start" st [("name",n),("low",.int l),("high",.int h)]=([("name",n),("low",.int l),("high",.int h),("start",st)]:List (Str×V)) from Jmu (fs:=[("name",n),("low",.int l),("high",.int h)]) (show (["name","low","high"]:List Str).contains "start" =false by decide +kernel)];refine ⟨_,rfl,_,rfl,p,_,dx,_,rfl,Sr,T.Jen,T.Jfr,by simp,?_⟩;rw [show Jn8 "rain" rn [("name",n),("low",.int l),("high",.int h),("start",st)]=([("name",n),("low",.int l),("high",.int h),("start",st),("rain",rn)]:List (Str×V)) from Jmu (fs:=[("name",n),("low",.int l),("high",.int h),("start",st)]) (show (["name","low","high","start"]:List Str).contains "rain" =false by decide +kernel)];refine ⟨_,rfl,_,rfl,p,_,dx,_,rfl,Sr,T.Jen,T.Jfs,by simp,?_⟩;rw [show Jn8 "gate" g [("name",n),("low",.int l),("high",.int h),("start",st),("rain",rn)]=([("name",n),("low",.int l),("high",.int h),("start",st),("rain",rn),("gate",g)]:List (Str×V)) from Jmu (fs:=[("name",n),("low",.int l),("high",.int h),("start",st),("rain",rn)]) (show (["name","low","high","start","rain"]:List Str).contains "gate" =false by decide +kernel)];show Q .non _;simp only [Jnr];exact k _ s1
theorem Jth:Jm6 ["self","name","basin","want"] ["self","name","basin","want"] (Jm5 (Jmc (top 71) 0)):=%[|0]
theorem Jxy (T:Tx K mg a):Sv P w K mg base (CXX P w) 4 a.Jjq a.Jjr ["self","name","basin","want"] (Sof K a):=by
 have Sdb:=%[Jvd|1];have Sa4:=%[Jnx|1];have Sat:=%[Jqi|1];have Sdv:=%[Jva|1];refine %[T.Jdd.fn.okX,Jth|2]
 ·obtain ⟨p,dx,n,b,wt,d,rfl,_⟩:=h;rfl
 ·obtain ⟨p,dx,n,b,wt,d,rfl,hp,nm,nb,tw,du,k⟩:=h;refine ⟨?t,?B,?C⟩
  case B=>
   refine' Jlz (Jmr (Jn3 (Jn5 (Jm4 T.J2 Sdb hr (by decide) (Sm (pv 1) So)))) (Jm1 (Jn7 Jn6 rfl (Jnz T.Jdh Sat hr (by decide) T.Jcl.bd T.Jb5 (Sm (pv 1) So)))) Jme) ?_
   rotate_left
   refine' Jlz (Jmr (Jn3 (Jn5 (Jm4 T.J2 Sdb hr (by decide) (Sm (pv 2) So)))) (Jm1 (Jn7 Jn6 rfl (Jnz T.Jdh Sat hr (by decide) T.Jcl.bd T.Jb5 (Sm (pv 2) So)))) Jme) ?_
   rotate_left
   refine' Jlz (Jmr (Jn3 (Jn5 (Jm4 T.J0 Sa4 hr (by decide) (Sm (pv 3) (Sm Su (Sm (Jnb (by rfl) T.Jaj (v:=.int 6) ⟨_,rfl⟩) So)))))) (Jm1 (Jn7 Jn6 rfl (Jnz T.Jdk Sdv hr (by decide) T.Jco.bd T.Jb8 (Sm (pv 3) So)))) Jme) ?_
   rotate_left
   refine' Jlz (Jmw (pv 0) (pv 1) rfl) ?_
   rotate_left
   refine' Jlz (Jmw (pv 0) (pv 2) rfl) ?_
   rotate_left
   exact (Jm1 (Jmw (pv 0) (pv 3) rfl))
  refine ⟨_,rfl,n,rfl,nm,λH1 s1=>⟨_,rfl,?_⟩⟩;cases du with
  |name e=>
   rw [e];exact Jo2 (Jo0 T.Jdh T.Jex rfl λe dx h1 h2 h3=>k _ _ _ ((RfC.new h1 h2 h3).of s1))
  |basin e1 e2=>
   rw [e1];refine Jn9 ⟨_,rfl,b,rfl,nb.same s1,λH2 s2=>⟨_,rfl,?_⟩⟩;rw [e2];exact Jo2 (Jo0 T.Jdh T.Jex rfl λe dx h1 h2 h3=>k _ _ _ ((RfC.new h1 h2 h3).of (s1.trans s2)))
  |want e1 e2 e3=>
   rw [e1];refine Jn9 ⟨_,rfl,b,rfl,nb.same s1,λH2 s2=>⟨_,rfl,?_⟩⟩;rw [e2];refine Jn9 ⟨_,rfl,wt,1,6,rfl,tw.same (s1.trans s2),_,rfl,?_⟩;rw [e3];exact Jo2 (Jo0 T.Jdk T.Jf0 rfl λe dx h1 h2 h3=>k _ _ _ ((RfC.new h1 h2 h3).of (s1.trans s2)))
  |good e1 e2 e3=>
   rw [e1];refine Jn9 ⟨_,rfl,b,rfl,nb.same s1,λH2 s2=>⟨_,rfl,?_⟩⟩;rw [e2];refine Jn9 ⟨_,rfl,wt,1,6,rfl,tw.same (s1.trans s2),_,rfl,?_⟩;rw [e3];refine Jn9 ⟨_,rfl,_,rfl,p,_,dx,[],rfl,s2 _ _ (s1 _ _ hp),T.Jeq,T.Jft,by simp,?_⟩;rw [show Jn8 "name" n []=([("name",n)]:List (Str×V)) from rfl];refine ⟨_,rfl,_,rfl,p,_,dx,_,rfl,Sr,T.Jeq,T.Jfu,by simp,?_⟩;rw [show Jn8 "basin" b [("name",n)]=([("name",n),("basin",b)]:List (Str×V)) from Jmu (fs:=[("name",n)]) (show (["name"]:List Str).contains "basin" =false by decide +kernel)];refine ⟨_,rfl,_,rfl,p,_,dx,_,rfl,Sr,T.Jeq,T.Jfv,by simp,?_⟩;rw [show Jn8 "want" wt [("name",n),("basin",b)]=([("name",n),("basin",b),("want",wt)]:List (Str×V)) from Jmu (fs:=[("name",n),("basin",b)]) (show (["name","basin"]:List Str).contains "want" =false by decide +kernel)];show Q .non _;simp only [Jnr];exact k _ (s1.trans s2)
theorem ifF {b:Bool} {A B:Prop} (h:b=false) (k:B):if b=true then A else B:=by rw [h];exact Jn9 k
theorem ifT {b:Bool} {A B:Prop} (h:b=true) (k:A):if b=true then A else B:=by rw [h];exact Jo2 k
theorem Jwg:Jm6 ["names"] ["names"] (Jm5 (top 72)):=%[|0]
theorem Jrg (T:Tx K mg a):Sv P w K mg base CX0 1 a.Jjs a.Jjt ["names"] (Yep K):=by
 refine %[T.Jt.fn.ok,Jwg|2]
 ·obtain ⟨l,zs,rfl,_⟩:=h;rfl
 ·obtain ⟨l,zs,rfl,hq,hz,k⟩:=h;refine ⟨_,(Jm1 (Jma (Jq0 Jpe (Jm8 Jus (by rfl) T.Jau Jnc (Sm (Jms (Jut rfl) (by rfl) T.Jb0 Smd (Sm (pv 0) So)) So)) (Jm8 Jmg (by rfl) T.Jau Jnc (Sm (pv 0) So)) (Jmp _)))),?_⟩;refine ⟨_,rfl,l,zs,rfl,hq,hz,λt ht=>⟨t,zs,rfl,Sr,?_⟩⟩;have s1:=Sl.upd (o:=TxS P w t zs) ht;refine ⟨_,rfl,l,_,rfl,.inl (s1.seq hq),rfl,?_⟩;have e:decide (V.int ((uq zs).length:Nat)=V.int ((zs.map V.str).length:Nat))=decide ((uq zs).length=zs.length):=by
   rw [ye];by_cases h:(uq zs).length=zs.length
   ·rw [decide_eq_true h,decide_eq_true (by rw [h])]
   ·rw [decide_eq_false h,decide_eq_false (λq=>h (by have:=V.int.inj q;omega))]
  rw [e];exact k _ s1
theorem Jwf:Jm6 ["thing"] ["thing"] (Jm5 (top 73)):=%[|0]
theorem Jwa (T:Tx K mg a):Sv P w K mg base CX0 2 a.Jju a.Jjv ["thing"] (Yee K a):=by
 have Scu:=%[Jrg|1];refine %[T.Ju.fn.ok,Jwf|2]
 ·obtain ⟨l,os,Bs,rfl,_⟩:=h;rfl
 ·obtain ⟨l,os,Bs,rfl,hl,bl,hn,nd,k⟩:=h;have len:=bl.len;refine ⟨?t,?B,?C⟩
  case B=>
   refine' Jlz ?O0 ?O1
   case O0=>
    refine' Jmr ?O2 ?O3 ?O4
    case O2=>exact (PW.pt (Jxg (Jn3 (Jn5 (Jm8 Jur (by rfl) T.Jat Jmx (Sm (pv 0) (Sm (Jmz (Sm (Jor (v:=.ty "list") (by rfl) T.Jav Joq rfl) (Sm (Jor (v:=.ty "tuple") (by rfl) T.Jb3 Jo5 rfl) So))) So))))) (Jtg (Jn3 (Jvu Jqm Jqm Su (Jm8 Jmg (by rfl) T.Jau Jnc (Sm (pv 0) So)) (Jnb (by rfl) T.Jal (v:=.int 16) ⟨_,rfl⟩))))))
    case O3=>
     refine' Jm1 ?O5
     case O5=>exact (Jma Jny)
    case O4=>exact Jme
   case O1=>
   refine' Jlz ?O6 ?O7
   case O6=>
    refine' Jmr ?O8 ?O9 ?Oa
    case O8=>exact (Jn3 (Jn5 (Jm8 (Jqd rfl) (by rfl) T.Jao Juo (Sm (Jmt (N:=(["basin"]:List Str)) (ini:=[none]) rfl (Jn0 (pv 0)) (λ_ _ _ _ _=>(Jm7 (i:=0) (by decide +kernel:(["basin"]:List Str).Nodup) rfl (yf rfl))) (λ_ _ _ _ _=>Jmq) (λ_ _ _ _ _=>(Jm8 (Jwt (K:=K) rfl) (by rfl) T.Jat Jmx (Sm (pv 0) (Sm (Jnb (by rfl) T.Jbl (v:=.ref _) rfl) So))))) So))))
    case O9=>
     refine' Jm1 ?Ob
     case Ob=>exact (Jma Jny)
    case Oa=>exact Jme
   case O7=>
   refine' Jm1 ?Oc
   case Oc=>exact (Jma (Jm4 T.Jt Scu hr (by decide) (Sm (Jmt (N:=(["basin"]:List Str)) (ini:=[none]) rfl (Jn0 (pv 0)) (λ_ _ _ _ _=>(Jm7 (i:=0) (by decide +kernel:(["basin"]:List Str).Nodup) rfl (yf rfl))) (λ_ _ _ _ _=>Jmq) (λ_ _ _ _ _=>(Joa (K:=K) rfl (pv 0) (by rfl)))) So)))
  refine ⟨_,rfl,(show 2<=S9 by decide),λp hp=>⟨_,p,_,_,.type "list",true,rfl,Sr,rfl,.of (.lst (Sl.upd hp _ _ hl)),rfl,_,rfl,Jn9 ?_⟩⟩;have s1:=Sl.upd (o:=.tup [.ty "list",.ty "tuple"]) hp;refine ⟨_,rfl,l,_,rfl,.inl (Sz.of (s1 _ _ hl)),_,_,rfl,rfl,_,rfl,ifT (by rw [ye];simp;omega) ⟨_,_,rfl,rfl,_,rfl,ifF (by rw [ye];simp;omega) ?_⟩⟩;refine ⟨_,rfl,l,rfl,⟨_,Sz.of (s1 _ _ hl)⟩,λD hD=>?_⟩;refine Jni (K:=K) (a:=l) (xs:=os.map V.ref) (D:=D) (λi σ H'=>∃o,σ= [o]/\H' D=some (.lst ((yae i true).map V.bl))/\Sl (upd H p (.tup [.ty "list",.ty "tuple"])) H') ⟨_,rfl,Sr,Sl.upd hD⟩ (λi σ H' _ ⟨o,_,_,sm⟩=>Sz.of (sm _ _ (s1 _ _ hl))) ?_ ?_
  ·rintro i v σ H' hv ⟨o,rfl,hDs,sm⟩;obtain ⟨ob,B,rfl,hB,dx,hb,gs⟩:=(bl.same (s1.trans sm)).get hv;have hi:i < os.length:=by have:=(yi.mp hv).1;rwa [ye] at this
   refine Jna ⟨_,rfl,_,_,_,_,true,rfl,rfl,.of (T.Jeo.ty T.Jen hb),T.Jg4,_,hDs,?_,_,rfl,?_,λc o z=>?_⟩
   ·rw [ye,ycl];exact Jmo (by omega)
   ·rw [Sr,List.replicate_succ',yaj];rfl
   ·rw [Sx (Jm2 z hD)];exact sm _ _ z
  rintro σ H1 ⟨o,rfl,hDs,sm⟩;refine ⟨D,_,rfl,Sz.of hDs,_,rfl,ifF (by simp) ?_⟩;have s2:=s1.trans sm;refine ⟨_,rfl,l,rfl,⟨_,Sz.of (s2 _ _ hl)⟩,λD2 hD2=>?_⟩;refine Jni (K:=K) (a:=l) (xs:=os.map V.ref) (D:=D2) (λi σ H'=>∃o,σ= [o]/\H' D2=some (.lst (((Bs.take i).map (·.z)).map V.str))/\Sl H1 H') ⟨_,rfl,Sr,Sl.upd hD2⟩ (λi σ H' _ ⟨o,_,_,sm⟩=>Sz.of (sm _ _ (s2 _ _ hl))) ?_ ?_
  ·rintro i v σ H' hv ⟨o,rfl,hDs,sm3⟩;obtain ⟨ob,B,rfl,hB,dx,hb,gs⟩:=(bl.same (s2.trans sm3)).get hv;refine Jna ⟨_,rfl,ob,_,dx,_,_,rfl,hb,T.Jen,T.Jfn,rfl,_,hDs,?_,_,rfl,?_,λc o z=>?_⟩
   ·rw [ye,ye,yaf];exact Jmo (by omega)
   ·rw [Sr,yaa,hB];simp
   ·rw [Sx (Jm2 z hD2)];exact sm3 _ _ z
  rintro σ H2 ⟨o,rfl,hDs,sm3⟩;rw [ye,yah (by omega)] at hDs;refine ⟨D2,Bs.map (·.z),rfl,Sz.of hDs,by rw [ye];omega,λH3 s3=>?_⟩;rw [Jzx nd,decide_eq_true rfl];exact k _ ((s2.trans sm3).trans s3)
theorem Sdy:Jm6 ["thing","basins","names"] ["thing","basins"] (Jm5 (top 74)):=%[|0]
theorem Jy1 (T:Tx K mg a):Sv P w K mg base CX0 2 a.Jjw a.Jjx ["thing","basins"] (Ygt K a):=by
 have Scu:=%[Jrg|1];refine %[T.Jv.fn.ok,Sdy|2]
 ·obtain ⟨l,m,os,ts,Bs,Ts,rfl,_⟩:=h;rfl
 ·obtain ⟨l,m,os,ts,Bs,Ts,rfl,hl,bl,hn,hm,tl,tn,nd,inn,k⟩:=h;have len:=bl.len;have tlen:=tl.len;refine ⟨?t,?B,?C⟩
  case B=>
   refine' Jlz ?O0 ?O1
   case O0=>
    refine' Jmr ?O2 ?O3 ?O4
    case O2=>exact (PW.pt (Jxg (Jn3 (Jn5 (Jm8 Jur (by rfl) T.Jat Jmx (Sm (pv 0) (Sm (Jmz (Sm (Jor (v:=.ty "list") (by rfl) T.Jav Joq rfl) (Sm (Jor (v:=.ty "tuple") (by rfl) T.Jb3 Jo5 rfl) So))) So))))) (Jtg (Jmm Jvi (Jm8 Jmg (by rfl) T.Jau Jnc (Sm (pv 0) So)) (Jnb (by rfl) T.Jam (v:=.int 3) ⟨_,rfl⟩) (Jmp _)))))
    case O3=>
     refine' Jm1 ?O5
     case O5=>exact (Jma Jny)
    case O4=>exact Jme
   case O1=>
   refine' Jlz ?O6 ?O7
   case O6=>
    refine' Jmr ?O8 ?O9 ?Oa
    case O8=>exact (Jn3 (Jn5 (Jm8 (Jqd rfl) (by rfl) T.Jao Juo (Sm (Jmt (N:=(["town"]:List Str)) (ini:=[none]) rfl (Jn0 (pv 0)) (λ_ _ _ _ _=>(Jm7 (i:=0) (by decide +kernel:(["town"]:List Str).Nodup) rfl (yf rfl))) (λ_ _ _ _ _=>Jmq) (λ_ _ _ _ _=>(Jm8 (Jwt (K:=K) rfl) (by rfl) T.Jat Jmx (Sm (pv 0) (Sm (Jnb (by rfl) T.Jbm (v:=.ref _) rfl) So))))) So))))
    case O9=>
     refine' Jm1 ?Ob
     case Ob=>exact (Jma Jny)
    case Oa=>exact Jme
   case O7=>
   refine' Jlz ?Oc ?Od
   case Oc=>exact (Jmb (i:=2) Sdy.nd rfl (yaq rfl) (Jmt (N:=(["basin"]:List Str)) (ini:=[none]) rfl (Jn0 (pv 1)) (λ_ _ _ _ _=>(Jm7 (i:=0) (by decide +kernel:(["basin"]:List Str).Nodup) rfl (yf rfl))) (λ_ _ _ _ _=>Jmq) (λ_ _ _ _ _=>(Joa (K:=K) rfl (pv 0) (by rfl)))))
   case Od=>
   refine' Jm1 ?Oe
   case Oe=>exact (Jma (Yu (Jm4 T.Jt Scu hr (by decide) (Sm (Jmt (N:=(["town"]:List Str)) (ini:=[none]) rfl (Jn0 (pv 0)) (λ_ _ _ _ _=>(Jm7 (i:=0) (by decide +kernel:(["town"]:List Str).Nodup) rfl (yf rfl))) (λ_ _ _ _ _=>Jmq) (λ_ _ _ _ _=>(Joa (K:=K) rfl (pv 0) (by rfl)))) So)) (Yw (Jm8 (Jqd rfl) (by rfl) T.Jao Juo (Sm (Jmt (N:=(["town","names"]:List Str)) (ini:=[none,some 2]) rfl (Jn0 (pv 0)) (λ_ _ _ _ _=>(Jm7 (i:=0) (by decide +kernel:(["town","names"]:List Str).Nodup) rfl (yf rfl))) (λ_ _ _ _ _=>Jmq) (λ_ _ _ _ _=>(Jq0 (Yt (K:=K) rfl) (Joa (K:=K) rfl (pv 0) (by rfl)) (pv 1) (by with_unfolding_all rfl)))) So)))))
  refine ⟨_,rfl,(show 2<=S9 by decide),λp hp=>⟨_,p,_,_,.type "list",true,rfl,Sr,rfl,.of (.lst (Sl.upd hp _ _ hm)),rfl,_,rfl,Jn9 ?_⟩⟩;have s1:=Sl.upd (o:=.tup [.ty "list",.ty "tuple"]) hp;refine ⟨_,rfl,m,_,rfl,.inl (Sz.of (s1 _ _ hm)),_,_,rfl,rfl,_,rfl,ifF (by rw [ye];simp;omega) ?_⟩;refine ⟨_,rfl,m,rfl,⟨_,Sz.of (s1 _ _ hm)⟩,λD hD=>?_⟩;refine Jni (K:=K) (a:=m) (xs:=ts.map V.ref) (D:=D) (λi σ H'=>∃o,σ= [o]/\H' D=some (.lst ((yae i true).map V.bl))/\Sl (upd H p (.tup [.ty "list",.ty "tuple"])) H') ⟨_,rfl,Sr,Sl.upd hD⟩ (λi σ H' _ ⟨o,_,_,sm⟩=>Sz.of (sm _ _ (s1 _ _ hm))) ?_ ?_
  ·rintro i v σ H' hv ⟨o,rfl,hDs,sm⟩;obtain ⟨ob,B,rfl,hB,dx,hb⟩:=(tl.same (s1.trans sm)).get hv;have hi:i < ts.length:=by have:=(yi.mp hv).1;rwa [ye] at this
   refine Jna ⟨_,rfl,_,_,_,_,true,rfl,rfl,.of (T.Jer.ty T.Jeq hb),T.Jg5,_,hDs,?_,_,rfl,?_,λc o z=>?_⟩
   ·rw [ye,ycl];exact Jmo (by omega)
   ·rw [Sr,List.replicate_succ',yaj];rfl
   ·rw [Sx (Jm2 z hD)];exact sm _ _ z
  rintro σ H1 ⟨o,rfl,hDs,sm⟩;refine ⟨D,_,rfl,Sz.of hDs,_,rfl,ifF (by simp) ?_⟩;have s2:=s1.trans sm;refine ⟨_,rfl,l,rfl,⟨_,Sz.of (s2 _ _ hl)⟩,λD2 hD2=>?_⟩;refine Jni (K:=K) (a:=l) (xs:=os.map V.ref) (D:=D2) (λi σ H'=>∃o,σ= [o]/\H' D2=some (.lst (((Bs.take i).map (·.z)).map V.str))/\Sl H1 H') ⟨_,rfl,Sr,Sl.upd hD2⟩ (λi σ H' _ ⟨o,_,_,sm⟩=>Sz.of (sm _ _ (s2 _ _ hl))) ?_ ?_
  ·rintro i v σ H' hv ⟨o,rfl,hDs,sm3⟩;obtain ⟨ob,B,rfl,hB,dx,hb,gs⟩:=(bl.same (s2.trans sm3)).get hv;refine Jna ⟨_,rfl,ob,_,dx,_,_,rfl,hb,T.Jen,T.Jfn,rfl,_,hDs,?_,_,rfl,?_,λc o z=>?_⟩
   ·rw [ye,ye,yaf];exact Jmo (by omega)
   ·rw [Sr,yaa,hB];simp
   ·rw [Sx (Jm2 z hD2)];exact sm3 _ _ z
  rintro σ H2 ⟨o,rfl,hD2s,sm3⟩;rw [ye,yah (by omega)] at hD2s;have s3:=s2.trans sm3;refine ⟨_,rfl,m,rfl,⟨_,Sz.of (s3 _ _ hm)⟩,λD3 hD3=>?_⟩;refine Jni (K:=K) (a:=m) (xs:=ts.map V.ref) (D:=D3) (λi σ H'=>∃o,σ= [o]/\H' D3=some (.lst (((Ts.take i).map (·.z)).map V.str))/\Sl H2 H') ⟨_,rfl,Sr,Sl.upd hD3⟩ (λi σ H' _ ⟨o,_,_,sm⟩=>Sz.of (sm _ _ (s3 _ _ hm))) ?_ ?_
  ·rintro i v σ H' hv ⟨o,rfl,hDs,sm4⟩;obtain ⟨ob,B,rfl,hB,dx,hb⟩:=(tl.same (s3.trans sm4)).get hv;refine Jna ⟨_,rfl,ob,_,dx,_,_,rfl,hb,T.Jeq,T.Jft,rfl,_,hDs,?_,_,rfl,?_,λc o z=>?_⟩
   ·rw [ye,ye,yaf];exact Jmo (by omega)
   ·rw [Sr,yaa,hB];simp
   ·rw [Sx (Jm2 z hD3)];exact sm4 _ _ z
  rintro σ H3 ⟨o,rfl,hD3s,sm4⟩;rw [ye,yah (by omega)] at hD3s;refine ⟨D3,Ts.map (·.z),rfl,Sz.of hD3s,by rw [ye];omega,λH4 s4=>⟨_,rfl,ifT (by rw [Jzx nd,decide_eq_true rfl]) ?_⟩⟩;have s5:=(s3.trans sm4).trans s4;have hD24:=s4 _ _ (sm4 _ _ hD2s);refine ⟨_,rfl,m,rfl,⟨_,Sz.of (s5 _ _ hm)⟩,λD4 hD4=>?_⟩;refine Jni (K:=K) (a:=m) (xs:=ts.map V.ref) (D:=D4) (λi σ H'=>∃o,σ= [o,some (.ref D2)]/\H' D4=some (.lst ((yae i true).map V.bl))/\Sl H4 H') ⟨_,rfl,Sr,Sl.upd hD4⟩ (λi σ H' _ ⟨o,_,_,sm⟩=>Sz.of (sm _ _ (s5 _ _ hm))) ?_ ?_
  ·rintro i v σ H' hv ⟨o,rfl,hDs,sm6⟩;obtain ⟨ob,B,rfl,hB,dx,hb⟩:=(tl.same (s5.trans sm6)).get hv;have hi:i < ts.length:=by have:=(yi.mp hv).1;rwa [ye] at this
   refine Jna ⟨_,rfl,ob,_,dx,_,_,rfl,hb,T.Jeq,T.Jfu,rfl,_,rfl,D2,_,rfl,.inl (Sz.of (sm6 _ _ hD24)),rfl,by simp [Js6],?_⟩;have e:inV (V.str B.b) ((Bs.map (·.z)).map V.str)=true:=by
    obtain ⟨z,hz,ez⟩:=yo.mp (inn B (yr hB));unfold inV;refine List.any_eq_true.mpr ⟨V.str z.z,yo.mpr ⟨z.z,yo.mpr ⟨z,hz,rfl⟩,rfl⟩,?_⟩;simp [eqV,ez]
   show ∃ys,_;rw [if_neg yak,e];refine ⟨_,hDs,?_,_,rfl,?_,λc o z=>?_⟩
   ·rw [ye,ycl];exact Jmo (by omega)
   ·rw [Sr,List.replicate_succ',yaj];rfl
   ·rw [Sx (Jm2 z hD4)];exact sm6 _ _ z
  rintro σ H5 ⟨o,rfl,hD4s,sm6⟩;refine ⟨D4,_,rfl,Sz.of hD4s,?_⟩;rw [show (yae (ts.map V.ref).length true).all id=true by simp];exact k _ (s5.trans sm6)
theorem Jra:Jm6 ["self","thing"] ["self","thing"] (Jm5 (Jmc (top 7) 0)):=%[|0]
theorem Ju1 (T:Tx K mg a):Sv P w K mg base CX0 1 a.Jgs a.Jgt ["self","thing"] (Jp7 K "thing"):=by
 refine %[T.Jcp.fn.ok,Jra|2]
 ·obtain ⟨e,C,W,fI,y,rfl,_⟩:=h;rfl
 ·obtain ⟨e,C,W,fI,y,rfl,q,c,n,k⟩:=h;refine ⟨_,(Jm1 (Jp3 (pv 0) (pv 1) rfl)),?_⟩;exact ⟨_,rfl,_,rfl,e,C,W,fI,true,rfl,q,c,n,k⟩
theorem Jrb:Jm6 ["self","thing"] ["self","thing"] (Jm5 (Jmc (top 8) 0)):=%[|0]
theorem Ju2 (T:Tx K mg a):Sv P w K mg base CX0 1 a.Jgu a.Jgv ["self","thing"] (Jp7 K "thing"):=by
 refine %[T.Jcq.fn.ok,Jrb|2]
 ·obtain ⟨e,C,W,fI,y,rfl,_⟩:=h;rfl
 ·obtain ⟨e,C,W,fI,y,rfl,q,c,n,k⟩:=h;refine ⟨_,(Jm1 (Jp3 (pv 0) (pv 1) rfl)),?_⟩;exact ⟨_,rfl,_,rfl,e,C,W,fI,true,rfl,q,c,n,k⟩
theorem Jzw {H:Hp} {p q:S4} {o u:HO} (h:p≠q):upd (upd H p o) q u=upd (upd H q u) p o:=by
 funext c;by_cases h1:c=p
 ·subst h1;rw [Sr,Sx h,Sr]
 ·rw [Sx h1];by_cases h2:c=q
  ·subst h2;rw [Sr,Sr]
  ·rw [Sx h2,Sx h2,Sx h1]
noncomputable def Sk0 (c g b t:V):List (Str×V):=[("cloud",c),("gain",g),("basins",b),("towns",t)]
inductive Ygq (K:Sg) (a:Ad) (vs:List V) (H:Hp) (Q:VK) (z3:XK):Prop where
 |mk (p dx l m:S4) (c g:Int) (os ts:List S4) (Bs:List Bsn) (Ts:List Twn) (_:vs= [.ref p,.int c,.int g,.ref l,.ref m]) (_:H p=some (.ins a.Jlu dx [])) (_:(0<=c/\c<=12)) (_:(0<=g/\g<=c)) (_:H l=some (.lst (os.map V.ref))) (_:Sbx K a H os Bs) (_:(1<=Bs.length/\Bs.length<=16)) (_:(Bs.map (·.z)).Nodup) (_:H m=some (.lst (ts.map V.ref))) (_:Sc5 a H ts Ts) (_:Ts.length<=3) (_:(Ts.map (·.z)).Nodup) (_:(∀t∈Ts,t.b∈Bs.map (·.z))) (_:∀H' b t,Sl H H'->H' b=some (.tup (os.map V.ref))->H' t=some (.tup (ts.map V.ref))->b≠p->t≠p->Q .non (upd H' p (.ins a.Jlu dx (Sk0 (.int c) (.int g) (.ref b) (.ref t)))))
theorem Jp8 {i lo hi:Int} (h1:lo<=i) (h2:i<=hi):Jmn (.int i) lo hi=true:=by
 show (decide (lo<=i)&&decide (i<=hi))=true;rw [decide_eq_true h1,decide_eq_true h2];rfl
theorem Jsm:Jm6 ["self","cloud","gain","basins","towns"] ["self","cloud","gain","basins","towns"] (Jm5 (Jmc (top 75) 0)):=%[|0]
theorem Jw9 (T:Tx K mg a):Sv P w K mg base (CXX P w) 4 a.Jjy a.Jjz ["self","cloud","gain","basins","towns"] (Ygq K a):=by
 have Sa4:=%[Jnx|1];have Sft:=%[Jwa|1];have Sg9:=%[Jy1|1];have Sby:=%[Ju1|1];have Sbz:=%[Ju2|1];refine %[T.Jde.fn.okX,Jsm|2]
 ·obtain ⟨p,dx,l,m,c,g,os,ts,Bs,Ts,rfl,_⟩:=h;rfl
 ·obtain ⟨p,dx,l,m,c,g,os,ts,Bs,Ts,rfl,hp,hc,hg,hl,bl,hn,nd,hm,tl,tn,tnd,inn,k⟩:=h;refine ⟨?t,?B,?C⟩
  case B=>
   refine' Jlz ?O0 ?O1
   case O0=>
    refine' Jmr ?O2 ?O3 ?O4
    case O2=>exact (Jn3 (Jn5 (Jm4 T.J0 Sa4 hr (by decide) (Sm (pv 1) (Sm Su (Sm (Jnb (by rfl) T.Jak (v:=.int 12) ⟨_,rfl⟩) So))))))
    case O3=>
     refine' Jm1 ?O5
     case O5=>exact (Jn7 Jn6 rfl (Jnz T.Jdl Sby hr (by decide) T.Jcp.bd T.Jb9 (Sm (pv 1) So)))
    case O4=>exact Jme
   case O1=>
   refine' Jlz ?O6 ?O7
   case O6=>
    refine' Jmr ?O8 ?O9 ?Oa
    case O8=>exact (Jn3 (Jn5 (Jm4 T.J0 Sa4 hr (by decide) (Sm (pv 2) (Sm Su (Sm (pv 1) So))))))
    case O9=>
     refine' Jm1 ?Ob
     case Ob=>exact (Jn7 Jn6 rfl (Jnz T.Jdl Sby hr (by decide) T.Jcp.bd T.Jb9 (Sm (pv 2) So)))
    case Oa=>exact Jme
   case O7=>
   refine' Jlz ?Oc ?Od
   case Oc=>
    refine' Jmr ?Oe ?Of ?Og
    case Oe=>exact (Jn3 (Jn5 (Jm4 T.Ju Sft hr (by decide) (Sm (pv 3) So))))
    case Of=>
     refine' Jm1 ?Oh
     case Oh=>exact (Jn7 Jn6 rfl (Jnz T.Jdm Sbz hr (by decide) T.Jcq.bd T.Jba (Sm (pv 3) So)))
    case Og=>exact Jme
   case Od=>
   refine' Jlz ?Oi ?Oj
   case Oi=>
    refine' Jmr ?Ok ?Ol ?Om
    case Ok=>exact (Jn3 (Jn5 (Jm4 T.Jv Sg9 hr (by decide) (Sm (pv 4) (Sm (pv 3) So)))))
    case Ol=>
     refine' Jm1 ?On
     case On=>exact (Jn7 Jn6 rfl (Jnz T.Jdm Sbz hr (by decide) T.Jcq.bd T.Jba (Sm (pv 4) So)))
    case Om=>exact Jme
   case Oj=>
   refine' Jlz ?Oo ?Op
   case Oo=>exact (Jmw (pv 0) (pv 1) rfl)
   case Op=>
   refine' Jlz ?Oq ?Or
   case Oq=>exact (Jmw (pv 0) (pv 2) rfl)
   case Or=>
   refine' Jlz ?Os ?Ot
   case Os=>exact (Jmw (pv 0) (Jms Jng (by rfl) T.Jb3 Jo5 (Sm (pv 3) So)) rfl)
   case Ot=>
   refine' Jm1 ?Ou
   case Ou=>exact (Jmw (pv 0) (Jms Jng (by rfl) T.Jb3 Jo5 (Sm (pv 4) So)) rfl)
  refine ⟨_,rfl,_,0,12,rfl,.inl ⟨_,rfl⟩,_,rfl,ifF (by rw [Jp8 hc.1 hc.2];rfl) ?_⟩;refine ⟨_,rfl,_,rfl,_,0,c,rfl,.inl ⟨_,rfl⟩,_,rfl,ifF (by rw [Jp8 hg.1 hg.2];rfl) ?_⟩;refine ⟨_,rfl,l,os,Bs,rfl,hl,bl,hn,nd,λH1 s1=>⟨_,rfl,Jn9 ?_⟩⟩;refine ⟨_,rfl,_,rfl,l,m,os,ts,Bs,Ts,rfl,s1 _ _ hl,bl.same s1,hn.2,s1 _ _ hm,tl.same s1,tn,tnd,inn,λH2 s2=>⟨_,rfl,Jn9 ?_⟩⟩;have s3:=s1.trans s2;have hp2:=s3 _ _ hp;refine ⟨_,rfl,_,rfl,p,_,dx,[],rfl,hp2,T.Jet,T.Jfw,by simp,?_⟩;rw [show Jn8 "cloud" (.int c) []=([("cloud",.int c)]:List (Str×V)) from rfl];refine ⟨_,rfl,_,rfl,p,_,dx,_,rfl,Sr,T.Jet,T.Jfx,by simp,?_⟩;rw [show Jn8 "gain" (.int g) [("cloud",.int c)]=([("cloud",.int c),("gain",.int g)]:List (Str×V)) from Jmu (fs:=[("cloud",.int c)]) (show (["cloud"]:List Str).contains "gain" =false by decide +kernel),Jnr];have nl:l≠p:=λe=>by subst e;rw [hl] at hp;cases hp
  have nm:m≠p:=λe=>by subst e;rw [hm] at hp;cases hp
  refine ⟨_,rfl,l,_,rfl,.inl ⟨Sz.of (by rw [Sx nl];exact s3 _ _ hl),λb hb=>?_⟩⟩;have nb:b≠p:=λe=>by subst e;rw [Sr] at hb;cases hb
  rw [Sx nb] at hb;rw [Jzw nb.symm];refine ⟨_,rfl,p,_,dx,_,rfl,Sr,T.Jet,T.Jfy,by simp,?_⟩;rw [show Jn8 "basins" (.ref b) [("cloud",.int c),("gain",.int g)]=([("cloud",.int c),("gain",.int g),("basins",.ref b)]:List (Str×V)) from Jmu (fs:=[("cloud",.int c),("gain",.int g)]) (show (["cloud","gain"]:List Str).contains "basins" =false by decide +kernel),Jnr];have s4:=s3.trans (Sl.upd (o:=.tup (os.map V.ref)) hb);refine ⟨_,rfl,m,_,rfl,.inl ⟨Sz.of (by rw [Sx nm];exact s4 _ _ hm),λt ht=>?_⟩⟩;have nt:t≠p:=λe=>by subst e;rw [Sr] at ht;cases ht
  rw [Sx nt] at ht;rw [Jzw nt.symm];refine ⟨_,rfl,p,_,dx,_,rfl,Sr,T.Jet,T.Jfz,by simp,?_⟩;rw [show Jn8 "towns" (.ref t) [("cloud",.int c),("gain",.int g),("basins",.ref b)]=(Sk0 (.int c) (.int g) (.ref b) (.ref t)) from Jmu (fs:=[("cloud",.int c),("gain",.int g),("basins",.ref b)]) (show (["cloud","gain","basins"]:List Str).contains "towns" =false by decide +kernel),Jnr];have s5:=Sl.upd (o:=.tup (ts.map V.ref)) ht;exact k _ b t (s4.trans s5) (s5 _ _ Sr) Sr nb nt
structure Riv where
 c:Int
 g:Int
 Bs:List Bsn
 Ts:List Twn
inductive Sah (K:Sg) (a:Ad) (H:Hp) (o:S4) (R:Riv):Prop where
 |mk (dx b t:S4) (os ts:List S4) (_:H o=some (.ins a.Jlu dx (Sk0 (.int R.c) (.int R.g) (.ref b) (.ref t)))) (_:H b=some (.tup (os.map V.ref))) (_:Sbx K a H os R.Bs) (_:H t=some (.tup (ts.map V.ref))) (_:Sc5 a H ts R.Ts) (_:R.Bs.length<=16/\R.Ts.length<=3/\∀B∈R.Bs,0<=B.rn/\B.rn<=6)
theorem Sah.same {K:Sg} {a:Ad} {H H':Hp} {o:S4} {R:Riv} (s:Sl H H') (h:Sah K a H o R):Sah K a H' o R:=
 let ⟨dx,b,t,os,ts,h1,h2,h3,h4,h5,h6⟩:=h
 ⟨dx,b,t,os,ts,s _ _ h1,s _ _ h2,h3.same s,s _ _ h4,h5.same s,h6⟩
theorem Sla {K:Sg} {i j k:Nat} {T:S4} {x y u:V} {σ:L2.St} {H:Hp} {A B:L2.St->Hp->Prop} (hT:SqT K H T [x,y,u]) (h:A (((σ.set i (some x)).set j (some y)).set k (some u)) H):
  Sjw K 3 (Jto (Jot i) (Jto (Jot j) (Jto (Jot k) Smr))) (.ref T) σ H λσ3 H3=>Jys σ3 H3 λb H4=>if b=true then A σ3 H4 else B σ3 H4:=by
 refine ⟨T,_,rfl,hT,rfl,_,_,rfl,_,_,rfl,_,_,rfl,rfl,?_⟩;show if true=true then A (((σ.set i (some x)).set j (some y)).set k (some u)) H else B (((σ.set i (some x)).set j (some y)).set k (some u)) H
 rw [if_pos rfl];exact h
theorem Ycz (xs:List V) (k:Nat) (h:k<=xs.length):Jpp xs none (some (k:Int))=xs.take k:=by
 unfold Jpp;rw [HT.sIx_none,HT.sIx_nat];simp [yci h]
theorem Ycw (xs:List V) (k:Nat) (h:k<=xs.length):Jpp xs (some (k:Int)) none=xs.drop k:=by
 unfold Jpp;rw [HT.sIx_none,HT.sIx_nat,yci h];exact yah (by rw [ybq];exact yg _)
theorem Jo6 {i:Int} (h:i.natAbs<=1000):i.natAbs.log2 < 9000:=Nat.lt_of_le_of_lt (Nat.log2_le_self _) (by omega)
noncomputable def one (c:Nat):Str:=⟨#[c]⟩
theorem Jqz (cs:List Nat):(Txt.join ("" :Str) (cs.map one)).cps.toList=cs:=by
 have e1:Txt.join ("" :Str) (cs.map one)=Str.join ("" :Str) (cs.map one):=beq_iff_eq.mp (join_plain_closes ("" :Str) _);rw [e1]
 induction cs with
 |nil=>rfl
 |cons c r ih=>
  cases r with
  |nil=>rfl
  |cons d r'=>
   have e:Str.join ("" :Str) ((c::d::r').map one)=one c++("" :Str)++Str.join ("" :Str) ((d::r').map one):=rfl;rw [e];have a:∀x y:Str,(x++y).cps.toList=x.cps.toList++y.cps.toList:=λx y=>by
    show (x.cps++y.cps).toList=_;exact Array.toList_append
   rw [a,a,ih (beq_iff_eq.mp (join_plain_closes ("" :Str) _))];have z:("" :Str).cps.toList= []:=by decide +kernel
   rw [z];rfl
theorem Yet (cs:List Nat):((cs.map one).map (·.length)).sum=cs.length:=by
 induction cs with
 |nil=>rfl
 |cons c r ih=>
  rw [yap,yap,List.sum_cons,ih,yag];show 1+_=_;omega
structure Ltr (n:Nat) (z:Str):Prop where
 len:z.length<=n
 inn:∀c∈z.cps.toList,c∈LET.cps.toList
theorem Ltr.wd {n:Nat} {z:Str} (a:Ltr n z):Wd n z:=⟨a.len,λc hc=>Sp2.low c (a.inn c hc)⟩
theorem Yfo {i j:Int} {c:Nat} (i0:0<=i) (i1:i < 26) (j0:0<=j) (j1:j < 26) (hi:atI LET.cps.toList i=some c) (hj:atI LET.cps.toList j=some c):i=j:=by
 have all:(yaw 26).all (λp=>(yaw 26).all λq=>decide (p=q)||!decide (atI LET.cps.toList (p:Int)=atI LET.cps.toList (q:Int)))=true:=by decide +kernel
 obtain ⟨p,rfl⟩:=ycc i0;obtain ⟨q,rfl⟩:=ycc j0;have h1:=ybf.mp all p (ybu.mpr (by omega));have h2:=ybf.mp h1 q (ybu.mpr (by omega));rw [hi,hj] at h2;have h3:p=q:=by simpa using h2
 rw [h3]
noncomputable def NmK (f:Int) (n:Nat) (k:Nat) (z:Str):Prop:=1<=z.cps.toList.length/\z.cps.toList.length<=8/\(∀c∈z.cps.toList,c∈LET.cps.toList)/\∃c,atI LET.cps.toList ((f+(k:Int))%26)=some c/\z.cps.toList[n]?=some c
noncomputable def Nms (zs:List Str):Prop:=zs.Nodup/\∀z∈zs,Jpr z=true/\Ltr 8 z
theorem Sn5 {f:Int} {n:Nat} {zs:List Str} (hl:zs.length<=26) (h:∀(k:Nat) z,zs[k]?=some z->NmK f n k z):Nms zs:=by
 refine ⟨List.pairwise_iff_getElem.mpr λi j hi hj lt e=>?_,λz hz=>?_⟩
 ·obtain ⟨_,_,_,c,h1,h2⟩:=h i _ (yh hi);obtain ⟨_,_,_,d,h3,h4⟩:=h j _ (yh hj);rw [e,h4] at h2;cases h2;have:=Yfo (by omega) (by omega) (by omega) (by omega) h1 h3;omega
 ·obtain ⟨k,hk⟩:=ybl hz;obtain ⟨h1,h2,h3,_⟩:=h k z hk;have el:z.length=z.cps.toList.length:=by rw [ybv];rfl
  refine ⟨?_,by omega,h3⟩;unfold Jpr Jwn;rw [yan];exact ⟨decide_eq_true (by omega),ybf.mpr λd hd=>decide_eq_true (h3 d hd)⟩
inductive Ygn (vs:List V) (H:Hp) (Q:VK) (z3:XK):Prop where
 |mk (p:S4) (m:Nat) (_:vs= [.ref p,.int m]) (_:Sc4 H p) (_:m<=26) (_:∀(l:S4) (zs:List Str) (H':Hp),H l=none->But p H H'->H' l=some (.lst (zs.map V.str))->zs.length=m->Nms zs->Q (.ref l) H')
theorem Sb4:Jm6 ["_law_stream_here","_law_many","_law_letters","_law_size","_law_at","_law_base","_law_first"] ["_law_stream_here","_law_many"] (Jm5 (top 85)):=%[|0]
theorem Jse (T:Tx K mg a):Sv P w K mg base CX0 2 a.Jkc a.Jkd ["_law_stream_here","_law_many"] Ygn:=by
 have Sn:=%[Jog|1];refine %[T.Ja0.fn.ok,Sb4|2]
 ·obtain ⟨p,m,rfl,_⟩:=h;rfl
 ·obtain ⟨p,m,rfl,st,hm,k⟩:=h;refine ⟨?t,?B,?C⟩
  case B=>
   refine' Jlz ?O0 ?O1
   case O0=>exact (Jmb (i:=2) Sb4.nd rfl (yaq rfl) Jnl)
   case O1=>
   refine' Jlz ?O2 ?O3
   case O2=>exact (Jmb (i:=3) Sb4.nd rfl (yf rfl) (Jm9 Jml Su (Jm4 T.Jz Sn hr (by decide) (Sm (pv 0) (Sm Su So)))))
   case O3=>
   refine' Jlz ?O4 ?O5
   case O4=>exact (Jmb (i:=4) Sb4.nd rfl (yaq rfl) (Jm4 T.Jz Sn hr (by decide) (Sm (pv 0) (Sm (pv 3) So))))
   case O5=>
   refine' Jlz ?O6 ?O7
   case O6=>exact (Jmb (i:=5) Sb4.nd rfl (yaq rfl) (Jmt (N:=(["_law_k","_law_letters","_law_stream_here"]:List Str)) (ini:=[none,some 2,some 0]) rfl (Jns (by rfl) T.Jay (Sm (pv 3) So)) (λ_ _ _ _ _=>(Jm7 (i:=0) (by decide +kernel:(["_law_k","_law_letters","_law_stream_here"]:List Str).Nodup) rfl (yf rfl))) (λ_ _ _ _ _=>Jmq) (λ_ _ _ _ _=>(Jmf Yg (pv 1) (Jm4 T.Jz Sn hr (by decide) (Sm (pv 2) (Sm Su So))) (λ_ _=>rfl)))))
   case O7=>
   refine' Jlz ?O8 ?O9
   case O8=>exact (Jmb (i:=6) Sb4.nd rfl (yaq rfl) (Jm4 T.Jz Sn hr (by decide) (Sm (pv 0) (Sm Su So))))
   case O9=>
   refine' Jm1 ?Oa
   case Oa=>exact (Jma (Jmt (N:=(["_law_k","_law_base","_law_at","_law_letters","_law_first"]:List Str)) (ini:=[none,some 5,some 4,some 2,some 6]) rfl (Jns (by rfl) T.Jay (Sm (pv 1) So)) (λ_ _ _ _ _=>(Jm7 (i:=0) (by decide +kernel:(["_law_k","_law_base","_law_at","_law_letters","_law_first"]:List Str).Nodup) rfl (yf rfl))) (λ_ _ _ _ _=>Jmq) (λ_ _ _ _ _=>(Sn8 (K:=K) rfl F.plainAttrs_str F.slot_str_join F.type_str_join (Ydl (K:=K) rfl) Jnl (Sm (Jm9 Jte (Jm9 Jte (Jov (Jsq (K:=K) rfl) (pv 1) Jsh (Jon (pv 2))) (Jmy (Sm (Jmf Yg (pv 3) (Jm9 Jo3 (Jm9 Jml (pv 4) (pv 0)) Su) (λ_ _=>rfl)) So))) (Jov (Jsq (K:=K) rfl) (pv 1) (Jon (Jm9 Jml (pv 2) Su)) Jsh)) So)))))
  refine ⟨_,rfl,p,8,rfl,st,by decide,by decide,λsz H1 z0 z1 b1=>⟨_,_,rfl,rfl,?_⟩⟩;refine ⟨_,rfl,_,rfl,p,_,rfl,b1.2,by omega,Jo6 (by omega),λat_ H2 a0 a1 b2=>?_⟩;have b12:=b1.trans b2;refine ⟨_,rfl,_,rfl,by omega,by omega,λD hD=>?_⟩;have neD:D≠p:=b12.2.ne hD;refine Jrk (D:=D) (λi σ H'=>∃(o:Option V) (cs:List Nat),σ= [o,some (.str LET),some (.ref p)]/\H' D=some (.lst (cs.map sgn))/\cs.length=i/\(∀c∈cs,c∈LET.cps.toList)/\But p H2 H')
   ?_ ?_ ?_
  ·exact ⟨none,[],rfl,Sr,rfl,(λy hy=>absurd hy (by simp)),But.of b12.2 (Sl.upd hD)⟩
  ·rintro i σ H' hi ⟨o,cs,rfl,hDs,hl,hw,b⟩;refine Jna ⟨_,rfl,_,rfl,p,26,rfl,b.2,by decide,by decide,λr H3 r0 r1 b3=>?_⟩;obtain ⟨c,hc,hat⟩:=Ycq (g:=LET) r0 (by
    have:LET.length=26:=by decide +kernel
    omega)
   refine ⟨LET,r,c,rfl,rfl,Jn4 _ (by decide +kernel),hat,cs.map sgn,b3.1 D _ neD hDs,?_,_,cs++ [c],rfl,?_,?_,?_,(b.trans b3).new hD b12.2⟩
   ·rw [ye];exact Jmo (by omega)
   ·rw [Sr,yaj];rfl
   ·rw [yad];show cs.length+1=i+1;omega
   ·intro y hy;rcases yax.mp hy with hy|hy
    ·exact hw y hy
    ·rw [yam.mp hy];exact hc
  rintro σ H3 ⟨o,cs,rfl,hDs,hl,hw,b3⟩;have hl':cs.length=(1+sz).toNat:=hl;have b13:=b12.trans b3;refine ⟨_,rfl,p,26,rfl,b13.2,by decide,by decide,λf H4 f0 f1 b4=>?_⟩;have hD4:=b4.1 _ _ neD hDs;have b14:=b13.trans b4;obtain ⟨n,rfl⟩:=ycc a0;have hn:n < cs.length:=by omega
  have e1:Jpp (cs.map sgn) none (some (n:Int))=(cs.take n).map sgn:=by rw [Ycz _ n (by rw [ye];omega),List.map_take]
  have e2:Jpp (cs.map sgn) (some ((n:Int)+1)) none=(cs.drop (n+1)).map sgn:=by rw [show ((n:Int)+1)=((n+1:Nat):Int) from rfl,Ycw _ (n+1) (by rw [ye];omega),List.map_drop]
  refine ⟨_,rfl,_,rfl,by omega,by omega,λD2 hD2=>?_⟩;have s4:=Sl.upd (o:=.lst []) hD2;refine Jrk (D:=D2) (λi σ H'=>∃(o:Option V) (zs:List Str),σ= [o,some (.ref D),some (.int n),some (.str LET),some (.int f)]/\H' D2=some (.lst (zs.map V.str))/\zs.length=i/\(∀(k:Nat) z,zs[k]?=some z->NmK f n k z)/\Sl H4 H') ?_ ?_ ?_
  ·exact ⟨_,[],rfl,Sr,rfl,(λk z e=>by simp at e),s4⟩
  ·rintro i σ H' hi ⟨o,zs,rfl,hDs2,hzl,hz,sm⟩;obtain ⟨c,hc,hat⟩:=Ycq (g:=LET) (r:=(f+(0+(i:Int)))%26) (by omega) (by
    have:LET.length=26:=by decide +kernel
    omega)
   have hD':=sm _ _ hD4;refine Jna ?_;refine ⟨rfl,_,rfl,_,rfl,_,rfl,D,_,rfl,Sz.of hD',λq1 hq1=>?_⟩;rw [e1];have t1:=Sl.upd (o:=.lst ((cs.take n).map sgn)) hq1;have g1:=Sr (H:=H') (a:=q1) (o:=.lst ((cs.take n).map sgn));generalize upd H' q1 (.lst ((cs.take n).map sgn))=K1 at*;refine ⟨_,rfl,_,rfl,_,rfl,_,_,rfl,rfl,_,_,rfl,rfl,(show (0:Int) < 26 by decide),LET,_,c,rfl,rfl,Jn4 _ (by decide +kernel),hat,(show 1<=S9 by decide),λq2 hq2=>?_⟩;have t2:=Sl.upd (o:=.lst [.str ⟨#[c]⟩]) hq2;have g2:=Sr (H:=K1) (a:=q2) (o:=.lst [.str ⟨#[c]⟩]);generalize upd K1 q2 (.lst [.str ⟨#[c]⟩])=K2 at*;have hl3:((cs.take n).map sgn).length+ [V.str ⟨#[c]⟩].length<=S9:=Jn4 _ (by rw [ye,yaf];show _+1<=2000;omega);refine ⟨q1,q2,_,_,rfl,rfl,t2 _ _ g1,g2,hl3,λq3 hq3=>?_⟩;have t3:=Sl.upd (o:=.lst ((cs.take n).map sgn++ [.str ⟨#[c]⟩])) hq3;have g3:=Sr (H:=K2) (a:=q3) (o:=.lst ((cs.take n).map sgn++ [.str ⟨#[c]⟩]));generalize upd K2 q3 (.lst ((cs.take n).map sgn++ [.str ⟨#[c]⟩]))=K3 at*;have t13:=(t1.trans t2).trans t3;refine ⟨_,rfl,_,rfl,_,_,rfl,rfl,_,rfl,D,_,rfl,Sz.of (t13 _ _ hD'),λq4 hq4=>?_⟩;rw [e2];have t4:=Sl.upd (o:=.lst ((cs.drop (n+1)).map sgn)) hq4;have g4:=Sr (H:=K3) (a:=q4) (o:=.lst ((cs.drop (n+1)).map sgn));generalize upd K3 q4 (.lst ((cs.drop (n+1)).map sgn))=K4 at*;have hl5:((cs.take n).map sgn++ [V.str ⟨#[c]⟩]).length+((cs.drop (n+1)).map sgn).length<=S9:=Jn4 _ (by rw [yad,ye,ye,yaf,ybq];show _+1+_<=2000;omega);refine ⟨q3,q4,_,_,rfl,rfl,t4 _ _ g3,g4,hl5,λq5 hq5=>?_⟩;obtain ⟨ws,ew,wl,wn,wi⟩:∃ws:List Nat,(cs.take n).map sgn++ [.str ⟨#[c]⟩]++(cs.drop (n+1)).map sgn=ws.map sgn/\ws.length=cs.length/\ws[n]?=some c/\∀d∈ws,d∈LET.cps.toList:=by
    refine ⟨cs.take n++ [c]++cs.drop (n+1),by simp [sgn],by simp;omega,?_,λd hd=>?_⟩
    ·rw [List.append_assoc,List.getElem?_append_right (by simp;omega)];simp [yci (ycf hn)]
    ·rcases yax.mp hd with hd|hd
     ·rcases yax.mp hd with hd|hd
      ·exact hw d (ycs hd)
      ·rw [yam.mp hd];exact hc
     ·exact hw d (List.mem_of_mem_drop hd)
   rw [ew];have t5:=Sl.upd (o:=.lst (ws.map sgn)) hq5;have g5:=Sr (H:=K4) (a:=q5) (o:=.lst (ws.map sgn));generalize upd K4 q5 (.lst (ws.map sgn))=K5 at*;have t15:=(t13.trans t4).trans t5;have hsg:ws.map sgn=(ws.map one).map V.str:=by rw [yas];rfl
   refine ⟨"",q5,ws.map one,rfl,rfl,Sz.of (by rw [<-hsg];exact g5),?_,_,t15 _ _ hDs2,?_,_,zs++ [Txt.join ("" :Str) (ws.map one)],rfl,?_,?_,λk z e=>?_,?_⟩
   ·have:("" :Str).length=0:=by decide +kernel
    rw [this,Yet];omega
   ·rw [ye];exact Jmo (by omega)
   ·rw [Sr,yaj];rfl
   ·rw [yad,hzl];rfl
   ·rw [ycp] at e;split at e
    ·exact hz k z e
    ·have hk:k=i:=by
      have:=(yi.mp e).1;simp at this;omega
     subst hk;rw [hzl,Nat.sub_self] at e;cases e;rw [Int.zero_add] at hat;refine ⟨?_,?_,?_,c,hat,?_⟩
     ·rw [Jqz];omega
     ·rw [Jqz];omega
     ·rw [Jqz];exact wi
     ·rw [Jqz];exact wn
   ·exact λb o e=>by
     have nb:b≠D2:=Jm2 e hD2;rw [Sx nb];exact t15 _ _ (sm b o e)
  ·rintro σ H5 ⟨o,zs,rfl,hDs2,hzl,hz,sm⟩;have ez:zs.length=m:=by rw [hzl];exact yav m
   exact k D2 zs H5 (But.free st b14 hD2) (b14.same sm) hDs2 ez (Sn5 (by omega) hz)
theorem Jug {ns:List Int} {s:Int} (h:0<=s/\s < ns.length):atI (ns.map V.int) s=some (.int (ns.getD s.toNat 0))/\ns.getD s.toNat 0∈ns:=by
 obtain ⟨n,rfl⟩:∃n:Nat,s=n:=⟨s.toNat,by omega⟩;have hn:n < ns.length:=by omega
 have e:ns.getD (n:Int).toNat 0=ns[n]:=by rw [yav];simp [ybz,hn]
 rw [e];exact ⟨Jud hn,ybb hn⟩
theorem Jtt:∀(ns:List Int) (lo m n:Int),Jnh lo (ns.map V.int)=true->ns.getLast?=some m->m+1<=n->n<=12->Jnh lo ((ns++ [n]).map V.int)=true
 | [],_,_,_,_,h,_,_=>by simp at h
 | [x],lo,m,n,h,hl,h1,h2=>by
  have e:x=m:=by simpa using hl
  subst e;simp [Jnh] at h⊢;omega
 |x::y::r,lo,m,n,h,hl,h1,h2=>by
  have hl':(y::r).getLast?=some m:=by simpa using hl
  have h':((decide (lo<=x)&&decide (x<=12))&&Jnh (x+1) ((y::r).map V.int))=true:=h;rw [yan] at h';have ih:=Jtt (y::r) (x+1) m n h'.2 hl' h1 h2;show ((decide (lo<=x)&&decide (x<=12))&&Jnh (x+1) (((y::r)++ [n]).map V.int))=true;rw [h'.1,ih];rfl
theorem Jts:∀(ns:List Int) (lo m:Int),Jnh lo (ns.map V.int)=true->ns.getLast?=some m->lo<=m/\m<=12
 | [],_,_,_,h=>by simp at h
 | [x],lo,m,h,hl=>by
  have e:x=m:=by simpa using hl
  subst e;simpa [Jnh] using h
 |x::y::r,lo,m,h,hl=>by
  have hl':(y::r).getLast?=some m:=by simpa using hl
  have h':((decide (lo<=x)&&decide (x<=12))&&Jnh (x+1) ((y::r).map V.int))=true:=h;rw [yan,yan,decide_eq_true_eq,decide_eq_true_eq] at h';have ih:=Jts (y::r) (x+1) m h'.2 hl';omega
structure Jmi where
 kd:Str
 ns:List Int
 sv:Option Int
structure Sbk (G:Jmi):Prop where
 kd:Knd G.kd
 ns:Jpt (Jp9 G.kd) (G.ns.map V.int)=true
 sv:∀i,G.sv=some i->0<=i/\i < G.ns.length
noncomputable def G1 (G:Jmi):List Int:=match G.sv with
 |none=>G.ns
 |some j=>[G.ns.getD j.toNat 0]
inductive Sct (p:S4) (H:Hp) (x:V) (G:Jmi):Prop where
 |mk (t m:S4) (_:x= .ref t) (_:H m=some (.lst ((G1 G).map V.int))) (_:m≠p) (_:(G.sv=none/\H t=some (.tup [.str G.kd,.ref m])\/∃(j:Int) (m2:S4),G.sv=some j/\H t=some (.tup [.str G.kd,.ref m,.ref m2,.int j])/\H m2=some (.lst (G.ns.map V.int))/\m2≠p))
theorem Sct.on {p q:S4} {H H':Hp} {x:V} {G:Jmi} (f:∀b o,H b=some o->(b≠p\/∀xs,o≠ .lst xs)->H' b=some o) (n:∀b o,H b=some o->b≠p->b≠q) (h:Sct p H x G):Sct q H' x G:=by
 obtain ⟨t,m,e,h1,n1,h2⟩:=h;refine ⟨t,m,e,f _ _ h1 (.inl n1),n _ _ h1 n1,?_⟩;rcases h2 with ⟨a,h2⟩|⟨j,m2,a,h2,h3,n2⟩
 ·exact .inl ⟨a,f _ _ h2 (.inr λ_ z=>by cases z)⟩
 ·exact .inr ⟨j,m2,a,f _ _ h2 (.inr λ_ z=>by cases z),f _ _ h3 (.inl n2),n _ _ h3 n2⟩
theorem Sct.same {p:S4} {H H':Hp} {x:V} {G:Jmi} (s:Sl H H') (h:Sct p H x G):Sct p H' x G:=h.on (λb o e _=>s b o e) λ_ _ _ n=>n
theorem Sct.but {p:S4} {H H':Hp} {x:V} {G:Jmi} (st:Sc4 H p) (b:But p H H') (h:Sct p H x G):Sct p H' x G:=h.on (λc o e d=>b.1 c o (d.elim id λd=>Juh st e λ_ _ _ z=>d _ z) e) λ_ _ _ n=>n
theorem Sct.move {p q:S4} {H:Hp} {x:V} {G:Jmi} (hq:H q=none) (h:Sct p H x G):Sct q H x G:=h.on (λ_ _ e _=>e) λb o e _=>Jm2 e hq
inductive Ygl (vs:List V) (H:Hp) (Q:VK) (z3:XK):Prop where
 |mk (p:S4) (mo:Int) (_:vs= [.ref p,.int mo]) (_:(1<=mo/\mo<=4)) (_:Sc4 H p) (_:∀(x:V) (G:Jmi) (H':Hp),But p H H'->Sct p H' x G->Sbk G->(G.ns.length:Int)<=mo->Q x H')
theorem Sb0:Jm6 ["_law_stream_here","_law_most","_law_kind","_law_mark","_law_marks","_law_k","_law_at"] ["_law_stream_here","_law_most"] (Jm5 (top 86)):=%[|0]
theorem Jtu (T:Tx K mg a):Sv P w K mg base CX0 2 a.Jke a.Jkf ["_law_stream_here","_law_most"] Ygl:=by
 have Sn:=%[Jog|1];refine %[T.Ja1.fn.ok,Sb0|2]
 ·obtain ⟨p,mo,rfl,_⟩:=h;rfl
 ·obtain ⟨p,mo,rfl,hmo,st,k⟩:=h;refine ⟨?t,?B,?C⟩
  case B=>
   refine' Jlz ?O0 ?O1
   case O0=>exact (Jmb (i:=2) Sb0.nd rfl (yf rfl) (Jmf Jn2 (Jmy (Sm Jnl (Sm Jnl (Sm Jnl So)))) (Jm4 T.Jz Sn hr (by decide) (Sm (pv 0) (Sm Su So))) (λ_ _=>rfl)))
   case O1=>
   refine' Jlz ?O2 ?O3
   case O2=>exact (Jmb (i:=3) Sb0.nd rfl (yf rfl) (Jm9 Jml (Jm4 T.Jz Sn hr (by decide) (Sm (pv 0) (Sm Su So))) (Jms Ybg (by rfl) T.Jas Ycr (Sm (Jq0 Jpe (pv 2) Jnl (Jmp _)) So))))
   case O3=>
   refine' Jlz ?O4 ?O5
   case O4=>exact (Jmb (i:=4) Sb0.nd rfl (yf rfl) (Jmy (Sm (pv 3) So)))
   case O5=>
   refine' Jlz ?O6 ?O7
   case O6=>
    refine' Jnq ?O8 ?O9 ?Oa ?Ob ?Oc
    case O8=>exact PassesOwn.never
    case O9=>exact rfl
    case Oa=>exact (Jns (by rfl) T.Jay (Sm (Jm4 T.Jz Sn hr (by decide) (Sm (pv 0) (Sm (pv 1) So))) So))
    case Ob=>exact (Jm7 (i:=5) Sb0.nd rfl (yf rfl))
    case Oc=>
    refine' Jlz ?Od ?Oe
    case Od=>exact (Jmb (i:=3) Sb0.nd rfl (yf rfl) (Jm9 Jml (Jm9 Jml (pv 3) Su) (Jm4 T.Jz Sn hr (by decide) (Sm (pv 0) (Sm Su So)))))
    case Oe=>
    refine' Jm1 ?Of
    case Of=>exact (Jnp (Jvm F.plainAttrs_list F.slot_list_append F.type_list_append Jpq (pv 4) (Sm (pv 3) So)))
   case O7=>
   refine' Jlz ?Og ?Oh
   case Og=>
    refine' Jmr ?Oi ?Oj ?Ok
    case Oi=>exact (Jmm Jvi (Jm4 T.Jz Sn hr (by decide) (Sm (pv 0) (Sm Su So))) Su (Jmp _))
    case Oj=>
     refine' Jm1 ?Ol
     case Ol=>exact (Jma (Jmz (Sm (pv 2) (Sm (pv 4) So))))
    case Ok=>exact Jme
   case Oh=>
   refine' Jlz ?Om ?On
   case Om=>exact (Jmb (i:=6) Sb0.nd rfl (yf rfl) (Jm4 T.Jz Sn hr (by decide) (Sm (pv 0) (Sm (Jm8 Jmg (by rfl) T.Jau Jnc (Sm (pv 4) So)) So))))
   case On=>
   refine' Jm1 ?Oo
   case Oo=>
   refine' Jma ?Op
   case Op=>
   refine' Jmz ?Oq
   case Oq=>
   refine' pa4 ?Or ?Os ?Ot ?Ou
   case Or=>exact (pv 2)
   case Os=>exact (Jmy (Sm (Jmf Jn2 (pv 4) (pv 6) (λ_ _=>rfl)) So))
   case Ot=>exact (pv 4)
   case Ou=>exact (pv 6)
  refine ⟨(show 3<=S9 by decide),λL hL=>?_⟩;have sL:=Sl.upd (o:=.lst [.str "step",.str "flap",.str "part"]) hL;have bL:=But.of st sL;have nL:L≠p:=st.ne hL;refine ⟨_,rfl,p,3,rfl,bL.2,by decide,by decide,λr H1 r0 r1 b1=>?_⟩;obtain ⟨kd,hat,hk⟩:∃kd:Str,atI [V.str "step",.str "flap",.str "part"] r=some (.str kd)/\Knd kd:=by
   have cs:r=0\/r=1\/r=2:=by omega
   rcases cs with rfl|rfl|rfl
   ·exact ⟨_,rfl,.inl rfl⟩
   ·exact ⟨_,rfl,.inr (.inl rfl)⟩
   ·exact ⟨_,rfl,.inr (.inr rfl)⟩
  refine ⟨L,_,r,_,rfl,rfl,Sz.of (b1.1 _ _ nL Sr),hat,?_⟩;have bK:=bL.trans b1;have el:Jp9 kd=if decide (V.str kd=V.str "part")=true then 1 else 0:=by
   unfold Jp9;by_cases h:kd=("part" :Str)
   ·rw [if_pos h,if_pos (decide_eq_true (by rw [h]))]
   ·rw [if_neg h,if_neg (by rw [decide_eq_false (λe=>h (V.str.inj e))];decide)]
  have hlo:Jp9 kd=0\/Jp9 kd=1:=by unfold Jp9;split <;> simp
  refine ⟨_,rfl,p,3,rfl,bK.2,by decide,by decide,λr2 H2 s0 s1 b2=>?_⟩;refine ⟨_,rfl,rfl,.inr ⟨_,rfl,_,_,rfl,rfl,?_⟩⟩;rw [<-el];have b02:=bK.trans b2;refine ⟨_,rfl,(show 1<=S9 by decide),λl hl=>?_⟩;have hl0:H l=none:=But.free st b02 hl;have nlp:l≠p:=st.ne hl0;have b3:But p H (upd H2 l (.lst [.int (r2+Jp9 kd)])):=b02.updD hl0 nlp;refine ⟨_,rfl,_,rfl,p,mo,rfl,b3.2,by omega,Jo6 (by omega),λj H3 j0 j1 b4=>⟨j,rfl,by omega,by omega,?_⟩⟩;refine Jx1 (λi σ H'=>∃(o o':Option V) (ns:List Int) (m:Int),σ= [some (.ref p),some (.int mo),some (.str kd),some (.int m),some (.ref l),o,o']/\But p H H'/\H' l=some (.lst (ns.map V.int))/\Jnh (Jp9 kd) (ns.map V.int)=true/\ns.getLast?=some m/\ns.length=i+1/\m<=3+3*i)
   ⟨_,_,[r2+Jp9 kd],r2+Jp9 kd,rfl,b3.trans b4,b4.1 _ _ nlp Sr,?_,rfl,by simp,by omega⟩ ?_ ?_
  ·simp [Jnh];omega
  ·rintro i σ H4 hi ⟨o,o',ns,m,rfl,b5,h5,hmk,hla,hle,hmi⟩;have hb:=Jts ns (Jp9 kd) m hmk hla;refine ⟨_,rfl,_,_,rfl,rfl,_,rfl,p,3,rfl,b5.2,by decide,by decide,λr' H5 t0 t1 b6=>?_⟩;refine ⟨_,_,rfl,rfl,?_⟩;have h6:=b6.1 _ _ nlp h5;refine ⟨_,rfl,.inl ⟨rfl,_,Sz.of h6⟩,_,rfl,l,_,_,rfl,rfl,h6,by rw [ye];exact Jmo (by omega),?_⟩;refine ⟨_,_,ns++ [m+1+r'],m+1+r',rfl,(b5.trans b6).updD hl0 nlp,?_,Jtt ns (Jp9 kd) m _ hmk hla (by omega) (by omega),by simp,by simp;omega,by omega⟩;rw [Sr];simp
  ·rintro σ H4 ⟨o,o',ns,m,rfl,b5,h5,hmk,hla,hle,hmi⟩;have hn:(ns.length:Int)<=mo:=by omega
   have har:Jpt (Jp9 kd) (ns.map V.int)=true:=by
    unfold Jpt;rw [hmk,Bool.and_true,ye];exact decide_eq_true (by omega)
   refine ⟨_,rfl,p,6,rfl,b5.2,by decide,by decide,λr6 H6 _ _ b6=>⟨_,_,rfl,rfl,_,rfl,Six (λ_=>?_) (λ_=>?_)⟩⟩
   ·have h6:=b6.1 _ _ nlp h5;refine ⟨_,rfl,_,rfl,(show 2<=S9 by decide),λt ht=>?_⟩;have sT:=Sl.upd (o:=.tup [.str kd,.ref l]) ht;exact k (.ref t) ⟨kd,ns,none⟩ _ ((b5.trans b6).same sT) ⟨t,l,rfl,sT _ _ h6,nlp,.inl ⟨rfl,Sr⟩⟩ ⟨hk,har,λi e=>by cases e⟩ hn
   ·have h6:=b6.1 _ _ nlp h5;refine ⟨_,rfl,_,rfl,l,_,rfl,.inl (Sz.of h6),p,_,rfl,(b5.trans b6).2,by rw [ye];omega,by rw [ye];exact Jo6 (by omega),λr7 H7 u0 u1 b7=>?_⟩;rw [ye] at u1;have h7:=b7.1 _ _ nlp h6;have hat7:=(Jug (ns:=ns) (s:=r7) ⟨u0,u1⟩).1;refine ⟨_,rfl,_,rfl,_,rfl,l,_,r7,_,rfl,rfl,Sz.of h7,hat7,(show 1<=S9 by decide),λm1 hm1=>?_⟩;have sM:=Sl.upd (o:=.lst [.int (ns.getD r7.toNat 0)]) hm1;have b57:=(b5.trans b6).trans b7;have nm1:m1≠p:=b57.2.ne hm1;refine ⟨_,rfl,_,rfl,(show 4<=S9 by decide),λt ht=>?_⟩;have sT:=Sl.upd (o:=.tup [.str kd,.ref m1,.ref l,.int r7]) ht;refine k (.ref t) ⟨kd,ns,some r7⟩ _ ((b57.same sM).same sT) ⟨t,m1,rfl,sT _ _ Sr,nm1,.inr ⟨r7,l,rfl,Sr,sT _ _ (sM _ _ h7),nlp⟩⟩ ⟨hk,har,λi e=>?_⟩ hn;cases e;exact ⟨u0,u1⟩
structure Jo1 where
 z:Str
 lo:Int
 hi:Int
 st:Int
 rn:Int
 G:Jmi
structure Jwl (B:Jo1):Prop where
 lo:0<=B.lo/\B.lo<=12
 hi:B.lo<=B.hi/\B.hi<=12
 st:B.lo<=B.st/\B.st<=B.hi
 rn:0<=B.rn/\B.rn<=6
 G:Sbk B.G
inductive Scg (p:S4) (H:Hp) (x:V) (B:Jo1):Prop where
 |mk (t:S4) (g:V) (_:x= .ref t) (_:H t=some (.tup [.str B.z,.int B.lo,.int B.hi,.int B.st,.int B.rn,g])/\Sct p H g B.G)
theorem Scg.same {p:S4} {H H':Hp} {x:V} {B:Jo1} (s:Sl H H') (h:Scg p H x B):Scg p H' x B:=by
 obtain ⟨t,g,e,h1,h2⟩:=h;exact ⟨t,g,e,s _ _ h1,h2.same s⟩
theorem Scg.but {p:S4} {H H':Hp} {x:V} {B:Jo1} (st:Sc4 H p) (b:But p H H') (h:Scg p H x B):Scg p H' x B:=by
 obtain ⟨t,g,e,h1,h2⟩:=h;exact ⟨t,g,e,b.1 _ _ (Juh st h1 (λ_ _ _ z=>by cases z)) h1,h2.but st b⟩
theorem Scg.move {p q:S4} {H:Hp} {x:V} {B:Jo1} (hq:H q=none) (h:Scg p H x B):Scg q H x B:=by
 obtain ⟨t,g,e,h1,h2⟩:=h;exact ⟨t,g,e,h1,h2.move hq⟩
noncomputable def Cap (n:Nat) (s r m:Int):Prop:=n=1/\s=7/\r=5/\m=4\/n=2/\s=4/\r=3/\m=2\/n=3/\s=3/\r=2/\m=2\/n=4/\s=2/\r=2/\m=2
theorem Cap.at {n:Nat} {s r m:Int} (h:Cap n s r m):atI [V.int 7,.int 4,.int 3,.int 2] ((n:Int) - 1)=some (.int s)/\atI [V.int 5,.int 3,.int 2,.int 2] ((n:Int) - 1)=some (.int r)/\atI [V.int 4,.int 2,.int 2,.int 2] ((n:Int) - 1)=some (.int m)/\(2<=s/\s<=7)/\(2<=r/\r<=5)/\2<=m/\m<=4:=by
 rcases h with ⟨rfl,rfl,rfl,rfl⟩|⟨rfl,rfl,rfl,rfl⟩|⟨rfl,rfl,rfl,rfl⟩|⟨rfl,rfl,rfl,rfl⟩ <;> exact ⟨rfl,rfl,rfl,by decide,by decide,by decide⟩
structure Lgt (s r m:Int) (B:Jo1):Prop where
 s:B.hi - B.lo < s
 r:B.rn < r
 m:(B.G.ns.length:Int)<=m
inductive Yei (vs:List V) (H:Hp) (Q:VK) (z3:XK):Prop where
 |mk (p:S4) (z:Str) (n:Nat) (s r m:Int) (_:vs= [.ref p,.str z,.int n]) (_:Sc4 H p) (_:Cap n s r m) (_:∀(x:V) (B:Jo1) (H':Hp),But p H H'->Scg p H' x B->Jwl B->B.z=z->Lgt s r m B->Q x H')
theorem Sbi:Jm6 ["_law_stream_here","_law_name","_law_many","_law_low","_law_span","_law_start","_law_rain"] ["_law_stream_here","_law_name","_law_many"] (Jm5 (top 87)):=%[|0]
theorem Jy3 (T:Tx K mg a):Sv P w K mg base CX0 3 a.Jkg a.Jkh ["_law_stream_here","_law_name","_law_many"] Yei:=by
 have Sn:=%[Jog|1];have Sd3:=%[Jtu|1];refine %[T.Ja2.fn.ok,Sbi|2]
 ·obtain ⟨p,z,n,s,r,m,rfl,_⟩:=h;rfl
 ·obtain ⟨p,z,n,cs,cr,cm,rfl,st,cap,k⟩:=h;obtain ⟨a1,a2,a3,bs,br,bm⟩:=cap.at;refine ⟨?t,?B,?C⟩
  case B=>
   refine' Jlz ?O0 ?O1
   case O0=>exact (Jmb (i:=3) Sbi.nd rfl (yf rfl) (Jm4 T.Jz Sn hr (by decide) (Sm (pv 0) (Sm Su So))))
   case O1=>
   refine' Jlz ?O2 ?O3
   case O2=>exact (Jmb (i:=4) Sbi.nd rfl (yf rfl) (Jm4 T.Jz Sn hr (by decide) (Sm (pv 0) (Sm (Jmf Jn2 (Jmy (pa4 Su Su Su Su)) (Jm9 Jnk (pv 2) Su) (λ_ _=>rfl)) So))))
   case O3=>
   refine' Jlz ?O4 ?O5
   case O4=>exact (Jmb (i:=5) Sbi.nd rfl (yf rfl) (Jm9 Jml (pv 3) (Jm4 T.Jz Sn hr (by decide) (Sm (pv 0) (Sm (Jm9 Jml (pv 4) Su) So)))))
   case O5=>
   refine' Jlz ?O6 ?O7
   case O6=>exact (Jmb (i:=6) Sbi.nd rfl (yf rfl) (Jm4 T.Jz Sn hr (by decide) (Sm (pv 0) (Sm (Jmf Jn2 (Jmy (pa4 Su Su Su Su)) (Jm9 Jnk (pv 2) Su) (λ_ _=>rfl)) So))))
   case O7=>
   refine' Jm1 ?O8
   case O8=>
   refine' Jma ?O9
   case O9=>
   refine' Jmz ?Oa
   case Oa=>
   refine' pa6 ?Ob ?Oc ?Od ?Oe ?Of ?Og
   case Ob=>exact (pv 1)
   case Oc=>exact (pv 3)
   case Od=>exact (Jm9 Jml (pv 3) (pv 4))
   case Oe=>exact (pv 5)
   case Of=>exact (pv 6)
   case Og=>exact (Jm4 T.Ja1 Sd3 hr (by decide) (Sm (pv 0) (Sm (Jmf Jn2 (Jmy (pa4 Su Su Su Su)) (Jm9 Jnk (pv 2) Su) (λ_ _=>rfl)) So)))
  refine ⟨_,rfl,p,4,rfl,st,by decide,by decide,λlo H1 l0 l1 b1=>?_⟩;refine ⟨_,rfl,(show 4<=S9 by decide),λL1 hL1=>?_⟩;have c1:=b1.same (Sl.upd (o:=.lst [V.int 7,.int 4,.int 3,.int 2]) hL1);refine ⟨_,rfl,_,_,rfl,rfl,L1,_,_,_,rfl,rfl,Sz.of Sr,a1,p,cs,rfl,c1.2,by omega,Jo6 (by omega),λhi H2 h0 h1 b2=>?_⟩;refine ⟨_,rfl,_,rfl,_,rfl,_,_,rfl,rfl,p,hi+1,rfl,b2.2,by omega,Jo6 (by omega),λsv H3 s0 s1 b3=>⟨_,_,rfl,rfl,?_⟩⟩;refine ⟨_,rfl,(show 4<=S9 by decide),λL2 hL2=>?_⟩;have c3:=b3.same (Sl.upd (o:=.lst [V.int 5,.int 3,.int 2,.int 2]) hL2);refine ⟨_,rfl,_,_,rfl,rfl,L2,_,_,_,rfl,rfl,Sz.of Sr,a2,p,cr,rfl,c3.2,by omega,Jo6 (by omega),λrn H4 n0 n1 b4=>?_⟩;refine ⟨_,rfl,_,rfl,_,rfl,_,rfl,_,_,rfl,rfl,_,rfl,_,rfl,_,rfl,(show 4<=S9 by decide),λL3 hL3=>?_⟩;have c4:=b4.same (Sl.upd (o:=.lst [V.int 4,.int 2,.int 2,.int 2]) hL3);refine ⟨_,rfl,_,_,rfl,rfl,L3,_,_,_,rfl,rfl,Sz.of Sr,a3,p,cm,rfl,by omega,c4.2,λg G H5 b5 gt gg gm=>?_⟩;refine ⟨(show 6<=S9 by decide),λt ht=>?_⟩;have sT:=Sl.upd (o:=.tup [.str z,.int lo,.int (lo+hi),.int (lo+sv),.int rn,g]) ht;exact k (.ref t) ⟨z,lo,lo+hi,lo+sv,rn,G⟩ _ (((((c1.trans b2).trans c3).trans c4).trans b5).same sT) ⟨t,g,rfl,Sr,gt.same sT⟩ ⟨by dsimp only;omega,by dsimp only;omega,by dsimp only;omega,by dsimp only;omega,gg⟩ rfl ⟨by dsimp only;omega,by dsimp only;omega,gm⟩
theorem Yga {bs:List V} {ns:List Int} (h:∀b∈bs,∃o,b=V.ref o) (hn:1<=ns.length):bs≠ns.map V.int:=by
 intro e;cases ns with
 |nil=>simp at hn
 |cons n r=>
  obtain ⟨o,q⟩:=h (.int n) (by rw [e];simp);cases q
theorem Sbk.len {G:Jmi} (h:Sbk G):1<=G.ns.length/\G.ns.length<=4:=by
 have q:=h.ns;unfold Jpt at q;rw [yan,decide_eq_true_eq,ye] at q;exact q.1
theorem G1.len {G:Jmi} (h:Sbk G):1<=(G1 G).length:=by
 unfold G1;split
 ·exact h.len.1
 ·exact yg 1
theorem Sct.put {p D:S4} {H:Hp} {x:V} {G:Jmi} {bs:List V} {o:HO} (g:Sbk G) (hD:H D=some (.lst bs)) (hb:∀b∈bs,∃o,b=V.ref o) (h:Sct p H x G):Sct p (upd H D o) x G:=by
 obtain ⟨t,m,e,h1,n1,h2⟩:=h;have tp:∀xs,H t=some (.tup xs)->upd H D o t=some (.tup xs):=λxs h=>by
  rw [Sx (λz=>by rw [z,hD] at h;cases h)];exact h
 have ls:∀(q:S4) (ns:List Int),1<=ns.length->H q=some (.lst (ns.map V.int))->upd H D o q=some (.lst (ns.map V.int)):=λq ns hn h=>by
  rw [Sx (λz=>by rw [z,hD] at h;cases h;exact Yga hb hn rfl)];exact h
 refine ⟨t,m,e,ls _ _ (G1.len g) h1,n1,?_⟩;rcases h2 with ⟨a,h2⟩|⟨j,m2,a,h2,h3,n2⟩
 ·exact .inl ⟨a,tp _ h2⟩
 ·exact .inr ⟨j,m2,a,tp _ h2,ls _ _ g.len.1 h3,n2⟩
theorem Scg.put {p D:S4} {H:Hp} {x:V} {B:Jo1} {bs:List V} {o:HO} (g:Jwl B) (hD:H D=some (.lst bs)) (hb:∀b∈bs,∃o,b=V.ref o) (h:Scg p H x B):Scg p (upd H D o) x B:=by
 obtain ⟨t,y,e,h1,h2⟩:=h;refine ⟨t,y,e,?_,h2.put g.G hD hb⟩;rw [Sx (λz=>by rw [z,hD] at h1;cases h1)];exact h1
noncomputable def BTL (p:S4) (H:Hp):List V->List Jo1->Prop
 | [],[]=>True
 |x::xs,B::Bs=>Scg p H x B/\BTL p H xs Bs
 |_,_=>False
theorem BTL.map {p q:S4} {H H':Hp} (f:∀x B,Jwl B->Scg p H x B->Scg q H' x B):∀{xs:List V} {Bs:List Jo1},(∀B∈Bs,Jwl B)->BTL p H xs Bs->BTL q H' xs Bs:=by
 intro xs
 induction xs with
 |nil=>
  intro Bs g h;cases Bs with
  |nil=>exact True.intro
  |cons B Bs=>exact False.elim h
 |cons x xs ih=>
  intro Bs g h;cases Bs with
  |nil=>exact False.elim h
  |cons B Bs=>exact ⟨f _ _ (g _ yab) (yat h),ih (λB hB=>g B (yz _ hB)) (yao h)⟩
theorem BTL.snoc {p:S4} {H:Hp} {x:V} {B:Jo1} (h:Scg p H x B):∀{xs:List V} {Bs:List Jo1},BTL p H xs Bs->BTL p H (xs++ [x]) (Bs++ [B]):=by
 intro xs
 induction xs with
 |nil=>
  intro Bs q;cases Bs with
  |nil=>exact ⟨h,True.intro⟩
  |cons B Bs=>exact False.elim q
 |cons x xs ih=>
  intro Bs q;cases Bs with
  |nil=>exact False.elim q
  |cons B Bs=>exact ⟨yat q,ih (yao q)⟩
theorem BTL.refs {p:S4} {H:Hp}:∀{xs:List V} {Bs:List Jo1},BTL p H xs Bs->∀b∈xs,∃o,b=V.ref o:=by
 intro xs
 induction xs with
 |nil=>exact λ_ b hb=>absurd hb (by simp)
 |cons x xs ih=>
  intro Bs h b hb;cases Bs with
  |nil=>exact False.elim h
  |cons B Bs=>
   rcases yq.mp hb with rfl|hb
   ·obtain ⟨⟨t,g,e,_⟩,_⟩:=h;exact ⟨t,e⟩
   ·exact ih (yao h) b hb
theorem BTL.len {p:S4} {H:Hp}:∀{xs:List V} {Bs:List Jo1},BTL p H xs Bs->xs.length=Bs.length:=by
 intro xs
 induction xs with
 |nil=>
  intro Bs h;cases Bs with
  |nil=>rfl
  |cons B Bs=>exact False.elim h
 |cons x xs ih=>
  intro Bs h;cases Bs with
  |nil=>exact False.elim h
  |cons B Bs=>rw [yag,yag,ih (yao h)]
structure Jpl where
 z:Str
 b:Str
 wt:Int
inductive Sdt (H:Hp) (x:V) (B:Jpl):Prop where
 |mk (t:S4) (_:x= .ref t) (_:H t=some (.tup [.str B.z,.str B.b,.int B.wt]))
theorem Sdt.same {H H':Hp} {x:V} {B:Jpl} (s:Sl H H') (h:Sdt H x B):Sdt H' x B:=by obtain ⟨t,e,h1⟩:=h;exact ⟨t,e,s _ _ h1⟩
theorem Sdt.but {p:S4} {H H':Hp} {x:V} {B:Jpl} (st:Sc4 H p) (b:But p H H') (h:Sdt H x B):Sdt H' x B:=
 let ⟨t,e,h1⟩:=h
 ⟨t,e,b.1 _ _ (Juh st h1 (λ_ _ _ z=>by cases z)) h1⟩
theorem Sdt.put {D:S4} {H:Hp} {x:V} {B:Jpl} {bs:List V} {o:HO} (hD:H D=some (.lst bs)) (h:Sdt H x B):Sdt (upd H D o) x B:=by
 obtain ⟨t,e,h1⟩:=h;refine ⟨t,e,?_⟩;rw [Sx (λz=>by rw [z,hD] at h1;cases h1)];exact h1
noncomputable def TTL (H:Hp):List V->List Jpl->Prop
 | [],[]=>True
 |x::xs,B::Bs=>Sdt H x B/\TTL H xs Bs
 |_,_=>False
theorem TTL.map {H H':Hp} (f:∀x B,Sdt H x B->Sdt H' x B):∀{xs:List V} {Bs:List Jpl},TTL H xs Bs->TTL H' xs Bs:=by
 intro xs
 induction xs with
 |nil=>
  intro Bs h;cases Bs with
  |nil=>exact True.intro
  |cons B Bs=>exact False.elim h
 |cons x xs ih=>
  intro Bs h;cases Bs with
  |nil=>exact False.elim h
  |cons B Bs=>exact ⟨f _ _ (yat h),ih (yao h)⟩
theorem TTL.snoc {H:Hp} {x:V} {B:Jpl} (h:Sdt H x B):∀{xs:List V} {Bs:List Jpl},TTL H xs Bs->TTL H (xs++ [x]) (Bs++ [B]):=by
 intro xs
 induction xs with
 |nil=>
  intro Bs q;cases Bs with
  |nil=>exact ⟨h,True.intro⟩
  |cons B Bs=>exact False.elim q
 |cons x xs ih=>
  intro Bs q;cases Bs with
  |nil=>exact False.elim q
  |cons B Bs=>exact ⟨yat q,ih (yao q)⟩
theorem TTL.len {H:Hp}:∀{xs:List V} {Bs:List Jpl},TTL H xs Bs->xs.length=Bs.length:=by
 intro xs
 induction xs with
 |nil=>
  intro Bs h;cases Bs with
  |nil=>rfl
  |cons B Bs=>exact False.elim h
 |cons x xs ih=>
  intro Bs h;cases Bs with
  |nil=>exact False.elim h
  |cons B Bs=>rw [yag,yag,ih (yao h)]
structure Jo4 where
 c:Int
 g:Int
 Bs:List Jo1
 Ts:List Jpl
structure Jqb (R:Jo4):Prop where
 c:0<=R.c/\R.c<=12
 g:0<=R.g/\R.g<=R.c
 n:1<=R.Bs.length/\R.Bs.length<=16
 Bs:∀B∈R.Bs,Jwl B/\Jpr B.z=true/\Ltr 8 B.z
 nd:(R.Bs.map (·.z)).Nodup
 tn:R.Ts.length<=3
 Ts:∀B∈R.Ts,Jpr B.z=true/\Ltr 8 B.z/\B.b∈R.Bs.map (·.z)/\1<=B.wt/\B.wt<=6
 td:(R.Ts.map (·.z)).Nodup
inductive Sfb (p:S4) (H:Hp) (x:V) (R:Jo4):Prop where
 |mk (t lb lt:S4) (bs ts:List V) (_:x= .ref t) (_:H t=some (.tup [.int R.c,.int R.g,.ref lb,.ref lt])) (_:H lb=some (.lst bs)) (_:BTL p H bs R.Bs) (_:H lt=some (.lst ts)) (_:TTL H ts R.Ts) (_:lb≠p) (_:lt≠p)
inductive Ycn (R:Jo4):Prop where
 |mk (n L C S T r:Nat) (_:(n,L,C,S,T,r)∈ [(1,7,5,4,3,5),(1,4,13,2,2,7),(2,4,3,2,3,3),(3,3,2,2,2,2),(4,2,2,2,1,2)]) (_:R.Bs.length=n) (_:R.c < C) (_:R.Ts.length < T) (_:∀B∈R.Bs,Lgt L r S B)
inductive Ygi (vs:List V) (H:Hp) (Q:VK) (z3:XK):Prop where
 |mk (p:S4) (_:vs= [.ref p]) (_:Sc4 H p) (_:∀(x:V) (R:Jo4) (H':Hp),But p H H'->Sfb p H' x R->Jqb R->Ycn R->Q x H')
theorem Sab:Jm6 ["_law_stream_here","_law_cloud","_law_gain","_law_name","_law_low","_law_high","_law_start","_law_basin_here","_law_towns"] ["_law_stream_here"] (Jm5 (top 88)):=%[|0]
theorem Jy4 (T:Tx K mg a):Sv P w K mg base CX0 3 a.Jki a.Jkj ["_law_stream_here"] Ygi:=by
 have Sn:=%[Jog|1];have Sbt:=%[Jse|1];have Sd3:=%[Jtu|1];refine %[T.Ja3.fn.ok,Sab|2]
 ·obtain ⟨p,rfl,_⟩:=h;rfl
 ·obtain ⟨p,rfl,st,k⟩:=h;refine ⟨?t,?B,?C⟩
  case B=>
   refine' Jlz ?O0 ?O1
   case O0=>exact (Jmb (i:=1) Sab.nd rfl (yf rfl) (Jm9 Jml Su (Jm4 T.Jz Sn hr (by decide) (Sm (pv 0) (Sm Su So)))))
   case O1=>
   refine' Jlz ?O2 ?O3
   case O2=>exact (Jmb (i:=2) Sab.nd rfl (yf rfl) (Jm4 T.Jz Sn hr (by decide) (Sm (pv 0) (Sm (Jm9 Jml (pv 1) Su) So))))
   case O3=>
   refine' Jlz ?O4 ?O5
   case O4=>exact (Jmb (i:=3) Sab.nd rfl (yf rfl) (Jmf Jn2 (Jm4 T.Ja0 Sbt hr (by decide) (Sm (pv 0) (Sm Su So))) Su (λ_ _=>rfl)))
   case O5=>
   refine' Jlz ?O6 ?O7
   case O6=>exact (Jmb (i:=4) Sab.nd rfl (yf rfl) (Jm4 T.Jz Sn hr (by decide) (Sm (pv 0) (Sm Su So))))
   case O7=>
   refine' Jlz ?O8 ?O9
   case O8=>exact (Jmb (i:=5) Sab.nd rfl (yf rfl) (Jm9 Jml (pv 4) (Jm4 T.Jz Sn hr (by decide) (Sm (pv 0) (Sm Su So)))))
   case O9=>
   refine' Jlz ?Oa ?Ob
   case Oa=>exact (Jmb (i:=6) Sab.nd rfl (yf rfl) (Jm9 Jml (pv 4) (Jm4 T.Jz Sn hr (by decide) (Sm (pv 0) (Sm (Jm9 Jml (Jm9 Jnk (pv 5) (pv 4)) Su) So)))))
   case Ob=>
   refine' Jlz ?Oc ?Od
   case Oc=>exact (Jmb (i:=7) Sab.nd rfl (yf rfl) (Jmz (pa6 (pv 3) (pv 4) (pv 5) (pv 6) (Jm4 T.Jz Sn hr (by decide) (Sm (pv 0) (Sm Su So))) (Jm4 T.Ja1 Sd3 hr (by decide) (Sm (pv 0) (Sm Su So))))))
   case Od=>
   refine' Jlz ?Oe ?Of
   case Oe=>exact (Jmb (i:=8) Sab.nd rfl (yf rfl) (Jov Juk (Jmy (Sm (Jmz (Sm Jnl (Sm (pv 3) (Sm (Jm9 Jml Su (Jm4 T.Jz Sn hr (by decide) (Sm (pv 0) (Sm Su So)))) So)))) So)) Jsh (Jon (Jm4 T.Jz Sn hr (by decide) (Sm (pv 0) (Sm Su So))))))
   case Of=>
   refine' Jm1 ?Og
   case Og=>
   refine' Jma ?Oh
   case Oh=>
   refine' Jmz ?Oi
   case Oi=>
   refine' pa4 ?Oj ?Ok ?Ol ?Om
   case Oj=>exact (pv 1)
   case Ok=>exact (pv 2)
   case Ol=>exact (Jmy (Sm (pv 7) So))
   case Om=>exact (pv 8)
  refine ⟨_,rfl,p,4,rfl,st,by decide,by decide,λcl H1 c0 c1 b1=>⟨_,_,rfl,rfl,?_⟩⟩;refine ⟨_,rfl,_,rfl,_,_,rfl,rfl,p,9+cl+1,rfl,b1.2,by omega,Jo6 (by omega),λgn H2 g0 g1 b2=>?_⟩;have b12:=b1.trans b2;refine ⟨_,rfl,p,1,rfl,b12.2,by omega,λl zs H3 hl b3 hl3 len nms=>?_⟩;have b13:=b12.trans b3;obtain ⟨z,rfl⟩:∃z,zs= [z]:=by
   match zs,len with
   | [z],_=>exact ⟨z,rfl⟩
  refine ⟨l,_,0,_,rfl,rfl,Sz.of hl3,rfl,?_⟩;refine ⟨_,rfl,p,10,rfl,b13.2,by decide,by decide,λlo H4 l0 l1 b4=>?_⟩;refine ⟨_,rfl,_,rfl,p,4,rfl,b4.2,by decide,by decide,λhi H5 h0 h1 b5=>⟨_,_,rfl,rfl,?_⟩⟩;refine ⟨_,rfl,_,rfl,_,rfl,_,rfl,_,_,rfl,rfl,_,_,rfl,rfl,p,lo+hi - lo+1,rfl,b5.2,by omega,Jo6 (by omega),λsv H6 s0 s1 b6=>⟨_,_,rfl,rfl,?_⟩⟩;refine ⟨_,rfl,_,rfl,_,rfl,_,rfl,_,rfl,p,7,rfl,b6.2,by decide,by decide,λrn H7 n0 n1 b7=>?_⟩;refine ⟨_,rfl,p,2,rfl,by omega,b7.2,λg G H8 b8 gt gg gm=>⟨(show 6<=S9 by decide),λt ht=>?_⟩⟩;have b18:=(((b13.trans b4).trans (b5.trans b6)).trans b7).trans b8;have sT:=Sl.upd (o:=.tup [.str z,.int lo,.int (lo+hi),.int (lo+sv),.int rn,g]) ht;have bt:Scg p (upd H8 t (.tup [.str z,.int lo,.int (lo+hi),.int (lo+sv),.int rn,g])) (.ref t) ⟨z,lo,lo+hi,lo+sv,rn,G⟩:=⟨t,g,rfl,Sr,gt.same sT⟩;have b19:=b18.same sT;generalize upd H8 t (.tup [.str z,.int lo,.int (lo+hi),.int (lo+sv),.int rn,g])=H9 at*;refine ⟨_,rfl,_,rfl,p,6,rfl,b19.2,by decide,by decide,λwt HA w0 w1 bA=>⟨_,_,rfl,rfl,(show 3<=S9 by decide),λtt htt=>⟨(show 1<=S9 by decide),λL hL=>?_⟩⟩⟩;have sB:=Sl.upd (o:=.tup [.str "mill",.str z,.int (1+wt)]) htt;have gB:=Sr (H:=HA) (a:=tt) (o:=.tup [.str "mill",.str z,.int (1+wt)]);generalize upd HA tt (.tup [.str "mill",.str z,.int (1+wt)])=HB at*;have sC:=Sl.upd (o:=.lst [.ref tt]) hL;have gC:=Sr (H:=HB) (a:=L) (o:=.lst [.ref tt]);generalize upd HB L (.lst [.ref tt])=HC at*;have b1C:=((b19.trans bA).same sB).same sC;have nL:L≠p:=(((b19.trans bA).same sB)).2.ne hL;have ntt:tt≠p:=(b19.trans bA).2.ne htt;refine ⟨_,rfl,p,2,rfl,b1C.2,by decide,by decide,λr2 HD d0 d1 bD=>⟨_,rfl,L,_,rfl,Sz.of (bD.1 _ _ nL gC),λlt hlt=>?_⟩⟩;have b1D:=b1C.trans bD;obtain ⟨Ts,ts,ets,ttl,tn,tgd,td⟩:∃(Ts:List Jpl) (ts:List V),Jpp [.ref tt] none (some r2)=ts/\TTL HD ts Ts/\Ts.length<=1/\(∀B∈Ts,Jpr B.z=true/\Ltr 8 B.z/\B.b∈ [z]/\1<=B.wt/\B.wt<=6)/\(Ts.map (·.z)).Nodup:=by
   have cs:r2=0\/r2=1:=by omega
   rcases cs with rfl|rfl
   ·exact ⟨[],[],rfl,True.intro,yal _,λB hB=>absurd hB (by simp),ycb⟩
   ·refine ⟨[⟨"mill",z,1+wt⟩],[.ref tt],rfl,⟨⟨tt,rfl,bD.1 _ _ ntt (sC _ _ gB)⟩,True.intro⟩,yg _,λB hB=>?_,by simp⟩;rw [yam.mp hB];exact ⟨(show Jpr "mill" =true by decide +kernel),⟨(show ("mill" :Str).length<=8 by decide +kernel),(show ∀c∈("mill" :Str).cps.toList,c∈LET.cps.toList by decide +kernel)⟩,by simp,by dsimp only;omega,by dsimp only;omega⟩
  rw [ets];have sE:=Sl.upd (o:=.lst ts) hlt;have gE:=Sr (H:=HD) (a:=lt) (o:=.lst ts);generalize upd HD lt (.lst ts)=HE at*;have nlt:lt≠p:=b1D.2.ne hlt;refine ⟨_,rfl,_,rfl,_,rfl,(show 1<=S9 by decide),λlb hlb=>⟨_,rfl,(show 4<=S9 by decide),λq hq=>?_⟩⟩;have b1E:=b1D.same sE;have nlb:lb≠p:=b1E.2.ne hlb;have sF:=Sl.upd (o:=.lst [.ref t]) hlb;have gF:=Sr (H:=HE) (a:=lb) (o:=.lst [.ref t]);generalize upd HE lb (.lst [.ref t])=HF at*;have sG:=Sl.upd (o:=.tup [.int (9+cl),.int gn,.ref lb,.ref lt]) hq;have gG:=Sr (H:=HF) (a:=q) (o:=.tup [.int (9+cl),.int gn,.ref lb,.ref lt]);generalize upd HF q (.tup [.int (9+cl),.int gn,.ref lb,.ref lt])=HG at*;have sEG:=(sE.trans sF).trans sG;have btG:=(((bt.but b19.2 (((bA.same sB).same sC).trans bD)).same sE).same sF).same sG;have nz:=nms.2 z yab;refine k (.ref q) ⟨9+cl,gn,[⟨z,lo,lo+hi,lo+sv,rn,G⟩],Ts⟩ HG ((b1E.same sF).same sG) ⟨q,lb,lt,[.ref t],ts,rfl,gG,sG _ _ gF,⟨btG,True.intro⟩,sG _ _ (sF _ _ gE),TTL.map (λx B h=>h.same sEG) ttl,nlb,nlt⟩ ⟨by dsimp only;omega,by dsimp only;omega,by simp,λB hB=>?_,by simp,yai tn (by decide),tgd,td⟩ ⟨1,4,13,2,2,7,by decide,rfl,by dsimp only;omega,by dsimp only;omega,λB hB=>?_⟩
  ·rw [yam.mp hB];exact ⟨⟨by dsimp only;omega,by dsimp only;omega,by dsimp only;omega,by dsimp only;omega,gg⟩,nz.1,nz.2⟩
  ·rw [yam.mp hB];exact ⟨by dsimp only;omega,by dsimp only;omega,gm⟩
theorem Cap.tn {n:Nat} {s r m:Int} (h:Cap n s r m):∃L C S T:Nat,s=L/\r=C/\m=S/\atI [V.int 3,.int 3,.int 2,.int 1] ((n:Int) - 1)=some (.int T)/\1<=T/\T<=3/\(n,L,C,S,T,C)∈ [(1,7,5,4,3,5),(1,4,13,2,2,7),(2,4,3,2,3,3),(3,3,2,2,2,2),(4,2,2,2,1,2)]/\1<=n/\n<=4:=by
 rcases h with ⟨rfl,rfl,rfl,rfl⟩|⟨rfl,rfl,rfl,rfl⟩|⟨rfl,rfl,rfl,rfl⟩|⟨rfl,rfl,rfl,rfl⟩
 ·exact ⟨7,5,4,3,rfl,rfl,rfl,rfl,by decide⟩
 ·exact ⟨4,3,2,3,rfl,rfl,rfl,rfl,by decide⟩
 ·exact ⟨3,2,2,2,rfl,rfl,rfl,rfl,by decide⟩
 ·exact ⟨2,2,2,1,rfl,rfl,rfl,rfl,by decide⟩
inductive Yej (vs:List V) (H:Hp) (Q:VK) (z3:XK):Prop where
 |mk (c:Int) (_:vs= [.int c]) (_:∀(x:V) (R:Jo4) (p:S4) (H':Hp),H p=none->Sl H H'->Sc4 H' p->Sfb p H' x R->Jqb R->Ycn R->Q x H')
theorem Yb4 {t1 t2:TS} {D:Sc8} {σ:L2.St} {H:Hp} (Mid:L2.St->Hp->Prop) (h1:∀R,(∀σ H,Mid σ H->R σ H)->t1 {D with nx:=R} σ H) (h2:∀σ H,Mid σ H->t2 D σ H):Sk3 t1 t2 D σ H:=h1 _ h2
theorem Jzf {i:Nat} {v:V} {σ:L2.St} {H:Hp} {t1 t2:TS} {D:Sc8} (h:Sk3 t1 t2 D (σ.set i (some v)) H):Jot i v σ H (Sc8.nx {D with nx:=Sk3 t1 t2 D}):=h
theorem Sac:Jm6 ["_law_cell_here","_law_stream_here","_law_many","_law_cloud","_law_gain","_law_names_here","_law_basins","_law_towns","_law_name"] ["_law_cell_here"] (Jm5 (top 89)):=%[|0]
theorem Jy5 (T:Tx K mg a):Sv P w K mg base CX0 4 a.Jkk a.Jkl ["_law_cell_here"] Yej:=by
 have Sn:=%[Jog|1];have Sbt:=%[Jse|1];have Sfp:=%[Jy3|1];have Sfq:=%[Jy4|1];have Sci:=%[Jrh|1];refine %[T.Ja4.fn.ok,Sac|2]
 ·obtain ⟨c,rfl,_⟩:=h;rfl
 ·obtain ⟨c,rfl,k⟩:=h;refine ⟨?t,?B,?C⟩
  case B=>
   refine' Jlz ?O0 ?O1
   case O0=>exact (Jmb (i:=1) Sac.nd rfl (yaq rfl) (Jm4 T.Jy Sci hr (by decide) (Sm (pv 0) So)))
   case O1=>
   refine' Jlz ?O2 ?O3
   case O2=>exact (Jmb (i:=2) Sac.nd rfl (yaq rfl) (Jm9 Jml Su (Jmf Jn2 (Jmy (pa8 Su Su Su Su Su Su Su Su)) (Jm4 T.Jz Sn hr (by decide) (Sm (pv 1) (Sm Su So))) (λ_ _=>rfl))))
   case O3=>
   refine' Jlz ?O4 ?O5
   case O4=>
    refine' Jmr ?O6 ?O7 ?O8
    case O6=>exact (PW.pt (Ydy (Jmm Jpe (pv 2) Su (Jmp _)) (Yb3 (Jmm Jpe (Jm4 T.Jz Sn hr (by decide) (Sm (pv 1) (Sm Su So))) Su (Jmp _)))))
    case O7=>
     refine' Jm1 ?O9
     case O9=>exact (Jma (Jm4 T.Ja3 Sfq hr (by decide) (Sm (pv 1) So)))
    case O8=>exact Jme
   case O5=>
   refine' Jlz ?Oa ?Ob
   case Oa=>exact (Jmb (i:=3) Sac.nd rfl (yf rfl) (Jm4 T.Jz Sn hr (by decide) (Sm (pv 1) (Sm (Jmf Jn2 (Jmy (pa4 Su Su Su Su)) (Jm9 Jnk (pv 2) Su) (λ_ _=>rfl)) So))))
   case Ob=>
   refine' Jlz ?Oc ?Od
   case Oc=>exact (Jmb (i:=4) Sac.nd rfl (yf rfl) (Jm4 T.Jz Sn hr (by decide) (Sm (pv 1) (Sm (Jm9 Jml (pv 3) Su) So))))
   case Od=>
   refine' Jlz ?Oe ?Of
   case Oe=>exact (Jmb (i:=5) Sac.nd rfl (yf rfl) (Jm4 T.Ja0 Sbt hr (by decide) (Sm (pv 1) (Sm (pv 2) So))))
   case Of=>
   refine' Jlz ?Og ?Oh
   case Og=>exact (Jsi (i:=6) (N:=(["_law_name","_law_stream_here","_law_many"]:List Str)) (ini:=[none,some 1,some 2]) Sac.nd rfl (yf rfl) rfl (Jn0 (pv 5)) (λ_ _ _ _ _=>(Jm7 (i:=0) (by decide +kernel:(["_law_name","_law_stream_here","_law_many"]:List Str).Nodup) rfl (yf rfl))) (λ_ _ _ _ _=>Jmq) (λ_ _ _ _ _=>(Jm4 T.Ja2 Sfp hr (by decide) (Sm (pv 1) (Sm (pv 0) (Sm (pv 2) So))))))
   case Oh=>
   refine' Jlz ?Oi ?Oj
   case Oi=>exact (Jmb (i:=7) Sac.nd rfl (yf rfl) (Jmy So))
   case Oj=>
   refine' Jlz ?Ok ?Ol
   case Ok=>
    refine' Jnq ?Om ?On ?Oo ?Op ?Oq
    case Om=>exact PassesOwn.never
    case On=>exact rfl
    case Oo=>exact (Jn0 (Jov Juk (Jm4 T.Ja0 Sbt hr (by decide) (Sm (pv 1) (Sm Su So))) Jsh (Jon (Jm4 T.Jz Sn hr (by decide) (Sm (pv 1) (Sm (Jmf Jn2 (Jmy (pa4 Su Su Su Su)) (Jm9 Jnk (pv 2) Su) (λ_ _=>rfl)) So))))))
    case Op=>exact (Jm7 (i:=8) Sac.nd rfl (yf rfl))
    case Oq=>
    refine' Jm1 ?Or
    case Or=>exact (Jnp (Jvm F.plainAttrs_list F.slot_list_append F.type_list_append Jpq (pv 7) (Sm (Jmz (Sm (pv 8) (Sm (Jmf Jn2 (pv 5) (Jm4 T.Jz Sn hr (by decide) (Sm (pv 1) (Sm (pv 2) So))) (λ_ _=>rfl)) (Sm (Jm9 Jml Su (Jm4 T.Jz Sn hr (by decide) (Sm (pv 1) (Sm Su So)))) So)))) So)))
   case Ol=>
   refine' Jm1 ?Os
   case Os=>
   refine' Jma ?Ot
   case Ot=>
   refine' Jmz ?Ou
   case Ou=>
   refine' pa4 ?Ov ?Ow ?Ox ?Oy
   case Ov=>exact (pv 3)
   case Ow=>exact (pv 4)
   case Ox=>exact (pv 6)
   case Oy=>exact (pv 7)
  refine ⟨_,rfl,c,rfl,λp H1 hp s1 st=>?_⟩;refine ⟨(show 8<=S9 by decide),λL0 hL0=>?_⟩;have nL0:L0≠p:=st.ne hL0;have b0:=But.of st (Sl.upd (o:=.lst [V.int 0,V.int 0,V.int 1,V.int 1,V.int 1,V.int 2,V.int 2,V.int 3]) hL0);refine ⟨_,rfl,p,8,rfl,b0.2,by decide,by decide,λr3 H4 r30 r31 b1=>?_⟩;obtain ⟨n,m0,cs,cr,cm,hat,em,cap⟩:∃(n:Nat) (m0 cs cr cm:Int),atI [V.int 0,V.int 0,V.int 1,V.int 1,V.int 1,V.int 2,V.int 2,V.int 3] r3=some (.int m0)/\1+m0=n/\Cap n cs cr cm:=by
   have cs:r3=0\/r3=1\/r3=2\/r3=3\/r3=4\/r3=5\/r3=6\/r3=7:=by omega
   rcases cs with rfl|rfl|rfl|rfl|rfl|rfl|rfl|rfl
   ·exact ⟨1,0,_,_,_,rfl,rfl,.inl ⟨rfl,rfl,rfl,rfl⟩⟩
   ·exact ⟨1,0,_,_,_,rfl,rfl,.inl ⟨rfl,rfl,rfl,rfl⟩⟩
   ·exact ⟨2,1,_,_,_,rfl,rfl,.inr (.inl ⟨rfl,rfl,rfl,rfl⟩)⟩
   ·exact ⟨2,1,_,_,_,rfl,rfl,.inr (.inl ⟨rfl,rfl,rfl,rfl⟩)⟩
   ·exact ⟨2,1,_,_,_,rfl,rfl,.inr (.inl ⟨rfl,rfl,rfl,rfl⟩)⟩
   ·exact ⟨3,2,_,_,_,rfl,rfl,.inr (.inr (.inl ⟨rfl,rfl,rfl,rfl⟩))⟩
   ·exact ⟨3,2,_,_,_,rfl,rfl,.inr (.inr (.inl ⟨rfl,rfl,rfl,rfl⟩))⟩
   ·exact ⟨4,3,_,_,_,rfl,rfl,.inr (.inr (.inr ⟨rfl,rfl,rfl,rfl⟩))⟩
  refine ⟨L0,_,r3,_,rfl,rfl,Sz.of (b1.1 _ _ nL0 Sr),hat,_,_,rfl,rfl,?_⟩;rw [em];obtain ⟨a1,a2,a3,bs_,br,bm⟩:=cap.at;obtain ⟨CL,CC,CS,CT,e1,e2,e3,a4,ct1,ct3,mem,n1,n4⟩:=cap.tn;have b5:=b0.trans b1;refine Jzf ?_;refine Yb4 (λσ H'=>σ= [some (.int c),some (.ref p),some (.int n),none,none,none,none,none,none]/\But p H1 H') (λR hR=>?_) ?_
  ·refine ⟨_,rfl,rfl,_,rfl,Six (λ_=>?_) (λ_=>hR _ _ ⟨rfl,b5⟩)⟩;refine ⟨_,rfl,p,6,rfl,b5.2,by decide,by decide,λr6 H5 _ _ b6=>⟨rfl,_,rfl,Six (λ_=>?_) (λ_=>hR _ _ ⟨rfl,b5.trans b6⟩)⟩⟩;have b56:=b5.trans b6;exact ⟨_,rfl,p,rfl,b6.2,λx R' H6 b7 rt rg rl=>k x R' p H6 hp (λy u e=>(b56.trans b7).1 _ _ (Jm2 e hp) (s1 _ _ e)) (b56.trans b7).2 rt rg rl⟩
  rintro σ H5' ⟨rfl,b5'⟩;refine ⟨_,rfl,(show 4<=S9 by decide),λL1 hL1=>?_⟩;have c5:=b5'.same (Sl.upd (o:=.lst [V.int 5,.int 3,.int 2,.int 2]) hL1);refine ⟨_,rfl,_,_,rfl,rfl,L1,_,_,_,rfl,rfl,Sz.of Sr,a2,p,cr,rfl,c5.2,by omega,Jo6 (by omega),λcl H5 c0 c1 b6=>?_⟩;refine ⟨_,rfl,_,rfl,_,_,rfl,rfl,p,cl+1,rfl,b6.2,by omega,Jo6 (by omega),λgn H6 g0 g1 b7=>?_⟩;refine ⟨_,rfl,_,rfl,p,n,rfl,b7.2,by omega,λl zs H7 hl b8 hl7 len nms=>?_⟩;have b57:=(c5.trans b6).trans (b7.trans b8);have nlp:l≠p:=b7.2.ne hl;refine ⟨_,rfl,l,rfl,⟨_,Sz.of hl7⟩,λD hD=>?_⟩;have nD:D≠p:=b57.2.ne hD;refine Jni (K:=K) (a:=l) (xs:=zs.map V.str) (D:=D) (λi σ H'=>∃(o:Option V) (bs:List V) (Bs:List Jo1),σ= [o,some (.ref p),some (.int n)]/\H' D=some (.lst bs)/\BTL p H' bs Bs/\Bs.length=i/\(∀B∈Bs,Jwl B)/\(∀B∈Bs,Lgt cs cr cm B)/\Bs.map (·.z)=zs.take i/\But p H7 H') ?_ ?_ ?_ ?_
  ·exact ⟨_,[],[],rfl,Sr,True.intro,rfl,(λB hB=>absurd hB (by simp)),(λB hB=>absurd hB (by simp)),rfl,But.of b57.2 (Sl.upd hD)⟩
  ·rintro i σ H' _ ⟨o,bs,Bs,rfl,_,_,_,_,_,_,b⟩;exact Sz.of (b.1 _ _ nlp hl7)
  ·rintro i x σ H' hx ⟨o,bs,Bs,rfl,hDs,btl,hln,good,lgt,names,b⟩;rw [ym] at hx;cases ez:zs[i]? with
   |none=>rw [ez] at hx;cases hx
   |some z=>
    rw [ez] at hx;cases hx;have hi:i < zs.length:=(yi.mp ez).1;refine Jna ⟨_,rfl,_,rfl,_,rfl,p,z,n,cs,cr,cm,rfl,b.2,cap,λx B H8 b9 bt bg bz bl=>?_⟩;have btl8:=BTL.map (λx B _ h=>h.but b.2 b9) good btl;have hD8:=b9.1 _ _ nD hDs;have blen:=btl.len;refine ⟨bs,hD8,Jmo (by omega),_,bs++ [x],Bs++ [B],rfl,Sr,?_,by rw [yad];show Bs.length+1=i+1;omega,?_,?_,?_,(b.trans b9).updD hD nD⟩
    ·exact BTL.snoc (bt.put bg hD8 btl.refs) (BTL.map (λx B g h=>h.put g hD8 btl.refs) good btl8)
    ·intro B' hB';rcases yax.mp hB' with h|h
     ·exact good B' h
     ·rw [yam.mp h];exact bg
    ·intro B' hB';rcases yax.mp hB' with h|h
     ·exact lgt B' h
     ·rw [yam.mp h];exact bl
    ·rw [yaj,names,yaa,ez,List.map_singleton,bz];rfl
  rintro σ H8 ⟨o,bs,Bs,rfl,hDs,btl,hln,good,lgt,names,b9⟩;rw [ye] at hln names;rw [ybn] at names;have st8:Sc4 H8 p:=b9.2;have hl8:=b9.1 _ _ nlp hl7;refine ⟨(show 0<=S9 by decide),λlt hlt=>?_⟩;have nlt:lt≠p:=st8.ne hlt;have sA:=Sl.upd (o:=.lst []) hlt;have bA:=But.of st8 sA;refine ⟨_,rfl,p,2,rfl,bA.2,by omega,λl2 ys HB hl2 bB hB len2 nms2=>?_⟩;have nl2:l2≠p:=bA.2.ne hl2;refine ⟨_,rfl,(show 4<=S9 by decide),λL4 hL4=>?_⟩;have cB:=bB.same (Sl.upd (o:=.lst [V.int 3,.int 3,.int 2,.int 1]) hL4);refine ⟨_,rfl,_,_,rfl,rfl,L4,_,_,_,rfl,rfl,Sz.of Sr,a4,p,CT,rfl,cB.2,by omega,Jo6 (by omega),λr4 HC r40 r41 bC=>⟨_,rfl,l2,_,rfl,Sz.of (bC.1 _ _ nl2 ((Sl.upd hL4) _ _ hB)),λq hq=>?_⟩⟩;obtain ⟨us,eu,hus,ul4⟩:∃us:List Str,Jpp (ys.map V.str) none (some r4)=us.map V.str/\us.Sublist ys/\us.length < CT:=by
   obtain ⟨k4,rfl⟩:=ycc r40;refine ⟨ys.take k4,by rw [Ycz _ k4 (by rw [ye];omega),List.map_take],List.take_sublist _ _,?_⟩;rw [yaf];omega
  rw [eu];have bD:=(bA.trans cB).trans bC;have nq:q≠p:=bD.2.ne hq;have hltC:HC lt=some (.lst []):=bC.1 _ _ nlt (cB.1 _ _ nlt Sr);have nql:q≠lt:=λe=>by rw [e,hltC] at hq;cases hq
  have sq:=Sl.upd (o:=.lst (us.map V.str)) hq;have ul:us.length<=3:=by
   have:=hus.length_le;omega
  refine ⟨q,rfl,⟨_,Sz.of Sr⟩,?_⟩;refine Joj (xs:=us.map V.str) (λi σ H'=>∃(o:Option V) (ts:List V) (Ts:List Jpl),σ= [some (.int c),some (.ref p),some (.int n),some (.int cl),some (.int gn),some (.ref l),some (.ref D),some (.ref lt),o]/\H' lt=some (.lst ts)/\TTL H' ts Ts/\Ts.length=i/\Ts.map (·.z)=us.take i/\(∀B∈Ts,B.b∈zs/\1<=B.wt/\B.wt<=6)/\But p H8 H'/\H' q=some (.lst (us.map V.str))) ?_ ?_ ?_ ?_
  ·exact ⟨_,[],[],rfl,sq _ _ hltC,True.intro,rfl,rfl,λB hB=>absurd hB (by simp),bD.same sq,Sr⟩
  ·rintro i σ H' _ ⟨_,_,_,_,_,_,_,_,_,_,h⟩;exact Sz.of h
  ·rintro i x σ H' hx ⟨o,ts,Ts,rfl,hts,ttl,tln,tnm,tgd,b,hq'⟩;rw [ym] at hx;cases ez:us[i]? with
   |none=>rw [ez] at hx;cases hx
   |some u=>
    rw [ez] at hx;cases hx;have hi:i < us.length:=(yi.mp ez).1;have tlen:=ttl.len;refine ⟨_,rfl,.inl ⟨rfl,_,Sz.of hts⟩,_,rfl,_,rfl,_,rfl,_,rfl,p,n,rfl,b.2,by omega,Jo6 (by omega),λr5 HE e0 e1 bE=>?_⟩;have hr5:r5.toNat < zs.length:=by omega
    refine ⟨l,_,r5,.str zs[r5.toNat],rfl,rfl,Sz.of (bE.1 _ _ nlp (b.1 _ _ nlp hl8)),Jrj (j:=r5.toNat) (by omega) (by rw [ym,yh hr5];rfl),?_⟩;refine ⟨_,rfl,p,3,rfl,bE.2,by decide,by decide,λr6 HF f0 f1 bF=>⟨_,_,rfl,rfl,(show 3<=S9 by decide),λt ht=>?_⟩⟩;have bG:=bE.trans bF;have htsF:=bG.1 _ _ nlt hts;have sT:=Sl.upd (o:=.tup [.str u,.str zs[r5.toNat],.int (1+r6)]) ht;refine ⟨lt,_,_,rfl,rfl,sT _ _ htsF,Jmo (by omega),?_⟩;refine ⟨_,ts++ [.ref t],Ts++ [⟨u,zs[r5.toNat],1+r6⟩],rfl,Sr,?_,by rw [yad];show Ts.length+1=i+1;omega,?_,?_,((b.trans bG).same sT).updD hlt nlt,?_⟩
    ·refine TTL.snoc ?_ (TTL.map (λx B h=>(((h.but b.2 bG).same sT).put (sT _ _ htsF))) ttl);exact Sdt.put (sT _ _ htsF) ⟨t,rfl,Sr⟩
    ·rw [yaj,tnm,yaa,ez];rfl
    ·intro B hB;rcases yax.mp hB with h|h
     ·exact tgd B h
     ·rw [yam.mp h];exact ⟨ybb hr5,by dsimp only;omega,by dsimp only;omega⟩
    ·rw [Sx nql];exact sT _ _ (bG.1 _ _ nq hq')
  ·rintro σ HZ ⟨o,ts,Ts,rfl,hts,ttl,tln,tnm,tgd,b,_⟩;rw [ye] at tln tnm;rw [ybn] at tnm;refine ⟨_,rfl,_,rfl,_,rfl,_,rfl,(show 4<=S9 by decide),λt ht=>?_⟩;have sT:=Sl.upd (o:=.tup [.int cl,.int gn,.ref D,.ref lt]) ht;have bZ:=((b57.trans b9).trans b).same sT;refine k (.ref t) ⟨cl,gn,Bs,Ts⟩ p _ hp (λx u e=>bZ.1 _ _ (Jm2 e hp) (s1 _ _ e)) bZ.2 ⟨t,D,lt,bs,ts,rfl,Sr,sT _ _ (b.1 _ _ nD hDs),BTL.map (λx B _ h=>(h.but st8 b).same sT) good btl,sT _ _ hts,TTL.map (λx B h=>h.same sT) ttl,nD,nlt⟩ ?_ ?_
   ·refine ⟨by dsimp only;omega,by dsimp only;omega,by dsimp only;omega,λB hB=>⟨good B hB,nms.2 _ (by rw [<-names];exact ybg hB)⟩,by dsimp only;rw [names];exact nms.1,by dsimp only;omega,λB hB=>?_,?_⟩
    ·have hu:B.z∈us:=by rw [<-tnm];exact ybg hB
     have h1:=nms2.2 _ (hus.subset hu);have h2:=tgd B hB;exact ⟨h1.1,h1.2,by dsimp only;rw [names];exact h2.1,h2.2⟩
    ·dsimp only;rw [tnm];exact hus.nodup nms2.1
   ·exact ⟨n,CL,CC,CS,CT,CC,mem,by dsimp only;omega,by dsimp only;omega,by dsimp only;omega,by rw [<-e1,<-e2,<-e3];exact lgt⟩
noncomputable def nOf (G:Jmi):Nat:=match G.sv with
 |some _=>1
 |none=>G.ns.length
inductive GX (a:Ad) (H:Hp) (x:V) (G:Jmi):Prop where
 |mk (g:S4) (_:Sc1 (cOf a G.kd) H g (G.ns.map V.int)) (_:match G.sv with|none=>x= .ref g|some j=>∃s dx,x= .ref s/\H s=some (.ins a.Jlr dx [("gate",.ref g),("setting",.int j)]))
theorem GX.same {a:Ad} {H H':Hp} {x:V} {G:Jmi} (s:Sl H H') (h:GX a H x G):GX a H' x G:=by
 obtain ⟨g,ga,r⟩:=h;refine ⟨g,ga.same s,?_⟩;cases e:G.sv with
 |none=>rw [e] at r;exact r
 |some j=>
  rw [e] at r;obtain ⟨q,dx,r1,r2⟩:=r;exact ⟨q,dx,r1,s _ _ r2⟩
theorem GX.gs {K:Sg} {a:Ad} {H:Hp} {x:V} {G:Jmi} (gg:Sbk G) (h:GX a H x G):GS K a H x (nOf G):=by
 obtain ⟨g,ga,r⟩:=h;unfold nOf;cases e:G.sv with
 |none=>
  rw [e] at r;subst r;have q:=GS.plain (K:=K) Ycs ga (by rw [ye];exact gg.len.2);rw [ye] at q;exact q
 |some j=>
  rw [e] at r;obtain ⟨q,dx,rfl,r2⟩:=r;exact .stuck r2
inductive Yel (a:Ad) (b:Nat) (vs:List V) (H:Hp) (Q:VK) (z3:XK):Prop where
 |mk (p:S4) (x:V) (G:Jmi) (_:vs= [x]) (_:Sct p H x G) (_:Sbk G) (_:1<=b) (_:(G.sv=none\/2<=b)) (_:∀(g:V) (H':Hp),Sl H H'->GX a H' g G->Q g H')
inductive Syh (K:Sg) (a:Ad) (vs:List V) (H:Hp) (Q:VK) (z3:XK):Prop where
 |mk (p:S4) (x:V) (G:Jmi) (_:vs= [x]) (_:Sct p H x G) (_:Sbk G) (_:∀(g:V) (H':Hp),Sl H H'->GX a H' g G->Q g H')
theorem Jyt {H:Hp} {ns:List Int} {y:V} (h:y∈ns.map V.int):Tm K H y:=by
 obtain ⟨i,_,rfl⟩:=yo.mp h;exact .inl ⟨i,rfl⟩
theorem Jv2 {C:S4} {lo:Int} {x:V} {H:Hp} {Q1:Hp->Prop} {E:XK} {g dx:S4} (c:Cls K C) (n:NoAttr K C "marks") (hg:H g=none) (hd:H dx=none) (ne:dx≠g)
  (h:∃xs,Sq H x xs/\(∀y∈xs,Tm K H y)/\Jpt lo xs=true/\∀H',Sl H H'->Sc1 C H' g xs->Q1 H'):
  Jyn K a lo [.ref g,x] (upd (upd H dx (.own g)) g (.ins C dx [])) (λv H2=>v= .non/\Q1 H2) E:=by
 have s1:Sl H (upd (upd H dx (.own g)) g (.ins C dx [])):=λb o e=>by rw [Sx (Jm2 e hg),Sx (Jm2 e hd)];exact e
 refine ⟨g,C,dx,x,rfl,Sr,c,n,?_⟩;obtain ⟨xs,sq,tms,e,k⟩:=h;refine .inl ⟨xs,sq.same s1,λy hy=>(tms y hy).same s1,e,λt H' s' ht=>⟨rfl,?_⟩⟩;have ng:t≠g:=Skx ht (s' _ _ Sr) (by intro z;cases z);exact k _ (λb o e=>by rw [Sx (Jm2 e hg)];exact s' _ _ (s1 _ _ e)) ⟨dx,t,Sr,by rw [Sx ng];exact ht⟩
theorem Jtk:Jm6 ["_law_told"] ["_law_told"] (Jm5 (top 90)):=%[|0]
theorem Jpc (T:Tx K mg a) (b:Nat) (Sbl:Sv P w K mg base CX0 (5+b) a.Jkm a.Jkn ["_law_told"] (Yel a b)):Sv P w K mg base CX0 (5+b+1) a.Jkm a.Jkn ["_law_told"] (Yel a (b+1)):=by
 have Sdh:=%[Jt8|1];have Sde:=%[Jt5|1];have Sdg:=%[Jt7|1];have Sd2:=%[Jsd|1];refine %[T.Ja5.fn.ok,Jtk|2]
 ·obtain ⟨p,x,G,rfl,_⟩:=h;rfl
 ·obtain ⟨p,x,⟨kd,ns,sv⟩,rfl,⟨t,m,rfl,hm,nm,hc⟩,gg,hb1,hb2,k⟩:=h;refine ⟨?t,?B,?C⟩
  case B=>
   refine' Jlz ?O0 ?O1
   case O0=>
    refine' Jmr ?O2 ?O3 ?O4
    case O2=>exact (Jmm Jpe (Jm8 Jmg (by rfl) T.Jau Jnc (Sm (pv 0) So)) Su (Jmp _))
    case O3=>
     refine' Jm1 ?O5
     case O5=>exact (Jma (Jpg T.Jej Sd2.calm (hr.mono (by omega)) (by rfl) T.Jbk T.Jd9.bd .nil Jpf (Sm (Jm4 T.Ja5 Sbl hr (yg _) (Sm (Jmz (Sm (Jmf Jmk (pv 0) Su (λ_ _=>rfl)) (Sm (Jmf Jmk (pv 0) Su (λ_ _=>rfl)) So))) So)) (Sm (Jmf Jmk (pv 0) Su (λ_ _=>rfl)) So))))
    case O4=>exact Jme
   case O1=>
   refine' Jlz ?O6 ?O7
   case O6=>
    refine' Jmr ?O8 ?O9 ?Oa
    case O8=>exact (Jmm Jpe (Jmf Jmk (pv 0) Su (λ_ _=>rfl)) Jnl (Jmp _))
    case O9=>
     refine' Jm1 ?Ob
     case Ob=>exact (Jma (Jpg T.Je1 Sdh.calm (hr.mono (by omega)) (by rfl) T.Jbh T.Jd0.bd .nil Jpf (Sm (Jms Jp1 (by rfl) T.Jav Joq (Sm (Jmf Jmk (pv 0) Su (λ_ _=>rfl)) So)) So)))
    case Oa=>exact Jme
   case O7=>
   refine' Jlz ?Oc ?Od
   case Oc=>
    refine' Jmr ?Oe ?Of ?Og
    case Oe=>exact (Jmm Jpe (Jmf Jmk (pv 0) Su (λ_ _=>rfl)) Jnl (Jmp _))
    case Of=>
     refine' Jm1 ?Oh
     case Oh=>exact (Jma (Jpg T.Je7 Sde.calm (hr.mono (by omega)) (by rfl) T.Jbi T.Jd3.bd .nil Jpf (Sm (Jms Jp1 (by rfl) T.Jav Joq (Sm (Jmf Jmk (pv 0) Su (λ_ _=>rfl)) So)) So)))
    case Og=>exact Jme
   case Od=>
   refine' Jm1 ?Oi
   case Oi=>exact (Jma (Jpg T.Jed Sdg.calm (hr.mono (by omega)) (by rfl) T.Jbj T.Jd6.bd .nil Jpf (Sm (Jms Jp1 (by rfl) T.Jav Joq (Sm (Jmf Jmk (pv 0) Su (λ_ _=>rfl)) So)) So)))
  have hkd:Knd kd:=gg.kd;have har:Jpt (Jp9 kd) (ns.map V.int)=true:=gg.ns;have hsv:∀i,sv=some i->0<=i/\i < (ns.length:Int):=gg.sv;have hlen:=gg.len;dsimp only at hc hlen;rcases hc with ⟨rfl,ht⟩|⟨j,m2,rfl,ht,hm2,nm2⟩
  ·have hm':H m=some (.lst (ns.map V.int)):=hm;refine ⟨_,rfl,t,_,rfl,.inr (SqT.of ht),rfl,_,rfl,Jq5 (λz=>absurd (V.int.inj z) (show (2:Int)≠4 by decide)) ?_⟩;rcases hkd with rfl|rfl|rfl
   ·have e1:Jp9 "step" =0:=if_neg Sry;have e2:cOf a "step" =a.Jlo:=if_pos rfl;have hr':Jpt (0) (ns.map V.int)=true:=by rw [<-e1];exact har
    refine ⟨_,rfl,t,_,0,_,rfl,rfl,SqT.of ht,rfl,rfl,_,rfl,Jr6 rfl ⟨_,rfl,t,_,1,_,rfl,rfl,SqT.of ht,rfl,m,_,rfl,.inl (Sz.of hm'),λl hl g dx hg hd ne=>Jv2 T.Jdz T.Jfi hg hd ne ⟨ns.map V.int,.lst Sr,λy hy=>Jyt hy,hr',λH' s' ga=>?_⟩⟩⟩;exact k _ _ ((Sl.upd hl).trans s') ⟨g,by rw [e2];exact ga,rfl⟩
   ·have e1:Jp9 "flap" =0:=if_neg Srx;have e2:cOf a "flap" =a.Jlp:=by unfold cOf;rw [if_neg Jxa,if_pos rfl]
    have hr':Jpt (0) (ns.map V.int)=true:=by rw [<-e1];exact har
    refine ⟨_,rfl,t,_,0,_,rfl,rfl,SqT.of ht,rfl,rfl,_,rfl,Jq5 (Soj Jxa) ⟨_,rfl,t,_,0,_,rfl,rfl,SqT.of ht,rfl,rfl,_,rfl,Jr6 rfl ⟨_,rfl,t,_,1,_,rfl,rfl,SqT.of ht,rfl,m,_,rfl,.inl (Sz.of hm'),λl hl g dx hg hd ne=>Jv2 T.Je5 T.Jfj hg hd ne ⟨ns.map V.int,.lst Sr,λy hy=>Jyt hy,hr',λH' s' ga=>?_⟩⟩⟩⟩;exact k _ _ ((Sl.upd hl).trans s') ⟨g,by rw [e2];exact ga,rfl⟩
   ·have e1:Jp9 "part" =1:=if_pos rfl;have e2:cOf a "part" =a.Jlq:=by unfold cOf;rw [if_neg Jxc,if_neg Jxb]
    have hr':Jpt (1) (ns.map V.int)=true:=by rw [<-e1];exact har
    refine ⟨_,rfl,t,_,0,_,rfl,rfl,SqT.of ht,rfl,rfl,_,rfl,Jq5 (Soj Jxc) ⟨_,rfl,t,_,0,_,rfl,rfl,SqT.of ht,rfl,rfl,_,rfl,Jq5 (Soj Jxb) ⟨_,rfl,t,_,1,_,rfl,rfl,SqT.of ht,rfl,m,_,rfl,.inl (Sz.of hm'),λl hl g dx hg hd ne=>Jv2 T.Jeb T.Jfk hg hd ne ⟨ns.map V.int,.lst Sr,λy hy=>Jyt hy,hr',λH' s' ga=>?_⟩⟩⟩⟩;exact k _ _ ((Sl.upd hl).trans s') ⟨g,by rw [e2];exact ga,rfl⟩
  ·have hj:=hsv j rfl;have b1:1<=b:=by
    rcases hb2 with h|h
    ·cases h
    ·omega
   refine ⟨_,rfl,t,_,rfl,.inr (SqT.of ht),rfl,_,rfl,Jr6 rfl ?_⟩;refine ⟨_,rfl,t,_,0,_,rfl,rfl,SqT.of ht,rfl,_,rfl,t,_,2,_,rfl,rfl,SqT.of ht,rfl,(show 2<=S9 by decide),λq hq=>?_⟩;have sq:=Sl.upd (o:=.tup [.str kd,.ref m2]) hq;refine ⟨p,_,⟨kd,ns,none⟩,rfl,⟨q,m2,rfl,sq _ _ hm2,nm2,.inl ⟨rfl,Sr⟩⟩,⟨hkd,har,λ_ z=>by cases z⟩,b1,.inl rfl,λgv H1 s1 gx=>?_⟩;obtain ⟨g,ga,rfl⟩:=gx;have s01:=sq.trans s1;have gs:GS K a H1 (.ref g) ns.length:=by
    have q:=GS.plain (K:=K) Ycs ga (by rw [ye];exact hlen.2);rw [ye] at q;exact q
   refine ⟨_,rfl,t,_,3,_,rfl,rfl,SqT.of (s01 _ _ ht),rfl,λx dx hx hdx ne=>?_⟩;have sn:Sl H1 (upd (upd H1 dx (.own x)) x (.ins a.Jlr dx [])):=λb o e=>by rw [Sx (Jm2 e hx),Sx (Jm2 e hdx)];exact e
   refine ⟨x,dx,_,.int j,rfl,Sr,.inr (.inr ⟨ns.length,gs.same sn,.inl ⟨j,rfl⟩,by simp [Jmn];omega,rfl,?_⟩)⟩;have sx:Sl H1 (upd (upd (upd H1 dx (.own x)) x (.ins a.Jlr dx [])) x (.ins a.Jlr dx [("gate",.ref g),("setting",.int j)])):=by
    rw [Jnr];exact λb o e=>by rw [Sx (Jm2 e hx),Sx (Jm2 e hdx)];exact e
   exact k _ _ (s01.trans sx) ⟨g,ga.same sx,x,dx,rfl,Sr⟩
theorem Jtc (T:Tx K mg a):Sv P w K mg base CX0 7 a.Jkm a.Jkn ["_law_told"] (Syh K a):=by
 have h0:Sv P w K mg base CX0 (5+0) a.Jkm a.Jkn ["_law_told"] (Yel a 0):=by
  refine ⟨λvs H Q E h=>?_,λA outer s H args us vs Q E hr he hb hv h=>?_⟩ <;>
  ·obtain ⟨_,_,_,_,_,_,z,_⟩:=h;exact absurd z (by omega)
 refine (Jpc T 1 (Jpc T 0 h0)).imp λvs H Q E h=>?_;obtain ⟨p,x,G,e,gt,gg,k⟩:=h;exact ⟨p,x,G,e,gt,gg,by omega,.inr (by omega),k⟩
theorem GS.put {K:Sg} {a:Ad} {H:Hp} {x:V} {n:Nat} {D:S4} {bs:List V} {o:HO} (hD:H D=some (.lst bs)) (h:GS K a H x n):GS K a (upd H D o) x n:=by
 cases h with
 |plain i g l=>
  obtain ⟨dx,t,h1,h2⟩:=g;exact .plain i ⟨dx,t,by rw [Sx (λz=>by rw [z,hD] at h1;cases h1)];exact h1,by rw [Sx (λz=>by rw [z,hD] at h2;cases h2)];exact h2⟩ l
 |stuck e=>exact .stuck (by rw [Sx (λz=>by rw [z,hD] at e;cases e)];exact e)
theorem Scb.put {K:Sg} {a:Ad} {H:Hp} {b D:S4} {B:Bsn} {bs:List V} {o:HO} (hD:H D=some (.lst bs)) (h:Scb K a H b B):Scb K a (upd H D o) b B:=by
 obtain ⟨dx,h1,h2⟩:=h;exact ⟨dx,by rw [Sx (λz=>by rw [z,hD] at h1;cases h1)];exact h1,h2.put hD⟩
theorem Sbx.map {K:Sg} {a:Ad} {H H':Hp} (f:∀x B,Scb K a H x B->Scb K a H' x B):∀{xs:List S4} {Bs:List Bsn},Sbx K a H xs Bs->Sbx K a H' xs Bs:=by
 intro xs
 induction xs with
 |nil=>
  intro Bs h;cases Bs with
  |nil=>exact True.intro
  |cons B Bs=>exact False.elim h
 |cons x xs ih=>
  intro Bs h;cases Bs with
  |nil=>exact False.elim h
  |cons B Bs=>exact ⟨f _ _ (yat h),ih (yao h)⟩
theorem Sbx.snoc {K:Sg} {a:Ad} {H:Hp} {x:S4} {B:Bsn} (h:Scb K a H x B):∀{xs:List S4} {Bs:List Bsn},Sbx K a H xs Bs->Sbx K a H (xs++ [x]) (Bs++ [B]):=by
 intro xs
 induction xs with
 |nil=>
  intro Bs q;cases Bs with
  |nil=>exact ⟨h,True.intro⟩
  |cons B Bs=>exact False.elim q
 |cons x xs ih=>
  intro Bs q;cases Bs with
  |nil=>exact False.elim q
  |cons B Bs=>exact ⟨yat q,ih (yao q)⟩
theorem Scp.put {a:Ad} {H:Hp} {b D:S4} {B:Twn} {bs:List V} {o:HO} (hD:H D=some (.lst bs)) (h:Scp a H b B):Scp a (upd H D o) b B:=by
 obtain ⟨dx,h1⟩:=h;exact ⟨dx,by rw [Sx (λz=>by rw [z,hD] at h1;cases h1)];exact h1⟩
theorem Sc5.map {a:Ad} {H H':Hp} (f:∀x B,Scp a H x B->Scp a H' x B):∀{xs:List S4} {Bs:List Twn},Sc5 a H xs Bs->Sc5 a H' xs Bs:=by
 intro xs
 induction xs with
 |nil=>
  intro Bs h;cases Bs with
  |nil=>exact True.intro
  |cons B Bs=>exact False.elim h
 |cons x xs ih=>
  intro Bs h;cases Bs with
  |nil=>exact False.elim h
  |cons B Bs=>exact ⟨f _ _ (yat h),ih (yao h)⟩
theorem Sc5.snoc {a:Ad} {H:Hp} {x:S4} {B:Twn} (h:Scp a H x B):∀{xs:List S4} {Bs:List Twn},Sc5 a H xs Bs->Sc5 a H (xs++ [x]) (Bs++ [B]):=by
 intro xs
 induction xs with
 |nil=>
  intro Bs q;cases Bs with
  |nil=>exact ⟨h,True.intro⟩
  |cons B Bs=>exact False.elim q
 |cons x xs ih=>
  intro Bs q;cases Bs with
  |nil=>exact False.elim q
  |cons B Bs=>exact ⟨yat q,ih (yao q)⟩
theorem BTL.get {p:S4} {H:Hp}:∀{xs:List V} {Bs:List Jo1} {i:Nat} {x:V},BTL p H xs Bs->xs[i]?=some x->∃B,Bs[i]?=some B/\Scg p H x B:=by
 intro xs
 induction xs with
 |nil=>intro Bs i x h e;simp at e
 |cons x xs ih=>
  intro Bs i y h e;cases Bs with
  |nil=>exact False.elim h
  |cons B Bs=>
   cases i with
   |zero=>cases e;exact ⟨B,rfl,yat h⟩
   |succ i=>exact @ih Bs i _ (yao h) (by simpa using e)
theorem TTL.get {H:Hp}:∀{xs:List V} {Bs:List Jpl} {i:Nat} {x:V},TTL H xs Bs->xs[i]?=some x->∃B,Bs[i]?=some B/\Sdt H x B:=by
 intro xs
 induction xs with
 |nil=>intro Bs i x h e;simp at e
 |cons x xs ih=>
  intro Bs i y h e;cases Bs with
  |nil=>exact False.elim h
  |cons B Bs=>
   cases i with
   |zero=>cases e;exact ⟨B,rfl,yat h⟩
   |succ i=>exact @ih Bs i _ (yao h) (by simpa using e)
theorem GX.put {a:Ad} {H:Hp} {x:V} {G:Jmi} {D:S4} {bs:List V} {o:HO} (hD:H D=some (.lst bs)) (h:GX a H x G):GX a (upd H D o) x G:=by
 obtain ⟨g,⟨dx,t,h1,h2⟩,r⟩:=h;refine ⟨g,⟨dx,t,by rw [Sx (λz=>by rw [z,hD] at h1;cases h1)];exact h1,by rw [Sx (λz=>by rw [z,hD] at h2;cases h2)];exact h2⟩,?_⟩;cases e:G.sv with
 |none=>rw [e] at r;exact r
 |some j=>
  rw [e] at r;obtain ⟨q,dx,r1,r2⟩:=r;exact ⟨q,dx,r1,by rw [Sx (λz=>by rw [z,hD] at r2;cases r2)];exact r2⟩
noncomputable def GXL (a:Ad) (H:Hp):List V->List Jmi->Prop
 | [],[]=>True
 |x::xs,G::Gs=>GX a H x G/\GXL a H xs Gs
 |_,_=>False
theorem GXL.map {a:Ad} {H H':Hp} (f:∀x G,GX a H x G->GX a H' x G):∀{xs:List V} {Gs:List Jmi},GXL a H xs Gs->GXL a H' xs Gs:=by
 intro xs
 induction xs with
 |nil=>
  intro Bs h;cases Bs with
  |nil=>exact True.intro
  |cons B Bs=>exact False.elim h
 |cons x xs ih=>
  intro Bs h;cases Bs with
  |nil=>exact False.elim h
  |cons B Bs=>exact ⟨f _ _ (yat h),ih (yao h)⟩
theorem GXL.snoc {a:Ad} {H:Hp} {x:V} {G:Jmi} (h:GX a H x G):∀{xs:List V} {Gs:List Jmi},GXL a H xs Gs->GXL a H (xs++ [x]) (Gs++ [G]):=by
 intro xs
 induction xs with
 |nil=>
  intro Bs q;cases Bs with
  |nil=>exact ⟨h,True.intro⟩
  |cons B Bs=>exact False.elim q
 |cons x xs ih=>
  intro Bs q;cases Bs with
  |nil=>exact False.elim q
  |cons B Bs=>exact ⟨yat q,ih (yao q)⟩
theorem GXL.get {a:Ad} {H:Hp}:∀{xs:List V} {Gs:List Jmi} {i:Nat} {x:V},GXL a H xs Gs->xs[i]?=some x->∃G,Gs[i]?=some G/\GX a H x G:=by
 intro xs
 induction xs with
 |nil=>intro Bs i x h e;simp at e
 |cons x xs ih=>
  intro Bs i y h e;cases Bs with
  |nil=>exact False.elim h
  |cons B Bs=>
   cases i with
   |zero=>cases e;exact ⟨B,rfl,yat h⟩
   |succ i=>exact @ih Bs i _ (yao h) (by simpa using e)
theorem GXL.same {a:Ad} {H H':Hp} {xs:List V} {Gs:List Jmi} (s:Sl H H') (h:GXL a H xs Gs):GXL a H' xs Gs:=h.map λ_ _ h=>h.same s
noncomputable def Js2 (B:Bsn):Str×Int×Int×Int×Int×Nat:=(B.z,B.lo,B.hi,B.st,B.rn,B.n)
noncomputable def Jps (B:Jo1):Str×Int×Int×Int×Int×Nat:=(B.z,B.lo,B.hi,B.st,B.rn,nOf B.G)
structure Jr5 (R:Jo4) (S:Riv):Prop where
 c:S.c=R.c
 g:S.g=R.g
 Bs:S.Bs.map Js2=R.Bs.map Jps
 Ts:S.Ts.map (λB=>(B.z,B.b,B.wt))=R.Ts.map (λB=>(B.z,B.b,B.wt))
inductive Ygm (K:Sg) (a:Ad) (vs:List V) (H:Hp) (Q:VK) (z3:XK):Prop where
 |mk (p:S4) (x:V) (R:Jo4) (_:vs= [x]) (_:Sfb p H x R) (_:Jqb R) (_:∀(o:S4) (S:Riv) (H':Hp),Sl H H'->Sah K a H' o S->Jr5 R S->GXL a H' (S.Bs.map (·.g)) (R.Bs.map (·.G))->Q (.ref o) H')
theorem GS.gti {H:Hp} {x:V} {n:Nat} (T:Tx K mg a) (g:GS K a H x n):GtI K a H x true:=by
 cases g with
 |plain i ga l=>
  obtain ⟨dx,t,h1,h2⟩:=ga;rcases i with rfl|rfl|rfl
  ·exact ⟨_,.of (T.Je0.ty T.Jdz h1),T.Jg0,T.Jga,_,T.Jg6,λ_=>rfl,by intro w';cases w'⟩
  ·exact ⟨_,.of (T.Je6.ty T.Je5 h1),T.Jg1,T.Jgb,_,T.Jg7,λ_=>rfl,by intro w';cases w'⟩
  ·exact ⟨_,.of (T.Jec.ty T.Jeb h1),T.Jg2,T.Jgc,_,T.Jg8,λ_=>rfl,by intro w';cases w'⟩
 |stuck h1=>exact ⟨_,.of (T.Jei.ty T.Jeh h1),T.Jg3,T.Jgd,_,T.Jg9,λ_=>rfl,by intro w';cases w'⟩
theorem Yp {H:Hp} {z:Str} (h:Ltr 8 z):Nmd K H (.str z):=⟨.inr ⟨_,.of (.str z),rfl⟩,λy e=>by cases e;exact ⟨yai h.len (by omega),h.wd.low⟩⟩
theorem Sap:Jm6 ["_law_told","_law_basins","_law_name","_law_low","_law_high","_law_start","_law_rain","_law_gate_here"] ["_law_told"] (Jm5 (top 91)):=%[|0]
theorem Jzj (T:Tx K mg a):Sv P w K mg base CX0 8 a.Jko a.Jkp ["_law_told"] (Ygm K a):=by
 have Sbl:=%[Jtc|1];have Se1:=%[Jw8|1];have Sea:=%[Jxy|1];have Se2:=%[Jw9|1];refine %[T.Ja6.fn.ok,Sap|2]
 ·obtain ⟨p,x,R,rfl,_⟩:=h;rfl
 ·obtain ⟨p,x,R,rfl,⟨t,lb,lt,bs,ts,rfl,ht,hb,btl,htt,ttl,_,_⟩,rg,k⟩:=h;refine ⟨?t,?B,?C⟩
  case B=>
   refine' Jlz ?O0 ?O1
   case O0=>exact (Jmb (i:=1) Sap.nd rfl (yf rfl) (Jmy So))
   case O1=>
   refine' Jlz ?O2 ?O3
   case O2=>
    refine' Jnq ?O4 ?O5 ?O6 ?O7 ?O8
    case O4=>exact PassesOwn.never
    case O5=>exact rfl
    case O6=>exact (Jn0 (Jmf Jmk (pv 0) Su (λ_ _=>rfl)))
    case O7=>exact (Jrr rfl (Jmh (Jm7 (i:=2) Sap.nd rfl (yf rfl)) (Jmh (Jm7 (i:=3) Sap.nd rfl (yf rfl)) (Jmh (Jm7 (i:=4) Sap.nd rfl (yf rfl)) (Jmh (Jm7 (i:=5) Sap.nd rfl (yf rfl)) (Jmh (Jm7 (i:=6) Sap.nd rfl (yf rfl)) (Jmh (Jm7 (i:=7) Sap.nd rfl (yf rfl)) Job)))))))
    case O8=>
    refine' Jm1 ?O9
    case O9=>exact (Jnp (Jvm F.plainAttrs_list F.slot_list_append F.type_list_append Jpq (pv 1) (Sm (Jpg T.Jep Se1.calm (hr.mono (by decide)) (by rfl) T.Jbl T.Jdc.bd .nil Jpf (pa6 (pv 2) (pv 3) (pv 4) (pv 5) (pv 6) (Jm4 T.Ja5 Sbl hr (by decide) (Sm (pv 7) So)))) So)))
   case O3=>
   refine' Jm1 ?Oa
   case Oa=>
   refine' Jma ?Ob
   case Ob=>exact (Jpg T.Jeu Se2.calm (hr.mono (by decide)) (by rfl) T.Jbn T.Jde.bd .nil Jpf (pa4 (Jmf Jmk (pv 0) Su (λ_ _=>rfl)) (Jmf Jmk (pv 0) Su (λ_ _=>rfl)) (pv 1) (Jmt (N:=(["_law_name","_law_basin_here","_law_want"]:List Str)) (ini:=[none,none,none]) rfl (Jn0 (Jmf Jmk (pv 0) Su (λ_ _=>rfl))) (λ_ _ _ _ _=>(Jr3 (K:=K) (n:=3) rfl rfl (Jmh (Jm7 (i:=0) (by decide +kernel:(["_law_name","_law_basin_here","_law_want"]:List Str).Nodup) rfl (yf rfl)) (Jmh (Jm7 (i:=1) (by decide +kernel:(["_law_name","_law_basin_here","_law_want"]:List Str).Nodup) rfl (yf rfl)) (Jmh (Jm7 (i:=2) (by decide +kernel:(["_law_name","_law_basin_here","_law_want"]:List Str).Nodup) rfl (yf rfl)) Job))))) (λ_ _ _ _ _=>Jmq) (λ_ _ _ _ _=>(Jpg T.Jes Sea.calm (hr.mono (by decide)) (by rfl) T.Jbm T.Jdd.bd .nil Jpf (Sm (pv 0) (Sm (pv 1) (Sm (pv 2) So))))))))
  refine ⟨(show 0<=S9 by decide),λnb hnb=>?_⟩;have s0:=Sl.upd (o:=.lst []) hnb;refine ⟨_,rfl,t,_,2,_,rfl,rfl,SqT.of (s0 _ _ ht),rfl,lb,rfl,⟨_,Sz.of (s0 _ _ hb)⟩,?_⟩;have blen:=btl.len;refine Joj (xs:=bs) (λi σ H'=>∃(o1 o2 o3 o4 o5 o6:Option V) (os:List S4) (Bs:List Bsn),σ= [some (.ref t),some (.ref nb),o1,o2,o3,o4,o5,o6]/\H' nb=some (.lst (os.map V.ref))/\Sbx K a H' os Bs/\Bs.length=i/\Bs.map Js2=(R.Bs.take i).map Jps/\GXL a H' (Bs.map (·.g)) ((R.Bs.take i).map (·.G))/\Sl H H') ?_ ?_ ?_ ?_
  ·exact ⟨_,_,_,_,_,_,[],[],rfl,Sr,True.intro,rfl,rfl,True.intro,s0⟩
  ·rintro i σ H' _ ⟨_,_,_,_,_,_,_,_,_,_,_,_,_,_,sm⟩;exact Sz.of (sm _ _ hb)
  ·rintro i x σ H' hx ⟨o1,o2,o3,o4,o5,o6,os,Bs,rfl,hnbs,bl,bln,bkey,gxl,sm⟩;obtain ⟨B,eB,⟨tb,g,rfl,htb,gt⟩⟩:=btl.get hx;have hB:B∈R.Bs:=yr eB;obtain ⟨bg,bnm,blt⟩:=rg.Bs B hB;have olen:=bl.len;have hi:i < R.Bs.length:=(yi.mp eB).1;have hn:=rg.n;refine ⟨tb,_,rfl,SqT.of (sm _ _ htb),rfl,_,_,rfl,_,_,rfl,_,_,rfl,_,_,rfl,_,_,rfl,_,_,rfl,rfl,?_⟩;refine ⟨_,rfl,.inl ⟨rfl,_,Sz.of hnbs⟩,_,rfl,_,rfl,_,rfl,_,rfl,_,rfl,_,rfl,p,g,B.G,rfl,gt.same sm,bg.G,λgv H1 s1 gx=>?_⟩;have gs:GS K a H1 gv (nOf B.G):=gx.gs bg.G;intro x dx hx1 hd1 ne;have sn:Sl H1 (upd (upd H1 dx (.own x)) x (.ins a.Jls dx [])):=λb o e=>by rw [Sx (Jm2 e hx1),Sx (Jm2 e hd1)];exact e
   refine ⟨x,dx,.str B.z,.int B.lo,.int B.hi,.int B.st,.int B.rn,gv,true,none,rfl,Sr,Yp blt,.inl ⟨_,rfl⟩,.inl ⟨_,rfl⟩,.inl ⟨_,rfl⟩,.inl ⟨_,rfl⟩,(gs.gti T).same sn,.good B.lo B.hi bnm rfl rfl (Jp8 bg.lo.1 bg.lo.2) (Jp8 bg.hi.1 bg.hi.2) (Jp8 bg.st.1 bg.st.2) (Jp8 bg.rn.1 bg.rn.2) rfl,λH2 s2=>⟨rfl,?_⟩⟩;have s3:Sl H1 (upd H2 x (.ins a.Jls dx (Sm8 (.str B.z) (.int B.lo) (.int B.hi) (.int B.st) (.int B.rn) gv))):=λb o e=>by rw [Sx (Jm2 e hx1)];exact s2 _ _ (sn _ _ e)
   have s13:=s1.trans s3;have hnb3:=s13 _ _ hnbs;refine ⟨nb,_,_,rfl,rfl,hnb3,by rw [ye];exact Jmo (by omega),?_⟩;refine ⟨_,_,_,_,_,_,os++ [x],Bs++ [⟨B.z,B.lo,B.hi,B.st,B.rn,gv,nOf B.G⟩],rfl,by rw [Sr,yaj];rfl,?_,by rw [yad];show Bs.length+1=i+1;omega,?_,?_,?_⟩
   ·exact Sbx.snoc (Scb.put hnb3 ⟨dx,Sr,gs.same s3⟩) (Sbx.map (λx B h=>(h.same s13).put hnb3) bl)
   ·rw [yaj,bkey,yaa,eB,yaj];rfl
   ·rw [yaj,yaa,eB,yaj];exact GXL.snoc (GX.put hnb3 (gx.same s3)) (GXL.map (λx G h=>(h.same s13).put hnb3) gxl)
   ·intro b o e;rw [Sx (Jm2 e hnb)];exact s13 _ _ (sm _ _ e)
  ·rintro σ H1 ⟨o1,o2,o3,o4,o5,o6,os,Bs,rfl,hnbs,bl,bln,bkey,gxl,sm⟩;rw [yah (by omega)] at bkey gxl;refine ⟨_,rfl,t,_,0,_,rfl,rfl,SqT.of (sm _ _ ht),rfl,?_⟩;refine ⟨_,rfl,t,_,1,_,rfl,rfl,SqT.of (sm _ _ ht),rfl,?_⟩;refine ⟨_,rfl,_,rfl,t,_,3,_,rfl,rfl,SqT.of (sm _ _ ht),rfl,lt,rfl,⟨_,Sz.of (sm _ _ htt)⟩,λD hD=>?_⟩;have tlen:=ttl.len;refine Jni (K:=K) (a:=lt) (xs:=ts) (D:=D) (λi σ H'=>∃(o1 o2 o3:Option V) (ws:List S4) (Ws:List Twn),σ= [o1,o2,o3]/\H' D=some (.lst (ws.map V.ref))/\Sc5 a H' ws Ws/\Ws.length=i/\Ws.map (λB=>(B.z,B.b,B.wt))=(R.Ts.take i).map (λB=>(B.z,B.b,B.wt))/\Sl H1 H') ?_ ?_ ?_ ?_
   ·exact ⟨_,_,_,[],[],rfl,Sr,True.intro,rfl,rfl,Sl.upd hD⟩
   ·rintro i σ H' _ ⟨_,_,_,_,_,_,_,_,_,_,s1⟩;exact Sz.of (s1 _ _ (sm _ _ htt))
   ·rintro i x σ H' hx ⟨p1,p2,p3,ws,Ws,rfl,hDs,wl,wln,wkey,s1⟩;obtain ⟨B,eB,⟨tb,rfl,htb⟩⟩:=ttl.get hx;obtain ⟨bnm,blt,bin,bw⟩:=rg.Ts B (yr eB);have hi:i < R.Ts.length:=(yi.mp eB).1;have h3:=rg.tn;have wlen:=wl.len;obtain ⟨Bb,hBb,ebb⟩:=yo.mp bin;have blb:Ltr 8 B.b:=by rw [<-ebb];exact (rg.Bs Bb hBb).2.2
    have bnb:Jpr B.b=true:=by rw [<-ebb];exact (rg.Bs Bb hBb).2.1
    refine Sla (SqT.of (s1 _ _ (sm _ _ htb))) ⟨_,rfl,_,rfl,_,rfl,λx dx hx1 hd1 ne=>?_⟩;have sn:Sl H' (upd (upd H' dx (.own x)) x (.ins a.Jlt dx [])):=λb o e=>by rw [Sx (Jm2 e hx1),Sx (Jm2 e hd1)];exact e
    refine ⟨x,dx,.str B.z,.str B.b,.int B.wt,none,rfl,Sr,Yp blt,Yp blb,.inl ⟨_,rfl⟩,.good bnm bnb (Jp8 bw.1 bw.2),λH2 s2=>⟨rfl,?_⟩⟩;have s3:Sl H' (upd H2 x (.ins a.Jlt dx (twnF (.str B.z) (.str B.b) (.int B.wt)))):=λb o e=>by rw [Sx (Jm2 e hx1)];exact s2 _ _ (sn _ _ e)
    have hD3:=s3 _ _ hDs;refine ⟨_,hD3,by rw [ye];exact Jmo (by omega),_,_,_,ws++ [x],Ws++ [⟨B.z,B.b,B.wt⟩],rfl,by rw [Sr,yaj];rfl,?_,by rw [yad];show Ws.length+1=i+1;omega,?_,?_⟩
    ·exact Sc5.snoc (Scp.put hD3 ⟨dx,Sr⟩) (Sc5.map (λx B h=>(h.same s3).put hD3) wl)
    ·rw [yaj,wkey,yaa,eB,yaj];rfl
    ·intro b o e;rw [Sx (Jm2 e hD)];exact s3 _ _ (s1 _ _ e)
   ·rintro σ H2 ⟨p1,p2,p3,ws,Ws,rfl,hDs,wl,wln,wkey,s1⟩;rw [yah (by omega)] at wkey;intro x dx hx1 hd1 ne;have sn:Sl H2 (upd (upd H2 dx (.own x)) x (.ins a.Jlu dx [])):=λb o e=>by rw [Sx (Jm2 e hx1),Sx (Jm2 e hd1)];exact e
    have hz:Bs.map (·.z)=R.Bs.map (·.z):=by
     have:=congrArg (List.map (·.1)) bkey;simpa [yas,Js2,Jps,Function.comp_def] using this
    have hr:Bs.map (·.rn)=R.Bs.map (·.rn):=by
     have:=congrArg (List.map (·.2.2.2.2.1)) bkey;simpa [yas,Js2,Jps,Function.comp_def] using this
    have hw:Ws.map (·.z)=R.Ts.map (·.z):=by
     have:=congrArg (List.map (·.1)) wkey;simpa [yas,Function.comp_def] using this
    have hwb:Ws.map (·.b)=R.Ts.map (·.b):=by
     have:=congrArg (List.map (·.2.1)) wkey;simpa [yas,Function.comp_def] using this
    have n1:=rg.n;have n2:=rg.tn;refine ⟨x,dx,nb,D,R.c,R.g,os,ws,Bs,Ws,rfl,Sr,rg.c,rg.g,sn _ _ (s1 _ _ hnbs),(bl.same s1).same sn,by omega,by rw [hz];exact rg.nd,sn _ _ hDs,wl.same sn,by omega,by rw [hw];exact rg.td,λB hB=>?_,λH3 b t s3 hb3 ht3 nb3 nt3=>⟨rfl,?_⟩⟩
    ·have:B.b∈R.Ts.map (·.b):=by rw [<-hwb];exact ybg hB
     obtain ⟨C,hC,e⟩:=yo.mp this;rw [hz,<-e];exact (rg.Ts C hC).2.2.1
    ·have s4:Sl H2 (upd H3 x (.ins a.Jlu dx (Sk0 (.int R.c) (.int R.g) (.ref b) (.ref t)))):=λb o e=>by rw [Sx (Jm2 e hx1)];exact s3 _ _ (sn _ _ e)
     refine k x ⟨R.c,R.g,Bs,Ws⟩ _ ((sm.trans s1).trans s4) ⟨dx,b,t,os,ws,Sr,by rw [Sx nb3];exact hb3,(bl.same s1).same s4,by rw [Sx nt3];exact ht3,wl.same s4,by dsimp only;omega,by dsimp only;omega,λB hB=>?_⟩ ⟨rfl,rfl,bkey,wkey⟩ ((gxl.same s1).same s4);have:B.rn∈R.Bs.map (·.rn):=by rw [<-hr];exact ybg hB
     obtain ⟨C,hC,e⟩:=yo.mp this;rw [<-e];exact (rg.Bs C hC).1.rn
noncomputable def Joo (ns:List Int):Int:=ns.foldl (·*·) 1
theorem Jrs (ns:List Int) (n:Int):Joo (ns++ [n])=Joo ns*n:=by
 unfold Joo;rw [yca];rfl
inductive Sob (vs:List V) (H:Hp) (Q:VK) (z3:XK):Prop where
 |mk (l:S4) (ns:List Int) (_:vs= [.ref l]) (_:H l=some (.lst (ns.map V.int))) (_:(∀n∈ns,0<=n/\n<=1000)) (_:Q (.int (Joo ns)) H)
noncomputable def lvN (B:Bsn):Int:=B.hi - B.lo+1
noncomputable def stN (R:Riv):Int:=Joo (R.Bs.map lvN)*(R.c+1)
inductive So5 (K:Sg) (a:Ad) (vs:List V) (H:Hp) (Q:VK) (z3:XK):Prop where
 |mk (b:S4) (B:Bsn) (_:vs= [.ref b]) (_:Scb K a H b B) (_:Q (.int (lvN B)) H)
inductive Ssn (K:Sg) (a:Ad) (vs:List V) (H:Hp) (Q:VK) (z3:XK):Prop where
 |mk (o:S4) (R:Riv) (_:vs= [.ref o]) (_:Sah K a H o R) (_:(∀B∈R.Bs,0<=lvN B/\lvN B<=1000)) (_:(0<=R.c/\R.c<=12)) (_:∀H',Sl H H'->Q (.int (stN R)) H')
theorem Scw:Jm6 ["numbers","result","number"] ["numbers"] (Jm5 (top 36)):=%[|0]
theorem Jvg (T:Tx K mg a):Sv P w K mg base CX0 1 a.Jhw a.Jhx ["numbers"] Sob:=by
 refine %[T.Jd.fn.ok,Scw|2]
 ·obtain ⟨l,ns,rfl,_⟩:=h;rfl
 ·obtain ⟨l,ns,rfl,hl,hb,k⟩:=h;refine ⟨?t,?B,?C⟩
  case B=>
   refine' Jlz ?O0 ?O1
   case O0=>exact (Jmb (i:=1) Scw.nd rfl (yf rfl) Su)
   case O1=>
   refine' Jlz ?O2 ?O3
   case O2=>
    refine' Jnq ?O4 ?O5 ?O6 ?O7 ?O8
    case O4=>exact PassesOwn.never
    case O5=>exact rfl
    case O6=>exact (Jn0 (pv 0))
    case O7=>exact (Jm7 (i:=2) Scw.nd rfl (yf rfl))
    case O8=>
    refine' Jm1 ?O9
    case O9=>exact (Ya1 (i:=1) Scw.nd rfl (yf rfl) (pv 2) Ydg)
   case O3=>
   refine' Jm1 ?Oa
   case Oa=>exact (Jma (pv 1))
  refine ⟨_,rfl,l,rfl,⟨_,Sz.of hl⟩,?_⟩;refine Joj (xs:=ns.map V.int) (λi σ H'=>∃(o:Option V),σ= [some (.ref l),some (.int (Joo (ns.take i))),o]/\H'=H) ?_ ?_ ?_ ?_
  ·exact ⟨_,rfl,rfl⟩
  ·rintro i σ H' _ ⟨_,_,rfl⟩;exact Sz.of hl
  ·rintro i x σ H' hx ⟨o,rfl,rfl⟩;rw [ym] at hx;cases en:ns[i]? with
   |none=>rw [en] at hx;cases hx
   |some n=>
    rw [en] at hx;cases hx;have hn:=hb n (yr en);refine ⟨_,rfl,_,rfl,_,_,rfl,rfl,.inr ⟨by omega,by omega⟩,some (.int n),?_,rfl⟩;rw [yaa,en,show (some n).toList= [n] from rfl,Jrs];rfl
  ·rintro σ H' ⟨o,rfl,rfl⟩;rw [ye,ybn];exact ⟨_,rfl,k⟩
theorem Jvw:Jm6 ["basin"] ["basin"] (Jm5 (top 37)):=%[|0]
theorem Jp5 (T:Tx K mg a):Sv P w K mg base CX0 1 a.Jhy a.Jhz ["basin"] (So5 K a):=by
 refine %[T.Je.fn.ok,Jvw|2]
 ·obtain ⟨b,B,rfl,_⟩:=h;rfl
 ·obtain ⟨b,B,rfl,⟨dx,hb,gs⟩,k⟩:=h;refine ⟨?t,?B,?C⟩
  case B=>
   refine' Jm1 ?O0
   case O0=>exact (Jma (Jm9 Jml (Jm9 Jnk (Jmd (pv 0) (by rfl)) (Jmd (pv 0) (by rfl))) Su))
  exact ⟨_,rfl,b,_,dx,_,_,rfl,hb,T.Jen,T.Jfp,rfl,_,rfl,b,_,dx,_,_,rfl,hb,T.Jen,T.Jfo,rfl,_,_,rfl,rfl,_,_,rfl,rfl,k⟩
theorem Jsn:Jm6 ["river"] ["river"] (Jm5 (top 38)):=%[|0]
theorem Jpd (T:Tx K mg a):Sv P w K mg base CX0 2 a.Ji0 a.Ji1 ["river"] (Ssn K a):=by
 have Se3:=%[Jvg|1];have Sar:=%[Jp5|1];refine %[T.Jf.fn.ok,Jsn|2]
 ·obtain ⟨o,R,rfl,_⟩:=h;rfl
 ·obtain ⟨o,R,rfl,ro,hl,hc,k⟩:=h;refine ⟨?t,?B,?C⟩
  case B=>
   refine' Jm1 ?O0
   case O0=>exact (Jma (Jm9 Joe (Jm4 T.Jd Se3 hr (by decide) (Sm (Jmt (N:=(["basin"]:List Str)) (ini:=[none]) rfl (Jtf (Jmd (pv 0) (by rfl))) (λ_ _ _ _ _=>(Jm7 (i:=0) (by decide +kernel:(["basin"]:List Str).Nodup) rfl (yf rfl))) (λ_ _ _ _ _=>Jmq) (λ_ _ _ _ _=>(Jm4 T.Je Sar hr (by decide) (Sm (pv 0) So)))) So)) (Jm9 Jml (Jmd (pv 0) (by rfl)) Su)))
  obtain ⟨dx,b,t,os,ts,ho,hb,bl,ht,tl,n1,n2,n3⟩:=ro;have len:=bl.len;refine ⟨_,rfl,o,_,dx,_,_,rfl,ho,T.Jet,T.Jfy,rfl,b,rfl,⟨_,SqT.of hb⟩,λD hD=>?_⟩;refine Jww ((R.Bs.map lvN).map V.int) hD (by simp [len]) (by rw [ye];omega) hb ?_ ?_
  ·intro i x y H' Q' hx hy sm k';obtain ⟨ob,B,rfl,hB,ba⟩:=(bl.same sm).get hx;rw [ym,ym,hB] at hy;cases hy;exact ⟨_,rfl,ob,B,rfl,ba,k' _ λ_ _ h=>h⟩
  intro H1 s1 hD1;refine ⟨D,_,rfl,hD1,λn hn=>?_,?_⟩
  ·obtain ⟨B,hB,rfl⟩:=yo.mp hn;exact hl B hB
  exact ⟨_,rfl,o,_,dx,_,_,rfl,s1 _ _ ho,T.Jet,T.Jfw,rfl,_,_,rfl,rfl,_,_,rfl,rfl,.inr ⟨by omega,by omega⟩,k _ s1⟩
noncomputable def Sce (H:Hp) (x:V):Option (List (Int×Int))->Prop
 |none=>x= .non
 |some l=>∃(d:S4) (o:Obj),x= .ref d/\H d=some (.frz o (.dK (l.map λp=>(yp p.1,V.int p.2))))
theorem Sce.same {H H':Hp} {x:V} {sk:Option (List (Int×Int))} (s:Sl H H') (h:Sce H x sk):Sce H' x sk:=by
 cases sk with
 |none=>exact h
 |some l=>
  obtain ⟨d,o,e,h⟩:=h;exact ⟨d,o,e,s _ _ h⟩
noncomputable def SkB (R:Riv) (p:Int×Int):Prop:=0<=p.1/\∃B:Bsn,R.Bs[p.1.toNat]?=some B/\0<=p.2/\p.2 < B.n
noncomputable def Jpi (R:Riv) (sk:Option (List (Int×Int))):Prop:=∀l,sk=some l->l.length<=16/\(l.map (·.1)).Nodup/\∀p∈l,SkB R p
noncomputable def SetOf (R:Riv) (x y:V) (b:Bool):Prop:=(b=true/\∃p:Int×Int,x= .int p.1/\y= .int p.2/\SkB R p)\/(b=false/\(Jmn x 0 ((R.Bs.length:Int) - 1)=false\/∃(i:Int) (B:Bsn),x= .int i/\0<=i/\R.Bs[i.toNat]?=some B/\Jmn y 0 ((B.n:Int) - 1)=false))
inductive Ygs (K:Sg) (a:Ad) (vs:List V) (H:Hp) (Q:VK) (E:XK):Prop where
 |mk (o:S4) (R:Riv) (x y:V) (b:Bool) (_:vs= [.ref o,x,y]) (_:Sah K a H o R) (_:Tm K H x) (_:Tm K H y) (_:SetOf R x y b) (_:Q (.bl b) H)
theorem Jtj:Jm6 ["river","place","setting"] ["river","place","setting"] (Jm5 (top 33)):=%[|0]
theorem Jtb (T:Tx K mg a):Sv P w K mg base CX0 2 a.Jhq a.Jhr ["river","place","setting"] (Ygs K a):=by
 have Sa4:=%[Jnx|1];refine %[T.Ja.fn.ok,Jtj|2]
 ·obtain ⟨o,R,x,y,b,rfl,_⟩:=h;rfl
 ·obtain ⟨o,R,x,y,b,rfl,⟨dx,bb,t,os,ts,ho,hb,bl,ht,tl,n1,n2,n3⟩,tx,ty,so,k⟩:=h;refine ⟨?t,?B,?C⟩
  case B=>
   refine' Jlz ?O0 ?O1
   case O0=>
    refine' Jmr ?O2 ?O3 ?O4
    case O2=>exact (Jn3 (Jn5 (Jm4 T.J0 Sa4 hr (by decide) (Sm (pv 1) (Sm Su (Sm (Jm9 Jnk (Jm8 Jmg (by rfl) T.Jau Jnc (Sm (Jmd (pv 0) (by rfl)) So)) Su) So))))))
    case O3=>
     refine' Jm1 ?O5
     case O5=>exact (Jma Jny)
    case O4=>exact Jme
   case O1=>
   refine' Jm1 ?O6
   case O6=>exact (Jma (Jm4 T.J0 Sa4 hr (by decide) (Sm (pv 2) (Sm Su (Sm (Jm9 Jnk (Jr2 (Jmd (Jmf Jmk (Jmd (pv 0) (by rfl)) (pv 1) (λ_ _=>rfl)) (by rfl)) hr) Su) So)))))
  have len:=bl.len;have cs:(b=false/\Jmn x 0 ((R.Bs.length:Int) - 1)=false)\/∃(i:Int) (B:Bsn),x= .int i/\0<=i/\R.Bs[i.toNat]?=some B/\Jmn y 0 ((B.n:Int) - 1)=b:=by
   rcases so with ⟨rfl,⟨i,j⟩,e1,e2,i0,B,eB,j0,j1⟩|⟨rfl,e|⟨i,B,e,i0,eB,ey⟩⟩
   ·refine .inr ⟨i,B,e1,i0,eB,?_⟩;rw [e2];dsimp only at j0 j1;simp [Jmn];omega
   ·exact .inl ⟨rfl,e⟩
   ·exact .inr ⟨i,B,e,i0,eB,ey⟩
  refine ⟨_,rfl,_,rfl,o,_,dx,_,_,rfl,ho,T.Jet,T.Jfy,rfl,bb,_,rfl,.inr (SqT.of hb),_,_,rfl,rfl,x,0,_,rfl,tx,_,rfl,?_⟩;rw [ye,len];rcases cs with ⟨rfl,e⟩|⟨i,B,rfl,i0,eB,ey⟩
  ·exact ifT (by rw [e];rfl) k
  have hi:i.toNat < R.Bs.length:=(yi.mp eB).1;have hio:i.toNat < os.length:=by omega
  obtain ⟨ob,B',eo,hB,dx',hb',gs⟩:=bl.get (i:=i.toNat) (v:=.ref os[i.toNat]) (by rw [ym,yh hio];rfl);rw [eB] at hB;cases hB;refine ifF (by simp [Jmn];omega) ?_;refine ⟨_,rfl,_,rfl,o,_,dx,_,_,rfl,ho,T.Jet,T.Jfy,rfl,_,rfl,bb,_,i,_,rfl,rfl,SqT.of hb,Jrj (j:=i.toNat) (by omega) (by rw [ym,yh hio];rfl),?_⟩;rw [eo];refine ⟨ob,_,dx',_,_,rfl,hb',T.Jen,T.Jfs,rfl,Jo8 T gs ⟨_,_,rfl,rfl,y,0,_,rfl,ty,?_⟩ (by decide)⟩;rw [ey];exact k
theorem FzD.same {H H':Hp} {d:S4} {o:Obj} {kvs:List (V×V)} (s:Sl H H') (h:FzD H d o kvs):FzD H' d o kvs:=by
 obtain ⟨u,e,r⟩:=h;exact ⟨u,s _ _ e,r⟩
noncomputable def Stk (K:Sg) (H:Hp) (R:Riv) (x:V) (b:Bool):Prop:=(x= .non/\b=true)\/(∃t,TyX K H x t/\Sh K t (.type "dict")=some false/\x≠ .non/\b=false)\/
 ∃(d:S4) (o:Obj) (kvs:List (V×V)) (bs:List Bool),x= .ref d/\FzD H d o kvs/\kvs.length<=100/\bs.length=kvs.length/\(∀(i:Nat) p c,kvs[i]?=some p->bs[i]?=some c->Tm K H p.1/\Tm K H p.2/\SetOf R p.1 p.2 c)/\b=bs.all id
inductive Ycb (K:Sg) (a:Ad) (vs:List V) (H:Hp) (Q:VK) (E:XK):Prop where
 |mk (o:S4) (R:Riv) (x:V) (b:Bool) (_:vs= [.ref o,x]) (_:Sah K a H o R) (_:Stk K H R x b) (_:∀H',Sl H H'->Q (.bl b) H')
theorem Jzr:Jm6 ["river","thing"] ["river","thing"] (Jm5 (top 34)):=%[|0]
theorem Jzh (T:Tx K mg a):Sv P w K mg base CX0 3 a.Jhs a.Jht ["river","thing"] (Ycb K a):=by
 have Sed:=%[Jtb|1];refine %[T.Jb.fn.ok,Jzr|2]
 ·obtain ⟨o,R,x,b,rfl,_⟩:=h;rfl
 ·obtain ⟨o,R,x,b,rfl,ro,st,k⟩:=h;refine ⟨?t,?B,?C⟩
  case B=>
   refine' Jlz ?O0 ?O1
   case O0=>
    refine' Jmr ?O2 ?O3 ?O4
    case O2=>exact (Jmm Jvj (pv 1) Jnt (Jmp _))
    case O3=>
     refine' Jm1 ?O5
     case O5=>exact (Jma Jny)
    case O4=>exact Jme
   case O1=>
   refine' Jlz ?O6 ?O7
   case O6=>
    refine' Jmr ?O8 ?O9 ?Oa
    case O8=>exact (Jn3 (Jn5 (Jm8 Ybh (by rfl) T.Jat Jmx (Sm (pv 1) (Sm (Jor (v:=.ty "dict") (by rfl) T.Jaq Jxn rfl) So)))))
    case O9=>
     refine' Jm1 ?Ob
     case Ob=>exact (Jma Jny)
    case Oa=>exact Jme
   case O7=>
   refine' Jm1 ?Oc
   case Oc=>exact (Jma (Jm8 (Jqd rfl) (by rfl) T.Jao Juo (Sm (Jmt (N:=(["place","setting","river"]:List Str)) (ini:=[none,none,some 0]) rfl (Yc3 (pv 1)) (λ_ _ _ _ _=>(Jr3 (K:=K) (n:=2) rfl rfl (Jmh (Jm7 (i:=0) (by decide +kernel:(["place","setting","river"]:List Str).Nodup) rfl (yf rfl)) (Jmh (Jm7 (i:=1) (by decide +kernel:(["place","setting","river"]:List Str).Nodup) rfl (yf rfl)) Job)))) (λ_ _ _ _ _=>Jmq) (λ_ _ _ _ _=>(Jm4 T.Ja Sed hr (by decide) (Sm (pv 2) (Sm (pv 0) (Sm (pv 1) So)))))) So)))
  rcases st with ⟨rfl,rfl⟩|⟨t,ty,e,nn,rfl⟩|⟨d,ob,kvs,bs,rfl,fz,l100,bl,bs',rfl⟩
  ·exact ⟨_,rfl,rfl,_,rfl,Jr6 rfl (k _ λ_ _ h=>h)⟩
  ·refine ⟨_,rfl,rfl,_,rfl,Jq5 nn ?_⟩;exact ⟨_,rfl,x,rfl,.inr ⟨t,ty,e,_,rfl,Jo2 (k _ (Sl.refl _))⟩⟩
  ·refine ⟨_,rfl,rfl,_,rfl,Jq5 (λz=>by cases z) ?_⟩;refine ⟨_,rfl,.ref d,rfl,.inl ⟨d,kvs,rfl,.inl ⟨ob,fz⟩,_,rfl,Jn9 ?_⟩⟩;refine ⟨_,rfl,d,ob,kvs,rfl,fz,λD hD=>?_⟩;refine Jz5 (λi σ H'=>(∃o1 o2,σ= [o1,o2,some (.ref o)])/\Sl H H'/\H' D=some (.lst ((bs.take i).map V.bl))) ⟨⟨_,_,rfl⟩,Sl.upd hD,Sr⟩ (λi σ H' _ ⟨_,sm,_⟩=>FzD.same sm fz) ?_ ?_
   ·rintro i kx x σ H' Ta hx ⟨⟨o1,o2,rfl⟩,sm,hDs⟩ hT;have lt:i < kvs.length:=(yi.mp hx).1;have hb:bs[i]?=some bs[i]:=yh (by omega);obtain ⟨t1,t2,so⟩:=bs' i _ _ hx hb;have sT:=Sl.upd (o:=.tup [kx,x]) hT;have smT:=sm.trans sT;refine ⟨Ta,_,rfl,SqT.of Sr,rfl,_,_,rfl,_,_,rfl,rfl,?_⟩;refine ⟨_,rfl,_,rfl,_,rfl,o,R,kx,x,bs[i],rfl,ro.same smT,t1.same smT,t2.same smT,so,_,sT _ _ hDs,?_,⟨_,_,rfl⟩,?_,?_⟩
    ·rw [ye,yaf];exact Jmo (by omega)
    ·exact λc u e=>by
      rw [Sx (Jm2 e hD)];exact smT _ _ e
    ·rw [Sr,yaa,hb,yaj];rfl
   ·rintro σ H' ⟨_,sm,hDs⟩;rw [yah (by omega)] at hDs;exact ⟨D,_,rfl,Sz.of hDs,k _ sm⟩
noncomputable def rgI (n:Nat):List Int:=(yaw n).map λk:Nat=>(k:Int)
noncomputable def Jnv (R:Riv) (sk:Option (List (Int×Int))):List (List Int):=(sk.getD []).foldl (λrs p=>rs.set p.1.toNat [p.2]) (R.Bs.map λB=>rgI B.n)
noncomputable def RwL (H:Hp) (D:S4) (vs:List V) (rs:List (List Int)):Prop:=vs.length=rs.length/\∀(i:Nat) (v:V) (r:List Int),vs[i]?=some v->rs[i]?=some r->∃q,v= .ref q/\q≠D/\H q=some (.lst (r.map V.int))
theorem RwL.on {H H':Hp} {D:S4} {vs:List V} {rs:List (List Int)} (f:∀q u,q≠D->H q=some u->H' q=some u) (h:RwL H D vs rs):RwL H' D vs rs:=by
 refine ⟨h.1,λi v r e1 e2=>?_⟩;obtain ⟨q,rfl,n,g⟩:=h.2 i v r e1 e2;exact ⟨q,rfl,n,f _ _ n g⟩
theorem RwL.snoc {H:Hp} {D q:S4} {vs:List V} {rs:List (List Int)} {r:List Int} (h:RwL H D vs rs) (n:q≠D) (g:H q=some (.lst (r.map V.int))):RwL H D (vs++ [.ref q]) (rs++ [r]):=by
 refine ⟨by rw [yad,yad,h.1];rfl,λi v r' e1 e2=>?_⟩;rw [ycp] at e1 e2;have l:=h.1;by_cases c:i < vs.length
 ·rw [if_pos c] at e1;rw [if_pos (by omega)] at e2;exact h.2 i v r' e1 e2
 ·rw [if_neg c] at e1;rw [if_neg (by omega)] at e2;rw [l] at e1;have z:i - rs.length=0:=by
   have:=(yi.mp e2).1;simp at this;omega
  rw [z] at e1 e2;cases e1;cases e2;exact ⟨q,rfl,n,g⟩
theorem RwL.set {H:Hp} {D q:S4} {vs:List V} {rs:List (List Int)} {r:List Int} {j:Nat} (h:RwL H D vs rs) (n:q≠D) (g:H q=some (.lst (r.map V.int))):RwL H D (vs.set j (.ref q)) (rs.set j r):=by
 refine ⟨by rw [ybx,ybx,h.1],λi v r' e1 e2=>?_⟩;have l:=h.1;rw [yct] at e1 e2;by_cases c:j=i
 ·rw [if_pos c] at e1 e2;split at e1
  ·rw [if_pos (by omega)] at e2;cases e1;cases e2;exact ⟨q,rfl,n,g⟩
  ·cases e1
 ·rw [if_neg c] at e1 e2;exact h.2 i v r' e1 e2
theorem Yfi {n j:Nat} (h:j < n):ixN n (j:Int)=some j:=by
 unfold ixN;rw [if_pos (by omega),if_pos (by omega)];rfl
inductive Ssk (K:Sg) (a:Ad) (vs:List V) (H:Hp) (Q:VK) (z3:XK):Prop where
 |mk (o:S4) (R:Riv) (x:V) (sk:Option (List (Int×Int))) (_:vs= [.ref o,x]) (_:Sah K a H o R) (_:Sce H x sk) (_:Jpi R sk) (_:∀(l:S4) (us:List V) (H':Hp),H l=none->Sl H H'->H' l=some (.lst us)->RwL H' l us (Jnv R sk)->Q (.ref l) H')
theorem GS.le {K:Sg} {a:Ad} {H:Hp} {x:V} {n:Nat} (h:GS K a H x n):n<=4:=by
 cases h with
 |plain _ _ l=>exact l
 |stuck _=>decide
theorem Sba:Jm6 ["river","stuck","let","place","setting"] ["river","stuck"] (Jm5 (top 35)):=%[|0]
theorem Jq2 (T:Tx K mg a):Sv P w K mg base CX0 2 a.Jhu a.Jhv ["river","stuck"] (Ssk K a):=by
 refine %[T.Jc.fn.ok,Sba|2]
 ·obtain ⟨o,R,x,sk,rfl,_⟩:=h;rfl
 ·obtain ⟨o,R,x,sk,rfl,⟨dx,b,t,os,ts,ho,hb,bl,ht,tl,n1,n2,n3⟩,sa,so,k⟩:=h;refine ⟨?t,?B,?C⟩
  case B=>
   refine' Jlz ?O0 ?O1
   case O0=>exact (Jsi (i:=2) (N:=(["basin"]:List Str)) (ini:=[none]) Sba.nd rfl (yf rfl) rfl (Jtf (Jmd (pv 0) (by rfl))) (λ_ _ _ _ _=>(Jm7 (i:=0) (by decide +kernel:(["basin"]:List Str).Nodup) rfl (yf rfl))) (λ_ _ _ _ _=>Jmq) (λ_ _ _ _ _=>(Jms (Jpj rfl) (by rfl) T.Jav Joq (Sm (Jms Jsx (by rfl) T.Jay Juq (Sm (Yv (P:=P) (w:=w) (K:=K) (mg:=mg) (base:=base) rfl rfl rfl rfl rfl (Joa (K:=K) rfl (pv 0) (by rfl)) hr) So)) So))))
   case O1=>
   refine' Jlz ?O2 ?O3
   case O2=>
    refine' Jmr ?O4 ?O5 ?O6
    case O4=>exact (Jmm Jy9 (pv 1) Jnt (Jmp _))
    case O5=>
     refine' Jm1 ?O7
     case O7=>
     refine' Jnq ?O8 ?O9 ?Oa ?Ob ?Oc
     case O8=>exact PassesOwn.never
     case O9=>exact rfl
     case Oa=>exact (Ydq (pv 1))
     case Ob=>exact (Jrr rfl (Jmh (Jm7 (i:=3) Sba.nd rfl (yf rfl)) (Jmh (Jm7 (i:=4) Sba.nd rfl (yf rfl)) Job)))
     case Oc=>
     refine' Jm1 ?Od
     case Od=>exact (Ya0 (Jmy (Sm (pv 4) So)) (Yx (pv 2) (pv 3) Jsp))
    case O6=>exact Jme
   case O3=>
   refine' Jm1 ?Oe
   case Oe=>exact (Jma (pv 2))
  have len:=bl.len;refine ⟨_,rfl,o,_,dx,_,_,rfl,ho,T.Jet,T.Jfy,rfl,b,rfl,⟨_,SqT.of hb⟩,λD hD=>?_⟩;refine Jz6 (K:=K) (a:=b) (xs:=os.map V.ref) (D:=D) (λi σ H'=>∃(q:Option V) (us:List V),σ= [q]/\H' D=some (.lst us)/\RwL H' D us ((R.Bs.take i).map λB=>rgI B.n)/\Sl H H') ?_ ?_ ?_ ?_
  ·exact ⟨_,[],rfl,Sr,⟨rfl,λi v r e=>by simp at e⟩,Sl.upd hD⟩
  ·rintro i σ H' _ ⟨_,_,_,_,_,sm⟩;exact SqT.of (sm _ _ hb)
  ·rintro i x σ H' hx ⟨q,us,rfl,hDs,rw_,sm⟩;have hi:i < os.length:=by
    have:=(yi.mp hx).1
    rwa [ye] at this
   obtain ⟨ob,B,rfl,hB,dx',hb',gs⟩:=(bl.same sm).get hx;have h4:=gs.le;refine Jna ⟨_,rfl,ob,_,dx',_,_,rfl,hb',T.Jen,T.Jfs,rfl,Jo8 T gs ⟨_,rfl,λp hp=>⟨p,_,_,rfl,Sr,by omega,by omega,by omega,by omega,λl hl=>?_⟩⟩ (by decide)⟩;have er:((yaw ((B.n:Int) - 0).toNat).map λk:Nat=>V.int (0+k))=(rgI B.n).map V.int:=by
    unfold rgI;rw [yas,Int.sub_zero,yav];exact List.map_congr_left λk _=>by simp
   rw [er];have s1:=Sl.upd (o:=.rng 0 (B.n:Int)) hp;have s2:=Sl.upd (o:=.lst ((rgI B.n).map V.int)) hl;have hD2:=s2 _ _ (s1 _ _ hDs);have nl:l≠D:=λz=>by
    rw [z,s1 _ _ hDs] at hl;cases hl
   refine ⟨us,hD2,?_,_,us++ [.ref l],rfl,Sr,?_,λc u e=>?_⟩
   ·have:=rw_.1;rw [ye,yaf] at this;exact Jmo (by omega)
   ·rw [yaa,hB,yaj];refine RwL.snoc (RwL.on (λq u n g=>?_) rw_) nl (by rw [Sx nl];exact Sr);rw [Sx n];exact s2 _ _ (s1 _ _ g)
   ·rw [Sx (Jm2 e hD)];exact s2 _ _ (s1 _ _ (sm _ _ e))
  rintro σ H1 ⟨_,us,_,hDs,rw_,sm⟩;rw [yah (by rw [ye];omega)] at rw_;cases sk with
  |none=>
   cases sa;exact ⟨_,rfl,rfl,_,rfl,ifF (by simp) ⟨_,rfl,k D us H1 hD sm hDs rw_⟩⟩
  |some l=>
   obtain ⟨d,ob,rfl,hd⟩:=sa;obtain ⟨l16,lnd,lok⟩:=so l rfl;refine ⟨_,rfl,rfl,_,rfl,ifT (by simp) ?_⟩;refine ⟨_,rfl,d,ob,_,rfl,sm _ _ hd,?_⟩;refine Ybq (λi σ H'=>∃(o3 o4:Option V) (us:List V),σ= [some (.ref o),some (.ref d),some (.ref D),o3,o4]/\H' D=some (.lst us)/\us.length=R.Bs.length/\RwL H' D us (Jnv R (some (l.take i)))/\Sl H H') ?_ ?_ ?_ ?_
   ·exact ⟨_,_,us,rfl,hDs,by rw [rw_.1,ye],rw_,sm⟩
   ·rintro i σ H' _ ⟨_,_,_,_,_,_,_,sm⟩;exact sm _ _ hd
   ·rintro i kk x σ H' Ta hx ⟨o3,o4,us,rfl,hDs,ul,rw_,sm⟩ hT;rw [ym] at hx;cases ep:l[i]? with
    |none=>rw [ep] at hx;cases hx
    |some p=>
     rw [ep] at hx;cases hx;have sT:=Sl.upd (o:=.tup [kV (.inl p.1),V.int p.2]) hT;obtain ⟨p0,B,eB,_⟩:=lok p (yr ep);have hp:p.1.toNat < R.Bs.length:=(yi.mp eB).1;refine ⟨Ta,_,rfl,SqT.of Sr,rfl,_,_,rfl,_,_,rfl,rfl,?_⟩;refine ⟨_,rfl,(show 1<=S9 by decide),λq hq=>?_⟩;have s2:=Sl.upd (o:=.lst [V.int p.2]) hq;have hD2:=s2 _ _ (sT _ _ hDs);have nq:q≠D:=λz=>by
      rw [z,sT _ _ hDs] at hq;cases hq
     refine ⟨_,rfl,_,rfl,D,us,p.1,p.1.toNat,rfl,rfl,hD2,?_,_,_,us.set p.1.toNat (.ref q),rfl,Sr,by rw [ybx,ul],?_,λc u e=>?_⟩
     ·have:=Yfi (n:=us.length) (j:=p.1.toNat) (by omega)
      rwa [Int.toNat_of_nonneg p0] at this
     ·have ef:Jnv R (some (l.take (i+1)))=(Jnv R (some (l.take i))).set p.1.toNat [p.2]:=by
       unfold Jnv;show List.foldl _ _ (l.take (i+1))=List.set (List.foldl _ _ (l.take i)) _ _;rw [yaa,ep,yca];rfl
      rw [ef];refine RwL.on (λb u n g=>by rw [Sx n];exact g) (RwL.set (RwL.on (λb u n g=>s2 _ _ (sT _ _ g)) rw_) nq Sr)
     ·rw [Sx (Jm2 e hD)];exact s2 _ _ (sT _ _ (sm _ _ e))
   ·rintro σ H2 ⟨o3,o4,us,rfl,hDs,ul,rw_,sm⟩;rw [ye,ybn] at rw_;exact ⟨_,rfl,k D us H2 hD sm hDs rw_⟩
theorem Jv5 (R:Riv) (sk:Option (List (Int×Int))) (h:∀B∈R.Bs,B.n<=4):∀r∈Jnv R sk,r.length<=4:=by
 unfold Jnv;have go:∀(l:List (Int×Int)) (rs:List (List Int)),(∀r∈rs,r.length<=4)->∀r∈l.foldl (λrs p=>rs.set p.1.toNat [p.2]) rs,r.length<=4:=by
  intro l
  induction l with
  |nil=>exact λrs h=>h
  |cons p l ih=>
   intro rs h;refine ih _ λr hr=>?_;rcases ycy hr with hr|rfl
   ·exact h r hr
   ·exact (show 1<=4 by decide)
 refine go _ _ λr hr=>?_;obtain ⟨B,hB,rfl⟩:=yo.mp hr;unfold rgI;rw [ye,ybm];exact h B hB
theorem Sbx.n4 {K:Sg} {a:Ad} {H:Hp} {os:List S4} {Bs:List Bsn} (h:Sbx K a H os Bs):∀B∈Bs,B.n<=4:=λB hB=>by
 obtain ⟨i,hi⟩:=ybl hB;have lt:i < os.length:=by
  rw [h.len];exact (yi.mp hi).1
 obtain ⟨ob,B',_,e,dx,_,gs⟩:=h.get (i:=i) (v:=.ref os[i]) (by rw [ym,yh lt];rfl);rw [hi] at e;cases e;exact gs.le
noncomputable def chN (R:Riv) (sk:Option (List (Int×Int))):Int:=Joo ((Jnv R sk).map λr=>(r.length:Int))*(R.Ts.length+1)
inductive Ssj (K:Sg) (a:Ad) (vs:List V) (H:Hp) (Q:VK) (z3:XK):Prop where
 |mk (o:S4) (R:Riv) (x:V) (sk:Option (List (Int×Int))) (_:vs= [.ref o,x]) (_:Sah K a H o R) (_:Sce H x sk) (_:Jpi R sk) (_:∀H',Sl H H'->Q (.int (chN R sk)) H')
theorem Ju7:Jm6 ["river","stuck"] ["river","stuck"] (Jm5 (top 39)):=%[|0]
theorem Ju5 (T:Tx K mg a):Sv P w K mg base CX0 3 a.Ji2 a.Ji3 ["river","stuck"] (Ssj K a):=by
 have Se3:=%[Jvg|1];have Sc0:=%[Jq2|1];refine %[T.Jg.fn.ok,Ju7|2]
 ·obtain ⟨o,R,x,sk,rfl,_⟩:=h;rfl
 ·obtain ⟨o,R,x,sk,rfl,ro,sa,so,k⟩:=h;refine ⟨?t,?B,?C⟩
  case B=>
   refine' Jm1 ?O0
   case O0=>exact (Jma (Jm9 Joe (Jm4 T.Jd Se3 hr (by decide) (Sm (Jmt (N:=(["settings"]:List Str)) (ini:=[none]) rfl (Jn0 (Jm4 T.Jc Sc0 hr (by decide) (Sm (pv 0) (Sm (pv 1) So)))) (λ_ _ _ _ _=>(Jm7 (i:=0) (by decide +kernel:(["settings"]:List Str).Nodup) rfl (yf rfl))) (λ_ _ _ _ _=>Jmq) (λ_ _ _ _ _=>(Jm8 (Jw6 (K:=K) rfl) (by rfl) T.Jau Jnc (Sm (pv 0) So)))) So)) (Jm9 Jml (Jm8 Jmg (by rfl) T.Jau Jnc (Sm (Jmd (pv 0) (by rfl)) So)) Su)))
  refine ⟨_,rfl,_,rfl,o,R,x,sk,rfl,ro,sa,so,λl us H1 hl s1 hl1 rw_=>?_⟩;obtain ⟨dx,b,t,os,ts,ho,hb,bl,ht,tl,n1,n2,n3⟩:=ro;have r4:=Jv5 R sk bl.n4;refine ⟨l,rfl,⟨_,Sz.of hl1⟩,λD hD=>?_⟩;have ll:(Jnv R sk).length=R.Bs.length:=by
   unfold Jnv;have go:∀(l:List (Int×Int)) (rs:List (List Int)),(l.foldl (λrs p=>rs.set p.1.toNat [p.2]) rs).length=rs.length:=by
    intro l
    induction l with
    |nil=>exact λrs=>rfl
    |cons p l ih=>exact λrs=>(ih _).trans ybx
   rw [go,ye]
  have ul:us.length=R.Bs.length:=by rw [rw_.1,ll]
  have bll:=bl.len;refine Y9 (((Jnv R sk).map λr=>(r.length:Int)).map V.int) hD (by rw [ye,ye];omega) (by omega) hl1 ?_ ?_
  ·intro i x y H' Q' hx hy sm k';rw [ym,ym] at hy;cases er:(Jnv R sk)[i]? with
   |none=>rw [er] at hy;cases hy
   |some r=>
    rw [er] at hy;cases hy;obtain ⟨q,rfl,_,g⟩:=rw_.2 i x r hx er;refine ⟨_,rfl,q,_,rfl,.inl (Sz.of (sm _ _ g)),?_⟩;rw [ye];exact k' _ λ_ _ h=>h
  intro H2 s2 hD2;have s02:=s1.trans s2;refine ⟨D,_,rfl,hD2,λn hn=>?_,?_⟩
  ·obtain ⟨r,hr',rfl⟩:=yo.mp hn;have:=r4 r hr';omega
  have tln:=tl.len;refine ⟨_,rfl,o,_,dx,_,_,rfl,s02 _ _ ho,T.Jet,T.Jfz,rfl,t,_,rfl,.inr (SqT.of (s02 _ _ ht)),_,_,rfl,rfl,_,_,rfl,rfl,.inr ?_,?_⟩
  ·rw [ye];omega
  ·rw [ye,tln];exact k _ s02
theorem Ycx (xs:List V) (i j:Nat):Jpp xs (some (i:Int)) (some (j:Int))=(xs.drop i).take (j - i):=by
 unfold Jpp;rw [HT.sIx_nat,HT.sIx_nat];rcases Nat.le_total i xs.length with h|h
 ·rw [yci h];rcases Nat.le_total j xs.length with h'|h'
  ·rw [yci h']
  ·rw [Nat.min_eq_right h',yah (by rw [ybq];exact yg _),yah (by rw [ybq];omega)]
 ·rw [Nat.min_eq_right h,List.drop_of_length_le (yg _),List.drop_of_length_le h,List.take_nil,List.take_nil]
noncomputable def wsC (rn:Nat) (ws:List Int) (k:Nat):List Int:=(ws.drop (k - rn)).take (k+1 - (k - rn))
noncomputable def wsS (c rn:Nat) (ws:List Int):List Int:=(yaw (c+1)).map λk=>(wsC rn ws k).sum
noncomputable def wsN (R:Riv) (i:Nat):List Int:=(R.Bs.take i).foldl (λws B=>wsS R.c.toNat B.rn.toNat ws) (1::yae R.c.toNat 0)
noncomputable def rrN (R:Riv):Int:=(wsN R R.Bs.length).sum
theorem Jun (c rn:Nat) (ws:List Int):(wsS c rn ws).length=c+1:=by
 unfold wsS;rw [ye,ybm]
noncomputable def WsB (c:Nat) (b:Int) (ws:List Int):Prop:=ws.length=c+1/\∀x∈ws,0<=x/\x<=b
theorem Yes {b:Int} (b0:0<=b):∀(ws:List Int),(∀x∈ws,0<=x/\x<=b)->0<=ws.sum/\ws.sum<=ws.length*b:=by
 intro ws
 induction ws with
 |nil=>exact λ_=>by simp
 |cons x ws ih=>
  intro h;have h1:=h x yab;have h2:=ih λy hy=>h y (yz _ hy);rw [List.sum_cons,yag];have e:(((ws.length+1:Nat):Int))*b=ws.length*b+b:=by
   rw [Int.natCast_add,Int.add_mul];simp
  rw [e];omega
theorem WsB.step {c rn:Nat} {b:Int} {ws:List Int} (hc:c<=12) (b0:0<=b) (h:WsB c b ws):WsB c (13*b) (wsS c rn ws):=by
 refine ⟨Jun _ _ _,λx hx=>?_⟩;unfold wsS at hx;obtain ⟨k,_,rfl⟩:=yo.mp hx;have hs:∀y∈wsC rn ws k,0<=y/\y<=b:=λy hy=>h.2 y (List.mem_of_mem_drop (ycs hy));have q:=Yes b0 _ hs;refine ⟨q.1,ybh q.2 (Int.mul_le_mul_of_nonneg_right ?_ b0)⟩;have:(wsC rn ws k).length<=ws.length:=by
  unfold wsC;rw [yaf,ybq];omega
 have:=h.1;omega
theorem Jw4 (R:Riv) {i:Nat} {B:Bsn} (h:R.Bs[i]?=some B):wsN R (i+1)=wsS R.c.toNat B.rn.toNat (wsN R i):=by
 unfold wsN;rw [yaa,h,yca];rfl
theorem Slc (R:Riv) (hc:R.c.toNat<=12):∀i,i<=R.Bs.length->WsB R.c.toNat (13^i) (wsN R i):=by
 intro i
 induction i with
 |zero=>
  intro _;refine ⟨by show (1::yae R.c.toNat 0).length=_;simp,λx hx=>?_⟩;have hx':x∈(1::yae R.c.toNat (0:Int)):=hx;rcases yq.mp hx' with rfl|hx'
  ·decide
  ·rw [(List.mem_replicate.mp hx').2];decide
 |succ i ih=>
  intro h;obtain ⟨B,hB⟩:∃B,R.Bs[i]?=some B:=⟨R.Bs[i],yh (by omega)⟩;rw [Jw4 R hB,Int.pow_succ,Int.mul_comm];exact WsB.step hc (Int.le_of_lt (Int.pow_pos (by decide))) (ih (by omega))
theorem Smi (ws:List Int) {rn:Int} (h0:0<=rn) (j:Nat):Jpp (ws.map V.int) (some (if (0:Int) > 0+(j:Int) - rn then 0 else 0+(j:Int) - rn)) (some (0+(j:Int)+1))=(wsC rn.toNat ws j).map V.int:=by
 have e1:(if (0:Int) > 0+(j:Int) - rn then 0 else 0+(j:Int) - rn)=((j - rn.toNat:Nat):Int):=by
  split <;> omega
 have e2:(0+(j:Int)+1)=((j+1:Nat):Int):=by omega
 rw [e1,e2,Ycx];unfold wsC;rw [List.map_take,List.map_drop]
theorem Sld {c rn:Nat} {ws:List Int} {j:Nat} {y:V} (h:((wsS c rn ws).map V.int)[j]?=some y):y= .int (wsC rn ws j).sum:=by
 have hj:=(yi.mp h).1;rw [ye,Jun] at hj;rw [ym] at h;unfold wsS at h;rw [ym,ycj hj] at h;exact (yac.inj h).symm
theorem Ybb {rn:Nat} {ws:List Int} {j:Nat} (h:Sml ws):Sml (wsC rn ws j):=by
 refine ⟨?_,λn hn=>h.2 n (List.mem_of_mem_drop (ycs hn))⟩;have:=h.1;unfold wsC;rw [yaf,ybq];omega
inductive Ssm (K:Sg) (a:Ad) (vs:List V) (H:Hp) (Q:VK) (z3:XK):Prop where
 |mk (o:S4) (R:Riv) (_:vs= [.ref o]) (_:Sah K a H o R) (_:R.Bs.length<=12) (_:(0<=R.c/\R.c<=12)) (_:∀H',Sl H H'->Q (.int (rrN R)) H')
theorem Sl0:∀i,i < 13->(13:Int)^i<=23298085122481:=by decide
theorem Jst {R:Riv} (hc:R.c.toNat<=12) {i:Nat} (h:i<=R.Bs.length) (h4:R.Bs.length<=12):Sml (wsN R i)/\∀x∈wsN R i,0<=x/\x<=23298085122481:=by
 obtain ⟨l,b⟩:=Slc R hc i h;have p:=Sl0 i (by omega);refine ⟨⟨by omega,λn hn=>?_⟩,λx hx=>?_⟩
 ·have:=b n hn;omega
 ·have:=b x hx;omega
theorem Sav:Jm6 ["river","with_sum","basin"] ["river"] (Jm5 (top 40)):=%[|0]
theorem Jsf (T:Tx K mg a):Sv P w K mg base CX0 1 a.Ji4 a.Ji5 ["river"] (Ssm K a):=by
 refine %[T.Jh.fn.ok,Sav|2]
 ·obtain ⟨o,R,rfl,_⟩:=h;rfl
 ·obtain ⟨o,R,rfl,⟨dx,b,t,os,ts,ho,hb,bl,ht,tl,n1,n2,n3⟩,h4,hc,k⟩:=h;refine ⟨?t,?B,?C⟩
  case B=>
   refine' Jlz ?O0 ?O1
   case O0=>exact (Jmb (i:=1) Sav.nd rfl (yaq rfl) (Jm9 Jte (Jmy (Sm Su So)) (Jmt (N:=(["cube"]:List Str)) (ini:=[none]) rfl (Jns (by rfl) T.Jay (Sm (Jmd (pv 0) (by rfl)) So)) (λ_ _ _ _ _=>(Jm7 (i:=0) (by decide +kernel:(["cube"]:List Str).Nodup) rfl (yf rfl))) (λ_ _ _ _ _=>Jmq) (λ_ _ _ _ _=>Su))))
   case O1=>
   refine' Jlz ?O2 ?O3
   case O2=>
    refine' Jnq ?O4 ?O5 ?O6 ?O7 ?O8
    case O4=>exact PassesOwn.never
    case O5=>exact rfl
    case O6=>exact (Jtf (Jmd (pv 0) (by rfl)))
    case O7=>exact (Jm7 (i:=2) Sav.nd rfl (yaq rfl))
    case O8=>
    refine' Jm1 ?O9
    case O9=>exact (Jmb (i:=1) Sav.nd rfl (yaq rfl) (Jmt (N:=(["cubes","with_sum","basin"]:List Str)) (ini:=[none,some 1,some 2]) rfl (Jns (by rfl) T.Jay (Sm (Jm9 Jml (Jmd (pv 0) (by rfl)) Su) So)) (λ_ _ _ _ _=>(Jm7 (i:=0) (by decide +kernel:(["cubes","with_sum","basin"]:List Str).Nodup) rfl (yf rfl))) (λ_ _ _ _ _=>Jmq) (λ_ _ _ _ _=>(Jm8 (Jqw (K:=K) rfl rfl) (by rfl) T.Jb2 Jqc (Sm (Jov (Jsq (K:=K) rfl) (pv 1) (Jon (Jm8 (Jpm rfl) (by rfl) T.Jaw Jup (Sm (Jm9 Jnk (pv 0) (Joa (K:=K) rfl (pv 2) (by rfl))) (Sm Su So)))) (Jon (Jm9 Jml (pv 0) Su))) So)))))
   case O3=>
   refine' Jm1 ?Oa
   case Oa=>exact (Jma (Jm8 (Jqe rfl) (by rfl) T.Jb2 Jqc (Sm (pv 1) So)))
  have hc12:R.c.toNat<=12:=by omega
  have len:=bl.len;refine ⟨(show 1<=S9 by decide),λl1 hl1=>?_⟩;have s1:=Sl.upd (o:=.lst [V.int 1]) hl1;refine ⟨_,rfl,o,_,dx,_,_,rfl,s1 _ _ ho,T.Jet,T.Jfw,rfl,_,rfl,by omega,by omega,λD hD=>?_⟩;refine Jsz ((yae R.c.toNat (0:Int)).map V.int) hD (by simp) (by omega) (λi y H' Q' hy sm k'=>?_) ?_
  ·rw [ym] at hy;obtain ⟨z,hz,rfl⟩:=ybc.mp hy;rw [(List.mem_replicate.mp (yr hz)).2] at k';exact k' _ (Sl.refl _)
  intro H2 s2 hDs;have hz: [V.int 1].length+((yae R.c.toNat (0:Int)).map V.int).length<=S9:=Jn4 _ (by rw [ye,ycl];show 1+_<=2000;omega);refine ⟨l1,D,_,_,rfl,rfl,s2 _ _ Sr,hDs,hz,λq0 hq0=>?_⟩;have s12:=s1.trans s2;have e0: [V.int 1]++(yae R.c.toNat (0:Int)).map V.int=(wsN R 0).map V.int:=by
   rfl
  rw [e0];have s3:=Sl.upd (o:=.lst ((wsN R 0).map V.int)) hq0;have s13:=s12.trans s3;refine ⟨_,rfl,o,_,dx,_,_,rfl,s13 _ _ ho,T.Jet,T.Jfy,rfl,b,rfl,⟨_,SqT.of (s13 _ _ hb)⟩,?_⟩;refine Jub (K:=K) (a:=b) (xs:=os.map V.ref) (λi σ H'=>∃(q:S4) (o2:Option V),σ= [some (.ref o),some (.ref q),o2]/\H' q=some (.lst ((wsN R i).map V.int))/\Sl H H') ?_ ?_ ?_ ?_
  ·exact ⟨q0,_,rfl,Sr,s13⟩
  ·rintro i σ H' _ ⟨_,_,_,_,sm⟩;exact SqT.of (sm _ _ hb)
  ·rintro i x σ H' hx ⟨q,o2,rfl,hq,sm⟩;obtain ⟨ob,B,rfl,hB,dx',hb',gs⟩:=(bl.same sm).get hx;have hi:i < R.Bs.length:=(yi.mp hB).1;obtain ⟨sml,wb⟩:=Jst (R:=R) hc12 (i:=i) (by omega) h4;have hrn:=n3 B (yr hB);refine ⟨_,rfl,o,_,dx,_,_,rfl,sm _ _ ho,T.Jet,T.Jfw,rfl,_,_,rfl,rfl,_,rfl,by omega,by omega,λD2 hD2=>?_⟩;refine Jsz ((wsS R.c.toNat B.rn.toNat (wsN R i)).map V.int) hD2 (by rw [ye,Jun];omega) (by omega) (λj y H2 Q' hy sm2 k'=>?_) ?_
   ·have hj:=Sld hy;cases hj;refine ⟨_,rfl,_,rfl,_,rfl,ob,_,dx',_,_,rfl,sm2 _ _ hb',T.Jen,T.Jfr,rfl,_,_,rfl,rfl,_,_,rfl,_,rfl,_,rfl,_,_,rfl,rfl,_,rfl,q,_,rfl,Sz.of (sm2 _ _ hq),λp hp=>?_⟩;rw [Smi _ hrn.1];exact ⟨p,_,rfl,.inl (Sz.of Sr),Ybb sml,k' _ (Sl.upd hp)⟩
   ·intro H2 sm2 hDs2;refine ⟨D2,_,rfl,?_,sm.trans sm2⟩;rw [Jw4 R hB];exact hDs2
  ·rintro σ H' ⟨q,o2,rfl,hq,sm⟩;rw [ye,len] at hq;exact ⟨_,rfl,q,_,rfl,.inl (Sz.of hq),(Jst hc12 (yg _) h4).1,k _ sm⟩
noncomputable def wgN (R:Riv) (sk:Option (List (Int×Int))):Int:=stN R*chN R sk*rrN R
structure Y0 (R:Riv):Prop where
 n:R.Bs.length<=12
 lv:∀B∈R.Bs,0<=lvN B/\lvN B<=13
 c:0<=R.c/\R.c<=12
inductive Ygv (K:Sg) (a:Ad) (vs:List V) (H:Hp) (Q:VK) (E:XK):Prop where
 |mk (o:S4) (R:Riv) (x:V) (_:vs= [.ref o,x]) (_:Sah K a H o R) (_:((∃sk,Sce H x sk/\Jpi R sk/\Y0 R/\∀H',Sl H H'->Q (.int (wgN R sk)) H')\/(Stk K H R x false/\∀cl eo H',RfC a.Jlj H H' x cl eo->E cl eo H')))
inductive RfN (C:S4) (H H':Hp) (x:V) (c:S5) (eo:Option S4):Prop where
 |mk (e:_) (dx:_) (_:c= .ref C) (_:eo=some e) (_:Sl H H') (_:H' e=some (XO e C (some dx) false)) (_:H' dx=some (XD dx [("count",x)]))
theorem RfN.of {C:S4} {H H1 H':Hp} {x:V} {c:S5} {eo:Option S4} (s:Sl H H1) (h:RfN C H1 H' x c eo):RfN C H H' x c eo:=by
 obtain ⟨e,dx,h1,h2,h3,h4,h5⟩:=h;exact ⟨e,dx,h1,h2,s.trans h3,h4,h5⟩
theorem RfN.new {C:S4} {H:Hp} {x:V} {e dx:S4} (h1:H e=none) (h2:H dx=none) (ne:dx≠e):RfN C H (upd (upd (upd H dx (XD dx [("count",x)])) e (XO e C (some dx) true)) e (XO e C (some dx) false)) x (.ref C) (some e):=by
 refine ⟨e,dx,rfl,rfl,?_,Sr,?_⟩
 ·rw [Jnr];intro b o q;rw [Sx (Jm2 q h1),Sx (Jm2 q h2)];exact q
 ·rw [Sx ne,Sx ne,Sr]
inductive Ygj (a:Ad) (vs:List V) (H:Hp) (Q:VK) (E:XK):Prop where
 |mk (n:Int) (_:vs= [.int n]) (_:((n<=4000/\Q .non H)\/(4000 < n/\∀cl eo H',RfN a.Jlh H H' (.int n) cl eo->E cl eo H')))
theorem Ye8 {R:Riv} (h4:R.Bs.length<=12) (hc:0<=R.c/\R.c<=12):0<=rrN R/\rrN R<=302875106592253:=by
 have hc12:R.c.toNat<=12:=by omega
 have hb:=(Jst hc12 (yg R.Bs.length) h4).2;have q:=Yes (b:=23298085122481) (by decide) _ hb;have l:=(Slc R hc12 _ (yg R.Bs.length)).1;unfold rrN;rw [l] at q;omega
theorem Jye {b:Int} (b1:1<=b):∀(ns:List Int),(∀n∈ns,0<=n/\n<=b)->0<=Joo ns/\Joo ns<=b^ns.length:=by
 have go:∀(ns:List Int) (c A:Int),0<=c->c<=A->(∀n∈ns,0<=n/\n<=b)->0<=ns.foldl (·*·) c/\ns.foldl (·*·) c<=A*b^ns.length:=by
  intro ns
  induction ns with
  |nil=>
   intro c A c0 cA _;rw [List.length_nil,Int.pow_zero,Int.mul_one];exact ⟨c0,cA⟩
  |cons n ns ih=>
   intro c A c0 cA h;have h2:=h n yab;have q:=ih (c*n) (A*b) (Int.mul_nonneg c0 h2.1) (ycq cA h2.2 h2.1 (ybh c0 cA)) λm hm=>h m (yz _ hm);rw [yag,Int.pow_succ,Int.mul_comm (b^ns.length) b,<-Int.mul_assoc];exact q
 intro ns h;have q:=go ns 1 1 (by decide) (by decide) h;rw [Int.one_mul] at q;exact q
theorem Jrc:Jm6 ["self","thing"] ["self","thing"] (Jm5 (Jmc (top 11) 0)):=%[|0]
theorem Ju3 (T:Tx K mg a):Sv P w K mg base CX0 1 a.Jgy a.Jgz ["self","thing"] (Jp7 K "thing"):=by
 refine %[T.Jcs.fn.ok,Jrc|2]
 ·obtain ⟨e,C,W,fI,y,rfl,_⟩:=h;rfl
 ·obtain ⟨e,C,W,fI,y,rfl,q,c,n,k⟩:=h;refine ⟨_,(Jm1 (Jp3 (pv 0) (pv 1) rfl)),?_⟩;exact ⟨_,rfl,_,rfl,e,C,W,fI,true,rfl,q,c,n,k⟩
theorem Jrd:Jm6 ["self","count"] ["self","count"] (Jm5 (Jmc (top 9) 0)):=%[|0]
theorem Ju4 (T:Tx K mg a):Sv P w K mg base CX0 1 a.Jgw a.Jgx ["self","count"] (Jp7 K "count"):=by
 refine %[T.Jcr.fn.ok,Jrd|2]
 ·obtain ⟨e,C,W,fI,y,rfl,_⟩:=h;rfl
 ·obtain ⟨e,C,W,fI,y,rfl,q,c,n,k⟩:=h;refine ⟨_,(Jm1 (Jp3 (pv 0) (pv 1) rfl)),?_⟩;exact ⟨_,rfl,_,rfl,e,C,W,fI,true,rfl,q,c,n,k⟩
theorem Soi {K:Sg} {H:Hp} {R:Riv} {x:V} {sk:Option (List (Int×Int))} (h:Sce H x sk) (o:Jpi R sk):Stk K H R x true:=by
 cases sk with
 |none=>exact .inl ⟨h,rfl⟩
 |some l=>
  obtain ⟨d,ob,rfl,hd⟩:=h;obtain ⟨l16,_,hp⟩:=o l rfl;refine .inr (.inr ⟨d,ob,l.map λp=>(V.int p.1,V.int p.2),l.map λ_=>true,rfl,⟨_,hd,.inr ⟨_,rfl,by rw [yas];rfl⟩⟩,by rw [ye];omega,by rw [ye,ye],λi p c e1 e2=>?_,?_⟩)
  ·rw [ym] at e1 e2;cases el:l[i]? with
   |none=>rw [el] at e1;cases e1
   |some q=>
    rw [el] at e1 e2;cases e1;cases e2;exact ⟨.inl ⟨_,rfl⟩,.inl ⟨_,rfl⟩,.inl ⟨rfl,q,rfl,rfl,hp q (yr el)⟩⟩
  ·rw [List.all_map];exact (ybf.mpr λ_ _=>rfl).symm
theorem Yec:Jm6 ["river","stuck"] ["river","stuck"] (Jm5 (top 41)):=%[|0]
theorem Jzm (T:Tx K mg a):Sv P w K mg base (CXX P w) 4 a.Ji6 a.Ji7 ["river","stuck"] (Ygv K a):=by
 have Sh2:=%[Jzh|1];have Sbm:=%[Jpd|1];have Sel:=%[Ju5|1];have Se4:=%[Jsf|1];have Sdo:=%[Ju3|1];refine %[T.Ji.fn.okX,Yec|2]
 ·obtain ⟨o,R,x,rfl,_⟩:=h;rfl
 ·obtain ⟨o,R,x,rfl,ro,k⟩:=h;refine ⟨?t,?B,?C⟩
  case B=>
   refine' Jlz ?O0 ?O1
   case O0=>
    refine' Jmr ?O2 ?O3 ?O4
    case O2=>exact (Jn3 (Ydw (Jm4 T.Jb Sh2 hr (by decide) (Sm (pv 0) (Sm (pv 1) So))) (λ_=>rfl)))
    case O3=>
     refine' Jm1 ?O5
     case O5=>exact (Jn7 Jn6 rfl (Jnz T.Jdp Sdo hr (by decide) T.Jcs.bd T.Jbc (Sm (pv 1) So)))
    case O4=>exact Jme
   case O1=>
   refine' Jm1 ?O6
   case O6=>exact (Jma (Jm9 Joe (Jm9 Joe (Jm4 T.Jf Sbm hr (by decide) (Sm (pv 0) So)) (Jm4 T.Jg Sel hr (by decide) (Sm (pv 0) (Sm (pv 1) So)))) (Jm4 T.Jh Se4 hr (by decide) (Sm (pv 0) So))))
  rcases k with ⟨sk,sa,so,wo,k⟩|⟨no,k⟩
  ·have h4:=wo.n;have hc:=wo.c;refine ⟨_,rfl,_,rfl,o,R,x,true,rfl,ro,Soi sa so,λH1 s1=>⟨_,rfl,Jn9 ?_⟩⟩;refine ⟨_,rfl,o,R,rfl,ro.same s1,λB hB=>⟨(wo.lv B hB).1,ybh (wo.lv B hB).2 (by decide)⟩,hc,λH2 s2=>?_⟩;have s12:=s1.trans s2;refine ⟨_,rfl,_,rfl,o,R,x,sk,rfl,ro.same s12,sa.same s12,so,λH3 s3=>?_⟩;have s13:=s12.trans s3;have st1: -(2^64) < stN R/\stN R < 2^64:=by
    have q:=Jye (b:=13) (by decide) (R.Bs.map lvN) λn hn=>by
     obtain ⟨B,hB,rfl⟩:=yo.mp hn;exact wo.lv B hB
    rw [ye] at q;have p:=Sl0 R.Bs.length (by omega);have m:stN R<=23298085122481*13:=ycq (ybh q.2 p) (by omega) (by omega) (by decide);have m0:0<=stN R:=Int.mul_nonneg q.1 (by omega);omega
   refine ⟨_,_,rfl,rfl,.inl st1,?_⟩;refine ⟨_,rfl,o,R,rfl,ro.same s13,h4,hc,λH4 s4=>⟨_,_,rfl,rfl,.inr ?_,k _ (s13.trans s4)⟩⟩;have:=Ye8 h4 hc;omega
  ·refine ⟨_,rfl,_,rfl,o,R,x,false,rfl,ro,no,λH1 s1=>⟨_,rfl,Jo2 ?_⟩⟩;exact Jo0 T.Jdp T.Jf2 rfl λe dx h1 h2 h3=>k _ _ _ ((RfC.new h1 h2 h3).of s1)
theorem Ju8:Jm6 ["heft"] ["heft"] (Jm5 (top 42)):=%[|0]
theorem Ju6 (T:Tx K mg a):Sv P w K mg base (CXX P w) 3 a.Ji8 a.Ji9 ["heft"] (Ygj a):=by
 have Sdp:=%[Ju4|1];refine %[T.Jj.fn.okX,Ju8|2]
 ·obtain ⟨n,rfl,_⟩:=h;rfl
 ·obtain ⟨n,rfl,k⟩:=h;refine ⟨?t,?B,?C⟩
  case B=>
   refine' Jm1 ?O0
   case O0=>
   refine' Jmr ?O1 ?O2 ?O3
   case O1=>exact (Jmm Jvi (pv 0) (Jnb (by rfl) T.Jad (v:=.int 4000) ⟨_,rfl⟩) (Jmp _))
   case O2=>
    refine' Jm1 ?O4
    case O4=>exact (Jn7 Jn6 rfl (Jnz T.Jdn Sdp hr (by decide) T.Jcr.bd T.Jbb (Sm (pv 0) So)))
   case O3=>exact Jme
  rcases k with ⟨hn,k⟩|⟨hn,k⟩
  ·exact ⟨_,rfl,_,_,rfl,rfl,_,rfl,ifF (decide_eq_false (by omega)) k⟩
  ·refine ⟨_,rfl,_,_,rfl,rfl,_,rfl,ifT (decide_eq_true hn) ?_⟩;exact Jo0 T.Jdn T.Jf1 rfl λe dx h1 h2 h3=>k _ _ _ (RfN.new h1 h2 h3)
noncomputable def stF (R:Riv) (n:Int) (i:Nat):List Int×Int:=(R.Bs.take i).foldl (λp B=>(p.1++ [B.lo+p.2%lvN B],p.2/lvN B)) ([],n/(R.c+1))
theorem Jvz (R:Riv) (n:Int) {i:Nat} {B:Bsn} (h:R.Bs[i]?=some B):stF R n (i+1)=((stF R n i).1++ [B.lo+(stF R n i).2%lvN B],(stF R n i).2/lvN B):=by
 unfold stF;rw [yaa,h,yca];rfl
theorem Jum (R:Riv) (n:Int):∀i,i<=R.Bs.length->(stF R n i).1.length=i:=by
 intro i
 induction i with
 |zero=>exact λ_=>rfl
 |succ i ih=>
  intro h;rw [Jvz R n (yh (by omega:i < R.Bs.length))];dsimp only;rw [yad,ih (by omega)];rfl
inductive Sco (H:Hp) (x:V) (ls:List Int) (wt:Int):Prop where
 |mk (t r:S4) (_:x= .ref t) (_:H t=some (.tup [.ref r,.int wt])) (_:H r=some (.tup (ls.map V.int)))
theorem Sco.same {H H':Hp} {x:V} {ls:List Int} {wt:Int} (s:Sl H H') (h:Sco H x ls wt):Sco H' x ls wt:=by
 obtain ⟨t,r,e,h1,h2⟩:=h;exact ⟨t,r,e,s _ _ h1,s _ _ h2⟩
inductive Sod (K:Sg) (a:Ad) (vs:List V) (H:Hp) (Q:VK) (z3:XK):Prop where
 |mk (o:S4) (R:Riv) (n:Int) (_:vs= [.ref o,.int n]) (_:Sah K a H o R) (_:(∀B∈R.Bs,1<=lvN B/\lvN B<=13)) (_:(0<=R.c/\R.c<=12)) (_:∀(x:V) (H':Hp),Sl H H'->Sco H' x (stF R n R.Bs.length).1 (n%(R.c+1))->Q x H')
theorem Sb1:Jm6 ["river","number","rest","levels","basin"] ["river","number"] (Jm5 (top 47)):=%[|0]
theorem Jvh (T:Tx K mg a):Sv P w K mg base CX0 2 a.Jii a.Jij ["river","number"] (Sod K a):=by
 have Sar:=%[Jp5|1];refine %[T.Jo.fn.ok,Sb1|2]
 ·obtain ⟨o,R,n,rfl,_⟩:=h;rfl
 ·obtain ⟨o,R,n,rfl,⟨dx,b,t,os,ts,ho,hb,bl,ht,tl,n1,n2,n3⟩,hl,hc,k⟩:=h;refine ⟨?t,?B,?C⟩
  case B=>
   refine' Jlz ?O0 ?O1
   case O0=>exact (Jmb (i:=2) Sb1.nd rfl (yf rfl) (Jm9 Jom (pv 1) (Jm9 Jml (Jmd (pv 0) (by rfl)) Su)))
   case O1=>
   refine' Jlz ?O2 ?O3
   case O2=>exact (Jmb (i:=3) Sb1.nd rfl (yf rfl) (Jmy So))
   case O3=>
   refine' Jlz ?O4 ?O5
   case O4=>
    refine' Jnq ?O6 ?O7 ?O8 ?O9 ?Oa
    case O6=>exact PassesOwn.never
    case O7=>exact rfl
    case O8=>exact (Jtf (Jmd (pv 0) (by rfl)))
    case O9=>exact (Jm7 (i:=4) Sb1.nd rfl (yf rfl))
    case Oa=>
    refine' Jlz ?Ob ?Oc
    case Ob=>exact (Jnp (Jvm F.plainAttrs_list F.slot_list_append F.type_list_append Jpq (pv 3) (Sm (Jm9 Jml (Jmd (pv 4) (by rfl)) (Jm9 Jo3 (pv 2) (Jm4 T.Je Sar hr (by decide) (Sm (pv 4) So)))) So)))
    case Oc=>
    refine' Jm1 ?Od
    case Od=>exact (Jmb (i:=2) Sb1.nd rfl (yf rfl) (Jm9 Jom (pv 2) (Jm4 T.Je Sar hr (by decide) (Sm (pv 4) So))))
   case O5=>
   refine' Jm1 ?Oe
   case Oe=>exact (Jma (Jmz (Sm (Jms Jng (by rfl) T.Jb3 Jo5 (Sm (pv 3) So)) (Sm (Jm9 Jo3 (pv 1) (Jm9 Jml (Jmd (pv 0) (by rfl)) Su)) So))))
  have len:=bl.len;refine ⟨_,rfl,_,rfl,o,_,dx,_,_,rfl,ho,T.Jet,T.Jfw,rfl,_,_,rfl,rfl,_,_,rfl,rfl,⟨by omega,Jo6 (by omega)⟩,?_⟩;refine ⟨(show 0<=S9 by decide),λL hL=>?_⟩;have sL:=Sl.upd (o:=.lst []) hL;refine ⟨_,rfl,o,_,dx,_,_,rfl,sL _ _ ho,T.Jet,T.Jfy,rfl,b,rfl,⟨_,SqT.of (sL _ _ hb)⟩,?_⟩;refine Jub (K:=K) (a:=b) (xs:=os.map V.ref) (λi σ H'=>∃(o4:Option V),σ= [some (.ref o),some (.int n),some (.int (stF R n i).2),some (.ref L),o4]/\H' L=some (.lst ((stF R n i).1.map V.int))/\Sl H H') ?_ ?_ ?_ ?_
  ·exact ⟨_,rfl,Sr,sL⟩
  ·rintro i σ H' _ ⟨_,_,_,sm⟩;exact SqT.of (sm _ _ hb)
  ·rintro i x σ H' hx ⟨o4,rfl,hLs,sm⟩;obtain ⟨ob,B,rfl,hB,ba⟩:=(bl.same sm).get hx;obtain ⟨dx',hb',gs⟩:=ba;have hi:i < R.Bs.length:=(yi.mp hB).1;have hlv:=hl B (yr hB);have ln:=Jum R n i (by omega);refine ⟨_,rfl,.inl ⟨rfl,_,Sz.of hLs⟩,_,rfl,ob,_,dx',_,_,rfl,hb',T.Jen,T.Jfo,rfl,_,rfl,_,rfl,ob,B,rfl,⟨dx',hb',gs⟩,_,_,rfl,rfl,by omega,_,_,rfl,rfl,L,_,_,rfl,rfl,hLs,by rw [ye];exact Jmo (by omega),?_⟩;have sm2:Sl H (upd H' L (.lst ((stF R n i).1.map V.int++ [.int (B.lo+(stF R n i).2%lvN B)]))):=λc u e=>by
    rw [Sx (Jm2 e hL)];exact sm _ _ e
   have nL:ob≠L:=λz=>by
    rw [z,hLs] at hb';cases hb'
   refine ⟨_,rfl,_,rfl,ob,B,rfl,(Scb.put hLs ⟨dx',hb',gs⟩),_,_,rfl,rfl,⟨by omega,Jo6 (by omega)⟩,?_⟩;rw [Jvz R n hB];exact ⟨_,rfl,by rw [Sr,yaj];rfl,sm2⟩
  ·rintro σ H' ⟨o4,rfl,hLs,sm⟩;rw [ye,len] at hLs;refine ⟨_,rfl,L,_,rfl,.inl ⟨Sz.of hLs,λr hr'=>?_⟩⟩;have s2:=Sl.upd (o:=.tup ((stF R n R.Bs.length).1.map V.int)) hr';have s02:=sm.trans s2;refine ⟨_,rfl,_,rfl,o,_,dx,_,_,rfl,s02 _ _ ho,T.Jet,T.Jfw,rfl,_,_,rfl,rfl,_,_,rfl,rfl,by omega,(show 2<=S9 by decide),λt' ht'=>?_⟩;have s3:=Sl.upd (o:=.tup [.ref r,.int (n%(R.c+1))]) ht';exact k _ _ (s02.trans s3) ⟨t',r,rfl,Sr,s3 _ _ Sr⟩
noncomputable def nbF (R:Riv) (ls:List Int) (wt:Int) (i:Nat):Int×Int:=((R.Bs.zip ls).take i).foldl (λp q=>(p.1+p.2*(q.2 - q.1.lo),p.2*lvN q.1)) (wt,R.c+1)
theorem Ydm {R:Riv} {ls:List Int} {wt:Int} {i:Nat} {B:Bsn} {l:Int} (h1:R.Bs[i]?=some B) (h2:ls[i]?=some l):nbF R ls wt (i+1)=((nbF R ls wt i).1+(nbF R ls wt i).2*(l - B.lo),(nbF R ls wt i).2*lvN B):=by
 unfold nbF;have e:(R.Bs.zip ls)[i]?=some (B,l):=List.getElem?_zip_eq_some.mpr ⟨h1,h2⟩;rw [yaa,e,yca];rfl
inductive So9 (K:Sg) (a:Ad) (vs:List V) (H:Hp) (Q:VK) (z3:XK):Prop where
 |mk (o:S4) (R:Riv) (x:V) (ls:List Int) (wt:Int) (_:vs= [.ref o,x]) (_:Sah K a H o R) (_:Sco H x ls wt) (_:ls.length=R.Bs.length) (_:(∀B∈R.Bs,(1<=lvN B/\lvN B<=13)/\0<=B.lo/\B.lo<=12)) (_:(∀l∈ls,0<=l/\l<=1000)) (_:∀H',Sl H H'->Q (.int (nbF R ls wt R.Bs.length).1) H')
theorem Saq:Jm6 ["river","standing","number","step","basin","level"] ["river","standing"] (Jm5 (top 46)):=%[|0]
theorem Jy7 (T:Tx K mg a):Sv P w K mg base CX0 2 a.Jig a.Jih ["river","standing"] (So9 K a):=by
 have Sar:=%[Jp5|1];refine %[T.Jn.fn.ok,Saq|2]
 ·obtain ⟨o,R,x,ls,wt,rfl,_⟩:=h;rfl
 ·obtain ⟨o,R,x,ls,wt,rfl,⟨dx,b,t,os,ts,ho,hb,bl,ht,tl,n1,n2,n3⟩,⟨u,r,rfl,hu,hr'⟩,hls,hB,hlv,k⟩:=h;refine ⟨?t,?B,?C⟩
  case B=>
   refine' Jlz ?O0 ?O1
   case O0=>exact (Jmb (i:=2) Saq.nd rfl (yf rfl) (Jmf Jmk (pv 1) Su (λ_ _=>rfl)))
   case O1=>
   refine' Jlz ?O2 ?O3
   case O2=>exact (Jmb (i:=3) Saq.nd rfl (yf rfl) (Jm9 Jml (Jmd (pv 0) (by rfl)) Su))
   case O3=>
   refine' Jlz ?O4 ?O5
   case O4=>
    refine' Jnq ?O6 ?O7 ?O8 ?O9 ?Oa
    case O6=>exact PassesOwn.never
    case O7=>exact rfl
    case O8=>exact (Yg1 true true (by rfl) T.Jb4 (Sm (Jmd (pv 0) (by rfl)) (Sm (Jmf Jmk (pv 1) Su (λ_ _=>rfl)) So)))
    case O9=>exact (Jrr rfl (Jmh (Jm7 (i:=4) Saq.nd rfl (yf rfl)) (Jmh (Jm7 (i:=5) Saq.nd rfl (yf rfl)) Job)))
    case Oa=>
    refine' Jlz ?Ob ?Oc
    case Ob=>exact (Ya1 (i:=2) Saq.nd rfl (yf rfl) (Jm9 Joe (pv 3) (Jm9 Jnk (pv 5) (Jmd (pv 4) (by rfl)))) Smu)
    case Oc=>
    refine' Jm1 ?Od
    case Od=>exact (Ya1 (i:=3) Saq.nd rfl (yf rfl) (Jm4 T.Je Sar hr (by decide) (Sm (pv 4) So)) Ydg)
   case O5=>
   refine' Jm1 ?Oe
   case Oe=>exact (Jma (pv 2))
  have len:=bl.len;refine ⟨_,rfl,u,_,1,_,rfl,rfl,SqT.of hu,rfl,?_⟩;refine ⟨_,rfl,o,_,dx,_,_,rfl,ho,T.Jet,T.Jfw,rfl,_,_,rfl,rfl,?_⟩;refine ⟨_,rfl,o,_,dx,_,_,rfl,ho,T.Jet,T.Jfy,rfl,_,rfl,u,_,0,_,rfl,rfl,SqT.of hu,rfl,b,r,rfl,⟨_,SqT.of hb⟩,⟨_,SqT.of hr'⟩,?_⟩;refine Yd7 (K:=K) (l1:=b) (l2:=r) (b1:=true) (b2:=true) (xs:=os.map V.ref) (ys:=ls.map V.int) (λi σ H'=>∃(o4 o5:Option V),σ= [some (.ref o),some (.ref u),some (.int (nbF R ls wt i).1),some (.int (nbF R ls wt i).2),o4,o5]/\Sl H H') ⟨_,_,rfl,Sl.refl _⟩ (λi σ H' _ ⟨_,_,_,sm⟩=>⟨SqT.of (sm _ _ hb),SqT.of (sm _ _ hr')⟩) (by rw [ye,ye];omega) ?_ ?_
  ·rintro i x y σ H' Ta hx hy ⟨o4,o5,rfl,sm⟩ hT;rw [ym] at hy;cases el:ls[i]? with
   |none=>rw [el] at hy;cases hy
   |some l=>
    rw [el] at hy;cases hy;have sT:=Sl.upd (o:=.tup [x,V.int l]) hT;obtain ⟨ob,B,rfl,eB,dx',hb',gs⟩:=(bl.same (sm.trans sT)).get hx;obtain ⟨h1,h2⟩:=hB B (yr eB);have h3:=hlv l (yr el);refine ⟨Ta,_,rfl,SqT.of Sr,rfl,_,_,rfl,_,_,rfl,rfl,?_⟩;refine ⟨_,rfl,_,rfl,_,rfl,_,rfl,ob,_,dx',_,_,rfl,hb',T.Jen,T.Jfo,rfl,_,_,rfl,rfl,_,_,rfl,rfl,.inr ⟨by omega,by omega⟩,_,_,rfl,rfl,?_⟩;refine ⟨_,rfl,_,rfl,ob,B,rfl,⟨dx',hb',gs⟩,_,_,rfl,rfl,.inr ⟨by omega,by omega⟩,?_⟩;rw [Ydm eB el];exact ⟨_,_,rfl,sm.trans sT⟩
  ·rintro σ H' ⟨o4,o5,rfl,sm⟩;rw [ye,len];exact ⟨_,rfl,k _ sm⟩
inductive TpR (H:Hp) (v:V) (r:List Int):Prop where
 |mk (q:_) (_:v= .ref q) (_:H q=some (.tup (r.map V.int)))
noncomputable abbrev TpL (H:Hp) (vs:List V) (rs:List (List Int)):Prop:=Sag TpR H vs rs
theorem TpR.mn (D:S4):MnD D TpR:=by
 rintro H H' v a f ⟨q,rfl,g⟩;exact ⟨q,rfl,f q _ (.inr λ_ z=>by cases z) g⟩
theorem TpL.on {H H':Hp} {vs:List V} {rs:List (List Int)} (f:∀q xs,H q=some (.tup xs)->H' q=some (.tup xs)) (h:TpL H vs rs):TpL H' vs rs:=h.imp λv r q=>by
 obtain ⟨q,rfl,g⟩:=q;exact ⟨q,rfl,f _ _ g⟩
theorem TpL.one {H:Hp} {q:S4} {r:List Int} (g:H q=some (.tup (r.map V.int))):TpL H [.ref q] [r]:=Sag.one ⟨q,rfl,g⟩
noncomputable def lgR (rs:List (List Int)) (ns:List Int):List (List Int):=rs.flatMap λr=>ns.map λn=>r++ [n]
inductive So6 (vs:List V) (H:Hp) (Q:VK) (z3:XK):Prop where
 |mk (R N:S4) (us:List V) (rs:List (List Int)) (ns:List Int) (_:vs= [.ref R,.ref N]) (_:H R=some (.lst us)) (_:TpL H us rs) (_:H N=some (.lst (ns.map V.int))) (_:(∀r∈rs,r.length<=100)) (_:rs.length*ns.length<=1000) (_:ns.length<=1000) (_:∀(L:S4) (ws:List V) (H':Hp),H L=none->Sl H H'->H' L=some (.lst ws)->TpL H' ws (lgR rs ns)->Q (.ref L) H')
theorem Jue (rs:List (List Int)) (ns:List Int):(lgR rs ns).length=rs.length*ns.length:=by
 unfold lgR
 induction rs with
 |nil=>simp
 |cons r rs ih=>rw [ycu,yad,ih,ye,yag,Nat.succ_mul,Nat.add_comm]
theorem Ydi {rs:List (List Int)} {ns:List Int} {i:Nat} {r:List Int} (h:rs[i]?=some r):lgR (rs.take (i+1)) ns=lgR (rs.take i) ns++ns.map λn=>r++ [n]:=by
 unfold lgR;rw [yaa,h,List.flatMap_append];simp
theorem Sc6:Jm6 ["rows","numbers","longer","row"] ["rows","numbers"] (Jm5 (top 43)):=%[|0]
theorem Jql (T:Tx K mg a):Sv P w K mg base CX0 1 a.Jia a.Jib ["rows","numbers"] So6:=by
 refine %[T.Jk.fn.ok,Sc6|2]
 ·obtain ⟨R,N,us,rs,ns,rfl,_⟩:=h;rfl
 ·obtain ⟨R,N,us,rs,ns,rfl,hR,tp,hN,h100,hm,hn,k⟩:=h;refine ⟨?t,?B,?C⟩
  case B=>
   refine' Jlz ?O0 ?O1
   case O0=>exact (Jmb (i:=2) Sc6.nd rfl (yf rfl) (Jmy So))
   case O1=>
   refine' Jlz ?O2 ?O3
   case O2=>
    refine' Jnq ?O4 ?O5 ?O6 ?O7 ?O8
    case O4=>exact PassesOwn.never
    case O5=>exact rfl
    case O6=>exact (Jn0 (pv 0))
    case O7=>exact (Jm7 (i:=3) Sc6.nd rfl (yaq rfl))
    case O8=>
    refine' Jm1 ?O9
    case O9=>exact (Jnp (Jvm F.plainAttrs_list F.slot_list_extend F.type_list_extend Jx9 (pv 2) (Sm (Jmt (N:=(["number","row"]:List Str)) (ini:=[none,some 3]) rfl (Jn0 (pv 1)) (λ_ _ _ _ _=>(Jm7 (i:=0) (by decide +kernel:(["number","row"]:List Str).Nodup) rfl (yf rfl))) (λ_ _ _ _ _=>Jmq) (λ_ _ _ _ _=>(Jm9 Yax (pv 1) (Jmz (Sm (pv 0) So))))) So)))
   case O3=>
   refine' Jm1 ?Oa
   case Oa=>exact (Jma (pv 2))
  refine ⟨(show 0<=S9 by decide),λL hL=>?_⟩;have sL:=Sl.upd (o:=.lst []) hL;have ul:=tp.1;refine ⟨_,rfl,R,rfl,⟨_,Sz.of (sL _ _ hR)⟩,?_⟩;refine Joj (xs:=us) (λi σ H'=>∃(o3:Option V) (ws:List V),σ= [some (.ref R),some (.ref N),some (.ref L),o3]/\H' L=some (.lst ws)/\TpL H' ws (lgR (rs.take i) ns)/\Sl H H') ?_ ?_ ?_ ?_
  ·exact ⟨_,[],rfl,Sr,.nil,sL⟩
  ·rintro i σ H' _ ⟨_,_,_,_,_,sm⟩;exact Sz.of (sm _ _ hR)
  ·rintro i x σ H' hx ⟨o3,ws,rfl,hLs,tw,sm⟩;have hi:i < us.length:=(yi.mp hx).1;obtain ⟨r,er⟩:∃r,rs[i]?=some r:=⟨rs[i],yh (by omega)⟩;obtain ⟨q,rfl,hq⟩:=tp.2 i x r hx er;have r100:=h100 r (yr er);have wl:ws.length+ns.length<=rs.length*ns.length:=by
    rw [tw.1,Jue,yaf,yci (by omega)];have:=Nat.mul_le_mul_right ns.length (show i+1<=rs.length by omega);rw [Nat.succ_mul] at this;exact this
   refine ⟨_,rfl,.inl ⟨rfl,_,Sz.of hLs⟩,_,rfl,N,rfl,⟨_,Sz.of (sm _ _ hN)⟩,λD hD=>?_⟩;refine Jop (K:=K) (xs:=ns.map V.int) TpR (ns.map λn=>r++ [n]) (TpR.mn D) hD (by simp) (by rw [ye];omega) (sm _ _ hN) ?_ ?_
   ·intro j y e H2 Q' hy he s2 _ k';rw [ym] at hy he;cases en:ns[j]? with
    |none=>rw [en] at hy;cases hy
    |some n=>
     rw [en] at hy he;cases hy;cases he;refine ⟨_,rfl,_,rfl,(show 1<=S9 by decide),λp hp=>?_⟩;have sp:=Sl.upd (o:=.tup [V.int n]) hp;refine ⟨q,p,_,_,rfl,rfl,sp _ _ (s2 _ _ (sm _ _ hq)),Sr,Jn4 _ (by rw [ye];show _+1<=2000;omega),λz H3 s3 hz=>k' _ _ (sp.trans s3) ⟨z,rfl,?_⟩⟩;rw [hz,yaj];rfl
   ·intro ys H2 s2 hDs ty;have yl:=ty.1;rw [ye] at yl;have hL2:=s2 _ _ hLs;refine ⟨L,D,ws,ys,rfl,rfl,hL2,hDs,Jn4 _ (by omega),_,ws++ys,rfl,Sr,?_,λc u e=>?_⟩
    ·rw [Ydi er];exact Sag.on (TpR.mn L) (OnD.grow hL2) (Sag.append (Sag.on (TpR.mn L) (OnD.same s2) tw) ty)
    ·rw [Sx (Jm2 e hL)];exact s2 _ _ (sm _ _ e)
  ·rintro σ H' ⟨o3,ws,rfl,hLs,tw,sm⟩;rw [ul,ybn] at tw;exact ⟨_,rfl,k L ws H' hL sm hLs tw⟩
noncomputable def rwN (R:Riv) (sk:Option (List (Int×Int))) (i:Nat):List (List Int):=((Jnv R sk).take i).foldl lgR [[]]
theorem Jsk {R:Riv} {sk:Option (List (Int×Int))} {i:Nat} {r:List Int} (h:(Jnv R sk)[i]?=some r):rwN R sk (i+1)=lgR (rwN R sk i) r:=by
 unfold rwN;rw [yaa,h,yca];rfl
theorem Yea {R:Riv} {sk:Option (List (Int×Int))} (h4:∀r∈Jnv R sk,r.length<=4):∀i,i<=(Jnv R sk).length->(rwN R sk i).length<=4^i/\∀r∈rwN R sk i,r.length=i:=by
 intro i
 induction i with
 |zero=>
  refine λ_=>⟨yg 1,λr hr=>?_⟩;have hr':r∈ [([]:List Int)]:=hr;rw [yam.mp hr'];rfl
 |succ i ih=>
  intro h;obtain ⟨h1,h2⟩:=ih (by omega);have er:(Jnv R sk)[i]?=some (Jnv R sk)[i]:=yh (by omega);rw [Jsk er];refine ⟨?_,λr hr=>?_⟩
  ·rw [Jue,Nat.pow_succ];exact Nat.mul_le_mul h1 (h4 _ (ybb _))
  ·unfold lgR at hr;obtain ⟨r0,hr0,hr⟩:=ycv.mp hr;obtain ⟨n,_,rfl⟩:=yo.mp hr;rw [yad,h2 r0 hr0];rfl
theorem Jt4 (R:Riv) (sk:Option (List (Int×Int))):(Jnv R sk).length=R.Bs.length:=by
 unfold Jnv;have go:∀(l:List (Int×Int)) (rs:List (List Int)),(l.foldl (λrs p=>rs.set p.1.toNat [p.2]) rs).length=rs.length:=by
  intro l
  induction l with
  |nil=>exact λrs=>rfl
  |cons p l ih=>exact λrs=>(ih _).trans ybx
 rw [go,ye]
noncomputable def twV:Option Int->V
 |none=>.non
 |some i=>.int i
noncomputable def twL (R:Riv):List (Option Int):=none::(rgI R.Ts.length).map some
noncomputable def chL (R:Riv) (sk:Option (List (Int×Int))):List (List Int×Option Int):=(rwN R sk R.Bs.length).flatMap λr=>(twL R).map λt=>(r,t)
inductive CcR (H:Hp) (v:V) (c:List Int×Option Int):Prop where
 |mk (t:_) (q:_) (_:v= .ref t) (_:H t=some (.tup [.ref q,twV c.2])) (_:H q=some (.tup (c.1.map V.int)))
noncomputable abbrev CcL (H:Hp) (vs:List V) (cs:List (List Int×Option Int)):Prop:=Sag CcR H vs cs
theorem CcR.mn (D:S4):MnD D CcR:=by
 rintro H H' v a f ⟨t,q,rfl,g1,g2⟩;exact ⟨t,q,rfl,f t _ (.inr λ_ z=>by cases z) g1,f q _ (.inr λ_ z=>by cases z) g2⟩
theorem CcL.on {H H':Hp} {vs:List V} {cs:List (List Int×Option Int)} (f:∀q xs,H q=some (.tup xs)->H' q=some (.tup xs)) (h:CcL H vs cs):CcL H' vs cs:=h.imp λv r q=>by
 obtain ⟨t,q,rfl,g1,g2⟩:=q;exact ⟨t,q,rfl,f _ _ g1,f _ _ g2⟩
theorem Snd {i:Nat} (h:i<=4):4^i<=256:=by
 have cs:i=0\/i=1\/i=2\/i=3\/i=4:=by omega
 rcases cs with rfl|rfl|rfl|rfl|rfl <;> decide
theorem Ss2 {i:Nat} (h:i+1<=4):4^i*4<=256:=by
 rw [<-Nat.pow_succ];exact Snd h
inductive Sns (K:Sg) (a:Ad) (vs:List V) (H:Hp) (Q:VK) (z3:XK):Prop where
 |mk (o:S4) (R:Riv) (x:V) (sk:Option (List (Int×Int))) (_:vs= [.ref o,x]) (_:Sah K a H o R) (_:Sce H x sk) (_:Jpi R sk) (_:R.Bs.length<=4) (_:∀(l:S4) (us:List V) (H':Hp),H l=none->Sl H H'->H' l=some (.lst us)->CcL H' us (chL R sk)->Q (.ref l) H')
theorem Saf:Jm6 ["river","stuck","rows","settings","towns","let","row"] ["river","stuck"] (Jm5 (top 44)):=%[|0]
theorem Jvb (T:Tx K mg a):Sv P w K mg base CX0 3 a.Jic a.Jid ["river","stuck"] (Sns K a):=by
 have Sc0:=%[Jq2|1];have Scj:=%[Jql|1];refine %[T.Jl.fn.ok,Saf|2]
 ·obtain ⟨o,R,x,sk,rfl,_⟩:=h;rfl
 ·obtain ⟨o,R,x,sk,rfl,ro,sa,so,h4,k⟩:=h;refine ⟨?t,?B,?C⟩
  case B=>
   refine' Jlz ?O0 ?O1
   case O0=>exact (Jmb (i:=2) Saf.nd rfl (yf rfl) (Jmy (Sm (Jmz So) So)))
   case O1=>
   refine' Jlz ?O2 ?O3
   case O2=>
    refine' Jnq ?O4 ?O5 ?O6 ?O7 ?O8
    case O4=>exact PassesOwn.never
    case O5=>exact rfl
    case O6=>exact (Jn0 (Jm4 T.Jc Sc0 hr (by decide) (Sm (pv 0) (Sm (pv 1) So))))
    case O7=>exact (Jm7 (i:=3) Saf.nd rfl (yf rfl))
    case O8=>
    refine' Jm1 ?O9
    case O9=>exact (Jmb (i:=2) Saf.nd rfl (yf rfl) (Jm4 T.Jk Scj hr (by decide) (Sm (pv 2) (Sm (pv 3) So))))
   case O3=>
   refine' Jlz ?Oa ?Ob
   case Oa=>exact (Jmb (i:=4) Saf.nd rfl (yf rfl) (Jm9 Jte (Jmy (Sm Jnt So)) (Jms (Jpj rfl) (by rfl) T.Jav Joq (Sm (Jms Jsx (by rfl) T.Jay Juq (Sm (Jm8 Jmg (by rfl) T.Jau Jnc (Sm (Jmd (pv 0) (by rfl)) So)) So)) So))))
   case Ob=>
   refine' Jlz ?Oc ?Od
   case Oc=>exact (Jmb (i:=5) Saf.nd rfl (yf rfl) (Jmy So))
   case Od=>
   refine' Jlz ?Oe ?Of
   case Oe=>
    refine' Jnq ?Og ?Oh ?Oi ?Oj ?Ok
    case Og=>exact PassesOwn.never
    case Oh=>exact rfl
    case Oi=>exact (Jn0 (pv 2))
    case Oj=>exact (Jm7 (i:=6) Saf.nd rfl (yaq rfl))
    case Ok=>
    refine' Jm1 ?Ol
    case Ol=>exact (Jnp (Jvm F.plainAttrs_list F.slot_list_extend F.type_list_extend Jx9 (pv 5) (Sm (Jmt (N:=(["town","row"]:List Str)) (ini:=[none,some 6]) rfl (Jn0 (pv 4)) (λ_ _ _ _ _=>(Jm7 (i:=0) (by decide +kernel:(["town","row"]:List Str).Nodup) rfl (yf rfl))) (λ_ _ _ _ _=>Jmq) (λ_ _ _ _ _=>(Jmz (Sm (pv 1) (Sm (pv 0) So))))) So)))
   case Of=>
   refine' Jm1 ?Om
   case Om=>exact (Jma (pv 5))
  obtain ⟨dx,b,t,os,ts,ho,hb,bl,ht,tl,n1,n2,n3⟩:=id ro;have r4:=Jv5 R sk bl.n4;have ll:=Jt4 R sk;refine ⟨(show 0<=S9 by decide),λe0 he0=>⟨(show 1<=S9 by decide),λl0 hl0=>?_⟩⟩;have s0:Sl H (upd (upd H e0 (.tup [])) l0 (.lst [.ref e0])):=(Sl.upd he0).trans (Sl.upd hl0);have tp0:TpL (upd (upd H e0 (.tup [])) l0 (.lst [.ref e0])) [.ref e0] [[]]:=TpL.one ((Sl.upd hl0) _ _ Sr);have g0:=Sr (H:=upd H e0 (.tup [])) (a:=l0) (o:=.lst [.ref e0]);generalize upd (upd H e0 (.tup [])) l0 (.lst [.ref e0])=H0 at*;refine ⟨_,rfl,_,rfl,o,R,x,sk,rfl,ro.same s0,sa.same s0,so,λl us H1 hl s1 hl1 rw_=>⟨l,rfl,⟨_,Sz.of hl1⟩,?_⟩⟩;have s01:=s0.trans s1;have ul:us.length=R.Bs.length:=by rw [rw_.1,ll]
  refine Joj (xs:=us) (λi σ H'=>∃(Rw:S4) (vs:List V) (o3:Option V),σ= [some (.ref o),some x,some (.ref Rw),o3,none,none,none]/\H' Rw=some (.lst vs)/\TpL H' vs (rwN R sk i)/\Sl H1 H') ?_ ?_ ?_ ?_
  ·exact ⟨l0,[.ref e0],_,rfl,s1 _ _ g0,TpL.on (λq xs e=>s1 _ _ e) tp0,Sl.refl _⟩
  ·rintro i σ H' _ ⟨_,_,_,_,_,_,sm⟩;exact Sz.of (sm _ _ hl1)
  ·rintro i y σ H' hy ⟨Rw,vs,o3,rfl,hRw,tp,sm⟩;have hi:i < us.length:=(yi.mp hy).1;obtain ⟨r,er⟩:∃r,(Jnv R sk)[i]?=some r:=⟨(Jnv R sk)[i],yh (by omega)⟩;obtain ⟨q,rfl,_,g⟩:=rw_.2 i y r hy er;have rl:=r4 r (yr er);obtain ⟨b1,b2⟩:=Yea (R:=R) (sk:=sk) r4 i (by omega);have b3:=Nat.mul_le_mul b1 rl;have b4:=Ss2 (i:=i) (by omega);refine ⟨_,rfl,_,rfl,Rw,q,vs,rwN R sk i,r,rfl,hRw,tp,sm _ _ g,λr' hr'=>?_,by omega,by omega,λL ws H2 hL s2 hL2 tw=>?_⟩
   ·rw [b2 r' hr'];omega
   ·refine ⟨L,ws,_,rfl,hL2,?_,sm.trans s2⟩;rw [Jsk er];exact tw
  rintro σ H2 ⟨Rw,vs,o3,rfl,hRw,tp,s2⟩;rw [ul] at tp;have s02:=s01.trans s2;obtain ⟨b1,b2⟩:=Yea (R:=R) (sk:=sk) r4 R.Bs.length (by omega);have b5:=Snd h4;have tln:=tl.len;refine ⟨(show 1<=S9 by decide),λa1 ha1=>?_⟩;have s3:=Sl.upd (o:=.lst [V.non]) ha1;have s03:=s02.trans s3;refine ⟨_,rfl,o,_,dx,_,_,rfl,s03 _ _ ho,T.Jet,T.Jfz,rfl,t,_,rfl,.inr (SqT.of (s03 _ _ ht)),_,rfl,λp hp=>⟨p,_,_,rfl,Sr,by omega,by omega,by omega,by rw [ye];omega,λl2 hl2=>?_⟩⟩;have er:((yaw (((ts.map V.ref).length:Int) - 0).toNat).map λk:Nat=>V.int (0+k))=((rgI R.Ts.length).map some).map twV:=by
   unfold rgI;rw [yas,yas,Int.sub_zero,yav,ye,tln];exact List.map_congr_left λk _=>by simp [twV]
  rw [er];have s4:=Sl.upd (o:=.rng 0 ((ts.map V.ref).length:Int)) hp;have s5:=Sl.upd (o:=.lst (((rgI R.Ts.length).map some).map twV)) hl2;have tz: [V.non].length+(((rgI R.Ts.length).map some).map twV).length<=S9:=Jn4 _ (by unfold rgI;rw [ye,ye,ye,ybm];show 1+_<=2000;omega);refine ⟨a1,l2,_,_,rfl,rfl,s5 _ _ (s4 _ _ Sr),Sr,tz,λTW hTW=>?_⟩;have e6: [V.non]++((rgI R.Ts.length).map some).map twV=(twL R).map twV:=rfl;rw [e6];have s6:=Sl.upd (o:=.lst ((twL R).map twV)) hTW;have s26:=((s3.trans s4).trans s5).trans s6;have g6:=Sr (H:=upd (upd (upd H2 a1 (.lst [V.non])) p (.rng 0 ((ts.map V.ref).length:Int))) l2 (.lst (((rgI R.Ts.length).map some).map twV))) (a:=TW) (o:=.lst ((twL R).map twV));generalize upd (upd (upd (upd H2 a1 (.lst [V.non])) p (.rng 0 ((ts.map V.ref).length:Int))) l2 (.lst (((rgI R.Ts.length).map some).map twV))) TW (.lst ((twL R).map twV))=H6 at*;have s06:=s02.trans s26;have hRw6:=s26 _ _ hRw;have tp6:=TpL.on (λq xs e=>s26 _ _ e) tp;refine ⟨(show 0<=S9 by decide),λL hL=>?_⟩;have sL:=Sl.upd (o:=.lst []) hL;have twl:(twL R).length<=4:=by
   unfold twL rgI;rw [yag,ye,ye,ybm];omega
  refine ⟨_,rfl,Rw,rfl,⟨_,Sz.of (sL _ _ hRw6)⟩,?_⟩;have vl:=tp6.1;refine Joj (xs:=vs) (λi σ H'=>∃(o6:Option V) (ws:List V),σ= [some (.ref o),some x,some (.ref Rw),o3,some (.ref TW),some (.ref L),o6]/\H' L=some (.lst ws)/\CcL H' ws (((rwN R sk R.Bs.length).take i).flatMap λr=>(twL R).map λt=>(r,t))/\ws.length<=4*i/\Sl H6 H') ?_ ?_ ?_ ?_
  ·exact ⟨_,[],rfl,Sr,.nil,yg 0,sL⟩
  ·rintro i σ H' _ ⟨_,_,_,_,_,_,sm⟩;exact Sz.of (sm _ _ hRw6)
  ·rintro i y σ H' hy ⟨o6,ws,rfl,hLs,cc,wl,sm⟩;have hi:i < vs.length:=(yi.mp hy).1;obtain ⟨r,err⟩:∃r,(rwN R sk R.Bs.length)[i]?=some r:=⟨(rwN R sk R.Bs.length)[i],yh (by omega)⟩;obtain ⟨q,rfl,hq⟩:=tp6.2 i y r hy err;refine ⟨_,rfl,.inl ⟨rfl,_,Sz.of hLs⟩,_,rfl,TW,rfl,⟨_,Sz.of (sm _ _ g6)⟩,λD hD=>?_⟩;refine Jop (K:=K) (xs:=(twL R).map twV) CcR ((twL R).map λt=>(r,t)) (CcR.mn D) hD (by simp) (by rw [ye];omega) (sm _ _ g6) ?_ ?_
   ·intro j z e H2 Q' hz he s2 _ k';rw [ym] at hz he;cases en:(twL R)[j]? with
    |none=>rw [en] at hz;cases hz
    |some n=>
     rw [en] at hz he;cases hz;cases he;refine ⟨_,rfl,_,rfl,(show 2<=S9 by decide),λp hp=>?_⟩;have sp:=Sl.upd (o:=.tup [.ref q,twV n]) hp;exact k' _ _ sp ⟨p,q,rfl,Sr,sp _ _ (s2 _ _ (sm _ _ hq))⟩
   ·intro ys H2 s2 hDs ty;have yl:=ty.1;rw [ye] at yl;have hL2:=s2 _ _ hLs;refine ⟨L,D,ws,ys,rfl,rfl,hL2,hDs,Jn4 _ (by omega),_,ws++ys,rfl,Sr,?_,by rw [yad];omega,λc u e=>?_⟩
    ·rw [yaa,err,List.flatMap_append];refine Sag.on (CcR.mn L) (OnD.grow hL2) (Sag.append (Sag.on (CcR.mn L) (OnD.same s2) cc) ?_);show CcL _ ys (List.flatMap _ [r]);rw [List.flatMap_singleton];exact ty
    ·rw [Sx (Jm2 e hL)];exact s2 _ _ (sm _ _ e)
  ·rintro σ H' ⟨o6,ws,rfl,hLs,cc,wl,sm⟩;rw [vl,ybn] at cc;have h0:H L=none:=by
    cases e:H L with
    |none=>rfl
    |some u=>rw [s06 _ _ e] at hL;cases hL
   exact ⟨_,rfl,k L ws H' h0 (s06.trans sm) hLs cc⟩
noncomputable def Yb (R:Riv) (wet:Int):Int:=
 if (R.Bs.map (·.rn)).sum < (if 0 > wet+R.g - R.c then 0 else wet+R.g - R.c) then (R.Bs.map (·.rn)).sum else (if 0 > wet+R.g - R.c then 0 else wet+R.g - R.c)
inductive Yeh (K:Sg) (a:Ad) (vs:List V) (H:Hp) (Q:VK) (z3:XK):Prop where
 |mk (o:S4) (R:Riv) (wet:Int) (_:vs= [.ref o,.int wet]) (_:Sah K a H o R) (_:∀H',Sl H H'->Q (.int (Yb R wet)) H')
theorem Yca {Bs:List Bsn} (n1:Bs.length<=16) (n3:∀B∈Bs,0<=B.rn/\B.rn<=6):Sml (Bs.map (·.rn)):=by
 refine ⟨by rw [ye];omega,λn hn=>?_⟩;obtain ⟨B,hB,rfl⟩:=yo.mp hn;have:=n3 B hB;omega
theorem Sd9:Jm6 ["river","wet","too_many"] ["river","wet"] (Jm5 (top 23)):=%[|0]
theorem Jvc (T:Tx K mg a):Sv P w K mg base CX0 1 a.Jh8 a.Jh9 ["river","wet"] (Yeh K a):=by
 refine %[T.J3.fn.ok,Sd9|2]
 ·obtain ⟨o,R,wet,rfl,_⟩:=h;rfl
 ·obtain ⟨o,R,wet,rfl,ro,k⟩:=h;refine ⟨?t,?B,?C⟩
  case B=>
   refine' Jlz ?O0 ?O1
   case O0=>exact (Jmb (i:=2) Sd9.nd rfl (yf rfl) (Jm8 (Jpm rfl) (by rfl) T.Jaw Jup (Sm (Jm9 Jnk (Jm9 Jml (pv 1) (Jmd (pv 0) (by rfl))) (Jmd (pv 0) (by rfl))) (Sm Su So))))
   case O1=>
   refine' Jm1 ?O2
   case O2=>exact (Jma (Jm8 (Jsw rfl) (by rfl) T.Jax Y4 (Sm (pv 2) (Sm (Jm8 (Jqe rfl) (by rfl) T.Jb2 Jqc (Sm (Jmt (N:=(["basin"]:List Str)) (ini:=[none]) rfl (Jtf (Jmd (pv 0) (by rfl))) (λ_ _ _ _ _=>(Jm7 (i:=0) (by decide +kernel:(["basin"]:List Str).Nodup) rfl (yf rfl))) (λ_ _ _ _ _=>Jmq) (λ_ _ _ _ _=>(Joa (K:=K) rfl (pv 0) (by rfl)))) So)) So))))
  obtain ⟨dx,b,t,os,ts,ho,hb,bl,ht,tl,n1,n2,n3⟩:=ro;have len:=bl.len;refine ⟨_,rfl,_,rfl,o,_,dx,_,_,rfl,ho,T.Jet,T.Jfx,rfl,_,_,rfl,rfl,?_⟩;refine ⟨_,rfl,o,_,dx,_,_,rfl,ho,T.Jet,T.Jfw,rfl,_,_,rfl,rfl,_,_,rfl,?_⟩;refine ⟨_,rfl,_,rfl,o,_,dx,_,_,rfl,ho,T.Jet,T.Jfy,rfl,b,rfl,⟨_,SqT.of hb⟩,λD hD=>?_⟩;refine Jww ((R.Bs.map (·.rn)).map V.int) hD (by simp [len]) (by rw [ye];omega) hb ?_ ?_
  ·intro i x y H' Q' hx hy sm k';obtain ⟨ob,B,rfl,hB,dx,hb,gs⟩:=(bl.same sm).get hx;rw [ym,ym,hB] at hy;cases hy;exact ⟨_,rfl,ob,_,dx,_,_,rfl,hb,T.Jen,T.Jfr,rfl,k' _ λ_ _ h=>h⟩
  intro H1 s1 hD1;exact ⟨D,_,rfl,.inl (Sz.of hD1),Yca n1 n3,_,_,rfl,k _ s1⟩
noncomputable def rnS (R:Riv) (wet:Int) (i:Nat):List (List Int):=(R.Bs.take i).foldl (λrs B=>(lgR rs (rgI (B.rn+1).toNat)).filter λr=>decide (r.sum<=wet)) [[]]
theorem Jzq {R:Riv} {wet:Int} {i:Nat} {B:Bsn} (h:R.Bs[i]?=some B):rnS R wet (i+1)=(lgR (rnS R wet i) (rgI (B.rn+1).toNat)).filter λr=>decide (r.sum<=wet):=by
 unfold rnS;rw [yaa,h,yca];rfl
noncomputable def rnL (R:Riv) (wet:Int):List (List Int):=(rnS R wet R.Bs.length).filter λr=>decide (Yb R wet<=r.sum)
inductive RnB (R:Riv):Prop where
 |mk (b:Nat) (_:1<=b) (_:b^R.Bs.length<=1000) (_:∀B∈R.Bs,0<=B.rn/\B.rn+1<=b/\B.rn<=6)
theorem Joc (n:Nat):(rgI n).length=n:=by
 unfold rgI;rw [ye,ybm]
theorem Jyg {n:Nat} {x:Int} (h:x∈rgI n):0<=x/\x < n:=by
 unfold rgI at h;obtain ⟨k,hk,rfl⟩:=yo.mp h;have:=ybu.mp hk;omega
theorem Yau {rs:List (List Int)} {ns:List Int} {r:List Int} (h:r∈lgR rs ns):∃r0∈rs,∃n∈ns,r=r0++ [n]:=by
 unfold lgR at h;obtain ⟨r0,hr0,hr⟩:=ycv.mp h;obtain ⟨n,hn,rfl⟩:=yo.mp hr;exact ⟨r0,hr0,n,hn,rfl⟩
noncomputable def R6 (i:Nat) (r:List Int):Prop:=r.length=i/\∀n∈r,0<=n/\n<=6
theorem R6.snoc {i:Nat} {r:List Int} {n:Int} (h:R6 i r) (h0:0<=n) (h6:n<=6):R6 (i+1) (r++ [n]):=by
 refine ⟨by rw [yad,h.1];rfl,λm hm=>?_⟩;rcases yax.mp hm with q|q
 ·exact h.2 m q
 ·rw [yam.mp q];exact ⟨h0,h6⟩
theorem R6.sml {i:Nat} {r:List Int} (h:R6 i r) (hi:i<=16):Sml r:=⟨by rw [h.1];omega,λn hn=>by have:=h.2 n hn;omega⟩
theorem Skw {rs:List (List Int)} {B:Bsn} {i:Nat} (h:∀r∈rs,R6 i r) (h0:0<=B.rn) (h6:B.rn<=6):∀r∈lgR rs (rgI (B.rn+1).toNat),R6 (i+1) r:=by
 intro r hr;obtain ⟨r0,hr0,n,hn,rfl⟩:=Yau hr;have:=Jyg hn;exact (h r0 hr0).snoc (by omega) (by omega)
theorem Ye6 {R:Riv} {wet:Int} {b:Nat} (hb:∀B∈R.Bs,0<=B.rn/\B.rn+1<=b/\B.rn<=6):∀i,i<=R.Bs.length->(rnS R wet i).length<=b^i/\∀r∈rnS R wet i,R6 i r:=by
 intro i
 induction i with
 |zero=>
  refine λ_=>⟨yg 1,λr hr=>?_⟩;have hr':r∈ [([]:List Int)]:=hr;rw [yam.mp hr'];exact ⟨rfl,λn hn=>nomatch hn⟩
 |succ i ih=>
  intro h;obtain ⟨h1,h2⟩:=ih (by omega);have eB:R.Bs[i]?=some R.Bs[i]:=yh (by omega);obtain ⟨q0,q1,q2⟩:=hb _ (ybb (by omega:i < R.Bs.length));rw [Jzq eB];refine ⟨yai (List.length_filter_le _ _) ?_,λr hr=>Skw h2 q0 q2 r (yck.mp hr).1⟩;rw [Jue,Joc,Nat.pow_succ];exact Nat.mul_le_mul h1 (by omega)
theorem Ssd {R:Riv} {wet:Int} (h:RnB R):(rnL R wet).length<=1000/\∀r∈rnL R wet,R6 R.Bs.length r:=by
 obtain ⟨b,_,b2,hb⟩:=h;obtain ⟨h1,h2⟩:=Ye6 (wet:=wet) hb R.Bs.length (yg _);exact ⟨yai (List.length_filter_le _ _) (yai h1 b2),λr hr=>h2 r (yck.mp hr).1⟩
inductive Ygr (K:Sg) (a:Ad) (vs:List V) (H:Hp) (Q:VK) (z3:XK):Prop where
 |mk (o:S4) (R:Riv) (wt:Int) (_:vs= [.ref o,.int wt]) (_:Sah K a H o R) (_:RnB R) (_:∀(L:S4) (us:List V) (H':Hp),H L=none->Sl H H'->H' L=some (.lst us)->TpL H' us (rnL R wt)->Q (.ref L) H')
theorem Sbd:Jm6 ["river","wet","rows","basin","longer","least"] ["river","wet"] (Jm5 (top 45)):=%[|0]
theorem Jzl (T:Tx K mg a):Sv P w K mg base CX0 2 a.Jie a.Jif ["river","wet"] (Ygr K a):=by
 have Scj:=%[Jql|1];have Sf1:=%[Jvc|1];refine %[T.Jm.fn.ok,Sbd|2]
 ·obtain ⟨o,R,wt,rfl,_⟩:=h;rfl
 ·obtain ⟨o,R,wt,rfl,ro,⟨bb,b1,bp,hb6⟩,k⟩:=h;refine ⟨?t,?B,?C⟩
  case B=>
   refine' Jlz ?O0 ?O1
   case O0=>exact (Jmb (i:=2) Sbd.nd rfl (yf rfl) (Jmy (Sm (Jmz So) So)))
   case O1=>
   refine' Jlz ?O2 ?O3
   case O2=>
    refine' Jnq ?O4 ?O5 ?O6 ?O7 ?O8
    case O4=>exact PassesOwn.never
    case O5=>exact rfl
    case O6=>exact (Jtf (Jmd (pv 0) (by rfl)))
    case O7=>exact (Jm7 (i:=3) Sbd.nd rfl (yf rfl))
    case O8=>
    refine' Jlz ?O9 ?Oa
    case O9=>exact (Jmb (i:=4) Sbd.nd rfl (yf rfl) (Jm4 T.Jk Scj hr (by decide) (Sm (pv 2) (Sm (Jms (Jpj rfl) (by rfl) T.Jav Joq (Sm (Jms Jsx (by rfl) T.Jay Juq (Sm (Jm9 Jml (Jmd (pv 3) (by rfl)) Su) So)) So)) So))))
    case Oa=>
    refine' Jm1 ?Ob
    case Ob=>exact (Jsi (i:=2) (N:=(["row","wet"]:List Str)) (ini:=[none,some 1]) Sbd.nd rfl (yf rfl) rfl (Jn0 (pv 4)) (λ_ _ _ _ _=>(Jm7 (i:=0) (by decide +kernel:(["row","wet"]:List Str).Nodup) rfl (yf rfl))) (λ_ _ _ _ _=>(Jyc (Jmm Jqm (Jm8 (Jqw (K:=K) rfl rfl) (by rfl) T.Jb2 Jqc (Sm (pv 0) So)) (pv 1) (Jmp _)))) (λ_ _ _ _ _=>(pv 0)))
   case O3=>
   refine' Jlz ?Oc ?Od
   case Oc=>exact (Jmb (i:=5) Sbd.nd rfl (yaq rfl) (Jm4 T.J3 Sf1 hr (by decide) (Sm (pv 0) (Sm (pv 1) So))))
   case Od=>
   refine' Jm1 ?Oe
   case Oe=>exact (Jma (Jmt (N:=(["row","least"]:List Str)) (ini:=[none,some 5]) rfl (Jn0 (pv 2)) (λ_ _ _ _ _=>(Jm7 (i:=0) (by decide +kernel:(["row","least"]:List Str).Nodup) rfl (yf rfl))) (λ_ _ _ _ _=>(Jyc (Jmm Sky (Jm8 (Jqw (K:=K) rfl rfl) (by rfl) T.Jb2 Jqc (Sm (pv 0) So)) (pv 1) (Jmp _)))) (λ_ _ _ _ _=>(pv 0))))
  obtain ⟨dx,b,t,os,ts,ho,hb,bl,ht,tl,n1,n2,n3⟩:=id ro;have len:=bl.len;refine ⟨(show 0<=S9 by decide),λe0 he0=>⟨(show 1<=S9 by decide),λl0 hl0=>?_⟩⟩;have s0:Sl H (upd (upd H e0 (.tup [])) l0 (.lst [.ref e0])):=(Sl.upd he0).trans (Sl.upd hl0);have tp0:TpL (upd (upd H e0 (.tup [])) l0 (.lst [.ref e0])) [.ref e0] [[]]:=TpL.one ((Sl.upd hl0) _ _ Sr);have g0:=Sr (H:=upd H e0 (.tup [])) (a:=l0) (o:=.lst [.ref e0]);generalize upd (upd H e0 (.tup [])) l0 (.lst [.ref e0])=H0 at*;refine ⟨_,rfl,o,_,dx,_,_,rfl,s0 _ _ ho,T.Jet,T.Jfy,rfl,b,rfl,⟨_,SqT.of (s0 _ _ hb)⟩,?_⟩;refine Jub (K:=K) (a:=b) (xs:=os.map V.ref) (λi σ H'=>∃(Rw:S4) (vs:List V) (o3 o4:Option V),σ= [some (.ref o),some (.int wt),some (.ref Rw),o3,o4,none]/\H' Rw=some (.lst vs)/\TpL H' vs (rnS R wt i)/\Sl H H') ?_ ?_ ?_ ?_
  ·exact ⟨l0,[.ref e0],_,_,rfl,g0,tp0,s0⟩
  ·rintro i σ H' _ ⟨_,_,_,_,_,_,_,sm⟩;exact SqT.of (sm _ _ hb)
  ·rintro i x σ H' hx ⟨Rw,vs,o3,o4,rfl,hRw,tp,sm⟩;obtain ⟨ob,B,rfl,hB,dx',hb',gs⟩:=(bl.same sm).get hx;have hi:i < R.Bs.length:=(yi.mp hB).1;obtain ⟨q0,q1,q2⟩:=hb6 B (yr hB);obtain ⟨r1,r2⟩:=Ye6 (wet:=wt) hb6 i (by omega);have hpow:bb^i*bb<=1000:=by
    rw [<-Nat.pow_succ];exact yai (Nat.pow_le_pow_right b1 (by omega)) bp
   refine ⟨_,rfl,_,rfl,ob,_,dx',_,_,rfl,hb',T.Jen,T.Jfr,rfl,_,_,rfl,rfl,_,rfl,λp hp=>⟨p,_,_,rfl,Sr,by omega,by omega,by omega,?_,λl2 hl2=>?_⟩⟩
   ·omega
   have er:((yaw ((B.rn+1) - 0).toNat).map λk:Nat=>V.int (0+k))=(rgI (B.rn+1).toNat).map V.int:=by
    unfold rgI;rw [yas,Int.sub_zero];exact List.map_congr_left λk _=>by simp
   rw [er];have sp:Sl H' (upd (upd H' p (.rng 0 (B.rn+1))) l2 (.lst ((rgI (B.rn+1).toNat).map V.int))):=(Sl.upd hp).trans (Sl.upd hl2);have g2:=Sr (H:=upd H' p (.rng 0 (B.rn+1))) (a:=l2) (o:=.lst ((rgI (B.rn+1).toNat).map V.int));generalize upd (upd H' p (.rng 0 (B.rn+1))) l2 (.lst ((rgI (B.rn+1).toNat).map V.int))=H1 at*;have gl:=Joc (B.rn+1).toNat;have m1:(rnS R wt i).length*(rgI (B.rn+1).toNat).length<=1000:=yai (Nat.mul_le_mul r1 (by omega)) hpow;refine ⟨Rw,l2,vs,rnS R wt i,rgI (B.rn+1).toNat,rfl,sp _ _ hRw,TpL.on (λq xs e=>sp _ _ e) tp,g2,λr hr=>?_,m1,by omega,λL ws H2 hL s2 hL2 tw=>?_⟩
   ·rw [(r2 r hr).1];omega
   have lg6:=Skw (B:=B) r2 q0 q2;have wl:=tw.1;rw [Jue] at wl;have s02:=(sm.trans sp).trans s2;refine ⟨_,rfl,L,rfl,⟨_,Sz.of hL2⟩,λD hD=>?_⟩;refine Jwv (K:=K) TpR _ (λr=>decide (r.sum<=wt)) (TpR.mn D) hD tw (by omega) hL2 ?_ ?_
   ·rintro j y r H3 Q' er ⟨q,rfl,hq⟩ k';exact ⟨_,rfl,q,r,rfl,.inr (SqT.of hq),(lg6 r (yr er)).sml (by omega),_,rfl,_,_,rfl,rfl,_,rfl,k'⟩
   ·intro ys H3 s3 hDs ty;rw [<-Jzq hB] at ty;exact ⟨D,ys,_,_,rfl,hDs,ty,s02.trans s3⟩
  rintro σ H2 ⟨Rw,vs,o3,o4,rfl,hRw,tp,s2⟩;rw [ye,len] at tp;obtain ⟨r1,r2⟩:=Ye6 (wet:=wt) hb6 R.Bs.length (yg _);refine ⟨_,rfl,_,rfl,o,R,wt,rfl,ro.same s2,λH3 s3=>?_⟩;have s03:=s2.trans s3;have tp3:=TpL.on (λq xs e=>s3 _ _ e) tp;have hRw3:=s3 _ _ hRw;have vl:=tp3.1;refine ⟨_,rfl,Rw,rfl,⟨_,Sz.of hRw3⟩,λD hD=>?_⟩;refine Jwv (K:=K) TpR _ (λr=>decide (Yb R wt<=r.sum)) (TpR.mn D) hD tp3 (by omega) hRw3 ?_ ?_
  ·rintro j y r H4 Q' er ⟨q,rfl,hq⟩ k';exact ⟨_,rfl,q,r,rfl,.inr (SqT.of hq),(r2 r (yr er)).sml (by omega),_,rfl,_,_,rfl,rfl,_,rfl,k'⟩
  ·intro ys H4 s4 hDs ty;have h0:H D=none:=by
    cases e:H D with
    |none=>rfl
    |some u=>rw [s03 _ _ e] at hD;cases hD
   exact k D ys H4 h0 (s03.trans s4) hDs ty
noncomputable def Jvl (kd:Str) (m lv:Int):Int:=if kd=("step" :Str) then (if lv < m then lv else m) else if kd=("flap" :Str) then (if 0 > lv - m then 0 else lv - m) else lv/m
noncomputable def lvG (G:Jmi) (s lv:Int):Int:=Jvl G.kd (G.ns.getD (match G.sv with|some j=>j|none=>s).toNat 0) lv
inductive Ya7 (C:S4) (lo:Int) (f:Int->Int->Int) (vs:List V) (H:Hp) (Q:VK) (z3:XK):Prop where
 |mk (g:S4) (ns:List Int) (s lv:Int) (_:vs= [.ref g,.int s,.int lv]) (_:Sc1 C H g (ns.map V.int)) (_:(0<=s/\s < ns.length)) (_:(∀n∈ns,lo<=n/\n<=12)) (_:(0<=lv/\lv<=1000)) (_:Q (.int (f (ns.getD s.toNat 0) lv)) H)
theorem Jry:Jm6 ["self","setting","level"] ["self","setting","level"] (Jm5 (Jmc (top 58) 2)):=%[|0]
theorem Jrp (T:Tx K mg a):Sv P w K mg base CX0 1 a.Jj2 a.Jj3 ["self","setting","level"] (Ya7 a.Jlo 0 λm lv=>if lv < m then lv else m):=by
 refine %[T.Jd2.fn.ok,Jry|2]
 ·obtain ⟨g,ns,s,lv,rfl,_⟩:=h;rfl
 ·obtain ⟨g,ns,s,lv,rfl,⟨dx,t,hg,ht⟩,hs,hn,hl,k⟩:=h;obtain ⟨hat,hin⟩:=Jug hs;refine ⟨?t,?B,?C⟩
  case B=>
   refine' Jm1 ?O0
   case O0=>exact (Jma (Jm8 (Jsw rfl) (by rfl) T.Jax Y4 (Sm (Jmf Jmk (Jmd (pv 0) (by rfl)) (pv 1) (λ_ _=>rfl)) (Sm (pv 2) So))))
  exact ⟨_,rfl,g,_,dx,_,_,rfl,hg,T.Jdz,T.Jfi,rfl,_,rfl,t,_,_,_,rfl,rfl,SqT.of ht,hat,_,rfl,_,_,rfl,k⟩
theorem Jrt:Jm6 ["self","setting","level"] ["self","setting","level"] (Jm5 (Jmc (top 59) 2)):=%[|0]
theorem Jrn (T:Tx K mg a):Sv P w K mg base CX0 1 a.Jj8 a.Jj9 ["self","setting","level"] (Ya7 a.Jlp 0 λm lv=>if 0 > lv - m then 0 else lv - m):=by
 refine %[T.Jd5.fn.ok,Jrt|2]
 ·obtain ⟨g,ns,s,lv,rfl,_⟩:=h;rfl
 ·obtain ⟨g,ns,s,lv,rfl,⟨dx,t,hg,ht⟩,hs,hn,hl,k⟩:=h;obtain ⟨hat,hin⟩:=Jug hs;refine ⟨?t,?B,?C⟩
  case B=>
   refine' Jm1 ?O0
   case O0=>exact (Jma (Jm8 (Jpm rfl) (by rfl) T.Jaw Jup (Sm (Jm9 Jnk (pv 2) (Jmf Jmk (Jmd (pv 0) (by rfl)) (pv 1) (λ_ _=>rfl))) (Sm Su So))))
  exact ⟨_,rfl,_,rfl,g,_,dx,_,_,rfl,hg,T.Je5,T.Jfj,rfl,_,rfl,t,_,_,_,rfl,rfl,SqT.of ht,hat,_,_,rfl,rfl,_,_,rfl,k⟩
theorem Jrx:Jm6 ["self","setting","level"] ["self","setting","level"] (Jm5 (Jmc (top 60) 2)):=%[|0]
theorem Jro (T:Tx K mg a):Sv P w K mg base CX0 1 a.Jje a.Jjf ["self","setting","level"] (Ya7 a.Jlq 1 λm lv=>lv/m):=by
 refine %[T.Jd8.fn.ok,Jrx|2]
 ·obtain ⟨g,ns,s,lv,rfl,_⟩:=h;rfl
 ·obtain ⟨g,ns,s,lv,rfl,⟨dx,t,hg,ht⟩,hs,hn,hl,k⟩:=h;obtain ⟨hat,hin⟩:=Jug hs;refine ⟨?t,?B,?C⟩
  case B=>
   refine' Jm1 ?O0
   case O0=>exact (Jma (Jm9 Jom (pv 2) (Jmf Jmk (Jmd (pv 0) (by rfl)) (pv 1) (λ_ _=>rfl))))
  have hm:=hn _ hin;refine ⟨_,rfl,_,rfl,g,_,dx,_,_,rfl,hg,T.Jeb,T.Jfk,rfl,_,rfl,t,_,_,_,rfl,rfl,SqT.of ht,hat,?_⟩;exact ⟨_,_,rfl,rfl,⟨by omega,Jo6 (by omega)⟩,k⟩
theorem Jx8:∀{ns:List Int} {lo:Int},Jnh lo (ns.map V.int)=true->∀n∈ns,lo<=n/\n<=12
 | [],_,_=>λ_ h=>nomatch h
 |x::r,lo,h=>by
  have h':((decide (lo<=x)&&decide (x<=12))&&Jnh (x+1) (r.map V.int))=true:=h;rw [yan,yan,decide_eq_true_eq,decide_eq_true_eq] at h';intro n hn;rcases yq.mp hn with rfl|hn
  ·exact h'.1
  ·have:=Jx8 h'.2 n hn;omega
theorem Sbk.marks {G:Jmi} (h:Sbk G):∀n∈G.ns,Jp9 G.kd<=n/\n<=12:=by
 have q:(decide (1<=(G.ns.map V.int).length/\(G.ns.map V.int).length<=4)&&Jnh (Jp9 G.kd) (G.ns.map V.int))=true:=h.ns;rw [yan] at q;exact Jx8 q.2
theorem Jtw {H:Hp} {g:S4} {kd:Str} {ns:List Int} {s lv:Int} {Q:VK} (T:Tx K mg a) (hk:Knd kd) (ga:Sc1 (cOf a kd) H g (ns.map V.int)) (hs:0<=s/\s < ns.length) (hn:∀n∈ns,Jp9 kd<=n/\n<=12) (hl:0<=lv/\lv<=1000) (k:Q (.int (Jvl kd (ns.getD s.toNat 0) lv)) H):
  ∃C dx fs f fd ps sp,H g=some (.ins C dx fs)/\fs.lookup ("passes" :Str)=none/\Cls K C/\Jp0 K C "passes" f/\Sv P w K mg base CX0 1 f fd ps sp/\Sbc K fd ps []/\sp [.ref g,.int s,.int lv] H Q E0:=by
 obtain ⟨dx,t,h1,h2⟩:=id ga;rcases hk with rfl|rfl|rfl
 ·have e2:cOf a "step" =a.Jlo:=if_pos rfl;rw [e2] at h1 ga;exact ⟨_,dx,_,_,_,_,_,h1,rfl,T.Jdz,T.Je4,Jrp T,T.Jd2.bd,g,ns,s,lv,rfl,ga,hs,hn,hl,k⟩
 ·have e2:cOf a "flap" =a.Jlp:=by unfold cOf;rw [if_neg Jxa,if_pos rfl]
  rw [e2] at h1 ga;have ek:Jvl "flap" (ns.getD s.toNat 0) lv=(if 0 > lv - ns.getD s.toNat 0 then 0 else lv - ns.getD s.toNat 0):=by unfold Jvl;rw [if_neg Jxa,if_pos rfl]
  rw [ek] at k;exact ⟨_,dx,_,_,_,_,_,h1,rfl,T.Je5,T.Jea,Jrn T,T.Jd5.bd,g,ns,s,lv,rfl,ga,hs,hn,hl,k⟩
 ·have e2:cOf a "part" =a.Jlq:=by unfold cOf;rw [if_neg Jxc,if_neg Jxb]
  rw [e2] at h1 ga;have ek:Jvl "part" (ns.getD s.toNat 0) lv=lv/ns.getD s.toNat 0:=by unfold Jvl;rw [if_neg Jxc,if_neg Jxb]
  rw [ek] at k;exact ⟨_,dx,_,_,_,_,_,h1,rfl,T.Jeb,T.Jeg,Jro T,T.Jd8.bd,g,ns,s,lv,rfl,ga,hs,hn,hl,k⟩
theorem Yds {H:Hp} {g:S4} {kd:Str} {xs:List V} (T:Tx K mg a) (hk:Knd kd) (ga:Sc1 (cOf a kd) H g xs):∃t,TyX K H (.ref g) t/\Sh K t (.ref a.Jlr)=some false:=by
 obtain ⟨dx,t,h1,h2⟩:=ga;rcases hk with rfl|rfl|rfl
 ·rw [show cOf a "step" =a.Jlo from if_pos rfl] at h1;exact ⟨_,.of (T.Je0.ty T.Jdz h1),T.Jge⟩
 ·rw [show cOf a "flap" =a.Jlp by unfold cOf;rw [if_neg Jxa,if_pos rfl]] at h1;exact ⟨_,.of (T.Je6.ty T.Je5 h1),T.Jgf⟩
 ·rw [show cOf a "part" =a.Jlq by unfold cOf;rw [if_neg Jxc,if_neg Jxb]] at h1;exact ⟨_,.of (T.Jec.ty T.Jeb h1),T.Jgg⟩
inductive Ygo (a:Ad) (vs:List V) (H:Hp) (Q:VK) (z3:XK):Prop where
 |mk (x g dx:S4) (y:V) (kd:Str) (ns:List Int) (j lv:Int) (_:vs= [.ref x,y,.int lv]) (_:H x=some (.ins a.Jlr dx [("gate",.ref g),("setting",.int j)])) (_:Knd kd) (_:Sc1 (cOf a kd) H g (ns.map V.int)) (_:(0<=j/\j < ns.length)) (_:(∀n∈ns,Jp9 kd<=n/\n<=12)) (_:(0<=lv/\lv<=1000)) (_:Q (.int (Jvl kd (ns.getD j.toNat 0) lv)) H)
theorem Sb6:Jm6 ["self","setting","level","inner"] ["self","setting","level"] (Jm5 (Jmc (top 61) 2)):=%[|0]
theorem Jr7 (T:Tx K mg a):Sv P w K mg base CX0 2 a.Jjk a.Jjl ["self","setting","level"] (Ygo a):=by
 refine %[T.Jdb.fn.ok,Sb6|2]
 ·obtain ⟨x,g,dx,y,kd,ns,j,lv,rfl,_⟩:=h;rfl
 ·obtain ⟨x,g,dx,y,kd,ns,j,lv,rfl,hx,hk,ga,hj,hn,hl,k⟩:=h;refine ⟨?t,?B,?C⟩
  case B=>
   refine' Jlz ?O0 ?O1
   case O0=>exact (Jmb (i:=3) Sb6.nd rfl (yf rfl) (pv 0))
   case O1=>
   refine' Jlz ?O2 ?O3
   case O2=>exact (Ydv PassesOwn.never (Jn5 (Jm8 Jos (by rfl) T.Jat Jmx (Sm (Jmd (pv 3) (by rfl)) (Sm (Jnb (by rfl) T.Jbk (v:=.ref _) rfl) So)))) (Jm1 (Jmb (i:=3) Sb6.nd rfl (yf rfl) (Jmd (pv 3) (by rfl)))))
   case O3=>
   refine' Jm1 ?O4
   case O4=>exact (Jma (Jsg (Jmd (pv 3) (by rfl)) hr (Sm (Jmd (pv 3) (by rfl)) (Sm (pv 2) So))))
  obtain ⟨t,tg,et⟩:=Yds T hk ga;obtain ⟨C,dx',fs,f,fd,ps,sp,h1,h2,c,m,ok,bd,hsp⟩:=Jtw (P:=P) (w:=w) (base:=base) (Q:=Q) T hk ga hj hn hl k;refine ⟨_,rfl,λ_ σ' H'=>σ'= [some (.ref x),some y,some (.int lv),some (.ref x)]/\H'=H,⟨0,rfl,rfl⟩,?_⟩;rintro n σ' H' ⟨rfl,rfl⟩;refine ⟨_,rfl,x,_,dx,_,_,rfl,hx,T.Jeh,T.Jfl,rfl,_,_,_,t,false,rfl,rfl,tg,et,_,rfl,Jn9 ?_⟩;exact ⟨_,rfl,x,_,dx,_,_,rfl,hx,T.Jeh,T.Jfl,rfl,g,C,dx',fs,f,fd,ps,sp,1,rfl,h1,h2,c,m,ok,by decide,bd,_,rfl,x,_,dx,_,_,rfl,hx,T.Jeh,T.Jfm,rfl,_,rfl,hsp⟩
theorem GX.passes {H:Hp} {x:V} {G:Jmi} {s lv:Int} {Q:VK} (T:Tx K mg a) (gg:Sbk G) (gx:GX a H x G) (hs:0<=s/\s < (nOf G:Int)) (hl:0<=lv/\lv<=1000) (k:Q (.int (lvG G s lv)) H):
  ∃o C dx fs f fd ps sp k',x= .ref o/\H o=some (.ins C dx fs)/\fs.lookup ("passes" :Str)=none/\Cls K C/\Jp0 K C "passes" f/\Sv P w K mg base CX0 k' f fd ps sp/\k'<=2/\Sbc K fd ps []/\sp [x,.int s,.int lv] H Q E0:=by
 obtain ⟨g,ga,r⟩:=gx;unfold lvG at k;unfold nOf at hs;cases e:G.sv with
 |none=>
  rw [e] at r k hs;subst r;obtain ⟨C,dx',fs,f,fd,ps,sp,h1,h2,c,m,ok,bd,hsp⟩:=Jtw (P:=P) (w:=w) (base:=base) (Q:=Q) T gg.kd ga hs gg.marks hl k;exact ⟨g,C,dx',fs,f,fd,ps,sp,1,rfl,h1,h2,c,m,ok,by decide,bd,hsp⟩
 |some j=>
  rw [e] at r k;obtain ⟨q,dx,rfl,r2⟩:=r;exact ⟨q,_,dx,_,_,_,_,_,2,rfl,r2,rfl,T.Jeh,T.Jem,Jr7 T,by decide,T.Jdb.bd,q,g,dx,.int s,G.kd,G.ns,j,lv,rfl,r2,gg.kd,ga,gg.sv j e,gg.marks,hl,k⟩
inductive Yek (a:Ad) (vs:List V) (H:Hp) (Q:VK) (z3:XK):Prop where
 |mk (x:V) (G:Jmi) (s lv:Int) (_:vs= [x,.int s,.int lv]) (_:GX a H x G) (_:Sbk G) (_:(0<=s/\s < (nOf G:Int))) (_:(0<=lv/\lv<=1000)) (_:Q (.int (lvG G s lv)) H)
theorem Jqp:Jm6 ["self","thing"] ["self","thing"] (Jm5 (Jmc (top 12) 0)):=%[|0]
theorem Jt6 (T:Tx K mg a):Sv P w K mg base CX0 1 a.Jh0 a.Jh1 ["self","thing"] (Jp7 K "thing"):=by
 refine %[T.Jct.fn.ok,Jqp|2]
 ·obtain ⟨e,C,W,fI,y,rfl,_⟩:=h;rfl
 ·obtain ⟨e,C,W,fI,y,rfl,q,c,n,k⟩:=h;refine ⟨_,(Jm1 (Jp3 (pv 0) (pv 1) rfl)),?_⟩;exact ⟨_,rfl,_,rfl,e,C,W,fI,true,rfl,q,c,n,k⟩
theorem Jyh:Jm6 ["self","setting","level"] ["self","setting","level"] (Jm5 (Jmc (top 57) 0)):=%[|0]
theorem Jp2 (T:Tx K mg a):Sv P w K mg base (CXX P w) 3 a.Jiw a.Jix ["self","setting","level"] (Yek a):=by
 have Sa4:=%[Jnx|1];have Sa5:=%[Jol|1];have Sdf:=%[Jt6|1];refine %[T.Jcz.fn.okX,Jyh|2]
 ·obtain ⟨x,G,s,lv,rfl,_⟩:=h;rfl
 ·obtain ⟨x,G,s,lv,rfl,gx,gg,hs,hl,k⟩:=h;refine ⟨?t,?B,?C⟩
  case B=>
   refine' Jlz ?O0 ?O1
   case O0=>
    refine' Jmr ?O2 ?O3 ?O4
    case O2=>exact (Jn3 (Jn5 (Jm4 T.J0 Sa4 hr (by decide) (Sm (pv 1) (Sm Su (Sm (Jm9 Jnk (Jr2 (pv 0) hr) Su) So))))))
    case O3=>
     refine' Jm1 ?O5
     case O5=>exact (Jn7 Jn6 rfl (Jnz T.Jdi Sa5 hr (by decide) T.Jcm.bd T.Jb6 (Sm (pv 1) So)))
    case O4=>exact Jme
   case O1=>
   refine' Jlz ?O6 ?O7
   case O6=>
    refine' Jmr ?O8 ?O9 ?Oa
    case O8=>exact (Jn3 (Jn5 (Jm4 T.J0 Sa4 hr (by decide) (Sm (pv 2) (Sm Su (Sm (Jnb (by rfl) T.Jag (v:=.int 1000) ⟨_,rfl⟩) So))))))
    case O9=>
     refine' Jm1 ?Ob
     case Ob=>exact (Jn7 Jn6 rfl (Jnz T.Jdr Sdf hr (by decide) T.Jct.bd T.Jbd (Sm (pv 2) So)))
    case Oa=>exact Jme
   case O7=>
   refine' Jm1 ?Oc
   case Oc=>exact (Jma (Jsg (pv 0) hr (Sm (pv 1) (Sm (pv 2) So))))
  have gs:GS K a H x (nOf G):=gx.gs gg;obtain ⟨o,C,dx',fs,f,fd,ps,sp,k',rfl,h1,h2,c,m,ok,hk,bd,hsp⟩:=gx.passes (P:=P) (w:=w) (base:=base) (Q:=Q) T gg hs hl k;refine ⟨_,rfl,_,rfl,Jo8 T gs ⟨_,_,rfl,rfl,.int s,0,(nOf G:Int) - 1,rfl,.inl ⟨s,rfl⟩,_,rfl,ifF (by simp [Jmn];omega) ?_⟩ (by decide)⟩;refine ⟨_,rfl,.int lv,0,1000,rfl,.inl ⟨lv,rfl⟩,_,rfl,ifF (by simp [Jmn];omega) ?_⟩;exact ⟨_,rfl,o,C,dx',fs,f,fd,ps,sp,k',rfl,h1,h2,c,m,ok,hk,bd,_,rfl,_,rfl,hsp⟩
noncomputable def plc (S:Riv) (z:Str):Nat:=(S.Bs.map (·.z)).idxOf z
inductive Ygp (K:Sg) (a:Ad) (vs:List V) (H:Hp) (Q:VK) (z3:XK):Prop where
 |mk (o:S4) (S:Riv) (z:Str) (_:vs= [.ref o,.str z]) (_:Sah K a H o S) (_:z∈S.Bs.map (·.z)) (_:∀H',Sl H H'->Q (.int (plc S z)) H')
noncomputable def TIn (S:Riv):Prop:=∀T∈S.Ts,T.b∈S.Bs.map (·.z)/\1<=T.wt/\T.wt<=6
inductive Ygh (K:Sg) (a:Ad) (vs:List V) (H:Hp) (Q:VK) (z3:XK):Prop where
 |mk (o:S4) (S:Riv) (t:Int) (T:Twn) (_:vs= [.ref o,.int t]) (_:Sah K a H o S) (_:TIn S) (_:0<=t) (_:S.Ts[t.toNat]?=some T) (_:∀H',Sl H H'->Q (.int (plc S T.b)) H')
theorem Sc5.at {a:Ad} {H:Hp}:∀{xs:List S4} {Bs:List Twn} {i:Nat} {B:Twn},Sc5 a H xs Bs->Bs[i]?=some B->∃o,xs[i]?=some o/\Scp a H o B
 |o::_,_::_,0,_,⟨h,_⟩,e=>by cases e;exact ⟨o,rfl,h⟩
 |_::_,_::_,i+1,_,⟨_,t⟩,e=>Sc5.at (i:=i) t (by simpa using e)
 | [],[],i,_,_,e=>by simp at e
theorem Ydd:∀{l:List Str} {i:Nat} {z:Str},l[i]?=some z->(∀j,j < i->l[j]?≠some z)->l.idxOf z=i
 | [],_,_,h,_=>by simp at h
 |x::l,0,z,h,_=>by
  have e:x=z:=by simpa using h
  rw [e];simp
 |x::l,i+1,z,h,n=>by
  have hx:x≠z:=λe=>n 0 (by omega) (by simp [e]);have ih:=Ydd (l:=l) (i:=i) (z:=z) (by simpa using h) (λj hj=>by have:=n (j+1) (by omega);simpa using this);have hb:(x==z)=false:=beq_false_of_ne hx;simp [List.idxOf_cons,hb,ih]
theorem Sbh:Jm6 ["self","name","place","basin"] ["self","name"] (Jm5 (Jmc (top 75) 1)):=%[|0]
theorem Jsc (T:Tx K mg a):Sv P w K mg base CX0 1 a.Jk0 a.Jk1 ["self","name"] (Ygp K a):=by
 refine %[T.Jdf.fn.ok,Sbh|2]
 ·obtain ⟨o,S,z,rfl,_⟩:=h;rfl
 ·obtain ⟨o,S,z,rfl,ro,hz,k⟩:=h;refine ⟨?t,?B,?C⟩
  case B=>
   refine' Jlz ?O0 ?O1
   case O0=>
    refine' Jnq ?O2 ?O3 ?O4 ?O5 ?O6
    case O2=>exact PassesOwn.never
    case O3=>exact rfl
    case O4=>exact (Jzo (by rfl) T.Jar (Sm (Jmd (pv 0) (by rfl)) So))
    case O5=>exact (Jrr rfl (Jmh (Jm7 (i:=2) Sbh.nd rfl (yf rfl)) (Jmh (Jm7 (i:=3) Sbh.nd rfl (yf rfl)) Job)))
    case O6=>
    refine' Jm1 ?O7
    case O7=>
    refine' Jmr ?O8 ?O9 ?Oa
    case O8=>exact (Jmm Jpe (Jmd (pv 3) (by rfl)) (pv 1) (Jmp _))
    case O9=>
     refine' Jm1 ?Ob
     case Ob=>exact (Jma (pv 2))
    case Oa=>exact Jme
   case O1=>
   refine' Jm1 ?Oc
   case Oc=>exact (Jma Jnt)
  obtain ⟨dx,b,t,os,ts,ho,hb,bl,ht,tl,n1,n2,n3⟩:=ro;have len:=bl.len;refine ⟨_,rfl,o,_,dx,_,_,rfl,ho,T.Jet,T.Jfy,rfl,b,rfl,⟨_,SqT.of hb⟩,?_⟩;refine Yd6 (xs:=os.map V.ref) (λi σ H'=>(∃o1 o2,σ= [some (.ref o),some (.str z),o1,o2])/\Sl H H'/\∀j,j < i->∀B,S.Bs[j]?=some B->B.z≠z) ⟨⟨_,_,rfl⟩,Sl.refl _,λj hj=>absurd hj (Nat.not_lt_zero j)⟩ (λi σ H' _ ⟨_,sm,_⟩=>SqT.of (sm _ _ hb)) ?_ ?_
  ·rintro i x σ H' Ta hx ⟨⟨o1,o2,rfl⟩,sm,no⟩ hT;obtain ⟨ob,B,rfl,hB,dxb,hob,gs⟩:=(bl.same sm).get hx;have sT:=Sl.upd (o:=.tup [.int i,.ref ob]) hT;refine ⟨Ta,_,rfl,SqT.of Sr,rfl,_,_,rfl,_,_,rfl,rfl,?_⟩;refine ⟨_,rfl,ob,_,dxb,_,_,rfl,sT _ _ hob,T.Jen,T.Jfn,rfl,_,rfl,rfl,_,rfl,?_⟩;by_cases e:B.z=z
   ·refine ifT (by simp [e]) ⟨_,rfl,?_⟩;have ei:plc S z=i:=by
     refine Ydd (by rw [ym,hB,<-e];rfl) λj hj z'=>?_;rw [ym] at z';obtain ⟨B',hB',ez⟩:=ybc.mp z';exact no j hj B' hB' ez
    have k':=k _ (sm.trans sT);rw [ei] at k';exact k'
   ·refine ifF (by simp [e]) ⟨⟨_,_,rfl⟩,sm.trans sT,λj hj B' hB'=>?_⟩;by_cases ej:j=i
    ·subst ej;rw [hB] at hB';cases hB';exact e
    ·exact no j (by omega) B' hB'
  ·rintro σ H' ⟨_,sm,no⟩;exfalso;have hm:(S.Bs.map (·.z)).idxOf z < (S.Bs.map (·.z)).length:=List.idxOf_lt_length_of_mem hz;have hj:(S.Bs.map (·.z)).idxOf z < S.Bs.length:=by rw [ye] at hm;exact hm
   have g:=List.getElem_idxOf hm;rw [List.getElem_map] at g;exact no _ (by rw [ye,len];exact hj) _ (yh hj) g
theorem Jre:Jm6 ["river","town"] ["river","town"] (Jm5 (top 24)):=%[|0]
theorem Joz (T:Tx K mg a):Sv P w K mg base CX0 2 a.Jha a.Jhb ["river","town"] (Ygh K a):=by
 refine %[T.J4.fn.ok,Jre|2]
 ·obtain ⟨o,S,t,W,rfl,_⟩:=h;rfl
 ·obtain ⟨o,S,t,W,rfl,ro,ti,h0,hW,k⟩:=h;refine ⟨?t,?B,?C⟩
  case B=>
   refine' Jm1 ?O0
   case O0=>exact (Jma (Jsg (pv 0) hr (Sm (Jmd (Jmf Jmk (Jmd (pv 0) (by rfl)) (pv 1) (λ_ _=>rfl)) (by rfl)) So)))
  obtain ⟨dx,b,tt,os,ts,ho,hb,bl,ht,tl,n1,n2,n3⟩:=id ro;obtain ⟨ow,how,dw,hw⟩:=tl.at hW;obtain ⟨i,rfl⟩:=ycc h0;have hat:atI (ts.map V.ref) (i:Int)=some (.ref ow):=Js1 (by rw [ym];simp at how;rw [how];rfl);refine ⟨_,rfl,o,_,dx,_,_,_,_,_,1,rfl,ho,rfl,T.Jet,T.Jev,Jsc T,by decide,T.Jdf.bd,?_⟩;refine ⟨_,rfl,o,_,dx,_,_,rfl,ho,T.Jet,T.Jfz,rfl,_,rfl,tt,_,_,_,rfl,rfl,SqT.of ht,hat,ow,_,dw,_,_,rfl,hw,T.Jeq,T.Jfu,rfl,o,S,W.b,rfl,ro,(ti W (yr hW)).1,k⟩
noncomputable def drw (S:Riv) (ls:List Int):V->Int
 | .int t=>match S.Ts[t.toNat]? with
  |some T=>if ls.getD (plc S T.b) 0≥T.wt then T.wt else 0
  |none=>0
 |_=>0
noncomputable def Sks (S:Riv) (v:V):Prop:=v= .non\/∃j:Int,v= .int j/\0<=j/\j < S.Ts.length
inductive StA (H:Hp) (x:V) (S:Riv) (ls:List Int) (wt:Int):Prop where
 |mk (y u:S4) (_:x= .ref y) (_:H y=some (.tup [.ref u,.int wt])) (_:H u=some (.tup (ls.map V.int))) (_:ls.length=S.Bs.length)
inductive ChA (H:Hp) (x:V) (S:Riv) (cs:List Int) (tv:V):Prop where
 |mk (y u:S4) (_:x= .ref y) (_:H y=some (.tup [.ref u,tv])) (_:H u=some (.tup (cs.map V.int))) (_:cs.length=S.Bs.length/\Sks S tv)
theorem StA.same {H H':Hp} {x:V} {S:Riv} {ls:List Int} {wt:Int} (s:Sl H H') (h:StA H x S ls wt):StA H' x S ls wt:=by obtain ⟨y,u,e,h1,h2,h3⟩:=h;exact ⟨y,u,e,s _ _ h1,s _ _ h2,h3⟩
theorem ChA.same {H H':Hp} {x:V} {S:Riv} {cs:List Int} {tv:V} (s:Sl H H') (h:ChA H x S cs tv):ChA H' x S cs tv:=by obtain ⟨y,u,e,h1,h2,h3⟩:=h;exact ⟨y,u,e,s _ _ h1,s _ _ h2,h3⟩
theorem Ydt {S:Riv} {z:Str} (h:z∈S.Bs.map (·.z)):plc S z < S.Bs.length:=by
 have hm:(S.Bs.map (·.z)).idxOf z < (S.Bs.map (·.z)).length:=List.idxOf_lt_length_of_mem h;rw [ye] at hm;exact hm
theorem Jx3 {ns:List Int} {i:Nat} (h:i < ns.length):atI (ns.map V.int) (i:Int)=some (.int (ns.getD i 0)):=by
 have e:ns.getD i 0=ns[i]:=by simp [ybz,h]
 rw [e];exact Jud h
inductive Snu (K:Sg) (a:Ad) (vs:List V) (H:Hp) (Q:VK) (z3:XK):Prop where
 |mk (o:S4) (S:Riv) (x c:V) (ls cs:List Int) (wt:Int) (tv:V) (_:vs= [.ref o,x,c]) (_:Sah K a H o S) (_:TIn S) (_:StA H x S ls wt) (_:ChA H c S cs tv) (_:∀H',Sl H H'->Q (.int (drw S ls tv)) H')
theorem Sfy:Jm6 ["river","standing","choice","town","want"] ["river","standing","choice"] (Jm5 (top 25)):=%[|0]
theorem Yfu (T:Tx K mg a):Sv P w K mg base CX0 3 a.Jhc a.Jhd ["river","standing","choice"] (Snu K a):=by
 have Sbb:=%[Joz|1];refine %[T.J5.fn.ok,Sfy|2]
 ·obtain ⟨o,S,x,c,ls,cs,wt,tv,rfl,_⟩:=h;rfl
 ·obtain ⟨o,S,x,c,ls,cs,wt,tv,rfl,ro,ti,⟨y,u,rfl,hy,hu,lu⟩,⟨z,v,rfl,hz,hv,lv,tw⟩,k⟩:=h;refine ⟨?t,?B,?C⟩
  case B=>
   refine' Jlz ?O0 ?O1
   case O0=>exact (Jmb (i:=3) Sfy.nd rfl (yf rfl) (Jmf Jmk (pv 2) Su (λ_ _=>rfl)))
   case O1=>
   refine' Jlz ?O2 ?O3
   case O2=>
    refine' Jmr ?O4 ?O5 ?O6
    case O4=>exact (Jmm Jvj (pv 3) Jnt (Jmp _))
    case O5=>
     refine' Jm1 ?O7
     case O7=>exact (Jma Su)
    case O6=>exact Jme
   case O3=>
   refine' Jlz ?O8 ?O9
   case O8=>exact (Jmb (i:=4) Sfy.nd rfl (yf rfl) (Jmd (Jmf Jmk (Jmd (pv 0) (by rfl)) (pv 3) (λ_ _=>rfl)) (by rfl)))
   case O9=>
   refine' Jm1 ?Oa
   case Oa=>exact (Jma (Jvp (Jmm Sky (Jmf Jmk (Jmf Jmk (pv 1) Su (λ_ _=>rfl)) (Jm4 T.J4 Sbb hr (by decide) (Sm (pv 0) (Sm (pv 3) So))) (λ_ _=>rfl)) (pv 4) (Jmp _)) (pv 4) Su))
  obtain ⟨dx,b,tt,os,ts,ho,hb,bl,ht,tl,n1,n2,n3⟩:=id ro;refine ⟨_,rfl,z,_,1,tv,rfl,rfl,SqT.of hz,rfl,?_⟩;rcases tw with rfl|⟨j,rfl,j0,j1⟩
  ·exact ⟨_,rfl,rfl,_,rfl,Jr6 rfl (k _ λ_ _ h=>h)⟩
  ·obtain ⟨i,rfl⟩:=ycc j0;have hi:i < S.Ts.length:=by omega
   obtain ⟨ow,how,dw,hw⟩:=tl.at (i:=i) (B:=S.Ts[i]) (yh hi);have hat:atI (ts.map V.ref) (i:Int)=some (.ref ow):=Js1 (by rw [ym,how];rfl);have pin:=(ti _ (ybb hi)).1;have pl:=Ydt pin;have e:drw S ls (.int (i:Int))=if ls.getD (plc S S.Ts[i].b) 0≥S.Ts[i].wt then S.Ts[i].wt else 0:=by
    show (match S.Ts[(i:Int).toNat]? with|some T=>_|none=>_)=_;rw [yav,yh hi]
   rw [e] at k;refine ⟨_,rfl,rfl,_,rfl,Jq5 (λz=>by cases z) ?_⟩;refine ⟨_,rfl,o,_,dx,_,_,rfl,ho,T.Jet,T.Jfz,rfl,_,rfl,tt,_,_,_,rfl,rfl,SqT.of ht,hat,ow,_,dw,_,_,rfl,hw,T.Jeq,T.Jfv,rfl,?_⟩;refine ⟨_,rfl,y,_,0,_,rfl,rfl,SqT.of hy,rfl,_,rfl,_,rfl,o,S,(i:Int),S.Ts[i],rfl,ro,ti,j0,(by simp [hi]),λH1 s1=>?_⟩;refine ⟨u,_,_,_,rfl,rfl,SqT.of (s1 _ _ hu),Jx3 (by omega),_,rfl,_,_,rfl,rfl,_,rfl,?_⟩;by_cases q:S.Ts[i].wt<=ls.getD (plc S S.Ts[i].b) 0
   ·have k':=k _ s1;rw [if_pos q] at k';exact ifT (decide_eq_true q) ⟨_,rfl,k'⟩
   ·have k':=k _ s1;rw [if_neg q] at k';exact ifF (decide_eq_false q) k'
noncomputable def Jzp (S:Riv):V->Nat
 | .int t=>match S.Ts[t.toNat]? with
  |some T=>plc S T.b
  |none=>0
 |_=>0
noncomputable def lft (S:Riv) (ls:List Int) (tv:V):List Int:=if drw S ls tv > 0 then ls.set (Jzp S tv) (ls.getD (Jzp S tv) 0 - drw S ls tv) else ls
inductive So4 (K:Sg) (a:Ad) (vs:List V) (H:Hp) (Q:VK) (z3:XK):Prop where
 |mk (o:S4) (S:Riv) (x c:V) (ls cs:List Int) (wt:Int) (tv:V) (_:vs= [.ref o,x,c,.int (drw S ls tv)]) (_:Sah K a H o S) (_:TIn S) (_:StA H x S ls wt) (_:ChA H c S cs tv) (_:∀l H',H l=none->Sl H H'->H' l=some (.lst ((lft S ls tv).map V.int))->Q (.ref l) H')
theorem Sda:Jm6 ["river","standing","choice","drawn","left"] ["river","standing","choice","drawn"] (Jm5 (top 26)):=%[|0]
theorem Jvf (T:Tx K mg a):Sv P w K mg base CX0 3 a.Jhe a.Jhf ["river","standing","choice","drawn"] (So4 K a):=by
 have Sbb:=%[Joz|1];refine %[T.J6.fn.ok,Sda|2]
 ·obtain ⟨o,S,x,c,ls,cs,wt,tv,rfl,_⟩:=h;rfl
 ·obtain ⟨o,S,x,c,ls,cs,wt,tv,rfl,ro,ti,⟨y,u,rfl,hy,hu,lu⟩,⟨z,v,rfl,hz,hv,lv,tw⟩,k⟩:=h;refine ⟨?t,?B,?C⟩
  case B=>
   refine' Jlz ?O0 ?O1
   case O0=>exact (Jmb (i:=4) Sda.nd rfl (yf rfl) (Jms Jp1 (by rfl) T.Jav Joq (Sm (Jmf Jmk (pv 1) Su (λ_ _=>rfl)) So)))
   case O1=>
   refine' Jlz ?O2 ?O3
   case O2=>
    refine' Jmr ?O4 ?O5 ?O6
    case O4=>exact (Jmm Jvi (pv 3) Su (Jmp _))
    case O5=>
     refine' Jm1 ?O7
     case O7=>exact (Yg4 (pv 4) (Jm4 T.J4 Sbb hr (by decide) (Sm (pv 0) (Sm (Jmf Jmk (pv 2) Su (λ_ _=>rfl)) So))) Yd9 (pv 3) Smv Jsp)
    case O6=>exact Jme
   case O3=>
   refine' Jm1 ?O8
   case O8=>exact (Jma (pv 4))
  refine ⟨_,rfl,y,_,0,_,rfl,rfl,SqT.of hy,rfl,u,_,rfl,.inr (SqT.of hu),λl hl=>?_⟩;have s1:=Sl.upd (o:=.lst (ls.map V.int)) hl;refine ⟨_,rfl,_,_,rfl,rfl,_,rfl,?_⟩;by_cases hd:drw S ls tv > 0
  ·refine ifT (decide_eq_true hd) ?_;obtain ⟨j,rfl,j0,j1⟩:∃j:Int,tv= .int j/\0<=j/\j < S.Ts.length:=by
    rcases tw with rfl|h
    ·exact absurd (show (0:Int) > 0 from hd) (by decide)
    ·exact h
   obtain ⟨i,rfl⟩:=ycc j0;have hi:i < S.Ts.length:=by omega
   have pin:=(ti _ (ybb hi)).1;have pl:=Ydt pin;have ep:Jzp S (.int (i:Int))=plc S S.Ts[i].b:=by
    show (match S.Ts[(i:Int).toNat]? with|some T=>_|none=>_)=_;rw [yav,yh hi]
   refine ⟨_,rfl,_,rfl,_,rfl,z,_,1,_,rfl,rfl,SqT.of (s1 _ _ hz),rfl,o,S,(i:Int),S.Ts[i],rfl,ro.same s1,ti,j0,(by simp [hi]),λH1 s2=>?_⟩;have hl1:=s2 _ _ (Sr (H:=H) (a:=l) (o:=.lst (ls.map V.int)));have pl':plc S S.Ts[i].b < ls.length:=by omega
   have hix:ixN (ls.map V.int).length ((plc S S.Ts[i].b:Nat):Int)=some (plc S S.Ts[i].b):=by
    unfold ixN;rw [if_pos (by omega),if_pos (by rw [ye];omega)];rfl
   refine ⟨l,_,_,_,rfl,rfl,Sz.of hl1,by omega,Jx3 pl',_,rfl,_,_,rfl,rfl,l,_,_,_,rfl,rfl,hl1,hix,_,rfl,?_⟩;have e:lft S ls (.int (i:Int))=ls.set (plc S S.Ts[i].b) (ls.getD (plc S S.Ts[i].b) 0 - drw S ls (.int (i:Int))):=by
    unfold lft;rw [if_pos hd,ep]
   rw [e,List.map_set] at k;exact k l _ hl (λb o e=>by rw [Sx (Jm2 e hl)];exact (s1.trans s2) _ _ e) Sr
  ·refine ifF (decide_eq_false hd) ?_;have e:lft S ls tv=ls:=if_neg hd;rw [e] at k;exact ⟨_,rfl,k l _ hl s1 Sr⟩
noncomputable def Jvk:List Jmi->List Int->List Int->List Int
 |G::Gs,c::cs,l::ls=>lvG G c l::Jvk Gs cs ls
 |_,_,_=>[]
theorem Jr0:∀{Gs:List Jmi} {cs ls:List Int},Gs.length=cs.length->cs.length=ls.length->(Jvk Gs cs ls).length=Gs.length
 | [],_,_,_,_=>rfl
 |_::_,[],_,e,_=>by simp at e
 |_::_,_::_,[],_,e=>by simp at e
 |_::Gs,_::cs,_::ls,e1,e2=>by
  show (Jvk Gs cs ls).length+1=Gs.length+1;rw [Jr0 (by simpa using e1) (by simpa using e2)]
theorem Jxe:∀{Gs:List Jmi} {cs ls:List Int} {i:Nat} {G:Jmi} {c l:Int},Gs[i]?=some G->cs[i]?=some c->ls[i]?=some l->(Jvk Gs cs ls)[i]?=some (lvG G c l)
 |_::_,_::_,_::_,0,_,_,_,h1,h2,h3=>by cases h1;cases h2;cases h3;rfl
 |_::Gs,_::cs,_::ls,i+1,_,_,_,h1,h2,h3=>Jxe (Gs:=Gs) (cs:=cs) (ls:=ls) (i:=i) (by simpa using h1) (by simpa using h2) (by simpa using h3)
 | [],_,_,_,_,_,_,h,_,_=>by simp at h
 |_::_,[],_,_,_,_,_,_,h,_=>by simp at h
 |_::_,_::_,[],_,_,_,_,_,_,h=>by simp at h
noncomputable def Sc3:List Jmi->List Int->List Int->Prop
 | [],[],[]=>True
 |G::Gs,c::cs,l::ls=>(Sbk G/\(0<=c/\c < (nOf G:Int))/\(0<=l/\l<=1000))/\Sc3 Gs cs ls
 |_,_,_=>False
theorem Sc3.len:∀{Gs:List Jmi} {cs ls:List Int},Sc3 Gs cs ls->Gs.length=cs.length/\cs.length=ls.length
 | [],[],[],_=>⟨rfl,rfl⟩
 |_::Gs,_::cs,_::ls,⟨_,t⟩=>by
  have:=t.len;simp;omega
theorem Sc3.get:∀{Gs:List Jmi} {cs ls:List Int} {i:Nat} {G:Jmi} {c l:Int},Sc3 Gs cs ls->Gs[i]?=some G->cs[i]?=some c->ls[i]?=some l->Sbk G/\(0<=c/\c < (nOf G:Int))/\(0<=l/\l<=1000)
 |_::_,_::_,_::_,0,_,_,_,⟨h,_⟩,h1,h2,h3=>by cases h1;cases h2;cases h3;exact h
 |_::Gs,_::cs,_::ls,i+1,_,_,_,⟨_,t⟩,h1,h2,h3=>t.get (i:=i) (by simpa using h1) (by simpa using h2) (by simpa using h3)
 | [],[],[],_,_,_,_,_,h,_,_=>by simp at h
inductive Soa (K:Sg) (a:Ad) (vs:List V) (H:Hp) (Q:VK) (z3:XK):Prop where
 |mk (o v l:S4) (S:Riv) (Gs:List Jmi) (cs ls:List Int) (_:vs= [.ref o,.ref v,.ref l]) (_:Sah K a H o S) (_:GXL a H (S.Bs.map (·.g)) Gs) (_:Sc3 Gs cs ls) (_:S.Bs.length=Gs.length) (_:H v=some (.tup (cs.map V.int))) (_:H l=some (.lst (ls.map V.int))) (_:∀u H',Sl H H'->H' u=some (.tup ((Jvk Gs cs ls).map V.int))->Q (.ref u) H')
noncomputable def Y3:Int->List Int->List Int->List Int->List Int
 |g,l::ls,o::os,r::rs=>(l - o+g+r)::Y3 o ls os rs
 |_,_,_,_=>[]
theorem Js3:∀{g:Int} {ls os rs:List Int},ls.length=os.length->ls.length=rs.length->(Y3 g ls os rs).length=ls.length
 |_,[],_,_,_,_=>rfl
 |_,_::_,[],_,e,_=>by simp at e
 |_,_::_,_::_,[],_,e=>by simp at e
 |_,_::ls,o::os,_::rs,e1,e2=>by
  show (Y3 o ls os rs).length+1=ls.length+1;rw [Js3 (by simpa using e1) (by simpa using e2)]
theorem Jz1:∀{g:Int} {ls os rs:List Int} {i:Nat} {l o f r:Int},ls[i]?=some l->os[i]?=some o->(g::os)[i]?=some f->rs[i]?=some r->(Y3 g ls os rs)[i]?=some (l - o+f+r)
 |_,_::_,_::_,_::_,0,_,_,_,_,h1,h2,h3,h4=>by cases h1;cases h2;cases h3;cases h4;rfl
 |_,_::ls,o::os,_::rs,i+1,_,_,_,_,h1,h2,h3,h4=>Jz1 (g:=o) (ls:=ls) (os:=os) (rs:=rs) (i:=i) (by simpa using h1) (by simpa using h2) (by simpa using h3) (by simpa using h4)
 |_,[],_,_,_,_,_,_,_,h,_,_,_=>by simp at h
 |_,_::_,[],_,_,_,_,_,_,_,h,_,_=>by simp at h
 |_,_::_,_::_,[],_,_,_,_,_,_,_,_,h=>by simp at h
inductive Yef (vs:List V) (H:Hp) (Q:VK) (z3:XK):Prop where
 |mk (l u r:S4) (ls os rs:List Int) (_:vs= [.ref l,.ref u,.ref r]) (_:H l=some (.lst (ls.map V.int))) (_:H u=some (.tup (os.map V.int))) (_:H r=some (.tup (rs.map V.int))) (_:ls.length=os.length) (_:ls.length=rs.length) (_:(1<=ls.length/\ls.length<=16)) (_:∀w H',Sl H H'->H' w=some (.tup ((Y3 0 ls os rs).map V.int))->Q (.ref w) H')
noncomputable def Jow:Nat->List Bsn->List Int->List Int
 |k,B::Bs,l::ls=>if B.lo<=l/\l<=B.hi then Jow (k+1) Bs ls else (k:Int)::Jow (k+1) Bs ls
 |_,_,_=>[]
theorem Jws:∀{k:Nat} {Bs:List Bsn} {ls:List Int} {B:Bsn} {l:Int},Bs.length=ls.length->Jow k (Bs++ [B]) (ls++ [l])=Jow k Bs ls++(if B.lo<=l/\l<=B.hi then [] else [((k+Bs.length:Nat):Int)])
 |k,[],[],B,l,_=>by
  show (if B.lo<=l/\l<=B.hi then _ else _)=_;split <;> rfl
 |_,[],_::_,_,_,e=>by simp at e
 |_,_::_,[],_,_,e=>by simp at e
 |k,B'::Bs,l'::ls,B,l,e=>by
  have ih:=Jws (k:=k+1) (Bs:=Bs) (ls:=ls) (B:=B) (l:=l) (by simpa using e);have ek:k+1+Bs.length=k+(B'::Bs).length:=by rw [yag];omega
  rw [ek] at ih;show (if B'.lo<=l'/\l'<=B'.hi then Jow (k+1) (Bs++ [B]) (ls++ [l]) else (k:Int)::Jow (k+1) (Bs++ [B]) (ls++ [l]))=(if B'.lo<=l'/\l'<=B'.hi then Jow (k+1) Bs ls else (k:Int)::Jow (k+1) Bs ls)++_;rw [ih];split <;> rfl
theorem Jz2:∀{k:Nat} {Bs:List Bsn} {ls:List Int},(Jow k Bs ls).length<=Bs.length
 |_,[],_=>by simp [Jow]
 |_,_::_,[]=>by simp [Jow]
 |k,B::Bs,l::ls=>by
  have:=Jz2 (k:=k+1) (Bs:=Bs) (ls:=ls);show (if B.lo<=l/\l<=B.hi then Jow (k+1) Bs ls else (k:Int)::Jow (k+1) Bs ls).length<=_;split <;> simp <;> omega
inductive Yeg (K:Sg) (a:Ad) (vs:List V) (H:Hp) (Q:VK) (z3:XK):Prop where
 |mk (o u:S4) (S:Riv) (ls:List Int) (_:vs= [.ref o,.ref u]) (_:Sah K a H o S) (_:H u=some (.tup (ls.map V.int))) (_:ls.length=S.Bs.length) (_:∀w H',Sl H H'->H' w=some (.tup ((Jow 0 S.Bs ls).map V.int))->Q (.ref w) H')
theorem GX.lets {H:Hp} {x:V} {G:Jmi} {s lv:Int} (T:Tx K mg a) (gg:Sbk G) (gx:GX a H x G) (hs:0<=s/\s < (nOf G:Int)) (hl:0<=lv/\lv<=1000):
  ∃o C dx fs f fd ps sp k',x= .ref o/\H o=some (.ins C dx fs)/\fs.lookup ("lets" :Str)=none/\Cls K C/\Jp0 K C "lets" f/\Sv P w K mg base CX0 k' f fd ps sp/\k'<=3/\Sbc K fd ps []/\∀Q:VK,Q (.int (lvG G s lv)) H->sp [x,.int s,.int lv] H Q E0:=by
 have sp:∀Q:VK,Q (.int (lvG G s lv)) H->Yek a [x,.int s,.int lv] H Q E0:=λQ k=>⟨x,G,s,lv,rfl,gx,gg,hs,hl,k⟩;obtain ⟨g,ga,r⟩:=gx;obtain ⟨dx,t,h1,h2⟩:=id ga;cases e:G.sv with
 |none=>
  rw [e] at r;subst r;rcases gg.kd with q|q|q
  ·rw [q,show cOf a "step" =a.Jlo from if_pos rfl] at h1;exact ⟨g,_,dx,_,_,_,_,_,3,rfl,h1,rfl,T.Jdz,T.Je2,(Jp2 T).calm,by decide,T.Jcz.bd,sp⟩
  ·rw [q,show cOf a "flap" =a.Jlp by unfold cOf;rw [if_neg Jxa,if_pos rfl]] at h1;exact ⟨g,_,dx,_,_,_,_,_,3,rfl,h1,rfl,T.Je5,T.Je8,(Jp2 T).calm,by decide,T.Jcz.bd,sp⟩
  ·rw [q,show cOf a "part" =a.Jlq by unfold cOf;rw [if_neg Jxc,if_neg Jxb]] at h1;exact ⟨g,_,dx,_,_,_,_,_,3,rfl,h1,rfl,T.Jeb,T.Jee,(Jp2 T).calm,by decide,T.Jcz.bd,sp⟩
 |some j=>
  rw [e] at r;obtain ⟨q,dq,rfl,r2⟩:=r;exact ⟨q,_,dq,_,_,_,_,_,3,rfl,r2,rfl,T.Jeh,T.Jek,(Jp2 T).calm,by decide,T.Jcz.bd,sp⟩
theorem Ya5:Jm6 ["river","settings","levels"] ["river","settings","levels"] (Jm5 (top 27)):=%[|0]
theorem Yr (T:Tx K mg a):Sv P w K mg base CX0 4 a.Jhg a.Jhh ["river","settings","levels"] (Soa K a):=by
 refine %[T.J7.fn.ok,Ya5|2]
 ·obtain ⟨o,v,l,S,Gs,cs,ls,rfl,_⟩:=h;rfl
 ·obtain ⟨o,v,l,S,Gs,cs,ls,rfl,ro,gxl,so,ln,hv,hl,k⟩:=h;refine ⟨?t,?B,?C⟩
  case B=>
   refine' Jm1 ?O0
   case O0=>exact (Jma (Jms Jng (by rfl) T.Jb3 Jo5 (Sm (Jmt (N:=(["basin","setting","level"]:List Str)) (ini:=[none,none,none]) rfl (Yg2 true true false (by rfl) T.Jb4 (Sm (Jmd (pv 0) (by rfl)) (Sm (pv 1) (Sm (pv 2) So)))) (λ_ _ _ _ _=>(Jr3 (K:=K) (n:=3) rfl rfl (Jmh (Jm7 (i:=0) (by decide +kernel:(["basin","setting","level"]:List Str).Nodup) rfl (yf rfl)) (Jmh (Jm7 (i:=1) (by decide +kernel:(["basin","setting","level"]:List Str).Nodup) rfl (yf rfl)) (Jmh (Jm7 (i:=2) (by decide +kernel:(["basin","setting","level"]:List Str).Nodup) rfl (yf rfl)) Job))))) (λ_ _ _ _ _=>Jmq) (λ_ _ _ _ _=>(Yc2 (P:=P) (w:=w) (K:=K) (mg:=mg) (base:=base) rfl rfl rfl rfl rfl (Joa (K:=K) rfl (pv 0) (by rfl)) hr (Sm (pv 1) (Sm (pv 2) So))))) So)))
  obtain ⟨dx,b,tt,os,ts,ho,hb,bl,ht,tl,n1,n2,n3⟩:=id ro;have len:=bl.len;have sl:=so.len;refine ⟨_,rfl,o,_,dx,_,_,rfl,ho,T.Jet,T.Jfy,rfl,_,rfl,_,rfl,b,v,l,rfl,⟨_,SqT.of hb⟩,⟨_,SqT.of hv⟩,⟨_,Sz.of hl⟩,λD hD=>?_⟩;have s0:=Sl.upd (o:=.lst []) hD;refine Ybm (K:=K) (l1:=b) (l2:=v) (l3:=l) (b1:=true) (b2:=true) (b3:=false) (xs:=os.map V.ref) (ys:=cs.map V.int) (us:=ls.map V.int) (D:=D) (λi σ H'=>(∃o1 o2 o3,σ= [o1,o2,o3])/\H' D=some (.lst (((Jvk Gs cs ls).take i).map V.int))/\Sl H H') ⟨⟨_,_,_,rfl⟩,Sr,s0⟩ (λi σ H' _ ⟨_,_,sm⟩=>⟨SqT.of (sm _ _ hb),SqT.of (sm _ _ hv),Sz.of (sm _ _ hl)⟩) (by rw [ye,ye];omega) (by rw [ye,ye];omega) ?_ ?_
  ·rintro i x y u σ H' Ta hx hy hu ⟨⟨o1,o2,o3,rfl⟩,hDs,sm⟩ hT;obtain ⟨ob,B,rfl,hB,dxb,hob,gs⟩:=(bl.same sm).get hx;rw [ym] at hy hu;obtain ⟨c,hc,rfl⟩:=ybc.mp hy;obtain ⟨lv,hlv,rfl⟩:=ybc.mp hu;obtain ⟨G,hG,gx⟩:=(gxl.same sm).get (i:=i) (x:=B.g) (by rw [ym,hB];rfl);obtain ⟨gg,hs,hl'⟩:=so.get hG hc hlv;have sT:=Sl.upd (o:=.tup [.ref ob,.int c,.int lv]) hT;have hi:i < os.length:=by have:=(yi.mp hx).1;rw [ye] at this;exact this
   refine Sla (SqT.of Sr) ⟨_,rfl,ob,_,dxb,_,_,rfl,sT _ _ hob,T.Jen,T.Jfs,rfl,?_⟩;obtain ⟨q,C,dxq,fs,f,fd,ps,sp,k',eq,h1,h2,c',m,ok,hk,bd,hsp⟩:=GX.lets (P:=P) (w:=w) (base:=base) T gg (gx.same sT) hs hl';refine ⟨q,C,dxq,fs,f,fd,ps,sp,k',eq,h1,h2,c',m,ok,hk,bd,_,rfl,_,rfl,hsp _ ⟨_,sT _ _ hDs,?_,⟨_,_,_,rfl⟩,?_,?_⟩⟩
   ·rw [ye,yaf];exact Jmo (by omega)
   ·rw [Sr,yaa,Jxe hG hc hlv];simp
   ·intro c o z;rw [Sx (Jm2 z hD)];exact sT _ _ (sm _ _ z)
  rintro σ H1 ⟨_,hDs,sm⟩;rw [yah (by rw [Jr0 sl.1 sl.2,ye];omega)] at hDs;exact ⟨D,_,rfl,.inl ⟨Sz.of hDs,λu hu=>k u _ (sm.trans (Sl.upd hu)) Sr⟩⟩
theorem Ycy (xs:List V) (h:1<=xs.length):Jpp xs none (some (-1))=xs.dropLast:=by
 unfold Jpp;rw [HT.sIx_none];have e:HT.sIx xs.length xs.length (some (-1))=xs.length - 1:=by
  show (if (-1:Int) < 0 then ((-1:Int)+(xs.length:Int)).toNat else min (-1:Int).toNat xs.length)=_;rw [if_pos (by decide)];omega
 rw [e,List.dropLast_eq_take];rfl
theorem Jv9 {n:Nat} (h:1<=n):¬(HT.sIx n 0 none=0/\HT.sIx n n (some (-1))=n):=by
 have e:HT.sIx n n (some (-1))=n - 1:=by
  show (if (-1:Int) < 0 then ((-1:Int)+(n:Int)).toNat else min (-1:Int).toNat n)=_;rw [if_pos (by decide)];omega
 rw [e];omega
theorem Scr:Jm6 ["left","outs","rain","from_above"] ["left","outs","rain"] (Jm5 (top 28)):=%[|0]
theorem Jtd (T:Tx K mg a):Sv P w K mg base CX0 1 a.Jhi a.Jhj ["left","outs","rain"] Yef:=by
 refine %[T.J8.fn.ok,Scr|2]
 ·obtain ⟨l,u,r,ls,os,rs,rfl,_⟩:=h;rfl
 ·obtain ⟨l,u,r,ls,os,rs,rfl,hl,hu,hr0,e1,e2,n,k⟩:=h;refine ⟨?t,?B,?C⟩
  case B=>
   refine' Jlz ?O0 ?O1
   case O0=>exact (Jmb (i:=3) Scr.nd rfl (yf rfl) (Jm9 Yax (Jmz (Sm Su So)) (Jov Snr (pv 1) Jsh (Jon (Yb2 Jyw Su)))))
   case O1=>
   refine' Jm1 ?O2
   case O2=>
   refine' Jma ?O3
   case O3=>exact (Jms Jng (by rfl) T.Jb3 Jo5 (Sm (Jmt (N:=(["level","out","gained","cubes"]:List Str)) (ini:=[none,none,none,none]) rfl (Yg3 false true true true (by rfl) T.Jb4 (pa4 (pv 0) (pv 1) (pv 3) (pv 2))) (λ_ _ _ _ _=>(Jr3 (K:=K) (n:=4) rfl rfl (Jmh (Jm7 (i:=0) (by decide +kernel:(["level","out","gained","cubes"]:List Str).Nodup) rfl (yf rfl)) (Jmh (Jm7 (i:=1) (by decide +kernel:(["level","out","gained","cubes"]:List Str).Nodup) rfl (yf rfl)) (Jmh (Jm7 (i:=2) (by decide +kernel:(["level","out","gained","cubes"]:List Str).Nodup) rfl (yf rfl)) (Jmh (Jm7 (i:=3) (by decide +kernel:(["level","out","gained","cubes"]:List Str).Nodup) rfl (yf rfl)) Job)))))) (λ_ _ _ _ _=>Jmq) (λ_ _ _ _ _=>(Jm9 Jml (Jm9 Jml (Jm9 Jnk (pv 0) (pv 1)) (pv 2)) (pv 3)))) So))
  refine ⟨(show 1<=S9 by decide),λq1 h1=>?_⟩;have s1:=Sl.upd (o:=.tup [.int 0]) h1;refine ⟨_,rfl,_,rfl,_,rfl,u,_,rfl,SqT.of (s1 _ _ hu),Jv9 (by rw [ye];omega),λq2 h2=>?_⟩;rw [Ycy _ (by rw [ye];omega)];have s2:=Sl.upd (o:=.tup (os.map V.int).dropLast) h2;refine ⟨q1,q2,_,_,rfl,rfl,s2 _ _ Sr,Sr,Jn4 _ (by simp;omega),λf H3 s3 hf=>?_⟩;have s13:=(s1.trans s2).trans s3;have ef: [V.int 0]++(os.map V.int).dropLast=((0:Int)::os.dropLast).map V.int:=by rw [yap,List.map_dropLast];rfl
  rw [ef] at hf;refine ⟨_,rfl,_,rfl,_,rfl,_,rfl,l,u,f,r,rfl,⟨_,Sz.of (s13 _ _ hl)⟩,⟨_,SqT.of (s13 _ _ hu)⟩,⟨_,SqT.of hf⟩,⟨_,SqT.of (s13 _ _ hr0)⟩,λD hD=>?_⟩;have s0:=Sl.upd (o:=.lst []) hD;refine Ybn (K:=K) (l1:=l) (l2:=u) (l3:=f) (l4:=r) (b1:=false) (b2:=true) (b3:=true) (b4:=true) (xs:=ls.map V.int) (ys:=os.map V.int) (us:=((0:Int)::os.dropLast).map V.int) (vs:=rs.map V.int) (D:=D) (λi σ H'=>(∃o1 o2 o3 o4,σ= [o1,o2,o3,o4])/\H' D=some (.lst (((Y3 0 ls os rs).take i).map V.int))/\Sl H3 H') ⟨⟨_,_,_,_,rfl⟩,Sr,s0⟩ (λi σ H' _ ⟨_,_,sm⟩=>⟨Sz.of (sm _ _ (s13 _ _ hl)),SqT.of (sm _ _ (s13 _ _ hu)),SqT.of (sm _ _ hf),SqT.of (sm _ _ (s13 _ _ hr0))⟩) (by simp;omega) (by simp;omega) (by simp;omega) ?_ ?_
  ·rintro i x y z v σ H' Ta hx hy hz hv ⟨⟨o1,o2,o3,o4,rfl⟩,hDs,sm⟩ hT;rw [ym] at hx hy hz hv;obtain ⟨lv,hlv,rfl⟩:=ybc.mp hx;obtain ⟨ov,hov,rfl⟩:=ybc.mp hy;obtain ⟨fv,hfv,rfl⟩:=ybc.mp hz;obtain ⟨rv,hrv,rfl⟩:=ybc.mp hv;have hi:i < ls.length:=(yi.mp hlv).1;have hfv':((0:Int)::os)[i]?=some fv:=by
    cases i with
    |zero=>simpa using hfv
    |succ j=>
     have e:os.dropLast[j]?=some fv:=by simpa using hfv
     rw [List.dropLast_eq_take,List.getElem?_take] at e;split at e
     ·simpa using e
     ·cases e
   have sT:=Sl.upd (o:=.tup [.int lv,.int ov,.int fv,.int rv]) hT;refine St4 (SqT.of Sr) ⟨_,rfl,_,rfl,_,_,rfl,rfl,_,rfl,_,_,rfl,rfl,_,rfl,_,_,rfl,rfl,_,sT _ _ hDs,?_,⟨_,_,_,_,rfl⟩,?_,?_⟩
   ·rw [ye,yaf];exact Jmo (by omega)
   ·rw [Sr,yaa,Jz1 hlv hov hfv' hrv];simp
   ·intro c o z;rw [Sx (Jm2 z hD)];exact sT _ _ (sm _ _ z)
  rintro σ H4 ⟨_,hDs,sm⟩;rw [yah (by rw [Js3 e1 e2,ye];omega)] at hDs;exact ⟨D,_,rfl,.inl ⟨Sz.of hDs,λq hq=>k q _ ((s13.trans sm).trans (Sl.upd hq)) Sr⟩⟩
theorem Jyi:Jm6 ["river","levels"] ["river","levels"] (Jm5 (top 29)):=%[|0]
theorem Jy2 (T:Tx K mg a):Sv P w K mg base CX0 1 a.Jhk a.Jhl ["river","levels"] (Yeg K a):=by
 refine %[T.J9.fn.ok,Jyi|2]
 ·obtain ⟨o,u,S,ls,rfl,_⟩:=h;rfl
 ·obtain ⟨o,u,S,ls,rfl,ro,hu,ln,k⟩:=h;refine ⟨?t,?B,?C⟩
  case B=>
   refine' Jm1 ?O0
   case O0=>exact (Jma (Jms Jng (by rfl) T.Jb3 Jo5 (Sm (Jmt (N:=(["place","basin","levels"]:List Str)) (ini:=[none,none,some 1]) rfl (Jzo (by rfl) T.Jar (Sm (Jmd (pv 0) (by rfl)) So)) (λ_ _ _ _ _=>(Jr3 (K:=K) (n:=2) rfl rfl (Jmh (Jm7 (i:=0) (by decide +kernel:(["place","basin","levels"]:List Str).Nodup) rfl (yf rfl)) (Jmh (Jm7 (i:=1) (by decide +kernel:(["place","basin","levels"]:List Str).Nodup) rfl (yf rfl)) Job)))) (λ_ _ _ _ _=>(Jyc (Jn3 (Jvu Jqm Jqm (Joa (K:=K) rfl (pv 1) (by rfl)) (Jmf (Yar (K:=K) rfl) (pv 2) (pv 0) (λ_ _=>rfl)) (Joa (K:=K) rfl (pv 1) (by rfl)))))) (λ_ _ _ _ _=>(pv 0))) So)))
  obtain ⟨dx,b,tt,os,ts,ho,hb,bl,ht,tl,n1,n2,n3⟩:=id ro;have len:=bl.len;refine ⟨_,rfl,o,_,dx,_,_,rfl,ho,T.Jet,T.Jfy,rfl,b,rfl,⟨_,SqT.of hb⟩,λD hD=>?_⟩;have s0:=Sl.upd (o:=.lst []) hD;refine Ybl (K:=K) (a:=b) (xs:=os.map V.ref) (D:=D) (λi σ H'=>(∃o1 o2,σ= [o1,o2,some (.ref u)])/\H' D=some (.lst ((Jow 0 (S.Bs.take i) (ls.take i)).map V.int))/\Sl H H') ⟨⟨_,_,rfl⟩,Sr,s0⟩ (λi σ H' _ ⟨_,_,sm⟩=>SqT.of (sm _ _ hb)) ?_ ?_
  ·rintro i x σ H' Ta hx ⟨⟨o1,o2,rfl⟩,hDs,sm⟩ hT;obtain ⟨ob,B,rfl,hB,dxb,hob,gs⟩:=(bl.same sm).get hx;have sT:=Sl.upd (o:=.tup [.int i,.ref ob]) hT;have hi:i < S.Bs.length:=(yi.mp hB).1;have hil:i < ls.length:=by omega
   have hob':=sT _ _ hob;have hu':=sT _ _ (sm _ _ hu);have nx:Jow 0 (S.Bs.take (i+1)) (ls.take (i+1))=Jow 0 (S.Bs.take i) (ls.take i)++(if B.lo<=ls[i]/\ls[i]<=B.hi then [] else [(i:Int)]):=by
    have q:=Jws (k:=0) (Bs:=S.Bs.take i) (ls:=ls.take i) (B:=B) (l:=ls[i]) (by rw [yaf,yaf];omega);rw [yaf,yci (by omega),Nat.zero_add] at q;rw [yaa,hB,yaa,yh hil];exact q
   refine ⟨Ta,_,rfl,SqT.of Sr,rfl,_,_,rfl,_,_,rfl,rfl,?_⟩;have bad:¬(B.lo<=ls[i]/\ls[i]<=B.hi)->∃vs,(upd H' Ta (.tup [.int i,.ref ob])) D=some (.lst vs)/\vs.length < S9/\(∃p1 p2,[some (V.int i),some (.ref ob),some (.ref u)]= [p1,p2,some (V.ref u)])/\upd (upd H' Ta (.tup [.int i,.ref ob])) D (.lst (vs++ [.int i])) D=some (.lst ((Jow 0 (S.Bs.take (i+1)) (ls.take (i+1))).map V.int))/\Sl H (upd (upd H' Ta (.tup [.int i,.ref ob])) D (.lst (vs++ [.int i]))):=λq=>by
    refine ⟨_,sT _ _ hDs,?_,⟨_,_,rfl⟩,?_,?_⟩
    ·have:=Jz2 (k:=0) (Bs:=S.Bs.take i) (ls:=ls.take i);rw [yaf] at this;rw [ye];exact Jmo (by omega)
    ·rw [Sr,nx,if_neg q,yaj];rfl
    ·intro c o z;rw [Sx (Jm2 z hD)];exact sT _ _ (sm _ _ z)
   refine ⟨_,rfl,ob,_,dxb,_,_,rfl,hob',T.Jen,T.Jfo,rfl,_,rfl,_,rfl,u,_,_,_,rfl,rfl,SqT.of hu',Jud hil,_,_,rfl,rfl,_,rfl,?_⟩;by_cases h1:B.lo<=ls[i]
   ·rw [decide_eq_true h1];refine Jo2 ⟨_,rfl,ob,_,dxb,_,_,rfl,hob',T.Jen,T.Jfp,rfl,_,_,rfl,rfl,_,rfl,?_⟩;by_cases h2:ls[i]<=B.hi
    ·rw [decide_eq_true h2];refine Jn9 ⟨⟨_,_,rfl⟩,?_,sm.trans sT⟩;rw [nx,if_pos ⟨h1,h2⟩,yba];exact sT _ _ hDs
    ·rw [decide_eq_false h2];exact Jo2 ⟨_,rfl,bad λz=>h2 z.2⟩
   ·rw [decide_eq_false h1];exact Jn9 ⟨_,rfl,Jo2 ⟨_,rfl,bad λz=>h1 z.1⟩⟩
  rintro σ H1 ⟨_,hDs,sm⟩;rw [yah (by rw [ye];omega),yah (by rw [ye];omega)] at hDs;exact ⟨D,_,rfl,.inl ⟨Sz.of hDs,λq hq=>k q _ (sm.trans (Sl.upd hq)) Sr⟩⟩
noncomputable def Sov (c r:V) (d:Int) (u lv:S4) (wt:Int) (q:S4):List (Str×V):=[("choice",c),("rain",r),("drawn",.int d),("paid",.bl (decide (d > 0))),("outs",.ref u),("levels",.ref lv),("wet",.int wt),("broken",.ref q)]
structure Sgl (K:Sg) (a:Ad) (H:Hp) (o:S4) (S:Riv) (Gs:List Jmi) (x c:V) (ls cs:List Int) (wt:Int) (tv:V) (ra:S4) (rn:List Int):Prop where
 ro:Sah K a H o S
 ti:TIn S
 gx:GXL a H (S.Bs.map (·.g)) Gs
 ln:S.Bs.length=Gs.length
 st:StA H x S ls wt
 ch:ChA H c S cs tv
 hr:H ra=some (.tup (rn.map V.int))
 rl:rn.length=S.Bs.length
 sm:Sml rn
 so:Sc3 Gs cs (lft S ls tv)
 n1:1<=S.Bs.length
theorem Sgl.same {K:Sg} {a:Ad} {H H':Hp} {o:S4} {S:Riv} {Gs:List Jmi} {x c:V} {ls cs:List Int} {wt:Int} {tv:V} {ra:S4} {rn:List Int} (s:Sl H H') (h:Sgl K a H o S Gs x c ls cs wt tv ra rn):Sgl K a H' o S Gs x c ls cs wt tv ra rn:=
 ⟨h.ro.same s,h.ti,h.gx.same s,h.ln,h.st.same s,h.ch.same s,s _ _ h.hr,h.rl,h.sm,h.so,h.n1⟩
noncomputable def Jtv (S:Riv) (Gs:List Jmi) (ls cs:List Int) (tv:V):List Int:=Jvk Gs cs (lft S ls tv)
noncomputable def Jty (S:Riv) (Gs:List Jmi) (ls cs:List Int) (tv:V) (rn:List Int):List Int:=Y3 0 (lft S ls tv) (Jtv S Gs ls cs tv) rn
noncomputable def Ycj (S:Riv) (wt:Int) (rn:List Int):Int:=if S.c < wt - rn.sum+S.g then S.c else wt - rn.sum+S.g
inductive Sr9 (a:Ad) (H:Hp) (p:S4) (c r:V) (S:Riv) (Gs:List Jmi) (ls cs:List Int) (wt:Int) (tv:V) (rn:List Int):Prop where
 |mk (dx:_) (u:_) (lv:_) (q:_) (_:H p=some (.ins a.Jll dx (Sov c r (drw S ls tv) u lv (Ycj S wt rn) q))) (_:H u=some (.tup ((Jtv S Gs ls cs tv).map V.int))) (_:H lv=some (.tup ((Jty S Gs ls cs tv rn).map V.int))) (_:H q=some (.tup ((Jow 0 S.Bs (Jty S Gs ls cs tv rn)).map V.int)))
inductive Ygu (K:Sg) (a:Ad) (vs:List V) (H:Hp) (Q:VK) (z3:XK):Prop where
 |mk (p dx o ra:S4) (H0:Hp) (S:Riv) (Gs:List Jmi) (x c:V) (ls cs rn:List Int) (wt:Int) (tv:V) (_:vs= [.ref p,.ref o,x,c,.ref ra]) (_:H0 p=none) (_:Sl H0 H) (_:H p=some (.ins a.Jll dx [])) (_:Sgl K a H0 o S Gs x c ls cs wt tv ra rn) (_:∀H',Sl H0 H'->Sr9 a H' p c (.ref ra) S Gs ls cs wt tv rn->Q .non H')
theorem Jxv {S:Riv} {ls:List Int} {tv:V}:(lft S ls tv).length=ls.length:=by
 unfold lft;split
 ·rw [ybx]
 ·rfl
noncomputable def fs2 (c r:V):List (Str×V):=[("choice",c),("rain",r)]
noncomputable def fs3 (c r:V) (d:Int):List (Str×V):=[("choice",c),("rain",r),("drawn",.int d)]
noncomputable def fs4 (c r:V) (d:Int):List (Str×V):=[("choice",c),("rain",r),("drawn",.int d),("paid",.bl (decide (d > 0)))]
noncomputable def fs5 (c r:V) (d:Int) (u:S4):List (Str×V):=[("choice",c),("rain",r),("drawn",.int d),("paid",.bl (decide (d > 0))),("outs",.ref u)]
noncomputable def fs6 (c r:V) (d:Int) (u lv:S4):List (Str×V):=[("choice",c),("rain",r),("drawn",.int d),("paid",.bl (decide (d > 0))),("outs",.ref u),("levels",.ref lv)]
noncomputable def fs7 (c r:V) (d:Int) (u lv:S4) (wt:Int):List (Str×V):=[("choice",c),("rain",r),("drawn",.int d),("paid",.bl (decide (d > 0))),("outs",.ref u),("levels",.ref lv),("wet",.int wt)]
theorem pf2 (c r:V):Jn8 "rain" r (Jn8 "choice" c [])=fs2 c r:=Jmu (show (["choice"]:List Str).contains "rain" =false by decide +kernel)
theorem pf3 (c r:V) (d:Int):Jn8 "drawn" (.int d) (fs2 c r)=fs3 c r d:=Jmu (show (["choice","rain"]:List Str).contains "drawn" =false by decide +kernel)
theorem pf4 (c r:V) (d:Int):Jn8 "paid" (.bl (decide (0 < d))) (fs3 c r d)=fs4 c r d:=Jmu (show (["choice","rain","drawn"]:List Str).contains "paid" =false by decide +kernel)
theorem pf5 (c r:V) (d:Int) (u:S4):Jn8 "outs" (.ref u) (fs4 c r d)=fs5 c r d u:=Jmu (show (["choice","rain","drawn","paid"]:List Str).contains "outs" =false by decide +kernel)
theorem pf6 (c r:V) (d:Int) (u lv:S4):Jn8 "levels" (.ref lv) (fs5 c r d u)=fs6 c r d u lv:=Jmu (show (["choice","rain","drawn","paid","outs"]:List Str).contains "levels" =false by decide +kernel)
theorem pf7 (c r:V) (d:Int) (u lv:S4) (wt:Int):Jn8 "wet" (.int wt) (fs6 c r d u lv)=fs7 c r d u lv wt:=Jmu (show (["choice","rain","drawn","paid","outs","levels"]:List Str).contains "wet" =false by decide +kernel)
theorem pf8 (c r:V) (d:Int) (u lv:S4) (wt:Int) (q:S4):Jn8 "broken" (.ref q) (fs7 c r d u lv wt)=Sov c r d u lv wt q:=Jmu (show (["choice","rain","drawn","paid","outs","levels","wet"]:List Str).contains "broken" =false by decide +kernel)
theorem Scq:Jm6 ["self","river","standing","choice","rain","left"] ["self","river","standing","choice","rain"] (Jm5 (Jmc (top 30) 0)):=%[|0]
theorem Jxz (T:Tx K mg a):Sv P w K mg base CX0 5 a.Jhm a.Jhn ["self","river","standing","choice","rain"] (Ygu K a):=by
 have Sli:=%[Yfu|1];have Sf2:=%[Jvf|1];have Shq:=%[Yr|1];have See:=%[Jtd|1];have Sga:=%[Jy2|1];refine %[T.Jcu.fn.ok,Scq|2]
 ·obtain ⟨p,dx,o,ra,H0,S,Gs,x,c,ls,cs,rn,wt,tv,rfl,_⟩:=h;rfl
 ·obtain ⟨p,dx,o,ra,H0,S,Gs,x,c,ls,cs,rn,wt,tv,rfl,np,s0,hp,ti,k⟩:=h;refine ⟨?t,?B,?C⟩
  case B=>
   refine' Jlz ?O0 ?O1
   case O0=>exact (Jmw (pv 0) (pv 3) rfl)
   case O1=>
   refine' Jlz ?O2 ?O3
   case O2=>exact (Jmw (pv 0) (pv 4) rfl)
   case O3=>
   refine' Jlz ?O4 ?O5
   case O4=>exact (Jmw (pv 0) (Jm4 T.J5 Sli hr (by decide) (Sm (pv 1) (Sm (pv 2) (Sm (pv 3) So)))) rfl)
   case O5=>
   refine' Jlz ?O6 ?O7
   case O6=>exact (Jmw (pv 0) (Jq0 Jvi (Jmd (pv 0) (by rfl)) Su (Jmp _)) rfl)
   case O7=>
   refine' Jlz ?O8 ?O9
   case O8=>exact (Jmb (i:=5) Scq.nd rfl (yf rfl) (Jm4 T.J6 Sf2 hr (by decide) (pa4 (pv 1) (pv 2) (pv 3) (Jmd (pv 0) (by rfl)))))
   case O9=>
   refine' Jlz ?Oa ?Ob
   case Oa=>exact (Jmw (pv 0) (Jm4 T.J7 Shq hr (by decide) (Sm (pv 1) (Sm (Jmf Jmk (pv 3) Su (λ_ _=>rfl)) (Sm (pv 5) So)))) rfl)
   case Ob=>
   refine' Jlz ?Oc ?Od
   case Oc=>exact (Jmw (pv 0) (Jm4 T.J8 See hr (by decide) (Sm (pv 5) (Sm (Jmd (pv 0) (by rfl)) (Sm (pv 4) So)))) rfl)
   case Od=>
   refine' Jlz ?Oe ?Of
   case Oe=>exact (Jmw (pv 0) (Jm8 (Jsw rfl) (by rfl) T.Jax Y4 (Sm (Jm9 Jml (Jm9 Jnk (Jmf Jmk (pv 2) Su (λ_ _=>rfl)) (Jm8 (Jqe rfl) (by rfl) T.Jb2 Jqc (Sm (pv 4) So))) (Jmd (pv 1) (by rfl))) (Sm (Jmd (pv 1) (by rfl)) So))) rfl)
   case Of=>
   refine' Jm1 ?Og
   case Og=>exact (Jmw (pv 0) (Jm4 T.J9 Sga hr (by decide) (Sm (pv 1) (Sm (Jmd (pv 0) (by rfl)) So))) rfl)
  have new:∀{Ha:Hp} {ob:HO},Sl H0 Ha->Sl H0 (upd Ha p ob):=λs b oo e=>by rw [Sx (Jm2 e np)];exact s _ _ e
  refine ⟨_,rfl,_,rfl,p,_,dx,[],rfl,hp,T.Jds,T.Jf3,by simp,?_⟩;refine ⟨_,rfl,_,rfl,p,_,dx,_,rfl,Sr,T.Jds,T.Jf4,by simp [Jn8],?_⟩;rw [Jnr,pf2];have h2:Sl H0 (upd H p (.ins a.Jll dx (fs2 c (.ref ra)))):=new s0;have ti2:=ti.same h2;refine ⟨_,rfl,_,rfl,_,rfl,o,S,x,c,ls,cs,wt,tv,rfl,ti2.ro,ti2.ti,ti2.st,ti2.ch,λH3 s3=>?_⟩;have p3:=s3 _ _ (Sr (H:=H) (a:=p) (o:=.ins a.Jll dx (fs2 c (.ref ra))));have h3:=h2.trans s3;refine ⟨_,rfl,p,_,dx,_,rfl,p3,T.Jds,T.Jf5,by simp [fs2],?_⟩;rw [pf3];refine ⟨_,rfl,p,_,dx,_,_,rfl,Sr,T.Jds,T.Jf5,rfl,_,_,rfl,rfl,?_⟩;refine ⟨_,rfl,p,_,dx,_,rfl,Sr,T.Jds,T.Jf6,by simp [fs3],?_⟩;rw [Jnr,pf4];have h4:Sl H0 (upd H3 p (.ins a.Jll dx (fs4 c (.ref ra) (drw S ls tv)))):=new h3;have ti4:=ti.same h4;refine ⟨_,rfl,_,rfl,_,rfl,_,rfl,p,_,dx,_,_,rfl,Sr,T.Jds,T.Jf5,rfl,o,S,x,c,ls,cs,wt,tv,rfl,ti4.ro,ti4.ti,ti4.st,ti4.ch,λl H5 hl0 s5 hl5=>?_⟩;have p5:=s5 _ _ (Sr (H:=H3) (a:=p) (o:=.ins a.Jll dx (fs4 c (.ref ra) (drw S ls tv))));have h5:=h4.trans s5;have ti5:=ti.same h5;obtain ⟨y,yu,rfl,hy,hyu,ly⟩:=ti5.st;obtain ⟨z,v,rfl,hz,hv,lc,tw⟩:=ti5.ch;have sol:=ti.so.len;refine ⟨_,rfl,_,rfl,z,_,0,_,rfl,rfl,SqT.of hz,rfl,_,rfl,o,v,l,S,Gs,cs,lft S ls tv,rfl,ti5.ro,ti5.gx,ti5.so,ti5.ln,hv,hl5,λu H6 s6 hu6=>?_⟩;have p6:=s6 _ _ p5;have np6:∀{b:S4} {ob:HO},H6 b=some ob->(∀C d fs,ob≠ .ins C d fs)->b≠p:=λhb n e=>by rw [e,p6] at hb;exact n _ _ _ (yac.inj hb).symm
  refine ⟨_,rfl,p,_,dx,_,rfl,p6,T.Jds,T.Jf7,by simp [fs4],?_⟩;rw [pf5];have h6:Sl H0 (upd H6 p (.ins a.Jll dx (fs5 (.ref z) (.ref ra) (drw S ls tv) u))):=new (h5.trans s6);have ti6:=ti.same h6;have u6:(upd H6 p (.ins a.Jll dx (fs5 (.ref z) (.ref ra) (drw S ls tv) u))) u=some (.tup ((Jtv S Gs ls cs tv).map V.int)):=by rw [Sx (np6 hu6 (λ_ _ _ z=>by cases z))];exact hu6
  have l6:(upd H6 p (.ins a.Jll dx (fs5 (.ref z) (.ref ra) (drw S ls tv) u))) l=some (.lst ((lft S ls tv).map V.int)):=by rw [Sx (np6 (s6 _ _ hl5) (λ_ _ _ z=>by cases z))];exact s6 _ _ hl5
  have n16:S.Bs.length<=16:=by obtain ⟨_,_,_,_,_,_,_,_,_,_,q,_⟩:=ti.ro;exact q
  have el:(lft S ls tv).length=S.Bs.length:=by rw [Jxv];exact ly
  have eo:(Jtv S Gs ls cs tv).length=S.Bs.length:=by unfold Jtv;rw [Jr0 sol.1 sol.2];exact ti.ln.symm
  have rl:=ti.rl;have n1:=ti.n1;refine ⟨_,rfl,_,rfl,p,_,dx,_,_,rfl,Sr,T.Jds,T.Jf7,rfl,_,rfl,l,u,ra,_,_,rn,rfl,l6,u6,ti6.hr,by omega,by omega,by omega,λlv H7 s7 hlv7=>?_⟩;have p7:=s7 _ _ (Sr (H:=H6) (a:=p) (o:=.ins a.Jll dx (fs5 (.ref z) (.ref ra) (drw S ls tv) u)));have np7:∀{b:S4} {ob:HO},H7 b=some ob->(∀C d fs,ob≠ .ins C d fs)->b≠p:=λhb n e=>by rw [e,p7] at hb;exact n _ _ _ (yac.inj hb).symm
  refine ⟨_,rfl,p,_,dx,_,rfl,p7,T.Jds,T.Jf8,by simp [fs5],?_⟩;rw [pf6];have h7:Sl H0 (upd H7 p (.ins a.Jll dx (fs6 (.ref z) (.ref ra) (drw S ls tv) u lv))):=new (h6.trans s7);have ti7:=ti.same h7;obtain ⟨dxr,b,tt,os,ts,ho,hb,bl,ht,tl,m1,m2,m3⟩:=id ti7.ro;obtain ⟨y7,yu7,ey,hy7,hyu7,ly7⟩:=ti7.st;obtain rfl:y=y7:=V.ref.inj ey;refine ⟨_,rfl,y,_,1,_,rfl,rfl,SqT.of hy7,rfl,_,rfl,ra,rn,rfl,.inr (SqT.of ti7.hr),ti.sm,_,_,rfl,rfl,_,rfl,o,_,dxr,_,_,rfl,ho,T.Jet,T.Jfx,rfl,_,_,rfl,rfl,_,rfl,o,_,dxr,_,_,rfl,ho,T.Jet,T.Jfw,rfl,_,_,rfl,?_⟩;refine ⟨_,rfl,p,_,dx,_,rfl,Sr,T.Jds,T.Jf9,by simp [fs6],?_⟩;rw [Jnr,pf7];have h8:Sl H0 (upd H7 p (.ins a.Jll dx (fs7 (.ref z) (.ref ra) (drw S ls tv) u lv (Ycj S wt rn)))):=new (h6.trans s7);have ti8:=ti.same h8;have lv8:(upd H7 p (.ins a.Jll dx (fs7 (.ref z) (.ref ra) (drw S ls tv) u lv (Ycj S wt rn)))) lv=some (.tup ((Jty S Gs ls cs tv rn).map V.int)):=by rw [Sx (np7 hlv7 (λ_ _ _ z=>by cases z))];exact hlv7
  have u8:(upd H7 p (.ins a.Jll dx (fs7 (.ref z) (.ref ra) (drw S ls tv) u lv (Ycj S wt rn)))) u=some (.tup ((Jtv S Gs ls cs tv).map V.int)):=by rw [Sx (np7 (s7 _ _ u6) (λ_ _ _ z=>by cases z))];exact s7 _ _ u6
  have e8:(Jty S Gs ls cs tv rn).length=S.Bs.length:=by unfold Jty;rw [Js3 (by omega) (by omega)];exact el
  refine ⟨_,rfl,_,rfl,p,_,dx,_,_,rfl,Sr,T.Jds,T.Jf8,rfl,o,lv,S,_,rfl,ti8.ro,lv8,e8,λq H9 s9 hq9=>?_⟩;have p9:=s9 _ _ (Sr (H:=H7) (a:=p) (o:=.ins a.Jll dx (fs7 (.ref z) (.ref ra) (drw S ls tv) u lv (Ycj S wt rn))));have np9:∀{b:S4} {ob:HO},H9 b=some ob->(∀C d fs,ob≠ .ins C d fs)->b≠p:=λhb n e=>by rw [e,p9] at hb;exact n _ _ _ (yac.inj hb).symm
  refine ⟨_,rfl,p,_,dx,_,rfl,p9,T.Jds,T.Jfa,by simp [fs7],?_⟩;rw [pf8];have keep:∀{b:S4} {ob ox:HO},H9 b=some ob->(∀C d fs,ob≠ .ins C d fs)->upd H9 p ox b=some ob:=λhb n=>by rw [Sx (np9 hb n)];exact hb
  exact k _ (new (h8.trans s9)) ⟨dx,u,lv,q,Sr,keep (s9 _ _ u8) (λ_ _ _ z=>by cases z),keep (s9 _ _ lv8) (λ_ _ _ z=>by cases z),keep hq9 (λ_ _ _ z=>by cases z)⟩
structure RvX (K:Sg) (a:Ad) (H:Hp) (o:S4) (S:Riv) (Gs:List Jmi):Prop where
 ro:Sah K a H o S
 gx:GXL a H (S.Bs.map (·.g)) Gs
 ln:S.Bs.length=Gs.length
 ti:TIn S
 n1:1<=S.Bs.length
 ok:∀(i:Nat) (B:Bsn) (G:Jmi),S.Bs[i]?=some B->Gs[i]?=some G->Sbk G/\B.n=nOf G/\0<=B.lo/\B.hi<=12
theorem RvX.same {K:Sg} {a:Ad} {H H':Hp} {o:S4} {S:Riv} {Gs:List Jmi} (s:Sl H H') (h:RvX K a H o S Gs):RvX K a H' o S Gs:=⟨h.ro.same s,h.gx.same s,h.ln,h.ti,h.n1,h.ok⟩
noncomputable def Sm2 (S:Riv) (ls:List Int):Prop:=∀(i:Nat) (n:Int) (B:Bsn),ls[i]?=some n->S.Bs[i]?=some B->B.lo<=n/\n<=B.hi
noncomputable def Sjd (S:Riv) (cs:List Int):Prop:=∀(i:Nat) (n:Int) (B:Bsn),cs[i]?=some n->S.Bs[i]?=some B->0<=n/\n<=(B.n:Int) - 1
theorem Sc3.of:∀{Gs:List Jmi} {cs ls:List Int},Gs.length=cs.length->cs.length=ls.length->(∀(i:Nat) (G:Jmi) (c l:Int),Gs[i]?=some G->cs[i]?=some c->ls[i]?=some l->Sbk G/\(0<=c/\c < (nOf G:Int))/\(0<=l/\l<=1000))->Sc3 Gs cs ls
 | [],[],[],_,_,_=>True.intro
 |G::Gs,c::cs,l::ls,e1,e2,h=>⟨h 0 G c l rfl rfl rfl,Sc3.of (by simpa using e1) (by simpa using e2) λi G c l q1 q2 q3=>h (i+1) G c l (by simpa using q1) (by simpa using q2) (by simpa using q3)⟩
 | [],_::_,_,e,_,_=>by simp at e
 |_::_,[],_,e,_,_=>by simp at e
 | [],[],_::_,_,e,_=>by simp at e
 |_::_,_::_,[],_,e,_=>by simp at e
theorem Smm {S:Riv} {ls:List Int} {tv:V} (ti:TIn S):0<=drw S ls tv/\(drw S ls tv > 0->drw S ls tv<=ls.getD (Jzp S tv) 0):=by
 cases tv with
 |int t=>
  show 0<=(match S.Ts[t.toNat]? with|some T=>if ls.getD (plc S T.b) 0≥T.wt then T.wt else 0|none=>0)/\((match S.Ts[t.toNat]? with|some T=>if ls.getD (plc S T.b) 0≥T.wt then T.wt else 0|none=>0) > 0->(match S.Ts[t.toNat]? with|some T=>if ls.getD (plc S T.b) 0≥T.wt then T.wt else 0|none=>0)<=ls.getD (match S.Ts[t.toNat]? with|some T=>plc S T.b|none=>0) 0);cases e:S.Ts[t.toNat]? with
  |none=>simp
  |some T=>
   have:=ti T (yr e);dsimp only;split <;> omega
 |_=>exact ⟨Int.le_refl 0,λh=>absurd (show (0:Int) > 0 from h) (by decide)⟩
theorem Sn0 {S:Riv} {ls:List Int} {tv:V} (ti:TIn S) (h0:∀n∈ls,0<=n/\n<=12):∀n∈lft S ls tv,0<=n/\n<=12:=by
 have d:=Smm (ls:=ls) (tv:=tv) ti;unfold lft;split
 ·rename_i hd
  intro n hn;rcases ycy hn with h|h
  ·exact h0 n h
  ·by_cases hp:Jzp S tv < ls.length
   ·have e:ls.getD (Jzp S tv) 0=ls[Jzp S tv]:=by simp [ybz,hp]
    have:=h0 _ (ybb hp);rw [e] at h d;have:=d.2 hd;omega
   ·have e:ls.getD (Jzp S tv) 0=0:=by simp [ybz,hp]
    rw [e] at d;have:=d.2 hd;omega
 ·exact h0
theorem RvX.sets {K:Sg} {a:Ad} {H:Hp} {o:S4} {S:Riv} {Gs:List Jmi} {ls cs:List Int} {tv:V} (h:RvX K a H o S Gs) (l1:ls.length=S.Bs.length) (l2:cs.length=S.Bs.length) (hl:Sm2 S ls) (hc:Sjd S cs):Sc3 Gs cs (lft S ls tv):=by
 have ln:=h.ln;have all:∀n∈ls,0<=n/\n<=12:=λn hn=>by
  obtain ⟨i,hi⟩:=ybl hn;have hi':i < ls.length:=(yi.mp hi).1;have b:=hl i n S.Bs[i] hi (yh (by omega));have k:=h.ok i S.Bs[i] (Gs[i]'(by omega)) (yh (by omega)) (yh (by omega));omega
 refine .of (by omega) (by rw [Jxv];omega) λi G c l q1 q2 q3=>?_;have hi:i < Gs.length:=(yi.mp q1).1;have k:=h.ok i S.Bs[i] G (yh (by omega)) q1;have b:=hc i c S.Bs[i] q2 (yh (by omega));have f:=Sn0 (tv:=tv) h.ti all l (yr q3);exact ⟨k.1,by rw [<-k.2.1];omega,by omega⟩
noncomputable def Ybw (S:Riv) (Gs:List Jmi) (ls cs:List Int) (wt:Int) (tv:V) (rn:List Int):Option (List Int×Int):=if (Jow 0 S.Bs (Jty S Gs ls cs tv rn)).length=0 then some (Jty S Gs ls cs tv rn,Ycj S wt rn) else none
noncomputable def Sm1 (H:Hp) (y:V):Option (List Int×Int)->Prop
 |none=>y= .non
 |some p=>Sco H y p.1 p.2
inductive Yeo (a:Ad) (vs:List V) (H:Hp) (Q:VK) (z3:XK):Prop where
 |mk (p dx u lv q:S4) (c r:V) (d wt:Int) (_:vs= [.ref p]) (_:H p=some (.ins a.Jll dx (Sov c r d u lv wt q))) (_:∀t H',Sl H H'->H' t=some (.tup [.ref lv,.int wt])->Q (.ref t) H')
inductive So3 (K:Sg) (a:Ad) (vs:List V) (H:Hp) (Q:VK) (z3:XK):Prop where
 |mk (o ra:S4) (S:Riv) (Gs:List Jmi) (x c:V) (ls cs rn:List Int) (wt:Int) (tv:V) (_:vs= [.ref o,x,c,.ref ra]) (_:Sgl K a H o S Gs x c ls cs wt tv ra rn) (_:∀y H',Sl H H'->Sm1 H' y (Ybw S Gs ls cs wt tv rn)->Q y H')
theorem Jti:Jm6 ["self"] ["self"] (Jm5 (Jmc (top 30) 1)):=%[|0]
theorem Jt9 (T:Tx K mg a):Sv P w K mg base CX0 1 a.Jho a.Jhp ["self"] (Yeo a):=by
 refine %[T.Jcv.fn.ok,Jti|2]
 ·obtain ⟨p,dx,u,lv,q,c,r,d,wt,rfl,_⟩:=h;rfl
 ·obtain ⟨p,dx,u,lv,q,c,r,d,wt,rfl,hp,k⟩:=h;refine ⟨?t,?B,?C⟩
  case B=>
   refine' Jm1 ?O0
   case O0=>exact (Jma (Jmz (Sm (Jmd (pv 0) (by rfl)) (Sm (Jmd (pv 0) (by rfl)) So))))
  refine ⟨_,rfl,p,_,dx,_,_,rfl,hp,T.Jds,T.Jf8,rfl,_,rfl,p,_,dx,_,_,rfl,hp,T.Jds,T.Jf9,rfl,(show 2<=S9 by decide),λt ht=>k t _ (Sl.upd ht) Sr⟩
theorem Sho:Jm6 ["river","standing","choice","rain","turn"] ["river","standing","choice","rain"] (Jm5 (top 48)):=%[|0]
theorem Yfw (T:Tx K mg a):Sv P w K mg base CX0 7 a.Jik a.Jil ["river","standing","choice","rain"] (So3 K a):=by
 have Seb:=%[Jxz|1];have Sec:=%[Jt9|1];refine %[T.Jp.fn.ok,Sho|2]
 ·obtain ⟨o,ra,S,Gs,x,c,ls,cs,rn,wt,tv,rfl,_⟩:=h;rfl
 ·obtain ⟨o,ra,S,Gs,x,c,ls,cs,rn,wt,tv,rfl,ti,k⟩:=h;refine ⟨?t,?B,?C⟩
  case B=>
   refine' Jlz ?O0 ?O1
   case O0=>exact (Jmb (i:=4) Sho.nd rfl (yf rfl) (Jpg T.Jdt Seb (hr.mono (by decide)) (by rfl) T.Jbe T.Jcu.bd .nil Jpf (pa4 (pv 0) (pv 1) (pv 2) (pv 3))))
   case O1=>
   refine' Jm1 ?O2
   case O2=>exact (Jma (Jvp (Jmm Jpe (Jm8 Jmg (by rfl) T.Jau Jnc (Sm (Jmd (pv 4) (by rfl)) So)) Su (Jmp _)) (Ydp (pv 4) T.Jds T.Jdu Sec (hr.mono (by decide)) T.Jcv.bd .nil Jpf) Jnt))
  refine ⟨_,rfl,_,rfl,_,rfl,_,rfl,λp dx hp hd ne=>?_⟩;have sn:Sl H (upd (upd H dx (.own p)) p (.ins a.Jll dx [])):=λb ob e=>by rw [Sx (Jm2 e hp),Sx (Jm2 e hd)];exact e
  refine ⟨p,dx,o,ra,H,S,Gs,x,c,ls,cs,rn,wt,tv,rfl,hp,sn,Sr,ti,λH1 s1 tr=>?_⟩;obtain ⟨dx1,u,lv,q,g1,g2,g3,g4⟩:=tr;refine ⟨rfl,_,rfl,p,_,dx1,_,_,rfl,g1,T.Jds,T.Jfa,rfl,q,_,rfl,.inr (SqT.of g4),rfl,_,rfl,?_⟩;rw [ye];unfold Ybw at k;by_cases e:(Jow 0 S.Bs (Jty S Gs ls cs tv rn)).length=0
  ·rw [if_pos e] at k;refine ifT (by rw [e];rfl) ⟨_,rfl,p,dx1,_,rfl,g1,rfl,p,dx1,u,lv,q,c,.ref ra,_,_,rfl,g1,λt H2 s2 ht=>?_⟩;exact k _ _ (s1.trans s2) ⟨t,lv,rfl,ht,s2 _ _ g3⟩
  ·rw [if_neg e] at k;exact ifF (decide_eq_false λz=>e (by have:=V.int.inj z;omega)) (k _ _ s1 rfl)
theorem Soh {R:Riv} {n:Int} (hl:∀B∈R.Bs,1<=lvN B):∀i,i<=R.Bs.length->∀(j:Nat) (l:Int) (B:Bsn),(stF R n i).1[j]?=some l->R.Bs[j]?=some B->B.lo<=l/\l<=B.hi:=by
 intro i
 induction i with
 |zero=>exact λ_ j l B e=>by simp [stF] at e
 |succ i ih=>
  intro h j l B e1 e2;have eB:R.Bs[i]?=some R.Bs[i]:=yh (by omega);rw [Jvz R n eB] at e1;have ln:=Jum R n i (by omega);rw [ycp,ln] at e1;by_cases c:j < i
  ·rw [if_pos c] at e1;exact ih (by omega) j l B e1 e2
  ·rw [if_neg c] at e1;have ej:j=i:=by
    have:=(yi.mp e1).1;simp at this;omega
   subst ej;rw [eB] at e2;cases e2;rw [Nat.sub_self] at e1;cases e1;have q:=hl _ (yr eB);have m1:=ycd (stF R n j).2 (show lvN R.Bs[j]≠0 by omega);have m2:=yce (stF R n j).2 (show 0 < lvN R.Bs[j] by omega);have e:lvN R.Bs[j]=R.Bs[j].hi - R.Bs[j].lo+1:=rfl;omega
noncomputable def lvL:List Bsn->List (List Int)
 | []=>[[]]
 |B::Bs=>(lvL Bs).flatMap λls=>(rgI (lvN B).toNat).map λk=>(B.lo+k)::ls
theorem Juy {α β:Type} {m:Nat} {f:α->List β}:∀{l:List α},(∀x∈l,(f x).length=m)->∀(i j:Nat) (x:α),l[i]?=some x->j < m->(l.flatMap f)[i*m+j]?=(f x)[j]?:=by
 intro l
 induction l with
 |nil=>exact λ_ i j x e=>by simp at e
 |cons y l ih=>
  intro h i j x e hj;have hy:=h y yab;rw [ycu];cases i with
  |zero=>
   cases e;rw [Nat.zero_mul,Nat.zero_add,List.getElem?_append_left (by omega)]
  |succ i=>
   rw [List.getElem?_append_right (by rw [hy,Nat.succ_mul];omega),hy,show (i+1)*m+j - m=i*m+j by rw [Nat.succ_mul];omega];exact ih (λx hx=>h x (yz _ hx)) i j x (by simpa using e) hj
theorem Js7 {α β:Type} {m:Nat} {f:α->List β}:∀{l:List α},(∀x∈l,(f x).length=m)->(l.flatMap f).length=l.length*m:=by
 intro l
 induction l with
 |nil=>exact λ_=>by simp
 |cons y l ih=>
  intro h;rw [ycu,yad,h y yab,ih λx hx=>h x (yz _ hx),yag,Nat.succ_mul,Nat.add_comm]
noncomputable def prN:List Bsn->Nat
 | []=>1
 |B::Bs=>prN Bs*(lvN B).toNat
theorem Jsb:∀Bs:List Bsn,(lvL Bs).length=prN Bs:=by
 intro Bs
 induction Bs with
 |nil=>rfl
 |cons B Bs ih=>
  show ((lvL Bs).flatMap _).length=prN Bs*_;rw [Js7 (m:=(lvN B).toNat) λx _=>by rw [ye,Joc],ih]
theorem Yz (ns:List Int):∀c:Int,ns.foldl (·*·) c=c*Joo ns:=by
 unfold Joo
 induction ns with
 |nil=>intro c;simp
 |cons n ns ih=>
  intro c;rw [List.foldl_cons,List.foldl_cons,ih (c*n),ih (1*n),Int.one_mul,Int.mul_assoc]
theorem Ydu:∀Bs:List Bsn,(∀B∈Bs,1<=lvN B)->Joo (Bs.map lvN)=prN Bs:=by
 intro Bs
 induction Bs with
 |nil=>exact λ_=>rfl
 |cons B Bs ih=>
  intro h;have q:=h B yab;show (Bs.map lvN).foldl (·*·) (1*lvN B)=_;rw [Yz,ih λx hx=>h x (yz _ hx)];show _=((prN Bs*(lvN B).toNat:Nat):Int);rw [Int.natCast_mul,Int.one_mul,Int.mul_comm,Int.toNat_of_nonneg (by omega)]
noncomputable def stG (Bs:List Bsn) (acc:List Int) (n:Int):List Int×Int:=Bs.foldl (λp B=>(p.1++ [B.lo+p.2%lvN B],p.2/lvN B)) (acc,n)
theorem Ygx:∀(Bs:List Bsn),(∀B∈Bs,1<=lvN B)->∀(acc:List Int) (n:Nat),n < prN Bs->∃ls,(lvL Bs)[n]?=some ls/\(stG Bs acc n).1=acc++ls:=by
 intro Bs
 induction Bs with
 |nil=>
  intro _ acc n hn;have e:n=0:=by
   have:n < 1:=hn;omega
  subst e;exact ⟨[],rfl,by simp [stG]⟩
 |cons B Bs ih=>
  intro h acc n hn;have q:=h B yab;obtain ⟨m,em⟩:∃m:Nat,lvN B=m:=⟨(lvN B).toNat,by omega⟩;have hm:0 < m:=by omega
  have hn':n < prN Bs*(lvN B).toNat:=hn;rw [em,yav] at hn';have hd:n/m < prN Bs:=(Nat.div_lt_iff_lt_mul hm).mpr hn';obtain ⟨ls,e1,e2⟩:=ih (λx hx=>h x (yz _ hx)) (acc++ [B.lo+(n:Int)%lvN B]) (n/m) hd;refine ⟨(B.lo+(n:Int)%lvN B)::ls,?_,?_⟩
  ·show ((lvL Bs).flatMap _)[n]?=_;have g:=Juy (m:=m) (f:=λls=>(rgI (lvN B).toNat).map λk=>(B.lo+k)::ls) (l:=lvL Bs) (λx _=>by rw [ye,Joc,em,yav]) (n/m) (n%m) ls e1 (Nat.mod_lt _ hm);rw [show n/m*m+n%m=n by rw [Nat.mul_comm];exact Nat.div_add_mod n m] at g;rw [g,ym];unfold rgI;rw [ym,ycj (by rw [em,yav];exact Nat.mod_lt _ hm),em];rfl
  ·show (stG Bs (acc++ [B.lo+(n:Int)%lvN B]) ((n:Int)/lvN B)).1=_;rw [em] at e2⊢;rw [show ((n:Int)/(m:Int))=((n/m:Nat):Int) from rfl,e2,List.append_assoc];rfl
noncomputable def nbG (Bs:List Bsn) (ls:List Int) (p:Int×Int):Int×Int:=(Bs.zip ls).foldl (λp q=>(p.1+p.2*(q.2 - q.1.lo),p.2*lvN q.1)) p
theorem Yfq:∀(Bs:List Bsn),(∀B∈Bs,1<=lvN B)->∀(n:Nat) (ls:List Int) (acc st:Int),(lvL Bs)[n]?=some ls->(nbG Bs ls (acc,st)).1=acc+st*n:=by
 intro Bs
 induction Bs with
 |nil=>
  intro _ n ls acc st e;have hn:n=0:=by
   have:=(yi.mp e).1;have:n < 1:=this;omega
  subst hn;cases e;simp [nbG]
 |cons B Bs ih=>
  intro h n ls acc st e;have q:=h B yab;obtain ⟨m,em⟩:∃m:Nat,lvN B=m:=⟨(lvN B).toNat,by omega⟩;have hm:0 < m:=by omega
  have hn:n < prN (B::Bs):=by rw [<-Jsb];exact (yi.mp e).1
  have hn':n < prN Bs*(lvN B).toNat:=hn;rw [em,yav] at hn';have hd:n/m < prN Bs:=(Nat.div_lt_iff_lt_mul hm).mpr hn';have e1:(lvL Bs)[n/m]?=some ((lvL Bs)[n/m]'(by rw [Jsb];exact hd)):=yh _;generalize (lvL Bs)[n/m]'(by rw [Jsb];exact hd)=l1 at e1;have g:=Juy (m:=m) (f:=λls=>(rgI (lvN B).toNat).map λk=>(B.lo+k)::ls) (l:=lvL Bs) (λx _=>by rw [ye,Joc,em,yav]) (n/m) (n%m) l1 e1 (Nat.mod_lt _ hm);rw [show n/m*m+n%m=n by rw [Nat.mul_comm];exact Nat.div_add_mod n m,ym] at g;unfold rgI at g;rw [ym,ycj (by rw [em,yav];exact Nat.mod_lt _ hm)] at g;have e':((lvL Bs).flatMap λls=>(rgI (lvN B).toNat).map λk=>(B.lo+k)::ls)[n]?=some ls:=e;unfold rgI at e';rw [g] at e';cases e';have i1:=ih (λx hx=>h x (yz _ hx)) (n/m) l1 (acc+st*(B.lo+((n%m:Nat):Int) - B.lo)) (st*lvN B) e1;show (nbG Bs l1 (acc+st*(B.lo+((n%m:Nat):Int) - B.lo),st*lvN B)).1=_;rw [i1,em,Int.mul_assoc,Int.add_assoc,<-Int.mul_add];congr 2;have dm:=Nat.div_add_mod n m;have dm':(m:Int)*((n/m:Nat):Int)+((n%m:Nat):Int)=n:=by rw [<-Int.natCast_mul,<-Int.natCast_add,dm]
  omega
noncomputable def stL (R:Riv):List (List Int×Int):=(lvL R.Bs).flatMap λls=>(rgI (R.c+1).toNat).map λwt=>(ls,wt)
theorem Ygy (R:Riv) (hl:∀B∈R.Bs,1<=lvN B) (hc:0<=R.c):((stL R).length:Int)=stN R:=by
 unfold stL stN;rw [Js7 (m:=(R.c+1).toNat) λx _=>by rw [ye,Joc],Jsb,Ydu _ hl,Int.natCast_mul,Int.toNat_of_nonneg (by omega)]
theorem Yb7 {R:Riv} (hl:∀B∈R.Bs,1<=lvN B) (hc:0<=R.c) {n:Nat} (hn:n < (stL R).length):(stL R)[n]?=some ((stF R n R.Bs.length).1,(n:Int)%(R.c+1))/\(nbF R (stF R n R.Bs.length).1 ((n:Int)%(R.c+1)) R.Bs.length).1=n:=by
 obtain ⟨m,em⟩:∃m:Nat,R.c+1=m:=⟨(R.c+1).toNat,by omega⟩;have hm:0 < m:=by omega
 have em':(R.c+1).toNat=m:=by omega
 have hn':n < prN R.Bs*m:=by
  have:=Js7 (m:=(R.c+1).toNat) (f:=λls=>(rgI (R.c+1).toNat).map λwt:Int=>(ls,wt)) (l:=lvL R.Bs) λx _=>by rw [ye,Joc]
  rw [Jsb,em'] at this;have hh:n < ((lvL R.Bs).flatMap λls=>(rgI (R.c+1).toNat).map λwt:Int=>(ls,wt)).length:=hn;rw [em'] at hh;omega
 have hd:n/m < prN R.Bs:=(Nat.div_lt_iff_lt_mul hm).mpr hn';obtain ⟨ls,e1,e2⟩:=Ygx R.Bs hl [] (n/m) hd;have e3:(stF R n R.Bs.length).1=ls:=by
  unfold stF;rw [ybn,em];exact e2
 rw [e3];refine ⟨?_,?_⟩
 ·have g:=Juy (m:=m) (f:=λls=>(rgI (R.c+1).toNat).map λwt:Int=>(ls,wt)) (l:=lvL R.Bs) (λx _=>by rw [ye,Joc,em']) (n/m) (n%m) ls e1 (Nat.mod_lt _ hm);rw [show n/m*m+n%m=n by rw [Nat.mul_comm];exact Nat.div_add_mod n m,ym] at g;show ((lvL R.Bs).flatMap λls=>(rgI (R.c+1).toNat).map λwt:Int=>(ls,wt))[n]?=_;rw [g];unfold rgI;rw [ym,ycj (by rw [em'];exact Nat.mod_lt _ hm),em];rfl
 ·have ll:ls.length=R.Bs.length:=by
   rw [<-e3];exact Jum R n _ (yg _)
  have g:=Yfq R.Bs hl (n/m) ls ((n:Int)%(R.c+1)) (R.c+1) e1;unfold nbF;rw [yah (by rw [List.length_zip];omega)];refine g.trans ?_;rw [em];have dm:=Nat.div_add_mod n m;have dm':(m:Int)*((n/m:Nat):Int)+((n%m:Nat):Int)=n:=by rw [<-Int.natCast_mul,<-Int.natCast_add,dm]
  have em2:(n:Int)%(m:Int)=((n%m:Nat):Int):=rfl;rw [em2];omega
theorem Yfl {R:Riv} {sk:Option (List (Int×Int))} (so:Jpi R sk):∀(i:Nat) (r:List Int) (B:Bsn),(Jnv R sk)[i]?=some r->R.Bs[i]?=some B->∀n∈r,0<=n/\n < B.n:=by
 have h0:∀(i:Nat) (r:List Int) (B:Bsn),(R.Bs.map λB=>rgI B.n)[i]?=some r->R.Bs[i]?=some B->∀n∈r,0<=n/\n < B.n:=by
  intro i r B e1 e2 n hn;rw [ym,e2] at e1;cases e1;exact Jyg hn
 have go:∀(l:List (Int×Int)) (rs:List (List Int)),(∀p∈l,SkB R p)->(∀(i:Nat) (r:List Int) (B:Bsn),rs[i]?=some r->R.Bs[i]?=some B->∀n∈r,0<=n/\n < B.n)->∀(i:Nat) (r:List Int) (B:Bsn),(l.foldl (λrs p=>rs.set p.1.toNat [p.2]) rs)[i]?=some r->R.Bs[i]?=some B->∀n∈r,0<=n/\n < B.n:=by
  intro l
  induction l with
  |nil=>exact λrs _ h=>h
  |cons p l ih=>
   intro rs hp h;refine ih _ (λq hq=>hp q (yz _ hq)) λi r B e1 e2 n hn=>?_;obtain ⟨p0,B',eB,q0,q1⟩:=hp p yab;rw [yct] at e1;by_cases c:p.1.toNat=i
   ·rw [if_pos c] at e1;split at e1
    ·cases e1;rw [c,e2] at eB;cases eB;rw [yam.mp hn];exact ⟨q0,q1⟩
    ·cases e1
   ·rw [if_neg c] at e1;exact h i r B e1 e2 n hn
 unfold Jnv;cases sk with
 |none=>exact h0
 |some l=>exact go l _ (so l rfl).2.2 h0
theorem Snk {R:Riv} {sk:Option (List (Int×Int))} (so:Jpi R sk):∀i,i<=R.Bs.length->∀r∈rwN R sk i,r.length=i/\Sjd R r:=by
 intro i
 induction i with
 |zero=>
  intro _ r hr;have hr':r∈ [([]:List Int)]:=hr;rw [yam.mp hr'];exact ⟨rfl,λi n B e=>by simp at e⟩
 |succ i ih=>
  intro h r hr;have ll:=Jt4 R sk;have er:(Jnv R sk)[i]?=some ((Jnv R sk)[i]'(by omega)):=yh _;rw [Jsk er] at hr;obtain ⟨r0,h0,n,hn,rfl⟩:=Yau hr;obtain ⟨l0,c0⟩:=ih (by omega) r0 h0;refine ⟨by rw [yad,l0];rfl,λj m B e1 e2=>?_⟩;rw [ycp,l0] at e1;by_cases c:j < i
  ·rw [if_pos c] at e1;exact c0 j m B e1 e2
  ·rw [if_neg c] at e1;have ej:j=i:=by
    have:=(yi.mp e1).1;simp at this;omega
   subst ej;rw [Nat.sub_self] at e1;cases e1;have q:=Yfl so j _ B er e2 n hn;omega
theorem Smf {R:Riv} {sk:Option (List (Int×Int))} (so:Jpi R sk) {c:List Int×Option Int} (h:c∈chL R sk):c.1.length=R.Bs.length/\Sjd R c.1/\Sks R (twV c.2):=by
 unfold chL at h;obtain ⟨r,hr,h⟩:=ycv.mp h;obtain ⟨t,ht,rfl⟩:=yo.mp h;obtain ⟨q1,q2⟩:=Snk so R.Bs.length (yg _) r hr;refine ⟨q1,q2,?_⟩;unfold twL at ht;rcases yq.mp ht with rfl|ht
 ·exact .inl rfl
 ·obtain ⟨n,hn,rfl⟩:=yo.mp ht;have:=Jyg hn;exact .inr ⟨n,rfl,this.1,this.2⟩
theorem Yag {R:Riv} {sk:Option (List (Int×Int))} (h4:R.Bs.length<=4) (n4:∀B∈R.Bs,B.n<=4) (ht:R.Ts.length<=3):(chL R sk).length<=1024:=by
 have r4:=Jv5 R sk n4;have ll:=Jt4 R sk;obtain ⟨b1,_⟩:=Yea (R:=R) (sk:=sk) r4 R.Bs.length (by omega);have b5:=Snd h4;unfold chL;rw [Js7 (m:=R.Ts.length+1) λx _=>by rw [ye];unfold twL;rw [yag,ye,Joc]];have:=Nat.mul_le_mul (yai b1 b5) (show R.Ts.length+1<=4 by omega);omega
theorem Smb:∀{k:Nat} {Bs:List Bsn} {ls:List Int},(Jow k Bs ls).length=0->∀(i:Nat) (n:Int) (B:Bsn),ls[i]?=some n->Bs[i]?=some B->B.lo<=n/\n<=B.hi:=by
 intro k Bs
 induction Bs generalizing k with
 |nil=>exact λ_ i n B _ e=>by simp at e
 |cons C Bs ih=>
  intro ls h i n B e1 e2;cases ls with
  |nil=>simp at e1
  |cons l ls=>
   have h':(if C.lo<=l/\l<=C.hi then Jow (k+1) Bs ls else (k:Int)::Jow (k+1) Bs ls).length=0:=h;by_cases c:C.lo<=l/\l<=C.hi
   ·rw [if_pos c] at h';cases i with
    |zero=>cases e1;cases e2;exact c
    |succ i=>exact ih h' i n B (by simpa using e1) (by simpa using e2)
   ·rw [if_neg c] at h';simp at h'
inductive FlV (bad:S4->Prop) (H:Hp) (v:V) (rs:List (List Int)):Prop where
 |mk (q:_) (us:_) (_:v= .ref q) (_:¬bad q) (_:H q=some (.lst us)) (_:TpL H us rs)
theorem FlV.mn {bad:S4->Prop} {D:S4} (h:bad D):MnD D (FlV bad):=by
 rintro H H' v a f ⟨q,us,rfl,nb,g,r⟩;exact ⟨q,us,rfl,nb,f q _ (.inl λe=>nb (e▸h)) g,TpL.on (λq xs e=>f q _ (.inr λ_ z=>by cases z) e) r⟩
noncomputable def Scs (H H':Hp):Prop:=∀q o,(∀C d fs,o≠ .ins C d fs)->H q=some o->H' q=some o
theorem Scs.same {H H':Hp} (s:Sl H H'):Scs H H':=λq o _ e=>s q o e
theorem Scs.tup {H H':Hp} (f:Scs H H'):∀q xs,H q=some (.tup xs)->H' q=some (.tup xs):=λq xs e=>f q _ (λ_ _ _ z=>by cases z) e
theorem Scs.lst {H H':Hp} {q:S4} {xs:List V} (f:Scs H H') (e:H q=some (.lst xs)):H' q=some (.lst xs):=f q _ (λ_ _ _ z=>by cases z) e
theorem FlV.to {bad bad':S4->Prop} {H H':Hp} {v:V} {rs:List (List Int)} (s:Scs H H') (hb:∀q,bad' q->bad q) (h:FlV bad H v rs):FlV bad' H' v rs:=by
 obtain ⟨q,us,rfl,nb,g,r⟩:=h;exact ⟨q,us,rfl,λz=>nb (hb q z),s.lst g,TpL.on s.tup r⟩
theorem Sco.to {H H':Hp} {x:V} {ls:List Int} {wt:Int} (s:Scs H H') (h:Sco H x ls wt):Sco H' x ls wt:=by
 obtain ⟨t,r,e,h1,h2⟩:=h;exact ⟨t,r,e,s.tup _ _ h1,s.tup _ _ h2⟩
noncomputable def NoB:S4->Prop:=λ_=>False
noncomputable def flL (S:Riv):List (List (List Int)):=(yaw (S.c+1).toNat).map λk:Nat=>rnL S (k:Int)
structure Sm5 (S:Riv):Prop where
 n4:S.Bs.length<=4
 lv:∀B∈S.Bs,(1<=lvN B/\lvN B<=13)/\0<=B.lo/\B.lo<=12
 c:0<=S.c/\S.c<=12
 rb:RnB S
structure Shz (K:Sg) (a:Ad) (H:Hp) (s:S4) (S:Riv) (Gs:List Jmi) (sk:Option (List (Int×Int))):Prop where
 at_:∃(dx o L F:S4) (fs:List (Str×V)) (us vs:List V),H s=some (.ins a.Jlm dx fs)/\fs.lookup ("river" :Str)=some (.ref o)/\fs.lookup ("listed" :Str)=some (.ref L)/\fs.lookup ("falls" :Str)=some (.ref F)/\fs.lookup ("ends_by_rain" :Str)=none/\fs.lookup ("ends_by_place" :Str)=none/\RvX K a H o S Gs/\H L=some (.lst us)/\CcL H us (chL S sk)/\H F=some (.lst vs)/\Sag (FlV NoB) H vs (flL S)
 so:Jpi S sk
 s4:Sm5 S
theorem Shz.same {K:Sg} {a:Ad} {H H':Hp} {s:S4} {S:Riv} {Gs:List Jmi} {sk:Option (List (Int×Int))} (m:Sl H H') (h:Shz K a H s S Gs sk):Shz K a H' s S Gs sk:=by
 obtain ⟨⟨dx,o,L,F,fs,us,vs,g1,l1,l2,l3,l4,l5,rv,g2,cc,g3,fl⟩,so,s4⟩:=h;exact ⟨⟨dx,o,L,F,fs,us,vs,m _ _ g1,l1,l2,l3,l4,l5,rv.same m,m _ _ g2,CcL.on (λq xs e=>m _ _ e) cc,m _ _ g3,fl.imp λv a h=>h.to (.same m) λq z=>z⟩,so,s4⟩
inductive Snw (K:Sg) (a:Ad) (vs:List V) (H:Hp) (Q:VK) (z3:XK):Prop where
 |mk (s:S4) (S:Riv) (Gs:List Jmi) (sk:Option (List (Int×Int))) (x c:V) (ls cs:List Int) (wt:Int) (tv:V) (_:vs= [.ref s,x,c]) (_:Shz K a H s S Gs sk) (_:StA H x S ls wt) (_:Sm2 S ls) (_:(0<=wt/\wt<=S.c)) (_:ChA H c S cs tv) (_:Sjd S cs) (_:∀(v:V) (H':Hp),Sl H H'->Q v H')
inductive Snv (K:Sg) (a:Ad) (vs:List V) (H:Hp) (Q:VK) (z3:XK):Prop where
 |mk (s:S4) (S:Riv) (Gs:List Jmi) (sk:Option (List (Int×Int))) (x:V) (ls:List Int) (wt:Int) (_:vs= [.ref s,x]) (_:Shz K a H s S Gs sk) (_:StA H x S ls wt) (_:Sm2 S ls) (_:(0<=wt/\wt<=S.c)) (_:∀(v:V) (H':Hp),Sl H H'->Q v H')
theorem Ydk {S:Riv} {Gs:List Jmi} {ls cs rn:List Int} {tv:V} (hl:ls.length=S.Bs.length) (hg:Gs.length=S.Bs.length) (hc:cs.length=S.Bs.length) (hr:rn.length=S.Bs.length):(Jty S Gs ls cs tv rn).length=S.Bs.length:=by
 have e1:(lft S ls tv).length=S.Bs.length:=by rw [Jxv];exact hl
 have e2:(Jtv S Gs ls cs tv).length=S.Bs.length:=by unfold Jtv;rw [Jr0 (by omega) (by omega)];exact hg
 unfold Jty;rw [Js3 (by omega) (by omega)];exact e1
theorem Sb5:Jm6 ["self","standing","choice","led"] ["self","standing","choice"] (Jm5 (Jmc (top 49) 2)):=%[|0]
theorem Jpa (T:Tx K mg a):Sv P w K mg base CX0 8 a.Jiq a.Jir ["self","standing","choice"] (Snw K a):=by
 have Slj:=%[Yfw|1];have Sgb:=%[Jy7|1];refine %[T.Jcy.fn.ok,Sb5|2]
 ·obtain ⟨s,S,Gs,sk,x,c,ls,cs,wt,tv,rfl,_⟩:=h;rfl
 ·obtain ⟨s,S,Gs,sk,x,c,ls,cs,wt,tv,rfl,sp,sa,lvi,hwt,ca,csi,k⟩:=h;refine ⟨?t,?B,?C⟩
  case B=>
   refine' Jlz ?O0 ?O1
   case O0=>exact (Jsi (i:=3) (N:=(["rain","standing","choice","self"]:List Str)) (ini:=[none,some 1,some 2,some 0]) Sb5.nd rfl (yf rfl) rfl (Jn0 (Jmf Jn2 (Jmd (pv 0) (by rfl)) (Jmf Jmk (pv 1) Su (λ_ _=>rfl)) (λ_ _=>rfl))) (λ_ _ _ _ _=>(Jm7 (i:=0) (by decide +kernel:(["rain","standing","choice","self"]:List Str).Nodup) rfl (yf rfl))) (λ_ _ _ _ _=>Jmq) (λ_ _ _ _ _=>(Jm4 T.Jp Slj hr (by decide) (pa4 (Joa (K:=K) rfl (pv 3) (by rfl)) (pv 1) (pv 2) (pv 0)))))
   case O1=>
   refine' Jm1 ?O2
   case O2=>exact (Jma (Jmt (N:=(["end","self"]:List Str)) (ini:=[none,some 0]) rfl (Jn0 (pv 3)) (λ_ _ _ _ _=>(Jm7 (i:=0) (by decide +kernel:(["end","self"]:List Str).Nodup) rfl (yf rfl))) (λ_ _ _ _ _=>Jmq) (λ_ _ _ _ _=>(Jvp (Jmm Jvj (pv 0) Jnt (Jmp _)) Jnt (Jm4 T.Jn Sgb hr (by decide) (Sm (Joa (K:=K) rfl (pv 1) (by rfl)) (Sm (pv 0) So)))))))
  obtain ⟨⟨dx,o,L,F,fs,us,vs,g1,l1,l2,l3,l4,l5,rv,g2,cc,g3,fl⟩,so,s4⟩:=sp;obtain ⟨y,u,rfl,hy,hu,lu⟩:=id sa;obtain ⟨z,v,rfl,hz,hv,lv,tw⟩:=id ca;have ln:=rv.ln;have hc:=s4.c;obtain ⟨n,en⟩:∃n:Nat,wt=n:=⟨wt.toNat,by omega⟩;have hn:n < vs.length:=by rw [fl.1];unfold flL;rw [ye,ybm];omega
  obtain ⟨rs,er,q,ws,ev,_,hq,tp⟩:=fl.at (yh hn);have ers:rs=rnL S wt:=by
   unfold flL at er;rw [ym,ycj (by rw [fl.1] at hn;unfold flL at hn;rw [ye,ybm] at hn;exact hn)] at er;rw [en];exact (yac.inj er).symm
  rw [ers] at tp;have r6:=Ssd (wet:=wt) s4.rb;have wl:=tp.1;refine ⟨_,rfl,s,_,dx,_,_,rfl,g1,T.Jdv,T.Jfg,l3,_,rfl,y,_,1,_,rfl,rfl,SqT.of hy,rfl,F,_,_,_,rfl,rfl,Sz.of g3,Jrj en (by rw [yh hn,ev]),q,rfl,⟨_,Sz.of hq⟩,λD hD=>?_⟩;refine Jop (K:=K) (xs:=ws) (λH v p=>Sm1 H v p) ((rnL S wt).map λrn=>Ybw S Gs ls cs wt tv rn) (λH H' v p f h=>?_) hD (by rw [ye,wl]) (by omega) hq ?_ ?_
  ·cases p with
   |none=>exact h
   |some p=>
    obtain ⟨t,r,e,h1,h2⟩:=h;exact ⟨t,r,e,f _ _ (.inr λ_ z=>by cases z) h1,f _ _ (.inr λ_ z=>by cases z) h2⟩
  ·intro i x' p H' Q' hx hp sm _ k';have hi:i < (rnL S wt).length:=by rw [<-wl];exact (yi.mp hx).1
   rw [ym,yh hi] at hp;cases hp;obtain ⟨ra,rfl,hra⟩:=tp.2 i x' _ hx (yh hi);have r6':=r6.2 _ (ybb hi);have rv2:=rv.same sm;exact ⟨_,rfl,s,_,dx,_,_,rfl,sm _ _ g1,T.Jdv,T.Jfc,l1,_,rfl,_,rfl,_,rfl,o,ra,S,Gs,_,_,ls,cs,_,wt,tv,rfl,⟨rv2.ro,rv2.ti,rv2.gx,rv2.ln,sa.same sm,ca.same sm,sm _ _ hra,r6'.1,r6'.sml (by have:=s4.n4;omega),rv2.sets lu lv lvi csi,rv2.n1⟩,λy H5 s5 h5=>k' y H5 s5 h5⟩
  intro es H1 s1 hD1 rg;have el:=rg.1;rw [ye] at el;refine ⟨_,rfl,D,rfl,⟨_,Sz.of hD1⟩,λD2 hD2=>?_⟩;refine Jop (K:=K) (xs:=es) (λ_ _ (_:V)=>True) es (λ_ _ _ _ _ h=>h) hD2 rfl (by omega) hD1 ?_ λvs H2 s2 _ _=>k _ H2 (s1.trans s2);intro i x' _ H' Q' hx _ sm _ k';have hi:i < (rnL S wt).length:=by rw [<-el];exact (yi.mp hx).1
  have r6':=r6.2 _ (ybb hi);have ld:Sm1 H1 x' (Ybw S Gs ls cs wt tv (rnL S wt)[i]):=rg.2 i x' _ hx (by rw [ym,yh hi];rfl);have s1m:=s1.trans sm;cases el2:Ybw S Gs ls cs wt tv (rnL S wt)[i] with
  |none=>
   rw [el2] at ld;cases ld;exact ⟨_,rfl,rfl,_,rfl,Jr6 rfl (k' _ _ (Sl.refl _) True.intro)⟩
  |some p=>
   rw [el2] at ld;have lb:Jty S Gs ls cs tv (rnL S wt)[i]=p.1/\(Jow 0 S.Bs (Jty S Gs ls cs tv (rnL S wt)[i])).length=0:=by
    unfold Ybw at el2;split at el2
    ·rename_i hb
     cases el2;exact ⟨rfl,hb⟩
    ·cases el2
   have ll:=Ydk (ls:=ls) (cs:=cs) (tv:=tv) lu ln.symm lv r6'.1;have bi:=Smb lb.2;rw [lb.1] at ll bi;obtain ⟨t,r,rfl,h1,h2⟩:=id ld;refine ⟨_,rfl,rfl,_,rfl,Jq5 (λz=>by cases z) ?_⟩;refine ⟨_,rfl,s,_,dx,_,_,rfl,s1m _ _ g1,T.Jdv,T.Jfc,l1,_,rfl,o,S,_,p.1,p.2,rfl,(rv.same s1m).ro,Sco.same sm ld,ll,s4.lv,λl hl=>?_,λH5 s5=>k' _ _ s5 True.intro⟩;obtain ⟨j,hj⟩:=ybl hl;have hj':j < S.Bs.length:=by rw [<-ll];exact (yi.mp hj).1
   have b1:=bi j l S.Bs[j] hj (yh hj');have b2:=rv.ok j S.Bs[j] (Gs[j]'(by omega)) (yh hj') (yh (by omega));omega
theorem Jp6:Jm6 ["self","standing"] ["self","standing"] (Jm5 (Jmc (top 49) 1)):=%[|0]
theorem Jp4 (T:Tx K mg a):Sv P w K mg base CX0 9 a.Jio a.Jip ["self","standing"] (Snv K a):=by
 have Sch:=%[Jpa|1];refine %[T.Jcx.fn.ok,Jp6|2]
 ·obtain ⟨s,S,Gs,sk,x,ls,wt,rfl,_⟩:=h;rfl
 ·obtain ⟨s,S,Gs,sk,x,ls,wt,rfl,sp,sa,lvi,hwt,k⟩:=h;refine ⟨?t,?B,?C⟩
  case B=>
   refine' Jm1 ?O0
   case O0=>exact (Jma (Jmt (N:=(["choice","standing","self"]:List Str)) (ini:=[none,some 1,some 0]) rfl (Jn0 (Jmd (pv 0) (by rfl))) (λ_ _ _ _ _=>(Jm7 (i:=0) (by decide +kernel:(["choice","standing","self"]:List Str).Nodup) rfl (yf rfl))) (λ_ _ _ _ _=>Jmq) (λ_ _ _ _ _=>(Yb1 (pv 2) T.Jdv T.Jdy Sch (hr.mono (by decide)) T.Jcy.bd .nil Jpf (Sm (pv 1) (Sm (pv 0) So))))))
  obtain ⟨⟨dx,o,L,F,fs,us,vs,g1,l1,l2,l3,l4,l5,rv,g2,cc,g3,fl⟩,so,s4⟩:=id sp;obtain ⟨_,_,_,os,ts,_,_,bl,_,tl,_,t3,_⟩:=id rv.ro;have cl:=Yag (sk:=sk) s4.n4 bl.n4 t3;have ul:=cc.1;refine ⟨_,rfl,s,_,dx,_,_,rfl,g1,T.Jdv,T.Jfe,l2,L,rfl,⟨_,Sz.of g2⟩,λD hD=>?_⟩;refine Jop (K:=K) (xs:=us) (λ_ _ (_:V)=>True) us (λ_ _ _ _ _ h=>h) hD rfl (by omega) g2 ?_ λds H1 s1 _ _=>k _ _ s1;intro i x' _ H' Q' hx _ sm _ k';have hi:i < (chL S sk).length:=by rw [<-ul];exact (yi.mp hx).1
  obtain ⟨t,q,rfl,h1,h2⟩:=cc.2 i x' _ hx (yh hi);obtain ⟨c1,c2,c3⟩:=Smf so (ybb hi);exact ⟨_,rfl,s,dx,fs,rfl,sm _ _ g1,l4,_,rfl,_,rfl,s,S,Gs,sk,x,_,ls,_,wt,_,rfl,sp.same sm,sa.same sm,lvi,hwt,⟨t,q,rfl,sm _ _ h1,sm _ _ h2,c1,c3⟩,c2,λv H5 s5=>k' v _ s5 True.intro⟩
noncomputable def sF1 (h:Int):List (Str×V):=[("heft",.int h)]
noncomputable def sF2 (h:Int) (o:S4):List (Str×V):=[("heft",.int h),("river",.ref o)]
noncomputable def sF3 (h:Int) (o rw:S4):List (Str×V):=[("heft",.int h),("river",.ref o),("row",.ref rw)]
noncomputable def sF4 (h:Int) (o rw L:S4):List (Str×V):=[("heft",.int h),("river",.ref o),("row",.ref rw),("listed",.ref L)]
noncomputable def sF5 (h:Int) (o rw L pl:S4):List (Str×V):=[("heft",.int h),("river",.ref o),("row",.ref rw),("listed",.ref L),("places",.ref pl)]
noncomputable def sF6 (h:Int) (o rw L pl F:S4):List (Str×V):=[("heft",.int h),("river",.ref o),("row",.ref rw),("listed",.ref L),("places",.ref pl),("falls",.ref F)]
noncomputable def Sj0 (h:Int) (o rw L pl F en:S4):List (Str×V):=[("heft",.int h),("river",.ref o),("row",.ref rw),("listed",.ref L),("places",.ref pl),("falls",.ref F),("ends",.ref en)]
theorem qf2 (h:Int) (o:S4):Jn8 "river" (.ref o) (sF1 h)=sF2 h o:=Jmu (show (["heft"]:List Str).contains "river" =false by decide +kernel)
theorem qf3 (h:Int) (o rw:S4):Jn8 "row" (.ref rw) (sF2 h o)=sF3 h o rw:=Jmu (show (["heft","river"]:List Str).contains "row" =false by decide +kernel)
theorem qf4 (h:Int) (o rw L:S4):Jn8 "listed" (.ref L) (sF3 h o rw)=sF4 h o rw L:=Jmu (show (["heft","river","row"]:List Str).contains "listed" =false by decide +kernel)
theorem qf5 (h:Int) (o rw L pl:S4):Jn8 "places" (.ref pl) (sF4 h o rw L)=sF5 h o rw L pl:=Jmu (show (["heft","river","row","listed"]:List Str).contains "places" =false by decide +kernel)
theorem qf6 (h:Int) (o rw L pl F:S4):Jn8 "falls" (.ref F) (sF5 h o rw L pl)=sF6 h o rw L pl F:=Jmu (show (["heft","river","row","listed","places"]:List Str).contains "falls" =false by decide +kernel)
theorem qf7 (h:Int) (o rw L pl F en:S4):Jn8 "ends" (.ref en) (sF6 h o rw L pl F)=Sj0 h o rw L pl F en:=Jmu (show (["heft","river","row","listed","places","falls"]:List Str).contains "ends" =false by decide +kernel)
noncomputable abbrev StR:Hp->V->List Int×Int->Prop:=λH v p=>Sco H v p.1 p.2
inductive Sr7 (K:Sg) (a:Ad) (H:Hp) (s:S4) (S:Riv) (Gs:List Jmi) (sk:Option (List (Int×Int))):Prop where
 |mk (dx o rw L pl F en:S4) (rs us vs:List V) (_:H s=some (.ins a.Jlm dx (Sj0 (wgN S sk) o rw L pl F en))) (_:RvX K a H o S Gs) (_:H rw=some (.lst rs)) (_:Sag StR H rs (stL S)) (_:H L=some (.lst us)) (_:CcL H us (chL S sk)) (_:H F=some (.lst vs)) (_:Sag (FlV NoB) H vs (flL S))
structure Sgk (K:Sg) (a:Ad) (H:Hp) (o:S4) (S:Riv) (Gs:List Jmi) (x:V) (sk:Option (List (Int×Int))):Prop where
 rv:RvX K a H o S Gs
 sa:Sce H x sk
 so:Jpi S sk
 s4:Sm5 S
 wg:wgN S sk<=4000
 st:stN S<=2000
theorem Sgk.same {K:Sg} {a:Ad} {H H':Hp} {o:S4} {S:Riv} {Gs:List Jmi} {x:V} {sk:Option (List (Int×Int))} (m:Sl H H') (h:Sgk K a H o S Gs x sk):Sgk K a H' o S Gs x sk:=⟨h.rv.same m,h.sa.same m,h.so,h.s4,h.wg,h.st⟩
theorem Stk.same {K:Sg} {H H':Hp} {R:Riv} {x:V} {b:Bool} (m:Sl H H') (h:Stk K H R x b):Stk K H' R x b:=by
 rcases h with h|⟨t,h1,h2,h3⟩|⟨d,o,kvs,bs,h1,h2,h3,h4,h5,h6⟩
 ·exact .inl h
 ·exact .inr (.inl ⟨t,TyX.same (λb o _ e=>m b o e) (λb fs e=>m b _ e) h1,h2,h3⟩)
 ·exact .inr (.inr ⟨d,o,kvs,bs,h1,FzD.same m h2,h3,h4,λi p c e1 e2=>⟨(h5 i p c e1 e2).1.same m,(h5 i p c e1 e2).2.1.same m,(h5 i p c e1 e2).2.2⟩,h6⟩)
inductive Rfd (K:Sg) (a:Ad) (H0:Hp) (o:S4) (x:V) (E:XK):Prop
 |stuck (S:Riv) (_:Sah K a H0 o S) (_:Stk K H0 S x false) (_:∀cl eo H',RfC a.Jlj H0 H' x cl eo->E cl eo H')
 |many (S:Riv) (sk:Option (List (Int×Int))) (_:Sah K a H0 o S) (_:Sce H0 x sk) (_:Jpi S sk) (_:Y0 S) (_:4000 < wgN S sk) (_:∀cl eo H',RfN a.Jlh H0 H' (.int (wgN S sk)) cl eo->E cl eo H')
inductive Soc (K:Sg) (a:Ad) (vs:List V) (H:Hp) (Q:VK) (E:XK):Prop where
 |mk (p dx o:S4) (H0:Hp) (x:V) (_:vs= [.ref p,.ref o,x]) (_:H0 p=none) (_:Sl H0 H) (_:H p=some (.ins a.Jlm dx [])) (_:((∃(S:Riv) (Gs:List Jmi) (sk:Option (List (Int×Int))),Sgk K a H0 o S Gs x sk/\∀H',Sl H0 H'->Sr7 K a H' p S Gs sk->Q .non H')\/Rfd K a H0 o x E))
theorem Jxx {α β:Type} {f:α->β} (inj:∀x y,f x=f y->x=y) {l:List α} (h:l.Nodup):(l.map f).Nodup:=List.pairwise_map.mpr (h.imp λhne e=>hne (inj _ _ e))
theorem Sn1 {rs:List (List Int)} {ns:List Int} (h1:rs.Nodup) (h2:ns.Nodup):(lgR rs ns).Nodup:=by
 unfold lgR
 induction rs with
 |nil=>exact ycb
 |cons r rs ih=>
  rw [ybi] at h1;rw [ycu,List.nodup_append];refine ⟨?_,ih h1.2,?_⟩
  ·exact Jxx (λx y e=>by simpa using e) h2
  ·intro x hx y hy e;obtain ⟨n,_,rfl⟩:=yo.mp hx;obtain ⟨r',hr',hy⟩:=ycv.mp hy;obtain ⟨n',_,rfl⟩:=yo.mp hy;have:r=r':=by simpa using (List.append_inj' e rfl).1
   exact h1.1 (this▸hr')
theorem Ye5 (n:Nat):(rgI n).Nodup:=Jxx (λx y e=>Int.ofNat.inj e) List.nodup_range
theorem Yfn (R:Riv) (sk:Option (List (Int×Int))):∀r∈Jnv R sk,r.Nodup:=by
 have go:∀(l:List (Int×Int)) (rs:List (List Int)),(∀r∈rs,r.Nodup)->∀r∈l.foldl (λrs p=>rs.set p.1.toNat [p.2]) rs,r.Nodup:=by
  intro l
  induction l with
  |nil=>exact λrs h=>h
  |cons p l ih=>
   refine λrs h=>ih _ λr hr=>?_;rcases ycy hr with q|rfl
   ·exact h r q
   ·simp
 refine go _ _ λr hr=>?_;obtain ⟨B,_,rfl⟩:=yo.mp hr;exact Ye5 _
theorem Snl (R:Riv) (sk:Option (List (Int×Int))):∀i,i<=R.Bs.length->(rwN R sk i).Nodup:=by
 intro i
 induction i with
 |zero=>exact λ_=>by simp [rwN]
 |succ i ih=>
  intro h;have ll:=Jt4 R sk;have er:(Jnv R sk)[i]?=some ((Jnv R sk)[i]'(by omega)):=yh _;rw [Jsk er];exact Sn1 (ih (by omega)) (Yfn R sk _ (ybb _))
theorem Smg (R:Riv) (sk:Option (List (Int×Int))):(chL R sk).Nodup:=by
 have h:=Snl R sk R.Bs.length (yg _);have ht:(twL R).Nodup:=by
  unfold twL;rw [ybi];refine ⟨λz=>?_,Jxx (λx y e=>by simpa using e) (Ye5 _)⟩;obtain ⟨n,_,e⟩:=yo.mp z;cases e
 unfold chL;generalize rwN R sk R.Bs.length=rs at h
 induction rs with
 |nil=>exact ycb
 |cons r rs ih=>
  rw [ybi] at h;rw [ycu,List.nodup_append];refine ⟨Jxx (λx y e=>by simpa using e) ht,ih h.2,?_⟩;intro x hx y hy e;obtain ⟨n,_,rfl⟩:=yo.mp hx;obtain ⟨r',hr',hy⟩:=ycv.mp hy;obtain ⟨n',_,rfl⟩:=yo.mp hy;have:r=r':=congrArg (·.1) e;exact h.1 (this▸hr')
theorem Jq8:Jm6 ["self","river","stuck"] ["self","river","stuck"] (Jm5 (Jmc (top 49) 0)):=%[|0]
theorem Jpb (T:Tx K mg a):Sv P w K mg base (CXX P w) 10 a.Jim a.Jin ["self","river","stuck"] (Soc K a):=by
 have Sfv:=%[Jzm|1];have Sen:=%[Ju6|1];have Sbm:=%[Jpd|1];have Sf3:=%[Jvh|1];have Sf0:=%[Jvb|1];have Sh3:=%[Jzl|1];have Sc9:=%[Jp4|1];refine %[T.Jcw.fn.okX,Jq8|2]
 ·obtain ⟨p,dx,o,H0,x,rfl,_⟩:=h;rfl
 ·obtain ⟨p,dx,o,H0,x,rfl,np,s0,hp,k⟩:=h;have hu64:=Jqy hr;refine ⟨?t,?B,?C⟩
  case B=>
   refine' Jlz ?O0 ?O1
   case O0=>exact (Jmw (pv 0) (Jo7 T.Ji Sfv Jn6 hr (by decide) (Sm (pv 1) (Sm (pv 2) So))) rfl)
   case O1=>
   refine' Jlz ?O2 ?O3
   case O2=>exact (Jnp (Jo7 T.Jj Sen Jn6 hr (by decide) (Sm (Jmd (pv 0) (by rfl)) So)))
   case O3=>
   refine' Jlz ?O4 ?O5
   case O4=>exact (Jmw (pv 0) (pv 1) rfl)
   case O5=>
   refine' Jlz ?O6 ?O7
   case O6=>exact (Jmw (pv 0) (Jmt (N:=(["number","river"]:List Str)) (ini:=[none,some 1]) rfl (Jns (by rfl) T.Jay (Sm (Jm4 T.Jf Sbm hr (by decide) (Sm (pv 1) So)) So)) (λ_ _ _ _ _=>(Jm7 (i:=0) (by decide +kernel:(["number","river"]:List Str).Nodup) rfl (yf rfl))) (λ_ _ _ _ _=>Jmq) (λ_ _ _ _ _=>(Jm4 T.Jo Sf3 hr (by decide) (Sm (pv 1) (Sm (pv 0) So))))) rfl)
   case O7=>
   refine' Jlz ?O8 ?O9
   case O8=>exact (Jmw (pv 0) (Jm4 T.Jl Sf0 hr (by decide) (Sm (pv 1) (Sm (pv 2) So))) rfl)
   case O9=>
   refine' Jlz ?Oa ?Ob
   case Oa=>exact (Jmw (pv 0) (Jms (Y6 rfl hu64) (by rfl) T.Jaq Jxn (Sm (Jmt (N:=(["place","choice"]:List Str)) (ini:=[none,none]) rfl (Jyb (by rfl) T.Jar (Sm (Jmd (pv 0) (by rfl)) So)) (λ_ _ _ _ _=>(Jr3 (K:=K) (n:=2) rfl rfl (Jmh (Jm7 (i:=0) (by decide +kernel:(["place","choice"]:List Str).Nodup) rfl (yf rfl)) (Jmh (Jm7 (i:=1) (by decide +kernel:(["place","choice"]:List Str).Nodup) rfl (yf rfl)) Job)))) (λ_ _ _ _ _=>Jmq) (λ_ _ _ _ _=>(Jmz (Sm (pv 1) (Sm (pv 0) So))))) So)) rfl)
   case Ob=>
   refine' Jlz ?Oc ?Od
   case Oc=>exact (Jmw (pv 0) (Jmt (N:=(["wet","river"]:List Str)) (ini:=[none,some 1]) rfl (Jns (by rfl) T.Jay (Sm (Jm9 Jml (Jmd (pv 1) (by rfl)) Su) So)) (λ_ _ _ _ _=>(Jm7 (i:=0) (by decide +kernel:(["wet","river"]:List Str).Nodup) rfl (yf rfl))) (λ_ _ _ _ _=>Jmq) (λ_ _ _ _ _=>(Jm4 T.Jm Sh3 hr (by decide) (Sm (pv 1) (Sm (pv 0) So))))) rfl)
   case Od=>
   refine' Jm1 ?Oe
   case Oe=>exact (Jmw (pv 0) (Jmt (N:=(["standing","self"]:List Str)) (ini:=[none,some 0]) rfl (Jn0 (Jmd (pv 0) (by rfl))) (λ_ _ _ _ _=>(Jm7 (i:=0) (by decide +kernel:(["standing","self"]:List Str).Nodup) rfl (yf rfl))) (λ_ _ _ _ _=>Jmq) (λ_ _ _ _ _=>(Yb1 (pv 1) T.Jdv T.Jdx Sc9 (hr.mono (by decide)) T.Jcx.bd .nil Jpf (Sm (pv 0) So)))) rfl)
  rcases k with ⟨S,Gs,sk,si,k⟩|rf
  case inr=>
   cases rf with
   |stuck S ro no k=>exact ⟨_,rfl,_,rfl,o,S,x,rfl,ro.same s0,.inr ⟨no.same s0,λcl eo H' rf=>k _ _ _ (rf.of s0)⟩⟩
   |many S sk ro sa so wo hv k=>
    refine ⟨_,rfl,_,rfl,o,S,x,rfl,ro.same s0,.inl ⟨sk,sa.same s0,so,wo,λH1 s1=>?_⟩⟩;have h1:=s0.trans s1;refine ⟨_,rfl,p,_,dx,_,rfl,s1 _ _ hp,T.Jdv,T.Jfb,by simp,?_⟩;refine ⟨_,rfl,p,_,dx,_,_,rfl,Sr,T.Jdv,T.Jfb,rfl,_,rfl,.inr ⟨hv,λcl eo H' rf=>k _ _ _ (rf.of λb oo e=>?_)⟩⟩;rw [Sx (Jm2 e np)];exact h1 _ _ e
  have new:∀{Ha:Hp} {ob:HO},Sl H0 Ha->Sl H0 (upd Ha p ob):=λs b oo e=>by rw [Sx (Jm2 e np)];exact s _ _ e
  have d2:∀{Ha:Hp} {C d:S4} {f:List (Str×V)} {ob:HO},Ha p=some (.ins C d f)->Scs Ha (upd Ha p ob):=λ{Ha C d f ob} g q oo n e=>by
   rw [Sx (λz=>by rw [z,g] at e;exact n _ _ _ (yac.inj e).symm)];exact e
  have s4:=si.s4;have hc:=s4.c;have lv1:∀B∈S.Bs,1<=lvN B:=λB hB=>(s4.lv B hB).1.1;have st0:=Ygy S lv1 hc.1;have stb:=si.st;have i0:=si.same s0;refine ⟨_,rfl,_,rfl,o,S,x,rfl,i0.rv.ro,.inl ⟨sk,i0.sa,si.so,⟨by have:=s4.n4;omega,λB hB=>⟨by have:=lv1 B hB;omega,(s4.lv B hB).1.2⟩,hc⟩,λH1 s1=>?_⟩⟩;have p1:=s1 _ _ hp;have h1:=s0.trans s1;refine ⟨_,rfl,p,_,dx,_,rfl,p1,T.Jdv,T.Jfb,by simp,?_⟩;refine ⟨_,rfl,p,_,dx,_,_,rfl,Sr,T.Jdv,T.Jfb,rfl,_,rfl,.inl ⟨si.wg,?_⟩⟩;refine ⟨_,rfl,_,rfl,p,_,dx,_,rfl,Sr,T.Jdv,T.Jfc,by simp [Jn8],?_⟩;rw [Jnr];rw [show Jn8 "river" (V.ref o) (Jn8 "heft" (V.int (wgN S sk)) [])=sF2 (wgN S sk) o from qf2 _ _];have h2:Sl H0 (upd H1 p (.ins a.Jlm dx (sF2 (wgN S sk) o))):=new h1;have g2:=Sr (H:=H1) (a:=p) (o:=.ins a.Jlm dx (sF2 (wgN S sk) o));generalize upd H1 p (.ins a.Jlm dx (sF2 (wgN S sk) o))=H2 at*;have i2:=si.same h2;refine ⟨_,rfl,o,S,rfl,i2.rv.ro,λB hB=>⟨by have:=lv1 B hB;omega,ybh (s4.lv B hB).1.2 (by decide)⟩,hc,λH3 s3=>?_⟩;have g3:=s3 _ _ g2;have h3:=h2.trans s3;refine ⟨_,rfl,by omega,by omega,λD hD=>?_⟩;refine Jqx StR (stL S) (λH H' v q f h=>?_) hD (by omega) (by omega) ?_ ?_
  ·obtain ⟨t,r,e,h1,h2⟩:=h;exact ⟨t,r,e,f _ _ (.inr λ_ z=>by cases z) h1,f _ _ (.inr λ_ z=>by cases z) h2⟩
  ·intro i y H' Q' hy sm _ k';have hi:i < (stL S).length:=(yi.mp hy).1;rw [(Yb7 lv1 hc.1 hi).1] at hy;cases hy;rw [Int.zero_add];exact ⟨_,rfl,_,rfl,o,S,(i:Int),rfl,(si.same (h3.trans sm)).rv.ro,λB hB=>(s4.lv B hB).1,hc,λy H5 s5 h5=>k' y H5 s5 h5⟩
  intro rs H4 s34 hD4 rg;have g4:=s34 _ _ g3;have h4:=h3.trans s34;refine ⟨_,rfl,p,_,dx,_,rfl,g4,T.Jdv,T.Jfd,by simp [sF2],?_⟩;rw [qf3];have h5:Sl H0 (upd H4 p (.ins a.Jlm dx (sF3 (wgN S sk) o D))):=new h4;have f5:Scs H4 (upd H4 p (.ins a.Jlm dx (sF3 (wgN S sk) o D))):=d2 g4;have g5:=Sr (H:=H4) (a:=p) (o:=.ins a.Jlm dx (sF3 (wgN S sk) o D));generalize upd H4 p (.ins a.Jlm dx (sF3 (wgN S sk) o D))=H5 at*;have i5:=si.same h5;refine ⟨_,rfl,_,rfl,o,S,x,sk,rfl,i5.rv.ro,i5.sa,si.so,s4.n4,λL us H6 hL s6 hL6 cc=>?_⟩;have g6:=s6 _ _ g5;have h6:=h5.trans s6;refine ⟨_,rfl,p,_,dx,_,rfl,g6,T.Jdv,T.Jfe,by simp [sF3],?_⟩;rw [qf4];have h7:Sl H0 (upd H6 p (.ins a.Jlm dx (sF4 (wgN S sk) o D L))):=new h6;have f7:Scs H6 (upd H6 p (.ins a.Jlm dx (sF4 (wgN S sk) o D L))):=d2 g6;have g7:=Sr (H:=H6) (a:=p) (o:=.ins a.Jlm dx (sF4 (wgN S sk) o D L));generalize upd H6 p (.ins a.Jlm dx (sF4 (wgN S sk) o D L))=H7 at*;have f57:Scs H4 H7:=λq ob n e=>f7 q ob n (s6 _ _ (f5 q ob n e));have hL7:=f7.lst hL6;have cc7:=CcL.on f7.tup cc;have ul:=cc7.1;obtain ⟨_,_,_,_,_,_,_,bl,_,tl,_,t3,_⟩:=id si.rv.ro;have cl:=Yag (sk:=sk) s4.n4 bl.n4 t3;refine ⟨_,rfl,p,_,dx,_,_,rfl,g7,T.Jdv,T.Jfe,rfl,L,rfl,⟨_,Sz.of hL7⟩,λD2 hD2=>?_⟩;refine Ycu (K:=K) (a:=L) (xs:=us) (D:=D2) (λi σ H'=>(∃o1 o2,σ= [o1,o2])/\∃(ts:List V) (kvs:List (Jod×S4×Int)),H' D2=some (.lst ts)/\ts.length=i/\kvs.map (·.1)=(chL S sk).take i/\Yco H' ts kvs/\Sl H7 H') ⟨⟨_,_,rfl⟩,[],[],Sr,rfl,rfl,.nil,Sl.upd hD2⟩ (λi σ H' _ ⟨_,_,_,_,_,_,_,sm⟩=>Sz.of (sm _ _ hL7)) ?_ ?_
  ·rintro i x' σ H' Ta hx ⟨⟨o1,o2,rfl⟩,ts,kvs,hDs,tl,ek,pc,sm⟩ hT;have hi:i < us.length:=(yi.mp hx).1;have ec:(chL S sk)[i]?=some ((chL S sk)[i]'(by omega)):=yh _;generalize (chL S sk)[i]'(by omega)=c at ec;obtain ⟨t,q,rfl,e1,e2⟩:=cc7.2 i x' c hx ec;have sT:=Sl.upd (o:=.tup [.int i,.ref t]) hT;refine ⟨Ta,_,rfl,SqT.of Sr,rfl,_,_,rfl,_,_,rfl,rfl,?_⟩;refine ⟨_,rfl,_,rfl,(show 2<=S9 by decide),λT2 hT2=>?_⟩;have sT2:=sT.trans (Sl.upd (o:=.tup [.ref t,.int i]) hT2);have f8:=OnD.grow (zs:=ts++ [.ref T2]) (sT2 _ _ hDs);refine ⟨ts,sT2 _ _ hDs,Jmo (by omega),⟨_,_,rfl⟩,ts++ [.ref T2],kvs++ [(c,t,(i:Int))],Sr,by rw [yad,tl];rfl,by rw [yaj,ek,yaa,ec];rfl,?_,λb u e=>?_⟩
   ·have tk:∀b xs,H' b=some (.tup xs)->upd (upd (upd H' Ta (.tup [.int i,.ref t])) T2 (.tup [.ref t,.int i])) D2 (.lst (ts++ [.ref T2])) b=some (.tup xs):=λb xs e=>f8 b _ (.inr λ_ z=>by cases z) (sT2 _ _ e);refine Paired.snoc (Paired.imp' (λv e h=>?_) pc) ⟨T2,rfl,f8 _ _ (.inr λ_ z=>by cases z) Sr,q,?_,tk _ _ (sm _ _ e2)⟩
    ·obtain ⟨T3,rfl,h1,b,h2,h3⟩:=h;exact ⟨T3,rfl,tk _ _ h1,b,tk _ _ h2,tk _ _ h3⟩
    ·have e:tnV c.2=twV c.2:=by cases c.2 <;> rfl
     show _=some (HO.tup [.ref q,tnV c.2]);rw [e];exact tk _ _ (sm _ _ e1)
   ·rw [Sx (Jm2 e hD2)];exact sT2 _ _ (sm _ _ e)
  rintro σ H8 ⟨_,ts,kvs,hDs,tl,ek,pc,s78⟩;rw [yah (by omega)] at ek;have kl:kvs.length=(chL S sk).length:=by rw [<-ek,ye]
  refine ⟨D2,ts,kvs,rfl,hDs,pc,by omega,by rw [ek];exact Smg S sk,λpl hpl=>?_⟩;generalize DC _ _ pl kvs=dc;have s89:=Sl.upd (o:=dc) hpl;have s79:=s78.trans s89;have g9:=s79 _ _ g7;have h9:=h7.trans s79;refine ⟨_,rfl,p,_,dx,_,rfl,g9,T.Jdv,T.Jff,by simp [sF4],?_⟩;rw [qf5];have h10:Sl H0 (upd (upd H8 pl dc) p (.ins a.Jlm dx (sF5 (wgN S sk) o D L pl))):=new h9;have f9:Scs (upd H8 pl dc) (upd (upd H8 pl dc) p (.ins a.Jlm dx (sF5 (wgN S sk) o D L pl))):=d2 g9;have f10:Scs H7 (upd (upd H8 pl dc) p (.ins a.Jlm dx (sF5 (wgN S sk) o D L pl))):=λq ob n e=>f9 q ob n (s79 _ _ e);have g10:=Sr (H:=upd H8 pl dc) (a:=p) (o:=.ins a.Jlm dx (sF5 (wgN S sk) o D L pl));clear f9 g9 h9 s79 s89 hpl;generalize upd (upd H8 pl dc) p (.ins a.Jlm dx (sF5 (wgN S sk) o D L pl))=H10 at*;obtain ⟨dxr,b,t,os,ts',ho,hb,bl10,ht,tl10,_,_,_⟩:=id (si.same h10).rv.ro;refine ⟨_,rfl,o,_,dxr,_,_,rfl,ho,T.Jet,T.Jfw,rfl,_,_,rfl,rfl,_,rfl,by omega,by omega,λD3 hD3=>?_⟩;refine Jqx (FlV λq=>q=D3) (flL S) (FlV.mn rfl) hD3 (by unfold flL;rw [ye,ybm]) (by omega) ?_ ?_
  ·rintro i y H' Q' hy sm ⟨ds,hDs'⟩ k';have hi:i < (S.c+1).toNat:=by
    have:=(yi.mp hy).1;unfold flL at this;rw [ye,ybm] at this;exact this
   unfold flL at hy;rw [ym,ycj hi] at hy;cases hy;rw [Int.zero_add];refine ⟨_,rfl,_,rfl,o,S,(i:Int),rfl,(si.same (h10.trans sm)).rv.ro,s4.rb,λL' us' H5 hL' s5 g5 tp=>k' _ _ s5 ⟨L',us',rfl,λz=>?_,g5,tp⟩⟩;rw [z,hDs'] at hL';cases hL'
  intro vs H11 s1011 hD11 fl;have g11:=s1011 _ _ g10;have h11:=h10.trans s1011;refine ⟨_,rfl,p,_,dx,_,rfl,g11,T.Jdv,T.Jfg,by simp [sF5],?_⟩;rw [qf6];have h12:Sl H0 (upd H11 p (.ins a.Jlm dx (sF6 (wgN S sk) o D L pl D3))):=new h11;have f12:Scs H11 (upd H11 p (.ins a.Jlm dx (sF6 (wgN S sk) o D L pl D3))):=d2 g11;have g12:=Sr (H:=H11) (a:=p) (o:=.ins a.Jlm dx (sF6 (wgN S sk) o D L pl D3));generalize upd H11 p (.ins a.Jlm dx (sF6 (wgN S sk) o D L pl D3))=H12 at*;have f712:Scs H7 H12:=λq ob n e=>f12 q ob n (s1011 _ _ (f10 q ob n e));have f412:Scs H4 H12:=λq ob n e=>f712 q ob n (f57 q ob n e);have hD12:=f412.lst hD4;have rg12:Sag StR H12 rs (stL S):=rg.imp λv q h=>Sco.to f412 h;have hL12:=f712.lst hL7;have cc12:=CcL.on f712.tup cc7;have hF12:=f12.lst hD11;have fl12:Sag (FlV NoB) H12 vs (flL S):=fl.imp λv q h=>FlV.to (bad':=NoB) f12 (λ_ z=>z.elim) h;have sp12:Shz K a H12 p S Gs sk:=⟨⟨dx,o,L,D3,_,us,vs,g12,rfl,rfl,rfl,rfl,rfl,(si.same h12).rv,hL12,cc12,hF12,fl12⟩,si.so,s4⟩;have rl:=rg12.1;refine ⟨_,rfl,p,_,dx,_,_,rfl,g12,T.Jdv,T.Jfd,rfl,D,rfl,⟨_,Sz.of hD12⟩,λD4 hD4'=>?_⟩;refine Jop (K:=K) (xs:=rs) (λ_ _ (_:V)=>True) rs (λ_ _ _ _ _ h=>h) hD4' rfl (by omega) hD12 ?_ ?_
  ·intro i x' _ H' Q' hx _ sm _ k';have hi:i < (stL S).length:=by rw [<-rl];exact (yi.mp hx).1
   have es:=(Yb7 lv1 hc.1 hi).1;have sd:=rg12.2 i x' _ hx es;obtain ⟨t1,r1,rfl,e1,e2⟩:=id sd;have m1:=ycd (i:Int) (show S.c+1≠0 by omega);have m2:=yce (i:Int) (show 0 < S.c+1 by omega);exact ⟨_,rfl,p,dx,_,rfl,sm _ _ g12,rfl,_,rfl,p,S,Gs,sk,_,_,_,rfl,sp12.same sm,⟨t1,r1,rfl,sm _ _ e1,sm _ _ e2,Jum S i _ (yg _)⟩,λj n B q1 q2=>Soh lv1 S.Bs.length (yg _) j n B q1 q2,⟨m1,by omega⟩,λv H5 s5=>k' v H5 s5 True.intro⟩
  intro es H13 s13 hD13 _;have g13:=s13 _ _ g12;refine ⟨_,rfl,p,_,dx,_,rfl,g13,T.Jdv,T.Jfh,by simp [sF6],?_⟩;rw [qf7];have f14:Scs H13 (upd H13 p (.ins a.Jlm dx (Sj0 (wgN S sk) o D L pl D3 D4))):=d2 g13;have f1214:Scs H12 (upd H13 p (.ins a.Jlm dx (Sj0 (wgN S sk) o D L pl D3 D4))):=λq ob n e=>f14 q ob n (s13 _ _ e);have h14:Sl H0 (upd H13 p (.ins a.Jlm dx (Sj0 (wgN S sk) o D L pl D3 D4))):=new (h12.trans s13);exact k _ h14 ⟨dx,o,D,L,pl,D3,D4,rs,us,vs,Sr,(si.same h14).rv,f1214.lst hD12,rg12.imp λv q h=>Sco.to f1214 h,f1214.lst hL12,CcL.on f1214.tup cc12,f1214.lst hF12,fl12.imp λv q h=>FlV.to f1214 (λ_ z=>z) h⟩
theorem Jqf {R:Jo4} {S:Riv} (h:Jr5 R S):S.Bs.length=R.Bs.length:=by
 have:=congrArg List.length h.Bs;simpa using this
theorem Juf {R:Jo4} {S:Riv} (h:Jr5 R S) {i:Nat} {C:Jo1} (e:R.Bs[i]?=some C):∃B,S.Bs[i]?=some B/\Js2 B=Jps C:=by
 have q:(S.Bs.map Js2)[i]?=some (Jps C):=by rw [h.Bs,ym,e];rfl
 rw [ym] at q;exact ybc.mp q
theorem Js9 {α:Type} {R:Jo4} {S:Riv} (h:Jr5 R S) (f:Str×Int×Int×Int×Int×Nat->α):S.Bs.map (λB=>f (Js2 B))=R.Bs.map (λB=>f (Jps B)):=by
 have e1:S.Bs.map (λB=>f (Js2 B))=(S.Bs.map Js2).map f:=by rw [yas];rfl
 have e2:R.Bs.map (λB=>f (Jps B))=(R.Bs.map Jps).map f:=by rw [yas];rfl
 rw [e1,e2,h.Bs]
noncomputable def kvI (l:List (Int×Int)):List (Key×V):=l.map λp=>(yp p.1,V.int p.2)
inductive Sig (H:Hp) (x:V) (l:List (Int×Int)):Prop where
 |mk (d:_) (_:x= .ref d) (_:Rd H d (.dK (kvI l)))
theorem Sig.same {H H':Hp} {x:V} {l:List (Int×Int)} (s:Sl H H') (h:Sig H x l):Sig H' x l:=by
 obtain ⟨d,e,h|⟨o,h⟩⟩:=h
 ·exact ⟨d,e,.inl (s _ _ h)⟩
 ·exact ⟨d,e,.inr ⟨o,s _ _ h⟩⟩
theorem Yba (i:Int):∀l:List (Int×Int),(Jqv (kvI l) (yp i)).isSome=decide (i∈l.map (·.1)):=by
 intro l;unfold Jqv kvI
 induction l with
 |nil=>rfl
 |cons p l ih=>
  rw [yap,List.find?_cons];by_cases c:p.1=i
  ·subst c;simp
  ·have e:decide ((yp p.1:Key)=yp i)=false:=decide_eq_false λz=>c (yp.inj z);rw [e];refine Eq.trans ih ?_;have:¬i=p.1:=λz=>c z.symm;simp [this]
theorem Jxl (G:Jmi):(G1 G).length=nOf G:=by
 unfold G1 nOf;cases G.sv <;> rfl
noncomputable def SkT (R:Jo4) (l:List (Int×Int)):Prop:=(l.map (·.1)).Nodup/\∀q∈l,0<=q.1/\∃C:Jo1,R.Bs[q.1.toNat]?=some C/\0<=q.2/\q.2 < nOf C.G
inductive So1 (vs:List V) (H:Hp) (Q:VK) (z3:XK):Prop where
 |mk (c:Int) (p:S4) (x:V) (R:Jo4) (_:vs= [.int c,x]) (_:Sfb p H x R) (_:Jqb R) (_:∀(x':V) (l:List (Int×Int)) (H':Hp),Sl H H'->Sce H' x' (some l)->SkT R l->l.length<=R.Bs.length->(∃d,x'= .ref d/\H d=none)->Q x' H')
theorem Sbj:Jm6 ["_law_cell_here","_law_told","_law_stream_here","_law_stuck_here","_law_place","_law_one"] ["_law_cell_here","_law_told"] (Jm5 (top 93)):=%[|0]
theorem Jy6 (T:Tx K mg a):Sv P w K mg base CX0 2 a.Jks a.Jkt ["_law_cell_here","_law_told"] So1:=by
 have Sci:=%[Jrh|1];have Sn:=%[Jog|1];refine %[T.Ja8.fn.ok,Sbj|2]
 ·obtain ⟨c,p,x,R,rfl,_⟩:=h;rfl
 ·obtain ⟨c,p,x,R,rfl,⟨t,lb,lt,bs,ts,rfl,ht,hb,btl,htt,ttl,nb,nt⟩,rg,k⟩:=h;have hu64:=Jqy hr;refine ⟨?t,?B,?C⟩
  case B=>
   refine' Jlz ?O0 ?O1
   case O0=>exact (Jmb (i:=2) Sbj.nd rfl (yf rfl) (Jm4 T.Jy Sci hr (by decide) (Sm (pv 0) So)))
   case O1=>
   refine' Jlz ?O2 ?O3
   case O2=>exact (Jmb (i:=3) Sbj.nd rfl (yf rfl) Jvn)
   case O3=>
   refine' Jlz ?O4 ?O5
   case O4=>
    refine' Jnq ?O6 ?O7 ?O8 ?O9 ?Oa
    case O6=>exact PassesOwn.never
    case O7=>exact rfl
    case O8=>exact (Jyb (by rfl) T.Jar (Sm (Jmf Jmk (pv 1) Su (λ_ _=>rfl)) So))
    case O9=>exact (Jrr rfl (Jmh (Jm7 (i:=4) Sbj.nd rfl (yf rfl)) (Jmh (Jm7 (i:=5) Sbj.nd rfl (yf rfl)) Job)))
    case Oa=>
    refine' Jm1 ?Ob
    case Ob=>
    refine' Jmr ?Oc ?Od ?Oe
    case Oc=>exact (Jmm Jpe (Jm4 T.Jz Sn hr (by decide) (Sm (pv 2) (Sm Su So))) Su (Jmp _))
    case Od=>
     refine' Jm1 ?Of
     case Of=>exact (Yc5 hu64 (pv 3) (pv 4) (Jm4 T.Jz Sn hr (by decide) (Sm (pv 2) (Sm (Jm8 Jmg (by rfl) T.Jau Jnc (Sm (Jmf Jmk (Jmf Jmk (pv 5) Su (λ_ _=>rfl)) Su (λ_ _=>rfl)) So)) So))) rfl)
    case Oe=>exact Jme
   case O5=>
   refine' Jm1 ?Og
   case Og=>exact (Jma (Jvo (pv 3)))
  have bll:=btl.len;have n16:=rg.n.2;refine ⟨_,rfl,c,rfl,λp2 H1 hp2 s1 st1=>λd hd=>?_⟩;have s2:=Sl.upd (o:=.dK []) hd;have s12:=s1.trans s2;have hd0:H d=none:=by
   cases e:H d with
   |none=>rfl
   |some u=>rw [s1 _ _ e] at hd;cases hd
  refine ⟨_,rfl,t,_,2,_,rfl,rfl,SqT.of (s12 _ _ ht),rfl,lb,rfl,⟨_,Sz.of (s12 _ _ hb)⟩,?_⟩;refine Yam (xs:=bs) (λi σ H'=>∃(o4 o5:Option V) (l:List (Int×Int)),σ= [some (.int c),some (.ref t),some (.ref p2),some (.ref d),o4,o5]/\H' d=some (.dK (kvI l))/\(∀q∈l,q.1 < i)/\SkT R l/\l.length<=i/\Sc4 H' p2/\Sl H H') ?_ ?_ ?_ ?_
  ·exact ⟨_,_,[],rfl,Sr,(λq hq=>nomatch hq),⟨ycb,(λq hq=>nomatch hq)⟩,yg 0,st1.same s2,s12⟩
  ·rintro i σ H' _ ⟨_,_,_,_,_,_,_,_,_,sm⟩;exact Sz.of (sm _ _ hb)
  ·rintro i x σ H' Ta hx ⟨o4,o5,l,rfl,hds,lt',sk,ll,st,sm⟩ hT;obtain ⟨C,hC,t5,gv,rfl,ht5,gt⟩:=btl.get hx;have sT:=Sl.upd (o:=.tup [V.int i,.ref t5]) hT;have smT:=sm.trans sT;have stT:=st.same sT;have hdT:=sT _ _ hds;have hi:i < bs.length:=(yi.mp hx).1;refine ⟨Ta,_,rfl,SqT.of Sr,rfl,_,_,rfl,_,_,rfl,rfl,?_⟩;refine ⟨_,rfl,p2,3,rfl,stT,by decide,Jo6 (by decide),λr H3 r0 r1 b3=>⟨rfl,_,rfl,?_⟩⟩;have ndp:d≠p2:=Juh stT hdT (λ_ _ _ z=>by cases z);have hd3:=b3.1 _ _ ndp hdT;have keep:∀{Ha Hb:Hp},Sl H Ha->But p2 Ha Hb->Sl H Hb:=λs b c o e=>b.1 c o (Jm2 e hp2) (s _ _ e);have sm3:=keep smT b3;by_cases c0:r=0
   ·subst c0;obtain ⟨tg,m,eg,hm,nm,hg⟩:=gt;subst eg;have htg:∃g2,H tg=some (.tup ([.str C.G.kd,.ref m]++g2)):=by
     rcases hg with ⟨_,q⟩|⟨j,m2,_,q,_⟩
     ·exact ⟨[],q⟩
     ·exact ⟨[.ref m2,.int j],q⟩
    obtain ⟨g2,htg⟩:=htg;have gl:=(rg.Bs C (yr hC)).1.G.len;have n4:1<=nOf C.G/\nOf C.G<=4:=by unfold nOf;split <;> omega
    have gn:=Jxl C.G;refine Jr6 rfl ⟨_,rfl,_,rfl,t5,_,5,_,rfl,rfl,SqT.of (sm3 _ _ ht5),rfl,tg,_,1,_,rfl,rfl,SqT.of (sm3 _ _ htg),Jrj (j:=1) rfl rfl,m,_,rfl,.inl (Sz.of (sm3 _ _ hm)),p2,_,rfl,b3.2,by rw [ye];omega,Jo6 (by rw [ye];omega),λr2 H4 q0 q1 b4=>?_⟩;have hd4:=b4.1 _ _ ndp hd3;rw [ye,gn] at q1;refine ⟨_,rfl,_,rfl,d,_,rfl,Sfo.k (k:=yp (i:Int)) hd4 (by unfold kvI;rw [ye];exact Jmo (by omega)),_,_,l++ [((i:Int),r2)],rfl,?_,?_,⟨?_,?_⟩,by rw [yad];exact Nat.succ_le_succ ll,?_,?_⟩
    ·have nv:Jqv (kvI l) (yp (i:Int))=none:=by
      have e:=Yba (i:Int) l;rw [decide_eq_false (λz=>by
       obtain ⟨q,hq,e⟩:=yo.mp z;have:=lt' q hq;omega)] at e
      cases ev:Jqv (kvI l) (yp (i:Int)) with
      |none=>rfl
      |some v=>rw [ev] at e;cases e
     rw [Sr,Ydx _ nv];unfold kvI;rw [yaj];rfl
    ·intro q hq;rcases yax.mp hq with hq|hq
     ·have:=lt' q hq;omega
     ·rw [yam.mp hq];show (i:Int) < ((i+1:Nat):Int);omega
    ·rw [yaj,List.nodup_append];refine ⟨sk.1,by simp,λx hx y hy e=>?_⟩;obtain ⟨q,hq,rfl⟩:=yo.mp hx;have:=lt' q hq;have hy':y=(i:Int):=by simpa using hy
     omega
    ·intro q hq;rcases yax.mp hq with hq|hq
     ·exact sk.2 q hq
     ·rw [yam.mp hq];exact ⟨by show (0:Int)<=(i:Int);omega,C,hC,q0,q1⟩
    ·obtain ⟨x1,x2,x3,e⟩:=b4.2;exact ⟨x1,x2,x3,by rw [Sx (yx ndp)];exact e⟩
    ·intro b o e;rw [Sx (Jm2 e hd0)];exact keep sm3 b4 _ _ e
   ·exact Jq5 (λz=>c0 (V.int.inj z)) ⟨_,_,l,rfl,hd3,λq hq=>by have:=lt' q hq;omega,sk,by omega,b3.2,sm3⟩
  ·rintro σ H' ⟨o4,o5,l,rfl,hds,lt',sk,ll,st,sm⟩;rw [bll] at ll;refine ⟨_,rfl,d,_,rfl,hds,λo=>k _ l _ (λb u e=>?_) ⟨d,o,rfl,Sr⟩ sk ll ⟨d,rfl,hd0⟩⟩;rw [Sx (Jm2 e hd0)];exact sm _ _ e
theorem Snj {K:Sg} {a:Ad} {H:Hp} {o:S4} {S:Riv} {R:Jo4} (ro:Sah K a H o S) (lk:Jr5 R S) (rg:Jqb R) (gx:GXL a H (S.Bs.map (·.g)) (R.Bs.map (·.G))):RvX K a H o S (R.Bs.map (·.G)):=by
 have hl:=Jqf lk;have hz:S.Bs.map (·.z)=R.Bs.map (·.z):=Js9 lk (·.1);refine ⟨ro,gx,by rw [ye];exact hl,λT hT=>?_,by have:=rg.n;omega,λi B G hB hG=>?_⟩
 ·have:(T.z,T.b,T.wt)∈R.Ts.map (λB=>(B.z,B.b,B.wt)):=by rw [<-lk.Ts];exact ybg (f:=λB:Twn=>(B.z,B.b,B.wt)) hT
  obtain ⟨C,hC,e⟩:=yo.mp this;have q:=rg.Ts C hC;have e2:C.b=T.b:=congrArg (·.2.1) e;have e3:C.wt=T.wt:=congrArg (·.2.2) e;rw [hz,<-e2,<-e3];exact ⟨q.2.2.1,q.2.2.2.1,q.2.2.2.2⟩
 ·rw [ym] at hG;obtain ⟨C,hC,rfl⟩:=ybc.mp hG;have k1:(S.Bs.map Js2)[i]?=some (Js2 B):=by rw [ym,hB];rfl
  rw [lk.Bs,ym,hC] at k1;have e:Jps C=Js2 B:=yac.inj k1;have bg:=(rg.Bs C (yr hC)).1;have e1:C.lo=B.lo:=congrArg (·.2.1) e;have e2:C.hi=B.hi:=congrArg (·.2.2.1) e;have e3:nOf C.G=B.n:=congrArg (·.2.2.2.2.2) e;exact ⟨bg.G,e3.symm,by rw [<-e1];exact bg.lo.1,by rw [<-e2];exact bg.hi.2⟩
theorem Sfb.same {p:S4} {H H':Hp} {x:V} {R:Jo4} (rg:Jqb R) (s:Sl H H') (h:Sfb p H x R):Sfb p H' x R:=by
 obtain ⟨t,lb,lt,bs,ts,e,ht,hb,btl,htt,ttl,nb,nt⟩:=h;exact ⟨t,lb,lt,bs,ts,e,s _ _ ht,s _ _ hb,btl.map (λ_ _ _ h=>h.same s) (λB hB=>(rg.Bs B hB).1),s _ _ htt,ttl.map λ_ _ h=>h.same s,nb,nt⟩
theorem Ssh {R:Jo4} {S:Riv} {l:List (Int×Int)} (lk:Jr5 R S) (rg:Jqb R) (h:SkT R l) (hl:l.length<=R.Bs.length):Jpi S (some l):=by
 intro l' e;cases e;refine ⟨yai hl rg.n.2,h.1,λq hq=>?_⟩;obtain ⟨h0,C,hC,c0,c1⟩:=h.2 q hq;obtain ⟨B,hB,ek⟩:=Juf lk hC;have e:B.n=nOf C.G:=congrArg (·.2.2.2.2.2) ek;exact ⟨h0,B,hB,c0,by rw [e];exact c1⟩
theorem Jsa {R:Jo4} {S:Riv} (lk:Jr5 R S) {B:Bsn} (h:B∈S.Bs):∃C∈R.Bs,Js2 B=Jps C:=by
 have q:Js2 B∈R.Bs.map Jps:=by rw [<-lk.Bs];exact ybg h
 obtain ⟨C,hC,e⟩:=yo.mp q;exact ⟨C,hC,e.symm⟩
theorem Sjy {α:Type} {n:Nat} (u:List α) (e:u.length=n+1):∃a r,u=a::r/\r.length=n:=by
 cases u with
 |nil=>cases e
 |cons a r=>exact ⟨a,r,rfl,by simpa using e⟩
theorem Sn2 {α:Type} (u:List α) (e:u.length=1):∃a,u= [a]:=by
 obtain ⟨a,r,rfl,z⟩:=Sjy u e;rw [List.eq_nil_of_length_eq_zero z];exact ⟨a,rfl⟩
theorem Srv {α:Type} (u:List α) (e:u.length=2):∃a b,u= [a,b]:=by
 obtain ⟨a,r,rfl,z⟩:=Sjy u e;obtain ⟨b,rfl⟩:=Sn2 r z;exact ⟨a,b,rfl⟩
theorem Srw {α:Type} (u:List α) (e:u.length=3):∃a b c,u= [a,b,c]:=by
 obtain ⟨a,r,rfl,z⟩:=Sjy u e;obtain ⟨b,c,rfl⟩:=Srv r z;exact ⟨a,b,c,rfl⟩
theorem Sy4 {α:Type} (u:List α) (e:u.length=4):∃a b c d,u= [a,b,c,d]:=by
 obtain ⟨a,r,rfl,z⟩:=Sjy u e;obtain ⟨b,c,d,rfl⟩:=Srw r z;exact ⟨a,b,c,d,rfl⟩
noncomputable def rrF (c:Nat) (rs:List Nat):Int:=(rs.foldl (λws r=>wsS c r ws) (1::yae c 0)).sum
theorem Sl4 (S:Riv):rrN S=rrF S.c.toNat (S.Bs.map λB=>B.rn.toNat):=by
 unfold rrN rrF wsN;rw [ybn,List.foldl_map]
theorem rr1:∀c < 13,∀a < 7,rrF c [a]<=7:=by decide +kernel
theorem rr2:∀c < 3,∀a < 3,∀b < 3,rrF c [a,b]<=6:=by decide +kernel
theorem rr3:∀c < 2,∀a < 2,∀b < 2,∀d < 2,rrF c [a,b,d]<=4:=by decide +kernel
theorem rr4:∀c < 2,∀a < 2,∀b < 2,∀d < 2,∀e < 2,rrF c [a,b,d,e]<=5:=by decide +kernel
theorem Sy5 {x y z X Y Z:Int} (x0:0<=x) (y0:0<=y) (z0:0<=z) (hx:x<=X) (hy:y<=Y) (hz:z<=Z):x*y*z<=X*Y*Z:=
 ycq (ycq hx hy y0 (ybh x0 hx)) hz z0 (Int.mul_nonneg (ybh x0 hx) (ybh y0 hy))
structure Sr0 (S:Riv) (sk:Option (List (Int×Int))):Prop where
 s4:Sm5 S
 st:stN S<=2000
 wg:wgN S sk<=4000
theorem Ydj {S:Riv} {sk:Option (List (Int×Int))} {n L C M T:Nat} {k:Int} (hn:S.Bs.length=n) (hL:∀B∈S.Bs,1<=lvN B/\lvN B<=(L:Int)) (l1:1<=L) (hc:0<=S.c/\S.c+1<=(C:Int)) (hM:∀x∈Jnv S sk,x.length<=M) (m1:1<=M) (hT:S.Ts.length+1<=T) (h4:n<=4) (c12:S.c<=12) (hk:rrN S<=k) (k4:(L:Int)^n*C*((M:Int)^n*T)*k<=4000) (k2:(L:Int)^n*C<=2000):stN S<=2000/\wgN S sk<=4000:=by
 have q1:=Jye (b:=(L:Int)) (by omega) (S.Bs.map lvN) λx hx=>by
  obtain ⟨B,hB,rfl⟩:=yo.mp hx;have:=hL B hB;omega
 rw [ye,hn] at q1;have ll:=Jt4 S sk;have q2:=Jye (b:=(M:Int)) (by omega) ((Jnv S sk).map λr=>(r.length:Int)) λx hx=>by
  obtain ⟨y,hy,rfl⟩:=yo.mp hx;have:=hM y hy;omega
 rw [ye,ll,hn] at q2;have rb:=Ye8 (R:=S) (by omega) ⟨hc.1,c12⟩;have a1:stN S<=(L:Int)^n*C:=ycq q1.2 hc.2 (by omega) (ybh q1.1 q1.2);have a0:0<=stN S:=Int.mul_nonneg q1.1 (by omega);have b1:chN S sk<=(M:Int)^n*T:=ycq q2.2 (by omega) (by omega) (ybh q2.1 q2.2);have b0:0<=chN S sk:=Int.mul_nonneg q2.1 (by omega);exact ⟨ybh a1 k2,ybh (Sy5 a0 b0 rb.1 a1 b1 hk) k4⟩
theorem Yfm {R:Jo4} {S:Riv} {M:Nat} (lk:Jr5 R S) (sk:Option (List (Int×Int))) (m1:1<=M) (h:∀C∈R.Bs,nOf C.G<=M):∀x∈Jnv S sk,x.length<=M:=by
 have go:∀(l:List (Int×Int)) (rs:List (List Int)),(∀x∈rs,x.length<=M)->∀x∈l.foldl (λrs p=>rs.set p.1.toNat [p.2]) rs,x.length<=M:=by
  intro l
  induction l with
  |nil=>exact λrs h=>h
  |cons p l ih=>
   refine λrs h=>ih _ λx hx=>?_;rcases ycy hx with q|rfl
   ·exact h x q
   ·exact m1
 refine go _ _ λx hx=>?_;obtain ⟨B,hB,rfl⟩:=yo.mp hx;obtain ⟨C,hC,ek⟩:=Jsa lk hB;have e:B.n=nOf C.G:=congrArg (·.2.2.2.2.2) ek;rw [Joc,e];exact h C hC
theorem Jzc {R:Jo4} {S:Riv} {sk:Option (List (Int×Int))} (lg:Ycn R) (rg:Jqb R) (lk:Jr5 R S):Sr0 S sk:=by
 obtain ⟨n,L,C,M,T,r,hm,hn,hC,hT,hB⟩:=lg;have ll:=Jqf lk;have tl:S.Ts.length=R.Ts.length:=by have:=congrArg List.length lk.Ts;simpa using this
 have ec:=lk.c;have gc:=rg.c;have bas:∀B∈S.Bs,(1<=lvN B/\lvN B<=(L:Int))/\(0<=B.lo/\B.lo<=12)/\lvN B<=13/\0<=B.rn/\B.rn < (r:Int)/\B.rn<=6:=λB hB'=>by
  obtain ⟨D,hD,ek⟩:=Jsa lk hB';have e1:B.lo=D.lo:=congrArg (·.2.1) ek;have e2:B.hi=D.hi:=congrArg (·.2.2.1) ek;have e4:B.rn=D.rn:=congrArg (·.2.2.2.2.1) ek;have g:=(rg.Bs D hD).1;have g1:=g.lo;have g2:=g.hi;have g4:=g.rn;have l:=hB D hD;have l1:=l.s;have l2:=l.r;unfold lvN;omega
 have nof:∀D∈R.Bs,1<=M->nOf D.G<=M:=λD hD h1=>by
  have l:=(hB D hD).m;unfold nOf;split <;> omega
 have rns:∀x∈S.Bs.map λB=>B.rn.toNat,x < r:=λx hx=>by
  obtain ⟨B,hB',rfl⟩:=yo.mp hx;have:=bas B hB';omega
 have rl:(S.Bs.map λB=>B.rn.toNat).length=n:=by rw [ye];omega
 have main:∀(k:Int),n<=4->1<=L->1<=M->1<=r->r^n<=1000->(L:Int)^n*C*((M:Int)^n*T)*k<=4000->(L:Int)^n*C<=2000->rrN S<=k->Sr0 S sk:=λk h4 l1 m1 r1 rp k4 k2 hk=>by
  obtain ⟨w1,w2⟩:=Ydj (sk:=sk) (n:=n) (T:=T) (by omega) (λB hB'=>(bas B hB').1) l1 (C:=C) ⟨by omega,by omega⟩ (Yfm lk sk m1 λD hD=>nof D hD m1) m1 (by omega) h4 (by omega) hk k4 k2;refine ⟨⟨by omega,λB hB'=>?_,by omega,r,r1,by rw [ll,hn];exact rp,λB hB'=>?_⟩,w1,w2⟩
  ·have:=bas B hB';omega
  ·have:=bas B hB';omega
 have cc:S.c.toNat < C:=by omega
 rw [Sl4] at main;generalize (S.Bs.map λB=>B.rn.toNat)=rs at*;generalize S.c.toNat=c at*;simp only [yq,yaz,or_false,Prod.mk.injEq] at hm;rcases hm with ⟨rfl,rfl,rfl,rfl,rfl,rfl⟩|⟨rfl,rfl,rfl,rfl,rfl,rfl⟩|⟨rfl,rfl,rfl,rfl,rfl,rfl⟩|⟨rfl,rfl,rfl,rfl,rfl,rfl⟩|⟨rfl,rfl,rfl,rfl,rfl,rfl⟩
 ·refine main 7 (by decide) (by decide) (by decide) (by decide) (by decide) (by decide) (by decide) ?_;obtain ⟨a,rfl⟩:=Sn2 rs rl;exact rr1 c (by omega) a (by have:=rns a (by simp);omega)
 ·refine main 7 (by decide) (by decide) (by decide) (by decide) (by decide) (by decide) (by decide) ?_;obtain ⟨a,rfl⟩:=Sn2 rs rl;exact rr1 c (by omega) a (by have:=rns a (by simp);omega)
 ·refine main 6 (by decide) (by decide) (by decide) (by decide) (by decide) (by decide) (by decide) ?_;obtain ⟨a,b,rfl⟩:=Srv rs rl;exact rr2 c cc a (rns a (by simp)) b (rns b (by simp))
 ·refine main 4 (by decide) (by decide) (by decide) (by decide) (by decide) (by decide) (by decide) ?_;obtain ⟨a,b,d,rfl⟩:=Srw rs rl;exact rr3 c cc a (rns a (by simp)) b (rns b (by simp)) d (rns d (by simp))
 ·refine main 5 (by decide) (by decide) (by decide) (by decide) (by decide) (by decide) (by decide) ?_;obtain ⟨a,b,d,e,rfl⟩:=Sy4 rs rl;exact rr4 c cc a (rns a (by simp)) b (rns b (by simp)) d (rns d (by simp)) e (rns e (by simp))
theorem Rfd.same {K:Sg} {a:Ad} {H H':Hp} {o:S4} {x:V} {E:XK} (m:Sl H H') (h:Rfd K a H o x E):Rfd K a H' o x E:=by
 cases h with
 |stuck S ro no k=>exact .stuck S (ro.same m) (no.same m) λcl eo H' rf=>k _ _ _ (rf.of m)
 |many S sk ro sa so wo hv k=>exact .many S sk (ro.same m) (sa.same m) so wo hv λcl eo H' rf=>k _ _ _ (rf.of m)
inductive Snx (K:Sg) (a:Ad) (vs:List V) (H:Hp) (Q:VK) (E:XK):Prop where
 |mk (p dx o:S4) (H0:Hp) (x:V) (_:vs= [.ref p,.ref o,x]) (_:Sl H0 H) (_:H p=some (.ins a.Jlv dx [])) (_:Rfd K a H0 o x E)
theorem Jr8:Jm6 ["self","river","stuck"] ["self","river","stuck"] (Jm5 (Jmc (top 80) 0)):=%[|0]
theorem Jtz (T:Tx K mg a):Sv P w K mg base (CXX P w) 12 a.Jk4 a.Jk5 ["self","river","stuck"] (Snx K a):=by
 have Saz:=%[Jpb|1];have G_lost_in:Sv P w K mg base CX0 1 a.Jk2 a.Jk3 ["standings"] (λ_ _ _ _=>False):=⟨λ_ _ _ _ h=>h.elim,λ_ _ _ _ _ _ _ _ _ _ _ _ _ h=>h.elim⟩;refine %[T.Jdg.fn.okX,Jr8|2]
 ·obtain ⟨p,dx,o,H0,x,rfl,_⟩:=h;rfl
 ·obtain ⟨p,dx,o,H0,x,rfl,s0,hp,rf⟩:=h;refine ⟨?t,?B,?C⟩
  case B=>
   refine' Jlz ?O0 ?O1
   case O0=>exact (Jmw (pv 0) (Jvq T.Jdw Saz Jn6 hr (by decide) T.Jcw.bd T.Jbf (Sm (pv 1) (Sm (pv 2) So))) rfl)
   case O1=>
   refine' Jm1 ?O2
   case O2=>exact (Jmw (pv 0) (Jm4 T.Jw G_lost_in hr (by decide) (Sm (Jmd (pv 0) (by rfl)) So)) rfl)
  refine ⟨_,rfl,_,rfl,λpS dxS hpS hdS neS=>?_⟩;have sn:Sl H (upd (upd H dxS (.own pS)) pS (.ins a.Jlm dxS [])):=λb ob e=>by rw [Sx (Jm2 e hpS),Sx (Jm2 e hdS)];exact e
  exact ⟨pS,dxS,o,H,x,rfl,hpS,sn,Sr,.inr (rf.same s0)⟩
theorem Yfk {R:Riv} {l:List (Int×Int)} (h0:∀p∈l,0<=p.1) {i:Nat} {B:Bsn} (e:R.Bs[i]?=some B):∃r,(Jnv R (some l))[i]?=some r/\r.length=if (i:Int)∈l.map (·.1) then 1 else B.n:=by
 have go:∀(l:List (Int×Int)) (rs:List (List Int)) (r:List Int),(∀p∈l,0<=p.1)->rs[i]?=some r->∃r',(l.foldl (λrs p=>rs.set p.1.toNat [p.2]) rs)[i]?=some r'/\r'.length=if (i:Int)∈l.map (·.1) then 1 else r.length:=by
  intro l
  induction l with
  |nil=>exact λrs r _ e=>⟨r,e,by simp⟩
  |cons p l ih=>
   intro rs r hp e;have p0:=hp p yab;by_cases c:(i:Int)=p.1
   ·obtain ⟨r',e1,e2⟩:=ih (rs.set p.1.toNat [p.2]) [p.2] (λq hq=>hp q (yz _ hq)) (by
     rw [yct,if_pos (by omega),if_pos (by have:=(yi.mp e).1;omega)])
    refine ⟨r',e1,?_⟩;rw [e2,if_pos (show (i:Int)∈(p::l).map (·.1) by rw [yap,c];exact yab)];split <;> rfl
   ·obtain ⟨r',e1,e2⟩:=ih (rs.set p.1.toNat [p.2]) r (λq hq=>hp q (yz _ hq)) (by
     rw [yct,if_neg (by omega)];exact e)
    refine ⟨r',e1,e2.trans ?_⟩;have mm:((i:Int)∈(p::l).map (·.1))↔(i:Int)∈l.map (·.1):=by
     rw [yap,yq];exact ⟨λh=>h.resolve_left c,.inr⟩
    by_cases m:(i:Int)∈l.map (·.1)
    ·rw [if_pos m,if_pos (mm.mpr m)]
    ·rw [if_neg m,if_neg λz=>m (mm.mp z)]
 obtain ⟨r',e1,e2⟩:=go l (R.Bs.map λB=>rgI B.n) (rgI B.n) h0 (by rw [ym,e];rfl);exact ⟨r',e1,by rw [e2,Joc]⟩
theorem Yfa (ws:List Int) {rn:Int} (h0:0<=rn) (j:Nat):Jpp (ws.map V.int) (some (if 0+(j:Int) - rn > 0 then 0+(j:Int) - rn else 0)) (some (0+(j:Int)+1))=(wsC rn.toNat ws j).map V.int:=by
 have e1:(if 0+(j:Int) - rn > 0 then 0+(j:Int) - rn else 0)=((j - rn.toNat:Nat):Int):=by
  split <;> omega
 have e2:(0+(j:Int)+1)=((j+1:Nat):Int):=by omega
 rw [e1,e2,Ycx];unfold wsC;rw [List.map_take,List.map_drop]
noncomputable def wtW (S:Riv) (l:List (Int×Int)) (i:Nat):Int:=(S.c+1)*Joo ((S.Bs.take i).map lvN)*Joo (((Jnv S (some l)).take i).map λr=>(r.length:Int))
inductive So2 (vs:List V) (H:Hp) (Q:VK) (z3:XK):Prop where
 |mk (p:S4) (x y:V) (R:Jo4) (S:Riv) (l:List (Int×Int)) (_:vs= [x,y]) (_:Sfb p H x R) (_:Jqb R) (_:Jr5 R S) (_:Y0 S) (_:Sig H y l) (_:(∀p∈l,0<=p.1)) (_:∀H',Sl H H'->Q (.int (wgN S (some l))) H')
theorem Sad:Jm6 ["_law_told","_law_stuck_here","_law_weight_here","_law_ways","_law_place","_law_one"] ["_law_told","_law_stuck_here"] (Jm5 (top 92)):=%[|0]
theorem Jwd (T:Tx K mg a):Sv P w K mg base CX0 1 a.Jkq a.Jkr ["_law_told","_law_stuck_here"] So2:=by
 refine %[T.Ja7.fn.ok,Sad|2]
 ·obtain ⟨p,x,y,R,S,l,rfl,_⟩:=h;rfl
 ·obtain ⟨p,x,y,R,S,l,rfl,⟨t,lb,lt,bs,ts,rfl,ht,hb,btl,htt,ttl,nb,nt⟩,rg,lk,s4,dk,l0,k⟩:=h;have hu64:=Jqy hr;refine ⟨?t,?B,?C⟩
  case B=>
   refine' Jlz ?O0 ?O1
   case O0=>exact (Jmb (i:=2) Sad.nd rfl (yf rfl) (Jm9 Jml (Jmf Jmk (pv 0) Su (λ_ _=>rfl)) Su))
   case O1=>
   refine' Jlz ?O2 ?O3
   case O2=>exact (Jmb (i:=3) Sad.nd rfl (yaq rfl) (Jm9 Jte (Jmy (Sm Su So)) (Jm9 Sn7 (Jmy (Sm Su So)) (Jmf Jmk (pv 0) Su (λ_ _=>rfl)))))
   case O3=>
   refine' Jlz ?O4 ?O5
   case O4=>
    refine' Jnq ?O6 ?O7 ?O8 ?O9 ?Oa
    case O6=>exact PassesOwn.never
    case O7=>exact rfl
    case O8=>exact (Jyb (by rfl) T.Jar (Sm (Jmf Jmk (pv 0) Su (λ_ _=>rfl)) So))
    case O9=>exact (Jrr rfl (Jmh (Jm7 (i:=4) Sad.nd rfl (yf rfl)) (Jmh (Jm7 (i:=5) Sad.nd rfl (yaq rfl)) Job)))
    case Oa=>
    refine' Jlz ?Ob ?Oc
    case Ob=>exact (Jmb (i:=2) Sad.nd rfl (yf rfl) (Jm9 Joe (pv 2) (Jm9 Jml (Jm9 Jnk (Jmf Jmk (pv 5) Su (λ_ _=>rfl)) (Jmf Jmk (pv 5) Su (λ_ _=>rfl))) Su)))
    case Oc=>
    refine' Jlz ?Od ?Oe
    case Od=>
     refine' Jmr ?Of ?Og ?Oh
     case Of=>exact (Jmm (Jwe hu64) (pv 4) (pv 1) (by with_unfolding_all rfl))
     case Og=>
      refine' Jm1 ?Oi
      case Oi=>exact (Jmb (i:=2) Sad.nd rfl (yf rfl) (Jm9 Joe (pv 2) (Jm8 Jmg (by rfl) T.Jau Jnc (Sm (Jmf Jmk (Jmf Jmk (pv 5) Su (λ_ _=>rfl)) Su (λ_ _=>rfl)) So))))
     case Oh=>exact Jme
    case Oe=>
    refine' Jm1 ?Oj
    case Oj=>exact (Jmb (i:=3) Sad.nd rfl (yaq rfl) (Jmt (N:=(["_law_total","_law_ways","_law_one"]:List Str)) (ini:=[none,some 3,some 5]) rfl (Jns (by rfl) T.Jay (Sm (Jm9 Jml (Jmf Jmk (pv 0) Su (λ_ _=>rfl)) Su) So)) (λ_ _ _ _ _=>(Jm7 (i:=0) (by decide +kernel:(["_law_total","_law_ways","_law_one"]:List Str).Nodup) rfl (yf rfl))) (λ_ _ _ _ _=>Jmq) (λ_ _ _ _ _=>(Jm8 (Jqw (K:=K) rfl rfl) (by rfl) T.Jb2 Jqc (Sm (Jov (Jsq (K:=K) rfl) (pv 1) (Jon (Jm8 (Jpm rfl) (by rfl) T.Jaw Jup (Sm Su (Sm (Jm9 Jnk (pv 0) (Jmf (Yar (K:=K) rfl) (pv 2) Su (λ_ _=>rfl))) So)))) (Jon (Jm9 Jml (pv 0) Su))) So)))))
   case O5=>
   refine' Jm1 ?Ok
   case Ok=>exact (Jma (Jm9 Joe (Jm9 Joe (pv 2) (Jm9 Jml (Jm8 Jmg (by rfl) T.Jau Jnc (Sm (Jmf Jmk (pv 0) Su (λ_ _=>rfl)) So)) Su)) (Jm8 (Jqe rfl) (by rfl) T.Jb2 Jqc (Sm (pv 3) So))))
  obtain ⟨d,rfl,rd⟩:=id dk;have hc:=s4.c;have h4:=s4.n;have bll:=btl.len;have ll:=Jqf lk;have ec:=lk.c;have hc12:S.c.toNat<=12:=by omega
  refine ⟨_,rfl,t,_,0,_,rfl,rfl,SqT.of ht,rfl,_,_,rfl,rfl,?_⟩;refine ⟨(show 1<=S9 by decide),λl1 hl1=>⟨(show 1<=S9 by decide),λl2 hl2=>?_⟩⟩;have s1:=Sl.upd (o:=.lst [V.int 1]) hl1;have s2:=Sl.upd (o:=.lst [V.int 0]) hl2;refine ⟨_,rfl,t,_,0,_,rfl,rfl,SqT.of (s2 _ _ (s1 _ _ ht)),rfl,l2,_,_,rfl,rfl,Sr,by omega,by omega,Jn4 _ (by show 1*_<=2000;omega),λl3 hl3=>?_⟩;have e3:(yae R.c.toNat [V.int 0]).flatten=(yae S.c.toNat (0:Int)).map V.int:=by
   rw [ec];generalize R.c.toNat=n
   induction n with
   |zero=>rfl
   |succ n ih=>rw [ycm,List.flatten_cons,ih,ycm];rfl
  rw [e3];have s3:=Sl.upd (o:=.lst ((yae S.c.toNat (0:Int)).map V.int)) hl3;have hz: [V.int 1].length+((yae S.c.toNat (0:Int)).map V.int).length<=S9:=Jn4 _ (by rw [ye,ycl];show 1+_<=2000;omega);refine ⟨l1,l3,_,_,rfl,rfl,s3 _ _ (s2 _ _ Sr),Sr,hz,λq0 hq0=>?_⟩;have e0: [V.int 1]++(yae S.c.toNat (0:Int)).map V.int=(wsN S 0).map V.int:=rfl;rw [e0];have s14:=((s1.trans s2).trans s3).trans (Sl.upd (o:=.lst ((wsN S 0).map V.int)) hq0);have g0:=Sr (H:=upd (upd (upd H l1 (.lst [V.int 1])) l2 (.lst [V.int 0])) l3 (.lst ((yae S.c.toNat (0:Int)).map V.int))) (a:=q0) (o:=.lst ((wsN S 0).map V.int));generalize upd (upd (upd (upd H l1 (.lst [V.int 1])) l2 (.lst [V.int 0])) l3 (.lst ((yae S.c.toNat (0:Int)).map V.int))) q0 (.lst ((wsN S 0).map V.int))=H0 at*;refine ⟨_,rfl,t,_,2,_,rfl,rfl,SqT.of (s14 _ _ ht),rfl,lb,rfl,⟨_,Sz.of (s14 _ _ hb)⟩,?_⟩;refine Yam (xs:=bs) (λi σ H'=>∃(q:S4) (o4 o5:Option V),σ= [some (.ref t),some (.ref d),some (.int (wtW S l i)),some (.ref q),o4,o5]/\H' q=some (.lst ((wsN S i).map V.int))/\Sl H H') ?_ ?_ ?_ ?_
  ·refine ⟨q0,none,none,?_,g0,s14⟩;have e:wtW S l 0=R.c+1:=by
    unfold wtW;rw [List.take_zero,List.take_zero,ec];show (R.c+1)*1*1=_;omega
   rw [e];rfl
  ·rintro i σ H' _ ⟨_,_,_,_,_,sm⟩;exact Sz.of (sm _ _ hb)
  ·rintro i x σ H' Ta hx ⟨q,o4,o5,rfl,hq,sm⟩ hT;obtain ⟨C,hC,t5,gv,rfl,ht5,gt⟩:=btl.get hx;obtain ⟨B,hB,ek⟩:=Juf lk hC;have hi:i < S.Bs.length:=(yi.mp hB).1;have e1:B.lo=C.lo:=congrArg (·.2.1) ek;have e2:B.hi=C.hi:=congrArg (·.2.2.1) ek;have e4:B.rn=C.rn:=congrArg (·.2.2.2.2.1) ek;have e5:B.n=nOf C.G:=congrArg (·.2.2.2.2.2) ek;obtain ⟨b1,b2⟩:=s4.lv B (yr hB);have hrn:=(rg.Bs C (yr hC)).1.rn;have elv:lvN B=B.hi - B.lo+1:=rfl;have sT:=Sl.upd (o:=.tup [V.int i,.ref t5]) hT;have smT:=sm.trans sT;have h5:=smT _ _ ht5;obtain ⟨r,er,erl⟩:=Yfk l0 hB;obtain ⟨sml,wb⟩:=Jst (R:=S) hc12 (i:=i) (by omega) h4;refine ⟨Ta,_,rfl,SqT.of Sr,rfl,_,_,rfl,_,_,rfl,rfl,?_⟩;refine ⟨_,rfl,_,rfl,t5,_,2,_,rfl,rfl,SqT.of h5,rfl,_,rfl,t5,_,1,_,rfl,rfl,SqT.of h5,rfl,_,_,rfl,rfl,_,_,rfl,rfl,_,_,rfl,rfl,.inr ⟨by omega,by omega⟩,?_⟩;have rd':Sig (upd H' Ta (.tup [V.int i,.ref t5])) (.ref d) l:=dk.same smT;obtain ⟨d',ed,rd2⟩:=rd';cases ed;have wn:wtW S l (i+1)=wtW S l i*lvN B*r.length:=by
    unfold wtW;rw [yaa,yaa,hB,er,yaj,yaj];show (S.c+1)*Joo (_++ [lvN B])*Joo (_++ [(r.length:Int)])=_;rw [Jrs,Jrs]
    ac_rfl
   refine Jzf (Yb4 (λσ Hb=>σ= [some (.ref t),some (.ref d),some (.int (wtW S l (i+1))),some (.ref q),some (.int i),some (.ref t5)]/\Hb=upd H' Ta (.tup [V.int i,.ref t5])) (λM hM=>?_) ?_)
   ·refine ⟨_,rfl,_,rfl,d,_,rfl,.inl ⟨_,yp (i:Int),rd2,rfl,rfl⟩,_,rfl,?_⟩;rw [Yba];by_cases c:(i:Int)∈l.map (·.1)
    ·rw [if_pos c] at erl;refine ifF (by rw [decide_eq_true c];rfl) (hM _ _ ⟨?_,rfl⟩);rw [wn,erl,elv,e1,e2];show _= [_,_,some (V.int (_*_*1)),_,_,_];rw [Int.mul_one];rfl
    ·rw [if_neg c] at erl;obtain ⟨tg,mg,eg,hm,nm,hg⟩:=gt;subst eg;have htg:∃g2 g3,H tg=some (.tup ([.str C.G.kd,.ref mg]++g2))/\g3=g2:=by
      rcases hg with ⟨_,q⟩|⟨j,m2,_,q,_⟩
      ·exact ⟨[],_,q,rfl⟩
      ·exact ⟨[.ref m2,.int j],_,q,rfl⟩
     obtain ⟨g2,_,htg,_⟩:=htg;refine ifT (by rw [decide_eq_false c];rfl) ⟨_,rfl,_,rfl,t5,_,5,_,rfl,rfl,SqT.of h5,rfl,tg,_,1,_,rfl,rfl,SqT.of (smT _ _ htg),Jrj (j:=1) rfl rfl,mg,_,rfl,.inl (Sz.of (smT _ _ hm)),_,_,rfl,rfl,.inr ?_,hM _ _ ⟨?_,rfl⟩⟩
     ·rw [ye,Jxl,<-e5];have:=(rg.Bs C (yr hC)).1.G.len;have n4:nOf C.G<=4:=by unfold nOf;split <;> omega
      omega
     ·rw [wn,erl,elv,e1,e2,ye,Jxl,<-e5];rfl
   ·rintro σ Hb ⟨rfl,rfl⟩;refine ⟨_,rfl,t,_,0,_,rfl,rfl,SqT.of (smT _ _ ht),rfl,_,_,rfl,rfl,_,rfl,by omega,by omega,λD2 hD2=>?_⟩;refine Jsz ((wsS S.c.toNat B.rn.toNat (wsN S i)).map V.int) hD2 (by rw [ye,Jun];omega) (by omega) (λj y H2 Q' hy sm2 k'=>?_) ?_
    ·have hj:=Sld hy;cases hj;refine ⟨_,rfl,_,rfl,_,rfl,t5,_,4,_,rfl,rfl,SqT.of (sm2 _ _ h5),rfl,_,_,rfl,rfl,_,_,rfl,_,rfl,_,rfl,_,_,rfl,rfl,_,rfl,q,_,rfl,Sz.of (sm2 _ _ (sT _ _ hq)),λp hp=>?_⟩;rw [Yfa _ hrn.1,<-e4];exact ⟨p,_,rfl,.inl (Sz.of Sr),Ybb sml,k' _ (Sl.upd hp)⟩
    ·intro H2 sm2 hDs2;refine ⟨D2,_,_,rfl,?_,smT.trans sm2⟩;rw [Jw4 S hB];exact hDs2
  ·rintro σ H' ⟨q,o4,o5,rfl,hq,sm⟩;rw [bll,<-ll] at hq⊢;have tl:=ttl.len;have tl2:S.Ts.length=R.Ts.length:=by have:=congrArg List.length lk.Ts;simpa using this
   have rb:=Ye8 h4 hc;have t3:=rg.tn;refine ⟨_,rfl,_,rfl,t,_,3,_,rfl,rfl,SqT.of (sm _ _ ht),rfl,lt,_,rfl,.inl (Sz.of (sm _ _ htt)),_,_,rfl,rfl,_,_,rfl,rfl,.inr ⟨by omega,by omega⟩,?_⟩;refine ⟨_,rfl,q,_,rfl,.inl (Sz.of hq),(Jst hc12 (yg _) h4).1,_,_,rfl,rfl,.inr ?_,?_⟩
   ·have:rrN S=(wsN S S.Bs.length).sum:=rfl;omega
   ·have e:wtW S l S.Bs.length*((ts.length:Int)+1)*(wsN S S.Bs.length).sum=wgN S (some l):=by
     unfold wgN stN chN rrN wtW;have ln:=Jt4 S (some l);rw [ybn,yah (by omega),tl,<-tl2]
     ac_rfl
    rw [e];exact k _ sm
theorem Jvy {K:Sg} {H H':Hp} {a:S4} {xs:List V} (s:Sl H H') (h:Sz K H a xs):Sz K H' a xs:=by
 rcases h with (h|⟨o,h⟩)|h
 ·exact .inl (.inl (s _ _ h))
 ·exact .inl (.inr ⟨o,s _ _ h⟩)
 ·exact .inr h
theorem Yeq {K:Sg} {H H':Hp} {a:S4} {xs:List V} (s:Sl H H') (h:SqT K H a xs):SqT K H' a xs:=by
 rcases h with (h|⟨o,h⟩)|h
 ·exact .inl (.inl (s _ _ h))
 ·exact .inl (.inr ⟨o,s _ _ h⟩)
 ·exact .inr h
mutual
theorem Sc7.same {K:Sg} {H H':Hp} (s:Sl H H'):∀{x} {d},Sc7 K H x d->Sc7 K H' x d
 |_,_,.non=>.non
 |_,_,.bl b=>.bl b
 |_,_,.int i=>.int i
 |_,_,.str z=>.str z
 |_,_,.lst hq hd=>.lst (Jvy s hq) (Sb7.same s hd)
 |_,_,.tup hq hd=>.tup (Yeq s hq) (Sb7.same s hd)
theorem Sb7.same {K:Sg} {H H':Hp} (s:Sl H H'):∀{xs:List V} {ds:List PyData},Sb7 K H xs ds->Sb7 K H' xs ds
 |_,_,.nil=>.nil
 |_,_,.cons h t=>.cons (Sc7.same s h) (Sb7.same s t)
end
inductive Sx4 (K:Sg) (a:Ad) (H:Hp) (o:S4) (x:V) (way:Int) (Q:VK):Prop
 |row (S:Riv) (Gs:List Jmi) (sk:Option (List (Int×Int))) (_:way=0) (_:Sgk K a H o S Gs x sk) (_:∀H',Sl H H'->Q .non H')
 |wgh (S:Riv) (sk:Option (List (Int×Int))) (_:way=1) (_:Sah K a H o S) (_:Sce H x sk) (_:Jpi S sk) (_:Y0 S) (_:∀H',Sl H H'->Q .non H')
 |stuck (S:Riv) (d:PyData) (b:Nat) (_:Sah K a H o S) (_:Stk K H S x false) (_:ShD K H x d) (_:Rp d b 60) (_:b<=8000) (_:∀t H',Sl H H'->H' t=some (.tup [.str "stuck",.str d.shown])->Q (.ref t) H')
 |many (S:Riv) (sk:Option (List (Int×Int))) (_:way≠1) (_:Sah K a H o S) (_:Sce H x sk) (_:Jpi S sk) (_:Y0 S) (_:4000 < wgN S sk) (_:∀t H',Sl H H'->H' t=some (.tup [.str "many",.int (wgN S sk)])->Q (.ref t) H')
inductive Snz (K:Sg) (a:Ad) (vs:List V) (H:Hp) (Q:VK) (z3:XK):Prop where
 |mk (o:S4) (x:V) (way:Int) (_:vs= [.ref o,x,.int way]) (_:Sx4 K a H o x way Q)
theorem ShD.same {K:Sg} {H H':Hp} {x:V} {d:PyData} (s:Sl H H') (h:ShD K H x d):ShD K H' x d:=by
 rcases h with (h|⟨c,e,hc,ed⟩)|⟨q,kvs,ds,h1,h2,h3,h4⟩
 ·exact .inl (.inl (Sc7.same s h))
 ·exact .inl (.inr ⟨c,e,s _ _ hc,ed⟩)
 ·refine .inr ⟨q,kvs,ds,h1,?_,Paired.imp' (λp d h=>⟨Scn.same s h.1,Scn.same s h.2⟩) h3,h4⟩;rcases h2 with ⟨o,h⟩|⟨l,e,z⟩
  ·exact .inl ⟨o,FzD.same s h⟩
  ·exact .inr ⟨l,s _ _ e,z⟩
theorem San:Jm6 ["_law_river_here","_law_stuck_here","_law_way","_law_told","e"] ["_law_river_here","_law_stuck_here","_law_way"] (Jm5 (top 95)):=%[|0]
theorem Jve (T:Tx K mg a):Sv P w K mg base CX0 14 a.Jkw a.Jkx ["_law_river_here","_law_stuck_here","_law_way"] (Snz K a):=by
 have Saz:=%[Jpb|1];have Sfv:=%[Jzm|1];have Sdm:=%[Jtz|1];refine %[T.Jaa.fn.ok,San|2]
 ·obtain ⟨o,x,way,rfl,_⟩:=h;rfl
 ·obtain ⟨o,x,way,rfl,td⟩:=h;have hu64:=Jqy hr;have hgd:=hr.gd;refine ⟨?t,?B,?C⟩
  case B=>
   refine' Jlz ?O0 ?O1
   case O0=>exact (Jmb (i:=3) San.nd rfl (yf rfl) Jnt)
   case O1=>
   refine' Jlz ?O2 ?O3
   case O2=>exact (Snf ⟨rfl,rfl⟩ (λ_ _ hw=>(Jm1 (Jmr (Jmm Jpe (pv 2) Su (Jmp _)) (Jm1 (Jnp (Jvq T.Jdw Saz hw hr (by decide) T.Jcw.bd T.Jbf (Sm (pv 0) (Sm (pv 1) So))))) (Jm1 (Jmr (Jmm Jpe (pv 2) Su (Jmp _)) (Jm1 (Jnp (Jo7 T.Ji Sfv hw hr (by decide) (Sm (pv 0) (Sm (pv 1) So))))) (Jm1 (Jnp (Jvq T.Jew Sdm hw hr (by decide) T.Jdg.bd T.Jbo (Sm (pv 0) (Sm (pv 1) So)))))))))) (by exact Skz T.Jdq T.Jbc San.nd (i:=4) rfl rfl (λ_=>(Jm1 (Jmb (i:=3) San.nd rfl (yf rfl) (Jmz (Sm Jnl (Sm (Jm8 (Jpu hgd hu64) (by rfl) T.Jaz Jua (Sm (Yaz (pv 4) (by rfl)) So)) So)))))) (by exact Skz T.Jdo T.Jbb San.nd (i:=4) rfl rfl (λ_=>(Jm1 (Jmb (i:=3) San.nd rfl (yf rfl) (Jmz (Sm Jnl (Sm (Yaz (pv 4) (by rfl)) So)))))) Sna)))
   case O3=>
   refine' Jm1 ?O4
   case O4=>exact (Jma (pv 3))
  have new:∀{C pS dxS:S4},H pS=none->H dxS=none->Sl H (upd (upd H dxS (.own pS)) pS (.ins C dxS [])):=λhp hd b ob e=>by rw [Sx (Jm2 e hp),Sx (Jm2 e hd)];exact e
  cases td with
  |row S Gs sk hw si k=>
   subst hw;refine λpins=>⟨_,rfl,rfl,_,rfl,Jr6 rfl ⟨_,rfl,_,rfl,λpS dxS hpS hdS neS=>?_⟩⟩;exact ⟨pS,dxS,o,H,x,rfl,hpS,new hpS hdS,Sr,.inl ⟨S,Gs,sk,si,λH1 s1 _=>⟨rfl,_,rfl,k _ s1⟩⟩⟩
  |wgh S sk hw ro sa so wo k=>
   subst hw;refine λpins=>⟨_,rfl,rfl,_,rfl,Jq5 (by decide) ⟨_,rfl,rfl,_,rfl,Jr6 rfl ⟨_,rfl,_,rfl,?_⟩⟩⟩;exact ⟨o,S,x,rfl,ro,.inl ⟨sk,sa,so,wo,λH1 s1=>⟨_,rfl,k _ s1⟩⟩⟩
  |stuck S d b ro no sh rp hb k=>
   refine λpins=>⟨_,rfl,rfl,_,rfl,?_⟩;by_cases w0:way=0
   ·refine Jr6 (congrArg V.int w0) ⟨_,rfl,_,rfl,λpS dxS hpS hdS neS=>⟨pS,dxS,o,H,x,rfl,hpS,new hpS hdS,Sr,.inr (.stuck S ro no λcl eo H1 rf=>?_)⟩⟩;obtain ⟨e,dx,rfl,rfl,s1,q1,q2⟩:=rf;refine ⟨e,_,true,rfl,rfl,T.Jgh,Jo2 ?_⟩;refine ⟨_,rfl,e,_,_,_,dx,_,_,_,rfl,q1,q2,T.Jdp,T.Jf2,rfl,?_⟩;exact ⟨x,d,b,rfl,ShD.same s1 sh,rp,hb,(show 2<=S9 by decide),λt ht=>⟨_,rfl,k t _ (s1.trans (Sl.upd ht)) Sr⟩⟩
   ·refine Jq5 (λz=>w0 (V.int.inj z)) ⟨_,rfl,rfl,_,rfl,?_⟩;by_cases w1:way=1
    ·refine Jr6 (congrArg V.int w1) ⟨_,rfl,_,rfl,o,S,x,rfl,ro,.inr ⟨no,λcl eo H1 rf=>?_⟩⟩;obtain ⟨e,dx,rfl,rfl,s1,q1,q2⟩:=rf;refine ⟨e,_,true,rfl,rfl,T.Jgh,Jo2 ?_⟩;refine ⟨_,rfl,e,_,_,_,dx,_,_,_,rfl,q1,q2,T.Jdp,T.Jf2,rfl,?_⟩;exact ⟨x,d,b,rfl,ShD.same s1 sh,rp,hb,(show 2<=S9 by decide),λt ht=>⟨_,rfl,k t _ (s1.trans (Sl.upd ht)) Sr⟩⟩
    ·refine Jq5 (λz=>w1 (V.int.inj z)) ⟨_,rfl,_,rfl,λpS dxS hpS hdS neS=>⟨pS,dxS,o,H,x,rfl,new hpS hdS,Sr,.stuck S ro no λcl eo H1 rf=>?_⟩⟩;obtain ⟨e,dx,rfl,rfl,s1,q1,q2⟩:=rf;refine ⟨e,_,true,rfl,rfl,T.Jgh,Jo2 ?_⟩;refine ⟨_,rfl,e,_,_,_,dx,_,_,_,rfl,q1,q2,T.Jdp,T.Jf2,rfl,?_⟩;exact ⟨x,d,b,rfl,ShD.same s1 sh,rp,hb,(show 2<=S9 by decide),λt ht=>⟨_,rfl,k t _ (s1.trans (Sl.upd ht)) Sr⟩⟩
  |many S sk hw ro sa so wo hv k=>
   refine λpins=>⟨_,rfl,rfl,_,rfl,?_⟩;by_cases w0:way=0
   ·refine Jr6 (congrArg V.int w0) ⟨_,rfl,_,rfl,λpS dxS hpS hdS neS=>⟨pS,dxS,o,H,x,rfl,hpS,new hpS hdS,Sr,.inr (.many S sk ro sa so wo hv λcl eo H1 rf=>?_)⟩⟩;obtain ⟨e,dx,rfl,rfl,s1,q1,q2⟩:=rf;refine ⟨e,_,false,rfl,rfl,T.Jgi,Jn9 ⟨e,_,true,rfl,rfl,T.Jgj,Jo2 ?_⟩⟩;refine ⟨_,rfl,e,_,_,_,dx,_,_,_,rfl,q1,q2,T.Jdn,T.Jf1,rfl,?_⟩;exact ⟨(show 2<=S9 by decide),λt ht=>⟨_,rfl,k t _ (s1.trans (Sl.upd ht)) Sr⟩⟩
   ·refine Jq5 (λz=>w0 (V.int.inj z)) ⟨_,rfl,rfl,_,rfl,Jq5 (λz=>hw (V.int.inj z)) ⟨_,rfl,_,rfl,λpS dxS hpS hdS neS=>⟨pS,dxS,o,H,x,rfl,new hpS hdS,Sr,.many S sk ro sa so wo hv λcl eo H1 rf=>?_⟩⟩⟩;obtain ⟨e,dx,rfl,rfl,s1,q1,q2⟩:=rf;refine ⟨e,_,false,rfl,rfl,T.Jgi,Jn9 ⟨e,_,true,rfl,rfl,T.Jgj,Jo2 ?_⟩⟩;refine ⟨_,rfl,e,_,_,_,dx,_,_,_,rfl,q1,q2,T.Jdn,T.Jf1,rfl,?_⟩;exact ⟨(show 2<=S9 by decide),λt ht=>⟨_,rfl,k t _ (s1.trans (Sl.upd ht)) Sr⟩⟩
theorem Jw0 {a b:Expr} {p:Pos} {t l env}:swapsWith (.Subscript a b p) t l env=pure false:=rfl
structure Spo (K:Sg) (H:Hp) (S:Riv) (x:V) (d:PyData):Prop where
 no:Stk K H S x false
 sh:ShD K H x d
 ok:PyData.strOk d.shown=true
 rp:∃b,Rp d b 60/\b<=8000
theorem Spo.same {K:Sg} {H H':Hp} {S:Riv} {x:V} {d:PyData} (m:Sl H H') (h:Spo K H S x d):Spo K H' S x d:=⟨h.no.same m,ShD.same m h.sh,h.ok,h.rp⟩
structure Shw (K:Sg) (H:Hp) (x:V) (d:PyData):Prop where
 tm:Tm K H x
 sv:Scn H x d
 ok:PyData.strOk d.shown=true
 rp:Rp d 40 10
theorem Juj {K:Sg} {H:Hp} {i:Int} (h:i.natAbs.log2 < 1920):Shw K H (.int i) (.int i):=⟨.inl ⟨i,rfl⟩,.int i,by simp only [PyData.shown];exact Jzk _,(Rp.int h).mono (by decide) (by decide)⟩
theorem Jnd {K:Sg} {H:Hp} {i:Int} (h0:0<=i) (h:i<=100):Shw K H (.int i) (.int i):=Juj (by
 have:i.natAbs.log2<=i.natAbs:=Nat.log2_le_self _;omega)
theorem Jul {K:Sg} {H:Hp} {S:Riv} {l:List (Int×Int)} {D:S4} {o:Obj} {kvs:List (V×V)} {k0 v0:V} {d1 d2:PyData} (so:Jpi S (some l)) (fz:FzD H D o kvs) (hl:kvs.length<=20) (hg:∀p∈kvs,(∃q∈l,p=(V.int q.1,V.int q.2))\/p=(k0,v0)) (hb:(k0,v0)∈kvs) (n16:S.Bs.length<=16) (n4:∀B∈S.Bs,B.n<=4) (no:SetOf S k0 v0 false) (h1:Shw K H k0 d1) (h2:Shw K H v0 d2):∃d,Spo K H S (.ref D) d:=by
 have gd:∀q∈l,SkB S q/\Shw K H (.int q.1) (.int q.1)/\Shw K H (.int q.2) (.int q.2):=λq hq=>by
  have b:=(so l rfl).2.2 q hq;obtain ⟨b0,B,hB,c0,c1⟩:=id b;have hi:=(yi.mp hB).1;have:=n4 B (yr hB);exact ⟨b,Jnd b0 (by omega),Jnd c0 (by omega)⟩
 have ex:∀kv:List (V×V),(∀p∈kv,(∃q∈l,p=(V.int q.1,V.int q.2))\/p=(k0,v0))->∃ds:List (PyData×PyData),Paired (λ(p:V×V) (d:PyData×PyData)=>Scn H p.1 d.1/\Scn H p.2 d.2) kv ds/\ds.length=kv.length/\(∀d∈ds,PyData.strOk d.1.shown=true/\PyData.strOk d.2.shown=true)/\∀d∈ds,Rp d.1 40 10/\Rp d.2 40 10:=by
  intro kv
  induction kv with
  |nil=>exact λ_=>⟨[],.nil,rfl,Joi,Joi⟩
  |cons p kv ih=>
   intro h;obtain ⟨ds,a1,a2,a3,a4⟩:=ih λq hq=>h q (yz _ hq);have one:∃e1 e2,Shw K H p.1 e1/\Shw K H p.2 e2:=by
    rcases h p yab with ⟨q,hq,rfl⟩|rfl
    ·exact ⟨_,_,(gd q hq).2⟩
    ·exact ⟨_,_,h1,h2⟩
   obtain ⟨e1,e2,q1,q2⟩:=one;exact ⟨(e1,e2)::ds,.cons ⟨q1.sv,q2.sv⟩ a1,by rw [yag,a2];rfl,all_cons ⟨q1.ok,q2.ok⟩ a3,all_cons ⟨q1.rp,q2.rp⟩ a4⟩
 obtain ⟨ds,a1,a2,a3,a4⟩:=ex kvs hg;refine ⟨.dict ds,.inr (.inr ⟨D,o,kvs,kvs.map λp=>!decide (p=(k0,v0)),rfl,fz,by omega,ye _,λi p c e1 e2=>?_,?_⟩),.inr ⟨D,kvs,ds,rfl,.inl ⟨o,fz⟩,a1,rfl⟩,Yaw a3,_,(Rp.dic a4).mono (yg _) (by decide),by rw [a2];omega⟩
 ·rw [ym,e1] at e2;cases e2;show Tm K H p.1/\Tm K H p.2/\SetOf S p.1 p.2 (!decide (p=(k0,v0)));by_cases z:p=(k0,v0)
  ·rw [decide_eq_true z,z];exact ⟨h1.tm,h2.tm,no⟩
  ·rw [decide_eq_false z];rcases hg p (yr e1) with ⟨q,hq,rfl⟩|y
   ·exact ⟨.inl ⟨_,rfl⟩,.inl ⟨_,rfl⟩,.inl ⟨rfl,q,rfl,rfl,(gd q hq).1⟩⟩
   ·exact absurd y z
 ·rw [List.all_map];refine (List.all_eq_false.mpr ⟨_,hb,?_⟩).symm;show ¬(!decide ((k0,v0)=(k0,v0)))=true;rw [decide_eq_true rfl];decide
theorem Jph {K:Sg} {H:Hp} {S:Riv} {x:V} {d:PyData} {t:S5} (ty:TyX K H x t) (e:Sh K t (.type "dict")=some false) (nn:x≠ .non) (dv:Sc7 K H x d) (ok:PyData.strOk d.shown=true) (rp:Rp d 40 10):∃d,Spo K H S x d:=
 ⟨d,.inr (.inl ⟨t,ty,e,nn,rfl⟩),.inl (.inl dv),ok,40,rp.mono (yg _) (by decide),by decide⟩
noncomputable abbrev kvL (l:List (Int×Int)):List (Key×V):=l.map λp=>((yp p.1,V.int p.2):Key×V)
theorem Jyf (l:List (Int×Int)) (k:Key) (v:V):∀p∈(Jnu (kvL l) k v).map (λp=>(kV p.1,p.2)),(∃q∈l,p=(V.int q.1,V.int q.2))\/p=(kV k,v):=by
 intro p hp;obtain ⟨r,hr,rfl⟩:=yo.mp hp;have h:r∈kvL l\/r=(k,v):=by
  unfold Jnu at hr;split at hr
  ·obtain ⟨q,hq,rfl⟩:=yo.mp hr;by_cases e:q.1=k
   ·rw [if_pos e,e];exact .inr rfl
   ·rw [if_neg e];exact .inl hq
  ·rcases yax.mp hr with h|h
   ·exact .inl h
   ·exact .inr (yam.mp h)
 rcases h with h|rfl
 ·obtain ⟨q,hq,rfl⟩:=yo.mp h;exact .inl ⟨q,hq,rfl⟩
 ·exact .inr rfl
theorem Jyo {K:Sg} {H:Hp} {S:Riv} {l:List (Int×Int)} {D:S4} {o:Obj} {u:HO} {kvs:List (Key×V)} {y:V} {d1:PyData} (so:Jpi S (some l)) (g:H D=some (.frz o u)) (rw_:RwD o ((kvs.map λp=>(kV p.1,p.2))++ [(y,.int 0)])) (ns:(D==sysModules)=false) (hk:∀p∈kvs,p∈kvL l) (hl:kvs.length<=19) (n16:S.Bs.length<=16) (n4:∀B∈S.Bs,B.n<=4) (no:Jmn y 0 ((S.Bs.length:Int) - 1)=false) (h1:Shw K H y d1):∃d,Spo K H S (.ref D) d:=by
 refine Jul (k0:=y) (v0:=.int 0) so ⟨_,g,.inl ⟨rw_,ns⟩⟩ (by rw [yad,ye];show _+1<=20;omega) (λp hp=>?_) (ybe _ yab) n16 n4 (.inr ⟨rfl,.inl no⟩) h1 (Jnd (Int.le_refl 0) (by decide));rcases yax.mp hp with h|h
 ·obtain ⟨r,hr,rfl⟩:=yo.mp h;obtain ⟨q,hq,rfl⟩:=yo.mp (hk r hr);exact .inl ⟨q,hq,rfl⟩
 ·exact .inr (yam.mp h)
theorem Jym {S:Riv} {l:List (Int×Int)} {kvs:List (Key×V)} {P:Int->Prop} (so:Jpi S (some l)) (n16:S.Bs.length<=16) (hk:∀p∈kvs,p∈kvL l) (hp:∀i:Int,0<=i->i < S.Bs.length->(∃p∈kvs,p.1=yp i)->P i):SmI kvs P:=λp h=>by
 obtain ⟨q,hq,rfl⟩:=yo.mp (hk p h);obtain ⟨b0,B,hB,_⟩:=(so l rfl).2.2 q hq;have hi:=(yi.mp hB).1;exact ⟨q.1,rfl,b0,by omega,hp _ b0 (by omega) ⟨_,h,rfl⟩⟩
theorem Jyj {K:Sg} {H:Hp}:Shw K H (.bl true) (.bool true):=⟨.inr ⟨_,.of (.bl true),rfl⟩,.bl true,by decide +kernel,(Rp.bl true).mono (by decide) (by decide)⟩
theorem Yb6 {K:Sg} {H:Hp}:Shw K H .non .none:=⟨.inr ⟨_,.of .non,rfl⟩,.non,by decide +kernel,Rp.non.mono (by decide) (by decide)⟩
theorem Yed {K:Sg} {H:Hp}:Shw K H (.str "0") (.str "0"):=⟨.inr ⟨_,.of (.str "0"),rfl⟩,.str "0",by decide +kernel,(Rp.str (z:="0") (by decide +kernel)).mono (by decide +kernel) (by decide)⟩
theorem Yb5 {K:Sg} {H:Hp} {q:S4} (h:H q=some (.lst [.int 0])) (n:q≠sysModules):Shw K H (.ref q) (.list [.int 0]):=⟨.inr ⟨_,.of (.lst h),rfl⟩,.lst h n,by decide +kernel,(Rp.lst (b:=0) (t:=0) (all_cons (Rp.int (by decide)) Joi)).mono (by decide) (by decide)⟩
theorem Jyk {K:Sg} {H:Hp} {t:S4} (h:H t=some (.tup [.int 0])):Shw K H (.ref t) (.tuple [.int 0]):=⟨.inr ⟨_,.of (.tup h),rfl⟩,.tup h,by decide +kernel,(Rp.tup (b:=0) (t:=0) (all_cons (Rp.int (by decide)) Joi)).mono (by decide) (by decide)⟩
theorem Yde {b:Bool} {A B:Prop} (h:b=true) (k:A):if (if false=true then !b else b)=true then A else B:=by subst h;exact k
theorem Ye {b:Bool} {A B:Prop} (h:b=false) (k:B):if (if false=true then !b else b)=true then A else B:=by subst h;exact k
theorem Jsj (kvs:List (Key×V)) (k:Key) (v:V):(k,v)∈Jnu kvs k v:=by
 unfold Jnu;split
 ·next h=>
  obtain ⟨p,hp,e⟩:=List.any_eq_true.mp h;have e:=of_decide_eq_true e;exact yo.mpr ⟨p,hp,by rw [if_pos e,e]⟩
 ·exact ybe _ yab
theorem Yc6 (kvs:List (Key×V)) (k:Key) (v:V):(Jqv (Jnu kvs k v) k).isSome=true:=by
 rw [<-Jss];exact List.any_eq_true.mpr ⟨_,Jsj kvs k v,decide_eq_true rfl⟩
theorem Jux {kvs:List (Key×V)} {k:Key} {v:V} {p:Key×V} (h:p∈Jz8 (Jnu kvs k v) k):p.1≠k/\p∈kvs:=by
 obtain ⟨h,ne⟩:=yck.mp h;have ne:p.1≠k:=of_decide_eq_true ne;refine ⟨ne,?_⟩;unfold Jnu at h;split at h
 ·obtain ⟨q,hq,rfl⟩:=yo.mp h;by_cases e:q.1=k
  ·rw [if_pos e] at ne;exact absurd e ne
  ·rw [if_neg e];exact hq
 ·rcases yax.mp h with h|h
  ·exact h
  ·rw [yam.mp h] at ne;exact absurd rfl ne
theorem Srt {b:Bool} {A B:Prop} (h:b=true->A) (k:B):if (if false=true then !b else b)=true then A else B:=by
 cases b with
 |true=>exact h rfl
 |false=>exact k
inductive So0 (K:Sg) (vs:List V) (H:Hp) (Q:VK) (z3:XK):Prop where
 |mk (p:S4) (x y:V) (m:Int) (R:Jo4) (S:Riv) (l:List (Int×Int)) (_:vs= [x,y,.int m]) (_:Sfb p H x R) (_:Jqb R) (_:Jr5 R S) (_:Sce H y (some l)) (_:Jpi S (some l)) (_:l.length<=R.Bs.length) (_:∀x' d H',Sl H H'->Spo K H' S x' d->Q x' H')
noncomputable def Ssx (te:TE):TE:=λσ H Q=>te σ H λv H1=>(∃a kvs,v= .ref a/\H1 a=some (.dK kvs)/\∀o,Q v (upd H1 a (.frz o (.dK kvs))))\/Q v H1
theorem Yfz {X:Cx} {e:Expr} {te:TE} (he:PE X e te):PE X e (Ssx te):=by
 intro pins s σ H Q I h;refine thn (he pins s σ H _ I h) λu s1 zq=>?_;obtain ⟨x,H1,I1,r1,q⟩:=zq;rcases q with ⟨a,kvs,ex,e1,q⟩|q
 ·obtain ⟨_,_,vs,_,ob,es,ep,e2,_⟩:=(I1.hok a _ e1);exact ⟨x,_,I1.frz e1 e2,r1,q ob⟩
 ·exact ⟨x,H1,I1,r1,q⟩
theorem Sas:Jm6 ["_law_told","_law_stuck_here","_law_m","_law_many","_law_place","_law_found","_law_key"] ["_law_told","_law_stuck_here","_law_m"] (Jm5 (top 94)):=%[|0]
theorem Jwc (T:Tx K mg a):Sv P w K mg base CX0 1 a.Jku a.Jkv ["_law_told","_law_stuck_here","_law_m"] (So0 K):=by
 refine %[T.Ja9.fn.ok,Sas|2]
 ·obtain ⟨p,x,y,m,R,S,l,rfl,_⟩:=h;rfl
 ·obtain ⟨p,x,y,m,R,S,l,rfl,⟨t,lb,lt,bs,ts,rfl,ht,hb,btl,htt,ttl,nb,nt⟩,rg,lk,sa,so,ll,k⟩:=h;have hu64:=Jqy hr;refine ⟨?t,?B,?C⟩
  case B=>
   refine' Jlz ?O0 ?O1
   case O0=>exact (Jmb (i:=3) Sas.nd rfl (yf rfl) (Jm8 Jmg (by rfl) T.Jau Jnc (Sm (Jmf Jmk (pv 0) Su (λ_ _=>rfl)) So)))
   case O1=>
   refine' Jlz ?O2 ?O3
   case O2=>exact (Jmb (i:=4) Sas.nd rfl (yf rfl) (Jm9 Jo3 (Jm9 Jom (pv 2) Su) (pv 3)))
   case O3=>
   refine' Jlz ?O4 ?O5
   case O4=>exact (Jmb (i:=5) Sas.nd rfl (yf rfl) (Jms Y7 (by rfl) T.Jaq Jxn (Sm (pv 1) So)))
   case O5=>
   refine' Jlz ?O6 ?O7
   case O6=>
    refine' Jmr ?O8 ?O9 ?Oa
    case O8=>exact (Jmm Jpe (Jm9 Jo3 (pv 2) Su) Su (Jmp _))
    case O9=>
     refine' Jlz ?Ob ?Oc
     case Ob=>
      refine' Jmb (i:=6) ?Od ?Oe ?Of ?Og ?Oh ?Oi
      case Od=>exact Sas.nd
      case Oe=>exact rfl
      case Of=>exact (yf rfl)
      case Oh=>exact Jw0
      case Oi=>first|exact .inl rfl|exact .inr rfl
      case Og=>
      refine' Jmf ?Oj ?Ok ?Ol ?Om
      case Oj=>exact Jn2
      case Ok=>
       refine' Jmy ?On
       case On=>
       refine' pa8 ?Oo ?Op ?Oq ?Or ?Os ?Ot ?Ou ?Ov
       case Oo=>exact (Yb2 Jyw Su)
       case Op=>exact (pv 3)
       case Oq=>exact Jny
       case Or=>exact Jnl
       case Os=>exact (Jmz (Sm Su So))
       case Ot=>exact Jnt
       case Ou=>exact (Yb2 Jyw (Jm9 Jya Su Su))
       case Ov=>exact (Jm9 Jya Su Su)
      case Ol=>exact (Jm9 Jo3 (Jm9 Jom (pv 2) Su) Su)
      case Om=>exact (λ_ _=>rfl)
     case Oc=>
     refine' Jlz ?Ow ?Ox
     case Ow=>exact (Jvt hu64 (pv 5) (pv 6) Su rfl)
     case Ox=>
     refine' Jm1 ?Oy
     case Oy=>
     refine' Jmr ?Oz ?U0 ?U1
     case Oz=>exact (PW.pt (Ydy (Jmm (Sn6 hu64) (pv 6) Su (Jmp _)) (Yb3 (Jmm Jvi (pv 3) Su (Jmp _)))))
     case U0=>
      refine' Jlz ?U2 ?U3
      case U2=>exact (Jnp (Yg0 (pv 5) Su ⟨rfl,rfl,rfl,rfl⟩))
      case U3=>
      refine' Jm1 ?U4
      case U4=>exact (Jvt hu64 (pv 5) Jny Su rfl)
     case U1=>exact Jme
    case Oa=>
    refine' Jm1 ?U5
    case U5=>
    refine' Jmr ?U6 ?U7 ?U8
    case U6=>exact (Jmm Jpe (Jm9 Jo3 (pv 2) Su) Su (Jmp _))
    case U7=>
     refine' Jm1 ?U9
     case U9=>
     refine' Jvt hu64 ?Ua ?Ub ?Uc ?Ud
     case Ua=>exact (pv 5)
     case Ub=>exact (pv 4)
     case Ud=>exact Jw0
     case Uc=>
     refine' Jmf ?Ue ?Uf ?Ug ?Uh
     case Ue=>exact Jn2
     case Uf=>
      refine' Jmy ?Ui
      case Ui=>
      refine' pa8 ?Uj ?Uk ?Ul ?Um ?Un ?Uo ?Up ?Uq
      case Uj=>exact (Yb2 Jyw Su)
      case Uk=>exact (Jm8 Jmg (by rfl) T.Jau Jnc (Sm (Jmf Jmk (Jmf Jmk (Jmf Jn2 (Jmf Jmk (pv 0) Su (λ_ _=>rfl)) (pv 4) (λ_ _=>rfl)) Su (λ_ _=>rfl)) Su (λ_ _=>rfl)) So))
      case Ul=>exact Jny
      case Um=>exact Jnl
      case Un=>exact Jnt
      case Uo=>exact (Yb0 (Sm Su So))
      case Up=>exact (Jmz (Sm Su So))
      case Uq=>exact (Jm9 Jya Su Su)
     case Ug=>exact (Jm9 Jo3 (Jm9 Jom (pv 2) Su) Su)
     case Uh=>exact (λ_ _=>rfl)
    case U8=>
    refine' Jm1 ?Ur
    case Ur=>
    refine' Jmb (i:=5) ?Us ?Ut ?Uu ?Uv ?Uw ?Ux
    case Us=>exact Sas.nd
    case Ut=>exact rfl
    case Uu=>exact (yf rfl)
    case Uw=>exact Jw0
    case Ux=>first|exact .inl rfl|exact .inr rfl
    case Uv=>
    refine' Jmf ?Uy ?Uz ?V0 ?V1
    case Uy=>exact Jn2
    case Uz=>
     refine' Jmy ?V2
     case V2=>
     refine' pa8 ?V3 ?V4 ?V5 ?V6 ?V7 ?V8 ?V9 ?Va
     case V3=>exact (Yb0 (Sm Su So))
     case V4=>exact (Jmz (Sm Su So))
     case V5=>exact Jnl
     case V6=>exact Su
     case V7=>exact Jny
     case V8=>exact (Jmz (Sm (Jmz (Sm Su (Sm Su So))) So))
     case V9=>exact (Jmy (Sm (Jmz (Sm Su (Sm Su So))) So))
     case Va=>exact Jny
    case V0=>exact (Jm9 Jo3 (Jm9 Jom (pv 2) Su) Su)
    case V1=>exact (λ_ _=>rfl)
   case O7=>
   refine' Jm1 ?Vb
   case Vb=>exact (Jma (Yfz (pv 5)))
  obtain ⟨d,od,rfl,hd⟩:=id sa;have bll:=btl.len;have n16:=rg.n.2;have m0:0 < (bs.length:Int):=by have:=rg.n;omega
  have l16:=(so l rfl).1;refine ⟨_,rfl,t,_,2,_,rfl,rfl,SqT.of ht,rfl,lb,_,rfl,.inl (Sz.of hb),?_⟩;refine ⟨_,rfl,_,_,rfl,rfl,⟨by decide,Jo6 (by decide)⟩,_,rfl,_,_,rfl,rfl,m0,?_⟩;refine ⟨_,rfl,d,_,rfl,.inr ⟨od,hd⟩,by rw [ye];omega,λD hD=>?_⟩;have s1:=Sl.upd (o:=.dK (l.map λp=>((yp p.1,V.int p.2):Key×V))) hD;have g1:=Sr (H:=H) (a:=D) (o:=.dK (l.map λp=>((yp p.1,V.int p.2):Key×V)));generalize upd H D (.dK (l.map λp=>((yp p.1,V.int p.2):Key×V)))=H1 at*;have n4:∀B∈S.Bs,B.n<=4:=λB hB=>by
   obtain ⟨C,hC,e⟩:=Jsa lk hB;have gl:=(rg.Bs C hC).1.G.len;have en:B.n=nOf C.G:=congrArg (·.2.2.2.2.2) e;rw [en];unfold nOf;split <;> omega
  have ll2:=Jqf lk;have j8:0<=m/3%8/\m/3%8 < 8:=⟨ycd _ (by decide),yce _ (by decide)⟩;refine ⟨_,rfl,_,_,rfl,rfl,by decide,rfl,_,rfl,?_⟩;by_cases c0:m%3=0
  ·refine Jr6 (congrArg V.int c0) ?_;refine ⟨_,rfl,_,rfl,(show 1<=S9 by decide),λt1 ht1=>?_⟩;have s2:=Sl.upd (o:=.tup [V.int 0]) ht1;have g2:=Sr (H:=H1) (a:=t1) (o:=.tup [V.int 0]);have gD2:=s2 _ _ g1;generalize upd H1 t1 (.tup [V.int 0])=H2 at*;refine ⟨_,_,rfl,rfl,?Vc,_,rfl,_,_,rfl,rfl,?Vd,(show 8<=S9 by decide),λL hL=>?_⟩
   case Vc=>exact ⟨by decide,by decide,by decide⟩
   case Vd=>exact ⟨by decide,by decide,by decide⟩
   have s3:=Sl.upd (o:=.lst [V.int (-1),.int bs.length,.bl true,.str "0",.ref t1,.non,.int (-(10^(9:Int).toNat)),.int (10^(30:Int).toNat)]) hL;have g3:=Sr (H:=H2) (a:=L) (o:=.lst [V.int (-1),.int bs.length,.bl true,.str "0",.ref t1,.non,.int (-(10^(9:Int).toNat)),.int (10^(30:Int).toNat)]);have gD:=s3 _ _ gD2;have gt:=s3 _ _ g2;generalize upd H2 L (.lst [V.int (-1),.int bs.length,.bl true,.str "0",.ref t1,.non,.int (-(10^(9:Int).toNat)),.int (10^(30:Int).toNat)])=H3 at*;have s03:Sl H H3:=(s1.trans s2).trans s3;obtain ⟨y,hy,yk⟩:∃y,atI [V.int (-1),.int bs.length,.bl true,.str "0",.ref t1,.non,.int (-(10^(9:Int).toNat)),.int (10^(30:Int).toNat)] (m/3%8)=some y/\((∃n:Int,y= .int n/\(n < 0\/(bs.length:Int)<=n)/\n.natAbs.log2 < 1920)\/y= .bl true\/y= .str "0" \/y= .ref t1\/y= .non):=by
    have cs:m/3%8=0\/m/3%8=1\/m/3%8=2\/m/3%8=3\/m/3%8=4\/m/3%8=5\/m/3%8=6\/m/3%8=7:=by omega
    rcases cs with e|e|e|e|e|e|e|e <;> rw [e]
    ·exact ⟨_,rfl,.inl ⟨-1,rfl,.inl (by decide),by decide +kernel⟩⟩
    ·exact ⟨_,rfl,.inl ⟨_,rfl,.inr (Int.le_refl _),by have:(bs.length:Int).natAbs.log2<=(bs.length:Int).natAbs:=Nat.log2_le_self _;omega⟩⟩
    ·exact ⟨_,rfl,.inr (.inl rfl)⟩
    ·exact ⟨_,rfl,.inr (.inr (.inl rfl))⟩
    ·exact ⟨_,rfl,.inr (.inr (.inr (.inl rfl)))⟩
    ·exact ⟨_,rfl,.inr (.inr (.inr (.inr rfl)))⟩
    ·exact ⟨_,rfl,.inl ⟨_,rfl,.inl (by decide),by decide +kernel⟩⟩
    ·have big:(17:Int)<=10^(30:Int).toNat:=by decide +kernel
     exact ⟨_,rfl,.inl ⟨_,rfl,.inr (ybh (by omega) big),by decide +kernel⟩⟩
   refine ⟨_,rfl,_,_,rfl,rfl,⟨by decide,Jo6 (by decide)⟩,_,_,rfl,rfl,by decide,L,_,_,y,rfl,rfl,Sz.of g3,hy,?_⟩;refine ⟨_,rfl,_,rfl,D,rfl,?_⟩;rcases yk with ⟨n,rfl,hn,hlog⟩|rfl|rfl|rfl|rfl
   ·refine .inl ⟨_,Sfo.k (k:=yp n) gD (by rw [ye];exact Jmo (by omega)),?_⟩;have g4:=Sr (H:=H3) (a:=D) (o:=.dK (Jnu (kvL l) (yp n) (.int 0)));have s4:∀o,Sl H (upd (upd H3 D (.dK (Jnu (kvL l) (yp n) (.int 0)))) D (.frz o (.dK (Jnu (kvL l) (yp n) (.int 0))))):=λo b u e=>by rw [Sx (Jm2 e hD),Sx (Jm2 e hD)];exact s03 _ _ e
    have fin:∀o,∃d,Spo K (upd (upd H3 D (.dK (Jnu (kvL l) (yp n) (.int 0)))) D (.frz o (.dK (Jnu (kvL l) (yp n) (.int 0))))) S (.ref D) d:=λo=>by
     refine Jul (k0:=.int n) (v0:=.int 0) so ⟨_,Sr,.inr ⟨_,rfl,rfl⟩⟩ (by rw [ye];have:=Jnn (kvL l) (yp n) (V.int 0);unfold kvL at this;rw [ye] at this;unfold kvL;omega) (Jyf l _ _) (yo.mpr ⟨_,Jsj _ _ _,rfl⟩) (by omega) n4 (.inr ⟨rfl,.inl ?_⟩) (Juj hlog) (Jnd (Int.le_refl 0) (by decide));simp [Jmn];omega
    have e1:PyData.eqv (.int n) (.int 1)=decide (n=1):=by rw [PyData.eqv];rfl
    refine ⟨_,rfl,.int n,.int 1,.int n,.int 1,rfl,rfl,_,rfl,?_⟩;refine Srt (b:=PyData.eqv (.int n) (.int 1)) (λz=>?_) ?_
    ·rw [e1] at z;have z:=of_decide_eq_true z;refine ⟨_,rfl,_,_,rfl,rfl,_,rfl,Jq5 (by omega) ?_⟩;exact ⟨_,rfl,.inl ⟨D,_,rfl,g4,λo=>(fin o).elim λd sp=>k _ d _ (s4 o) sp⟩⟩
    ·exact ⟨_,rfl,.inl ⟨D,_,rfl,g4,λo=>(fin o).elim λd sp=>k _ d _ (s4 o) sp⟩⟩
   ·have raw:∀{Hx:Hp} {kvs:List (Key×V)} {o':Obj} {u:HO},Sl H Hx->(∀p∈kvs,p∈kvL l)->kvs.length<=19->RwD o' ((kvs.map λp=>(kV p.1,p.2))++ [(.bl true,.int 0)])->(D==sysModules)=false->Q (.ref D) (upd Hx D (.frz o' u)):=λsx hk hl rw_ ns=>
     (Jyo so Sr rw_ ns hk hl (by omega) n4 rfl Jyj).elim λd sp=>k _ d _ (λb u e=>by rw [Sx (Jm2 e hD)];exact sx _ _ e) sp
    by_cases c1:1 < (bs.length:Int)
    ·refine .inr (.inr ⟨_,gD,rfl,by rw [ye];exact Jmo (by omega),?_⟩);refine ⟨_,rfl,.bool true,.int 1,.bl true,.int 1,rfl,rfl,_,rfl,Yde (by rw [PyData.eqv];rfl) ⟨_,rfl,_,_,rfl,rfl,_,rfl,Jr6 c1 ?_⟩⟩;refine ⟨_,rfl,D,_,rfl,Sr,rfl,Sr,Yc6 _ _ _,λv=>?_⟩;refine ⟨_,rfl,D,rfl,.inr (.inl ⟨_,Sr,.tru (Jym so (by omega) (λp h=>(Jux h).2) λi i0 i1 ⟨p,hp,e⟩ z=>(Jux hp).1 (by rw [e,z])),λo' rw_ ns=>?_⟩)⟩;refine ⟨_,rfl,.inr (raw (λb u e=>by rw [Sx (Jm2 e hD),Sx (Jm2 e hD)];exact s03 _ _ e) (λp h=>(Jux h).2) ?_ rw_ ns)⟩;have z1:=Jz9 (Jnu (kvL l) (yp 1) (.int 0)) (yp 1);have z2:=Jnn (kvL l) (yp 1) (V.int 0);rw [ye] at z2;omega
    ·refine .inr (.inl ⟨_,gD,.tru (Jym so (by omega) (λp h=>h) λi i0 i1 _=>by omega),λo' rw_ ns=>?_⟩);exact ⟨_,rfl,.bool true,.int 1,.bl true,.int 1,rfl,rfl,_,rfl,Yde (by rw [PyData.eqv];rfl) ⟨_,rfl,_,_,rfl,rfl,_,rfl,Jq5 c1 ⟨_,rfl,.inr (raw s03 (λp h=>h) (by rw [ye];omega) rw_ ns)⟩⟩⟩
   ·refine .inl ⟨_,Sfo.k (k:=Sum.inr "0") gD (by rw [ye];exact Jmo (by omega)),?_⟩;refine ⟨_,rfl,.str "0",.int 1,.str "0",.int 1,by decide +kernel,rfl,_,rfl,Ye (by rw [PyData.eqv]) ⟨_,rfl,.inl ⟨D,_,rfl,Sr,λo=>?_⟩⟩⟩;refine (Jul (H:=upd (upd H3 D (.dK (Jnu (kvL l) (Sum.inr "0") (.int 0)))) D (.frz o (.dK (Jnu (kvL l) (Sum.inr "0") (.int 0))))) (k0:=.str "0") (v0:=.int 0) so ⟨_,Sr,.inr ⟨_,rfl,rfl⟩⟩ ?_ (Jyf l _ _) (yo.mpr ⟨_,Jsj _ _ _,rfl⟩) (by omega) n4 (.inr ⟨rfl,.inl rfl⟩) Yed (Jnd (Int.le_refl 0) (by decide))).elim λd sp=>k _ d _ (λb u e=>by rw [Sx (Jm2 e hD),Sx (Jm2 e hD)];exact s03 _ _ e) sp;rw [ye];have z2:=Jnn (kvL l) (Sum.inr "0") (V.int 0);rw [ye] at z2;omega
   ·refine .inr (.inl ⟨_,gD,.tup gt (Jym so (by omega) (λp h=>h) λ_ _ _ _=>trivial),λo' rw_ ns=>?_⟩);have gt4:upd H3 D (.frz o' (.ext λ_=>True)) t1=some (.tup [.int 0]):=by
     rw [Sx λz=>by rw [z,gD] at gt;cases gt];exact gt
    refine ⟨_,rfl,.tuple [.int 0],.int 1,.tup (SqT.of gt4) (.cons (.int 0) .nil),.int 1,rfl,rfl,_,rfl,Ye (by rw [PyData.eqv]) ⟨_,rfl,.inr ?_⟩⟩;exact (Jyo so Sr rw_ ns (λp h=>h) (by rw [ye];omega) (by omega) n4 rfl (Jyk gt4)).elim λd sp=>k _ d _ (λb u e=>by rw [Sx (Jm2 e hD)];exact s03 _ _ e) sp
   ·refine .inr (.inl ⟨_,gD,.non (Jym so (by omega) (λp h=>h) λ_ _ _ _=>trivial),λo' rw_ ns=>?_⟩);refine ⟨_,rfl,.none,.int 1,.non,.int 1,rfl,rfl,_,rfl,Ye (by rw [PyData.eqv]) ⟨_,rfl,.inr ?_⟩⟩;exact (Jyo so Sr rw_ ns (λp h=>h) (by rw [ye];omega) (by omega) n4 rfl Yb6).elim λd sp=>k _ d _ (λb u e=>by rw [Sx (Jm2 e hD)];exact s03 _ _ e) sp
  ·refine Jq5 (λz=>c0 (V.int.inj z)) ⟨_,rfl,_,_,rfl,rfl,by decide,rfl,_,rfl,?_⟩;by_cases c1:m%3=1
   ·refine Jr6 (congrArg V.int c1) ?_;obtain ⟨i,hi,ei⟩:∃i:Nat,i < bs.length/\m/24%(bs.length:Int)=i:=by
     have h0:=ycd (m/24) (show (bs.length:Int)≠0 by omega);have h1:=yce (m/24) m0;exact ⟨(m/24%(bs.length:Int)).toNat,by omega,by omega⟩
    obtain ⟨C,hC,t5,gv,e5,ht5,gt⟩:=btl.get (yh hi);obtain ⟨B,hB,ek⟩:=Juf lk hC;obtain ⟨tg,mk,eg,hm,nm,hg⟩:=gt;subst eg;have htg:∃g2,H tg=some (.tup ([.str C.G.kd,.ref mk]++g2)):=by
     rcases hg with ⟨_,q⟩|⟨j,m2,_,q,_⟩
     ·exact ⟨[],q⟩
     ·exact ⟨[.ref m2,.int j],q⟩
    obtain ⟨g2,htg⟩:=htg;rw [ei];refine ⟨_,rfl,_,rfl,t,_,2,_,rfl,rfl,SqT.of (s1 _ _ ht),rfl,_,rfl,lb,_,_,_,rfl,rfl,Sz.of (s1 _ _ hb),Jrj rfl (yh hi),?_⟩;rw [e5];refine ⟨t5,_,5,_,rfl,rfl,SqT.of (s1 _ _ ht5),rfl,tg,_,1,_,rfl,rfl,SqT.of (s1 _ _ htg),Jrj (j:=1) rfl rfl,mk,_,rfl,.inl (Sz.of (s1 _ _ hm)),?_⟩;rw [ye];refine ⟨(show 1<=S9 by decide),λq1 hq1 nq1=>?_⟩;have s2:=Sl.upd (o:=.lst [V.int 0]) hq1;have gq2:=Sr (H:=H1) (a:=q1) (o:=.lst [V.int 0]);have gD2:=s2 _ _ g1;generalize upd H1 q1 (.lst [V.int 0])=H2 at*;refine ⟨(show 1<=S9 by decide),λt1 ht1=>?_⟩;have s3:=Sl.upd (o:=.tup [V.int 0]) ht1;have gt3:=Sr (H:=H2) (a:=t1) (o:=.tup [V.int 0]);have gq3:=s3 _ _ gq2;have gD3:=s3 _ _ gD2;generalize upd H2 t1 (.tup [V.int 0])=H3 at*;refine ⟨_,_,rfl,rfl,⟨by decide,by decide,by decide⟩,(show 8<=S9 by decide),λL hL=>?_⟩;have s4:=Sl.upd (o:=.lst [V.int (-1),.int (G1 C.G).length,.bl true,.str "0",.non,.ref q1,.ref t1,.int (10^(30:Int).toNat)]) hL;have g4:=Sr (H:=H3) (a:=L) (o:=.lst [V.int (-1),.int (G1 C.G).length,.bl true,.str "0",.non,.ref q1,.ref t1,.int (10^(30:Int).toNat)]);have gt4:=s4 _ _ gt3;have gq4:=s4 _ _ gq3;have gD4:=s4 _ _ gD3;generalize upd H3 L (.lst [V.int (-1),.int (G1 C.G).length,.bl true,.str "0",.non,.ref q1,.ref t1,.int (10^(30:Int).toNat)])=H4 at*;have s04:Sl H H4:=((s1.trans s2).trans s3).trans s4;have eB:B.n=nOf C.G:=congrArg (·.2.2.2.2.2) ek;have gn:=Jxl C.G;have b4:=n4 B (yr hB);obtain ⟨y,e,hy,wy,sy⟩:∃y e,atI [V.int (-1),.int (G1 C.G).length,.bl true,.str "0",.non,.ref q1,.ref t1,.int (10^(30:Int).toNat)] (m/3%8)=some y/\Jmn y 0 ((B.n:Int) - 1)=false/\∀Hx:Hp,Hx q1=some (.lst [.int 0])->Hx t1=some (.tup [.int 0])->Shw K Hx y e:=by
     have cs:m/3%8=0\/m/3%8=1\/m/3%8=2\/m/3%8=3\/m/3%8=4\/m/3%8=5\/m/3%8=6\/m/3%8=7:=by omega
     rcases cs with e|e|e|e|e|e|e|e <;> rw [e]
     ·exact ⟨_,_,rfl,rfl,λ_ _ _=>Juj (by decide +kernel)⟩
     ·exact ⟨_,_,rfl,by simp [Jmn];omega,λ_ _ _=>Jnd (by omega) (by omega)⟩
     ·exact ⟨_,_,rfl,rfl,λ_ _ _=>Jyj⟩
     ·exact ⟨_,_,rfl,rfl,λ_ _ _=>Yed⟩
     ·exact ⟨_,_,rfl,rfl,λ_ _ _=>Yb6⟩
     ·exact ⟨_,_,rfl,rfl,λ_ h _=>Yb5 h nq1⟩
     ·exact ⟨_,_,rfl,rfl,λ_ _ h=>Jyk h⟩
     ·have big:(17:Int)<=10^(30:Int).toNat:=by decide +kernel
      exact ⟨_,_,rfl,by simp only [Jmn,Bool.and_eq_false_iff,decide_eq_false_iff_not];omega,λ_ _ _=>Juj (by decide +kernel)⟩
    refine ⟨_,rfl,_,_,rfl,rfl,⟨by decide,Jo6 (by decide)⟩,_,_,rfl,rfl,by decide,L,_,_,y,rfl,rfl,Sz.of g4,hy,?_⟩;refine ⟨_,rfl,_,rfl,D,rfl,.inl ⟨_,Sfo.k (k:=yp (i:Int)) gD4 (by rw [ye];exact Jmo (by omega)),?_⟩⟩;refine ⟨_,rfl,.inl ⟨D,_,rfl,Sr,λo=>?_⟩⟩;have ne1:q1≠D:=λz=>by rw [z,gD4] at gq4;cases gq4
    have ne2:t1≠D:=λz=>by rw [z,gD4] at gt4;cases gt4
    refine (Jul (H:=upd (upd H4 D (.dK (Jnu (kvL l) (yp (i:Int)) y))) D (.frz o (.dK (Jnu (kvL l) (yp (i:Int)) y)))) (k0:=.int i) (v0:=y) so ⟨_,Sr,.inr ⟨_,rfl,rfl⟩⟩ ?_ (Jyf l _ _) (yo.mpr ⟨_,Jsj _ _ _,rfl⟩) (by omega) n4 (.inr ⟨rfl,.inr ⟨i,B,rfl,by omega,hB,wy⟩⟩) (Jnd (by omega) (by omega)) (sy _ (by rw [Sx ne1,Sx ne1];exact gq4) (by rw [Sx ne2,Sx ne2];exact gt4))).elim λd sp=>k _ d _ (λb u e=>by rw [Sx (Jm2 e hD),Sx (Jm2 e hD)];exact s04 _ _ e) sp;rw [ye];have z2:=Jnn (kvL l) (yp (i:Int)) y;rw [ye] at z2;omega
   ·refine Jq5 (λz=>c1 (V.int.inj z)) ?_;refine ⟨(show 1<=S9 by decide),λq1 hq1 nq1=>?_⟩;have s2:=Sl.upd (o:=.lst [V.int 0]) hq1;have a2:=Sr (H:=H1) (a:=q1) (o:=.lst [V.int 0]);generalize upd H1 q1 (.lst [V.int 0])=H2 at*;refine ⟨(show 1<=S9 by decide),λt1 ht1=>?_⟩;have s3:=Sl.upd (o:=.tup [V.int 0]) ht1;have a3:=Sr (H:=H2) (a:=t1) (o:=.tup [V.int 0]);generalize upd H2 t1 (.tup [V.int 0])=H3 at*;refine ⟨(show 2<=S9 by decide),λt2 ht2=>?_⟩;have s4:=Sl.upd (o:=.tup [V.int 0,.int 0]) ht2;have a4:=Sr (H:=H3) (a:=t2) (o:=.tup [V.int 0,.int 0]);generalize upd H3 t2 (.tup [V.int 0,.int 0])=H4 at*;refine ⟨(show 1<=S9 by decide),λt3 ht3=>?_⟩;have s5:=Sl.upd (o:=.tup [V.ref t2]) ht3;have a5:=Sr (H:=H4) (a:=t3) (o:=.tup [V.ref t2]);generalize upd H4 t3 (.tup [V.ref t2])=H5 at*;refine ⟨(show 2<=S9 by decide),λt4 ht4=>?_⟩;have s6:=Sl.upd (o:=.tup [V.int 0,.int 0]) ht4;have a6:=Sr (H:=H5) (a:=t4) (o:=.tup [V.int 0,.int 0]);generalize upd H5 t4 (.tup [V.int 0,.int 0])=H6 at*;refine ⟨(show 1<=S9 by decide),λq5 hq5=>?_⟩;have s7:=Sl.upd (o:=.lst [V.ref t4]) hq5;have a7:=Sr (H:=H6) (a:=q5) (o:=.lst [V.ref t4]);generalize upd H6 q5 (.lst [V.ref t4])=H7 at*;refine ⟨(show 8<=S9 by decide),λL hL=>?_⟩;have s8:=Sl.upd (o:=.lst [V.ref q1,.ref t1,.str "0",.int 0,.bl true,.ref t3,.ref q5,.bl false]) hL;have a8:=Sr (H:=H7) (a:=L) (o:=.lst [V.ref q1,.ref t1,.str "0",.int 0,.bl true,.ref t3,.ref q5,.bl false]);generalize upd H7 L (.lst [V.ref q1,.ref t1,.str "0",.int 0,.bl true,.ref t3,.ref q5,.bl false])=H8 at*;have b7:=s8 _ _ a7;have b6:=s8 _ _ (s7 _ _ a6);have b5:=s8 _ _ (s7 _ _ (s6 _ _ a5));have b4:=s8 _ _ (s7 _ _ (s6 _ _ (s5 _ _ a4)));have b3:=s8 _ _ (s7 _ _ (s6 _ _ (s5 _ _ (s4 _ _ a3))));have b2:=s8 _ _ (s7 _ _ (s6 _ _ (s5 _ _ (s4 _ _ (s3 _ _ a2)))));have s08:Sl H H8:=((((((s1.trans s2).trans s3).trans s4).trans s5).trans s6).trans s7).trans s8;obtain ⟨y,hy,sy⟩:∃y,atI [V.ref q1,.ref t1,.str "0",.int 0,.bl true,.ref t3,.ref q5,.bl false] (m/3%8)=some y/\∃d,Spo K H8 S y d:=by
     have cs:m/3%8=0\/m/3%8=1\/m/3%8=2\/m/3%8=3\/m/3%8=4\/m/3%8=5\/m/3%8=6\/m/3%8=7:=by omega
     have r0:Rp (.int 0) 0 0:=Rp.int (by decide);have r2:Rp (.tuple [.int 0,.int 0]) 2 1:=(Rp.tup (b:=0) (t:=0) (all_cons r0 (all_cons r0 Joi))).mono (by decide) (by decide);rcases cs with e|e|e|e|e|e|e|e <;> rw [e]
     ·exact ⟨_,rfl,Jph (.of (.lst b2)) rfl (λz=>by cases z) (.lst (Sz.of b2) (.cons (.int 0) .nil)) (by decide +kernel) (Yb5 (K:=K) b2 nq1).rp⟩
     ·exact ⟨_,rfl,Jph (.of (.tup b3)) rfl (λz=>by cases z) (.tup (SqT.of b3) (.cons (.int 0) .nil)) (by decide +kernel) (Jyk (K:=K) b3).rp⟩
     ·exact ⟨_,rfl,Jph (.of (.str "0")) rfl (λz=>by cases z) (.str "0") (by decide +kernel) (Yed (K:=K) (H:=H)).rp⟩
     ·exact ⟨_,rfl,Jph (.of (.int 0)) rfl (λz=>by cases z) (.int 0) (by decide +kernel) (r0.mono (by decide) (by decide))⟩
     ·exact ⟨_,rfl,Jph (.of (.bl true)) rfl (λz=>by cases z) (.bl true) (by decide +kernel) ((Rp.bl true).mono (by decide) (by decide))⟩
     ·exact ⟨_,rfl,Jph (.of (.tup b5)) rfl (λz=>by cases z) (.tup (SqT.of b5) (.cons (.tup (SqT.of b4) (.cons (.int 0) (.cons (.int 0) .nil))) .nil)) (by decide +kernel) ((Rp.tup (b:=2) (t:=1) (all_cons r2 Joi)).mono (by decide) (by decide))⟩
     ·exact ⟨_,rfl,Jph (.of (.lst b7)) rfl (λz=>by cases z) (.lst (Sz.of b7) (.cons (.tup (SqT.of b6) (.cons (.int 0) (.cons (.int 0) .nil))) .nil)) (by decide +kernel) ((Rp.lst (b:=2) (t:=1) (all_cons r2 Joi)).mono (by decide) (by decide))⟩
     ·exact ⟨_,rfl,Jph (.of (.bl false)) rfl (λz=>by cases z) (.bl false) (by decide +kernel) ((Rp.bl false).mono (by decide) (by decide))⟩
    refine ⟨_,rfl,_,_,rfl,rfl,⟨by decide,Jo6 (by decide)⟩,_,_,rfl,rfl,by decide,L,_,_,y,rfl,rfl,Sz.of a8,hy,?_⟩;exact sy.elim λd sp=>⟨_,rfl,.inr (k _ d _ s08 sp)⟩
theorem Smc:bootBuiltins "abs" =some (.builtin "abs"):=by decide +kernel
noncomputable def hvZ (k:Nat):Str:=("w" :Str)++⟨#[("abcdefghijkl" :Str).cps.toList.getD k 0]⟩
noncomputable def hvB (k:Nat):Jo1:=⟨hvZ k,0,12,0,6,⟨"step",[0,1],none⟩⟩
noncomputable def HV:Jo4:=⟨12,12,(yaw 12).map hvB,[]⟩
theorem Sak:Jqb HV:=by
 refine ⟨⟨by decide,by decide⟩,⟨by decide,by decide⟩,⟨by decide,by decide⟩,λB hB=>?_,by decide +kernel,by decide,λB hB=>(by cases hB),ycb⟩;obtain ⟨k,hk,rfl⟩:=yo.mp hB;have hk:=ybu.mp hk;refine ⟨⟨⟨by show (0:Int)<=0;decide,by show (0:Int)<=12;decide⟩,⟨by show (0:Int)<=12;decide,by show (12:Int)<=12;decide⟩,⟨by show (0:Int)<=0;decide,by show (0:Int)<=12;decide⟩,⟨by show (0:Int)<=6;decide,by show (6:Int)<=6;decide⟩,⟨.inl rfl,(show Jpt (Jp9 "step") ([0,1].map V.int)=true by decide +kernel),λi e=>(by cases e)⟩⟩,?_,?_⟩
 ·exact (show ∀k < 12,Jpr (hvZ k)=true by decide +kernel) k hk
 ·have h:=(show ∀k < 12,(hvZ k).length<=8/\∀c∈(hvZ k).cps.toList,c∈LET.cps.toList by decide +kernel) k hk;exact ⟨h.1,h.2⟩
theorem Yab (y:Str) (d:PyData) (h:PyData.eqv d d=true):PyData.eqv (.tuple [.str y,d]) (.tuple [.str y,d])=true:=by simp [PyData.eqv,PyData.eqvAll,h]
theorem Yac {y:Str} {d:PyData} (hy:PyData.strOk y=true) (hd:PyData.canLay0 d=true) (dp:d.depth=0):SeqAt.shaped (.tuple [.str y,d])=true:=by
 unfold SeqAt.shaped;simp [PyData.canLay0,PyData.canLayAll0,PyData.depth,PyData.depthAll,hy,hd,dp]
theorem Sog {K:Sg} {H:Hp} {S:Riv} {D:S4} {o:Obj} {k0 v0:V} {d1 d2:PyData} (fz:FzD H D o [(k0,v0)]) (no:SetOf S k0 v0 false) (h1:Shw K H k0 d1) (h2:Shw K H v0 d2):Spo K H S (.ref D) (.dict [(d1,d2)]):=by
 have one:∀(i:Nat) (p:V×V) (c:Bool),[(k0,v0)][i]?=some p-> [false][i]?=some c->Tm K H p.1/\Tm K H p.2/\SetOf S p.1 p.2 c:=λi p c e1 e2=>by
  cases i with
  |zero=>cases e1;cases e2;exact ⟨h1.tm,h2.tm,no⟩
  |succ i=>cases e1
 exact ⟨.inr (.inr ⟨D,o,_,[false],rfl,fz,(show 1<=100 by decide),rfl,one,rfl⟩),.inr ⟨D,_,_,rfl,.inl ⟨o,fz⟩,.cons ⟨h1.sv,h2.sv⟩ .nil,rfl⟩,Yaw (all_cons ⟨h1.ok,h2.ok⟩ Joi),_,(Rp.dic (b:=40) (t:=10) (all_cons ⟨h1.rp,h2.rp⟩ Joi)).mono (yg _) (by decide),(show 82*1<=8000 by decide)⟩
theorem Ydb {S:Riv} (lk:Jr5 HV S):S.Bs.length=12/\∃B,S.Bs[0]?=some B/\B.n=2:=by
 have hl:=Jqf lk;obtain ⟨B,hB,ek⟩:=Juf lk (i:=0) (C:=hvB 0) rfl;exact ⟨hl.trans (by decide),B,hB,(congrArg (·.2.2.2.2.2) ek:B.n=nOf (hvB 0).G)⟩
noncomputable def hvW:Int:=Joo (HV.Bs.map λB=>(Jps B).2.2.1 - (Jps B).2.1+1)*13*(Joo (HV.Bs.map λB=>((Jps B).2.2.2.2.2:Int))*1)*rrF 12 (HV.Bs.map λB=>(Jps B).2.2.2.2.1.toNat)
theorem Yao:4000 < hvW:=by decide +kernel
theorem Jza {S:Riv} {sk:Option (List (Int×Int))} (lk:Jr5 HV S) (h:sk.getD []= []):wgN S sk=hvW:=by
 have e1:S.Bs.map lvN=HV.Bs.map λB=>(Jps B).2.2.1 - (Jps B).2.1+1:=Js9 lk λk=>k.2.2.1 - k.2.1+1;have e2:(Jnv S sk).map (λr=>(r.length:Int))=HV.Bs.map λB=>((Jps B).2.2.2.2.2:Int):=by
  unfold Jnv;rw [h,List.foldl_nil,yas];have e:=Js9 lk λk=>(k.2.2.2.2.2:Int);refine Eq.trans (List.map_congr_left λB _=>?_) e;show ((rgI B.n).length:Int)=_;rw [Joc];rfl
 have e3:S.Bs.map (λB=>B.rn.toNat)=HV.Bs.map λB=>(Jps B).2.2.2.2.1.toNat:=Js9 lk λk=>k.2.2.2.2.1.toNat;have e4:S.Ts.length=0:=by have:=congrArg List.length lk.Ts;rw [ye,ye] at this;exact this
 have ec:S.c=12:=lk.c;unfold wgN stN chN;rw [Sl4,e1,e2,e3,e4,ec];rfl
theorem Yap {S:Riv} (lk:Jr5 HV S):Y0 S:=by
 refine ⟨by rw [(Ydb lk).1];exact yg _,λB hB=>?_,by rw [lk.c];exact ⟨by decide,by decide⟩⟩;obtain ⟨C,hC,e⟩:=Jsa lk hB;obtain ⟨k,_,rfl⟩:=yo.mp hC;have e1:B.lo=0:=congrArg (·.2.1) e;have e2:B.hi=12:=congrArg (·.2.2.1) e;unfold lvN;rw [e1,e2];decide
noncomputable def hvS:Riv:=⟨12,12,HV.Bs.map λC=>⟨C.z,C.lo,C.hi,C.st,C.rn,.non,nOf C.G⟩,[]⟩
theorem Jv1:Jr5 HV hvS:=⟨rfl,rfl,by unfold hvS;dsimp only;rw [yas];rfl,rfl⟩
theorem Yf8 {p:S4} {H:Hp}:∀{vs:List V} {Bs:List Jo1},vs.length=Bs.length->(∀(i:Nat) v B,vs[i]?=some v->Bs[i]?=some B->Scg p H v B)->BTL p H vs Bs:=by
 intro vs
 induction vs with
 |nil=>intro Bs h _;cases Bs with|nil=>exact trivial|cons _ _=>cases h
 |cons v vs ih=>
  intro Bs h k;cases Bs with
  |nil=>cases h
  |cons B Bs=>exact ⟨k 0 v B rfl rfl,ih (Nat.succ.inj h) λi v B e1 e2=>k (i+1) v B e1 e2⟩
theorem Yf9 (ns:List Int) (lo hi:Option Int):∃cs:List Int,Jpp (ns.map V.int) lo hi=cs.map V.int/\cs.length<=ns.length:=by
 unfold Jpp;refine ⟨(ns.drop (HT.sIx ns.length 0 lo)).take (HT.sIx ns.length ns.length hi - HT.sIx ns.length 0 lo),?_,?_⟩
 ·rw [ye,List.map_take,List.map_drop]
 ·rw [yaf,ybq];omega
inductive spLaw (K:Sg) (vs:List V) (H:Hp) (Q:VK) (z3:XK):Prop where
 |mk (a:S4) (ns:List Int) (_:vs= [.ref a]) (_:Sz K H a (ns.map V.int)) (_:ns.length<=63) (_:∀H',Q (.bl true) H')
theorem Sbs:Jm6 ["_law_script","_law_told","_law_river_here","_law_gates","_law_heavy","_law_cell_here","_law_stuck_here","_law_spoilt_here","_law_kept","_law_way","_law_thing","_law_due"] ["_law_script"] (Jm5 (top 96)):=%[|0]
theorem ok_law (T:Tx K mg a):Sv P w K mg base CX0 15 a.a_law a.d_law ["_law_script"] (spLaw K):=by
 have Se7:=%[Jzi|1];have Sfr:=%[Jy5|1];have Sbn:=%[Jzj|1];have Sfs:=%[Jy6|1];have Sey:=%[Jwc|1];have Sa9:=%[Jve|1];have Sez:=%[Jwd|1];refine %[T.f_law.fn.ok,Sbs|2]
 ·obtain ⟨x,ns,rfl,_⟩:=h;rfl
 ·obtain ⟨x,ns,rfl,sq,n63,k⟩:=h;have hu64:=Jqy hr;have hgd:=hr.gd;refine ⟨?t,?B,?C⟩
  case B=>
   refine' Jlz ?O0 ?O1
   case O0=>exact (Jmb (i:=1) Sbs.nd rfl (yf rfl) (Jm4 T.Ja4 Sfr hr (by decide) (Sm (Jm4 T.Jx Se7 hr (by decide) (Sm (pv 0) (Sm Su So))) So)))
   case O1=>
   refine' Jlz ?O2 ?O3
   case O2=>exact (Jmb (i:=2) Sbs.nd rfl (yf rfl) (Jm4 T.Ja6 Sbn hr (by decide) (Sm (pv 1) So)))
   case O3=>
   refine' Jlz ?O4 ?O5
   case O4=>exact (Jsi (i:=3) (N:=(["_law_k"]:List Str)) (ini:=[none]) Sbs.nd rfl (yf rfl) rfl (Jns (by rfl) T.Jay (Sm Su So)) (λ_ _ _ _ _=>(Jm7 (i:=0) (by decide +kernel:(["_law_k"]:List Str).Nodup) rfl (yf rfl))) (λ_ _ _ _ _=>Jmq) (λ_ _ _ _ _=>(Jmz (pa6 (Jm9 Ys Jnl (Jmf Yg Jnl (pv 0) (λ_ _=>rfl))) Su Su Su Su (Jmz (Sm Jnl (Sm (Jmy (Sm Su (Sm Su So))) So)))))))
   case O5=>
   refine' Jlz ?O6 ?O7
   case O6=>exact (Jmb (i:=4) Sbs.nd rfl (yf rfl) (Jmz (pa4 Su Su (pv 3) (Jmy So))))
   case O7=>
   refine' Jlz ?O8 ?O9
   case O8=>
    refine' Jnq ?Oa ?Ob ?Oc ?Od ?Oe
    case Oa=>exact PassesOwn.never
    case Ob=>exact rfl
    case Oc=>exact (Jn0 (Jm9 Jte (Jov Juk (pv 0) (Jon Su) (Jon Su)) (Jmy (Sm (Jm4 T.Jx Se7 hr (by decide) (Sm (pv 0) (Sm Su So))) So))))
    case Od=>exact (Jm7 (i:=5) Sbs.nd rfl (yf rfl))
    case Oe=>
    refine' Jlz ?Of ?Og
    case Of=>exact (Jmb (i:=6) Sbs.nd rfl (yf rfl) (Jm4 T.Ja8 Sfs hr (by decide) (Sm (Jm8 Yct (by rfl) T.Jan Smc (Sm (pv 5) So)) (Sm (pv 1) So))))
    case Og=>
    refine' Jlz ?Oh ?Oi
    case Oh=>exact (Jmb (i:=7) Sbs.nd rfl (yf rfl) (Jm4 T.Ja9 Sey hr (by decide) (Sm (pv 1) (Sm (pv 6) (Sm (pv 5) So)))))
    case Oi=>
    refine' Jlz ?Oj ?Ok
    case Oj=>exact (Jmb (i:=8) Sbs.nd rfl (yf rfl) (Jm8 (Jpu hgd hu64) (by rfl) T.Jaz Jua (Sm (pv 7) So)))
    case Ok=>
    refine' Jlz ?Ol ?Om
    case Ol=>
     refine' Jnq ?On ?Oo ?Op ?Oq ?Or
     case On=>exact PassesOwn.never
     case Oo=>exact rfl
     case Op=>exact (Jns (by rfl) T.Jay (Sm Su So))
     case Oq=>exact (Jm7 (i:=9) Sbs.nd rfl (yf rfl))
     case Or=>
     refine' Jm1 ?Os
     case Os=>
     refine' Jmr ?Ot ?Ou ?Ov
     case Ot=>exact (PW.pt (Jxg (Jmm (Jy8 hu64) (Jm4 T.Jaa Sa9 hr (by decide) (Sm (pv 2) (Sm (pv 7) (Sm (pv 9) So)))) (Jmz (Sm Jnl (Sm (pv 8) So))) (Jmp _)) (Jtg (Jmm Ss1 (Jm8 (Jpu hgd hu64) (by rfl) T.Jaz Jua (Sm (pv 7) So)) (pv 8) (Jmp _)))))
     case Ou=>
      refine' Jm1 ?Ow
      case Ow=>exact (Jma Jny)
     case Ov=>exact Jme
    case Om=>
    refine' Jlz ?Ox ?Oy
    case Ox=>
     refine' Jmr ?Oz ?U0 ?U1
     case Oz=>exact (PW.pt (Jxg (Jmm Jy9 (Jm4 T.Jaa Sa9 hr (by decide) (Sm (pv 2) (Sm (pv 6) (Sm Su So)))) Jnt (Jmp _)) (Jtg (Jmm Jy9 (Jm4 T.Jaa Sa9 hr (by decide) (Sm (pv 2) (Sm (pv 6) (Sm Su So)))) Jnt (Jmp _)))))
     case U0=>
      refine' Jm1 ?U2
      case U2=>exact (Jma Jny)
     case U1=>exact Jme
    case Oy=>
    refine' Jm1 ?U3
    case U3=>
    refine' Jnq ?U4 ?U5 ?U6 ?U7 ?U8
    case U4=>exact PassesOwn.never
    case U5=>exact rfl
    case U6=>
     refine' Jn0 ?U9
     case U9=>
     refine' Jmy ?Ua
     case Ua=>
     refine' pa4 ?Ub ?Uc ?Ud ?Ue
     case Ub=>exact (Jvo (Yay (Jvs Su Su Jyd) rfl rfl (by simp) (by simp)))
     case Uc=>exact (Jvo (Yay (Jvs Su Su Jyd) rfl rfl (by simp) (by simp)))
     case Ud=>exact (Jmy So)
     case Ue=>exact (Ydo Jny Su)
    case U7=>exact (Jm7 (i:=10) Sbs.nd rfl (yf rfl))
    case U8=>
    refine' Jm1 ?Uf
    case Uf=>
    refine' Jmr ?Ug ?Uh ?Ui
    case Ug=>exact (Jmm (Jy8 hu64) (Jm4 T.Jaa Sa9 hr (by decide) (Sm (Jm4 T.Ja6 Sbn hr (by decide) (Sm (pv 4) So)) (Sm (pv 10) (Sm (Jm9 Jo3 (pv 5) Su) So)))) (Jmz (Sm Jnl (Sm (Jm8 (Jpu hgd hu64) (by rfl) T.Jaz Jua (Sm (pv 10) So)) So))) (Jmp _))
    case Uh=>
     refine' Jm1 ?Uj
     case Uj=>exact (Jma Jny)
    case Ui=>exact Jme
   case O9=>
   refine' Jlz ?Uk ?Ul
   case Uk=>exact (Jmb (i:=11) Sbs.nd rfl (yf rfl) (Jmz (Sm Jnl (Sm (Jm4 T.Ja7 Sez hr (by decide) (Sm (pv 4) (Sm (Jvo Jvn) So))) So))))
   case Ul=>
   refine' Jlz ?Um ?Un
   case Um=>
    refine' Jmr ?Uo ?Up ?Uq
    case Uo=>exact (PW.pt (Jxg (Jmm (Jy8 hu64) (Jm4 T.Jaa Sa9 hr (by decide) (Sm (Jm4 T.Ja6 Sbn hr (by decide) (Sm (pv 4) So)) (Sm Jnt (Sm Su So)))) (pv 11) (Jmp _)) (Jtg (Jmm (Jy8 hu64) (Jm4 T.Jaa Sa9 hr (by decide) (Sm (Jm4 T.Ja6 Sbn hr (by decide) (Sm (pv 4) So)) (Sm (Jvo Jvn) (Sm Su So)))) (pv 11) (Jmp _)))))
    case Up=>
     refine' Jm1 ?Ur
     case Ur=>exact (Jma Jny)
    case Uq=>exact Jme
   case Un=>
   refine' Jm1 ?Us
   case Us=>exact (Jma (Yu (Jq0 Jvj (Jm4 T.Jaa Sa9 hr (by decide) (Sm (Jm4 T.Ja6 Sbn hr (by decide) (Sm (pv 4) So)) (Sm Jnt (Sm Su So)))) Jnt (Jmp _)) (Yw (Jq0 Jvj (Jm4 T.Jaa Sa9 hr (by decide) (Sm (pv 2) (Sm Jnt (Sm Su So)))) Jnt (Jmp _)))))
  refine ⟨_,rfl,x,ns,0,rfl,sq,λn0=>⟨n0,rfl,λtv R p H1 hp s1 st rt rg lg=>?_⟩⟩;obtain ⟨t,lb,lt,bs,ts,rfl,ht,_⟩:=id rt;refine ⟨_,rfl,p,.ref t,R,rfl,rt,rg,λo S H2 s2 ro lk gx=>?_⟩;have s02:=s1.trans s2;have rt2:=rt.same rg s2;have rv:=Snj ro lk rg gx;refine ⟨_,rfl,by decide,by decide,λD hD=>?_⟩;refine Jqx (λH v B=>Scg D H v B) HV.Bs (λH H' v B f h=>?_) hD (by decide) (by decide) ?_ ?_
  ·obtain ⟨t,g,e,h1,h2⟩:=h;exact ⟨t,g,e,f _ _ (.inr λ_ z=>by cases z) h1,h2.on (λb o e c=>f b o (c.elim .inl .inr) e) λ_ _ _ n=>n⟩
  ·rintro i y H' Q' hy sm ⟨ds,hDs⟩ k';have hi:i < 12:=by
    have:=(yi.mp hy).1;exact this
   have ey:y=hvB i:=by
    have e:HV.Bs[i]?=some (hvB i):=by
     show ((yaw 12).map hvB)[i]?=_;rw [ym,ycj hi];rfl
    rw [e] at hy;exact (yac.inj hy).symm
   subst ey;rw [Int.zero_add];have hz:=(show ∀i:Nat,i < 12->atI ("abcdefghijkl" :Str).cps.toList (i:Int)=some (("abcdefghijkl" :Str).cps.toList.getD i 0) by decide +kernel) i hi;refine ⟨_,rfl,_,_,_,rfl,rfl,by decide +kernel,hz,_,_,rfl,rfl,Jn4 _ (by show 1+1<=2000;decide),?_⟩;refine ⟨(show 2<=S9 by decide),λm hm=>⟨(show 2<=S9 by decide),λtg htg=>⟨(show 6<=S9 by decide),λt5 ht5=>?_⟩⟩⟩;have z1:=Sl.upd (o:=.lst [V.int 0,.int 1]) hm;have z2:=Sl.upd (o:=.tup [V.str "step",.ref m]) htg;have z3:=Sl.upd (o:=.tup [V.str (hvZ i),.int 0,.int 12,.int 0,.int 6,.ref tg]) ht5;refine k' _ _ ((z1.trans z2).trans z3) ⟨t5,.ref tg,rfl,Sr,tg,m,rfl,z3 _ _ (z2 _ _ Sr),λz=>?_,.inl ⟨rfl,z3 _ _ Sr⟩⟩;rw [z,hDs] at hm;cases hm
  intro gs H3 s3 hDg rg3;refine ⟨_,rfl,(show 0<=S9 by decide),λle hle=>⟨(show 4<=S9 by decide),λth hth=>?_⟩⟩;have s4:=Sl.upd (o:=.lst []) hle;have hv4:BTL th (upd H3 le (.lst [])) gs HV.Bs:=Yf8 rg3.1 λi v B e1 e2=>((rg3.2 i v B e1 e2).same s4).move hth;have s5:=Sl.upd (o:=.tup [V.int 12,.int 12,.ref D,.ref le]) hth;have rtv:Sfb th (upd (upd H3 le (.lst [])) th (.tup [V.int 12,.int 12,.ref D,.ref le])) (.ref th) HV:=⟨th,D,le,gs,[],rfl,Sr,s5 _ _ (s4 _ _ hDg),hv4.map (λ_ _ _ h=>h.same s5) λB hB=>(Sak.Bs B hB).1,s5 _ _ Sr,trivial,(λz=>by rw [<-z,s4 _ _ hDg] at hth;cases hth),(λz=>by rw [<-z,Sr] at hth;cases hth)⟩;have s25:Sl H2 (upd (upd H3 le (.lst [])) th (.tup [V.int 12,.int 12,.ref D,.ref le])):=(s3.trans s4).trans s5;generalize upd (upd H3 le (.lst [])) th (.tup [V.int 12,.int 12,.ref D,.ref le])=H5 at*;have s05:=s02.trans s25;obtain ⟨cs,ecs,lcs⟩:=Yf9 ns (some 1) (some 30);refine ⟨_,rfl,_,rfl,_,rfl,x,_,rfl,Jvy s05 sq,λq1 hq1=>?_⟩;rw [ecs];have s6:=Sl.upd (o:=.lst (cs.map V.int)) hq1;refine ⟨_,rfl,x,ns,1,rfl,Jvy (s05.trans s6) sq,λn1=>⟨(show 1<=S9 by decide),λq2 hq2=>?_⟩⟩;have s7:=Sl.upd (o:=.lst [V.int n1]) hq2;refine ⟨q1,q2,_,_,rfl,rfl,s7 _ _ Sr,Sr,Jn4 _ (by rw [ye];show _+1<=2000;omega),λq3 hq3=>?_⟩;have s8:=Sl.upd (o:=.lst (cs.map V.int++ [V.int n1])) hq3;have g8:=Sr (H:=upd (upd H5 q1 (.lst (cs.map V.int))) q2 (.lst [V.int n1])) (a:=q3) (o:=.lst (cs.map V.int++ [V.int n1]));have s58:=(s6.trans s7).trans s8;generalize upd (upd (upd H5 q1 (.lst (cs.map V.int))) q2 (.lst [V.int n1])) q3 (.lst (cs.map V.int++ [V.int n1]))=H8 at*;have e8:cs.map V.int++ [V.int n1]=(cs++ [n1]).map V.int:=by rw [yaj];rfl
  rw [e8] at g8;generalize cs++ [n1]=ms at*;refine ⟨q3,rfl,⟨_,Sz.of g8⟩,?_⟩;refine Joj (xs:=ms.map V.int) (λi σ H'=>∃o5 o6 o7 o8 o9 o10 o11,σ= [some (.ref x),some (.ref t),some (.ref o),some (.ref D),some (.ref th),o5,o6,o7,o8,o9,o10,o11]/\Sl H8 H') ⟨_,_,_,_,_,_,_,rfl,Sl.refl _⟩ (λi σ H' _ ⟨_,_,_,_,_,_,_,_,sm⟩=>Sz.of (sm _ _ g8)) ?_ ?_
  ·rintro i y σ H' hy ⟨o5,o6,o7,o8,o9,o10,o11,rfl,sm⟩;rw [ym] at hy;obtain ⟨c,_,rfl⟩:=ybc.mp hy;have s2':=(s25.trans s58).trans sm;have rtv':=(rtv.same Sak s58).same Sak sm;have rt':=rt2.same rg s2';have rv':=rv.same s2';refine ⟨_,rfl,c,rfl,_,rfl,_,p,.ref t,R,rfl,rt',rg,λsx l Ha sa1 sa sk ln fr=>?_⟩;have so:Jpi S (some l):=Ssh lk rg sk ln;refine ⟨_,rfl,_,rfl,_,rfl,p,.ref t,sx,c,R,S,l,rfl,rt'.same rg sa1,rg,lk,sa,so,ln,λxs d Hb sb sp=>?_⟩;obtain ⟨b,rp,hb⟩:=sp.rp;refine ⟨_,rfl,xs,d,b,rfl,sp.sh,rp,hb,?_⟩;have s2b:=(s2'.trans sa1).trans sb;have shp:=Yac (y:="stuck") (d:=.str d.shown) (by decide +kernel) (by simp only [PyData.canLay0];exact sp.ok) (by simp [PyData.depth]);refine ⟨_,rfl,by decide,by decide,?_⟩;refine Jx1 (λi σ H'=>∃o9 o10 o11,σ= [some (.ref x),some (.ref t),some (.ref o),some (.ref D),some (.ref th),some (.int c),some sx,some xs,some (.str d.shown),o9,o10,o11]/\Sl Hb H') ⟨_,_,_,rfl,Sl.refl _⟩ ?_ ?_
   ·rintro w σ H' hw ⟨o9,o10,o11,rfl,smw⟩;refine ⟨_,rfl,_,rfl,_,rfl,o,xs,_,rfl,.stuck S d b (rv.ro.same (s2b.trans smw)) (sp.no.same smw) (ShD.same smw sp.sh) rp hb λt1 H5 s5 g5=>?_⟩;refine ⟨_,rfl,(show 2<=S9 by decide),λt2 ht2=>?_⟩;have s6:=Sl.upd (o:=.tup [V.str "stuck",.str d.shown]) ht2;refine ⟨.tuple [.str "stuck",.str d.shown],.tuple [.str "stuck",.str d.shown],.tup (SqT.of (s6 _ _ g5)) (.cons (.str _) (.cons (.str _) .nil)),.tup (SqT.of Sr) (.cons (.str _) (.cons (.str _) .nil)),shp,shp,_,rfl,?_⟩;rw [if_pos rfl,Yab _ _ (by simp [PyData.eqv])];refine Jn9 ⟨_,rfl,xs,d,b,rfl,ShD.same (smw.trans (s5.trans s6)) sp.sh,rp,hb,_,rfl,rfl,_,rfl,?_⟩;exact ifF (by rw [decide_eq_true rfl];rfl) ⟨_,_,_,rfl,smw.trans (s5.trans s6)⟩
   ·rintro σ H' ⟨o9,o10,o11,rfl,smw⟩;have lgl:=Jzc (sk:=some l) lg rg lk;have s4:=lgl.s4;have wo:Y0 S:=⟨by have:=s4.n4;omega,λB hB=>⟨by have:=(s4.lv B hB).1;omega,(s4.lv B hB).1.2⟩,s4.c⟩;have s2w:=s2b.trans smw;have saw:=(sa.same sb).same smw;refine ⟨_,rfl,_,rfl,o,sx,0,rfl,.row S _ (some l) rfl ⟨rv.same s2w,saw,so,s4,lgl.wg,lgl.st⟩ λHc sc=>?_⟩;refine ⟨rfl,_,rfl,Jn9 ?_⟩;have s2c:=s2w.trans sc;refine ⟨_,rfl,_,rfl,o,sx,1,rfl,.wgh S (some l) rfl (rv.same s2c).ro (saw.same sc) so wo λHd sd=>⟨rfl,_,rfl,Jn9 ?_⟩⟩;have s2d:=s2c.trans sd;have s8d:=(((((sm.trans sa1).trans sb).trans smw).trans sc).trans sd);have rtd:=rtv'.same Sak ((((sa1.trans sb).trans smw).trans sc).trans sd);clear rtv' rt' rv' saw;refine λD1 hD1=>⟨Sr,[(yp 12,V.int 0)],rfl,by decide,D1,_,rfl,Sr,λo1=>?_⟩;have z1:Sl Hd (upd (upd (upd Hd D1 (.dK [])) D1 (.dK (Jnw [] [(yp 12,V.int 0)]))) D1 (.frz o1 (.dK (Jnw [] [(yp 12,V.int 0)])))):=λb u e=>by rw [Sx (Jm2 e hD1),Sx (Jm2 e hD1),Sx (Jm2 e hD1)];exact e
    have f1:=Sr (H:=upd (upd Hd D1 (.dK [])) D1 (.dK (Jnw [] [(yp 12,V.int 0)]))) (a:=D1) (o:=.frz o1 (.dK (Jnw [] [(yp 12,V.int 0)])));generalize upd (upd (upd Hd D1 (.dK [])) D1 (.dK (Jnw [] [(yp 12,V.int 0)]))) D1 (.frz o1 (.dK (Jnw [] [(yp 12,V.int 0)])))=He at*;refine λD2 hD2=>⟨Sr,[(yp 0,V.int 2)],rfl,by decide,D2,_,rfl,Sr,λo2=>?_⟩;have z2:Sl He (upd (upd (upd He D2 (.dK [])) D2 (.dK (Jnw [] [(yp 0,V.int 2)]))) D2 (.frz o2 (.dK (Jnw [] [(yp 0,V.int 2)])))):=λb u e=>by rw [Sx (Jm2 e hD2),Sx (Jm2 e hD2),Sx (Jm2 e hD2)];exact e
    have f2:=Sr (H:=upd (upd He D2 (.dK [])) D2 (.dK (Jnw [] [(yp 0,V.int 2)]))) (a:=D2) (o:=.frz o2 (.dK (Jnw [] [(yp 0,V.int 2)])));generalize upd (upd (upd He D2 (.dK [])) D2 (.dK (Jnw [] [(yp 0,V.int 2)]))) D2 (.frz o2 (.dK (Jnw [] [(yp 0,V.int 2)])))=Hf at*;refine ⟨(show 0<=S9 by decide),λL3 hL3=>?_⟩;have z3:=Sl.upd (o:=.lst []) hL3;have f3:=Sr (H:=Hf) (a:=L3) (o:=.lst []);generalize upd Hf L3 (.lst [])=Hg at*;refine λD4 hD4=>⟨_,rfl,Sr,λo4 rw4 ns4=>?_⟩;have z4:Sl Hg (upd (upd Hg D4 (.dK [])) D4 (.frz o4 (.ext λ_=>True))):=λb u e=>by rw [Sx (Jm2 e hD4),Sx (Jm2 e hD4)];exact e
    have f4:=Sr (H:=upd Hg D4 (.dK [])) (a:=D4) (o:=.frz o4 (.ext λ_=>True));generalize upd (upd Hg D4 (.dK [])) D4 (.frz o4 (.ext λ_=>True))=Hh at*;refine ⟨(show 4<=S9 by decide),λL5 hL5=>?_⟩;have z5:=Sl.upd (o:=.lst [V.ref D1,.ref D2,.ref L3,.ref D4]) hL5;have f5:=Sr (H:=Hh) (a:=L5) (o:=.lst [V.ref D1,.ref D2,.ref L3,.ref D4]);generalize upd Hh L5 (.lst [V.ref D1,.ref D2,.ref L3,.ref D4])=Hi at*;have zz:=((((z1.trans z2).trans z3).trans z4).trans z5);have all:∀y∈ [V.ref D1,.ref D2,.ref L3,.ref D4],∃d,∀S',Jr5 HV S'->Spo K Hi S' y d:=by
     refine all_cons ⟨.dict [(.int 12,.int 0)],λS' lk'=>?_⟩ (all_cons ⟨.dict [(.int 0,.int 2)],λS' lk'=>?_⟩ (all_cons ⟨.list [],λS' lk'=>?_⟩ (all_cons ⟨.dict [(.bool true,.int 0)],λS' lk'=>?_⟩ Joi)))
     ·obtain ⟨h12,_⟩:=Ydb lk';exact Sog (k0:=.int 12) (v0:=.int 0) ⟨_,z5 _ _ (z4 _ _ (z3 _ _ (z2 _ _ f1))),.inr ⟨_,rfl,rfl⟩⟩ (.inr ⟨rfl,.inl (by rw [h12];rfl)⟩) (Jnd (by decide) (by decide)) (Jnd (by decide) (by decide))
     ·obtain ⟨h12,B,hB,hn⟩:=Ydb lk';exact Sog (k0:=.int 0) (v0:=.int 2) ⟨_,z5 _ _ (z4 _ _ (z3 _ _ f2)),.inr ⟨_,rfl,rfl⟩⟩ (.inr ⟨rfl,.inr ⟨0,B,rfl,by decide,hB,by rw [hn];rfl⟩⟩) (Jnd (by decide) (by decide)) (Jnd (by decide) (by decide))
     ·have g:=z5 _ _ (z4 _ _ f3);exact ⟨.inr (.inl ⟨_,.of (.lst g),rfl,(λz=>by cases z),rfl⟩),.inl (.inl (.lst (Sz.of g) .nil)),by decide +kernel,0,(Rp.lst (b:=0) (t:=0) Joi).mono (by decide) (by decide),by decide⟩
     ·exact Sog (k0:=.bl true) (v0:=.int 0) ⟨_,z5 _ _ f4,.inl ⟨rw4,ns4⟩⟩ (.inr ⟨rfl,.inl rfl⟩) Jyj (Jnd (by decide) (by decide))
    refine ⟨L5,rfl,⟨_,Sz.of f5⟩,?_⟩;refine Joj (xs:=[V.ref D1,.ref D2,.ref L3,.ref D4]) (λi σ H'=>∃o9 o10 o11,σ= [some (.ref x),some (.ref t),some (.ref o),some (.ref D),some (.ref th),some (.int c),some sx,some xs,some (.str d.shown),o9,o10,o11]/\Sl Hi H') ⟨_,_,_,rfl,Sl.refl _⟩ (λi σ H' _ ⟨_,_,_,_,sm⟩=>Sz.of (sm _ _ f5)) ?_ ?_
    ·rintro i y σ H' hy ⟨o9,o10,o11,rfl,smi⟩;obtain ⟨dy,spy⟩:=all y (yr hy);refine ⟨_,rfl,th,.ref th,HV,rfl,(rtd.same Sak zz).same Sak smi,Sak,λo' S' Hj sj ro' lk' gx'=>?_⟩;have sp':=(spy S' lk').same (smi.trans sj);obtain ⟨by_,rpy,hby⟩:=sp'.rp;refine ⟨_,rfl,_,rfl,_,_,rfl,rfl,by decide,o',y,_,rfl,.stuck S' dy by_ ro' sp'.no sp'.sh rpy hby λt1 Hk sk1 g1=>?_⟩;refine ⟨_,rfl,y,dy,by_,rfl,ShD.same sk1 sp'.sh,rpy,hby,(show 2<=S9 by decide),λt2 ht2=>?_⟩;have shp':=Yac (y:="stuck") (d:=.str dy.shown) (by decide +kernel) (by simp only [PyData.canLay0];exact sp'.ok) (by simp [PyData.depth]);have s6:=Sl.upd (o:=.tup [V.str "stuck",.str dy.shown]) ht2;refine ⟨.tuple [.str "stuck",.str dy.shown],.tuple [.str "stuck",.str dy.shown],.tup (SqT.of (s6 _ _ g1)) (.cons (.str _) (.cons (.str _) .nil)),.tup (SqT.of Sr) (.cons (.str _) (.cons (.str _) .nil)),shp',shp',_,rfl,?_⟩;rw [if_pos rfl,Yab _ _ (by simp [PyData.eqv])];exact Jn9 ⟨_,_,_,rfl,((smi.trans sj).trans sk1).trans s6⟩
    ·rintro σ H' ⟨o9,o10,o11,rfl,smi⟩;exact ⟨_,_,_,_,_,_,_,rfl,((s8d.trans zz).trans smi)⟩
  ·rintro σ H' ⟨o5,o6,o7,o8,o9,o10,o11,rfl,sm⟩;have s2':=(s25.trans s58).trans sm;have rtv':=(rtv.same Sak s58).same Sak sm;have rv':=rv.same s2';refine ⟨_,rfl,λd hd=>⟨d,_,rfl,Sr,λod=>?_⟩⟩;have z1:Sl H' (upd (upd H' d (.dK [])) d (.frz od (.dK []))):=λb u e=>by rw [Sx (Jm2 e hd),Sx (Jm2 e hd)];exact e
   have f1:=Sr (H:=upd H' d (.dK [])) (a:=d) (o:=.frz od (.dK []));generalize upd (upd H' d (.dK [])) d (.frz od (.dK []))=Ha at*;refine ⟨th,.ref th,.ref d,HV,hvS,[],rfl,rtv'.same Sak z1,Sak,Jv1,Yap Jv1,⟨d,rfl,.inr ⟨od,f1⟩⟩,(λp hp=>by cases hp),λHb sb=>?_⟩;rw [Jza Jv1 rfl];refine ⟨(show 2<=S9 by decide),λtd htd=>?_⟩;have sT:=Sl.upd (o:=.tup [V.str "many",.int hvW]) htd;have gT:=Sr (H:=Hb) (a:=td) (o:=.tup [V.str "many",.int hvW]);generalize upd Hb td (.tup [V.str "many",.int hvW])=Hc at*;have zc:=(z1.trans sb).trans sT;have shm:=Yac (y:="many") (d:=.int hvW) (by decide +kernel) (by simp [PyData.canLay0]) (by simp [PyData.depth]);have eqm:=Yab "many" (.int hvW) (by simp [PyData.eqv]);have nsk:∀{S:Riv},Jpi S none:=λl e=>by cases e
   have esk:∀{S:Riv},Jpi S (some []):=λl e=>by cases e;exact ⟨by decide,ycb,λp hp=>by cases hp⟩
   have rtc:=rtv'.same Sak zc;refine ⟨_,rfl,th,.ref th,HV,rfl,rtc,Sak,λo1 S1 Hd sd ro1 lk1 gx1=>?_⟩;refine ⟨o1,.non,0,rfl,.many S1 none (by decide) ro1 rfl nsk (Yap lk1) (by rw [Jza lk1 rfl];exact Yao) λt1 He se g1=>?_⟩;rw [Jza lk1 rfl] at g1;refine ⟨_,rfl,.tuple [.str "many",.int hvW],.tuple [.str "many",.int hvW],.tup (SqT.of g1) (.cons (.str _) (.cons (.int _) .nil)),.tup (SqT.of (se _ _ (sd _ _ gT))) (.cons (.str _) (.cons (.int _) .nil)),shm,shm,_,rfl,?_⟩;rw [if_pos rfl,eqm];have sce:=sd.trans se;refine Jn9 ⟨_,rfl,th,.ref th,HV,rfl,rtc.same Sak sce,Sak,λo2 S2 Hf sf ro2 lk2 gx2=>?_⟩;refine λd2 hd2=>⟨d2,_,rfl,Sr,λod2=>?_⟩;have z2:Sl Hf (upd (upd Hf d2 (.dK [])) d2 (.frz od2 (.dK []))):=λb u e=>by rw [Sx (Jm2 e hd2),Sx (Jm2 e hd2)];exact e
   have f2:=Sr (H:=upd Hf d2 (.dK [])) (a:=d2) (o:=.frz od2 (.dK []));generalize upd (upd Hf d2 (.dK [])) d2 (.frz od2 (.dK []))=Hg at*;refine ⟨o2,.ref d2,2,rfl,.many S2 (some []) (by decide) (ro2.same z2) ⟨d2,od2,rfl,f2⟩ esk (Yap lk2) (by rw [Jza lk2 rfl];exact Yao) λt2 Hh sh g2=>?_⟩;rw [Jza lk2 rfl] at g2;have sch:=((sce.trans sf).trans z2).trans sh;refine ⟨_,rfl,.tuple [.str "many",.int hvW],.tuple [.str "many",.int hvW],.tup (SqT.of g2) (.cons (.str _) (.cons (.int _) .nil)),.tup (SqT.of (sch _ _ gT)) (.cons (.str _) (.cons (.int _) .nil)),shm,shm,_,rfl,?_⟩;rw [if_pos rfl,eqm];refine Jn9 ?_;refine ⟨_,rfl,th,.ref th,HV,rfl,rtc.same Sak sch,Sak,λo3 S3 Hi si ro3 lk3 gx3=>?_⟩;refine ⟨o3,.non,1,rfl,.wgh S3 none rfl ro3 rfl nsk (Yap lk3) λHj sj=>?_⟩;have lgn:=Jzc (sk:=none) lg rg lk;refine ⟨rfl,_,rfl,Jr6 rfl ?_⟩;refine ⟨_,rfl,o,.non,0,rfl,.row S _ none rfl ⟨rv'.same (((zc.trans sch).trans si).trans sj),rfl,nsk,lgn.s4,lgn.wg,lgn.st⟩ λHk sk=>⟨rfl,?_⟩⟩;rw [decide_eq_true rfl];exact k _
end
end K24
end
namespace PySem.W.Fast
def tw12122015927160558823:=()
def tw3542863453026211906:=()
def tw10641049682800570852:=()
def tw1989243049241677322:=()
def tw2013564994067659237:=()
def tw14838672942949928730:=()
def tw8574631516705165426:=()
def tw12172495450696646269:=()
def tw4373005607881215201:=()
def tw13963676275855188513:=()
def tw18186710338925638215:=()
def tw6417324185199814565:=()
def tw9270725800622693807:=()
def tw6497763536069159186:=()
def tw560641013157548649:=()
def tw1197734760688151361:=()
def tw15863422881143974553:=()
def tw14932606586674054578:=()
def tw12136943439788991851:=()
def tw16084425268346899879:=()
def tw18096473054501583396:=()
def tw1876373586395921074:=()
def tw15427740673279700297:=()
def tw13549666138042692824:=()
def tw3061299268436727847:=()
def tw16663011515931968691:=()
def tw7886155023245746718:=()
def tw5889991336497659308:=()
def tw475772503444044975:=()
def tw2695958389792942403:=()
def tw4971224860803973819:=()
def tw10204496467896012993:=()
def tw15806766774851859455:=()
def tw3482164931879529948:=()
def tw5871701006777643411:=()
def tw6042440717125004323:=()
def tw15564518626279772902:=()
def tw3653516396440566311:=()
def tw17697112944672860131:=()
def tw9239468410914339944:=()
def tw16007448204227772952:=()
def tw17689939044026966923:=()
def tw5547066766420776545:=()
def tw1997895162904450082:=()
def tw11321721897537403287:=()
def tw61715815267245820:=()
def tw17449755645875697644:=()
def tw7251658047973754440:=()
def tw10543596762535142359:=()
def tw6814446482305461300:=()
def tw7367242643746186435:=()
def tw15538351571400674914:=()
def tw15269678567225270725:=()
def tw18296448591262376466:=()
def tw5662289779268402341:=()
def tw5650632910789285903:=()
def tw14410946143539434087:=()
def tw11116225440941988430:=()
def tw2400766739933430669:=()
def tw11886378463228651937:=()
def tw6891958171315160439:=()
def tw5197313662017624930:=()
def tw12566768483503606322:=()
def tw14511080479485399409:=()
def tw9010369804737566337:=()
def tw16356416241026123871:=()
def tw8793088821564103414:=()
def tw4717657254023530850:=()
def tw6391598420146142055:=()
def tw7417751568254150357:=()
def tw530144359297316162:=()
def tw10743514485223983815:=()
def tw15388457326682397183:=()
def tw5742124256510154983:=()
def tw10158009125891878972:=()
def tw11813808252723625059:=()
def tw3044038348940848077:=()
def tw443293091329349936:=()
def tw4649454732968446332:=()
def tw6447008380819405012:=()
def tw10436204438358200151:=()
def tw5569015869607181574:=()
def tw6063008375156181314:=()
def tw11170483474721848651:=()
def tw2012170134564831046:=()
def tw5788181802091198622:=()
def tw11310759203245876091:=()
def tw378607097433566692:=()
def tw669015043447752328:=()
def tw3341389598201028420:=()
def tw8908940487986428526:=()
def tw15838000965957447122:=()
def tw5804042235309161687:=()
def tw7776351841514291085:=()
def tw16369782161280856963:=()
def tw7194204045458592171:=()
def tw7531067494811516495:=()
def tw11969784973632904436:=()
def tw1010273489881067388:=()
def tw13471527460772962323:=()
def tw16329506309157846071:=()
def tw6498191228169336665:=()
def tw13638945943571311986:=()
def tw10325610133973309067:=()
def tw7010917089389649272:=()
def tw6565326561920647368:=()
def tw3353188917181855754:=()
def tw15059049213643865765:=()
def tw17941625272852382286:=()
def tw130998428649710981:=()
def tw6964640634455031959:=()
def tw3277163669621593913:=()
def tw17794972299006543154:=()
def tw2571056111477258370:=()
def tw14369281837802400039:=()
def tw6372203717104036869:=()
def tw11396299563536894564:=()
def tw6902410382468566381:=()
def tw17253792674410755686:=()
def tw16742560913264922309:=()
def tw7190658890557118623:=()
def tw261711853411706568:=()
def tw2105455221405593001:=()
def tw10897692230136639642:=()
def tw3608694128783169061:=()
def tw15716004930641981767:=()
def tw4143565659810333601:=()
def tw17221095208124848228:=()
def tw2313675130674043207:=()
def tw3664433029816560100:=()
def tw17506540616641913106:=()
def tw14718855424414659947:=()
def tw16459796422034635080:=()
def tw11385786532712169873:=()
def tw18058348965047368746:=()
def tw13005839244527962362:=()
def tw9065422266361867391:=()
def tw10993902729521753362:=()
def tw17515814850594459629:=()
def tw11589200326517552397:=()
def tw10380390248317993853:=()
def tw12709538035155561035:=()
def tw3892073503170346099:=()
def tw3076849964949210562:=()
def tw4603659745653577041:=()
def tw2084808829517005232:=()
def tw13507335597539234150:=()
def tw12403791746863254947:=()
def tw12849121924333566147:=()
def tw17936526353446007942:=()
def tw11341212030957687553:=()
def tw3801737147531802821:=()
def tw1933829057144801896:=()
def tw18278599116263285651:=()
def tw3321737956444200697:=()
def tw7513095429649926555:=()
def tw13510259165034074691:=()
def tw2474641148114888070:=()
def tw18361167972260040282:=()
def tw79545991639864019:=()
def tw8817304790575995520:=()
def tw10120907912910137318:=()
def tw1950735790134656378:=()
def tw10106824177425414498:=()
def tw17181285260613472742:=()
def tw8926490426630009737:=()
def tw17970993589171651399:=()
def tw16661548823082171380:=()
def tw8240239059983749598:=()
def tw5333682977420801325:=()
def tw853227250744733150:=()
def tw18233627965122420485:=()
def tw1986893544932476672:=()
def tw17014794171146073052:=()
def tw17074789340544461906:=()
def tw3075214550057506996:=()
def tw7011071905615166917:=()
def tw2535032850663280985:=()
def tw13907415512362811053:=()
def tw13219529168869802499:=()
def tw14673959481525879895:=()
def tw2013231897860377082:=()
def tw7938710690959206235:=()
def tw15110194925536378888:=()
def tw525208257068818600:=()
def tw5334811370182781557:=()
def tw11515591569492779973:=()
def tw6684735905791758709:=()
def tw15353856303661300163:=()
def tw15320570684521673967:=()
def tw1193934701337903472:=()
def tw4867272339720570314:=()
def tw1996262904259435254:=()
def tw11437538875000374654:=()
def tw11278561458017933411:=()
def tw4072183819902381533:=()
def tw10279563388574867540:=()
def tw12630845435892387507:=()
def tw529762029187345766:=()
def tw3676578127021827020:=()
def tw12944314210361912627:=()
def tw11713434860842077482:=()
def tw8541567862228644454:=()
def tw16871752733083593269:=()
def tw11197423829256997341:=()
def tw3365903921659449096:=()
def tw4094805161334587041:=()
def tw14458702135187549242:=()
def tw9431431488018020557:=()
def tw8972843581729959375:=()
def tw17049375069944005271:=()
def tw7544950970980940034:=()
def tw19231119992587227:=()
def tw14991873343393706921:=()
def tw8456014845345099140:=()
def tw13350010896667320601:=()
def tw3282291035314759351:=()
def tw861424268286385404:=()
def tw1513607088505767175:=()
def tw14552510918146769893:=()
def tw10462397418595614573:=()
def tw912594174951277658:=()
def tw17761831714011567502:=()
def tw13496778854244481701:=()
def tw18249959991205700263:=()
def tw10627721357043869045:=()
def tw14718393322378316971:=()
def tw13875792055381680465:=()
def tw9383033779387547019:=()
def tw11420770875790901400:=()
def tw15337726950888372411:=()
def tw6794005000362526026:=()
def tw11907463877679662427:=()
def tw2362251247756396011:=()
def tw15972162023105962583:=()
def tw2562283591126700422:=()
def tw103708715485486146:=()
def tw15579062373273438606:=()
def tw5728249770002731730:=()
def tw13047522129511298466:=()
def tw16726532050773136667:=()
def tw4716847399796235534:=()
def tw1908084521301924341:=()
def tw18164737663502377293:=()
def tw13341083937865024443:=()
def tw13901908037570988176:=()
def tw7229373272972866157:=()
def tw11000523098617167119:=()
def tw12780363298464700014:=()
def tw17359087179434930824:=()
def tw17339052553364093156:=()
def tw3551947313058840033:=()
def tw10800387851385829344:=()
def tw17310450478362107260:=()
def tw14914150804538939205:=()
def tw12675091770407830098:=()
def tw11051570869600254610:=()
def tw8551652881331054375:=()
def tw3189690101465566984:=()
def tw13457318695205126310:=()
def tw1562831148529727390:=()
def tw5973236257864138273:=()
def tw8877508602028519745:=()
def tw3748720970473430302:=()
def tw14974233304480557916:=()
def tw18290471728248829157:=()
def tw6230381999386514361:=()
def tw12856572229055132347:=()
def tw14575551321480169812:=()
def tw2111052751889325429:=()
def tw17905245723334763618:=()
def tw16970033138776665055:=()
def tw16268020778093877977:=()
def tw9683517849198179161:=()
def tw14137892312019167977:=()
def tw1813088327166054483:=()
def tw5997851438833062588:=()
def tw12462777736670928899:=()
def tw4076793778267115787:=()
def tw8328206302572843879:=()
def tw14676405107676831941:=()
def tw15981279978848656974:=()
def tw10787665958341133757:=()
def tw14436070016108673822:=()
def tw8993127729347495429:=()
def tw1026819938231145981:=()
def tw7617320377809540507:=()
def tw7298766542202117143:=()
def tw9227152683480522794:=()
def tw17014221138856207852:=()
def tw11147205050913230820:=()
def tw6263495461365046667:=()
def tw9582785667686177322:=()
def tw16767995046364477604:=()
def tw14870248175980270332:=()
def tw2728796260946747360:=()
def tw5899167768386166852:=()
def tw275446129692201940:=()
def tw4430803966904481618:=()
def tw12769500843897418406:=()
def tw7259680305753264489:=()
def tw2267516516872458489:=()
def tw5188850216439071552:=()
def tw16087783787162120807:=()
def tw5314298710178979810:=()
def tw8900201788724195175:=()
def tw15147773754935470674:=()
def tw11312257606290074903:=()
def tw3253863812066852181:=()
def tw14782547832402711993:=()
def tw5331693508885209827:=()
def tw7763054911227199345:=()
def tw5440223465880433338:=()
def tw10851488058367502455:=()
def tw8423904392936447661:=()
def tw3221673602925931802:=()
def tw1191161091280800950:=()
def tw18044838211641184724:=()
def tw14558695396878436780:=()
def tw5064722030423682269:=()
def tw9356477897711806467:=()
def tw11868939784668578044:=()
def tw3168249434739790351:=()
def tw9455957071693669702:=()
def tw6874197449886025168:=()
def tw17193060678655491724:=()
def tw12548589903973790252:=()
def tw213535314937135722:=()
def tw11315704595425643591:=()
def tw255648879866652151:=()
def tw7212462993628865127:=()
def tw15312707540350681536:=()
def tw8405156673748131936:=()
def tw3942060859141645031:=()
def tw16148099038241187265:=()
def tw16228923706169690084:=()
def tw18446739916463544204:=()
def tw17018462190644549460:=()
def tw13303384030718958775:=()
def tw14674186932358231743:=()
def tw4274681077424583016:=()
def tw2177923487660566704:=()
def tw11517320083184421019:=()
def tw8408169978629681126:=()
def tw15345030860192238198:=()
def tw7704259751527397960:=()
def tw8917641150816363690:=()
def tw7186236516956753857:=()
def tw486168478745726037:=()
def tw15375137089526132362:=()
def tw2338086608465549558:=()
def tw12244756690483878586:=()
def tw12499499086596160716:=()
def tw17673318416079342450:=()
def tw6969976623563254578:=()
def tw12568467525692883924:=()
def tw5671125617740965016:=()
def tw548286027736041987:=()
def tw2192768510848723897:=()
def tw11244864226006365447:=()
def tw17344340641896553039:=()
def tw16966710446554058532:=()
def tw10953845246466481218:=()
def tw459644973845705600:=()
def tw8107008596531182570:=()
def tw11128538318481197777:=()
def tw12212901222208968989:=()
def tw17342006322435430467:=()
def tw6842403633582219994:=()
def tw13285840571223365741:=()
def tw11786189461641894734:=()
def tw16878609137454370192:=()
def tw15235074263119416539:=()
def tw11746249949762652472:=()
def tw16792391182428704895:=()
def tw14965634476697988283:=()
def tw14216424396548406287:=()
def tw6375197420226886545:=()
def tw8254793810593835107:=()
def tw10745780266322782125:=()
def tw1260863042502235395:=()
end PySem.W.Fast
open PySem PySem.W PyProof.Rows
set_option maxRecDepth 100000 in
set_option maxHeartbeats 0 in
theorem PySem.Challenge.cw_weirwatch_k24_stuck_gates_refused_holds : PySem.Challenge.rw_weirwatch_k24_stuck_gates_refused.Holds := by
 w_on;o_law;k_head;(case hw=>w_witness2)
 k_fill
 refine L2.walk_ofT (l:=PySem.Challenge.rw_weirwatch_k24_stuck_gates_refused) (n:=63) (k:=15) (x:="_law_script") (CX:=L2.CX0) rfl (by decide) rfl ⟨rfl,by decide,by decide,rfl⟩ (λw h Y=>PySem.W.km_in_of Y) ?K ?F ?C
 case K=>intro w;kernel_rfl
 case F=>
  intro w mg fa h KX G TB hmg;have T:∃a:K24.Ad,(∀(s:S6) (v:S5),BindsTo s a.d_law ⟨[v],[]⟩ [("_law_script",v)])/\K24.Tx (L2.KOf KX) mg a:=by
   have hh:=λaa ab ac ad ae af ag ah ai aj ak al am an ao ap aq ar au av aw ax ay az ba bb bc bd be bf bg bh bi bj bk bl bm bn bo bp bq br bs bt bu bv bw bx bz ca cb cc cd ce cf cg ch ci cj ck cl cm cn co cp cq cr cs ct cu cv cw cx cy cz da db dc dd de df dg dh di dj dk dl dm dn dp dq dr ds dt du dv dw dx dy dz ea eb ec ed ee ef eg eh ei ej ek el em en eo ep eq er es et eu ev ew ex ey ez fb fc fd fe ff fg fh fi fj fk fl fm fn fo fp fq fr fs ft fu fv fw fx fy fz ga gb gc gd ge gf gg gh gi gj gk gl gm gn go gp gq gr gs gt gu gv gw gx gy gz ha hb hc hd he hf hg hh hi hj hk hl hm hn ho hp hq=>@K24.Tx.mk (L2.KOf KX) mg ⟨aa,ab,ac,ad,ae,af,ag,ah,ai,aj,ak,al,am,an,ao,ap,aq,ar,au,av,aw,ax,ay,az,ba,bb,bc,bd,be,bf,bg,bh,bi,bj,bk,bl,bm,bn,bo,bp,bq,br,bs,bt,bu,bv,bw,bx,bz,ca,cb,cc,cd,ce,cf,cg,ch,ci,cj,ck,cl,cm,cn,co,cp,cq,cr,cs,ct,cu,cv,cw,cx,cy,cz,da,db,dc,dd,de,df,dg,dh,di,dj,dk,dl,dm,dn,dp,dq,dr,ds,dt,du,dv,dw,dx,dy,dz,ea,eb,ec,ed,ee,ef,eg,eh,ei,ej,ek,el,em,en,eo,ep,eq,er,es,et,eu,ev,ew,ex,ey,ez,fb,fc,fd,fe,ff,fg,fh,fi,fj,fk,fl,fm,fn,fo,fp,fq,fr,fs,ft,fu,fv,fw,fx,fy,fz,ga,gb,gc,gd,ge,gf,gg,gh,gi,gj,gk,gl,gm,gn,go,gp,gq,gr,gs,gt,gu,gv,gw,gx,gy,gz,ha,hb,hc,hd,he,hf,hg,hh,hi,hj,hk,hl,hm,hn,ho,hp,hq⟩;dsimp only [L2.KOf,L2.NoAttr] at hh⊢;apply Exists.intro;refine' ⟨?bb,?tx⟩
   case tx=>
    apply hh
    iterate 18 (refine' L2.ft_mk KX G ?a ?b ?c ?d ?e;(case a=>k_is);(case b=>k_is);(case c=>k_is);(case d=>k_is);(case e=>first|(intro _ _ _ _ _ _ u h;obtain ⟨_,rfl⟩:=L2.lv1 u h;rfl)|(intro _ _ _ _ _ _ u h;obtain ⟨_,_,rfl⟩:=L2.lv2 u h;rfl)|(intro _ _ _ _ _ _ u h;obtain ⟨_,_,_,rfl⟩:=L2.lv3 u h;rfl)|(intro _ _ _ _ _ _ u h;obtain ⟨_,_,_,_,rfl⟩:=L2.lv4 u h;rfl)|(intro _ _ _ _ _ _ u h;obtain ⟨_,_,_,_,_,rfl⟩:=L2.lv5 u h;rfl)|(intro _ _ _ _ _ _ u h;obtain ⟨_,_,_,_,_,_,_,rfl⟩:=L2.lv7 u h;rfl)))
    refine' L2.ftd_mk KX G ?a ?b ?c ?d ?e ?f ?g;(case a=>k_is);(case b=>k_is);(case c=>k_is);(case d=>k_is);(case e=>k_is);(case f=>rfl);(case g=>intro u h;obtain ⟨_,_,rfl⟩:=L2.lv2 u h;exact ⟨_,rfl,rfl⟩)
    iterate 29 (refine' L2.ft_mk KX G ?a ?b ?c ?d ?e;(case a=>k_is);(case b=>k_is);(case c=>k_is);(case d=>k_is);(case e=>first|(intro _ _ _ _ _ _ u h;obtain ⟨_,rfl⟩:=L2.lv1 u h;rfl)|(intro _ _ _ _ _ _ u h;obtain ⟨_,_,rfl⟩:=L2.lv2 u h;rfl)|(intro _ _ _ _ _ _ u h;obtain ⟨_,_,_,rfl⟩:=L2.lv3 u h;rfl)|(intro _ _ _ _ _ _ u h;obtain ⟨_,_,_,_,rfl⟩:=L2.lv4 u h;rfl)|(intro _ _ _ _ _ _ u h;obtain ⟨_,_,_,_,_,rfl⟩:=L2.lv5 u h;rfl)|(intro _ _ _ _ _ _ u h;obtain ⟨_,_,_,_,_,_,_,rfl⟩:=L2.lv7 u h;rfl)))
    iterate 12 (refine' PySem.W.mg_of KX G ?a;(case a=>k_is))
    iterate 18 (refine' PySem.W.mg_none_of KX G ?a;(case a=>k_is))
    iterate 22 (refine' PySem.W.mg_of KX G ?a;(case a=>k_is))
    iterate 32 (k_is)
    iterate 11 (refine' L2.fm_mk ?a ?b ?c ?d;(case a=>k_is);(case b=>k_is);(case c=>k_is);(case d=>first|(intro _ _ _ _ _ _ u h;obtain ⟨_,rfl⟩:=L2.lv1 u h;rfl)|(intro _ _ _ _ _ _ u h;obtain ⟨_,_,rfl⟩:=L2.lv2 u h;rfl)|(intro _ _ _ _ _ _ u h;obtain ⟨_,_,_,rfl⟩:=L2.lv3 u h;rfl)|(intro _ _ _ _ _ _ u h;obtain ⟨_,_,_,_,rfl⟩:=L2.lv4 u h;rfl)|(intro _ _ _ _ _ _ u h;obtain ⟨_,_,_,_,_,rfl⟩:=L2.lv5 u h;rfl)|(intro _ _ _ _ _ _ u h;obtain ⟨_,_,_,_,_,_,_,rfl⟩:=L2.lv7 u h;rfl)))
    refine' L2.fmd_mk ?a ?b ?c ?d ?e ?f;(case a=>k_is);(case b=>k_is);(case c=>k_is);(case d=>k_is);(case e=>rfl);(case f=>intro u h;obtain ⟨_,_,_,rfl⟩:=L2.lv3 u h;exact ⟨_,rfl,rfl⟩)
    iterate 19 (refine' L2.fm_mk ?a ?b ?c ?d;(case a=>k_is);(case b=>k_is);(case c=>k_is);(case d=>first|(intro _ _ _ _ _ _ u h;obtain ⟨_,rfl⟩:=L2.lv1 u h;rfl)|(intro _ _ _ _ _ _ u h;obtain ⟨_,_,rfl⟩:=L2.lv2 u h;rfl)|(intro _ _ _ _ _ _ u h;obtain ⟨_,_,_,rfl⟩:=L2.lv3 u h;rfl)|(intro _ _ _ _ _ _ u h;obtain ⟨_,_,_,_,rfl⟩:=L2.lv4 u h;rfl)|(intro _ _ _ _ _ _ u h;obtain ⟨_,_,_,_,_,rfl⟩:=L2.lv5 u h;rfl)|(intro _ _ _ _ _ _ u h;obtain ⟨_,_,_,_,_,_,_,rfl⟩:=L2.lv7 u h;rfl)))
    refine' L2.fmd_mk ?a ?b ?c ?d ?e ?f;(case a=>k_is);(case b=>k_is);(case c=>k_is);(case d=>k_is);(case e=>rfl);(case f=>intro u h;obtain ⟨_,_,_,rfl⟩:=L2.lv3 u h;exact ⟨_,rfl,rfl⟩)
    iterate 7 (refine' L2.xc_mk ?a ?b ?c;(case a=>k_is);(case b=>kernel_rfl);(case c=>kernel_rfl))
    refine' L2.ec_mk ?a ?b;(case a=>k_is);(case b=>k_is);refine' L2.xc_mk ?a ?b ?c;(case a=>k_is);(case b=>kernel_rfl);(case c=>kernel_rfl);refine' L2.ec_mk ?a ?b;(case a=>k_is);(case b=>k_is);refine' L2.xc_mk ?a ?b ?c;(case a=>k_is);(case b=>kernel_rfl);(case c=>kernel_rfl)
    iterate 41 (constructor <;> k_is)
    iterate 39 (k_is)
    iterate 20 (kernel_rfl)
   case bb=>exact λs v=>.of_eq rfl
  obtain ⟨a,b,T⟩:=T;have e:=hmg.symm.trans T.f_law.mgx;cases e;exact ⟨a.d_law,K24.spLaw (L2.KOf KX),[],b,(λ_ z=>by cases z),ycb,(λbase kb nb B=>K24.ok_law T),λH x ns hl ht hS=>⟨x,ns,rfl,hS,hl,λ_=>rfl⟩⟩
 case C=>exact λ_ _ _ _ z=>z
#print axioms PySem.Challenge.cw_weirwatch_k24_stuck_gates_refused_holds
